import PyProof.Rows.All
import Wide.All
import OpenK.AllK
import Wide.FinOn
import Lean
import PyProof.EqAt
import PyProof.EqKinds
import PyProof.TupleCall
import PySem.Challenge.RW_spinfloor_k12_texts_refused
open Array renaming toList_append → Cp, length_toList → Dn, toList_extract → DS, toList_push → El, toList_reverse → Ep, getElem?_toList → EM, perm_iff_toList_perm → EW, getElem?_eq_some_iff → EX, toList_inj → FO, toList_setIfInBounds → F2, size_setIfInBounds → F9
open Bool renaming false_ne_true → Cf, and_eq_true → CZ, false_eq_true → DC, not_eq_true' → DU, eq_iff_iff → Eg, eq_false_iff → FH
open Int renaming toNat_natCast → Cg, emod_lt_of_pos → CU, emod_nonneg → Df, zero_add → DE, le_of_lt → DF, toNat_of_nonneg → Ea, le_refl → Eb, natCast_nonneg → EG
open List renaming getElem?_eq_getElem → BA, getElem?_eq_some_iff → BB, length_map → BC, length_append → BE, mem_of_getElem? → BF, mem_cons → BG, getElem?_append_right → BH, getElem?_map → BJ, length_cons → BK, getElem?_append_left → BL, length_singleton → BM, mem_append → BN, mem_cons_of_mem → BO, mem_cons_self → BQ, mem_singleton → BR, length_take → BV, map_cons → BW, length_set → BZ, mem_append_right → B0, nodup_cons → B7, mem_map → B9, append_assoc → Ca, take_of_length_le → Cc, take_append_drop → Cj, size_toArray → Cm, map_append → Cn, length_drop → Cq, mem_iff_getElem? → Cr, not_mem_nil → Ct, take_add_one → Cv, nodup_append → Cw, range → Cz, mem_append_left → CD, perm_append_comm → CF, getElem?_set_self → CG, flatten_cons → CH, getElem?_set → CJ, cons_ne_nil → CL, mem_of_mem_take → CM, mem_flatten → CN, getElem_mem → CO, pairwise_append → CP, take_length → CQ, length_range → CS, mem_of_mem_drop → CV, getElem?_set_ne → C2, cons_append → Dg, map_map → Dj, mem_or_eq_of_mem_set → Dk, append_nil → Dl, mem_range → Dt, getElem?_take → Du, replicate → Dz, length_nil → DH, getD_eq_getElem?_getD → DJ, exists_cons_of_ne_nil → DL, all_eq_true → DN, map_set → DO, getElem?_drop → DP, drop_eq_getElem_cons → DQ, length_dropLast → DR, length_eq_zero_iff → DX, getElem?_replicate → DY, drop_drop → Ec, length_pos_of_mem → Ed, map_take → Eh, map_dropLast → Ei, map_drop → Ej, any_cons → Ek, take_take → Es, nodup_nil → Et, extract_eq_drop_take → Eu, lookup → EA, flatten_append → EB, find?_cons → EF, drop_zero → EI, drop_take → EJ, set_append_right → EL, getLast?_eq_some_getLast → EN, set_append_left → EO, take_add → ER, length → EV, idxOf_lt_length_iff → E5, getElem_take → E6, pairwise_singleton → Fb, getElem?_cons_succ → Fc, all_cons → Fd, drop_eq_nil_of_le → Ff, nil_append → Fj, map_nil → Fl, getElem?_eq_none → Fm, map_congr_left → Fp, getElem_of_mem → Fq, getElem?_range → Fs, filterMap_cons → Ft, set_cons_succ → Fv, pairwise_cons → Fw, mem_filterMap → Fx, contains_cons → Fy, getElem_drop → FD, ext_getElem? → FF, take_append_of_le_length → FL, drop_append → FN, map → FP, dropLast_concat_getLast → FQ, range_succ → FY, of_mem_zip → FZ, perm_ext_iff_of_nodup → F1, take_zero → F4, pairwise_iff_getElem → F5, getElem?_zip_eq_some → F6, flatten_eq_nil_iff → Gi
open List.Pairwise renaming nil → FG
open List.Perm renaming append_left → DB, refl → F7
open List.cons renaming inj → DZ
open Nat renaming le_refl → BI, lt_of_lt_of_le → Cb, sub_self → Ck, le_trans → Co, ne_of_lt → CA, zero_le → C4, min_eq_left → De, mod_lt → Dh, le_of_lt → Di, lt_trans → Dw, lt_irrefl → Dy, mod_eq_of_lt → DM, toDigits_of_lt_base → DW, mul_le_mul_right → Eo, lt_succ_self → Ex, le_succ → Ez, toDigits → EK, testBit_two_pow → ET, not_lt_zero → EU, lt_of_le_of_lt → EZ, testBit_or → E1, add_sub_cancel_left → E9, ne_of_gt → Fh, mod_self → Fi, lt_succ_of_lt → FC, sub_zero → FI, le_of_eq → FJ, testBit_two_pow_sub_one → FV, testBit → FW, div_le_self → FX
open Option renaming map_eq_some_iff → Cu, isSome → DV, isSome_iff_exists → EC, map_some → Fg
open Option.some renaming inj → Ci
open PySem renaming Spec → BY, mem_of_lookup → DG, frameOf → Fu
open PySem.F renaming plainAttrs_list → BS, type_list_append → Cd, slot_list_append → Ce, plainAttrs_str → CB, slot_str_split → C3, slot_str_join → Dr, type_str_join → DA, type_str_split → DI, type_list_pop → Ee, slot_list_pop → Ef, excBase_ValueError → Em, type_list_insert → E2, slot_list_insert → E3, args_str_split_2 → E4, entry_str_split → E8, slot_str_partition → F0, store_ValueError → F8, type_list_index → Ge, slot_list_index → Gg
open PySem.NumText renaming digitsVal → Gd
open PySem.Txt renaming split → CC
open PySem.W renaming Frag → BD, findIn → B8, nsIn → Cy, mg_none_of → CI, kitOne → CK, keepIn → CY, mroIn → Dc, kia_one → Dd, mg_of → Dm, hasDictIn → Dp, looks_findIn → Dv, emptyDict → Dx, fnOf → DD, instObj → DT, codeIn → Er, plainGet → Ew, hideAll_get → Ey, excIn → ED, callWith_K → EE, plainOver → EH, makesIn → ES, isFn → EY, Looks → E7, any_some → Fe, lookIn → Fn, looks_mroIn → Fo, specialIn → Fz, methodObj → FA, handedIn → FK, takesIn → FR, takerIn → FT, OpenLaw → FU, notCls → F3, clsIn → Gb
set_option Elab.async false
set_option linter.all false
set_option compiler.extract_closed false
set_option genSizeOf false
set_option maxRecDepth 100000
local macro_rules | `(tactic| omega) => `(tactic| first | assumption | lia | omega +splitDisjunctions)
local macro_rules | `(tactic| ac_rfl) => `(tactic| omega +splitDisjunctions)
local macro_rules | `(tactic| ac_nf) => `(tactic| exact ⟨rfl,rfl,rfl,by decide +kernel,rfl,by decide +kernel,by decide +kernel⟩)
local macro_rules | `(tactic| decide) => `(tactic| decide +kernel)
namespace L2
open PySem PySem.Spec PyProof.Rows
noncomputable abbrev Key:=Sum Int Str
noncomputable def sW:Key->Value->Bool
 |.inl k,v=>Value.isInt k v
 |.inr x,v=>Value.isStrOf x v
noncomputable def keyH(w:World):Key->Int
 |.inl k=>hashInt k
 |.inr x=>hashStr w x
theorem bM:∀{k:Key}{v:Value},sW k v=true->(∃ i t,k=Sum.inl i/\v=Value.int i t)∨(∃ x t,k=Sum.inr x/\v=Value.str x t)
 |.inl i,v,h=>by
  obtain⟨t,e⟩:=Value.isInt_shape (k:=i) (v:=v) h;exact .inl ⟨i,t,rfl,e⟩
 |.inr x,v,h=>by
  obtain⟨t,e⟩:=Value.isStrOf_shape (x:=x) (v:=v) h;exact .inr ⟨x,t,rfl,e⟩
theorem vS(i:Int)(t:Tok):sW (.inl i) (.int i t)=true:=by simp[sW,Value.isInt]
theorem vR(x:Str)(t:Tok):sW (.inr x) (.str x t)=true:=by simp[sW,Value.isStrOf]
theorem key_ll(a b:Int):decide ((Sum.inl a:Key)=Sum.inl b)=(a == b):=by
 by_cases e:a=b
 ·subst e;simp
 ·have h:¬ (Sum.inl a:Key)=Sum.inl b:=fun q=>e (Sum.inl.inj q)
  rw[decide_eq_false h];exact(beq_eq_false_iff_ne.mpr e).symm
theorem key_rr(a b:Str):decide ((Sum.inr a:Key)=Sum.inr b)=decide (a=b):=by
 by_cases e:a=b
 ·subst e;simp
 ·have h:¬ (Sum.inr a:Key)=Sum.inr b:=fun q=>e (Sum.inr.inj q)
  rw[decide_eq_false h,decide_eq_false e]
theorem key_lr(a:Int)(b:Str):decide ((Sum.inl a:Key)=Sum.inr b)=false:=decide_eq_false (fun q=>nomatch q)
theorem key_rl(a:Str)(b:Int):decide ((Sum.inr a:Key)=Sum.inl b)=false:=decide_eq_false (fun q=>nomatch q)
noncomputable def cT(prog:Program)(w:World):PySem.KeyKind prog w Key where
 is:=sW
 hash:=keyH w
 inj:=fun v a b ha hb=>by
  rcases bM ha with⟨i,t,rfl,rfl⟩ | ⟨x,t,rfl,rfl⟩
  ·rcases bM hb with⟨j,u,rfl,e⟩ | ⟨y,u,rfl,e⟩
   ·injection e with e1 _;rw[e1]
   ·exact nomatch e
  ·rcases bM hb with⟨j,u,rfl,e⟩ | ⟨y,u,rfl,e⟩
   ·exact nomatch e
   ·injection e with e1 _;rw[e1]
 byValue:=fun k v h=>by
  rcases bM h with⟨i,t,rfl,rfl⟩ | ⟨x,t,rfl,rfl⟩<;>rfl
 pyHash:=fun hv h=>by
  rcases bM hv with⟨i,t,rfl,rfl⟩ | ⟨x,t,rfl,rfl⟩
  ·exact wpAny_pyHash_int h
  ·exact wpAny_pyHash_str h
 eqBool:=fun hu hv h=>by
  rcases bM hu with⟨i,t,rfl,rfl⟩ | ⟨x,t,rfl,rfl⟩
  ·rcases bM hv with⟨j,u,rfl,rfl⟩ | ⟨y,u,rfl,rfl⟩
   ·rw[key_ll]at h;exact wpAny_eqBool_int h
   ·rw[key_lr]at h;exact SeqAt.EqAt.int_str i t y u _ _ _ _ h
  ·rcases bM hv with⟨j,u,rfl,rfl⟩ | ⟨y,u,rfl,rfl⟩
   ·rw[key_rl]at h;exact SeqAt.EqAt.str_int x t j u _ _ _ _ h
   ·rw[key_rr]at h;exact wpAny_eqBool_str h
 «strs»:=fun k x t v h=>by
  rcases bM h with⟨i,u,rfl,e⟩ | ⟨y,u,rfl,e⟩
  ·exact nomatch e
  ·injection e with e1 _;subst e1
   cases v<;>rfl
theorem pT(prog:Program)(w:World)(i:Int)(t:Tok):(cT prog w).is (.inl i) (.int i t)=true:=vS i t
theorem pS(prog:Program)(w:World)(x:Str)(t:Tok):(cT prog w).is (.inr x) (.str x t)=true:=vR x t
inductive V where
 |non | bl (b:Bool) | int (i:Int) | str (x:Str) | byt (b:Array UInt8) | flt (b:UInt64) | ref (a:Addr) | ty (n:String)
 deriving DecidableEq
noncomputable def RelV:V->Value->Prop
 |.non,u=>u=Value.none
 |.bl b,u=>u=Value.bool b
 |.int i,u=>∃ t,u=Value.int i t
 |.str x,u=>∃ t,u=Value.str x t
 |.byt b,u=>∃ t,u=Value.bytes b t
 |.flt b,u=>∃ t,u=Value.float b t
 |.ref a,u=>u=Value.ref a
 |.ty n,u=>u=Value.type n
noncomputable abbrev Vals:List V->List Value->Prop:=Paired RelV
theorem Vals.length{xs:List V}{us:List Value}(r:Vals xs us):xs.length=us.length:=Paired.length r
theorem Vals.get:∀{xs:List V}{us:List Value}{i:Nat}{x:V},Vals xs us->xs[i]?=some x->∃ u,us[i]?=some u/\RelV x u
 |_,_,_,_,.nil,e=>by simp at e
 |_,_,0,_,.cons r _,e=>by simp at e;subst e;exact⟨_,rfl,r⟩
 |_,_,i+1,x,.cons _ t,e=>by
  obtain⟨u,h1,h2⟩:=Vals.get (i:=i) (x:=x) t (by simpa using e)
  exact⟨u,by simpa using h1,h2⟩
theorem Vals.set{x:V}{u:Value}(r:RelV x u):∀{xs:List V}{us:List Value}(i:Nat),Vals xs us->Vals (xs.set i x) (us.set i u)
 |_,_,_,.nil=>.nil
 |_,_,0,.cons _ t=>.cons r t
 |_,_,i+1,.cons q t=>.cons q (Vals.set r i t)
theorem Vals.append:∀{xs ys:List V}{us ws:List Value},Vals xs us->Vals ys ws->Vals (xs++ys) (us++ws)
 |_,_,_,_,.nil,s=>s
 |_,_,_,_,.cons r t,s=>.cons r (Vals.append t s)
theorem Vals.take:∀{xs:List V}{us:List Value}(n:Nat),Vals xs us->Vals (xs.take n) (us.take n)
 |_,_,0,_=>.nil
 |_,_,_+1,.nil=>.nil
 |_,_,n+1,.cons r t=>.cons r (Vals.take n t)
theorem Vals.drop:∀{xs:List V}{us:List Value}(n:Nat),Vals xs us->Vals (xs.drop n) (us.drop n)
 |_,_,0,r=>r
 |_,_,_+1,.nil=>.nil
 |_,_,n+1,.cons _ t=>Vals.drop n t
noncomputable def RelO:Option V->Option Value->Prop
 |some v,some u=>RelV v u
 |none,none=>True
 |_,_=>False
noncomputable def KV{κ:Type}:List (κ×V)->List (κ×Value)->Prop:=Paired fun(p:κ×V) (q:κ×Value)=>p.1=q.1/\RelV p.2 q.2
noncomputable def kV:Key->V
 |.inl i=>.int i
 |.inr x=>.str x
inductive HO where
  |lst (xs:List V)
  |tup (xs:List V)
  |dK (kvs:List (Key×V)) | dT (kvs:List (List Key×V))
  |set (S:Int->Bool) (n:Nat)
  |ins (C dx:Addr) (fs:List (Str×V))
  |own (x:Addr)
  |xd (fs:List (Str×V))
  |met (f x:Addr)
  |rng (lo hi:Int)
  |frz (o:Obj) (u:HO)
  |tbl (ps:Array Value)
  |ext (φ:Heap->Prop)
noncomputable abbrev Hp:=Addr->Option HO
noncomputable def upd(H:Hp)(a:Addr)(o:HO):Hp:=fun b=>if b=a then some o else H b
theorem ae{H:Hp}{a:Addr}{o:HO}:upd H a o a=some o:=by unfold upd;rw[if_pos rfl]
theorem ar{H:Hp}{a b:Addr}{o:HO}(h:b≠a):upd H a o b=H b:=by unfold upd;rw[if_neg h]
theorem ne_of{H:Hp}{a b:Addr}{o u:HO}(h:H a=some o)(h':H b=some u)(d:o≠u):a≠b:=by
 intro e;subst e;rw[h]at h';exact d (Ci h')
theorem aV{H:Hp}{a b:Addr}{o:HO}(h:H a=some o)(h':H b=none):a≠b:=by
 intro e;subst e;rw[h]at h';cases h'
section
variable(P:Program)(w:World)
noncomputable def bH(H:Hp)(h:Heap)(a:Addr):HO->Prop
 |.lst xs=>xs.length<=sizeLine/\∃(its:List Value)(n:Nat),Vals xs its/\h.get? a=some { cls:=.type "list",data:=.seq its.toArray n }
 |.tup xs=>xs.length<=sizeLine/\∃ its:List Value,Vals xs its/\IsTup h a its.toArray
 |.dK kvs=>kvs.length<=sizeLine/\(a == sysModules)=false/\∃ vs,KV kvs vs/\h.DictOf (cT P w) a vs
 |.dT kvs=>kvs.length<=sizeLine/\(a == sysModules)=false/\∃ xs:List (List Key×Addr×Value),
   Paired (fun(p:List Key×V) (q:List Key×Addr×Value)=>p.1=q.1/\H q.2.1=some (.tup (p.1.map kV))/\RelV p.2 q.2.2) kvs xs /\
   ∃ o es ep,h.get? a=some o/\o.ExactDict/\o.data=.dict es ep/\es.toList=xs.map (entryOfKey (tupleKind (cT P w)))/\(xs.map (·.1)).Nodup
 |.set S n=>h.SetOf (intKind P w) a S n
 |.ins C dx fs=>H dx=some (.own a)/\fs.length<=1000/\dx≠a/\h.get? a=some (DT C dx) /\
   ∃ mA,h.Ns1 dx mA/\(∀ f,RelO (fs.lookup f) (mA f))/\PySem.Within mA (fs.map (·.1))
 |.own _=>∃ o,h.get? a=some o
 |.xd fs=>∃ mA,h.Ns1 a mA/\∀ f,RelO (fs.lookup f) (mA f)
 |.rng lo hi=>∃ t u v,h.get? a=some { cls:=.type "range",data:=.fields #[.int lo t,.int hi u,.int 1 v] }
 |.frz o u=>h.get? a=some o/\bH H h a u
 |.tbl ps=>h.get? a=some { cls:=.none,data:=.fields ps }
 |.met f x=>h.get? a=some (FA (.ref f) (.ref x))
 |.ext φ=>φ h/\(∃ o,h.get? a=some o)/\∀ h1 h2:Heap,φ h1->(∀ o,h1.get? a=some o->h2.get? a=some o)->φ h2
noncomputable def HOk(H:Hp)(h:Heap):Prop:=∀ a o,H a=some o->bH P w H h a o
end
section
variable{P:Program}{w:World}{H H':Hp}{h h':Heap}{a:Addr}{o:HO}
theorem bH.lt(x:bH P w H h a o):a<h.objs.size:=by
 cases o with
 |lst xs=>obtain⟨_,_,_,_,e⟩:=x;exact Heap.lt_size e
 |tup xs=>obtain⟨_,_,_,p⟩:=x;exact p.lt
 |dK kvs=>obtain⟨_,_,_,_,o,_,_,e,_⟩:=x;exact Heap.lt_size e
 |dT kvs=>obtain⟨_,_,_,_,o,_,_,e,_⟩:=x;exact Heap.lt_size e
 |set S n=>obtain⟨o,_,_,_,e,_⟩:=x;exact Heap.lt_size e
 |ins C dx fs=>obtain⟨_,_,_,e,_⟩:=x;exact Heap.lt_size e
 |own y=>obtain⟨_,e⟩:=x;exact Heap.lt_size e
 |xd fs=>obtain⟨_,⟨_,_,_,e,_⟩,_⟩:=x;exact Heap.lt_size e
 |rng lo hi=>obtain⟨_,_,_,e⟩:=x;exact Heap.lt_size e
 |frz ob u=>obtain⟨e,_⟩:=x;exact Heap.lt_size e
 |tbl ps=>exact Heap.lt_size (show h.get? a=some _ from x)
 |met f y=>exact Heap.lt_size (show h.get? a=some _ from x)
 |ext φ=>obtain⟨_,⟨_,e⟩,_⟩:=x;exact Heap.lt_size e
theorem Paired.mapP{α β:Type}{F G:α->β->Prop}:∀{l₁:List α}{l₂:List β},Paired F l₁ l₂->(∀ a b,F a b->G a b)->Paired G l₁ l₂
 |_,_,.nil,_=>.nil
 |_,_,.cons r t,f=>.cons (f _ _ r) (Paired.mapP t f)
theorem bH.stay(x:bH P w H h a o)(k:∀ b u,(b=a∨H b=some (.own a))->h.get? b=some u->h'.get? b=some u)
  (ho:∀ b,H b=some (.own a)->H' b=some (.own a)) (ht:∀ b xs,H b=some (.tup xs)->H' b=some (.tup xs)):bH P w H' h' a o:=by
 induction o with
 |lst xs=>obtain⟨z,its,n,r,e⟩:=x;exact⟨z,its,n,r,k _ _ (.inl rfl) e⟩
 |tup xs=>obtain⟨z,its,r,ob,e,c⟩:=x;exact⟨z,its,r,ob,k _ _ (.inl rfl) e,c⟩
 |dK kvs=>obtain⟨z,y,vs,r,ob,es,ep,e,c⟩:=x;exact⟨z,y,vs,r,ob,es,ep,k _ _ (.inl rfl) e,c⟩
 |dT kvs =>
  obtain⟨z,y,xs,r,ob,es,ep,e,c⟩:=x;exact⟨z,y,xs,Paired.mapP r fun p q z=>⟨z.1,ht _ _ z.2.1,z.2.2⟩,ob,es,ep,k _ _ (.inl rfl) e,c⟩
 |set S n=>obtain⟨ob,es,ep,t,e,c⟩:=x;exact⟨ob,es,ep,t,k _ _ (.inl rfl) e,c⟩
 |ins C dx fs =>
  obtain⟨d,z,ne,e,mA,⟨od,es,ep,e2,c⟩,r⟩:=x;exact⟨ho _ d,z,ne,k _ _ (.inl rfl) e,mA,⟨od,es,ep,k _ _ (.inr d) e2,c⟩,r⟩
 |own y=>obtain⟨ob,e⟩:=x;exact⟨ob,k _ _ (.inl rfl) e⟩
 |xd fs=>obtain⟨mA,⟨od,es,ep,e,c⟩,r⟩:=x;exact⟨mA,⟨od,es,ep,k _ _ (.inl rfl) e,c⟩,r⟩
 |rng lo hi=>obtain⟨t,u,v,e⟩:=x;exact⟨t,u,v,k _ _ (.inl rfl) e⟩
 |frz ob u ih=>obtain⟨e,q⟩:=x;exact⟨k _ _ (.inl rfl) e,ih q⟩
 |tbl ps =>
  have e:h.get? a=some { cls:=.none,data:=.fields ps }:=x;show h'.get? a=some { cls:=.none,data:=.fields ps };exact k a _ (.inl rfl) e
 |met f y =>
  have e:h.get? a=some (FA (.ref f) (.ref y)):=x;show h'.get? a=some (FA (.ref f) (.ref y));exact k a _ (.inl rfl) e
 |ext φ=>obtain⟨p,⟨o,e⟩,st⟩:=x;exact⟨st _ _ p fun o q=>k _ _ (.inl rfl) q,⟨o,k _ _ (.inl rfl) e⟩,st⟩
theorem HOk.lt(x:HOk P w H h)(e:H a=some o):a<h.objs.size:=(x a o e).lt
theorem HOk.fresh(x:HOk P w H h)(e:h.objs.size<=a):H a=none:=by
 cases q:H a with
 |none=>rfl
 |some u=>exact absurd (Cb (x.lt q) e) (Dy _)
theorem HOk.kept(x:HOk P w H h)(k:∀ b u,h.get? b=some u->h'.get? b=some u):HOk P w H h':=fun a o e =>
 (x a o e).stay (fun b u _ q=>k b u q) (fun _ q=>q) fun _ _ q=>q
theorem HOk.laid(x:HOk P w H h)(k:∀ b u,h.get? b=some u->h'.get? b=some u)(hp:h.objs.size<=a)(new:bH P w (upd H a o) h' a o):HOk P w (upd H a o) h':=fun b u e=>by
 have hn:=x.fresh hp;by_cases hb:b=a
 ·subst hb;rw[ae]at e;cases e;exact new
 ·rw[ar hb]at e;exact(x b u e).stay (fun c v _ q=>k c v q) (fun c q=>by rw[ar (aV q hn)];exact q) fun c xs q=>by rw[ar (aV q hn)];exact q
end
noncomputable def Rd(H:Hp)(a:Addr)(u:HO):Prop:=H a=some u∨∃ o,H a=some (.frz o u)
theorem Rd.ok{P:Program}{w:World}{H:Hp}{h:Heap}{a:Addr}{u:HO}(r:Rd H a u)(x:HOk P w H h):bH P w H h a u:=by
 rcases r with r | ⟨o,r⟩
 ·exact x a u r
 ·obtain⟨_,q⟩:=x a _ r;exact q
noncomputable def Mut:Option HO->Prop
 |some (.lst _)=>True
 |some (.dK _)=>True
 |some (.dT _)=>True
 |some (.set _ _)=>True
 |some (.ins _ _ _)=>True
 |some (.ext _)=>True
 |_=>False
section
variable{P:Program}{w:World}{H:Hp}{h h':Heap}{x e:Addr}{o':HO}
theorem HOk.write(ok:HOk P w H h)(mu:Mut (H x))(he:e=x∨H e=some (.own x))(k:∀ b u,b≠e->h.get? b=some u->h'.get? b=some u)(heo:∃ u,h'.get? e=some u)
  (new:bH P w (upd H x o') h' x o'):HOk P w (upd H x o') h':=fun b u q=>by
 have nown:∀ c y,H c=some (.own y)->c≠x:=fun c y r z=>by subst z;rw[r]at mu;exact mu
 have ntup:∀ c xs,H c=some (.tup xs)->c≠x:=fun c xs r z=>by subst z;rw[r]at mu;exact mu
 by_cases hb:b=x
 ·subst hb;rw[ae]at q;cases q;exact new
 ·rw[ar hb]at q;by_cases hbe:b=e
  ·have q':H b=some (.own x):=by
    rcases he with z | z
    ·exact absurd (hbe.trans z) hb
    ·rw[hbe];exact z
   rw[q]at q';cases q';obtain⟨v,hv⟩:=heo;exact⟨v,by rw[hbe];exact hv⟩
  ·refine(ok b u q).stay (fun c v hc r=>k c v ?_ r) (fun c r=>by rw[ar (nown c b r)];exact r) fun c xs r=>by rw[ar (ntup c xs r)];exact r
   rcases hc with rfl | hc
   ·exact hbe
   ·rintro rfl;rcases he with z | z
    ·exact nown c b hc z
    ·rw[hc]at z;cases z;exact hb rfl
end
structure Un(fs ex:List Addr)(H H':Hp)(h h':Heap):Prop where
 keep:∀ b o,h.get? b=some o->H b=none->b∉fs->b∉ex->h'.get? b=some o
 slot:∀ b o,h.get? b=some o->H b=none->b∈fs->b∉ex->∃ sl,h'.get? b=some { o with slots:=sl }
 free:∀ b o,h.get? b=some o->H b=none->b∉ex->H' b=none
 there:∀ b o,h.get? b=some o->b∉ex->∃ o',h'.get? b=some o'
 tups:∀ b xs,H b=some (.tup xs)->H' b=some (.tup xs)
 frzs:∀ b o u,H b=some (.frz o u)->H' b=some (.frz o u)
 tbls:∀ b ps,H b=some (.tbl ps)->∃ more,H' b=some (.tbl (ps++more))
section
variable{fs fs' ex ex':List Addr}{H H1 H2:Hp}{h h1 h2 h':Heap}{a x e:Addr}{o:HO}
theorem Un.any(u:Un fs ex H H1 h h1){b:Addr}{ob:Obj}(q:h.get? b=some ob)(n:H b=none)(hx:b∉ex):∃ sl,h1.get? b=some { ob with slots:=sl }:=by
 by_cases hb:b∈fs
 ·exact u.slot b ob q n hb hx
 ·exact⟨ob.slots,u.keep b ob q n hb hx⟩
theorem Un.kept(k:∀ b u,h.get? b=some u->h'.get? b=some u):Un fs ex H H h h' :=
 ⟨fun b ob q _ _ _=>k b ob q,fun b ob q _ _ _=>⟨ob.slots,k b ob q⟩,fun _ _ _ n _=>n,fun b ob q _=>⟨ob,k b ob q⟩,fun _ _ q=>q,fun _ _ _ q=>q,fun _ ps q=>⟨#[],by rw[q];simp⟩⟩
theorem Un.refl:Un fs ex H H h h:=Un.kept fun _ _ q=>q
theorem Un.laid(k:∀ b u,h.get? b=some u->h'.get? b=some u)(hp:h.objs.size<=a)(hn:H a=none):Un fs ex H (upd H a o) h h' where
 keep:=fun b u q _ _ _=>k b u q
 slot:=fun b u q _ _ _=>⟨u.slots,k b u q⟩
 free:=fun b u q n _=>by rw[ar (CA (Cb (Heap.lt_size q) hp))];exact n
 there:=fun b u q _=>⟨u,k b u q⟩
 tups:=fun b xs q=>by rw[ar (aV q hn)];exact q
 frzs:=fun b u xs q=>by rw[ar (aV q hn)];exact q
 tbls:=fun b ps q=>⟨#[],by rw[ar (aV q hn),q];simp⟩
theorem Un.write(mu:Mut (H x))(he:e=x∨H e=some (.own x))(k:∀ b u,b≠e->h.get? b=some u->h'.get? b=some u)(heo:∃ u,h'.get? e=some u):Un fs ex H (upd H x o) h h':=by
 have hx:∀ b,H b=none->b≠x:=fun b n z=>by subst z;rw[n]at mu;exact mu
 have hb:∀ b,H b=none->b≠e:=fun b n z=>by
  subst z;rcases he with r | r
  ·exact hx b n r
  ·rw[n]at r;cases r
 have hm:∀ b u,H b=some u->¬ Mut (some u)->b≠x:=fun b u q nm z=>by subst z;rw[q]at mu;exact nm mu
 refine⟨fun b u q n _ _=>k b u (hb b n) q,fun b u q n _ _=>⟨u.slots,k b u (hb b n) q⟩,fun b u q n _=>by rw[ar (hx b n)];exact n,fun b u q _=>?_,
  fun b xs q=>by rw[ar (hm b _ q fun z=>z)];exact q,fun b u xs q=>by rw[ar (hm b _ q fun z=>z)];exact q,fun b ps q=>⟨#[],by rw[ar (hm b _ q fun z=>z),q];simp⟩⟩
 by_cases hbe:b=e
 ·subst hbe;exact heo
 ·exact⟨u,k b u hbe q⟩
end
noncomputable def trk(h:Heap)(H:Hp):List Addr:=(Cz h.objs.size).filter fun a=>(H a).isSome
noncomputable def hidT(h:Heap)(H:Hp):Heap:=PySem.W.hideAll h (trk h H)
theorem wm(h:Heap)(H:Hp):(hidT h H).objs.size=h.objs.size:=PySem.W.hideAll_size _ _
theorem yw{h:Heap}{H:Hp}{b:Addr}{o:Obj}(e:h.get? b=some o)(n:H b=none):(hidT h H).get? b=some o :=
 Ey _ e fun hm=>by
  have q:(H b).isSome=true:=(List.mem_filter.mp hm).2;rw[n]at q;simp at q
theorem AO{h:Heap}{H:Hp}{b:Addr}{o:Obj}(e:(hidT h H).get? b=some o):h.get? b=some o/\H b=none:=by
 have e':h.get? b=some o:=PySem.W.of_hideAll (trk h H) e;refine⟨e',?_⟩
 cases q:H b with
 |none=>rfl
 |some x =>
  have hm:b∈trk h H:=List.mem_filter.mpr ⟨Dt.mpr (Heap.lt_size e'),by simp[q]⟩
  have z:(hidT h H).get? b=none:=PySem.W.hideAll_none (trk h H) hm;rw[z]at e;cases e
structure Mod(K:BD)(mg:Str->Option Value)(base:Heap):Prop where
 kin:K.In base
 glob:base.Ns mainGlobals mg
 blt:∃ mb,base.Ns builtinsNs mb/\∀ x:Str,x≠"__name__"->mb x=bootBuiltins x
 nolimit:base.NoLimit
set_option genInjectivity false in
structure Cx where
 prog:Program
 w:World
 K:BD
 mg:Str->Option Value
 base:Heap
 A:Around
 N:List Str
 s₀:Shared
 H₀:Hp
 env:Env
 outer:List Env
 stack:List Env
 ex:List Addr
 fn:Str->Bool
 calm:Bool
 pn:List (Addr×Obj)
 xe:Value->Shared->Prop
noncomputable def frs(l:List Env):List Addr:=l.filterMap (·.frame)
noncomputable abbrev Cx.fs(X:Cx):List Addr:=frs X.outer
noncomputable def Vis(sc:Scope)(x:Str):Prop:=sc.names.lookup x=some .local∨sc.names.lookup x=some .cell∨sc.names.lookup x=some .free
noncomputable def Loc(sc:Scope)(x:Str):Prop:=sc.names.lookup x=some .local∨sc.names.lookup x=some .cell
noncomputable def Look(env:Env)(h:Heap)(m:Str->Option Value)(x:Str)(u:Value):Prop :=
 (env.kindOf x=some .local/\m x=some u)∨((env.kindOf x=some .cell∨env.kindOf x=some .free)/\∃ c,env.cells.lookup x=some c/\h.IsCell c (some u))
structure Cx.Ok(X:Cx):Prop where
 mod:Mod X.K X.mg X.base
 kind:X.env.scope.kind=.function
 glob:X.env.globals=mainGlobals
 blt:X.env.builtins=builtinsNs
 above:X.s₀.heap.objs.size<=X.env.locals
 inj:∀ x y c,X.env.cells.lookup x=some c->X.env.cells.lookup y=some c->x=y
 has:∀ x,(X.env.kindOf x=some .cell∨X.env.kindOf x=some .free)->∃ c,X.env.cells.lookup x=some c
 cab:∀ x c,X.fn x=true->X.env.cells.lookup x=some c->X.s₀.heap.objs.size<=c
 hd:X.calm=true->X.A.handled=none
 frames:X.A.frames=some X.stack
 stk:X.stack=X.outer∨(X.stack=X.env::X.outer/\X.env.frame=some X.env.locals)
 exf:∀ b∈X.ex,b≠X.env.locals/\∀ x c,X.env.cells.lookup x=some c->c≠b
 bs:∀ b o,X.base.get? b=some o->X.s₀.heap.get? b=some o/\X.H₀ b=none
 bsz:X.base.objs.size<=X.s₀.heap.objs.size
 noex:∀ b o,X.base.get? b=some o->b∉X.ex
 exfs:∀ b∈X.ex,b∉X.fs
 funs:X.s₀.heap.FunFrames X.base X.outer
 frf:∀ b∈X.fs,X.H₀ b=none
structure Inv(X:Cx)(pins:List (Addr×Obj))(σ:List (Option V))(H:Hp)(s:Shared):Prop where
 ok:X.Ok
 os:s.os=X.s₀.os
 bare:AllBare s.gens
 base:Un X.fs X.ex X.H₀ H X.s₀.heap s.heap
 loc:∃ m,s.heap.Ns X.env.locals m/\∀(i:Nat)(x:Str)(v:V),X.N[i]?=some x->σ[i]?=some (some v)->Vis X.env.scope x->∃ u,RelV v u/\Look X.env s.heap m x u
 cell:∀ x c,X.env.cells.lookup x=some c->∃ v,s.heap.IsCell c v
 free:H X.env.locals=none
 freeC:∀ x c,X.env.cells.lookup x=some c->H c=none
 pin:∀ p∈X.pn++pins,s.heap.get? p.1=some p.2/\H p.1=none/\p.1≠X.env.locals/\p.1∉X.fs/\∀ v,p.2.data≠.cell v
 hok:HOk X.prog X.w H s.heap
 len:σ.length=X.N.length
section
variable{X:Cx}{pins:List (Addr×Obj)}{σ:List (Option V)}{H H':Hp}{s:Shared}{h':Heap}
theorem Cx.Ok.nofr(ok:X.Ok){b:Addr}{o:Obj}(e:X.base.get? b=some o):b∉X.fs:=fun hb=>by
 have:=(ok.funs.mem hb).1;rw[e]at this;cases this
theorem Inv.bs(I:Inv X pins σ H s):∀ b o,X.base.get? b=some o->s.heap.get? b=some o/\H b=none:=fun b o e =>
 ⟨I.base.keep b o (I.ok.bs b o e).1 (I.ok.bs b o e).2 (I.ok.nofr e) (I.ok.noex b o e),I.base.free b o (I.ok.bs b o e).1 (I.ok.bs b o e).2 (I.ok.noex b o e)⟩
theorem Inv.bk(I:Inv X pins σ H s):∀ b o,X.base.get? b=some o->s.heap.get? b=some o:=fun b o e=>(I.bs b o e).1
theorem Inv.mod(I:Inv X pins σ H s):Mod X.K X.mg X.base:=I.ok.mod
theorem Inv.kIn(I:Inv X pins σ H s):X.K.In s.heap:=I.ok.mod.kin.keeps I.bk
theorem Inv.lt(I:Inv X pins σ H s):X.env.locals<s.heap.objs.size:=let ⟨_,hn,_⟩:=I.loc;hn.lt
theorem Inv.sz(I:Inv X pins σ H s):X.s₀.heap.objs.size<=s.heap.objs.size:=Co I.ok.above (Di I.lt)
theorem Inv.nofs(I:Inv X pins σ H s){a:Addr}(h:s.heap.objs.size<=a):a∉X.fs:=fun hb=>by
 obtain⟨_,o,ho,_⟩:=I.ok.funs.mem hb;exact absurd (Cb (Heap.lt_size ho) (Co I.sz h)) (Dy _)
theorem Inv.cne(I:Inv X pins σ H s):∀ x c,X.env.cells.lookup x=some c->c≠X.env.locals:=fun x c e z=>by
 obtain⟨v,o,ho,hd⟩:=I.cell x c e;obtain⟨m,⟨o',es,ep,ho',hd',_⟩,_⟩:=I.loc;rw[z,ho']at ho;cases ho;rw[hd']at hd;cases hd
theorem Inv.funs(I:Inv X pins σ H s):s.heap.FunFrames X.base X.outer:=by
 have all:∀(l:List Env),(∀ b∈frs l,b∈X.fs)->X.s₀.heap.FunFrames X.base l->s.heap.FunFrames X.base l:=by
  intro l;induction l with
  |nil=>intro _ _;trivial
  |cons env r ih =>
   intro hs hl;obtain⟨hk,⟨L,o,hf,hn,ho,hd⟩,hr⟩:=hl;have hL:L∈X.fs:=hs L (by unfold frs;rw[Ft,hf];exact BQ)
   obtain⟨sl,e⟩:=I.base.slot L o ho (I.ok.frf L hL) hL fun z=>I.ok.exfs L z hL;exact⟨hk,⟨L,_,hf,hn,e,hd⟩,ih (fun b hb=>hs b (by unfold frs;rw[Ft,hf];exact BO _ hb)) hr⟩
 exact all X.outer (fun _ hb=>hb) I.ok.funs
theorem Inv.stack(I:Inv X pins σ H s):s.heap.FunFrames X.base X.stack:=by
 rcases I.ok.stk with e | ⟨e,hf⟩
 ·rw[e];exact I.funs
 ·rw[e];obtain⟨m,hn,_⟩:=I.loc;refine .cons (by rw[I.ok.kind];decide) hf hn ?_ I.funs
  exact Heap.get?_none_of_le (Co I.ok.bsz I.ok.above)
theorem Inv.stkSub(I:Inv X pins σ H s):∀ b∈frs X.stack,b∈X.env.locals::X.fs:=fun b hb=>by
 rcases I.ok.stk with e | ⟨e,hf⟩
 ·rw[e]at hb;exact BO _ hb
 ·rw[e]at hb;unfold frs at hb;rw[Ft,hf]at hb;exact hb
theorem Inv.stkFree(I:Inv X pins σ H s):∀ b∈frs X.stack,H b=none:=fun b hb=>by
 rcases BG.mp (I.stkSub b hb)with e | hb
 ·rw[e];exact I.free
 ·obtain⟨_,o,ho,_⟩:=I.ok.funs.mem hb;exact I.base.free b o ho (I.ok.frf b hb) fun z=>I.ok.exfs b z hb
theorem Inv.step{g':Array GenState}{t':Nat}{d':Drawn}{ch:List Addr}(I:Inv X pins σ H s)
  (hch:∀ b∈ch,(b∈X.ex∨X.s₀.heap.objs.size<=b)/\b≠X.env.locals/\(∀ x c,X.env.cells.lookup x=some c->c≠b)/\∀ p∈X.pn++pins,p.1≠b)
  (keep:∀ b o,b≠X.env.locals->b∉X.fs->b∉ch->s.heap.get? b=some o->H b=none->h'.get? b=some o)
  (slot:∀ b o,b≠X.env.locals->b∈X.fs->b∉ch->s.heap.get? b=some o->H b=none->∃ sl,h'.get? b=some { o with slots:=sl }) (free:∀ b o,b∉ch->s.heap.get? b=some o->H b=none->H' b=none)
  (there:∀ b o,b∉ch->s.heap.get? b=some o->∃ o',h'.get? b=some o')
  (tups:∀ b xs,H b=some (.tup xs)->H' b=some (.tup xs)) (frzs:∀ b o u,H b=some (.frz o u)->H' b=some (.frz o u)) (tbls:∀ b ps,H b=some (.tbl ps)->∃ more,H' b=some (.tbl (ps++more)))
  (ns:∀ m,s.heap.Ns X.env.locals m->h'.Ns X.env.locals m) (hok:HOk X.prog X.w H' h') (hg:AllBare g') :
  Inv X pins σ H' { s with heap:=h',gens:=g',drawn:=d',toks:=t' }:=by
 have neL:∀ b o,X.s₀.heap.get? b=some o->b≠X.env.locals:=fun b o e=>CA (Cb (Heap.lt_size e) I.ok.above);have neC:∀ b o,X.s₀.heap.get? b=some o->b∉X.ex->b∉ch:=fun b o e hx hb=>by
  rcases(hch b hb).1 with z | z
  ·exact hx z
  ·exact absurd (Cb (Heap.lt_size e) z) (Dy _)
 have cellK:∀ x c,X.env.cells.lookup x=some c->∀ v,s.heap.IsCell c v->h'.IsCell c v:=fun x c e v ⟨o,ho,hd⟩=>by
  have nch:c∉ch:=fun z=>(hch c z).2.2.1 x c e rfl;by_cases hc:c∈X.fs
  ·obtain⟨sl,q⟩:=slot c o (I.cne x c e) hc nch ho (I.freeC x c e);exact⟨_,q,hd⟩
  ·exact⟨o,keep c o (I.cne x c e) hc nch ho (I.freeC x c e),hd⟩
 refine⟨I.ok,I.os,hg,⟨fun b o e n hb hx=>?_,fun b o e n hb hx=>?_,fun b o e n hx=>?_,fun b o e hx=>?_,fun b xs e=>tups b xs (I.base.tups b xs e),fun b o xs e=>frzs b o xs (I.base.frzs b o xs e),fun b ps e=>?_⟩,?_,fun x c e=>?_,?_,fun x c e=>?_,fun p hp=>?_,hok,I.len⟩
 ·exact keep b o (neL b o e) hb (neC b o e hx) (I.base.keep b o e n hb hx) (I.base.free b o e n hx)
 ·obtain⟨sl,e1⟩:=I.base.slot b o e n hb hx;obtain⟨sl',e2⟩:=slot b _ (neL b o e) hb (neC b o e hx) e1 (I.base.free b o e n hx);exact⟨sl',e2⟩
 ·obtain⟨o',e1⟩:=I.base.there b o e hx;exact free b o' (neC b o e hx) e1 (I.base.free b o e n hx)
 ·obtain⟨o',e1⟩:=I.base.there b o e hx;exact there b o' (neC b o e hx) e1
 ·obtain⟨m1,e1⟩:=I.base.tbls b ps e;obtain⟨m2,e2⟩:=tbls b _ e1;exact⟨m1++m2,by rw[e2,Array.append_assoc]⟩
 ·obtain⟨m,hn,hl⟩:=I.loc;refine⟨m,ns m hn,fun i x v e1 e2 e3=>?_⟩;obtain⟨u,r,l⟩:=hl i x v e1 e2 e3;refine⟨u,r,?_⟩;rcases l with l | ⟨k,c,e,z⟩
  ·exact .inl l
  ·exact .inr ⟨k,c,e,cellK x c e _ z⟩
 ·obtain⟨v,z⟩:=I.cell x c e;exact⟨v,cellK x c e v z⟩
 ·obtain⟨m,⟨o,_,_,ho,_⟩,_⟩:=I.loc;exact free _ o (fun z=>(hch _ z).2.1 rfl) ho I.free
 ·obtain⟨v,o,ho,hd⟩:=I.cell x c e;exact free c o (fun z=>(hch c z).2.2.1 x c e rfl) ho (I.freeC x c e)
 ·obtain⟨e,n,ne,nf,d⟩:=I.pin p hp;have nch:p.1∉ch:=fun z=>(hch p.1 z).2.2.2 p hp rfl;exact⟨keep p.1 p.2 ne nf nch e n,free p.1 p.2 nch e n,ne,nf,d⟩
theorem Inv.un{t':Nat}(I:Inv X pins σ H s)(u:Un X.fs [] H H' s.heap h')(hok:HOk X.prog X.w H' h'):Inv X pins σ H' { s with heap:=h',toks:=t' }:=by
 obtain⟨m,⟨o,es,ep,ho,r⟩,_⟩:=id I.loc;obtain⟨sl,hL⟩:=u.any ho I.free (by simp)
 exact I.step (g':=s.gens) (d':=s.drawn) (ch:=[]) (fun _ z=>nomatch z) (fun b o _ hb _ e n=>u.keep b o e n hb (by simp)) (fun b o _ hb _ e n=>u.slot b o e n hb (by simp)) (fun b o _ e n=>u.free b o e n (by simp)) (fun b o _ e=>u.there b o e (by simp)) u.tups u.frzs u.tbls (fun m' hm=>by
  obtain⟨o',es',ep',ho',r'⟩:=hm;rw[ho]at ho';cases ho'
  exact⟨_,es',ep',hL,r'⟩) hok I.bare
theorem Inv.call{g':Array GenState}{t':Nat}{d':Drawn}{ch:List Addr}(I:Inv X pins σ H s)(u:Un (frs X.stack) ch H H' s.heap h')(hok:HOk X.prog X.w H' h')(hg:AllBare g')
  (hch:∀ b∈ch,(b∈X.ex∨X.s₀.heap.objs.size<=b)/\b≠X.env.locals/\(∀ x c,X.env.cells.lookup x=some c->c≠b)/\∀ p∈X.pn++pins,p.1≠b) :
  Inv X pins σ H' { s with heap:=h',gens:=g',drawn:=d',toks:=t' }:=by
 obtain⟨m,⟨o,es,ep,ho,r⟩,_⟩:=id I.loc;obtain⟨sl,hL⟩:=u.any ho I.free fun z=>(hch _ z).2.1 rfl
 exact I.step (ch:=ch) hch (fun b o hL hb hc e n=>u.keep b o e n (fun z=>(BG.mp (I.stkSub b z)).elim hL hb) hc) (fun b o _ _ hc e n=>u.any e n hc) (fun b o hc e n=>u.free b o e n hc) (fun b o hc e=>u.there b o e hc) u.tups u.frzs u.tbls (fun m' hm=>by
  obtain⟨o',es',ep',ho',r'⟩:=hm;rw[ho]at ho';cases ho'
  exact⟨_,es',ep',hL,r'⟩) hok hg
theorem Inv.turned{t':Nat}{it:Addr}(I:Inv X pins σ H s)(k:∀ b o,b≠it->s.heap.get? b=some o->h'.get? b=some o)(hn:H it=none)(hL:it≠X.env.locals)
  (h1:it∈X.ex∨X.s₀.heap.objs.size<=it) (h2:∀ x c,X.env.cells.lookup x=some c->c≠it) (h3:∀ p∈X.pn++pins,p.1≠it):Inv X pins σ H { s with heap:=h',toks:=t' }:=by
 have nit:∀ b u,H b=some u->b≠it:=fun b u e z=>by rw[z,hn]at e;cases e
 refine I.step (g':=s.gens) (d':=s.drawn) (ch:=[it]) (fun b hb=>?_) (fun b o _ _ hc e _=>k b o (fun z=>hc (by simp[z])) e) (fun b o _ _ hc e _=>⟨o.slots,k b o (fun z=>hc (by simp[z])) e⟩) (fun _ _ _ _ n=>n)
  (fun b o hc e=>⟨o,k b o (fun z=>hc (by simp[z])) e⟩) (fun _ _ e=>e) (fun _ _ _ e=>e) (fun b ps e=>⟨#[],by rw[e];simp⟩) (fun m hm=>?_) (fun b u e=>?_) I.bare
 ·have e:b=it:=by simpa using hb
  subst e;exact⟨h1,hL,h2,h3⟩
 ·obtain⟨o,es,ep,ho,r⟩:=hm;exact⟨o,es,ep,k _ o (Ne.symm hL) ho,r⟩
 ·refine(I.hok b u e).stay (fun c v hc q=>k c v ?_ q) (fun _ q=>q) fun _ _ q=>q;rcases hc with z | z
  ·rw[z];exact nit b u e
  ·exact nit c _ z
theorem Inv.tok(I:Inv X pins σ H s)(t:Nat):Inv X pins σ H { s with toks:=t }:=I.un (h':=s.heap) (t':=t) Un.refl I.hok
theorem Inv.kept{t':Nat}(I:Inv X pins σ H s)(k:∀ b u,s.heap.get? b=some u->h'.get? b=some u):Inv X pins σ H { s with heap:=h',toks:=t' }:=I.un (Un.kept k) (I.hok.kept k)
theorem Inv.laid{a:Addr}{o:HO}{t':Nat}(I:Inv X pins σ H s)(k:∀ b u,s.heap.get? b=some u->h'.get? b=some u)(hp:s.heap.objs.size<=a)(new:bH X.prog X.w (upd H a o) h' a o) :
  Inv X pins σ (upd H a o) { s with heap:=h',toks:=t' }:=I.un (Un.laid k hp (I.hok.fresh hp)) (I.hok.laid k hp new)
theorem Inv.write{x e:Addr}{o:HO}{t':Nat}(I:Inv X pins σ H s)(mu:Mut (H x))(he:e=x∨H e=some (.own x))(k:∀ b u,b≠e->s.heap.get? b=some u->h'.get? b=some u)(heo:∃ u,h'.get? e=some u)
  (new:bH X.prog X.w (upd H x o) h' x o):Inv X pins σ (upd H x o) { s with heap:=h',toks:=t' }:=I.un (Un.write mu he k heo) (I.hok.write mu he k heo new)
theorem Inv.weak{σ':List (Option V)}(I:Inv X pins σ H s)(hl:σ'.length=σ.length)(w:∀ (i:Nat) v,σ'[i]?=some (some v)->σ[i]?=some (some v)):Inv X pins σ' H s :=
 ⟨I.ok,I.os,I.bare,I.base,let ⟨m,hn,hl'⟩:=I.loc;⟨m,hn,fun i x v e1 e2 e3=>hl' i x v e1 (w i v e2) e3⟩,I.cell,I.free,I.freeC,I.pin,I.hok,hl.trans I.len⟩
theorem Inv.pins_of{pins':List (Addr×Obj)}(I:Inv X pins σ H s)(h:∀ p∈pins',s.heap.get? p.1=some p.2/\H p.1=none/\p.1≠X.env.locals/\p.1∉X.fs/\∀ v,p.2.data≠.cell v):Inv X pins' σ H s :=
 ⟨I.ok,I.os,I.bare,I.base,I.loc,I.cell,I.free,I.freeC,fun p hp=>(BN.mp hp).elim (fun z=>I.pin p (CD _ z)) (h p),I.hok,I.len⟩
theorem mv{N:List Str}(hN:N.Nodup){i j:Nat}{x:Str}(a:N[i]?=some x)(b:N[j]?=some x):i=j:=by
 obtain⟨h1,e1⟩:=BB.mp a;obtain⟨h2,e2⟩:=BB.mp b;exact(List.getElem_inj hN).mp (e1.trans e2.symm)
theorem uA{M:Model}{A:Around}{E:Value->Shared->Prop}{i:Nat}{x:Str}{v:V}{u:Value}{Q:Unit->Shared->Prop}(I:Inv X pins σ H s)(hN:X.N.Nodup)(hi:X.N[i]?=some x)(hx:Loc X.env.scope x)(r:RelV v u)
  (h:∀ s',Inv X pins (σ.set i (some v)) H s'->(∃ a,Heap.SameBut a s.heap s'.heap/\(a=X.env.locals∨X.env.cells.lookup x=some a))->Q () s') (hf:X.fn x=true∨X.env.scope.names.lookup x=some .local:=by first | exact .inl rfl | exact .inr rfl | assumption):wpAny M A (storeName X.env x u) Q E s:=by
 obtain⟨m,hn,hl⟩:=id I.loc;have hcls:(X.env.scope.kind == .class||(X.env.scope.kind == .module&&X.env.locals != X.env.globals))=false:=by rw[I.ok.kind];rfl
 have hiσ:i<σ.length:=by rw[I.len];exact(BB.mp hi).1
 have cne:=I.cne;have tracked:∀{a:Addr}{h':Heap},(∃ o,s.heap.get? a=some o/\H a=none)->Heap.SameBut a s.heap h'->HOk X.prog X.w H h':=fun{a h'} ha hs b ob e=>by
  obtain⟨_,_,hfree⟩:=ha;refine(I.hok b ob e).stay (fun c w' hc q=>(hs.2 c ?_).trans q) (fun _ q=>q) fun _ _ q=>q;rintro rfl;rcases hc with rfl | hc
  ·rw[hfree]at e;cases e
  ·rw[hfree]at hc;cases hc
 rcases hx with hk | hk
 ·refine wpAny_storeName_local hk hn (fun h' hn' hs=>?_) hcls;obtain⟨oL,_,_,hoL,_⟩:=id hn;refine h _ ⟨I.ok,I.os,I.bare,⟨fun b o e n hb hx=>?_,fun b o e n hb hx=>?_,I.base.free,fun b o e hx=>?_,I.base.tups,I.base.frzs,I.base.tbls⟩,⟨_,hn',fun j y v' e1 e2 e3=>?_⟩,fun y c e=>?_,I.free,I.freeC,fun p hp=>?_,tracked ⟨oL,hoL,I.free⟩ hs,by simpa using I.len⟩ ⟨_,hs,.inl rfl⟩
  ·exact(hs.2 b (CA (Cb (Heap.lt_size e) I.ok.above))).trans (I.base.keep b o e n hb hx)
  ·obtain⟨sl,e1⟩:=I.base.slot b o e n hb hx;exact⟨sl,(hs.2 b (CA (Cb (Heap.lt_size e) I.ok.above))).trans e1⟩
  ·obtain⟨o',e1⟩:=I.base.there b o e hx;exact⟨o',(hs.2 b (CA (Cb (Heap.lt_size e) I.ok.above))).trans e1⟩
  ·by_cases hj:j=i
   ·subst hj;rw[hi]at e1;cases e1;rw[CG hiσ]at e2
    cases e2
    exact⟨u,r,.inl ⟨hk,by simp⟩⟩
   ·rw[C2 (Ne.symm hj)]at e2;obtain⟨u',r',q⟩:=hl j y v' e1 e2 e3;refine⟨u',r',?_⟩;rcases q with⟨k,e⟩ | ⟨k,c,e,z⟩
    ·refine .inl ⟨k,?_⟩;have:y≠x:=fun e=>hj (mv hN e1 (e▸hi));simp[this,e]
    ·exact .inr ⟨k,c,e,z.sameBut hs (cne y c e)⟩
  ·obtain⟨w',z⟩:=I.cell y c e;exact⟨w',z.sameBut hs (cne y c e)⟩
  ·obtain⟨e,n,ne,nf,d⟩:=I.pin p hp;exact⟨(hs.2 p.1 ne).trans e,n,ne,nf,d⟩
 ·have hfn:X.fn x=true:=by
   rcases hf with z | z
   ·exact z
   ·rw[z]at hk;cases hk
  obtain⟨c,hc⟩:=I.ok.has x (.inl hk);obtain⟨w',z⟩:=I.cell x c hc;refine wpAny_storeName_cell I.ok.kind hk hc z (fun h' hc' hs=>?_);obtain⟨oc,hoc,hocd⟩:=id z;refine h { s with heap:=h' } ⟨I.ok,I.os,I.bare,⟨fun b o e n hb hx=>?_,fun b o e n hb hx=>?_,I.base.free,fun b o e hx=>?_,I.base.tups,I.base.frzs,I.base.tbls⟩,⟨m,hn.sameBut hs (Ne.symm (cne x c hc)),fun j y v' e1 e2 e3=>?_⟩,fun y c' e=>?_,I.free,I.freeC,fun p hp=>?_,tracked ⟨oc,hoc,I.freeC x c hc⟩ hs,by simpa using I.len⟩ ⟨c,hs,.inr hc⟩
  ·exact(hs.2 b (CA (Cb (Heap.lt_size e) (I.ok.cab x c hfn hc)))).trans (I.base.keep b o e n hb hx)
  ·obtain⟨sl,e1⟩:=I.base.slot b o e n hb hx;exact⟨sl,(hs.2 b (CA (Cb (Heap.lt_size e) (I.ok.cab x c hfn hc)))).trans e1⟩
  ·obtain⟨o',e1⟩:=I.base.there b o e hx;exact⟨o',(hs.2 b (CA (Cb (Heap.lt_size e) (I.ok.cab x c hfn hc)))).trans e1⟩
  ·by_cases hj:j=i
   ·subst hj;rw[hi]at e1;cases e1;rw[CG hiσ]at e2
    cases e2
    exact⟨u,r,.inr ⟨.inl hk,c,hc,hc'⟩⟩
   ·rw[C2 (Ne.symm hj)]at e2;obtain⟨u',r',q⟩:=hl j y v' e1 e2 e3;refine⟨u',r',?_⟩;rcases q with q | ⟨k,c',e,z'⟩
    ·exact .inl q
    ·refine .inr ⟨k,c',e,z'.sameBut hs ?_⟩;rintro rfl;exact hj (mv hN e1 (I.ok.inj _ _ _ e hc▸hi))
  ·by_cases hcc:c'=c
   ·subst hcc;exact⟨_,hc'⟩
   ·obtain⟨w2,z2⟩:=I.cell y c' e;exact⟨w2,z2.sameBut hs hcc⟩
  ·obtain⟨e,n,ne,nf,d⟩:=I.pin p hp;refine⟨(hs.2 p.1 ?_).trans e,n,ne,nf,d⟩;intro q;rw[q,hoc]at e;have q':oc=p.2:=Ci e;exact d w' (by rw[← q'];exact hocd)
theorem jK{M:Model}{A:Around}{E:Value->Shared->Prop}{i:Nat}{x:Str}{v:V}{u:Value}{Q:Unit->Shared->Prop}(I:Inv X pins σ H s)(hN:X.N.Nodup)(hi:X.N[i]?=some x)(hx:Loc X.env.scope x)(r:RelV v u)
  (h:∀ s',Inv X pins (σ.set i (some v)) H s'->Q () s') (hf:X.fn x=true∨X.env.scope.names.lookup x=some .local:=by first | exact .inl rfl | exact .inr rfl | assumption):wpAny M A (storeName X.env x u) Q E s :=
 uA I hN hi hx r (fun s' I' _=>h s' I') hf
theorem Inv.call'{s':Shared}{ch:List Addr}(I:Inv X pins σ H s)(ho:s'.os=s.os)(u:Un (frs X.stack) ch H H' s.heap s'.heap)(hok:HOk X.prog X.w H' s'.heap)(hg:AllBare s'.gens)
  (hch:∀ b∈ch,(b∈X.ex∨X.s₀.heap.objs.size<=b)/\b≠X.env.locals/\(∀ x c,X.env.cells.lookup x=some c->c≠b)/\∀ p∈X.pn++pins,p.1≠b):Inv X pins σ H' s':=by
 obtain⟨h',g',d',t',o'⟩:=s';have e:o'=s.os:=ho;subst e;exact I.call (g':=g') (t':=t') (d':=d') u hok hg hch
end
noncomputable abbrev XK:=Value->Option Addr->Hp->Prop
noncomputable abbrev St:=List (Option V)
noncomputable abbrev VK:=V->Hp->Prop
noncomputable abbrev TE:=St->Hp->VK->Prop
noncomputable abbrev TT:=St->Hp->(Bool->Hp->Prop)->Prop
noncomputable abbrev TA:=St->Hp->(List V->Hp->Prop)->Prop
set_option genInjectivity false in
structure Ends where
 nx:St->Hp->Prop
 rt:VK
 bk:St->Hp->Prop:=fun _ _=>False
 ct:St->Hp->Prop:=fun _ _=>False
noncomputable abbrev TS:=Ends->St->Hp->Prop
noncomputable def EP(X:Cx)(pins:List (Addr×Obj))(σ:St)(Q:VK)(u:Value)(s':Shared):Prop:=∃ v H',Inv X pins σ H' s'/\RelV v u/\Q v H'
noncomputable def TP(X:Cx)(pins:List (Addr×Obj))(σ:St)(Q:Bool->Hp->Prop)(b:Bool)(s':Shared):Prop:=∃ H',Inv X pins σ H' s'/\Q b H'
noncomputable def AP(X:Cx)(pins:List (Addr×Obj))(σ:St)(Q:List V->Hp->Prop)(us:List Value)(s':Shared):Prop:=∃ vs H',Inv X pins σ H' s'/\Vals vs us/\Q vs H'
noncomputable def SP(X:Cx)(pins:List (Addr×Obj))(D:Ends)(f:Flow)(s':Shared):Prop :=
 match f with
 |.next=>∃ σ' H',Inv X pins σ' H' s'/\D.nx σ' H'
 |.brk=>∃ σ' H',Inv X pins σ' H' s'/\D.bk σ' H'
 |.cont=>∃ σ' H',Inv X pins σ' H' s'/\D.ct σ' H'
 |.ret u=>∃ v σ' H',Inv X pins σ' H' s'/\RelV v u/\D.rt v H'
noncomputable def PE(X:Cx)(e:Expr)(t:TE):Prop :=
 ∀(pins:List (Addr×Obj))(s:Shared)(σ:St)(H:Hp)(Q:VK),Inv X pins σ H s->t σ H Q->wpAny (model X.prog X.w) X.A (eval e X.env) (EP X pins σ Q) X.xe s
noncomputable def PT(X:Cx)(e:Expr)(t:TT):Prop :=
 ∀(pins:List (Addr×Obj))(s:Shared)(σ:St)(H:Hp)(Q:Bool->Hp->Prop),Inv X pins σ H s->t σ H Q->wpAny (model X.prog X.w) X.A (isTrue e X.env (eval e X.env)) (TP X pins σ Q) X.xe s
noncomputable def PW(X:Cx)(e:Expr)(t:TT):Prop :=
 ∀(whole:Sem Value)(pins:List (Addr×Obj))(s:Shared)(σ:St)(H:Hp)(Q:Bool->Hp->Prop),Inv X pins σ H s->t σ H Q->wpAny (model X.prog X.w) X.A (isTrue e X.env whole) (TP X pins σ Q) X.xe s
theorem PW.pt{X:Cx}{e:Expr}{t:TT}(h:PW X e t):PT X e t:=h _
noncomputable def PA(X:Cx)(es:List Expr)(t:TA):Prop :=
 ∀(pos:Pos)(pins:List (Addr×Obj))(s:Shared)(σ:St)(H:Hp)(Q:List V->Hp->Prop),Inv X pins σ H s->t σ H Q->wpAny (model X.prog X.w) X.A (spliced (backTo pos (starEach es X.env))) (AP X pins σ Q) X.xe s
noncomputable def PS(X:Cx)(st:Stmt)(t:TS):Prop :=
 ∀(pins:List (Addr×Obj))(s:Shared)(σ:St)(H:Hp)(D:Ends),Inv X pins σ H s->t D σ H->wpAny (model X.prog X.w) X.A (exec st X.env) (SP X pins D) X.xe s
noncomputable def PSs(X:Cx)(st:List Stmt)(t:TS):Prop :=
 ∀(pins:List (Addr×Obj))(s:Shared)(σ:St)(H:Hp)(D:Ends),Inv X pins σ H s->t D σ H->wpAny (model X.prog X.w) X.A (execs st X.env) (SP X pins D) X.xe s
theorem thn{α:Type}{t:Sem α}{Q Q':α->Shared->Prop}{M:Model}{A:Around}{E:Value->Shared->Prop}{s:Shared}(h:wpAny M A t Q E s)(hQ:∀ a s,Q a s->Q' a s):wpAny M A t Q' E s:=wpAny_mono h hQ fun _ _ x=>x
section
variable{X:Cx}
noncomputable def tVar(i:Nat):TE:=fun σ H Q=>∃ v,σ[i]?=some (some v)/\Q v H
noncomputable def tC(v:V):TE:=fun _ H Q=>Q v H
theorem pe_var{i:Nat}{x:Str}{pos:Pos}(hN:X.N[i]?=some x)(hv:Vis X.env.scope x) (hd:(x == ("__debug__" : Str))=false:=by decide) (hcd:(x == ("__classdict__" : Str))=false:=by decide):PE X (.Name x pos) (tVar i):=by
 intro pins s σ H Q I h;obtain⟨v,e,h⟩:=h;obtain⟨m,hn,hl⟩:=I.loc;obtain⟨u,r,l⟩:=hl i x v hN e hv;have fin:EP X pins σ Q u s:=⟨v,H,I,r,h⟩;rcases l with⟨hk,hm⟩ | ⟨hk,c,hc,hcell⟩
 ·exact wpAny_Name (wpAny_loadName_local I.ok.kind hk hn hm fin) hd
 ·rcases hk with hk | hk
  ·exact wpAny_Name (wpAny_loadName_cell I.ok.kind hk hc hcell fin) hd
  ·exact wpAny_Name (wpAny_loadName_free I.ok.kind hk hc hcell fin hcd) hd
theorem ai{i j pos}:PE X (.Constant (.int i) j pos) (tC (.int i)):=fun _ _ _ H _ I h=>wpAny_Constant_int ⟨.int i,H,I.tok _,⟨_,rfl⟩,h⟩
theorem i9{b j pos}:PE X (.Constant (.bool b) j pos) (tC (.bl b)):=fun _ _ _ H _ I h=>Constant_bool ⟨.bl b,H,I,rfl,h⟩
theorem eh{j pos}:PE X (.Constant .none j pos) (tC .non):=fun _ _ _ H _ I h=>Constant_none ⟨.non,H,I,rfl,h⟩
theorem aE{x j pos}:PE X (.Constant (.str x) j pos) (tC (.str x)):=fun _ _ _ H _ I h=>Calls.Constant_str ⟨.str x,H,I.tok _,⟨_,rfl⟩,h⟩
noncomputable def Gl(X:Cx)(x:Str):Prop:=X.env.kindOf x=some .globalImplicit
theorem fU{E:Value->Shared->Prop}{pins:List (Addr×Obj)}{s:Shared}{σ:St}{H:Hp}{x:Str}{u:Value}{pos:Pos}{Q:Value->Shared->Prop}(I:Inv X pins σ H s)(hg:Gl X x)(hm:X.mg x=some u)(h:Q u s)
  (hd:(x == ("__debug__" : Str))=false:=by decide):wpAny (model X.prog X.w) X.A (eval (.Name x pos) X.env) Q E s :=
 Calls.Name_function_global I.ok.kind hg (Calls.loadGlobal_global (by rw[I.ok.glob];exact I.mod.glob.keeps I.bk) hm h) hd
theorem nY{E:Value->Shared->Prop}{pins:List (Addr×Obj)}{s:Shared}{σ:St}{H:Hp}{x:Str}{u:Value}{pos:Pos}{Q:Value->Shared->Prop}(I:Inv X pins σ H s)(hg:Gl X x)(hm:X.mg x=none)(hv:bootBuiltins x=some u)(h:Q u s)
  (hn:x≠"__name__":=by decide) (hd:(x == ("__debug__" : Str))=false:=by decide):wpAny (model X.prog X.w) X.A (eval (.Name x pos) X.env) Q E s:=by
 obtain⟨mb,h1,h2⟩:=I.mod.blt;exact Calls.Name_function_global I.ok.kind hg (Calls.loadGlobal_builtin (by rw[I.ok.glob];exact I.mod.glob.keeps I.bk) hm (by rw[I.ok.blt];exact h1.keeps I.bk) ((h2 x hn).trans hv) h) hd
theorem gX{x:Str}{v:V}{u:Value}{pos:Pos}(hg:Gl X x)(hm:X.mg x=some u)(r:RelV v u) (hd:(x == ("__debug__" : Str))=false:=by decide):PE X (.Name x pos) (tC v) :=
 fun _ _ _ H _ I h=>fU I hg hm ⟨v,H,I,r,h⟩ hd
theorem pK{x:Str}{v:V}{u:Value}{pos:Pos}(hg:Gl X x)(hm:X.mg x=none)(hv:bootBuiltins x=some u)(r:RelV v u) (hn:x≠"__name__":=by decide) (hd:(x == ("__debug__" : Str))=false:=by decide):PE X (.Name x pos) (tC v) :=
 fun _ _ _ H _ I h=>nY I hg hm hv ⟨v,H,I,r,h⟩ hn hd
variable{a b:Expr}{ta tb:TE}{pos:Pos}
noncomputable def PC(X:Cx)(op:CmpOp)(a b:Expr)(t:TE):Prop :=
 ∀(pins:List (Addr×Obj))(s:Shared)(σ:St)(H:Hp)(Q:VK),Inv X pins σ H s->t σ H Q ->
  wpAny (model X.prog X.w) X.A (eval a X.env) (fun v s₁=>wpAny (model X.prog X.w) X.A (eval b X.env) (fun u s₂=>wpAny (model X.prog X.w) X.A (compareOp op v u) (EP X pins σ Q) X.xe s₂) X.xe s₁) X.xe s
noncomputable def tB(t:TE):TT:=fun σ H Q=>t σ H fun x H1=>∃ c,x=.bl c/\Q c H1
theorem pt_cmp{op:CmpOp}{t:TE}(h:PC X op a b t)(h1:behindInMarks op b=false:=by first | exact nobehind _ (by decide) (by decide) | rfl):PT X (.Compare a [op] [b] pos) (tB t):=by
 intro pins s σ H Q I hw;refine wpAny_isTrue_Compare1 (thn (h pins s σ H _ I hw) fun v s1 h1=>thn h1 fun u s2 h2=>thn h2 fun c s3 ⟨x,H1,I1,r1,q1⟩=>?_) h1;obtain⟨d,rfl,q⟩:=q1
 cases r1
 exact wpAny_truthy_bool ⟨H1,I1,q⟩
theorem vf{e:Expr}{t:TE}(h:PE X e t)(he:∀ whole,isTrue e X.env whole=(do let v ← whole;standAt e.pos;holding [v] (truthy v)):=by intro _;rfl):PT X e (tB t):=by
 intro pins s σ H Q I hw;refine isTrue_plain (thn (h pins s σ H _ I hw) fun v s1 ⟨x,H1,I1,r1,q1⟩=>?_) (he _);obtain⟨d,rfl,q⟩:=q1
 cases r1
 exact wpAny_truthy_bool ⟨H1,I1,q⟩
variable{tA tB':TT}{rest:List Expr}
noncomputable def tAnd(t u:TT):TT:=fun σ H Q=>t σ H fun c H1=>if c=true then u σ H1 Q else Q false H1
noncomputable def tOr(t u:TT):TT:=fun σ H Q=>t σ H fun c H1=>if c=true then Q true H1 else u σ H1 Q
noncomputable def tNot(t:TT):TT:=fun σ H Q=>t σ H fun c H1=>Q (!c) H1
theorem pD(ha:PT X a tA):PW X (.BoolOp .And [a] pos) tA:=by
 intro wh pins s σ H Q I h;refine isTrue_and (thn (ha pins s σ H Q I h) fun c s1 e=>?_)
 cases c with
 |true=>exact isTrue_and_nil e
 |false=>exact e
theorem iz(ha:PT X a tA):PW X (.BoolOp .Or [a] pos) tA:=by
 intro wh pins s σ H Q I h;refine isTrue_or (thn (ha pins s σ H Q I h) fun c s1 e=>?_)
 cases c with
 |false=>exact isTrue_or_nil e
 |true=>exact e
theorem ve(ha:PT X a tA)(hb:PW X (.BoolOp .And (b::rest) pos) tB'):PW X (.BoolOp .And (a::b::rest) pos) (tAnd tA tB'):=by
 intro wh pins s σ H Q I h;refine isTrue_and (thn (ha pins s σ H _ I h) fun c s1 ⟨H1,I1,q1⟩=>?_)
 cases c with
 |true=>exact hb wh pins s1 σ H1 Q I1 q1
 |false=>exact⟨H1,I1,q1⟩
theorem iA(ha:PT X a tA)(hb:PW X (.BoolOp .Or (b::rest) pos) tB'):PW X (.BoolOp .Or (a::b::rest) pos) (tOr tA tB'):=by
 intro wh pins s σ H Q I h;refine isTrue_or (thn (ha pins s σ H _ I h) fun c s1 ⟨H1,I1,q1⟩=>?_)
 cases c with
 |true=>exact⟨H1,I1,q1⟩
 |false=>exact hb wh pins s1 σ H1 Q I1 q1
theorem vg(ha:PT X a tA):PT X (.UnaryOp .Not a pos) (tNot tA):=by
 intro pins s σ H Q I h;exact isTrue_not (ha pins s σ H (fun c H1=>Q (!c) H1) I h)
noncomputable def tAndV(ta tb:TE):TE:=fun σ H Q=>ta σ H fun x H1=>∃ c,x=.bl c/\if c=true then tb σ H1 Q else Q (.bl false) H1
noncomputable def tOrV(ta tb:TE):TE:=fun σ H Q=>ta σ H fun x H1=>∃ c,x=.bl c/\if c=true then Q (.bl true) H1 else tb σ H1 Q
noncomputable def tNotV(ta:TE):TE:=fun σ H Q=>ta σ H fun x H1=>∃ c,x=.bl c/\Q (.bl (!c)) H1
theorem vp{op}{t:TE}(h:PE X a t):PE X (.BoolOp op [a] pos) t:=fun pins s σ H Q I hw=>BoolOp_one (h pins s σ H Q I hw)
theorem rf(ha:PE X a ta)(hb:PE X (.BoolOp .And (b::rest) pos) tb):PE X (.BoolOp .And (a::b::rest) pos) (tAndV ta tb):=by
 intro pins s σ H Q I h;refine BoolOp_and (thn (ha pins s σ H _ I h) fun v s1 ⟨x,H1,I1,r1,q1⟩=>?_);obtain⟨c,rfl,q1⟩:=q1
 cases r1
 refine wpAny_truthy_bool ?_
 cases c with
 |true=>exact hb pins s1 σ H1 Q I1 q1
 |false=>exact⟨.bl false,H1,I1,rfl,q1⟩
theorem pe_or(ha:PE X a ta)(hb:PE X (.BoolOp .Or (b::rest) pos) tb):PE X (.BoolOp .Or (a::b::rest) pos) (tOrV ta tb):=by
 intro pins s σ H Q I h;refine BoolOp_or (thn (ha pins s σ H _ I h) fun v s1 ⟨x,H1,I1,r1,q1⟩=>?_);obtain⟨c,rfl,q1⟩:=q1
 cases r1
 refine wpAny_truthy_bool ?_
 cases c with
 |false=>exact hb pins s1 σ H1 Q I1 q1
 |true=>exact⟨.bl true,H1,I1,rfl,q1⟩
theorem pe_not(ha:PE X a ta):PE X (.UnaryOp .Not a pos) (tNotV ta):=by
 intro pins s σ H Q I h;refine UnaryOp_ (thn (ha pins s σ H _ I h) fun v s1 ⟨x,H1,I1,r1,q1⟩=>?_);obtain⟨c,rfl,q1⟩:=q1
 cases r1
 exact not_of (wpAny_truthy_bool ⟨.bl (!c),H1,I1,rfl,q1⟩)
noncomputable def tIf(t:TT)(ta tb:TE):TE:=fun σ H Q=>t σ H fun c H1=>if c=true then ta σ H1 Q else tb σ H1 Q
theorem l9{c:Expr}(hc:PT X c tA)(ha:PE X a ta)(hb:PE X b tb):PE X (.IfExp c a b pos) (tIf tA ta tb):=by
 intro pins s σ H Q I h;refine wpAny_IfExp (thn (hc pins s σ H _ I h) fun d s1 ⟨H1,I1,q1⟩=>?_)
 cases d with
 |true=>exact ha pins s1 σ H1 Q I1 q1
 |false=>exact hb pins s1 σ H1 Q I1 q1
end
noncomputable def SqL(K:BD)(H:Hp)(a:Addr)(xs:List V):Prop :=
 Rd H a (.lst xs) ∨
  ∃(o:Obj)(its:Array Value)(n:Nat),K.lookup a=some o/\o.cls=.type "list"/\o.dict=none/\o.data=.seq its n/\its.size<=sizeLine/\Vals xs its.toList
noncomputable def SqT(K:BD)(H:Hp)(a:Addr)(xs:List V):Prop :=
 Rd H a (.tup xs) ∨
  ∃(o:Obj)(its:Array Value)(n:Nat),K.lookup a=some o/\o.cls=.type "tuple"/\o.data=.seq its n/\its.size<=sizeLine/\Vals xs its.toList
noncomputable def absV:Value->Option V
 |.none=>some .non
 |.bool b=>some (.bl b)
 |.int i _=>some (.int i)
 |.str x _=>some (.str x)
 |.bytes b _=>some (.byt b)
 |.float b _=>some (.flt b)
 |.ref a=>some (.ref a)
 |.type n=>some (.ty n)
 |_=>none
theorem RelV.abs{x:V}{u:Value}(r:RelV x u):absV u=some x:=by
 cases x with
 |non=>cases r;rfl
 |bl _=>cases r;rfl
 |int _=>obtain⟨t,rfl⟩:=r;rfl
 |str _=>obtain⟨t,rfl⟩:=r;rfl
 |byt _=>obtain⟨t,rfl⟩:=r;rfl
 |flt _=>obtain⟨t,rfl⟩:=r;rfl
 |ref _=>cases r;rfl
 |ty _=>cases r;rfl
theorem RelV.inj{x y:V}{u:Value}(r:RelV x u)(q:RelV y u):x=y:=Ci (r.abs.symm.trans q.abs)
theorem Vals.inj:∀{xs ys:List V}{us:List Value},Vals xs us->Vals ys us->xs=ys
 |_,_,_,.nil,.nil=>rfl
 |_,_,_,.cons r t,.cons r' t'=>by rw[r.inj r',Vals.inj t t']
section
variable{X:Cx}{pins:List (Addr×Obj)}{σ:St}{H:Hp}{s:Shared}{a:Addr}{xs ys:List V}
theorem SqL.of{K:BD}(h:H a=some (.lst xs)):SqL K H a xs:=.inl (.inl h)
theorem SqT.of{K:BD}(h:H a=some (.tup xs)):SqT K H a xs:=.inl (.inl h)
theorem Inv.list(I:Inv X pins σ H s)(h:SqL X.K H a xs):∃ its:List Value,Vals xs its/\PlainL s.heap a its.toArray/\xs.length<=sizeLine:=by
 rcases h with h | ⟨o,its,n,hk,hc,hd,hs,hz,r⟩
 ·obtain⟨z,its,n,r,e⟩:=h.ok I.hok;exact⟨its,r,⟨_,n,e,rfl,rfl,rfl⟩,z⟩
 ·refine⟨its.toList,r,⟨o,n,I.kIn a o hk,hc,hd,by simpa using hs⟩,?_⟩
  have e:=r.length;simp only[Dn]at e;omega
theorem Inv.tuple(I:Inv X pins σ H s)(h:SqT X.K H a xs):∃ its:List Value,Vals xs its/\IsTup s.heap a its.toArray/\xs.length<=sizeLine:=by
 rcases h with h | ⟨o,its,n,hk,hc,hs,hz,r⟩
 ·obtain⟨z,its,r,p⟩:=h.ok I.hok;exact⟨its,r,p,z⟩
 ·refine⟨its.toList,r,⟨o,I.kIn a o hk,hc,n,by simpa using hs⟩,?_⟩
  have e:=r.length;simp only[Dn]at e;omega
theorem Inv.list_inj(I:Inv X pins σ H s)(h:SqL X.K H a xs)(h':SqL X.K H a ys):xs=ys:=by
 obtain⟨its,r,⟨o,n,e,_,_,d⟩,_⟩:=I.list h;obtain⟨its',r',⟨o',n',e',_,_,d'⟩,_⟩:=I.list h';rw[e]at e';cases e';rw[d]at d';injection d' with d1 _;have:its=its':=by simpa using congrArg Array.toList d1
 subst this;exact r.inj r'
end
noncomputable abbrev Cx.wish(X:Cx)(E:Value->Shared->Prop):Cx:={ X with xe:=E }
noncomputable abbrev Cx.nox(X:Cx):Cx:=X.wish fun _ _=>False
theorem Cx.Ok.wish{X:Cx}(ok:X.Ok)(E:Value->Shared->Prop):(X.wish E).Ok :=
 ⟨ok.mod,ok.kind,ok.glob,ok.blt,ok.above,ok.inj,ok.has,ok.cab,ok.hd,ok.frames,ok.stk,ok.exf,ok.bs,ok.bsz,ok.noex,ok.exfs,ok.funs,ok.frf⟩
theorem Cx.Ok.unwish{X:Cx}{E:Value->Shared->Prop}(ok:(X.wish E).Ok):X.Ok :=
 ⟨ok.mod,ok.kind,ok.glob,ok.blt,ok.above,ok.inj,ok.has,ok.cab,ok.hd,ok.frames,ok.stk,ok.exf,ok.bs,ok.bsz,ok.noex,ok.exfs,ok.funs,ok.frf⟩
section
variable{X:Cx}{pins:List (Addr×Obj)}{σ:St}{H:Hp}{s:Shared}{E:Value->Shared->Prop}
theorem Inv.wish(I:Inv X pins σ H s)(E:Value->Shared->Prop):Inv (X.wish E) pins σ H s:=⟨I.ok.wish E,I.os,I.bare,I.base,I.loc,I.cell,I.free,I.freeC,I.pin,I.hok,I.len⟩
theorem Inv.unwish(I:Inv (X.wish E) pins σ H s):Inv X pins σ H s:=⟨I.ok.unwish,I.os,I.bare,I.base,I.loc,I.cell,I.free,I.freeC,I.pin,I.hok,I.len⟩
theorem SP.unwish{D:Ends}{f:Flow}{s':Shared}(h:SP (X.wish E) pins D f s'):SP X pins D f s':=by
 cases f with
 |next=>obtain⟨σ',H',I,q⟩:=h;exact⟨σ',H',I.unwish,q⟩
 |brk=>obtain⟨σ',H',I,q⟩:=h;exact⟨σ',H',I.unwish,q⟩
 |cont=>obtain⟨σ',H',I,q⟩:=h;exact⟨σ',H',I.unwish,q⟩
 |ret u=>obtain⟨v,σ',H',I,r,q⟩:=h;exact⟨v,σ',H',I.unwish,r,q⟩
theorem PSs.nox{st:List Stmt}{t:TS}(h:PSs X.nox st t):PSs X st t:=fun pins s σ H D I hw =>
 wpAny_mono (h pins s σ H D (I.wish _) hw) (fun _ _ q=>q.unwish) fun _ _ z=>False.elim z
end
section
variable{X:Cx}{st:Stmt}{rest:List Stmt}{t u:TS}{e:Expr}{te:TE}{pos:Pos}
noncomputable def tNext:TS:=fun D σ H=>D.nx σ H
noncomputable def tSeq(t u:TS):TS:=fun D σ H=>t { D with nx:=u D } σ H
theorem aF:PSs X [] tNext:=fun _ _ σ H _ I h=>wpAny_execs_nil ⟨σ,H,I,h⟩
theorem af(h1:PS X st t)(h2:PSs X rest u):PSs X (st::rest) (tSeq t u):=by
 intro pins s σ H D I h;refine wpAny_execs_cons (thn (h1 pins s σ H { D with nx:=u D } I h) fun f s1 q=>?_)
 cases f with
 |next =>
  obtain⟨σ',H',I',q⟩:=q;exact h2 pins s1 σ' H' D I' q
 |ret v=>exact q
 |brk=>exact q
 |cont=>exact q
theorem ak(h1:PS X st t):PSs X [st] t:=by
 intro pins s σ H D I h;refine wpAny_execs_cons (thn (h1 pins s σ H D I h) fun f s1 q=>?_)
 cases f with
 |next=>exact wpAny_execs_nil q
 |ret v=>exact q
 |brk=>exact q
 |cont=>exact q
theorem Inv.quiet{pins:List (Addr×Obj)}{σ:St}{H:Hp}{s:Shared}(I:Inv X pins σ H s):interactive X.env=false:=by simp[interactive,I.ok.kind]
noncomputable def tDrop(te:TE):TS:=fun D σ H=>te σ H fun _ H1=>D.nx σ H1
theorem aZ(he:PE X e te)(hs:swapsWith e none pos.line X.env=pure false:=by rfl):PS X (.Expr e pos) (tDrop te):=by
 intro pins s σ H D I h;exact wpAny_Expr_any (thn (he pins s σ H _ I h) fun v s1 ⟨x,H1,I1,r1,q1⟩=>⟨σ,H1,I1,q1⟩) I.quiet hs
noncomputable def tRet(te:TE):TS:=fun D σ H=>te σ H D.rt
theorem aG(he:PE X e te):PS X (.Return (some e) pos) (tRet te):=by
 intro pins s σ H D I h;exact wpAny_Return_some (thn (he pins s σ H _ I h) fun v s1 ⟨x,H1,I1,r1,q1⟩=>⟨x,σ,H1,I1,r1,q1⟩)
noncomputable def tRetN:TS:=fun D _ H=>D.rt .non H
theorem As:PS X (.Return none pos) tRetN:=fun _ _ σ H _ I h=>wpAny_Return_none ⟨.non,σ,H,I,rfl,h⟩
noncomputable def tIfS(c:TT)(t u:TS):TS:=fun D σ H=>c σ H fun b H1=>if b=true then t D σ H1 else u D σ H1
theorem bf{c:Expr}{a b:List Stmt}{tc:TT}(hc:PT X c tc)(ha:PSs X a t)(hb:PSs X b u):PS X (.If c a b pos) (tIfS tc t u):=by
 intro pins s σ H D I h;refine wpAny_If (thn (hc pins s σ H _ I h) fun d s1 ⟨H1,I1,q1⟩=>?_)
 cases d with
 |true=>exact ha pins s1 σ H1 D I1 q1
 |false=>exact hb pins s1 σ H1 D I1 q1
end
noncomputable abbrev TG:=V->St->Hp->(St->Hp->Prop)->Prop
noncomputable abbrev TGs:=List V->St->Hp->(St->Hp->Prop)->Prop
noncomputable def PG(X:Cx)(target:Expr)(t:TG):Prop :=
 ∀(pins:List (Addr×Obj))(s:Shared)(σ:St)(H:Hp)(v:V)(u:Value)(Q:St->Hp->Prop),Inv X pins σ H s->RelV v u->t v σ H Q ->
  wpAny (model X.prog X.w) X.A (assign target X.env u) (fun _ s'=>∃ σ' H',Inv X pins σ' H' s'/\Q σ' H') X.xe s
noncomputable def PGs(X:Cx)(ts:List Expr)(t:TGs):Prop :=
 ∀(pins:List (Addr×Obj))(s:Shared)(σ:St)(H:Hp)(vs:List V)(us:List Value)(Q:St->Hp->Prop),Inv X pins σ H s->Vals vs us->t vs σ H Q ->
  wpAny (model X.prog X.w) X.A (assignInOrder ((assignEach ts X.env).map (·.2)) us) (fun _ s'=>∃ σ' H',Inv X pins σ' H' s'/\Q σ' H') X.xe s
noncomputable abbrev TSet:=V->V->V->Hp->(Hp->Prop)->Prop
noncomputable def PSet(X:Cx)(t:TSet):Prop :=
 ∀(pins:List (Addr×Obj))(s:Shared)(σ:St)(H:Hp)(o i v:V)(ov iv u:Value)(Q:Hp->Prop),Inv X pins σ H s->RelV o ov->RelV i iv->RelV v u->t o i v H Q ->
  wpAny (model X.prog X.w) X.A (setItem ov iv u) (fun _ s'=>∃ H',Inv X pins σ H' s'/\Q H') X.xe s
section
variable{X:Cx}{pos:Pos}
noncomputable def kE(i:Nat):TG:=fun v σ H Q=>Q (σ.set i (some v)) H
theorem aQ{i:Nat}{x:Str}(hN:X.N.Nodup)(hi:X.N[i]?=some x)(hx:Loc X.env.scope x)(hf:X.fn x=true∨X.env.scope.names.lookup x=some .local:=by first | exact .inl rfl | exact .inr rfl | assumption):PG X (.Name x pos) (kE i):=by
 intro pins s σ H v u Q I r h;exact wpAny_assign_Name (jK I hN hi hx r (fun s' I'=>⟨_,H,I',h⟩) hf)
noncomputable def gNil:TGs:=fun vs σ H Q=>vs = []/\Q σ H
noncomputable def gCons(t:TG)(u:TGs):TGs:=fun vs σ H Q=>∃ v r,vs=v::r/\t v σ H fun σ' H'=>u r σ' H' Q
theorem lZ:PGs X [] gNil:=by
 intro pins s σ H vs us Q I r h;obtain⟨e,h⟩:=h;subst e
 cases r
 exact assignInOrder_nil ⟨σ,H,I,h⟩
theorem cW{e:Expr}{es:List Expr}{t:TG}{u:TGs}(h1:PG X e t)(h2:PGs X es u)
  (hs:(assignEach (e::es) X.env).map (·.2)=assign e X.env::(assignEach es X.env).map (·.2):=by rfl):PGs X (e::es) (gCons t u):=by
 intro pins s σ H vs us Q I r h;obtain⟨v,vr,e1,h⟩:=h;subst e1
 cases r with
 |cons r rr =>
  rw[hs];refine assignInOrder_cons (thn (h1 pins s σ H _ _ _ I r h) fun _ s1 ⟨σ1,H1,I1,q1⟩=>?_);exact h2 pins s1 σ1 H1 _ _ Q I1 rr q1
noncomputable def gTup(K:BD)(n:Nat)(t:TGs):TG:=fun v σ H Q=>∃ a xs,v=.ref a/\SqT K H a xs/\xs.length=n/\t xs σ H Q
theorem q8{es:List Expr}{k:Nat}{t:TGs}{n:Nat}(hc:X.calm=true)(h:PGs X es t)
  (hn:(assignEach es X.env).length=n:=by rfl) (hst:(assignEach es X.env).findIdx? (·.1)=none:=by rfl):PG X (.Tuple es k pos) (gTup X.K n t):=by
 intro pins s σ H v u Q I r hw;obtain⟨a,xs,e1,hq,hl,hw⟩:=hw;subst e1
 cases r
 obtain⟨its,rv,ht,hz⟩:=I.tuple hq;refine assign_Tuple_tuple (I.ok.hd hc) ht (by simp[hn,← hl,rv.length]) hst fun h' hx=>?_
 have I1:Inv X pins σ H { s with heap:=h' }:=I.kept (t':=s.toks) fun b o e=>hx b o (CA (Heap.lt_size e)) e;exact h pins _ σ H xs _ Q I1 (by simpa using rv) hw
noncomputable def gSub(to ti:TE)(t:TSet):TG:=fun v σ H Q=>to σ H fun o H1=>ti σ H1 fun i H2=>t o i v H2 fun H3=>Q σ H3
theorem dR{o i:Expr}{to ti:TE}{t:TSet}(ho:PE X o to)(hi:PE X i ti)(hs:PSet X t)
  (ha:∀ v,assign (.Subscript o i pos) X.env v=(do
   let ov ← holding [v] (eval o X.env)
   let iv ← holding [v,ov] (eval i X.env)
   standAt pos
   holding [v,ov,iv] (setItem ov iv v)
   release [v,ov,iv] []):=by intro _;rfl):PG X (.Subscript o i pos) (gSub to ti t):=by
 intro pins s σ H v u Q I r h;rw[ha];refine wpAny_bind (wpAny_holding (thn (ho pins s σ H _ I h) fun ov s1 ⟨x,H1,I1,r1,q1⟩=>?_));refine wpAny_bind (wpAny_holding (thn (hi pins s1 σ H1 _ I1 q1) fun iv s2 ⟨y,H2,I2,r2,q2⟩=>?_));refine wpAny_bind (wpAny_standAt (wpAny_bind (wpAny_holding (thn (hs pins s2 σ H2 x y v ov iv u _ I2 r1 r2 r q2) fun _ s3 ⟨H3,I3,q3⟩=>?_))));exact wpAny_release ⟨σ,H3,I3,q3⟩
noncomputable def tAsg(te:TE)(g:TG):TS:=fun D σ H=>te σ H fun x H1=>g x σ H1 D.nx
theorem dQ{tg e:Expr}{te:TE}{g:TG}(he:PE X e te)(hg:PG X tg g)(hs:swapsWithSole [tg] e pos.line X.env=pure false:=by rfl)(hw:swappedStores [tg] e X.env=pure none:=by rfl)
  (h1:(assignEach [tg] X.env).map (·.2) = [assign tg X.env]:=by rfl):PS X (.Assign [tg] e pos) (tAsg te g):=by
 intro pins s σ H D I h;refine wpAny_Assign_stores (thn (he pins s σ H _ I h) fun v s1 ⟨x,H1,I1,r1,q1⟩=>?_) hs hw;rw[h1];exact thn (hg pins s1 σ H1 x v _ I1 r1 q1) fun _ s2 q=>q
theorem av{i:Nat}{x:Str}{e:Expr}{te:TE}{pos':Pos}(hN:X.N.Nodup)(hi:X.N[i]?=some x)(hx:Loc X.env.scope x)(he:PE X e te)(hs:swapsWith e (some (.Name x pos')) pos.line X.env=pure false:=by rfl)(hf:X.fn x=true∨X.env.scope.names.lookup x=some .local:=by first | exact .inl rfl | exact .inr rfl | assumption) :
  PS X (.Assign [.Name x pos'] e pos) (tAsg te (kE i)):=by
 intro pins s σ H D I h;refine wpAny_Assign_Name (thn (he pins s σ H _ I h) fun v s1 ⟨y,H1,I1,r1,q1⟩=>?_) hs;exact jK I1 hN hi hx r1 (fun s2 I2=>⟨_,H1,I2,q1⟩) hf
noncomputable def yS(c:TT)(tb:TS):TS:=fun D σ H=>∃ W:Nat->St->Hp->Prop,(∃ m,W m σ H)/\∀ m σ H,W m σ H ->
 c σ H fun b H1=>if b=true then ∃ N:St->Hp->Prop,(∀ σ' H',N σ' H'->∃ m',m'<m/\W m' σ' H')/\tb { D with nx:=N,ct:=N,bk:=D.nx } σ H1 else D.nx σ H1
theorem lW{c:Expr}{body:List Stmt}{tc:TT}{tb:TS}(hp:PassesOwn (model X.prog X.w) X.A X.env X.xe)(hc:PT X c tc)(hb:PSs X body tb):PS X (.While c body [] pos) (yS tc tb):=by
 intro pins s σ H D I h;obtain⟨W,⟨m0,w0⟩,turn⟩:=h;refine wpAny_While (codeAny_whileLoop (fun n s'=>∃ σ' H',Inv X pins σ' H' s'/\W n σ' H') ?_ m0 ⟨σ,H,I,w0⟩);rintro n s1 ⟨σ1,H1,I1,w1⟩;refine wpAny_passesOwn hp (thn (hc pins s1 σ1 H1 _ I1 (turn n σ1 H1 w1)) fun b s2 ⟨H2,I2,q2⟩=>?_)
 cases b with
 |true =>
  obtain⟨N,hN,q2⟩:=q2;rw[if_pos rfl];refine wpAny_passesOwn hp (thn (hb pins s2 σ1 H2 _ I2 q2) fun f s3 q3=>?_)
  cases f with
  |next =>
   obtain⟨σ3,H3,I3,n3⟩:=q3;obtain⟨m',hm,w3⟩:=hN σ3 H3 n3;exact⟨m',hm,σ3,H3,I3,w3⟩
  |cont =>
   obtain⟨σ3,H3,I3,n3⟩:=q3;obtain⟨m',hm,w3⟩:=hN σ3 H3 n3;exact⟨m',hm,σ3,H3,I3,w3⟩
  |brk=>exact q3
  |ret v=>exact q3
 |false =>
  rw[if_neg Cf];exact wpAny_execs_nil ⟨σ1,H2,I2,q2⟩
end
set_option genInjectivity false in
structure It where
 go:Nat->Hp->Prop
 yld:Nat->Hp->V->Hp->Prop
 stop:Nat->Hp->Prop
noncomputable def FpOk(X:Cx)(pins:List (Addr×Obj))(H:Hp)(b:Addr):Prop :=
 H b=none/\b≠X.env.locals/\b∉X.fs/\(b∈X.ex∨X.s₀.heap.objs.size<=b)/\(∀ x c,X.env.cells.lookup x=some c->c≠b)/\∀ p∈X.pn++pins,p.1≠b
theorem Inv.fpOk{X:Cx}{pins:List (Addr×Obj)}{σ:St}{H H':Hp}{s:Shared}{b:Addr}(I:Inv X pins σ H s)(hb:s.heap.objs.size<=b)(hn:H' b=none):FpOk X pins H' b:=by
 refine⟨hn,Fh (Cb I.lt hb),I.nofs hb,.inr (Co I.sz hb),fun x c e z=>?_,fun p hp z=>?_⟩
 ·obtain⟨v,q⟩:=I.cell x c e;exact absurd (Cb q.lt (by rw[z];exact hb)) (Dy _)
 ·exact absurd (Cb (Heap.lt_size (I.pin p hp).1) (by rw[z];exact hb)) (Dy _)
structure Turn(P:Program)(w:World)(K:BD)(tg:Expr)(J:It)(fp:List Addr)(it:Addr)(tn:Nat->Heap->Prop):Prop where
 mem:it∈fp
 obj:∀ i h,tn i h->∀ b∈fp,∃ o,h.get? b=some o/\∀ v,o.data≠.cell v
 keep:∀ i h h',tn i h->(∀ b∈fp,∀ o,h.get? b=some o->h'.get? b=some o)->tn i h'
 item:∀(X:Cx),X.prog=P->X.w=w->X.K=K->X.calm=true->∀(i:Nat)(pins:List (Addr×Obj))(s:Shared)(σ:St)(H:Hp)(E:Value->Shared->Prop),Inv X pins σ H s->(∀ b∈fp,FpOk X pins H b)->tn i s.heap->J.go i H ->
  wpAny (model P w) X.A (pyNext (.ref it)) (fun r s1=>∃ u,r=some u /\
   wpAny (model P w) X.A (letOwnedTupleGo tg (.ref it) u) (fun _ s2=>∃ x H',Inv X pins σ H' s2/\RelV x u/\J.yld i H x H'/\tn (i+1) s2.heap/\∀ b∈fp,H' b=none) E s1) E s
 done:∀(X:Cx),X.prog=P->X.w=w->X.K=K->X.calm=true->∀(i:Nat)(pins:List (Addr×Obj))(s:Shared)(σ:St)(H:Hp)(E:Value->Shared->Prop),Inv X pins σ H s->(∀ b∈fp,FpOk X pins H b)->tn i s.heap->J.stop i H ->
  wpAny (model P w) X.A (pyNext (.ref it)) (fun r s1=>r=none/\Inv X pins σ H s1) E s
 self:∀(A:Around)(i:Nat)(s:Shared)(Q:Value->Shared->Prop)(E:Value->Shared->Prop),tn i s.heap->Q (.ref it) s->wpAny (model P w) A (pyIter (.ref it)) Q E s
noncomputable abbrev TI:=St->Hp->(It->Hp->Prop)->Prop
noncomputable def PIE(X:Cx)(pins:List (Addr×Obj))(σ:St)(tg:Expr)(R:It->Hp->Prop)(itv:Value)(s2:Shared):Prop :=
 ∃(it:Addr)(fp:List Addr)(tn:Nat->Heap->Prop)(J:It)(H':Hp),itv=.ref it/\Inv X pins σ H' s2/\Turn X.prog X.w X.K tg J fp it tn/\tn 0 s2.heap/\(∀ b∈fp,FpOk X pins H' b)/\R J H'
noncomputable def PI(X:Cx)(tg iter:Expr)(wi:TI):Prop :=
 ∀(pins:List (Addr×Obj))(s:Shared)(σ:St)(H:Hp)(R:It->Hp->Prop),Inv X pins σ H s->wi σ H R ->
  wpAny (model X.prog X.w) X.A (eval iter X.env) (fun v s1=>wpAny (model X.prog X.w) X.A (pyIter v) (PIE X pins σ tg R) X.xe s1) X.xe s
theorem Ba{M:Model}{A:Around}{E:Value->Shared->Prop}{s:Shared}{tg:Expr}{it:Addr}{u:Value}{o:Obj}{n:String}{vs:Array Value}{Q:Unit->Shared->Prop}(ho:s.heap.get? it=some o)(hc:o.cls=.type n)(hd:o.data=.fields vs)
  (hn : ["enumerate","zip","dict_itemiterator","dict_reverseitemiterator","odict_iterator","itertools.zip_longest","itertools.pairwise"].contains n=false) (hQ:Q () s):wpAny M A (letOwnedTupleGo tg (.ref it) u) Q E s:=by
 unfold letOwnedTupleGo
 cases tg<;>first
  |exact wpAny_pure hQ
  | (cases u<;>first
    |exact wpAny_pure hQ
    | (refine wpAny_bind (wpAny_load ho ?_)
       rw[hc,hd]
       show wpAny M A (if(["enumerate","zip","dict_itemiterator","dict_reverseitemiterator","odict_iterator","itertools.zip_longest","itertools.pairwise"].contains n&&vs[0]? == some (rawInt _))=true then _ else _) Q E s
       rw[if_neg (by intro h;rw[hn,Bool.false_and]at h;cases h)]
       exact wpAny_pure hQ))
noncomputable def Itl(K:BD)(a:Addr):It :=
 ⟨fun i H=>∃ xs x,SqL K H a xs/\xs[i]?=some x,fun i H x H'=>H'=H/\∀ xs,SqL K H a xs->xs[i]?=some x,fun i H=>∃ xs,SqL K H a xs/\xs.length<=i⟩
noncomputable def Itr(lo:Int)(n:Nat):It:=⟨fun i _=>i<n,fun i H x H'=>H'=H/\x=.int (lo+i),fun i _=>n<=i⟩
theorem uu{P:Program}{w:World}{K:BD}{tg:Expr}(a it:Addr):Turn P w K tg (Itl K a) [it] it (fun i h=>h.IsListIter it a i) where
 mem:=by simp
 obj:=fun i h st b hb=>by
  have e:b=it:=by simpa using hb
  subst e;obtain⟨o,e,c,d⟩:=st;exact⟨o,e,fun v z=>by rw[d]at z;cases z⟩
 keep:=fun i h h' st k=>st.at fun o e=>k it (by simp) o e
 item:=by
  intro X hP hw hK hc i pins s σ H E I hf st hg;subst hP hw hK;obtain⟨xs,x,hq,hx⟩:=hg;obtain⟨its,rv,p,hz⟩:=I.list hq;obtain⟨u,hu,ru⟩:=rv.get hx;obtain⟨f0,f1,f2,f3,f4,f5⟩:=hf it (by simp)
  refine wpAny_pyNext_list_item st p.isList (x:=u) (by simpa using hu) fun h' st' sb=>?_
  have I1:Inv X pins σ H { s with heap:=h' }:=I.turned (t':=s.toks) (fun b o hb e=>(sb.2 b hb).trans e) f0 f1 f3 f4 f5;obtain⟨o,e,c,d⟩:=id st';exact⟨u,rfl,Ba (s:={ s with heap:=h' }) e c d (by decide) ⟨x,H,I1,ru,⟨rfl,fun ys hy=>by rw[I.list_inj hy hq];exact hx⟩,st',fun b hb=>(hf b hb).1⟩⟩
 done:=by
  intro X hP hw hK hc i pins s σ H E I hf st hg;subst hP hw hK;obtain⟨xs,hq,hx⟩:=hg;obtain⟨its,rv,p,hz⟩:=I.list hq;obtain⟨f0,f1,f2,f3,f4,f5⟩:=hf it (by simp)
  have hl:=rv.length;exact wpAny_pyNext_list_end (I.ok.hd hc) st p.isList (by simp;omega) fun h' eb=>⟨rfl,I.turned (t':=s.toks) (fun b o hb e=>eb b o hb e) f0 f1 f3 f4 f5⟩
 self:=fun _ _ _ _ _ st h=>wpAny_pyIter_listiter st h
theorem rZ{P:Program}{w:World}{K:BD}{tg:Expr}(it:Addr)(lo:Int)(n:Nat):Turn P w K tg (Itr lo n) [it] it (fun i h=>IsRangeIter h it (lo+(i:Nat)*1) ((n:Int)-(i:Nat)) 1) where
 mem:=by simp
 obj:=fun i h st b hb=>by
  have e:b=it:=by simpa using hb
  subst e
  exact⟨_,st,fun v z=>by
   have z':Data.fields _=Data.cell v:=z
   cases z'⟩
 keep:=fun i h h' st k=>k it (by simp) _ st
 item:=by
  intro X hP hw hK hc i pins s σ H E I hf st hg;subst hP hw hK;obtain⟨f0,f1,f2,f3,f4,f5⟩:=hf it (by simp)
  have W:=Walks.range (prog:=X.prog) (w:=X.w) (I.ok.hd hc) it lo 1 n;refine W.item i s _ _ hg st fun v h' tk hv st' kk=>?_;obtain⟨t,rfl⟩:=hv;have I1:Inv X pins σ H { s with heap:=h',toks:=tk }:=I.turned (fun b o hb e=>kk b o (by simpa using hb) e) f0 f1 f3 f4 f5
  refine⟨_,rfl,Ba (s:={ s with heap:=h',toks:=tk }) (n:="range_iterator") st' rfl rfl (by decide) ⟨.int (lo+i),H,I1,⟨t,?_⟩,⟨rfl,rfl⟩,st',fun b hb=>(hf b hb).1⟩⟩
  rw[Int.mul_one]
 done:=by
  intro X hP hw hK hc i pins s σ H E I hf st hg;subst hP hw hK;obtain⟨f0,f1,f2,f3,f4,f5⟩:=hf it (by simp)
  exact wpAny_pyNext_range_end (I.ok.hd hc) st (by have:n<=i:=hg;omega) fun h' eb=>⟨rfl,I.turned (t':=s.toks) (fun b o hb e=>eb b o hb e) f0 f1 f3 f4 f5⟩
 self:=fun _ _ _ _ _ st h=>wpAny_pyIter_rangeiter st h
section
variable{X:Cx}{tg:Expr}
noncomputable def iList(K:BD)(tl:TE):TI:=fun σ H R=>tl σ H fun x H1=>∃ a,x=.ref a/\(∃ xs,SqL K H1 a xs)/\R (Itl K a) H1
theorem cp{l:Expr}{tl:TE}(hl:PE X l tl):PI X tg l (iList X.K tl):=by
 intro pins s σ H R I h;refine thn (hl pins s σ H _ I h) fun v s1 ⟨x,H1,I1,r1,q1⟩=>?_;obtain⟨a,e,⟨xs,hq⟩,q⟩:=q1;subst e
 cases r1
 obtain⟨its,rv,p,hz⟩:=I1.list hq;refine wpAny_pyIter_list p.isList ?_;refine⟨s1.heap.objs.size,[s1.heap.objs.size],_,_,H1,rfl,I1.kept (t':=s1.toks) fun b o e=>Heap.get?_push_of_some _ e,uu a _,⟨_,Heap.get?_push_size _ rfl,rfl,rfl⟩,fun b hb=>?_,q⟩;have e:b=s1.heap.objs.size:=by simpa using hb
 subst e;exact I1.fpOk (BI _) (I1.hok.fresh (BI _))
theorem xR{pins:List (Addr×Obj)}{σ:St}{H:Hp}{s:Shared}{R:It->Hp->Prop}{E:Value->Shared->Prop}{lo hi:Int}{t u v:Tok}{tk:Nat}(I:Inv X pins σ H s)(h1 : -(2^62)<=lo)(h2:lo<2^62)(h3 : -(2^62)<=hi)(h4:hi<2^62)
  (q:R (Itr lo (hi-lo).toNat) H):wpAny (model X.prog X.w) X.A (pyIter (.ref s.heap.objs.size)) (PIE X pins σ tg R) E { s with heap:=s.heap.push { cls:=.type "range",data:=.fields #[.int lo t,.int hi u,.int 1 v] },toks:=tk }:=by
 refine wpAny_pyIter_range (IsRange.new ..) (small_one h1 h2 h3 h4) ?_;have I1:Inv X pins σ H { s with heap:=s.heap.push { cls:=.type "range",data:=.fields #[.int lo t,.int hi u,.int 1 v] },toks:=tk }:=I.kept fun b o e=>Heap.get?_push_of_some _ e
 refine⟨(s.heap.push { cls:=.type "range",data:=.fields #[.int lo t,.int hi u,.int 1 v] }).objs.size,[(s.heap.push { cls:=.type "range",data:=.fields #[.int lo t,.int hi u,.int 1 v] }).objs.size],_,_,H,rfl,
  I1.kept (t':=tk) fun b o e=>Heap.get?_push_of_some _ e,rZ _ lo (hi-lo).toNat,?_,fun b hb=>?_,q⟩
 ·have e1:lo+((0:Nat):Int)*1=lo:=by simp
  have e2:(((hi-lo).toNat:Nat):Int)-((0:Nat):Int)=Builtin.Range.rangeSize lo hi 1:=by rw[rangeSize_one];split<;>ac_rfl
  show IsRangeIter _ _ (lo+((0:Nat):Int)*1) ((((hi-lo).toNat:Nat):Int)-((0:Nat):Int)) 1;rw[e1,e2];exact Heap.get?_push_size _ rfl
 ·have e:b=(s.heap.push { cls:=.type "range",data:=.fields #[.int lo t,.int hi u,.int 1 v] }).objs.size:=by simpa using hb
  subst e;exact I1.fpOk (BI _) (I1.hok.fresh (BI _))
noncomputable def iRng1(ta:TA):TI:=fun σ H R=>ta σ H fun vs H1=>∃ j:Int,vs = [.int j]/\-(2^62)<=j/\j<2^62/\R (Itr 0 j.toNat) H1
theorem bw{a:Expr}{ta:TA}{p pos:Pos} (hg:Gl X "range") (hm:X.mg "range" = none) (ha:PA X [a] ta) (hs:starEach [a] X.env = [(false,eval a X.env)]:=by rfl):PI X tg (.Call (.Name "range" p) [a] [] pos) (iRng1 ta):=by
 intro pins s σ H R I h;refine Call_ (nY I hg hm boot_range (PyProof.Rows.callWith_type1 (thn (ha pos pins s σ H _ I h) fun us s1 ⟨vs,H1,I1,r1,q1⟩=>?_) hs rfl));obtain⟨j,e,q1,q2,q⟩:=q1;subst e
 cases r1 with
 |cons r rr =>
  cases rr
  obtain⟨t,rfl⟩:=r;exact call_range_1 (xR I1 (by omega) (by omega) q1 q2 (by simpa using q))
noncomputable def tFor(wi:TI)(g:TG)(tb:TS):TS:=fun D σ H=>wi σ H fun J H1=>∃ W:Nat->Nat->St->Hp->Prop,(∃ m,W 0 m σ H1)/\∀ i m σ H,W i m σ H ->
 (J.stop i H/\D.nx σ H)∨(J.go i H/\∃ N:St->Hp->Prop,(∀ σ' H',N σ' H'->∃ m',m'<m/\W (i+1) m' σ' H')/\∀ x H',J.yld i H x H'->g x σ H' fun σ2 H2=>tb { D with nx:=N,ct:=N,bk:=D.nx } σ2 H2)
noncomputable def ka(fp:List Addr)(h:Heap):List (Addr×Obj):=fp.filterMap fun b=>(h.get? b).map fun o=>(b,o)
theorem eP{fp:List Addr}{h:Heap}{b:Addr}{o:Obj}(hb:b∈fp)(e:h.get? b=some o):(b,o)∈ka fp h:=Fx.mpr ⟨b,hb,by rw[e];rfl⟩
theorem vJ{fp:List Addr}{h:Heap}{p:Addr×Obj}(hp:p∈ka fp h):p.1∈fp/\h.get? p.1=some p.2:=by
 obtain⟨b,hb,e⟩:=Fx.mp hp
 cases q:h.get? b with
 |none=>rw[q]at e;cases e
 |some o =>
  rw[q]at e;have e':(b,o)=p:=Ci e;subst e';exact⟨hb,q⟩
theorem Inv.pinned{pins:List (Addr×Obj)}{σ:St}{H:Hp}{s:Shared}{fp:List Addr}(I:Inv X pins σ H s)(hf:∀ b∈fp,FpOk X pins H b)(ho:∀ b∈fp,∃ o,s.heap.get? b=some o/\∀ v,o.data≠.cell v):Inv X (pins++ka fp s.heap) σ H s :=
 I.pins_of fun p hp=>(BN.mp hp).elim (fun z=>I.pin p (B0 _ z)) fun z=>by
  obtain⟨hb,e⟩:=vJ z;obtain⟨f0,f1,f2,_⟩:=hf p.1 hb;obtain⟨o,e',d⟩:=ho p.1 hb;rw[e]at e';cases e';exact⟨e,f0,f1,f2,d⟩
theorem Inv.unpinned{pins pl:List (Addr×Obj)}{σ:St}{H:Hp}{s:Shared}(I:Inv X (pins++pl) σ H s):Inv X pins σ H s:=I.pins_of fun p hp=>I.pin p (B0 _ (CD _ hp))
theorem cL{iter:Expr}{body:List Stmt}{wi:TI}{g:TG}{tb:TS}{pos:Pos}(hp:PassesOwn (model X.prog X.w) X.A X.env X.xe)(hc:X.calm=true)(hi:PI X tg iter wi)(hg:PG X tg g)(hb:PSs X body tb)
  (hs:∀ x,foldedSetIterable iter X.env x=pure x:=by intro _;rfl):PS X (.For tg iter body [] pos) (tFor wi g tb):=by
 intro pins s σ H D I h;refine wpAny_For (thn (hi pins s σ H _ I h) fun v s1 h1=>thn h1 fun itv s2 h2=>?_) hs;obtain⟨it,fp,tn,J,H2,e,I2,T,st2,f2,W,⟨m0,w0⟩,turn⟩:=h2;subst e;have stat:∀{H':Hp},(∀ b∈fp,H' b=none)->∀ b∈fp,FpOk X pins H' b:=fun hn b hb=>⟨hn b hb,(f2 b hb).2⟩;refine codeAny_forLoop_any (fun n s'=>∃ i σ' H',Inv X pins σ' H' s'/\tn i s'.heap/\(∀ b∈fp,H' b=none)/\W i n σ' H') ?_ m0 ⟨0,σ,H2,I2,st2,fun b hb=>(f2 b hb).1,w0⟩;rintro n s3 ⟨i,σ3,H3,I3,st3,fr3,w3⟩;rcases turn i n σ3 H3 w3 with⟨stop,qn⟩ | ⟨go,N,hN,step⟩
 ·refine wpAny_passesOwn hp (thn (T.done X rfl rfl rfl hc i pins s3 σ3 H3 X.xe I3 (stat fr3) st3 stop) fun r s4 ⟨hr,I4⟩=>?_);subst hr;exact wpAny_execs_nil ⟨σ3,H3,I4,qn⟩
 ·refine wpAny_passesOwn hp (thn (T.item X rfl rfl rfl hc i pins s3 σ3 H3 X.xe I3 (stat fr3) st3 go) fun r s4 ⟨u,hr,h4⟩=>?_);subst hr;refine wpAny_passesOwn hp (thn h4 fun _ s5 ⟨x,H5,I5,r5,y5,st5,fr5⟩=>?_);have I5':=I5.pinned (stat fr5) (T.obj _ _ st5);refine wpAny_passesOwn hp (thn (hg _ s5 σ3 H5 x u _ I5' r5 (step x H5 y5)) fun _ s6 ⟨σ6,H6,I6,q6⟩=>?_);refine wpAny_passesOwn hp (thn (hb _ s6 σ6 H6 _ I6 q6) fun f s7 q7=>?_);have again:∀{σ7:St}{H7:Hp},Inv X (pins++ka fp s5.heap) σ7 H7 s7->N σ7 H7->∃ m,m<n/\∃ i σ' H',Inv X pins σ' H' s7/\tn i s7.heap/\(∀ b∈fp,H' b=none)/\W i m σ' H':=fun{σ7 H7} I7 n7=>by
   obtain⟨m',hm,w7⟩:=hN σ7 H7 n7;refine⟨m',hm,i+1,σ7,H7,I7.unpinned,T.keep _ _ _ st5 fun b hb o e=>(I7.pin (b,o) (B0 _ (B0 _ (eP hb e)))).1,fun b hb=>?_,w7⟩;obtain⟨o,e,d⟩:=T.obj _ _ st5 b hb;exact(I7.pin (b,o) (B0 _ (B0 _ (eP hb e)))).2.1
  cases f with
  |next=>obtain⟨σ7,H7,I7,n7⟩:=q7;exact again I7 n7
  |cont=>obtain⟨σ7,H7,I7,n7⟩:=q7;exact again I7 n7
  |brk=>obtain⟨σ7,H7,I7,q7⟩:=q7;exact⟨σ7,H7,I7.unpinned,q7⟩
  |ret v=>obtain⟨x7,σ7,H7,I7,r7,q7⟩:=q7;exact⟨x7,σ7,H7,I7.unpinned,r7,q7⟩
end
theorem gs{K:BD}{a:Addr}{xs:List V}{g:TG}{tb:TS}{D:Ends}{σ:St}{H:Hp}(Pv:Nat->St->Hp->Prop)(h0:Pv 0 σ H)(hl:∀ i σ H,i<=xs.length->Pv i σ H->SqL K H a xs)
  (hs:∀ i x σ H,xs[i]?=some x->Pv i σ H->g x σ H fun σ2 H2=>tb { D with nx:=Pv (i+1),ct:=Pv (i+1),bk:=D.nx } σ2 H2) (hd:∀ σ H,Pv xs.length σ H->D.nx σ H) :
  ∃ W:Nat->Nat->St->Hp->Prop,(∃ m,W 0 m σ H)/\∀ i m σ H,W i m σ H ->
   ((Itl K a).stop i H/\D.nx σ H)∨((Itl K a).go i H/\∃ N:St->Hp->Prop,(∀ σ' H',N σ' H'->∃ m',m'<m/\W (i+1) m' σ' H')/\∀ x H',(Itl K a).yld i H x H'->g x σ H' fun σ2 H2=>tb { D with nx:=N,ct:=N,bk:=D.nx } σ2 H2):=by
 refine⟨fun i m σ H=>m=xs.length-i/\i<=xs.length/\Pv i σ H,⟨xs.length,by simp,C4 _,h0⟩,?_⟩
 rintro i m σ H ⟨rfl,hi,p⟩;have q:=hl i σ H hi p;by_cases hlt:i<xs.length
 ·refine .inr ⟨⟨xs,xs[i],q,by simp[hlt]⟩,Pv (i+1),fun σ' H' p'=>⟨xs.length-(i+1),by omega,rfl,hlt,p'⟩,fun x H' y=>?_⟩
  obtain⟨e,y⟩:=y;subst e;exact hs i x σ _ (y xs q) p
 ·have e:i=xs.length:=by omega
  subst e;exact .inl ⟨⟨xs,q,BI _⟩,hd σ H p⟩
theorem cb{lo:Int}{n:Nat}{g:TG}{tb:TS}{D:Ends}{σ:St}{H:Hp}(Pv:Nat->St->Hp->Prop)(h0:Pv 0 σ H)
  (hs:∀ i σ H,i<n->Pv i σ H->g (.int (lo+i)) σ H fun σ2 H2=>tb { D with nx:=Pv (i+1),ct:=Pv (i+1),bk:=D.nx } σ2 H2) (hd:∀ σ H,Pv n σ H->D.nx σ H) :
  ∃ W:Nat->Nat->St->Hp->Prop,(∃ m,W 0 m σ H)/\∀ i m σ H,W i m σ H ->
   ((Itr lo n).stop i H/\D.nx σ H)∨((Itr lo n).go i H/\∃ N:St->Hp->Prop,(∀ σ' H',N σ' H'->∃ m',m'<m/\W (i+1) m' σ' H')/\∀ x H',(Itr lo n).yld i H x H'->g x σ H' fun σ2 H2=>tb { D with nx:=N,ct:=N,bk:=D.nx } σ2 H2):=by
 refine⟨fun i m σ H=>m=n-i/\i<=n/\Pv i σ H,⟨n,by simp,C4 _,h0⟩,?_⟩
 rintro i m σ H ⟨rfl,hi,p⟩;by_cases hlt:i<n
 ·refine .inr ⟨hlt,Pv (i+1),fun σ' H' p'=>⟨n-(i+1),by omega,rfl,hlt,p'⟩,fun x H' y=>?_⟩
  obtain⟨e,y⟩:=y;subst e y;exact hs i σ _ hlt p
 ·have e:i=n:=by omega
  subst e;exact .inl ⟨BI _,hd σ H p⟩
theorem qK{c:TT}{tb:TS}{D:Ends}{σ:St}{H:Hp}(Pv:St->Hp->Prop)(μ:St->Hp->Nat)(h0:Pv σ H)
  (hs:∀ σ H,Pv σ H->c σ H fun b H1=>if b=true then tb { D with nx:=fun σ' H'=>Pv σ' H'/\μ σ' H'<μ σ H,ct:=fun σ' H'=>Pv σ' H'/\μ σ' H'<μ σ H,bk:=D.nx } σ H1 else D.nx σ H1)
  (mono:∀ σ H Q Q',(∀ b H1,Q b H1->Q' b H1)->c σ H Q->c σ H Q'):yS c tb D σ H:=by
 refine⟨fun m σ H=>m=μ σ H/\Pv σ H,⟨_,rfl,h0⟩,?_⟩;rintro m σ H ⟨rfl,p⟩;refine mono σ H _ _ (fun b H1 q=>?_) (hs σ H p)
 cases b with
 |true=>exact⟨_,fun σ' H' ⟨p',l⟩=>⟨_,l,rfl,p'⟩,q⟩
 |false=>exact q
noncomputable abbrev R2:=V->V->Hp->VK->Prop
noncomputable def OpR(X:Cx)(f:Value->Value->Sem Value)(r:R2):Prop :=
 ∀(pins:List (Addr×Obj))(s:Shared)(σ:St)(H:Hp)(x y:V)(v u:Value)(Q:VK),Inv X pins σ H s->RelV x v->RelV y u->r x y H Q ->
  wpAny (model X.prog X.w) X.A (f v u) (EP X pins σ Q) X.xe s
noncomputable def UnR(X:Cx)(f:Value->Sem Value)(r:V->Hp->VK->Prop):Prop :=
 ∀(pins:List (Addr×Obj))(s:Shared)(σ:St)(H:Hp)(x:V)(v:Value)(Q:VK),Inv X pins σ H s->RelV x v->r x H Q ->
  wpAny (model X.prog X.w) X.A (f v) (EP X pins σ Q) X.xe s
noncomputable def gg(X:Cx)(f:Value)(r:List V->Hp->VK->Prop):Prop :=
 ∀(pins:List (Addr×Obj))(s:Shared)(σ:St)(H:Hp)(xs:List V)(us:List Value)(Q:VK),Inv X pins σ H s->Vals xs us->r xs H Q ->
  wpAny (model X.prog X.w) X.A (call f us) (EP X pins σ Q) X.xe s
noncomputable def tOp(r:R2)(ta tb:TE):TE:=fun σ H Q=>ta σ H fun x H1=>tb σ H1 fun y H2=>r x y H2 Q
noncomputable def tUn(r:V->Hp->VK->Prop)(ta:TE):TE:=fun σ H Q=>ta σ H fun x H1=>r x H1 Q
noncomputable def rI(C:Int->Int->Prop)(g:Int->Int->V):R2:=fun x y H Q=>∃ i j,x=.int i/\y=.int j/\C i j/\Q (g i j) H
noncomputable def rI0(g:Int->Int->V):R2:=fun x y H Q=>∃ i j,x=.int i/\y=.int j/\Q (g i j) H
noncomputable def rU(g:Int->V):V->Hp->VK->Prop:=fun x H Q=>∃ i,x=.int i/\Q (g i) H
section
variable{X:Cx}{a b c:Expr}{ta tb tc:TE}{pos:Pos}
theorem binT(ha:PE X a ta)(hb:PE X b tb){pins:List (Addr×Obj)}{s:Shared}{σ:St}{H:Hp}{R:V->V->Hp->Prop}(I:Inv X pins σ H s)
  (h:ta σ H fun x H1=>tb σ H1 fun y H2=>R x y H2) {Q:Value->Shared->Prop} {f:Value->Value->Sem Value}
  (hf:∀ v u s2 x y H2,Inv X pins σ H2 s2->RelV x v->RelV y u->R x y H2->wpAny (model X.prog X.w) X.A (f v u) Q X.xe s2) :
  wpAny (model X.prog X.w) X.A (eval a X.env) (fun v s₁=>wpAny (model X.prog X.w) X.A (eval b X.env) (fun u s₂=>wpAny (model X.prog X.w) X.A (f v u) Q X.xe s₂) X.xe s₁) X.xe s:=by
 refine thn (ha pins s σ H _ I h) fun v s1 ⟨x,H1,I1,r1,q1⟩=>?_;refine thn (hb pins s1 σ H1 _ I1 q1) fun u s2 ⟨y,H2,I2,r2,q2⟩=>?_;exact hf v u s2 x y H2 I2 r1 r2 q2
theorem aq{op:Operator}{r:R2}(ho:OpR X (binaryOp op) r)(ha:PE X a ta)(hb:PE X b tb):PE X (.BinOp a op b pos) (tOp r ta tb):=by
 intro pins s σ H Q I h;exact wpAny_BinOp (binT ha hb I h fun v u s2 x y H2 I2 rx ry q=>ho pins s2 σ H2 x y v u Q I2 rx ry q)
theorem Ay{op:UnaryOp}{r:V->Hp->VK->Prop}(ho:UnR X (unaryOp op) r)(ha:PE X a ta):PE X (.UnaryOp op a pos) (tUn r ta):=by
 intro pins s σ H Q I h;exact UnaryOp_ (thn (ha pins s σ H _ I h) fun v s1 ⟨x,H1,I1,r1,q1⟩=>ho pins s1 σ H1 x v Q I1 r1 q1)
theorem opI{f:Value->Value->Sem Value}{C:Int->Int->Prop}{g:Int->Int->Int}
  (rule:∀(i j:Int)(t u:Tok)(s:Shared)(Q:Value->Shared->Prop)(E:Value->Shared->Prop),C i j->Q (.int (g i j) s.toks) { s with toks:=s.toks+1 }->wpAny (model X.prog X.w) X.A (f (.int i t) (.int j u)) Q E s) :
  OpR X f (rI C fun i j=>.int (g i j)):=by
 intro pins s σ H x y v u Q I rx ry h;obtain⟨i,j,rfl,rfl,hc,q⟩:=h;obtain⟨t,rfl⟩:=rx;obtain⟨t',rfl⟩:=ry;exact rule i j t t' s _ _ hc ⟨.int (g i j),H,I.tok _,⟨_,rfl⟩,q⟩
theorem opI0{f:Value->Value->Sem Value}{g:Int->Int->Int}
  (rule:∀(i j:Int)(t u:Tok)(s:Shared)(Q:Value->Shared->Prop)(E:Value->Shared->Prop),Q (.int (g i j) s.toks) { s with toks:=s.toks+1 }->wpAny (model X.prog X.w) X.A (f (.int i t) (.int j u)) Q E s) :
  OpR X f (rI0 fun i j=>.int (g i j)):=by
 intro pins s σ H x y v u Q I rx ry h;obtain⟨i,j,rfl,rfl,q⟩:=h;obtain⟨t,rfl⟩:=rx;obtain⟨t',rfl⟩:=ry;exact rule i j t t' s _ _ ⟨.int (g i j),H,I.tok _,⟨_,rfl⟩,q⟩
theorem opB0{f:Value->Value->Sem Value}{g:Int->Int->Bool}
  (rule:∀(i j:Int)(t u:Tok)(s:Shared)(Q:Value->Shared->Prop)(E:Value->Shared->Prop),Q (.bool (g i j)) s->wpAny (model X.prog X.w) X.A (f (.int i t) (.int j u)) Q E s) :
  OpR X f (rI0 fun i j=>.bl (g i j)):=by
 intro pins s σ H x y v u Q I rx ry h;obtain⟨i,j,rfl,rfl,q⟩:=h;obtain⟨t,rfl⟩:=rx;obtain⟨t',rfl⟩:=ry;exact rule i j t t' s _ _ ⟨.bl (g i j),H,I,rfl,q⟩
noncomputable def CDiv(i j:Int):Prop:=0<j/\j<1073741824
noncomputable def CPow(i j:Int):Prop:=0<=j/\j<=1000000/\i.natAbs<2^64
noncomputable def CMul(i j:Int):Prop:=(-(2^64)<i/\i<2^64)∨(-(2^64)<j/\j<2^64)
theorem CMul.ok{i j:Int}(h:CMul i j):IntMulOk i j:=by
 rcases h with⟨h1,h2⟩ | ⟨h1,h2⟩
 ·exact .of_left (intBits_le_64 h1 h2)
 ·exact .of_right (intBits_le_64 h1 h2)
theorem aU:OpR X (binaryOp .Add) (rI0 fun i j=>.int (i+j)):=opI0 fun _ _ _ _ _ _ _ q=>add_int q
theorem cM:OpR X (binaryOp .Sub) (rI0 fun i j=>.int (i-j)):=opI0 fun _ _ _ _ _ _ _ q=>sub_int q
theorem cN:OpR X (binaryOp .Mult) (rI CMul fun i j=>.int (i*j)):=opI fun _ _ _ _ _ _ _ hc q=>mul_int q hc.ok
theorem a9:OpR X (binaryOp .FloorDiv) (rI CDiv fun i j=>.int (i/j)):=opI fun i j _ _ _ _ _ hc q=>by
 have h1:(0:Int)<j:=hc.1;have h2:j<1073741824:=hc.2;exact floordiv_int (by omega) (by rw[Int.fdiv_eq_ediv_of_nonneg i (by omega)];exact q) (.inl (PyProof.noPylong_small (by omega)))
theorem aT:OpR X (binaryOp .Mod) (rI (fun _ j=>0<j) fun i j=>.int (i%j)):=opI fun i j _ _ _ _ _ hc q=>by
 have h1:(0:Int)<j:=hc;exact mod_int' (by omega) (by rw[Int.fmod_eq_emod_of_nonneg i (by omega)];exact q)
theorem kg:OpR X (binaryOp .Pow) (rI CPow fun i j=>.int (i^j.toNat)):=opI fun _ _ _ _ _ _ _ hc q=>pow_int_small hc.1 hc.2.1 hc.2.2 q
theorem rj:OpR X (binaryOp .LShift) (rI CPow fun i j=>.int (i*2^j.toNat)):=opI fun _ _ _ _ _ _ _ hc q=>lshift_int_small hc.1 hc.2.1 hc.2.2 q
theorem op_and:OpR X (binaryOp .BitAnd) (rI0 fun i j=>.int (Builtin.bitAnd i j)):=opI0 fun _ _ _ _ _ _ _ q=>and_int q
theorem op_or:OpR X (binaryOp .BitOr) (rI0 fun i j=>.int (Builtin.bitOr i j)):=opI0 fun _ _ _ _ _ _ _ q=>or_int q
theorem unI{f:Value->Sem Value}{g:Int->Int}
  (rule:∀(i:Int)(t:Tok)(s:Shared)(Q:Value->Shared->Prop)(E:Value->Shared->Prop),Q (.int (g i) s.toks) { s with toks:=s.toks+1 }->wpAny (model X.prog X.w) X.A (f (.int i t)) Q E s) :
  UnR X f (rU fun i=>.int (g i)):=by
 intro pins s σ H x v Q I rx h;obtain⟨i,rfl,q⟩:=h;obtain⟨t,rfl⟩:=rx;exact rule i t s _ _ ⟨.int (g i),H,I.tok _,⟨_,rfl⟩,q⟩
theorem ur:UnR X (unaryOp .USub) (rU fun i=>.int (-i)):=unI fun _ _ _ _ _ q=>neg_int q
end
noncomputable def scal:V->V->Bool
 |.non,.non=>true | .non,.int _=>true | .int _,.non=>true | .non,.bl _=>true | .bl _,.non=>true | .non,.str _=>true | .str _,.non=>true
 |.int _,.int _=>true | .bl _,.bl _=>true | .str _,.str _=>true | .byt _,.byt _=>true
 |.int _,.str _=>true | .str _,.int _=>true | .bl _,.str _=>true | .str _,.bl _=>true
 |_,_=>false
noncomputable def rEq:R2:=fun x y H Q=>scal x y=true/\Q (.bl (decide (x=y))) H
noncomputable def rNe:R2:=fun x y H Q=>scal x y=true/\Q (.bl (!decide (x=y))) H
theorem wJ{i j:Int}:decide (V.int i=V.int j)=(i == j):=by
 rw[Eg];simp
theorem zI{i j:Bool}:decide (V.bl i=V.bl j)=(i == j):=by
 rw[Eg];simp
theorem wI{i j:Str}:decide (V.str i=V.str j)=(i == j):=by
 rw[Eg];simp
theorem wK{i j:Array UInt8}:decide (V.byt i=V.byt j)=(i.toList == j.toList):=by
 rw[Eg]
 cases i
 cases j
 simp
section
variable{X:Cx}{a b c:Expr}{ta tb tc:TE}{pos:Pos}
theorem bt{pins:List (Addr×Obj)}{σ:St}{H:Hp}{s:Shared}{Q:VK}{k k':Bool}(I:Inv X pins σ H s)(q:Q (.bl k) H)(e:k=k'):EP X pins σ Q (.bool k') s:=by
 subst e;exact⟨.bl k,H,I,rfl,q⟩
theorem bu:OpR X (compareOp .Eq) rEq:=by
 intro pins s σ H x y v u Q I rx ry h;obtain⟨hs,q⟩:=h
 cases x with
 |non =>
  cases rx
  cases y with
  |non=>cases ry;exact PySem.EqNone.eq_none_none (bt I q (by simp))
  |bl j=>cases ry;exact PySem.EqNone.eq_none_bool (bt I q (by simp))
  |int j=>obtain⟨t',rfl⟩:=ry;exact PySem.EqNone.eq_none_int (bt I q (by simp))
  |str j=>obtain⟨t',rfl⟩:=ry;exact PySem.EqNone.eq_none_str (bt I q (by simp))
  |_=>exact absurd (show false=true from hs) Cf
 |bl i =>
  cases rx
  cases y with
  |non=>cases ry;exact PySem.EqNone.eq_bool_none (bt I q (by simp))
  |bl j=>cases ry;exact eq_bool (bt I q zI)
  |str j=>obtain⟨t',rfl⟩:=ry;exact PySem.EqMixed.eq_bool_str (bt I q (by simp))
  |_=>exact absurd (show false=true from hs) Cf
 |int i =>
  obtain⟨t,rfl⟩:=rx
  cases y with
  |non=>cases ry;exact PySem.EqNone.eq_int_none (bt I q (by simp))
  |int j=>obtain⟨t',rfl⟩:=ry;exact eq_int (bt I q wJ)
  |str j=>obtain⟨t',rfl⟩:=ry;exact PySem.EqMixed.eq_int_str (bt I q (by simp))
  |_=>exact absurd (show false=true from hs) Cf
 |str i =>
  obtain⟨t,rfl⟩:=rx
  cases y with
  |non=>cases ry;exact PySem.EqNone.eq_str_none (bt I q (by simp))
  |bl j=>cases ry;exact PySem.EqMixed.eq_str_bool (bt I q (by simp))
  |int j=>obtain⟨t',rfl⟩:=ry;exact PySem.EqMixed.eq_str_int (bt I q (by simp))
  |str j=>obtain⟨t',rfl⟩:=ry;exact eq_str (bt I q wI)
  |_=>exact absurd (show false=true from hs) Cf
 |byt i =>
  obtain⟨t,rfl⟩:=rx
  cases y with
  |byt j=>obtain⟨t',rfl⟩:=ry;exact PySem.W.eq_bytes (bt I q wK)
  |_=>exact absurd (show false=true from hs) Cf
 |_=>cases y<;>exact absurd (show false=true from hs) Cf
theorem jB:OpR X (compareOp .NotEq) rNe:=by
 intro pins s σ H x y v u Q I rx ry h;obtain⟨hs,q⟩:=h
 cases x with
 |non =>
  cases rx
  cases y with
  |non=>cases ry;exact PySem.EqNone.ne_none_none (bt I q (by simp))
  |bl j=>cases ry;exact PySem.EqNone.ne_none_bool (bt I q (by simp))
  |int j=>obtain⟨t',rfl⟩:=ry;exact PySem.EqNone.ne_none_int (bt I q (by simp))
  |str j=>obtain⟨t',rfl⟩:=ry;exact PySem.EqNone.ne_none_str (bt I q (by simp))
  |_=>exact absurd (show false=true from hs) Cf
 |bl i =>
  cases rx
  cases y with
  |non=>cases ry;exact PySem.EqNone.ne_bool_none (bt I q (by simp))
  |bl j=>cases ry;exact ne_bool (bt I q (congrArg not zI))
  |str j=>obtain⟨t',rfl⟩:=ry;exact PySem.EqMixed.ne_bool_str (bt I q (by simp))
  |_=>exact absurd (show false=true from hs) Cf
 |int i =>
  obtain⟨t,rfl⟩:=rx
  cases y with
  |non=>cases ry;exact PySem.EqNone.ne_int_none (bt I q (by simp))
  |int j=>obtain⟨t',rfl⟩:=ry;exact ne_int (bt I q (congrArg not wJ))
  |str j=>obtain⟨t',rfl⟩:=ry;exact PySem.EqMixed.ne_int_str (bt I q (by simp))
  |_=>exact absurd (show false=true from hs) Cf
 |str i =>
  obtain⟨t,rfl⟩:=rx
  cases y with
  |non=>cases ry;exact PySem.EqNone.ne_str_none (bt I q (by simp))
  |bl j=>cases ry;exact PySem.EqMixed.ne_str_bool (bt I q (by simp))
  |int j=>obtain⟨t',rfl⟩:=ry;exact PySem.EqMixed.ne_str_int (bt I q (by simp))
  |str j=>obtain⟨t',rfl⟩:=ry;exact ne_str (bt I q (congrArg not wI))
  |_=>exact absurd (show false=true from hs) Cf
 |byt i =>
  obtain⟨t,rfl⟩:=rx
  cases y with
  |byt j=>obtain⟨t',rfl⟩:=ry;exact PySem.W.ne_bytes (bt I q (congrArg not wK))
  |_=>exact absurd (show false=true from hs) Cf
 |_=>cases y<;>exact absurd (show false=true from hs) Cf
theorem md:OpR X (compareOp .Lt) (rI0 fun i j=>.bl (decide (i<j))):=opB0 fun _ _ _ _ _ _ _ q=>lt_int q
theorem nR:OpR X (compareOp .Gt) (rI0 fun i j=>.bl (decide (j<i))):=opB0 fun _ _ _ _ _ _ _ q=>gt_int q
theorem xX:OpR X (compareOp .GtE) (rI0 fun i j=>.bl (decide (j<=i))):=opB0 fun _ _ _ _ _ _ _ q=>ge_int q
theorem vB:OpR X (compareOp .In) (fun x y H Q=>∃ i j,x=.str i/\y=.str j/\Q (.bl (!(Builtin.Str.occurrences j i 0 j.length 1).isEmpty)) H):=by
 intro pins s σ H x y v u Q I rx ry h;obtain⟨i,j,rfl,rfl,q⟩:=h;obtain⟨t,rfl⟩:=rx;obtain⟨t',rfl⟩:=ry;exact in_str (bt I q rfl)
theorem nP:OpR X (compareOp .Is) (fun x y H Q=>y=.non/\Q (.bl (decide (x=.non))) H):=by
 intro pins s σ H x y v u Q I rx ry h;obtain⟨rfl,q⟩:=h
 cases ry
 refine is_none_gen (bt I q ?_)
 cases x<;>first
  | (cases rx;rfl)
  | (obtain⟨t,rfl⟩:=rx;rfl)
theorem aA(b:Expr){op:CmpOp}(h:op≠.In:=by decide)(h2:op≠.NotIn:=by decide):behindInMarks op b=false:=by
 have e1:(op == CmpOp.In)=false:=by cases op<;>first | rfl | exact absurd rfl h
 have e2:(op == CmpOp.NotIn)=false:=by cases op<;>first | rfl | exact absurd rfl h2
 cases b<;>simp[behindInMarks,e1,e2]
theorem cR{op:CmpOp}{r:R2}(ho:OpR X (compareOp op) r)(ha:PE X a ta)(hb:PE X b tb)(hm:behindInMarks op b=false):PE X (.Compare a [op] [b] pos) (tOp r ta tb):=by
 intro pins s σ H Q I h;exact wpAny_Compare1 (binT ha hb I h fun v u s2 x y H2 I2 rx ry q=>ho pins s2 σ H2 x y v u Q I2 rx ry q) hm
noncomputable def tTest(t:TE):TT:=fun σ H Q=>t σ H fun x H'=>∃ k,x=.bl k/\Q k H'
theorem ax{op:CmpOp}{r:R2}(ho:OpR X (compareOp op) r)(ha:PE X a ta)(hb:PE X b tb)(hm:behindInMarks op b=false):PT X (.Compare a [op] [b] pos) (tTest (tOp r ta tb)):=by
 intro pins s σ H Q I h
 refine wpAny_isTrue_Compare1 (thn (ha pins s σ H _ I h) fun v s1 ⟨x,H1,I1,r1,q1⟩=>thn (hb pins s1 σ H1 _ I1 q1) fun u s2 ⟨y,H2,I2,r2,q2⟩ =>
  thn (ho pins s2 σ H2 x y v u _ I2 r1 r2 q2) fun c s3 ⟨z,H3,I3,r3,k,e,q3⟩=>?_) hm
 subst e
 cases r3
 exact wpAny_truthy_bool ⟨H3,I3,q3⟩
theorem ku:(sizeLine:Nat)<2^63:=by rw[sizeLine_eq];decide
theorem ba:OpR X (binaryOp .Add) (fun x y H Q=>∃ i j,x=.str i/\y=.str j/\i.length+j.length<=sizeLine/\Q (.str (i++j)) H):=by
 intro pins s σ H x y v u Q I rx ry h;obtain⟨i,j,rfl,rfl,hz,q⟩:=h;obtain⟨t,rfl⟩:=rx;obtain⟨t',rfl⟩:=ry;exact add_str (fun t' tk=>⟨.str (i++j),H,I.tok _,⟨_,rfl⟩,q⟩) hz
theorem kZ{x:V}{us:List Value}(r:Vals [x] us):∃ u,us = [u]/\RelV x u:=by
 cases r with
 |cons r1 r2=>cases r2;exact⟨_,rfl,r1⟩
theorem uo{x y:V}{us:List Value}(r:Vals [x,y] us):∃ u w',us = [u,w']/\RelV x u/\RelV y w':=by
 cases r with
 |cons r1 r2 =>
  cases r2 with
  |cons r3 r4=>cases r4;exact⟨_,_,rfl,r1,r3⟩
theorem oE(hc:X.calm=true):gg X (.builtin "max") (fun xs H Q=>∃ i j,xs = [.int i,.int j]/\Q (.int (if j > i then j else i)) H):=by
 intro pins s σ H xs us Q I r h;obtain⟨i,j,rfl,q⟩:=h;obtain⟨u,w',rfl,⟨t,rfl⟩,⟨t',rfl⟩⟩:=uo r;refine max_two_ints (I.ok.hd hc) fun h' tk k=>⟨_,H,I.kept k,?_,q⟩;by_cases hj:j > i
 ·rw[if_pos hj,if_pos hj];exact⟨_,rfl⟩
 ·rw[if_neg hj,if_neg hj];exact⟨_,rfl⟩
theorem oB(hc:X.calm=true):gg X (.builtin "min") (fun xs H Q=>∃ i j,xs = [.int i,.int j]/\Q (.int (if j<i then j else i)) H):=by
 intro pins s σ H xs us Q I r h;obtain⟨i,j,rfl,q⟩:=h;obtain⟨u,w',rfl,⟨t,rfl⟩,⟨t',rfl⟩⟩:=uo r;refine min_two_ints (I.ok.hd hc) fun h' tk k=>⟨_,H,I.kept k,?_,q⟩;by_cases hj:j<i
 ·rw[if_pos hj,if_pos hj];exact⟨_,rfl⟩
 ·rw[if_neg hj,if_neg hj];exact⟨_,rfl⟩
theorem oH:gg X (.type "int") (fun xs H Q=>(∃ i,xs = [.int i]/\Q (.int i) H)∨∃ k,xs = [.bl k]/\Q (.int (if k then 1 else 0)) H):=by
 intro pins s σ H xs us Q I r h;rcases h with⟨i,rfl,q⟩ | ⟨k,rfl,q⟩
 ·obtain⟨u,rfl,t,rfl⟩:=kZ r;exact call_int_int ⟨.int i,H,I,⟨_,rfl⟩,q⟩
 ·obtain⟨u,rfl,r1⟩:=kZ r
  cases r1
  exact call_int_bool ⟨.int (if k then 1 else 0),H,I.tok _,⟨_,rfl⟩,q⟩
theorem aH:gg X (.type "str") (fun xs H Q=>∃ i,xs = [.int i]/\i.natAbs.log2<1920/\Q (.str (toString i)) H):=by
 intro pins s σ H xs us Q I r h;obtain⟨i,rfl,hz,q⟩:=h;obtain⟨u,rfl,t,rfl⟩:=kZ r;exact PySem.P.str_of_int hz ⟨.str _,H,I.tok _,⟨_,rfl⟩,q⟩
end
structure ObjM(h:Heap)(x dx C:Addr)(mA:Str->Option Value):Prop where
 obj:h.get? x=some (DT C dx)
 ns:h.Ns1 dx mA
 ne:dx≠x
theorem nW{h:Heap}{dx:Addr}{mA:Str->Option Value}(n:h.Ns1 dx mA):∃ od,h.get? dx=some od/\∀ name,Fn name od=some (mA name):=by
 obtain⟨o,es,ep,ho,hd,hk,_,hm⟩:=n;refine⟨o,ho,fun name=>?_⟩;have e:=hm name;unfold nsFind findBy at e;rw[← Array.find?_toList]at e;unfold Fn;rw[hd];dsimp only;split
 ·rename_i y q;rw[q]at e;exact congrArg some e
 ·rename_i q;rw[q]at e;have a:es.toList.any (·.refKey)=false:=by
   rw[List.any_eq_false];intro y hy;obtain⟨z,t,hkey⟩:=hk y (Array.mem_toList_iff.mp hy);simp[DictEntry.refKey,hkey]
  have a':¬ es.toList.any (·.refKey)=true:=by rw[a];exact Cf
  rw[if_neg a'];exact congrArg some e
theorem ObjM.look{h:Heap}{x dx C:Addr}{mA:Str->Option Value}(I:ObjM h x dx C mA):∃ od,PySem.W.InstAt h x (DT C dx) C (some od)/\∀ name,Fn name od=some (mA name) :=
 let ⟨od,ho,hl⟩:=nW I.ns
 ⟨od,⟨I.obj,rfl,rfl,ho⟩,hl⟩
section
variable{prog:Program}{w:World}{A:Around}{E:Value->Shared->Prop}{s:Shared}{K:BD}{x dx C f:Addr}{mA:Str->Option Value}{name:Str}{v:Value}
theorem Bb{expr:Bool}{Q:Value->Shared->Prop}(X:K.In s.heap)(I:ObjM s.heap x dx C mA)(hg:Ew K C name=true)(hh:Dp K C=true)
  (ha:B8 K (.ref C) name=some none) (hv:mA name=some v) (hv':FK v=true) (h:Q v { s with toks:=s.toks+1 }) :
  wpAny (model prog w) A (getAttr (.ref x) name expr) Q E s:=by
 obtain⟨od,J,hl⟩:=I.look;exact PySem.W.get_value X J (PySem.W.plainGet_of hg).1 (PySem.W.findObj_own hh ha rfl (by rw[hl,hv])) hv' h
theorem Aj{ns:List Str}{Q:Unit->Shared->Prop}(X:K.In s.heap)(I:ObjM s.heap x dx C mA)
  (hs:B8 K (.ref C) "__setattr__" = some (some (.builtin "object.__setattr__"))) (hp:EH K C=true) (ht:FT K C name=some none) (hh:Dp K C=true)
  (hw:PySem.Within mA ns) (hsz:ns.length<=sizeLine)
  (h:∀ h',ObjM h' x dx C (fun y=>if y=name then some v else mA y)->Heap.SameBut dx s.heap h'->Q () { s with heap:=h',toks:=s.toks+2 }) :
  wpAny (model prog w) A (setAttr (.ref x) name v) Q E s:=by
 obtain⟨od,J,hl⟩:=I.look;refine PySem.W.set_plain X J hs (PySem.W.osa_open (s:={ s with toks:=s.toks+1 }) (r:=none) X J hp ht fun b=>?_);obtain⟨cd,hc,hd'⟩:=Fe hh;have hx:s.heap.get? x=some ⟨.ref C,some dx,.plain,#[]⟩:=I.obj;refine wpAny_bind (wpAny_pure (wpAny_bind (wpAny_bind (wpAny_loadPart hx (wpAny_bind (PySem.W.Looks.here (s:={ s with toks:=s.toks+1 }) (PySem.W.looks_clsIn X hc) ?_))))));rw[hd'];refine wpAny_pure (a:=some dx) (wpAny_bind (wpAny_pure (wpAny_bind ?_)));refine wpAny_nsSet1 (s:={ s with toks:=s.toks+1 }) I.ns fun h' hn2 hs2=>?_;obtain⟨oD,esD,epD,hoD,hdD,hcD⟩:=hn2.count (PySem.Within.cons name v hw);refine wpAny_bind (wpAny_lookBehind hoD (by rw[hdD];exact pastItsLine_dict (Co hcD (by rw[BK];omega))) ?_)
 exact wpAny_pure (h _ ⟨(hs2.2 _ (Ne.symm I.ne)).trans I.obj,hn2,I.ne⟩ hs2)
theorem ym{R:Result->Shared->Prop}{vs:List Value}{kw:List (Str×Value)}(X:K.In s.heap)(hm:ES K C=true)
  (hi:B8 K (.ref C) "__init__" = some (some (.ref f))) (hf:PySem.W.typeIn K (.ref f)=some (.type "function"))
  (h:codeAny (model prog w) (A.under (.builtin "type.__call__" ⟨.ref C::vs,kw⟩)) (.call (.ref f) ⟨.ref (s.heap.objs.size+1)::vs,kw⟩) (PySem.W.InitBack (s.heap.objs.size+1) R)
   { s with heap:=(s.heap.push Dx).push (DT C s.heap.objs.size) }) :
  codeAny (model prog w) A (.call (.ref C) ⟨vs,kw⟩) R s:=by
 obtain⟨hh,g,d,t,os⟩:=s;exact PySem.W.make_core (PySem.W.makes_of X hm) (Dv X hi) (fun self=>PySem.W.bind_fn X self hf) (.inl rfl) h
end
noncomputable def putF(f:Str)(v:V):List (Str×V)->List (Str×V)
 |[]=>[(f,v)]
 | (g,x)::r=>if g=f then(g,v)::r else(g,x)::putF f v r
theorem aW(f g:Str)(v:V):∀ fs:List (Str×V),(putF f v fs).lookup g=if g=f then some v else fs.lookup g
 |[]=>by
  show EA g [(f,v)]=_;by_cases h:g=f
  ·have hb:(g == f)=true:=beq_iff_eq.mpr h
   simp only[EA,hb,if_pos h]
  ·have hb:(g == f)=false:=beq_eq_false_iff_ne.mpr h
   simp only[EA,hb,if_neg h]
 | (k,x)::r=>by
  have ih:=aW f g v r;rw[show putF f v ((k,x)::r)=(if k=f then(k,v)::r else(k,x)::putF f v r) from rfl];by_cases hk:k=f
  ·rw[if_pos hk];by_cases h:g=k
   ·have hb:(g == k)=true:=beq_iff_eq.mpr h
    simp only[EA,hb,if_pos (h.trans hk)]
   ·have hb:(g == k)=false:=beq_eq_false_iff_ne.mpr h
    simp only[EA,hb,if_neg (fun e:g=f=>h (e.trans hk.symm))]
  ·rw[if_neg hk];by_cases h:g=k
   ·have hb:(g == k)=true:=beq_iff_eq.mpr h
    simp only[EA,hb,if_neg (fun e:g=f=>hk (h.symm.trans e))]
   ·have hb:(g == k)=false:=beq_eq_false_iff_ne.mpr h
    simp only[EA,hb];exact ih
theorem kB(f:Str)(v:V):∀ fs:List (Str×V),f∈(putF f v fs).map (·.1)/\∀ g,g∈fs.map (·.1)->g∈(putF f v fs).map (·.1)
 |[]=>⟨by simp[putF],fun g h=>by simp at h⟩
 | (k,x)::r=>by
  obtain⟨i1,i2⟩:=kB f v r;rw[show putF f v ((k,x)::r)=(if k=f then(k,v)::r else(k,x)::putF f v r) from rfl];by_cases hk:k=f
  ·rw[if_pos hk];subst hk;exact⟨by simp,fun g h=>by simpa using h⟩
  ·rw[if_neg hk];refine⟨?_,fun g h=>?_⟩
   ·rw[BW];exact BO _ i1
   ·rw[BW]at h ⊢;rcases BG.mp h with e | e
    ·exact BG.mpr (.inl e)
    ·exact BO _ (i2 g e)
theorem kx(f:Str)(v:V):∀ fs:List (Str×V),(putF f v fs).length<=fs.length+1
 |[]=>by simp[putF]
 | (k,x)::r=>by
  have ih:=kx f v r;rw[show putF f v ((k,x)::r)=(if k=f then(k,v)::r else(k,x)::putF f v r) from rfl];by_cases hk:k=f
  ·rw[if_pos hk,BK,BK];omega
  ·rw[if_neg hk,BK,BK];omega
theorem RelO.some_of{v:V}{o:Option Value}(r:RelO (some v) o):∃ u,o=some u/\RelV v u:=by
 cases o with
 |none=>exact(show False from r).elim
 |some u=>exact⟨u,rfl,r⟩
theorem og{v:V}{u:Value}(r:RelV v u):FK u=true:=by
 cases v with
 |non=>cases (show u=Value.none from r);rfl
 |bl b=>cases (show u=Value.bool b from r);rfl
 |int i=>obtain⟨t,e⟩:=(show ∃ t,u=Value.int i t from r);cases e;rfl
 |str x=>obtain⟨t,e⟩:=(show ∃ t,u=Value.str x t from r);cases e;rfl
 |byt b=>obtain⟨t,e⟩:=(show ∃ t,u=Value.bytes b t from r);cases e;rfl
 |flt b=>obtain⟨t,e⟩:=(show ∃ t,u=Value.float b t from r);cases e;rfl
 |ref a=>cases (show u=Value.ref a from r);rfl
 |ty n=>cases (show u=Value.type n from r);rfl
section
variable{P:Program}{w:World}{H H':Hp}{h h':Heap}{a C dx:Addr}{fs fs':List (Str×V)}
theorem pY(hok:HOk P w H h)(e:H a=some (.ins C dx fs)):∃ mA,ObjM h a dx C mA/\(∀ f,RelO (fs.lookup f) (mA f))/\PySem.Within mA (fs.map (·.1))/\fs.length<=1000/\H dx=some (.own a):=by
 obtain⟨d,z,ne,ob,mA,n,r,q⟩:=(show bH P w H h a (.ins C dx fs) from hok a _ e);exact⟨mA,⟨ob,n,ne⟩,r,q,z,d⟩
end
structure Cls(K:BD)(C:Addr):Prop where
 pg:Ew K C Str.empty=true
 hd:Dp K C=true
 po:EH K C=true
 sa:B8 K (.ref C) "__setattr__" = some (some (.builtin "object.__setattr__"))
theorem Cls.get{K:BD}{C:Addr}(c:Cls K C)(f:Str):Ew K C f=true:=c.pg
noncomputable def eB(K:BD)(C:Addr)(f:Str):Prop:=B8 K (.ref C) f=some none
theorem eB.taker{K:BD}{C:Addr}{f:Str}(n:eB K C f):FT K C f=some none:=by
 unfold FT;rw[show B8 K (.ref C) f=some none from n];rfl
section
variable{X:Cx}{pins:List (Addr×Obj)}{σ:St}{H:Hp}{s:Shared}{a C dx:Addr}{fs:List (Str×V)}{f:Str}{v:V}{A:Around}{E:Value->Shared->Prop}
theorem sX{b:Bool}{Q:Value->Shared->Prop}(I:Inv X pins σ H s)(e:H a=some (.ins C dx fs))(c:Cls X.K C)(n:eB X.K C f)(l:fs.lookup f=some v)
  (h:∀ u s',Inv X pins σ H s'->RelV v u->Q u s'):wpAny (model X.prog X.w) A (getAttr (.ref a) f b) Q E s:=by
 obtain⟨mA,O,r,_,_,_⟩:=pY I.hok e;obtain⟨u,hu,ru⟩:=RelO.some_of (v:=v) (o:=mA f) (by rw[← l];exact r f)
 exact Bb I.kIn O (c.get f) c.hd n hu (og ru) (h u _ (I.tok _) ru)
theorem sh{y:V}{u:Value}{Q:Unit->Shared->Prop}(I:Inv X pins σ H s)(e:H a=some (.ins C dx fs))(c:Cls X.K C)(n:eB X.K C f)(hl:fs.length<1000)(ry:RelV y u)
  (h:∀ s',Inv X pins σ (upd H a (.ins C dx (putF f y fs))) s'->Q () s'):wpAny (model X.prog X.w) A (setAttr (.ref a) f u) Q E s:=by
 obtain⟨mA,O,r,wi,_,ho⟩:=pY I.hok e;have hz:(fs.map (·.1)).length<=sizeLine:=by rw[BC,sizeLine_eq];omega
 refine Aj I.kIn O c.sa c.po n.taker c.hd wi hz fun h' O' sb=>h _ ?_;have hd:∃ o,h'.get? dx=some o:=let ⟨o,_,_,e',_⟩:=O'.ns;⟨o,e'⟩;refine I.write (x:=a) (e:=dx) (by rw[e];exact True.intro) (.inr ho) (fun b q hb z=>(sb.2 b hb).trans z) hd ?_
 refine⟨by rw[ar O.ne];exact ho,?_,O.ne,O'.obj,_,O'.ns,fun g=>?_,fun g hg=>?_⟩
 ·have:=kx f y fs;omega
 ·show RelO ((putF f y fs).lookup g) (if g=f then some u else mA g);rw[aW];by_cases q:g=f
  ·rw[if_pos q,if_pos q];exact ry
  ·rw[if_neg q,if_neg q];exact r g
 ·by_cases q:g=f
  ·rw[q];exact(kB f y fs).1
  ·refine(kB f y fs).2 g (wi g fun z=>hg ?_);show(if g=f then some u else mA g)=none;rw[if_neg q];exact z
theorem Inv.made(I:Inv X pins σ H s):Inv X pins σ (upd (upd H s.heap.objs.size (.own (s.heap.objs.size+1))) (s.heap.objs.size+1) (.ins C s.heap.objs.size []))
  { s with heap:=(s.heap.push Dx).push (DT C s.heap.objs.size) }:=by
 have e1:(s.heap.push Dx).get? s.heap.objs.size=some Dx:=Heap.get?_push_size s.heap rfl;have e2:((s.heap.push Dx).push (DT C s.heap.objs.size)).get? (s.heap.objs.size+1)=some (DT C s.heap.objs.size):=by
  have:=Heap.get?_push_size (s.heap.push Dx) (o:=DT C s.heap.objs.size) rfl;rwa[Heap.size_push]at this
 have e3:(s.heap.push Dx).Ns s.heap.objs.size (fun _=>none):=⟨Dx,#[],_,e1,rfl,(fun e he=>absurd he (by simp)),fun _=>rfl⟩
 have I1:=I.laid (a:=s.heap.objs.size) (o:=.own (s.heap.objs.size+1)) (h':=s.heap.push Dx) (t':=s.toks) (fun b u q=>Heap.get?_push_of_some _ q) (BI _) ⟨_,e1⟩;refine I1.laid (a:=s.heap.objs.size+1) (o:=.ins C s.heap.objs.size []) (t':=s.toks) (fun b u q=>Heap.get?_push_of_some _ q) (FJ (Heap.size_push _ _)) ?_;have ne:s.heap.objs.size≠s.heap.objs.size+1:=CA (Ex _);refine⟨by rw[ar ne,ae],C4 _,ne,e2,fun _=>none,(Heap.Ns1.of_empty e3).at fun o q=>Heap.get?_push_of_some _ q,fun _=>True.intro,fun y hy=>absurd rfl hy⟩
theorem xj{prog:Program}{w:World}{env:Env}{e:Expr}{f:Str}{pos:Pos}{s:Shared}{Q:Value->Shared->Prop}(hb:attributeBase e f env (eval e env)=eval e env)
  (h:wpAny (model prog w) A (eval e env) (fun o s₁=>wpAny (model prog w) A (getAttr o f true) Q E s₁) E s):wpAny (model prog w) A (eval (.Attribute e f pos) env) Q E s :=
 Attribute_any_ h (by rw[arm_eval_Attribute,hb])
end
noncomputable def tFld(K:BD)(ta:TE)(f:Str):TE:=fun σ H Q=>ta σ H fun x H1=>∃ a C dx fs v,x=.ref a/\H1 a=some (.ins C dx fs)/\Cls K C/\eB K C f/\fs.lookup f=some v/\Q v H1
noncomputable def sFld(K:BD)(ta tv:TE)(f:Str):TS:=fun D σ H=>tv σ H fun y H1=>ta σ H1 fun x H2=>∃ a C dx fs,x=.ref a/\H2 a=some (.ins C dx fs)/\Cls K C/\eB K C f/\fs.length<1000 /\
 D.nx σ (upd H2 a (.ins C dx (putF f y fs)))
section
variable{X:Cx}{o e value:Expr}{f:Str}{pos pos' tpos:Pos}{ta tv:TE}
theorem gA(he:PE X e ta)(hb:attributeBase e f X.env (eval e X.env)=eval e X.env):PE X (.Attribute e f pos) (tFld X.K ta f):=by
 intro pins s σ H Q I h;refine xj hb (thn (he pins s σ H _ I h) fun u s1 ⟨x,H1,I1,rx,a,C,dx,fs,v,ex,ea,c,n,l,q⟩=>?_);subst ex;obtain rfl:u=Value.ref a:=rx;exact sX I1 ea c n l fun u' s2 I2 ru=>⟨v,H1,I2,ru,q⟩
theorem ju(ha:PE X o ta)(hv:PE X value tv)(hs:swapsWith value (some (.Attribute o f pos')) pos.line X.env=pure false):PS X (.Assign [.Attribute o f pos'] value pos) (sFld X.K ta tv f):=by
 intro pins s σ H D I h;refine plainObj_wpAny_Assign_Attribute (thn (hv pins s σ H _ I h) fun u s1 ⟨y,H1,I1,ry,q⟩=>thn (ha pins s1 σ H1 _ I1 q) fun ov s2 ⟨x,H2,I2,rx,a,C,dx,fs,ex,ea,c,n,l,q2⟩=>?_) hs;subst ex;obtain rfl:ov=Value.ref a:=rx;exact sh I2 ea c n l ry fun s3 I3=>⟨σ,_,I3,q2⟩
end
section
variable{X:Cx}{pins:List (Addr×Obj)}{σ:St}{H:Hp}{s:Shared}{A:Around}{E:Value->Shared->Prop}{Q:Value->Shared->Prop}{c:Value}{b:Bool}
inductive TyOf(K:BD)(H:Hp):V->Value->Prop where
 |non:TyOf K H .non (.type "NoneType")
 |bl (x:Bool):TyOf K H (.bl x) (.type "bool")
 |int (i:Int):TyOf K H (.int i) (.type "int")
 |str (x:Str):TyOf K H (.str x) (.type "str")
 |flt (x:UInt64):TyOf K H (.flt x) (.type "float")
 |lst {a:Addr} {xs:List V} (e:H a=some (.lst xs)):TyOf K H (.ref a) (.type "list")
 |frz {a:Addr} {o:Obj} {xs:List V} (e:H a=some (.frz o (.lst xs))):TyOf K H (.ref a) (.type "list")
 |tup {a:Addr} {xs:List V} (e:H a=some (.tup xs)):TyOf K H (.ref a) (.type "tuple")
 |dK {a:Addr} {kvs:List (Key×V)} (e:H a=some (.dK kvs)):TyOf K H (.ref a) (.type "dict")
 |dT {a:Addr} {kvs:List (List Key×V)} (e:H a=some (.dT kvs)):TyOf K H (.ref a) (.type "dict")
 |ins {a C dx:Addr} {fs:List (Str×V)} (e:H a=some (.ins C dx fs)) (cl:Cls K C) (ha:B8 K (.ref C) "__class__" = some (some (.builtin "object.__class__")))
   (hn:Fz K (.builtin "object.__class__") "__get__" = some (some (.builtin "getset_descriptor.__get__"))) (htk:FR K (.builtin "object.__class__")=some true)
   (hm:Dc K C (.type "object")=some true):TyOf K H (.ref a) (.ref C)
theorem vZ{x:V}{u t:Value}(I:Inv X pins σ H s)(rx:RelV x u)(ty:TyOf X.K H x t)(e:CK X.K t c=some b)(h:∀ tk,Q (.bool b) { s with toks:=tk }) :
  wpAny (model X.prog X.w) A (call (.builtin "isinstance") [u,c]) Q E s:=by
 cases ty with
 |non=>cases (show u=Value.none from rx);exact Dd PySem.W.kitx_none I.kIn True.intro e (fun z=>nomatch z) h
 |bl y=>cases (show u=Value.bool y from rx);exact Dd PySem.W.kitx_bool I.kIn True.intro e (fun z=>nomatch z) h
 |int i=>obtain⟨t,q⟩:=(show ∃ t,u=Value.int i t from rx);cases q;exact Dd PySem.W.kitx_int I.kIn True.intro e (fun z=>nomatch z) h
 |str y=>obtain⟨t,q⟩:=(show ∃ t,u=Value.str y t from rx);cases q;exact Dd PySem.W.kitx_str I.kIn True.intro e (fun z=>nomatch z) h
 |flt y=>obtain⟨t,q⟩:=(show ∃ t,u=Value.float y t from rx);cases q;exact Dd PySem.W.kitx_float I.kIn True.intro e (fun z=>nomatch z) h
 | @lst a xs ea =>
  cases (show u=Value.ref a from rx)
  obtain⟨_,_,n,_,h1⟩:=(show bH X.prog X.w H s.heap a (.lst xs) from I.hok a _ ea);exact Dd PySem.W.kitx_list I.kIn ⟨_,h1,rfl⟩ e (fun z=>nomatch z) h
 | @frz a ob xs ea =>
  cases (show u=Value.ref a from rx)
  obtain⟨_,_,_,n,_,h1⟩:=(show bH X.prog X.w H s.heap a (.frz ob (.lst xs)) from I.hok a _ ea);exact Dd PySem.W.kitx_list I.kIn ⟨_,h1,rfl⟩ e (fun z=>nomatch z) h
 | @tup a xs ea =>
  cases (show u=Value.ref a from rx)
  obtain⟨_,_,_,p⟩:=(show bH X.prog X.w H s.heap a (.tup xs) from I.hok a _ ea);obtain⟨o,h1,h2,_⟩:=p;exact Dd PySem.W.kitx_tuple I.kIn ⟨o,h1,h2⟩ e (fun z=>nomatch z) h
 | @dK a kvs ea =>
  cases (show u=Value.ref a from rx)
  obtain⟨_,_,vs,_,p⟩:=(show bH X.prog X.w H s.heap a (.dK kvs) from I.hok a _ ea);obtain⟨o,es,ep,h1,h2,_⟩:=p;exact Dd PySem.W.kitx_dict I.kIn ⟨o,h1,h2.1⟩ e (fun z=>nomatch z) h
 | @dT a kvs ea =>
  cases (show u=Value.ref a from rx)
  obtain⟨_,_,xs,_,o,es,ep,h1,h2,_⟩:=(show bH X.prog X.w H s.heap a (.dT kvs) from I.hok a _ ea);exact Dd PySem.W.kitx_dict I.kIn ⟨o,h1,h2.1⟩ e (fun z=>nomatch z) h
 | @ins a C dx fs ea cl ha hn htk hm =>
  cases (show u=Value.ref a from rx)
  obtain⟨mA,O,_⟩:=pY I.hok ea;obtain⟨od,J,_⟩:=O.look;exact Dd (PySem.W.kitx_own (cl.get _) cl.hd ha hn htk hm) I.kIn J e (fun z=>nomatch z) h
end
structure Room(k:Nat)(A:Around):Prop where
 hd:A.handled=none
 dp:A.depth+3*k+5<recursionLimit
 un:A.units+16*k+200<cLine
theorem Room.mono{j k:Nat}{A:Around}(r:Room k A)(h:j<=k):Room j A:=⟨r.hd,by have:=r.dp;omega,by have:=r.un;omega⟩
theorem Room.deeper{k:Nat}{A:Around}(r:Room (k+1) A)(env:Env):Room k (A.deeper env) :=
 ⟨r.hd,by have:=r.dp;show A.depth+1+3*k+5<_;omega,by have:=r.un;show A.units+3+16*k+200<_;omega⟩
theorem sS{A:Around}{C:Addr}{us:List Value}{kw:List (Str×Value)}:(A.under (.builtin "type.__call__" ⟨.ref C::us,kw⟩)).depth=A.depth+1:=by
 first | rfl | simp[Around.under,Code.weight,Code.isCreation,Code.isGuard,Code.isCaller,Code.frames,Code.isFrame,guardIds]
theorem sQ{A:Around}{C:Addr}{us:List Value}{kw:List (Str×Value)}:(A.under (.builtin "type.__call__" ⟨.ref C::us,kw⟩)).units=A.units+1:=by
 first | rfl | simp[Around.under,Code.cUnits,Code.frames,Code.isFrame]
theorem Room.make{k:Nat}{A:Around}(r:Room (k+1) A)(C:Addr)(us:List Value)(kw:List (Str×Value)):Room k (A.under (.builtin "type.__call__" ⟨.ref C::us,kw⟩)) :=
 ⟨r.hd,by have:=r.dp;rw[sS];omega,by have:=r.un;rw[sQ];omega⟩
theorem Room.depth{k:Nat}{A:Around}(r:Room k A):A.depth<recursionLimit:=by have:=r.dp;omega
theorem Room.units{k:Nat}{A:Around}(r:Room k A):A.units+64<cLine:=by have:=r.un;omega
noncomputable def tNil:TA:=fun _ H Q=>Q [] H
noncomputable def tCons(ta:TE)(tr:TA):TA:=fun σ H Q=>ta σ H fun x H1=>tr σ H1 fun xs H2=>Q (x::xs) H2
section
variable{X:Cx}{e:Expr}{es:List Expr}{te:TE}{t:TA}{pos:Pos}
theorem ag:PA X [] tNil:=fun _ _ _ _ H Q I h=>Calls.spliced_nil ⟨[],H,I,.nil,h⟩
theorem aa(ha:PE X e te)(hr:PA X es t)(hs:starEach (e::es) X.env=(false,eval e X.env)::starEach es X.env:=by rfl):PA X (e::es) (tCons te t):=by
 intro pos pins s σ H Q I h;rw[hs];show wpAny _ _ (spliced ((false,eval e X.env)::backTo pos (starEach es X.env))) _ _ s;refine Calls.spliced_cons (thn (ha pins s σ H _ I h) fun u s1 ⟨x,H1,I1,r1,q1⟩=>?_);exact thn (hr pos pins s1 σ H1 _ I1 q1) fun us s2 ⟨xs,H2,I2,r2,q2⟩=>⟨x::xs,H2,I2,.cons r1 r2,q2⟩
noncomputable def tTup(t:TA):TE:=fun σ H Q=>t σ H fun xs H1=>xs.length<=sizeLine/\∀ p,H1 p=none->Q (.ref p) (upd H1 p (.tup xs))
noncomputable def tLst(t:TA):TE:=fun σ H Q=>t σ H fun xs H1=>xs.length<=sizeLine/\∀ p,H1 p=none->Q (.ref p) (upd H1 p (.lst xs))
theorem bG{x1}(h:PA X es t):PE X (.Tuple es x1 pos) (tTup t):=by
 intro pins s σ H Q I hq;refine wpAny_Tuple_spliced (thn (h pos pins s σ H _ I hq) fun us s1 ⟨xs,H1,I1,r,z,q⟩=>⟨by rw[← r.length];exact z,?_⟩)
 have hf:H1 s1.heap.objs.size=none:=I1.hok.fresh (BI _);refine⟨.ref s1.heap.objs.size,upd H1 s1.heap.objs.size (.tup xs),I1.laid (t':=s1.toks) (fun b u e=>Heap.get?_push_of_some _ e) (BI _) ?_,rfl,q _ hf⟩;exact⟨z,us,r,⟨_,Heap.get?_push_size _ rfl,rfl,_,rfl⟩⟩
theorem bh(h:PA X es t):PE X (.List es pos) (tLst t):=by
 intro pins s σ H Q I hq;refine wpAny_List_spliced (thn (h pos pins s σ H _ I hq) fun us s1 ⟨xs,H1,I1,r,z,q⟩=>⟨by rw[← r.length];exact z,?_⟩)
 have hf:H1 s1.heap.objs.size=none:=I1.hok.fresh (BI _);refine⟨.ref s1.heap.objs.size,upd H1 s1.heap.objs.size (.lst xs),I1.laid (t':=s1.toks) (fun b u e=>Heap.get?_push_of_some _ e) (BI _) ?_,rfl,q _ hf⟩;exact⟨z,us,0,r,Heap.get?_push_size _ rfl⟩
end
noncomputable abbrev Sp:=List V->Hp->VK->XK->Prop
noncomputable abbrev CXT:=List Env->Hp->Shared->XK->Value->Shared->Prop
structure Env0(P:Program)(w:World)(K:BD)(mg:Str->Option Value)(base:Heap)(A:Around)(outer:List Env)(s:Shared)(H:Hp):Prop where
 frames:A.frames=some outer
 mod:Mod K mg base
 bs:∀ b o,base.get? b=some o->s.heap.get? b=some o/\H b=none
 bsz:base.objs.size<=s.heap.objs.size
 funs:s.heap.FunFrames base outer
 frf:∀ b∈frs outer,H b=none
 hok:HOk P w H s.heap
 bare:AllBare s.gens
noncomputable def CE(outer:List Env)(P:Program)(w:World)(H:Hp)(s:Shared)(Q:VK)(u:Value)(s':Shared):Prop :=
 ∃ v H',s'.os=s.os/\AllBare s'.gens/\Un (frs outer) [] H H' s.heap s'.heap/\HOk P w H' s'.heap/\RelV v u/\Q v H'
noncomputable def CR(CX:CXT)(outer:List Env)(P:Program)(w:World)(H:Hp)(s:Shared)(Q:VK)(E:XK)(r:Result)(s':Shared):Prop :=
 match r with
 |.ok (.ret u)=>CE outer P w H s Q u s'
 |.ok _=>False
 |.error e=>CX outer H s E e s'
structure FnOk(P:Program)(w:World)(K:BD)(mg:Str->Option Value)(base:Heap)(CX:CXT)(k:Nat)(f:Addr)(fd:FuncData)(ps:List Str)(sp:Sp):Prop where
 len:∀ vs H Q E,sp vs H Q E->vs.length=ps.length
 run:∀(A:Around)(outer:List Env)(s:Shared)(H:Hp)(args:Args)(us:List Value)(vs:List V)(Q:VK)(E:XK),Room k A->Env0 P w K mg base A outer s H->BindsTo s fd args (ps.zip us)->Vals vs us->sp vs H Q E ->
  codeAny (model P w) A (.call (.ref f) args) (CR CX outer P w H s Q E) s
theorem Env0.make{P:Program}{w:World}{K:BD}{mg:Str->Option Value}{base:Heap}{A:Around}{outer:List Env}{s:Shared}{H:Hp}(e:Env0 P w K mg base A outer s H)(C:Addr)(us:List Value)(kw:List (Str×Value)) :
  Env0 P w K mg base (A.under (.builtin "type.__call__" ⟨.ref C::us,kw⟩)) outer s H:=⟨by first | exact e.frames | (simpa[Around.under,Code.envs,Code.isFrame,pushEnvs] using e.frames),e.mod,e.bs,e.bsz,e.funs,e.frf,e.hok,e.bare⟩
section
variable{X:Cx}{pins:List (Addr×Obj)}{σ:St}{H:Hp}{s s':Shared}
theorem Inv.env0(I:Inv X pins σ H s):Env0 X.prog X.w X.K X.mg X.base X.A X.stack s H :=
 ⟨I.ok.frames,I.ok.mod,I.bs,Co I.ok.bsz I.sz,I.stack,I.stkFree,I.hok,I.bare⟩
theorem Inv.after{Q:VK}{u:Value}(I:Inv X pins σ H s)(h:CE X.stack X.prog X.w H s Q u s'):EP X pins σ Q u s':=by
 obtain⟨v,H',os,bare,un,hok,r,q⟩:=h;obtain⟨hh,g,d,t,os'⟩:=s';obtain rfl:os'=s.os:=os;exact⟨v,H',I.call (h':=hh) (g':=g) (d':=d) (t':=t) (ch:=[]) un hok bare (fun b z=>absurd z (by simp)),r,q⟩
end
noncomputable def tCall(sp:Sp)(dvs:List V)(E:XK)(t:TA):TE:=fun σ H Q=>t σ H fun vs H1=>sp (vs++dvs) H1 Q E
noncomputable def d8(K:BD)(fd:FuncData)(ps:List Str)(ds:List Value):Prop :=
 ∀(s:Shared)(us:List Value),K.In s.heap->(us++ds).length=ps.length->BindsTo s fd ⟨us,[]⟩ (ps.zip (us++ds))
theorem d8.all{K:BD}{fd:FuncData}{ps:List Str}(h:∀ us:List Value,us.length=ps.length->bindArgs fd ⟨us,[]⟩=pure (ps.zip us)):d8 K fd ps []:=fun s us _ hl=>by
 rw[Dl]at hl ⊢;exact .of_eq (h us hl)
noncomputable def xy(CX:CXT)(X:Cx)(E:XK):Prop:=∀(pins:List (Addr×Obj))(σ:St)(H:Hp)(s:Shared)(e:Value)(s':Shared),Inv X pins σ H s->CX X.stack H s E e s'->X.xe e s'
section
variable{X:Cx}{CX:CXT}{k:Nat}{f C:Addr}{fd:FuncData}{ps:List Str}{sp:Sp}{dvs:List V}{ds:List Value}{E:XK}{x m:Str}{p pos apos:Pos}{e o:Expr}{es:List Expr}{ta:TE}{t:TA}
theorem run_fn{pins:List (Addr×Obj)}{σ:St}{H:Hp}{s:Shared}{Q:VK}{us:List Value}{vs:List V}(F:FnOk X.prog X.w X.K X.mg X.base CX k f fd ps sp)(hr:Room k X.A)(hb:d8 X.K fd ps ds)(hd:Vals dvs ds)(hx:xy CX X E)
  (I:Inv X pins σ H s) (r:Vals vs us) (h:sp (vs++dvs) H Q E):wpAny (model X.prog X.w) X.A (call (.ref f) us) (EP X pins σ Q) X.xe s:=by
 have r2:Vals (vs++dvs) (us++ds):=r.append hd;have hl:(us++ds).length=ps.length:=by rw[← r2.length];exact F.len _ _ _ _ h
 refine wpAny_call (codeAny_mono (F.run X.A X.stack s H ⟨us,[]⟩ (us++ds) (vs++dvs) Q E hr I.env0 (hb s us I.kIn hl) r2 h) fun r s' hq=>?_)
 cases r with
 |error e=>exact hx pins σ H s e s' I hq
 |ok fl =>
  cases fl with
  |ret u=>exact I.after hq
  |next=>exact False.elim hq
  |brk=>exact False.elim hq
  |cont=>exact False.elim hq
theorem aI(F:FnOk X.prog X.w X.K X.mg X.base CX k f fd ps sp)(hr:Room k X.A)(hg:Gl X x)(hm:X.mg x=some (.ref f))(hk:CY X.K (.ref f)=true)(hb:d8 X.K fd ps ds)(hd:Vals dvs ds)(hx:xy CX X E)
  (ha:PA X (e::es) t) (hdb:(x == ("__debug__" : Str))=false:=by decide) (he:starEach (e::es) X.env=(false,eval e X.env)::starEach es X.env:=by rfl) (hpl:(backTo pos (starEach es X.env)).any (·.1)=false:=by rfl) :
  PE X (.Call (.Name x p) (e::es) [] pos) (tCall sp dvs E t):=by
 intro pins s σ H Q I h;refine wpAny_Call_Name_kw (fU I hg hm ?_ hdb);refine EE (h₀:=X.base) I.ok.mod.kin hk (thn (ha pos pins s σ H _ I h) fun us s1 ⟨vs,H1,I1,r,q⟩=>⟨I1.kIn,?_⟩) he hpl;exact run_fn F hr hb hd hx I1 r q
structure Mk(K:BD)(C f:Addr):Prop where
 makes:ES K C=true
 init:B8 K (.ref C) "__init__" = some (some (.ref f))
 fn:EY K (.ref f)=true
 kp:CY K (.ref C)=true
end
section
variable{X:Cx}{CX:CXT}{k:Nat}{f C:Addr}{fd:FuncData}{ps ks:List Str}{sp:Sp}{E:XK}{x m:Str}{p pos apos kpos:Pos}{e o:Expr}{es:List Expr}{kws:List Keyword}{te ta:TE}{t tk:TA}{nm:Option Str}
variable{g:List Value->List Value->List Value}{gV:List V->List V->List V}
end
structure aJ(N P:List Str)(sc:Scope):Prop where
 kind:sc.kind=.function
 co:sc.isCoroutine=false
 gen:sc.isGenerator=false
 nd:N.Nodup
 pre:N.take P.length=P
 par:∀ x∈P,sc.names.lookup x=some .local∨sc.names.lookup x=some .cell
 nofree:∀ y∈sc.names,y.2≠.free
theorem oM{kindOf:Str->Option NameKind}{x:Str}:∀{binds:List (Str×Value)}{m:Str->Option Value},(∀ v,(x,v)∉binds)->bindL kindOf binds m x=m x
 |[],_,_=>rfl
 | (n,v)::r,m,h=>by
  unfold bindL;rw[oM fun w hw=>h w (BO _ hw)];split
  ·have:x≠n:=by rintro rfl;exact h v BQ
   simp[this]
  ·rfl
theorem oO{kindOf:Str->Option NameKind}{x:Str}:∀{binds:List (Str×Value)}{m:Str->Option Value},(∀ v,(x,v)∉binds)->bindC kindOf binds m x=m x
 |[],_,_=>rfl
 | (n,v)::r,m,h=>by
  unfold bindC;rw[oO fun w hw=>h w (BO _ hw)];split
  ·rfl
  ·have:x≠n:=by rintro rfl;exact h v BQ
   simp[this]
theorem oN{kindOf:Str->Option NameKind}{x:Str}{v:Value}:∀{P:List Str}{vs:List Value}{i:Nat}{m:Str->Option Value},P.Nodup->P[i]?=some x->vs[i]?=some v->kindOf x=some .local ->
  bindL kindOf (P.zip vs) m x=some v
 |[],_,_,_,_,h,_,_=>by simp at h
 |_::_,[],_,_,_,_,h,_=>by simp at h
 |p::P,w::vs,0,m,nd,h1,h2,hk=>by
  simp at h1 h2;subst h1;subst h2;show bindL kindOf ((p,w)::P.zip vs) m p=_;unfold bindL;rw[oM fun v hv=>(B7.mp nd).1 (FZ hv).1,if_pos hk];simp
 |p::P,w::vs,i+1,m,nd,h1,h2,hk=>by
  show bindL kindOf ((p,w)::P.zip vs) m x=_;unfold bindL;exact oN (i:=i) (B7.mp nd).2 (by simpa using h1) (by simpa using h2) hk
theorem oP{kindOf:Str->Option NameKind}{x:Str}{v:Value}:∀{P:List Str}{vs:List Value}{i:Nat}{m:Str->Option Value},P.Nodup->P[i]?=some x->vs[i]?=some v->kindOf x≠some .local ->
  bindC kindOf (P.zip vs) m x=some v
 |[],_,_,_,_,h,_,_=>by simp at h
 |_::_,[],_,_,_,_,h,_=>by simp at h
 |p::P,w::vs,0,m,nd,h1,h2,hk=>by
  simp at h1 h2;subst h1;subst h2;show bindC kindOf ((p,w)::P.zip vs) m p=_;unfold bindC;rw[oO fun v hv=>(B7.mp nd).1 (FZ hv).1,if_neg hk];simp
 |p::P,w::vs,i+1,m,nd,h1,h2,hk=>by
  show bindC kindOf ((p,w)::P.zip vs) m x=_;unfold bindC;exact oP (i:=i) (B7.mp nd).2 (by simpa using h1) (by simpa using h2) hk
noncomputable def start(N:List Str)(vs:List V):St:=vs.map some++Dz (N.length-vs.length) none
noncomputable def cxOf(CX:CXT)(P:Program)(w:World)(K:BD)(mg:Str->Option Value)(base:Heap)(N:List Str)(qual:Str)(scope:Scope)(f:Addr)(cd:Value)(A:Around)(outer:List Env)(s:Shared)(H:Hp)(E:XK):Cx where
 prog:=P
 w:=w
 K:=K
 mg:=mg
 base:=base
 A:=A.deeper (envOfC qual scope s.heap.objs.size f cd)
 N:=N
 s₀:=s
 H₀:=H
 env:=envOfC qual scope s.heap.objs.size f cd
 outer:=outer
 stack:=envOfC qual scope s.heap.objs.size f cd::outer
 ex:=[]
 calm:=true
 fn:=fun _=>true
 pn:=[]
 xe:=fun e s'=>wpAny (model P w) (A.deeper (envOfC qual scope s.heap.objs.size f cd)) (leaving (envOfC qual scope s.heap.objs.size f cd) e) (fun _ s''=>CX outer H s E e s'') (fun e' s''=>CX outer H s E e' s'') s'
theorem rS{sc:Scope}{n:Nat}{x:Str}(h:sc.names.lookup x=some .cell):∃ c,(cellsFrom n sc.names []).lookup x=some c:=by
 have q:=PySem.W.cellsFrom_some sc.names n [] (.inl h);exact EC.mp q
theorem wa{CX:CXT}{P:Program}{w:World}{K:BD}{mg:Str->Option Value}{base:Heap}{N ps:List Str}{qual:Str}{scope:Scope}{f:Addr}{cd:Value}{A:Around}{outer:List Env}{s s1:Shared}{H:Hp}{E:XK}{us:List Value}{vs:List V}
  (S:aJ N ps scope) (hd:A.handled=none) (e0:Env0 P w K mg base A outer s H) (hl:vs.length=ps.length) (r:Vals vs us)
  (x:InCallC s s.heap.objs.size (bindL (envOfC qual scope s.heap.objs.size f cd).kindOf (ps.zip us) fun _=>none) (cellsFrom (s.heap.objs.size+1) scope.names []) (bindC (envOfC qual scope s.heap.objs.size f cd).kindOf (ps.zip us) fun _=>none) s1) :
  Inv (cxOf CX P w K mg base N qual scope f cd A outer s H E) [] (start N vs) H s1:=by
 have hpl:ps.length<=N.length:=by have:=congrArg EV S.pre;rw[BV]at this;omega
 obtain⟨h1,tk,rfl,hk⟩:=x.done;have noA:∀ b:Addr,b∉(cxOf CX P w K mg base N qual scope f cd A outer s H E).ex:=fun b z=>absurd (show b∈([]:List Addr) from z) (by simp)
 refine⟨⟨e0.mod,S.kind,rfl,rfl,BI _,fun y z c h1 h2=>?_,fun y hy=>?_,fun y c _ h=>?_,fun _=>hd,Around.frames_deeper e0.frames,.inr ⟨rfl,rfl⟩,fun b z=>absurd z (noA b),e0.bs,e0.bsz,fun b _ _=>noA b,fun b z=>absurd z (noA b),e0.funs,e0.frf⟩,
  rfl,e0.bare,Un.kept hk,⟨_,x.toInCall.ns,fun i y v h1 h2 h3=>?_⟩,fun y c h=>⟨_,x.cell y c h⟩,e0.hok.fresh (BI _),fun y c h=>?_,fun p hp=>absurd (show p∈([]:List (Addr×Obj)) from hp) (by simp),e0.hok.kept hk,?_⟩
 ·exact name_of_addr x.apart (DG h1) (DG h2)
 ·have hy:scope.names.lookup y=some .cell∨scope.names.lookup y=some .free:=hy
  rcases hy with hy | hy
  ·exact rS hy
  ·exact absurd rfl (S.nofree _ (DG hy))
 ·exact Di (x.above y c (DG h))
 ·have hi:i<vs.length:=by
   unfold start at h2;by_cases hi:i<vs.length
   ·exact hi
   ·rw[BH (by simpa using hi)]at h2
    rw[DY]at h2;split at h2<;>cases h2
  have ha:vs[i]?=some v:=by
   unfold start at h2;rw[BL (by simpa using hi),BJ]at h2
   cases e:vs[i]? with
   |none=>rw[e]at h2;cases h2
   |some a=>rw[e]at h2;cases h2;rfl
  obtain⟨u,hu,rv⟩:=r.get ha;have hp:ps[i]?=some y:=by
   rw[← S.pre,List.getElem?_take_of_lt (by omega)];exact h1
  have ndP:ps.Nodup:=by rw[← S.pre];exact S.nd.sublist (List.take_sublist _ _)
  refine⟨u,rv,?_⟩;rcases S.par y (BF hp)with k | k
  ·exact .inl ⟨k,oN ndP hp hu k⟩
  ·obtain⟨c,e⟩:=rS (n:=s.heap.objs.size+1) k;refine .inr ⟨.inl k,c,e,?_⟩;have q:=x.cell y c e;rw[oP ndP hp hu (by show scope.names.lookup y≠_;rw[k];decide)]at q
   exact q
 ·exact e0.hok.fresh (Di (x.above y c (DG h)))
 ·unfold start;show _=N.length;rw[BE,BC,List.length_replicate];omega
theorem fn_of{CX:CXT}{P:Program}{w:World}{K:BD}{mg:Str->Option Value}{base:Heap}{k:Nat}{f:Addr}{name qual:Str}{params:Arguments}{body:List Stmt}{scope:Scope}{dV kV doc pm cdv ct oc:Value}{an od:Option Addr}
  {osl:Array (Option Value)} {N ps:List Str} {sp:Sp} (lk:K.lookup f=some ⟨oc,od,.func (DD name qual params body scope dV kV doc pm an cdv ct),osl⟩) (hcd:Er K cdv qual=true) (S:aJ N ps scope)
  (len:∀ vs H Q E,sp vs H Q E->vs.length=ps.length)
  (hbody:∀(A:Around)(outer:List Env)(s:Shared)(H:Hp)(vs:List V)(Q:VK)(E:XK),Room k (A.deeper (envOfC qual scope s.heap.objs.size f cdv))->sp vs H Q E ->
   ∃ t,PSs (cxOf CX P w K mg base N qual scope f cdv A outer s H E) body t/\t { nx:=fun _ H'=>Q .non H',rt:=Q } (start N vs) H) :
  FnOk P w K mg base CX (k+1) f (DD name qual params body scope dV kV doc pm an cdv ct) ps sp:=by
 refine⟨len,fun A outer s H args us vs Q E hr e0 hb r hsp=>?_⟩;have hl:=len _ _ _ _ hsp;have KX:K.In s.heap:=e0.mod.kin.keeps fun b o e=>(e0.bs b o e).1;have lim:s.heap.NoLimit:=e0.mod.nolimit.keeps fun b o e=>(e0.bs b o e).1;have hkind:∀ y∈ps.zip us,scope.names.lookup y.1=some .local∨(scope.names.lookup y.1=some .cell/\((cellsFrom (s.heap.objs.size+1) scope.names []).lookup y.1).isSome=true):=fun⟨n,v⟩ hy=>by
  rcases S.par n (FZ hy).1 with q | q
  ·exact .inl q
  ·exact .inr ⟨q,PySem.W.cellsFrom_some _ _ _ (.inl q)⟩
 refine codeAny_call_function hr.depth (KX _ _ lk) rfl S.co S.gen rfl (PySem.W.codeRec_of KX hcd) (hb _ _ _ _ ?_);refine wpAny_newFunctionEnv_cells S.kind hkind fun env he s1 x=>?_;subst he;refine⟨lim.keeps x.toInCall.keep,codeAny_func ?_⟩;obtain⟨t,ht,hq⟩:=hbody A outer s H vs Q E (hr.deeper _) hsp;have I:Inv (cxOf CX P w K mg base N qual scope f cdv A outer s H E) [] (start N vs) H s1:=wa S hr.hd e0 hl r x;refine wpAny_mono (ht [] s1 (start N vs) H _ I hq) (fun fl s' hs=>?_) fun e s' hs=>hs;have fin:∀{σ':St}{H':Hp}{v:V}{u:Value},Inv (cxOf CX P w K mg base N qual scope f cdv A outer s H E) [] σ' H' s'->RelV v u->Q v H'->CE outer P w H s Q u s' :=
  fun{σ' H' v u} J rv q=>⟨v,H',J.os,J.bare,J.base,J.hok,rv,q⟩
 cases fl with
 |ret u =>
  obtain⟨v,σ',H',J,rv,q⟩:=hs;exact fin J rv q
 |next =>
  obtain⟨σ',H',J,q⟩:=hs;exact fin (v:=V.non) (u:=Value.none) J rfl q
 |brk =>
  obtain⟨_,_,_,q⟩:=hs;exact False.elim q
 |cont =>
  obtain⟨_,_,_,q⟩:=hs;exact False.elim q
section
variable{X:Cx}{x:Str}{p pos:Pos}{e:Expr}{es:List Expr}{t:TA}{id T:String}{r:List V->Hp->VK->Prop}
noncomputable def tCB(r:List V->Hp->VK->Prop)(t:TA):TE:=fun σ H Q=>t σ H fun vs H1=>r vs H1 Q
theorem au(hc:gg X (.builtin id) r)(hg:Gl X x)(hm:X.mg x=none)(hv:bootBuiltins x=some (.builtin id))(ha:PA X (e::es) t) (hn:x≠"__name__":=by decide) (hdb:(x == ("__debug__" : Str))=false:=by decide)
  (he:starEach (e::es) X.env=(false,eval e X.env)::starEach es X.env:=by rfl) (hpl:(backTo pos (starEach es X.env)).any (·.1)=false:=by rfl):PE X (.Call (.Name x p) (e::es) [] pos) (tCB r t):=by
 intro pins s σ H Q I h;refine wpAny_Call_Name_kw (nY I hg hm hv ?_ hn hdb);exact PyProof.Rows.callWith_builtin1 (thn (ha pos pins s σ H _ I h) fun us s1 ⟨vs,H1,I1,r1,q1⟩=>hc pins s1 σ H1 vs us Q I1 r1 q1) he hpl
theorem aK(hc:gg X (.type T) r)(hg:Gl X x)(hm:X.mg x=none)(hv:bootBuiltins x=some (.type T))(ha:PA X (e::es) t) (hn:x≠"__name__":=by decide) (hdb:(x == ("__debug__" : Str))=false:=by decide)
  (he:starEach (e::es) X.env=(false,eval e X.env)::starEach es X.env:=by rfl) (hpl:(backTo pos (starEach es X.env)).any (·.1)=false:=by rfl):PE X (.Call (.Name x p) (e::es) [] pos) (tCB r t):=by
 intro pins s σ H Q I h;refine wpAny_Call_Name_kw (nY I hg hm hv ?_ hn hdb);exact PyProof.Rows.callWith_type1 (thn (ha pos pins s σ H _ I h) fun us s1 ⟨vs,H1,I1,r1,q1⟩=>hc pins s1 σ H1 vs us Q I1 r1 q1) he hpl
end
end L2
namespace HT
open PySem PyProof.Rows
section
open PySem.SeqAt
open PySem.AutoSeq1 (wpAny_loadPart')
open PySem.MeetsSeq PySem.MeetsSeq2 PySem.MeetsSeq3
end
section
variable{prog:Program}{w:World}{A:Around}{E:Value->Shared->Prop}{s:Shared}
noncomputable def sIx(n d:Nat):Option Int->Nat
 |none=>d
 |some v=>if v<0 then(v+(n:Int)).toNat else min v.toNat n
theorem sIx_none(n d:Nat):sIx n d none=d:=rfl
theorem sIx_nat(n d k:Nat):sIx n d (some (k:Int))=min k n:=by
 show(if(k:Int)<0 then((k:Int)+(n:Int)).toNat else min (k:Int).toNat n)=min k n;rw[if_neg (by omega),Cg]
end
end HT
namespace L2
open PySem PySem.Spec PyProof.Rows
noncomputable abbrev TO:=St->Hp->(Option Int->Hp->Prop)->Prop
noncomputable def PO(X:Cx)(e:Option Expr)(t:TO):Prop :=
 ∀(pins:List (Addr×Obj))(s:Shared)(σ:St)(H:Hp)(Q:Option Int->Hp->Prop),Inv X pins σ H s->t σ H Q ->
  wpAny (model X.prog X.w) X.A (evalPart e X.env) (fun u s'=>∃ o H',Inv X pins σ H' s'/\IsPart u o/\Q o H') X.xe s
noncomputable def Ab:TO:=fun _ H Q=>Q none H
noncomputable def tPart(t:TE):TO:=fun σ H Q=>t σ H fun x H1=>∃ i,x=.int i/\Q (some i) H1
section
variable{X:Cx}{e:Expr}{te:TE}{lo hi:Option Expr}{tl th:TO}{pos p2:Pos}
theorem ft:PO X none Ab:=by
 intro pins s σ H Q I h;rw[evalPart_none];exact wpAny_pure ⟨none,H,I,.none,h⟩
theorem cQ(h:PE X e te):PO X (some e) (tPart te):=by
 intro pins s σ H Q I hw;rw[evalPart_some];refine thn (h pins s σ H _ I hw) fun u s1 ⟨x,H1,I1,r1,q1⟩=>?_;obtain⟨i,rfl,q⟩:=q1;obtain⟨t,rfl⟩:=r1;exact⟨some i,H1,I1,.int i t,q⟩
noncomputable def SlR(X:Cx)(r:V->Option Int->Option Int->Hp->VK->Prop):Prop :=
 ∀(pins:List (Addr×Obj))(s:Shared)(σ:St)(H:Hp)(x:V)(v vl vu:Value)(lo hi:Option Int)(sl:Addr)(Q:VK),Inv X pins σ H s->RelV x v->s.heap.IsSliceOf sl vl vu .none->IsPart vl lo->IsPart vu hi->r x lo hi H Q ->
  ∃ T id,typeLookup (.type T) "__getitem__" = pure (some (.builtin id))/\s.TypeIs v T/\wpAny (model X.prog X.w) X.A (getItem v (.ref sl)) (EP X pins σ Q) X.xe s
noncomputable def tSl(r:V->Option Int->Option Int->Hp->VK->Prop)(te:TE)(tl th:TO):TE:=fun σ H Q=>te σ H fun x H1=>tl σ H1 fun l H2=>th σ H2 fun u H3=>r x l u H3 Q
theorem cF{r:V->Option Int->Option Int->Hp->VK->Prop}(hr:SlR X r)(he:PE X e te)(hl:PO X lo tl)(hu:PO X hi th):PE X (.Subscript e (.Slice lo hi none p2) pos) (tSl r te tl th):=by
 intro pins s σ H Q I h;refine Subscript_ (thn (he pins s σ H _ I h) fun v s1 ⟨x,H1,I1,r1,q1⟩=>?_);refine wpAny_Slice (thn (hl pins s1 σ H1 _ I1 q1) fun vl s2 ⟨l,H2,I2,pl,q2⟩=>thn (hu pins s2 σ H2 _ I2 q2) fun vu s3 ⟨u,H3,I3,pu,q3⟩=>?_);rw[evalPart_none];refine wpAny_pure ?_;have I4:Inv X pins σ H3 { s3 with heap:=s3.heap.push { cls:=.type "slice",data:=.fields #[vl,vu,.none] } }:=I3.kept (t':=s3.toks) fun b ob q=>Heap.get?_push_of_some _ q;obtain⟨T,id,hT,ht,hg⟩:=hr pins { s3 with heap:=s3.heap.push { cls:=.type "slice",data:=.fields #[vl,vu,.none] } } σ H3 x v vl vu l u s3.heap.objs.size Q I4 r1 (Heap.IsSliceOf.new ..) pl pu q3;show wpAny (model X.prog X.w) X.A (subscriptTail e (.Slice lo hi none p2) v (.ref s3.heap.objs.size)) (EP X pins σ Q) X.xe { s3 with heap:=s3.heap.push { cls:=.type "slice",data:=.fields #[vl,vu,.none] } };exact tail_any (ops:=[.ref s3.heap.objs.size,v]) ht hT hg (by with_unfolding_all rfl)
noncomputable def cutV(xs:List V)(lo hi:Option Int):List V:=(xs.drop (HT.sIx xs.length 0 lo)).take (HT.sIx xs.length xs.length hi-HT.sIx xs.length 0 lo)
theorem qC(xs:List V)(lo hi:Option Int):(cutV xs lo hi).length<=xs.length:=by
 unfold cutV;rw[BV,Cq];omega
end
noncomputable def ixN(n:Nat)(i:Int):Option Nat:=if 0<=i then(if i<n then some i.toNat else none) else if -(n:Int)<=i then some (i+n).toNat else none
noncomputable def atI{α:Type}(xs:List α)(i:Int):Option α:=(ixN xs.length i).bind fun j=>xs[j]?
theorem vY{n:Nat}{i:Int}{j:Nat}(h:ixN n i=some j):seqIndex? i n=some j/\j<n/\-(n:Int)<=i/\i<n:=by
 unfold ixN at h;by_cases h0:0<=i
 ·rw[if_pos h0]at h;by_cases h1:i<n
  ·rw[if_pos h1]at h;have e:i.toNat=j:=Ci h;exact⟨by rw[seqIndex_of h0 h1,e],by omega,by omega,h1⟩
  ·rw[if_neg h1]at h;cases h
 ·rw[if_neg h0]at h;by_cases h1 : -(n:Int)<=i
  ·rw[if_pos h1]at h;have e:(i+n).toNat=j:=Ci h;exact⟨by rw[seqIndex_neg (by omega) h1,e],by omega,h1,by omega⟩
  ·rw[if_neg h1]at h;cases h
theorem qE{α:Type}{xs:List α}{i:Int}{v:α}(h:atI xs i=some v):∃ j,seqIndex? i xs.length=some j/\xs[j]?=some v/\j<xs.length/\-(xs.length:Int)<=i/\i<xs.length:=by
 unfold atI at h
 cases e:ixN xs.length i with
 |none=>rw[e]at h;cases h
 |some j =>
  rw[e]at h;obtain⟨h1,h2,h3,h4⟩:=vY e;exact⟨j,h1,h,h2,h3,h4⟩
theorem aO{α:Type}{xs:List α}{j:Nat}{v:α}(h:xs[j]?=some v):atI xs (j:Int)=some v:=by
 have hj:j<xs.length:=(BB.mp h).1;have e:ixN xs.length (j:Int)=some j:=by
  unfold ixN;rw[if_pos (by omega),if_pos (by omega)];simp
 unfold atI;rw[e];exact h
theorem yI{α:Type}(xs:List α)(v:α):atI (xs++[v]) (-1)=some v:=by
 have hl:(xs++[v]).length=xs.length+1:=by simp
 have e:ixN (xs++[v]).length (-1)=some xs.length:=by
  unfold ixN;rw[hl,if_neg (by decide),if_pos (by omega)]
  congr 1;omega
 unfold atI;rw[e];show(xs++[v])[xs.length]?=some v;simp
noncomputable def Bz(b:Expr):Prop:=∀ o i,subscripted b false o i=operate [o,i] (getItem o i)
noncomputable def IxR(X:Cx)(r:R2):Prop :=
 ∀(value slice:Expr)(pins:List (Addr×Obj))(s:Shared)(σ:St)(H:Hp)(x y:V)(v u:Value)(Q:VK),Inv X pins σ H s->RelV x v->RelV y u->r x y H Q ->
  subscripted slice false v u=operate [v,u] (getItem v u)->wpAny (model X.prog X.w) X.A (subscriptTail value slice v u) (EP X pins σ Q) X.xe s
noncomputable def MtR(X:Cx)(id:String)(r:V->List V->Hp->VK->Prop):Prop :=
 ∀(pins:List (Addr×Obj))(s:Shared)(σ:St)(H:Hp)(x:V)(xs:List V)(v:Value)(us:List Value)(Q:VK),Inv X pins σ H s->RelV x v->Vals xs us->r x xs H Q ->
  wpAny (model X.prog X.w) X.A (call (.builtin id) (v::us)) (EP X pins σ Q) X.xe s
section
variable{X:Cx}{a b:Expr}{ta tb:TE}{pos:Pos}
theorem aL{r:R2}(hr:IxR X r)(ha:PE X a ta)(hb:PE X b tb)(hs:Bz b):PE X (.Subscript a b pos) (tOp r ta tb):=by
 intro pins s σ H Q I h;exact Subscript_ (binT ha hb I h fun v u s2 x y H2 I2 rx ry q=>hr a b pins s2 σ H2 x y v u Q I2 rx ry q (hs _ _))
noncomputable def rIxL(K:BD):R2:=fun x y H Q=>∃ p xs i v,x=.ref p/\y=.int i/\SqL K H p xs/\atI xs i=some v/\Q v H
noncomputable def rIxT(K:BD):R2:=fun x y H Q=>∃ p xs i v,x=.ref p/\y=.int i/\SqT K H p xs/\atI xs i=some v/\Q v H
noncomputable def rIxS:R2:=fun x y H Q=>∃ z i c,x=.str z/\y=.int i/\z.length<=sizeLine/\atI z.cps.toList i=some c/\Q (.str ⟨#[c]⟩) H
theorem aD:IxR X (rIxL X.K):=by
 intro value slice pins s σ H x y v u Q I rx ry h hs;obtain⟨p,xs,i,z,rfl,rfl,hq,he,q⟩:=h
 cases rx
 obtain⟨t,rfl⟩:=ry;obtain⟨its,r,pl,hz⟩:=I.list hq;obtain⟨j,h1,h2,h3,h4,h5⟩:=qE he;obtain⟨w,ew,rw'⟩:=r.get h2;have hl:=r.length;have hn:=ku;have fin:EP X pins σ Q w s:=⟨z,H,I,rw',q⟩;by_cases h0:0<=i
 ·have hj:i.toNat=j:=by
   rw[seqIndex_of h0 h5]at h1;exact Ci h1
  exact item_listR pl.isList h0 (by omega) (by rw[hj];simpa using ew) fin hs
 ·have hj:(i+(its.toArray.size:Int)).toNat=j:=by
   rw[seqIndex_neg (by omega) h4]at h1
   rw[Cm,← hl];exact Ci h1
  exact subscriptTail_builtinR (x:=w) pl.isList.typeIs slot_list_getitem.lookup
   (wpAny_getItem_list_neg (Q:=fun r s'=>r=w/\EP X pins σ Q r s') pl.isList (by omega) (by rw[Cm]<;>omega) (by omega) (by rw[hj];simpa using ew) ⟨rfl,fin⟩) hs
theorem br:IxR X (rIxT X.K):=by
 intro value slice pins s σ H x y v u Q I rx ry h hs;obtain⟨p,xs,i,z,rfl,rfl,hq,he,q⟩:=h
 cases rx
 obtain⟨t,rfl⟩:=ry;obtain⟨its,r,pl,hz⟩:=I.tuple hq;obtain⟨j,h1,h2,h3,h4,h5⟩:=qE he;obtain⟨w,ew,rw'⟩:=r.get h2;have hl:=r.length;have hn:=ku;have fin:EP X pins σ Q w s:=⟨z,H,I,rw',q⟩;exact subscriptTail_builtinR (x:=w) pl.typeIs slot_tuple_getitem.lookup
  (getItem_tuple (j:=j) (Q:=fun r s'=>r=w/\EP X pins σ Q r s') pl (by omega) (by omega) (by rw[Cm,← hl];exact h1) (by simpa using ew) ⟨rfl,fin⟩) hs
theorem vX:IxR X rIxS:=by
 intro value slice pins s σ H x y v u Q I rx ry h hs;obtain⟨z,i,c,rfl,rfl,hz,he,q⟩:=h;obtain⟨t,rfl⟩:=rx;obtain⟨t',rfl⟩:=ry;obtain⟨j,h1,h2,h3,h4,h5⟩:=qE he;have hl:z.cps.toList.length=z.length:=by simp[Str.length]
 rw[hl]at h1 h4 h5;have hn:=ku
 exact tail_any (typeIs_str s z t) slot_str_getitem.lookup (getItem_str (c:=c) (by
  have e1:decide (i < -(2^63:Int))=false:=decide_eq_false (by omega)
  have e2:decide (i ≥ 2^63)=false:=decide_eq_false (by omega)
  rw[e1,e2,Bool.or_false]) (by rw[h1];simpa using h2) ⟨.str ⟨#[c]⟩,H,I.tok _,⟨_,rfl⟩,q⟩) hs
theorem sP(its:List Value)(n j:Nat)(u:Value):Obj.mapSeq (·.setIfInBounds j u) { cls:=.type "list",data:=.seq its.toArray n }={ cls:=.type "list",data:=.seq (its.set j u).toArray n }:=by
 simp[Obj.mapSeq]
theorem Inv.lst{pins:List (Addr×Obj)}{σ:St}{H:Hp}{s:Shared}{p:Addr}{xs:List V}(I:Inv X pins σ H s)(h:H p=some (.lst xs)) :
  ∃(its:List Value)(n:Nat),Vals xs its/\s.heap.get? p=some { cls:=.type "list",data:=.seq its.toArray n }/\xs.length<=sizeLine:=by
 obtain⟨z,its,n,r,e⟩:=I.hok p _ h;exact⟨its,n,r,e,z⟩
theorem Inv.lstUpd{pins:List (Addr×Obj)}{σ:St}{H:Hp}{s:Shared}{p:Addr}{xs ys:List V}{its its':List Value}{n n':Nat}{f:Obj->Obj}(I:Inv X pins σ H s)(h:H p=some (.lst xs))
  (ho:s.heap.get? p=some { cls:=.type "list",data:=.seq its.toArray n }) (hf:f { cls:=.type "list",data:=.seq its.toArray n }={ cls:=.type "list",data:=.seq its'.toArray n' }) (r:Vals ys its') (hz:ys.length<=sizeLine) (t:Nat) :
  Inv X pins σ (upd H p (.lst ys)) { s with heap:=s.heap.update p f,toks:=t }:=by
 have e:(s.heap.update p f).get? p=some { cls:=.type "list",data:=.seq its'.toArray n' }:=by
  rw[Heap.get?_update_self f ho (by rw[hf]<;>rfl),hf]
 refine I.write (x:=p) (e:=p) (by rw[h];trivial) (.inl rfl) (fun b u hb q=>(Heap.get?_update_other _ _ (Ne.symm hb)).trans q) ⟨_,e⟩ ?_
 exact⟨hz,its',n',r,e⟩
noncomputable def rSetL:V->V->V->Hp->(Hp->Prop)->Prop:=fun o i v H Q=>∃ p xs k j,o=.ref p/\i=.int k/\H p=some (.lst xs)/\ixN xs.length k=some j/\Q (upd H p (.lst (xs.set j v)))
theorem bL:PSet X rSetL:=by
 intro pins s σ H o i v ov iv u Q I ro ri rv h;obtain⟨p,xs,k,j,rfl,rfl,hp,hj,q⟩:=h
 cases ro
 obtain⟨t,rfl⟩:=ri;obtain⟨its,n,r,ho,hz⟩:=I.lst hp;obtain⟨h1,h2,h3,h4⟩:=vY hj;have hl:=r.length;have hn:=ku;have I':Inv X pins σ (upd H p (.lst (xs.set j v))) { s with heap:=s.heap.update p (Obj.mapSeq (·.setIfInBounds j u)) } :=
  I.lstUpd hp ho (sP its n j u) (r.set rv j) (by rw[BZ];exact hz) s.toks
 by_cases h0:0<=k
 ·have hk:k.toNat=j:=by
   rw[seqIndex_of h0 h4]at h1;exact Ci h1
  exact PySem.W.ki_setAt ho h0 (by omega) (by rw[Cm,← hl];exact h4) (by rw[hk];exact⟨_,I',q⟩)
 ·have hk:(k+(its.toArray.size:Int)).toNat=j:=by
   rw[seqIndex_neg (by omega) h3]at h1
   rw[Cm,← hl];exact Ci h1
  exact PySem.W.ki_setBack ho (by omega) (by rw[Cm,← hl];exact h3) (by omega) (by rw[hk];exact⟨_,I',q⟩)
theorem nC(lo hi:Option Int)(n:Nat):(sliceBounds lo hi none n).1=((HT.sIx n 0 lo:Nat):Int)/\(sliceBounds lo hi none n).2.1=((HT.sIx n n hi:Nat):Int)/\(sliceBounds lo hi none n).2.2=1:=by
 refine⟨?_,?_,rfl⟩
 ·cases lo with
  |none=>simp[sliceBounds,HT.sIx]
  |some i =>
   simp only[sliceBounds,HT.sIx,Option.getD_none,show(1:Int) > 0 by decide,if_true]
   by_cases h:i<0
   ·simp only[h,if_true]<;>omega
   ·simp only[h,if_false]<;>omega
 ·cases hi with
  |none=>simp[sliceBounds,HT.sIx]
  |some i =>
   simp only[sliceBounds,HT.sIx,Option.getD_none,show(1:Int) > 0 by decide,if_true]
   by_cases h:i<0
   ·simp only[h,if_true]<;>omega
   ·simp only[h,if_false]<;>omega
theorem lM(its:List Value)(lo hi:Option Int):slicePick its.toArray lo hi none=((its.drop (HT.sIx its.length 0 lo)).take (HT.sIx its.length its.length hi-HT.sIx its.length 0 lo)).toArray:=by
 obtain⟨h1,h2,h3⟩:=nC lo hi its.toArray.size;unfold slicePick;rw[h1,h2,h3];simp only[sliceRange_one,pick_run,Cm]<;>rfl
noncomputable def rSlL(K:BD):V->Option Int->Option Int->Hp->VK->Prop:=fun x lo hi H Q=>∃ a xs,x=.ref a/\SqL K H a xs/\∀ p,H p=none->Q (.ref p) (upd H p (.lst (cutV xs lo hi)))
theorem dJ:SlR X (rSlL X.K):=by
 intro pins s σ H x v vl vu lo hi sl Q I rx hs pl pu h;obtain⟨a,xs,rfl,hx,q⟩:=h
 cases rx
 obtain⟨its,r,ht,hz⟩:=I.list hx;have hlen:=r.length;refine⟨"list",_,slot_list_getitem.lookup,ht.isList.typeIs,?_⟩;refine wpAny_getItem_list_slice ht.isList hs pl pu .none (by simp) ?_ (by rw[Cm]<;>omega)
 rw[lM,← hlen];refine⟨.ref s.heap.objs.size,_,I.laid (t':=s.toks) (o:=.lst (cutV xs lo hi)) (fun b ob q=>Heap.get?_push_of_some _ q) (BI _) ?_,rfl,q _ (I.hok.fresh (BI _))⟩;exact⟨Co (qC xs lo hi) hz,_,0,(r.drop (HT.sIx xs.length 0 lo)).take (HT.sIx xs.length xs.length hi-HT.sIx xs.length 0 lo),Heap.get?_push_size _ rfl⟩
noncomputable def mG:V->Bool
 |.non=>true
 |.bl _=>true
 |.int _=>true
 |.str _=>true
 |_=>false
noncomputable def eqV:V->V->Bool
 |.non,.non=>true
 |.bl a,.bl b=>a == b
 |.bl a,.int b=>(if a then 1 else 0) == b
 |.int a,.bl b=>a == (if b then 1 else 0)
 |.int a,.int b=>a == b
 |.str a,.str b=>a == b
 |_,_=>false
theorem eqAt_V{A:Around}{s:Shared}{y x:V}{u v:Value}(ry:RelV y u)(rx:RelV x v)(fy:mG y=true)(fx:mG x=true):SeqAt.EqAt A s u v (eqV y x):=by
 cases y with
 |non =>
  cases ry
  cases x with
  |non=>cases rx;exact SeqAt.EqAt.same _
  |bl b=>cases rx;exact SeqAt.EqAt.none_bool b
  |int b=>obtain⟨t,rfl⟩:=rx;exact SeqAt.EqAt.none_int b t
  |str b=>obtain⟨t,rfl⟩:=rx;exact SeqAt.EqAt.none_str b t
  |_=>exact absurd (show false=true from fx) Cf
 |bl a =>
  cases ry
  cases x with
  |non=>cases rx;exact SeqAt.EqAt.bool_none a
  |bl b=>cases rx;exact SeqAt.EqAt.bool_bool a b
  |int b=>obtain⟨t,rfl⟩:=rx;exact SeqAt.EqAt.bool_int a b t
  |str b=>obtain⟨t,rfl⟩:=rx;exact SeqAt.EqAt.bool_str a b t
  |_=>exact absurd (show false=true from fx) Cf
 |int a =>
  obtain⟨t',rfl⟩:=ry
  cases x with
  |non=>cases rx;exact SeqAt.EqAt.int_none a t'
  |bl b=>cases rx;exact SeqAt.EqAt.int_bool a t' b
  |int b=>obtain⟨t,rfl⟩:=rx;exact SeqAt.EqAt.int_int a t' b t
  |str b=>obtain⟨t,rfl⟩:=rx;exact SeqAt.EqAt.int_str a t' b t
  |_=>exact absurd (show false=true from fx) Cf
 |str a =>
  obtain⟨t',rfl⟩:=ry
  cases x with
  |non=>cases rx;exact SeqAt.EqAt.str_none a t'
  |bl b=>cases rx;exact SeqAt.EqAt.str_bool a t' b
  |int b=>obtain⟨t,rfl⟩:=rx;exact SeqAt.EqAt.str_int a t' b t
  |str b=>obtain⟨t,rfl⟩:=rx;exact SeqAt.EqAt.str_str a t' b t
  |_=>exact absurd (show false=true from fx) Cf
 |_=>exact absurd (show false=true from fy) Cf
noncomputable def eqU(x:V)(u:Value):Bool:=match u with
 |.none=>eqV .non x
 |.bool b=>eqV (.bl b) x
 |.int i _=>eqV (.int i) x
 |.str z _=>eqV (.str z) x
 |_=>false
theorem zH{x y:V}{u:Value}(r:RelV y u)(f:mG y=true):eqU x u=eqV y x:=by
 cases y with
 |non=>cases r;rfl
 |bl b=>cases r;rfl
 |int i=>obtain⟨t,rfl⟩:=r;rfl
 |str z=>obtain⟨t,rfl⟩:=r;rfl
 |_=>exact absurd (show false=true from f) Cf
theorem qF{x:V}:∀{xs:List V}{us:List Value},Vals xs us->xs.all mG=true->us.any (eqU x)=xs.any fun y=>eqV y x
 |_,_,.nil,_=>rfl
 |y::xs,u::us,.cons r t,f=>by
  rw[Fd,CZ]at f;rw[Ek,Ek,zH r f.1,qF t f.2]
theorem mw{A:Around}{s:Shared}{x:V}{v:Value}(rx:RelV x v)(fx:mG x=true):∀{xs:List V}{us:List Value},Vals xs us->xs.all mG=true->∀ u∈us,SeqAt.EqAt A s u v (eqU x u)
 |_,_,.nil,_=>fun u hu=>by cases hu
 |y::xs,u::us,.cons r t,f=>fun u' hu=>by
  rw[Fd,CZ]at f;rcases BG.mp hu with rfl | hu
  ·rw[zH r f.1];exact eqAt_V r rx f.1 fx
  ·exact mw rx fx t f.2 u' hu
noncomputable def inV(x:V)(xs:List V):Bool:=xs.any fun y=>eqV y x
noncomputable def rIn(K:BD)(neg:Bool):R2:=fun x y H Q=>∃ p xs,y=.ref p/\(SqL K H p xs∨SqT K H p xs)/\mG x=true/\xs.all mG=true/\Q (.bl (if neg then !inV x xs else inV x xs)) H
theorem nQ:OpR X (compareOp .In) (rIn X.K false):=by
 intro pins s σ H x y v u Q I rx ry h;obtain⟨p,xs,rfl,hq,fx,fs,q⟩:=h
 cases ry
 rcases hq with hq | hq
 ·obtain⟨its,r,pl,hz⟩:=I.list hq;refine SeqAt.in_listAt (eqU x) pl.isList (fun w hw=>mw rx fx r fs w (by simpa using hw)) ⟨.bl _,H,I,rfl,?_⟩
  rw[show its.toArray.any (eqU x)=its.any (eqU x) by simp,qF r fs]
  exact q
 ·obtain⟨its,r,pl,hz⟩:=I.tuple hq;refine SeqAt.in_tupleAt (eqU x) pl (fun w hw=>mw rx fx r fs w (by simpa using hw)) ⟨.bl _,H,I,rfl,?_⟩
  rw[show its.toArray.any (eqU x)=its.any (eqU x) by simp,qF r fs]
  exact q
theorem ao:gg X (.builtin "len") (fun xs H Q=>∃ p ys,xs = [.ref p]/\(SqL X.K H p ys∨SqT X.K H p ys)/\Q (.int ys.length) H):=by
 intro pins s σ H xs us Q I r h;obtain⟨p,ys,rfl,hq,q⟩:=h;obtain⟨u,rfl,rx⟩:=kZ r
 cases rx
 have hn:=ku;rcases hq with hq | hq
 ·obtain⟨its,r',pl,hz⟩:=I.list hq;have hlen:=r'.length;exact Calls.call_len_list pl.isList (by simp only[Cm]<;>omega) ⟨.int ys.length,H,I.tok _,⟨s.toks+1,by rw[Cm,hlen]⟩,q⟩
 ·obtain⟨its,r',pl,hz⟩:=I.tuple hq;have hlen:=r'.length;exact len_tuple pl (by simp only[Cm]<;>omega) ⟨.int ys.length,H,I.tok _,⟨s.toks+1,by rw[Cm,hlen]⟩,q⟩
theorem oF:gg X (.builtin "len") (fun xs H Q=>∃ z,xs = [.str z]/\z.length<=sizeLine/\Q (.int z.length) H):=by
 intro pins s σ H xs us Q I r h;obtain⟨z,rfl,hz,q⟩:=h;obtain⟨u,rfl,t,rfl⟩:=kZ r;have hn:=ku;exact len_str (by omega) ⟨.int z.length,H,I.tok _,⟨_,rfl⟩,q⟩
theorem df:gg X (.type "list") (fun xs H Q=>∃ p ys,xs = [.ref p]/\(SqL X.K H p ys∨SqT X.K H p ys)/\∀ l,H l=none->Q (.ref l) (upd H l (.lst ys))):=by
 intro pins s σ H xs us Q I r h;obtain⟨p,ys,rfl,hq,q⟩:=h;obtain⟨u,rfl,rx⟩:=kZ r
 cases rx
 have fin:∀(its:List Value),Vals ys its->ys.length<=sizeLine->∀(h':Heap)(c':Nat),(∀ b o',s.heap.get? b=some o'->h'.get? b=some o') ->
   h'.get? s.heap.objs.size=some { cls:=.type "list",dict:=none,data:=.seq its.toArray c',slots:=#[] }->EP X pins σ Q (.ref s.heap.objs.size) { s with heap:=h' }:=fun its r' hz h' c' kp e =>
  ⟨.ref s.heap.objs.size,_,I.laid (t':=s.toks) kp (BI _) (show bH X.prog X.w _ h' _ (.lst ys) from⟨hz,its,c',r',e⟩),rfl,q _ (I.hok.fresh (BI _))⟩
 rcases hq with hq | hq
 ·obtain⟨its,r',pl,hz⟩:=I.list hq;have hlen:=r'.length;obtain⟨o,ho,hc,n,hd⟩:=pl.isList;exact call_list_seq p (.inl rfl) ho hc hd (fun h' c' kp e=>fin its r' hz h' c' kp e) (by simp only[Cm]<;>omega)
 ·obtain⟨its,r',pl,hz⟩:=I.tuple hq;have hlen:=r'.length;obtain⟨o,ho,hc,n,hd⟩:=pl;exact call_list_seq p (.inr rfl) ho hc hd (fun h' c' kp e=>fin its r' hz h' c' kp e) (by simp only[Cm]<;>omega)
noncomputable def tyV(K:BD)(T:String)(x:V)(H:Hp):Prop:=match x with
 |.str _=>T = "str"
 |.int _=>T = "int"
 |.ref p=>(T = "list"/\∃ xs,SqL K H p xs)∨(T = "tuple"/\∃ o,K.lookup p=some o/\o.cls=.type "tuple"/\o.dict=none) ∨
   (T = "dict"/\((∃ kvs,H p=some (.dK kvs))∨∃ kvs,H p=some (.dT kvs)))∨(T = "set"/\∃ S n,H p=some (.set S n))
 |_=>False
theorem yN{pins:List (Addr×Obj)}{σ:St}{H:Hp}{s:Shared}{T:String}{x:V}{v:Value}(I:Inv X pins σ H s)(r:RelV x v)(ty:tyV X.K T x H) :
  s.TypeIs v T/\∀ a,v=.ref a->∃ ob,s.heap.get? a=some ob/\ob.dict=none:=by
 cases x with
 |str z =>
  obtain⟨t,rfl⟩:=r
  cases (show T = "str" from ty)
  exact⟨typeIs_str s z t,fun _ e=>nomatch e⟩
 |int i =>
  obtain⟨t,rfl⟩:=r
  cases (show T = "int" from ty)
  exact⟨typeIs_int s i t,fun _ e=>nomatch e⟩
 |ref p =>
  cases r
  rcases ty with⟨rfl,xs,hq⟩ | ⟨rfl,o,hk,hc,hd⟩ | ⟨rfl,hk⟩ | ⟨rfl,S,n,hk⟩
  ·obtain⟨its,_,pl,_⟩:=I.list hq;refine⟨pl.isList.typeIs,fun a e=>?_⟩
   cases e
   obtain⟨o,n,e,c,hd,_⟩:=pl;exact⟨o,e,hd⟩
  ·refine⟨⟨o,I.kIn p o hk,hc⟩,fun a e=>?_⟩
   cases e
   exact⟨o,I.kIn _ o hk,hd⟩
  ·have z:∃ o,s.heap.get? p=some o/\o.ExactDict:=by
    rcases hk with⟨kvs,hk⟩ | ⟨kvs,hk⟩
    ·obtain⟨_,_,_,_,o,_,_,e,ex,_⟩:=I.hok p _ hk;exact⟨o,e,ex⟩
    ·obtain⟨_,_,_,_,o,_,_,e,ex,_⟩:=I.hok p _ hk;exact⟨o,e,ex⟩
   obtain⟨o,e,ex⟩:=z;refine⟨⟨o,e,ex.1⟩,fun a e2=>?_⟩
   cases e2
   exact⟨o,e,ex.2.1⟩
  ·obtain⟨o,_,_,_,e,ex,_⟩:=I.hok p _ hk;refine⟨⟨o,e,ex.1⟩,fun a e2=>?_⟩
   cases e2
   exact⟨o,e,ex.2.1⟩
 |_=>exact False.elim ty
noncomputable def tBM0(K:BD)(T:String)(r:V->List V->Hp->VK->Prop)(to:TE):TE:=fun σ H Q=>to σ H fun x H1=>tyV K T x H1/\r x [] H1 Q
noncomputable def tBM(K:BD)(T:String)(r:V->List V->Hp->VK->Prop)(to:TE)(t:TA):TE:=fun σ H Q=>to σ H fun x H1=>tyV K T x H1/\t σ H1 fun xs H2=>r x xs H2 Q
variable{o e:Expr}{es:List Expr}{to:TE}{t:TA}{name:Str}{apos cpos:Pos}{T id:String}{r:V->List V->Hp->VK->Prop}
theorem nL(pa:PlainAttrs T)(slot:Slot T name id) (hty:typeOf (.builtin id)=pure (.type "method_descriptor")) (hm:MtR X id r) (ho:PE X o to)
  (hbase:attributeBase o name X.env (eval o X.env)=eval o X.env:=by rfl) (hline:(apos.endLine == cpos.line)=true:=by rfl):PE X (.Call (.Attribute o name apos) [] [] cpos) (tBM0 X.K T r to):=by
 intro pins s σ H Q I h;refine wpAny_Call_method0_late hbase hline (thn (ho pins s σ H _ I h) fun v s1 ⟨x,H1,I1,r1,ty,q1⟩=>?_);obtain⟨h1,h2⟩:=yN I1 r1 ty;exact⟨T,id,pa,slot,hty,h1,h2,Calls.callWith_builtin rfl (PySem.evalArgs_none (hm pins s1 σ H1 x [] v [] Q I1 r1 .nil q1))⟩
theorem bP(pa:PlainAttrs T)(slot:Slot T name id) (hty:typeOf (.builtin id)=pure (.type "method_descriptor")) (hm:MtR X id r) (ho:PE X o to) (ha:PA X (e::es) t)
  (hbase:attributeBase o name X.env (eval o X.env)=eval o X.env:=by rfl)
  (hfew:((backTo cpos (starEach (e::es) X.env)).all (fun x=>!x.1)&&(backToKw cpos (keywordEach [] X.env)).all (fun x=>x.1.isSome)
   && decide ((e::es).length+([]:List Keyword).length+(if([]:List Keyword).isEmpty then 0 else 1)<30))=true:=by rfl)
  (hline:(apos.endLine == cpos.line)=true:=by rfl) (hs:starEach (e::es) X.env=(false,eval e X.env)::starEach es X.env:=by rfl) (hplain:(backTo cpos (starEach es X.env)).any (·.1)=false:=by rfl) :
  PE X (.Call (.Attribute o name apos) (e::es) [] cpos) (tBM X.K T r to t):=by
 intro pins s σ H Q I h;refine wpAny_Call_method_late hbase hfew hline rfl (thn (ho pins s σ H _ I h) fun v s1 ⟨x,H1,I1,r1,ty,q1⟩=>?_);obtain⟨h1,h2⟩:=yN I1 r1 ty;refine⟨T,id,pa,slot,hty,h1,h2,?_⟩;have hA:=ha cpos pins s1 σ H1 _ I1 q1;rw[hs]at hA ⊢;refine Calls.callWith_builtin (by show(false||(backTo cpos (starEach es X.env)).any (·.1))=false;rw[hplain]<;>rfl) (Calls.evalArgs_plain ?_)
 exact thn hA fun us s2 ⟨vs,H2,I2,r2,q2⟩=>hm pins s2 σ H2 x vs v us Q I2 r1 r2 q2
end
noncomputable def MtM(X:Cx)(id:String)(r:V->List V->Hp->VK->Prop):Prop :=
 ∀(pins:List (Addr×Obj))(s:Shared)(σ:St)(H:Hp)(x:V)(xs:List V)(v:Value)(us:List Value)(Q:VK),Inv X pins σ H s->RelV x v->Vals xs us->r x xs H Q ->
  wpAny (model X.prog X.w) X.A (call (.builtin id) (v::us)) (EP X pins σ Q) X.xe s
theorem Vals.one:∀{x:V}{us:List Value},Vals [x] us->∃ u,us = [u]/\RelV x u
 |_,_,.cons r .nil=>⟨_,rfl,r⟩
theorem Vals.unc{x:V}{xs:List V}{us:List Value}(h:Vals (x::xs) us):∃ u w,us=u::w/\RelV x u/\Vals xs w:=by
 cases h with
 |cons r t=>exact⟨_,_,rfl,r,t⟩
theorem Vals.two{x y:V}{us:List Value}(h:Vals [x,y] us):∃ u v,us = [u,v]/\RelV x u/\RelV y v:=by
 obtain⟨u,w,rfl,r,c⟩:=Vals.unc h;obtain⟨v,z,rfl,q,d⟩:=Vals.unc c;cases d;exact⟨_,_,rfl,r,q⟩
theorem Vals.zero:∀{us:List Value},Vals [] us->us = []
 |_,.nil=>rfl
theorem Vals.dropLast{xs:List V}{us:List Value}(h:Vals xs us):Vals xs.dropLast us.dropLast:=by
 induction h with
 |nil=>exact .nil
 |cons r t ih =>
  cases t with
  |nil=>exact .nil
  |cons q t'=>exact .cons r ih
theorem tJ{α:Type}(l:List α):l.eraseIdx (l.length-1)=l.dropLast:=by
 induction l with
 |nil=>rfl
 |cons a r ih =>
  cases r with
  |nil=>rfl
  |cons b r =>
   have e:(a::b::r).length-1=((b::r).length-1)+1:=by
    have h1:(a::b::r).length=r.length+2:=rfl;have h2:(b::r).length=r.length+1:=rfl;omega
   rw[e,List.eraseIdx_cons_succ,ih]
   all_goals rfl
section
variable{X:Cx}{pins:List (Addr×Obj)}{σ:St}{H:Hp}{s:Shared}{l b:Addr}{xs ys zs:List V}
theorem Inv.lset{its its':List Value}{n:Nat}{f:Array Value->Array Value}{t':Nat}(I:Inv X pins σ H s)(hH:H l=some (.lst xs))
  (e:s.heap.get? l=some { cls:=.type "list",data:=.seq its.toArray n }) (hf:f its.toArray=its'.toArray) (hv:Vals ys its') (hz:ys.length<=sizeLine) :
  Inv X pins σ (upd H l (.lst ys)) { s with heap:=s.heap.update l (Obj.mapSeq f),toks:=t' }:=by
 have q:=PySem.IsL.update e f;rw[hf]at q;refine I.write (x:=l) (e:=l) (by rw[hH];exact trivial) (.inl rfl) (fun b' u hb hu=>(Heap.get?_update_other s.heap (Obj.mapSeq f) (Ne.symm hb)).trans hu) ⟨_,q⟩ ?_
 exact⟨hz,its',_,hv,q⟩
theorem Inv.lnew{its:List Value}{t':Nat}(I:Inv X pins σ H s)(hv:Vals ys its)(hz:ys.length<=sizeLine) :
  Inv X pins σ (upd H s.heap.objs.size (.lst ys)) { s with heap:=s.heap.push { cls:=.type "list",data:=.seq its.toArray },toks:=t' } :=
 I.laid (fun _ _ q=>Heap.get?_push_of_some _ q) (BI _) ⟨hz,its,0,hv,Heap.get?_push_size _ rfl⟩
theorem Inv.fresh(I:Inv X pins σ H s):H s.heap.objs.size=none:=I.hok.fresh (BI _)
theorem Inv.lstM(I:Inv X pins σ H s)(hH:H l=some (.lst xs)):xs.length<=sizeLine/\∃(its:List Value)(n:Nat),Vals xs its/\xs.length=its.length/\s.heap.get? l=some { cls:=.type "list",data:=.seq its.toArray n }:=by
 obtain⟨z,its,n,r,e⟩:=I.hok l _ hH;exact⟨z,its,n,r,r.length,e⟩
end
section
variable{X:Cx}
noncomputable def Aq:V->List V->Hp->VK->Prop:=fun x vs H Q=>∃ l xs y,x=.ref l/\vs = [y]/\H l=some (.lst xs)/\xs.length<sizeLine/\Q .non (upd H l (.lst (xs++[y])))
theorem bg:MtM X "list.append" Aq:=by
 intro pins s σ H x vs v us Q I rx rv h;obtain⟨l,xs,y,rfl,rfl,hH,hz,q⟩:=h
 cases rx
 obtain⟨u,rfl,ru⟩:=rv.one;obtain⟨z,its,n,r,hl,e⟩:=I.lstM hH;refine call_meets F.slot_list_append ⟨_,e,rfl⟩ F.entry_list_append (F.args_list_append_2 _ _) (PySem.list_append l its.toArray n u (by rw[Cm];omega)) ⟨e,?_⟩
 refine⟨.non,_,I.lset (its':=its++[u]) hH e (by simp) (r.append (.cons ru .nil)) ?_,rfl,q⟩
 rw[BE,BM];omega
noncomputable def rPop:V->List V->Hp->VK->Prop:=fun x vs H Q=>∃ l xs y,x=.ref l/\vs = []/\H l=some (.lst xs)/\xs[xs.length-1]?=some y/\Q y (upd H l (.lst xs.dropLast))
theorem nS:MtM X "list.pop" rPop:=by
 intro pins s σ H x vs v us Q I rx rv h;obtain⟨l,xs,y,rfl,rfl,hH,hy,q⟩:=h
 cases rx
 have hus:=rv.zero;subst hus;obtain⟨z,its,n,r,hl,e⟩:=I.lstM hH;obtain⟨u,hu,ru⟩:=r.get hy;have hy':its.toArray[its.toArray.size-1]?=some u:=by
  show its.toArray[its.length-1]?=some u;rw[← EM,← hl];exact hu
 refine call_meets F.slot_list_pop ⟨_,e,rfl⟩ F.entry_list_pop (F.args_list_pop_1 _) (MeetsSeq.list_pop_last l its.toArray n u hy' (by rw[Cm];omega)) ⟨e,?_⟩
 refine⟨y,_,I.lset (its':=its.dropLast) hH e ?_ r.dropLast ?_,ru,q⟩
 ·show its.toArray.eraseIdxIfInBounds (its.toArray.size-1)=its.dropLast.toArray;rw[Cm,List.eraseIdxIfInBounds_toArray,tJ]
 ·rw[DR];omega
noncomputable def rCat:R2:=fun x y H Q=>∃ l b xs zs,x=.ref l/\y=.ref b/\H l=some (.lst xs)/\H b=some (.lst zs)/\xs.length+zs.length<=sizeLine/\∀ p,H p=none->Q (.ref p) (upd H p (.lst (xs++zs)))
theorem op_cat:OpR X (binaryOp .Add) rCat:=by
 intro pins s σ H x y v u Q I rx ry h;obtain⟨l,b,xs,zs,rfl,rfl,hH,hB,hz,q⟩:=h
 cases rx
 cases ry
 obtain⟨z,its,n,r,hl,e⟩:=I.lstM hH;obtain⟨z2,its2,n2,r2,hl2,e2⟩:=I.lstM hB;refine PySem.P.add_list e e2 ?_ (by rw[Cm,Cm];omega)
 have ea:its.toArray++its2.toArray=(its++its2).toArray:=by simp
 rw[ea];exact⟨.ref _,_,I.lnew (t':=s.toks) (r.append r2) (by rw[BE];omega),rfl,q _ I.fresh⟩
end
section
variable{prog:Program}{w:World}{A:Around}{E:Value->Shared->Prop}{s:Shared}
end
section
variable{X:Cx}
end
end L2
namespace Att
open PySem PySem.W PySem.Calls PyProof.Rows
theorem kD{P:Params}{h:Heap}:∀(ns:List Int)(vs:List Value),WellAll P h vs (ns.map WData.int)->IntsAre vs ns:=by
 intro ns;induction ns with
 |nil =>
  intro vs w;rw[Fl]at w
  cases w
  exact .nil
 |cons n ns ih =>
  intro vs w;rw[BW]at w
  cases w with
  |cons a b =>
   cases a
   exact .cons _ _ (ih _ b)
theorem uQ{l:OpenLaw}{n:Nat}(hn:l.most=some n){P:Params}{h:Heap}{args:List WData}{vals:List Value}
  (hpre:l.row.toRowW.claim.pre args=true) (hwl:WellAll P h vals args) :
  ∃ a vs ns,vals = [Value.ref a]/\args = [WData.list (ns.map WData.int)]/\h.get? a=some { cls:=.type "list",data:=.seq vs.toArray }/\IntsAre vs ns/\ns.length<=n:=by
 have hsh:WShape.hasAll [] args [.list .int]=true:=(pre_splitW hpre).1;have hc:l.pre.holds [] { args:=args }=true:=(pre_splitW hpre).2;obtain⟨d,r,rfl,h1,h2⟩:=hasAllW_cons hsh;obtain rfl:=hasAllW_nil h2;obtain⟨xs,rfl,h3⟩:=hasW_list h1;obtain⟨ns,rfl⟩:=items_int h3;have hlen:ns.length<=n:=by
  unfold OpenLaw.pre at hc;have h4:(WTm.not (.lt (.lit (.int (n:Int))) (.len (.arg 0)))).holds [] { args:=[.list (ns.map .int)] }=true:=by
   have h4:=(holds_andW hc).1;rw[hn]at h4;exact h4
  have h5:=condW_of h4 (w_not (w_lt w_lit (w_len_list (w_arg rfl))));rw[BC]at h5;refine Nat.le_of_not_lt fun q=>?_;have q':(n:Int)<((ns.length:Nat):Int):=by omega
  first
   | (rw[decide_eq_true q']at h5;exact absurd h5 (by decide))
   | (simp at h5;omega)
 cases hwl with
 |cons w1 w2 =>
  cases w2
  cases w1 with
  |list ho hall=>exact⟨_,_,ns,rfl,rfl,ho,kD ns _ hall,hlen⟩
theorem vj(l:OpenLaw)(args:List WData):l.row.toRowW.claim.post args (.bool true) args=true :=
 postW_of (r:=l.row.toRowW) (X:=(true == true))
  (show WShape.has [] (.bool true) .bool=true by first | rfl | decide | simp[WShape.has,WShape.arms,WShape.armsAll])
  (show(WTm.eq .res (.lit (.bool true))).value [] { args:=args,res:=some (.bool true),after:=args }=some (.bool (true == true)) from w_eq_bool (w_res rfl) w_lit) rfl
theorem attach_call{l:OpenLaw}{n:Nat}{q:Program}{loose:List Str}{XP:(Str->Option Value)->Heap->Prop}{YP:World->Heap->Prop}{d:DefRec}
  (hn:l.most=some n) (hdf:d.params.defaults = [])
  (call:∀(w:World)(s₀ s₁:Shared)(mg mb:Str->Option Value)(fa:Addr)(o:Obj)(pm cd doc:Value)(a:Addr)(vs:List Value)(ns:List Int),
   Ground q loose [] XP w s₀ mg mb s₁.heap->YP w s₁.heap ->
   s₁.heap.get? fa=some o->o.data=.func (docDef d.name d.params d.body d.scope pm cd doc)->s₁.heap.CodeRec cd d.name->mg d.name=some (.ref fa) ->
   s₁.heap.get? a=some { cls:=.type "list",data:=.seq vs.toArray }->IntsAre vs ns->ns.length<=n->s₁.gens=#[] ->
   codeAny (model l.prog w) callerA (.call (.ref fa) ⟨[.ref a],[]⟩) (fun r s'=>r=.ok (.ret (.bool true))/\OldK s₁.heap s'.heap/\s'.os=s₁.os/\AllBare s'.gens) s₁) :
  WalkO q loose XP YP l.row.toRowW d [] (fun f vs=>PySem.call f vs):=by
 intro w s₀ s₁ mg mb G Y fa o pm cd doc dV kV ho hd hcd hD hmg hg args vals as hpre hlay hrd hwl hlo;obtain rfl:dV=.none:=Dflts.none hD hdf;obtain rfl:kV=.none:=Dflts.noKw hD;obtain⟨a,vs,ns,rfl,rfl,hobj,hints,hlen⟩:=uQ hn hpre hwl;refine enter_call (codeAny_mono (call w s₀ s₁ mg mb fa o pm cd doc a vs ns G Y ho (fd_plain hd) hcd hmg hobj hints hlen hg) fun r s' hq=>?_);obtain⟨rfl,h2,h3,h4⟩:=hq;exact⟨.inl ⟨.bool true,.bool true,[],rfl,fun _=>rfl,.bool true,vj l _,fun _=>⟨FG,fun _ hm=>(nomatch hm)⟩⟩,h2,h3,h4⟩
section
variable{prog:Program}{w:World}{A:Around}{E:Value->Shared->Prop}{s:Shared}{K:Frag}
end
end Att
namespace L2
open PySem PySem.Spec PyProof.Rows
theorem ni:∀{vs:List Value}{ns:List Int},IntsAre vs ns->Vals (ns.map V.int) vs
 |_,_,.nil=>.nil
 |_,_,.cons n t h=>.cons ⟨t,rfl⟩ (ni h)
noncomputable def Only(H:Hp):Prop:=∀ b,H b=none∨∃ o xs,H b=some (.frz o (.lst xs))
theorem yq{P:Program}{w:World}{K:BD}{mg mb:Str->Option Value}{CX:CXT}{k:Nat}{fa a:Addr}{fd:FuncData}{x:Str}{sp:Sp}{s₁:Shared}{vs:List Value}{ns:List Int}
  (KX:K.In s₁.heap) (hns:s₁.heap.Ns mainGlobals mg) (hb:s₁.heap.Ns builtinsNs mb) (hbb:∀ x:Str,x≠"__name__"->mb x=bootBuiltins x) (hlim:s₁.heap.NoLimit) (hg:s₁.gens=#[])
  (ha:s₁.heap.get? a=some { cls:=.type "list",data:=.seq vs.toArray }) (hi:IntsAre vs ns) (hl:ns.length<=sizeLine) (hr:Room k callerA)
  (F:∀ base:Heap,K.In base->base.Ns mainGlobals mg->FnOk P w K mg base CX k fa fd [x] sp) (hbind:∀(s:Shared)(u:Value),BindsTo s fd ⟨[u],[]⟩ [(x,u)])
  (hsp:∀ H:Hp,Only H->SqL K H a (ns.map V.int)->sp [.ref a] H (fun v _=>v=.bl true) fun _ _ _=>False)
  (hCX:∀ H e s',CX [] H s₁ (fun _ _ _=>False) e s'->False) :
  codeAny (model P w) callerA (.call (.ref fa) ⟨[.ref a],[]⟩) (fun r s'=>r=.ok (.ret (.bool true))/\OldK s₁.heap s'.heap/\s'.os=s₁.os/\AllBare s'.gens) s₁:=by
 have rv:=ni hi;have lenV:=hi.length;have core:∀ H:Hp,Only H->SqL K H a (ns.map V.int)->HOk P w H s₁.heap->(∀ b,H b≠none->b=a)->(H a≠none->K.lookup a=none) ->
   codeAny (model P w) callerA (.call (.ref fa) ⟨[.ref a],[]⟩) (fun r s'=>r=.ok (.ret (.bool true))/\OldK s₁.heap s'.heap/\s'.os=s₁.os/\AllBare s'.gens) s₁:=by
  intro H hO hS hok hA hK;have base_of:∀{b:Addr}{o:Obj},s₁.heap.get? b=some o->H b=none->(hidT s₁.heap H).get? b=some o:=fun e n=>yw e n;have noA:∀{b:Addr}{o:Obj}{es:Array DictEntry}{ep:Nat},s₁.heap.get? b=some o->o.data=.dict es ep->H b=none:=fun{b o es ep} e d=>by
   cases q:H b with
   |none=>rfl
   |some u =>
    have e':b=a:=hA b (by rw[q];simp)
    subst e';rw[ha]at e;cases e;have d':Data.seq vs.toArray _=Data.dict es ep:=d
    cases d'
  have nsK:∀{b:Addr}{m:Str->Option Value},s₁.heap.Ns b m->(hidT s₁.heap H).Ns b m:=fun{b m} ⟨o,es,ep,e,d,r⟩=>⟨o,es,ep,base_of e (noA e d),d,r⟩
  have hKb:K.In (hidT s₁.heap H):=fun b o e=>base_of (KX b o e) (by
   cases q:H b with
   |none=>rfl
   |some u =>
    have e':b=a:=hA b (by rw[q];simp)
    subst e'
    rw[hK (by rw[q];simp)]at e;cases e)
  have hM:Mod K mg (hidT s₁.heap H):=⟨hKb,nsK hns,⟨mb,nsK hb,hbb⟩,let ⟨mc,h1,h2⟩:=hlim;⟨mc,nsK h1,h2⟩⟩;have e0:Env0 P w K mg (hidT s₁.heap H) callerA [] s₁ H:=⟨rfl,hM,fun b o e=>AO e,FJ (wm _ _),trivial,fun b hb=>absurd (show b∈([]:List Addr) from hb) (by simp),hok,.of_eq hg⟩
  refine codeAny_mono ((F _ hKb (nsK hns)).run callerA [] s₁ H ⟨[.ref a],[]⟩ [.ref a] [.ref a] _ _ hr e0 (hbind s₁ (.ref a)) (.cons rfl .nil) (hsp H hO hS)) fun r s' h=>?_
  cases r with
  |error e=>exact(hCX H e s' h).elim
  |ok fl =>
   cases fl with
   |next=>exact False.elim h
   |brk=>exact False.elim h
   |cont=>exact False.elim h
   |ret u =>
    obtain⟨v,H',os,bare,un,hok',r',q⟩:=h;have q':v=.bl true:=q;subst q';obtain rfl:u=Value.bool true:=r';refine⟨rfl,OldK.of_keep fun b o e=>?_,os,bare⟩
    cases q:H b with
    |none=>exact un.keep b o e q (by intro z;exact absurd (show b∈([]:List Addr) from z) (by simp)) (by simp)
    |some u =>
     rcases hO b with z | ⟨ob,xs,z⟩
     ·rw[q]at z;cases z
     ·have z2:=un.frzs b ob _ z
      obtain⟨e1,_⟩:=hok b _ z;obtain⟨e2,_⟩:=hok' b _ z2;rw[e]at e1;cases e1;exact e2
 cases hk:K.lookup a with
 |some o =>
  have e:=KX a o hk;rw[ha]at e
  cases e
  refine core (fun _=>none) (fun _=>.inl rfl) (.inr ⟨_,vs.toArray,_,hk,rfl,rfl,rfl,by rw[Cm,lenV];exact hl,by simpa using rv⟩) (fun b u z=>by have z':(none:Option HO)=some u:=z;cases z') (fun b z=>absurd rfl z) fun z=>absurd rfl z
 |none =>
  refine core (fun b=>if b=a then some (.frz { cls:=.type "list",data:=.seq vs.toArray } (.lst (ns.map V.int))) else none) (fun b=>?_) (.inl (.inr ⟨{ cls:=.type "list",data:=.seq vs.toArray },if_pos rfl⟩)) (fun b u z=>?_) (fun b z=>?_) fun _=>hk
  ·by_cases hb:b=a
   ·exact .inr ⟨_,_,if_pos hb⟩
   ·exact .inl (if_neg hb)
  ·by_cases hb:b=a
   ·have z':=(if_pos hb).symm.trans z
    cases z'
    subst hb;exact⟨ha,by rw[BC];exact hl,vs,_,rv,ha⟩
   ·have z':=(if_neg hb).symm.trans z
    cases z'
  ·by_cases hb:b=a
   ·exact hb
   ·exact absurd (if_neg hb) z
theorem walk_of{l:FU}{n k:Nat}{q:Program}{loose:List Str}{XP:(Str->Option Value)->Heap->Prop}{YP:World->Heap->Prop}{d:DefRec}{K:Params->BD}{CX:World->CXT}{sp:World->Sp}{x:Str}
  (hn:l.most=some n) (hn2:n<=sizeLine) (hdf:d.params.defaults = []) (hr:Room k callerA)
  (hY:∀(w:World)(h:Heap),YP w h->(K w.params).In h)
  (F:∀(w:World)(mg:Str->Option Value)(fa:Addr)(h:Heap),(K w.params).In h->h.Ns mainGlobals mg->mg d.name=some (.ref fa) ->
   ∃ fd:FuncData,(∀(s:Shared)(u:Value),BindsTo s fd ⟨[u],[]⟩ [(x,u)]) /\
    ∀ base:Heap,(K w.params).In base->base.Ns mainGlobals mg->FnOk l.prog w (K w.params) mg base (CX w) k fa fd [x] (sp w))
  (hsp:∀(w:World)(H:Hp)(a:Addr)(ns:List Int),ns.length<=n->Only H->SqL (K w.params) H a (ns.map V.int)->sp w [.ref a] H (fun v _=>v=.bl true) fun _ _ _=>False)
  (hCX:∀(w:World)(H:Hp)(s:Shared)(e:Value)(s':Shared),CX w [] H s (fun _ _ _=>False) e s'->False) :
  PySem.W.WalkO q loose XP YP l.row.toRowW d [] (fun f vs=>PySem.call f vs):=by
 refine Att.attach_call hn hdf fun w s₀ s₁ mg mb fa o pm cd doc a vs ns G Y ho hd hcd hmg hobj hints hlen hg=>?_;have KX:=hY w _ Y;obtain⟨fd,hb,hF⟩:=F w mg fa _ KX G.T.g hmg;exact yq KX G.T.g G.T.b G.T.builtins G.T.nolimit hg hobj hints (Co hlen hn2) hr hF hb (fun H hO hS=>hsp w H a ns hlen hO hS) fun H e s'=>hCX w H s₁ e s'
noncomputable def pZ(s:Stmt)(j:Nat):Stmt:=match s with
 |.ClassDef _ _ _ body _ _ _ _ _ _ _=>body.getD j (.Pass ⟨0,0,0,0⟩)
 |_=>.Pass ⟨0,0,0,0⟩
noncomputable def eK(s:Stmt):Arguments:=match s with
 |.FunctionDef _ a _ _ _ _ _ _ _ _=>a
 |_=>{ posonlyargs:=[],args:=[],vararg:=none,kwonlyargs:=[],kw_defaults:=[],kwarg:=none,defaults:=[] }
noncomputable def dy(s:Stmt):List Stmt:=match s with
 |.FunctionDef _ _ b _ _ _ _ _ _ _=>b
 |_=>[]
noncomputable def ay(s:Stmt):Scope:=match s with
 |.FunctionDef _ _ _ _ _ _ sc _ _ _=>sc
 |_=>{ kind:=.function,names:=[],isGenerator:=false,isCoroutine:=false }
noncomputable abbrev CX0:CXT:=fun _ _ _ _ _ _=>False
noncomputable abbrev E0:XK:=fun _ _ _=>False
theorem bA{X:Cx}:xy CX0 X E0:=fun _ _ _ _ _ _ _ h=>h.elim
structure Fun(K:BD)(x qual:Str)(st:Stmt)(f:Addr)(fd:FuncData):Prop where
 ex:∃(oc:Value)(od:Option Addr)(kV doc pm:Value)(an:Option Addr)(cdv ct:Value)(osl:Array (Option Value)),
  fd=DD x qual (eK st) (dy st) (ay st) .none kV doc pm an cdv ct/\K.lookup f=some ⟨oc,od,.func fd,osl⟩/\Er K cdv qual=true
 kp:CY K (.ref f)=true
section
variable{P:Program}{w:World}{K:BD}{mg:Str->Option Value}{base:Heap}
theorem Fun.ok{x qual:Str}{st:Stmt}{f:Addr}{fd:FuncData}{N ps:List Str}{k:Nat}{sp:Sp}(F:Fun K x qual st f fd)(S:aJ N ps (ay st))(len:∀ vs H Q E,sp vs H Q E->vs.length=ps.length)
  (hbody:∀(cdv:Value)(A:Around)(outer:List Env)(s:Shared)(H:Hp)(vs:List V)(Q:VK)(E:XK),Room k (A.deeper (envOfC qual (ay st) s.heap.objs.size f cdv))->sp vs H Q E ->
   ∃ t,PSs (cxOf CX0 P w K mg base N qual (ay st) f cdv A outer s H E).nox (dy st) t/\t { nx:=fun _ H'=>Q .non H',rt:=Q } (start N vs) H):FnOk P w K mg base CX0 (k+1) f fd ps sp:=by
 obtain⟨oc,od,kV,doc,pm,an,cdv,ct,osl,rfl,lk,hcd⟩:=F.ex;refine fn_of lk hcd S len fun A outer s H vs Q E hr hsp=>?_;obtain⟨t,h,q⟩:=hbody cdv A outer s H vs Q E hr hsp;exact⟨t,h.nox,q⟩
theorem Fun.binds{x qual:Str}{st:Stmt}{f:Addr}{fd:FuncData}{ps:List Str}(F:Fun K x qual st f fd)
  (h:∀(kV doc pm:Value)(an:Option Addr)(cdv ct:Value)(us:List Value),us.length=ps.length->bindArgs (DD x qual (eK st) (dy st) (ay st) .none kV doc pm an cdv ct) ⟨us,[]⟩=pure (ps.zip us)):d8 K fd ps []:=by
 obtain⟨oc,od,kV,doc,pm,an,cdv,ct,osl,rfl,lk,hcd⟩:=F.ex;exact .all (h kV doc pm an cdv ct)
theorem fun_mk{x qual:Str}{st:Stmt}{f:Addr}{oc:Value}{od an:Option Addr}{osl:Array (Option Value)}{kV doc pm cdv ct:Value}(l:K.lookup f=some ⟨oc,od,.func (DD x qual (eK st) (dy st) (ay st) .none kV doc pm an cdv ct),osl⟩)
  (c:Er K cdv qual=true) (k:CY K (.ref f)=true):Fun K x qual st f (DD x qual (eK st) (dy st) (ay st) .none kV doc pm an cdv ct):=⟨⟨oc,od,kV,doc,pm,an,cdv,ct,osl,rfl,l,c⟩,k⟩
end
theorem hu_of{A:Around}{k:Nat}(hr:Room k A):A.units+1<cLine:=EZ (Nat.add_le_add_left (by decide:1<=64) _) hr.units
theorem aC{n:Nat}(h:n<=1000):n<sizeLine:=EZ h (by decide)
section
variable{X:Cx}
theorem pv(i:Nat){x:Str}{pos:Pos}(hN:X.N[i]?=some x:=by rfl)(hv:Vis X.env.scope x:=by first | exact Or.inl rfl | exact Or.inr (Or.inl rfl) | exact Or.inr (Or.inr rfl)) (hd:(x == ("__debug__" : Str))=false:=by decide)
  (hcd:(x == ("__classdict__" : Str))=false:=by decide):PE X (.Name x pos) (tVar i):=pe_var hN hv hd hcd
end
theorem iteF{A B:Prop}(h:B):if false=true then A else B:=by
 rw[if_neg Cf];exact h
theorem iteT{A B:Prop}(h:A):if true=true then A else B:=by
 rw[if_pos rfl];exact h
theorem ite2{c A B:Prop} [Decidable c] (h1:c->A) (h2:¬ c->B):if c then A else B:=by
 by_cases h:c
 ·rw[if_pos h];exact h1 h
 ·rw[if_neg h];exact h2 h
theorem iteNS{c A B:Prop} [Decidable c] (hc:c) (h:B):if(!decide c)=true then A else B:=by
 rw[decide_eq_true hc];exact iteF h
noncomputable def Same(H H':Hp):Prop:=∀ b o,H b=some o->H' b=some o
theorem Same.trans{H H1 H2:Hp}(a:Same H H1)(b:Same H1 H2):Same H H2:=fun c o h=>b c o (a c o h)
theorem Same.seq{K:BD}{H H':Hp}{a:Addr}{xs:List V}(e:Same H H')(h:SqL K H a xs):SqL K H' a xs:=by
 rcases h with(h | ⟨o,h⟩) | h
 ·exact .inl (.inl (e _ _ h))
 ·exact .inl (.inr ⟨o,e _ _ h⟩)
 ·exact .inr h
end L2
set_option maxRecDepth 100000
set_option maxHeartbeats 4000000
namespace L2
open PySem PySem.Spec PyProof.Rows
section
variable{κ:Type} [DecidableEq κ]
noncomputable def valV(kvs:List (κ×V))(k:κ):Option V:=(kvs.find? fun kv=>decide (kv.1=k)).map (·.2)
noncomputable def putK(kvs:List (κ×V))(k:κ)(v:V):List (κ×V) :=
 if(kvs.any fun kv=>decide (kv.1=k))=true then kvs.map (fun kv=>if kv.1=k then(kv.1,v) else kv) else kvs++[(k,v)]
theorem cB{p:κ×V}{r:List (κ×V)}{k:κ}(e:p.1=k):valV (p::r) k=some p.2:=by simp[valV,EF,e]
theorem cC{p:κ×V}{r:List (κ×V)}{k:κ}(e:¬ p.1=k):valV (p::r) k=valV r k:=by simp[valV,EF,e]
theorem jJ(k:κ):∀ kvs:List (κ×V),(kvs.any fun kv=>decide (kv.1=k))=(valV kvs k).isSome
 |[]=>rfl
 |p::r=>by
  rw[Ek];by_cases e:p.1=k
  ·simp only[cB e,decide_eq_true e,Bool.true_or,Option.isSome_some]
  ·rw[cC e,decide_eq_false e,Bool.false_or];exact jJ k r
theorem qL(k j:κ)(y:V):∀ kvs:List (κ×V),valV (kvs.map fun kv=>if kv.1=k then(kv.1,y) else kv) j=(valV kvs j).map fun x=>if j=k then y else x
 |[]=>rfl
 |p::r=>by
  have ih:=qL k j y r;rw[BW];by_cases h:p.1=k
  ·rw[if_pos h];by_cases e:p.1=j
   ·rw[cB (p:=(p.1,y)) e,cB e,Fg,if_pos (e.symm.trans h)]
   ·rw[cC (p:=(p.1,y)) e,cC e,ih]
  ·rw[if_neg h];by_cases e:p.1=j
   ·rw[cB (p:=p) e,cB e,Fg,if_neg (fun z=>h (e.trans z))]
   ·rw[cC (p:=p) e,cC e,ih]
theorem nj(k j:κ)(y:V):∀ kvs:List (κ×V),valV kvs k=none->valV (kvs++[(k,y)]) j=if j=k then some y else valV kvs j
 |[],_=>by
  by_cases e:k=j
  ·rw[if_pos e.symm];exact cB (p:=(k,y)) e
  ·rw[if_neg (fun z=>e z.symm)];exact cC (p:=(k,y)) e
 |p::r,hn=>by
  rw[Dg];have hk:¬ p.1=k:=fun z=>by rw[cB z]at hn;cases hn
  rw[cC hk]at hn;have ih:=nj k j y r hn;by_cases e:p.1=j
  ·rw[cB e,cB e,if_neg (fun z=>hk (e.trans z))]
  ·rw[cC e,cC e,ih]
theorem lH(kvs:List (κ×V))(k j:κ)(y:V):valV (putK kvs k y) j=if j=k then some y else valV kvs j:=by
 unfold putK;by_cases a:(kvs.any fun kv=>decide (kv.1=k))=true
 ·rw[if_pos a,qL];rw[jJ]at a;by_cases e:j=k
  ·obtain⟨x,hx⟩:=EC.mp a;rw[if_pos e,e,hx,Fg,if_pos rfl]
  ·rw[if_neg e]
   cases valV kvs j with
   |none=>rfl
   |some x=>rw[Fg,if_neg e]
 ·rw[if_neg a];refine nj k j y kvs ?_;rw[jJ]at a
  cases q:valV kvs k with
  |none=>rfl
  |some x=>rw[q]at a;exact(a rfl).elim
theorem fz(kvs:List (κ×V))(k:κ)(v:V):(putK kvs k v).length<=kvs.length+1:=by
 unfold putK;split
 ·rw[BC];omega
 ·rw[BE,BK,DH];omega
theorem RelO.isSome_eq{o:Option V}{u:Option Value}(r:RelO o u):o.isSome=u.isSome:=by
 cases o with
 |none=>cases u with
  |none=>rfl
  |some _=>exact(show False from r).elim
 |some _=>cases u with
  |none=>exact(show False from r).elim
  |some _=>rfl
theorem KV.val{kvs:List (κ×V)}{vs:List (κ×Value)}(r:KV kvs vs)(k:κ):RelO (valV kvs k) (valueAt vs k):=by
 unfold KV at r;induction r with
 |nil=>exact True.intro
 | @cons p q ps qs h t ih =>
  obtain⟨h1,h2⟩:=h;by_cases e:p.1=k
  ·have e':q.1=k:=h1.symm.trans e
   have b:valueAt (q::qs) k=some q.2:=by simp[valueAt,EF,e']
   rw[cB e,b];exact h2
  ·have e':¬ q.1=k:=fun z=>e (h1.trans z)
   have b:valueAt (q::qs) k=valueAt qs k:=by simp[valueAt,EF,e']
   rw[cC e,b];exact ih
theorem KV.any{kvs:List (κ×V)}{vs:List (κ×Value)}(r:KV kvs vs)(k:κ):(kvs.any fun kv=>decide (kv.1=k))=vs.any fun kv=>decide (kv.1=k):=by
 unfold KV at r;induction r with
 |nil=>rfl
 |cons h t ih=>rw[Ek,Ek,ih,h.1]
theorem KV.repl{kvs:List (κ×V)}{vs:List (κ×Value)}(r:KV kvs vs)(k:κ){y:V}{u:Value}(ry:RelV y u) :
  KV (kvs.map fun kv=>if kv.1=k then(kv.1,y) else kv) (vs.map fun kv=>if kv.1=k then(kv.1,u) else kv):=by
 unfold KV at r ⊢;induction r with
 |nil=>exact .nil
 | @cons p q ps qs h t ih =>
  rw[BW,BW];refine .cons ?_ ih;obtain⟨h1,h2⟩:=h;by_cases e:p.1=k
  ·rw[if_pos e,if_pos (h1.symm.trans e)];exact⟨h1,ry⟩
  ·rw[if_neg e,if_neg (fun z=>e (h1.trans z))];exact⟨h1,h2⟩
theorem KV.put{kvs:List (κ×V)}{vs:List (κ×Value)}(r:KV kvs vs)(k:κ){y:V}{u:Value}(ry:RelV y u):KV (putK kvs k y) (stored vs k u):=by
 unfold putK stored;rw[r.any k];by_cases e:(vs.any fun kv=>decide (kv.1=k))=true
 ·rw[if_pos e,if_pos e];exact r.repl k ry
 ·rw[if_neg e,if_neg e];exact Paired.snoc r ⟨rfl,ry⟩
theorem KV.length{kvs:List (κ×V)}{vs:List (κ×Value)}(r:KV kvs vs):kvs.length=vs.length:=Paired.length r
end
theorem yu{P:Program}{w:World}{k:Key}{u:Value}(r:RelV (kV k) u):(cT P w).is k u=true:=by
 cases k with
 |inl i=>obtain⟨t,e⟩:=(show ∃ t,u=Value.int i t from r);subst e;exact pT P w i t
 |inr x=>obtain⟨t,e⟩:=(show ∃ t,u=Value.str x t from r);subst e;exact pS P w x t
theorem n8{P:Program}{w:World}:∀{ks:List Key}{us:List Value},Vals (ks.map kV) us->ItemsAre (cT P w) ks us
 |[],_,r=>by rw[Fl]at r;cases r;exact .nil
 |k::ks,_,r=>by
  rw[BW]at r
  cases r with
  |cons h t=>exact .cons (yu h) (n8 t)
noncomputable abbrev KT(H:Hp):List (List Key×V)->List (List Key×Addr×Value)->Prop:=Paired fun p q=>p.1=q.1/\H q.2.1=some (.tup (p.1.map kV))/\RelV p.2 q.2.2
theorem KT.val{H:Hp}{kvs:List (List Key×V)}{xs:List (List Key×Addr×Value)}(r:KT H kvs xs)(k:List Key):RelO (valV kvs k) ((atKey xs k).map (·.2)):=by
 induction r with
 |nil=>exact True.intro
 | @cons p q ps qs h t ih =>
  obtain⟨h1,_,h2⟩:=h;by_cases e:p.1=k
  ·have e':q.1=k:=h1.symm.trans e
   have b:atKey (q::qs) k=some q.2:=by simp[atKey,EF,e']
   rw[cB e,b];exact h2
  ·have e':¬ q.1=k:=fun z=>e (h1.trans z)
   have b:atKey (q::qs) k=atKey qs k:=by simp[atKey,EF,e']
   rw[cC e,b];exact ih
theorem KT.repl{H:Hp}{kvs:List (List Key×V)}{xs:List (List Key×Addr×Value)}(r:KT H kvs xs)(k:List Key){y:V}{u:Value}(ry:RelV y u) :
  KT H (kvs.map fun kv=>if kv.1=k then(kv.1,y) else kv) (xs.map (putAt k u)):=by
 induction r with
 |nil=>exact .nil
 | @cons p q ps qs h t ih =>
  rw[BW,BW];refine .cons ?_ ih;obtain⟨h1,h2,h3⟩:=h;unfold putAt;by_cases e:p.1=k
  ·rw[if_pos e,if_pos (h1.symm.trans e)];exact⟨h1,h2,ry⟩
  ·rw[if_neg e,if_neg (fun z=>e (h1.trans z))];exact⟨h1,h2,h3⟩
theorem KT.put{H:Hp}{kvs:List (List Key×V)}{xs:List (List Key×Addr×Value)}(r:KT H kvs xs)(k:List Key){b:Addr}{y:V}{u:Value}(hb:H b=some (.tup (k.map kV)))(ry:RelV y u) :
  KT H (putK kvs k y) (storedH xs k b u):=by
 have e:(kvs.any fun kv=>decide (kv.1=k))=(atKey xs k).isSome:=by
  rw[jJ,(r.val k).isSome_eq,Option.isSome_map]
 unfold putK storedH;rw[e];by_cases q:(atKey xs k).isSome=true
 ·rw[if_pos q,if_pos q];exact r.repl k ry
 ·rw[if_neg q,if_neg q];exact Paired.snoc r ⟨rfl,hb,ry⟩
theorem KT.keeps{H H':Hp}{kvs:List (List Key×V)}{xs:List (List Key×Addr×Value)}(r:KT H kvs xs)(ht:∀ b ys,H b=some (.tup ys)->H' b=some (.tup ys)):KT H' kvs xs :=
 Paired.mapP r fun _ _ z=>⟨z.1,ht _ _ z.2.1,z.2.2⟩
section
variable{P:Program}{w:World}{H:Hp}{h:Heap}{a:Addr}
theorem xP{u:HO}(ok:HOk P w H h)(e:Rd H a u):bH P w H h a u:=e.ok ok
theorem yC{kvs:List (Key×V)}(ok:HOk P w H h)(e:Rd H a (.dK kvs)):kvs.length<=sizeLine/\(a == sysModules)=false/\∃ vs,KV kvs vs/\h.DictOf (cT P w) a vs :=
 show bH P w H h a (.dK kvs) from xP ok e
theorem dk_of{kvs:List (Key×V)}(ok:HOk P w H h)(e:H a=some (.dK kvs)):kvs.length<=sizeLine/\(a == sysModules)=false/\∃ vs,KV kvs vs/\h.DictOf (cT P w) a vs:=yC ok (.inl e)
theorem rH{ks:List Key}(ok:HOk P w H h)(e:H a=some (.tup (ks.map kV))):(tupleKind (cT P w)).is h ks a:=by
 obtain⟨_,its,r,o,h1,h2,n,h3⟩:=(show bH P w H h a (.tup (ks.map kV)) from ok a _ e);exact⟨o,its.toArray,n,h1,h2,h3,by simpa using n8 r⟩
theorem yz{kvs:List (List Key×V)}(ok:HOk P w H h)(e:Rd H a (.dT kvs)):kvs.length<=sizeLine/\(a == sysModules)=false /\
  ∃ xs,KT H kvs xs/\h.DictOfH (tupleKind (cT P w)) a xs:=by
 obtain⟨z,y,xs,r,o,es,ep,h1,h2,h3,h4,h5⟩:=(show bH P w H h a (.dT kvs) from xP ok e);refine⟨z,y,xs,r,o,es,ep,h1,h2,h3,h4,fun x hx=>?_,h5⟩;have all:∀{l:List (List Key×V)}{m:List (List Key×Addr×Value)},KT H l m->∀ x∈m,(tupleKind (cT P w)).is h x.1 x.2.1:=by
  intro l m q;induction q with
  |nil=>intro x hx;exact nomatch hx
  | @cons p q ps qs hq t ih =>
   intro x hx;rcases BG.mp hx with e | hx
   ·subst e;exact rH ok (by rw[← hq.1];exact hq.2.1)
   ·exact ih x hx
 exact all r x hx
theorem dt_of{kvs:List (List Key×V)}(ok:HOk P w H h)(e:H a=some (.dT kvs)):kvs.length<=sizeLine/\(a == sysModules)=false /\
  ∃ xs,KT H kvs xs/\h.DictOfH (tupleKind (cT P w)) a xs:=yz ok (.inl e)
end
noncomputable def DGet(H:Hp)(a:Addr)(y:V)(r:Option V):Prop :=
 (∃ kvs k,Rd H a (.dK kvs)/\y=kV k/\r=valV kvs k)∨∃ kvs k b,Rd H a (.dT kvs)/\y=.ref b/\H b=some (.tup (k.map kV))/\r=valV kvs k
noncomputable def DPut(H:Hp)(a:Addr)(y v:V)(H':Hp):Prop :=
 (∃ kvs k,H a=some (.dK kvs)/\y=kV k/\kvs.length<sizeLine/\H'=upd H a (.dK (putK kvs k v))) ∨
 ∃ kvs k b,H a=some (.dT kvs)/\y=.ref b/\H b=some (.tup (k.map kV))/\kvs.length<sizeLine/\H'=upd H a (.dT (putK kvs k v))
theorem DGet.k{H:Hp}{a:Addr}{kvs:List (Key×V)}{k:Key}(e:H a=some (.dK kvs)):DGet H a (kV k) (valV kvs k):=.inl ⟨kvs,k,.inl e,rfl,rfl⟩
theorem DPut.k{H:Hp}{a:Addr}{kvs:List (Key×V)}{k:Key}{v:V}(e:H a=some (.dK kvs))(hl:kvs.length<sizeLine):DPut H a (kV k) v (upd H a (.dK (putK kvs k v))):=.inl ⟨kvs,k,e,rfl,hl,rfl⟩
section
variable{X:Cx}{pins:List (Addr×Obj)}{σ:St}{H:Hp}{s:Shared}{a:Addr}{y v:V}{u r:Value}{o:Option V}{A:Around}{E:Value->Shared->Prop}
theorem Inv.big(I:Inv X pins σ H s):sysModules<s.heap.objs.size:=by
 have h:mainGlobals<s.heap.objs.size:=(I.mod.glob.keeps I.bk).lt;exact Dw (by decide) h
theorem wU{Q:Value->Shared->Prop}(hu:A.units+1<cLine)(I:Inv X pins σ H s)(g:DGet H a y (some v))(ry:RelV y u)(h:∀ w' s',Inv X pins σ H s'->RelV v w'->Q w' s') :
  wpAny (model X.prog X.w) A (getItem (.ref a) u) Q E s:=by
 rcases g with⟨kvs,k,e,ey,l⟩ | ⟨kvs,k,b,e,ey,eb,l⟩
 ·subst ey;obtain⟨z,hd,vs,rel,dd⟩:=yC I.hok e;obtain⟨w',hw,rw'⟩:=RelO.some_of (v:=v) (o:=valueAt vs k) (by rw[l];exact rel.val k)
  exact wpAny_getItem_of (yu ry) dd.mapOf hw (h w' _ (I.tok _) rw')
 ·subst ey
  cases (show u=Value.ref b from ry)
  obtain⟨z,hd,xs,rel,dd⟩:=yz I.hok e;obtain⟨w',hw,rw'⟩:=RelO.some_of (v:=v) (o:=(atKey xs k).map (·.2)) (by rw[l];exact rel.val k)
  obtain⟨p,hp,hp2⟩:=Cu.mp hw;refine wpAny_getItem_heap (tupleKind_room_in1 hu) (rH I.hok eb) dd hp ?_;rw[hp2];exact h w' _ (I.tok _) rw'
theorem Br{Q:Value->Shared->Prop}(hu:A.units+1<cLine)(I:Inv X pins σ H s)(g:DGet H a y o)(ry:RelV y u)(h:∀ s',Inv X pins σ H s'->Q (.bool (!o.isSome)) s') :
  wpAny (model X.prog X.w) A (compareOp .NotIn u (.ref a)) Q E s:=by
 rcases g with⟨kvs,k,e,ey,l⟩ | ⟨kvs,k,b,e,ey,eb,l⟩
 ·subst ey;obtain⟨z,hd,vs,rel,dd⟩:=yC I.hok e;refine wpAny_notIn_of (yu ry) hd dd.mapOf ?_;rw[← (rel.val k).isSome_eq,← l];exact h _ (I.tok _)
 ·subst ey
  cases (show u=Value.ref b from ry)
  obtain⟨z,hd,xs,rel,dd⟩:=yz I.hok e;refine wpAny_notIn_heap (tupleKind_room_in1 hu) (rH I.hok eb) hd dd ?_;have q:=(rel.val k).isSome_eq;rw[Option.isSome_map]at q;rw[← q,← l];exact h _ (I.tok _)
theorem wL{h':Heap}{t':Nat}{ob:HO}(I:Inv X pins σ H s)(mu:Mut (H a))(hs:Heap.SameBut a s.heap h')(he:∃ q,h'.get? a=some q)(new:bH X.prog X.w (upd H a ob) h' a ob) :
  Inv X pins σ (upd H a ob) { s with heap:=h',toks:=t' } :=
 I.write (x:=a) (e:=a) mu (.inl rfl) (fun b q hb z=>(hs.2 b hb).trans z) he new
theorem dk_new{P:Program}{w:World}{H':Hp}{h':Heap}{kvs:List (Key×V)}{vs:List (Key×Value)}(z:kvs.length<=sizeLine)(hd:(a == sysModules)=false)(rel:KV kvs vs)(dd:h'.DictOf (cT P w) a vs) :
  bH P w H' h' a (.dK kvs):=⟨z,hd,vs,rel,dd⟩
theorem wM{H':Hp}{Q:Unit->Shared->Prop}(hu:A.units+1<cLine)(I:Inv X pins σ H s)(g:DPut H a y v H')(ry:RelV y u)(rv:RelV v r)(h:∀ s',Inv X pins σ H' s'->Q () s') :
  wpAny (model X.prog X.w) A (setItem (.ref a) u r) Q E s:=by
 rcases g with⟨kvs,k,e,ey,l,eH⟩ | ⟨kvs,k,b,e,ey,eb,l,eH⟩
 ·subst ey eH;obtain⟨z,hd,vs,rel,dd⟩:=dk_of I.hok e;have hz:vs.length<=sizeLine:=by rw[← rel.length];exact z
  have hl:(putK kvs k v).length<=sizeLine:=by have:=fz kvs k v;omega
  refine wpAny_setItem_pairs (hsz:=hz) (yu ry) dd fun h' dd' hs=>h _ ?_;have he:∃ q,h'.get? a=some q:=let ⟨q,_,_,hq,_⟩:=dd';⟨q,hq⟩;exact wL I (by rw[e];exact True.intro) hs he (dk_new hl hd (rel.put k rv) dd')
 ·subst ey eH
  cases (show u=Value.ref b from ry)
  obtain⟨z,hd,xs,rel,dd⟩:=dt_of I.hok e;have hz:xs.length<=sizeLine:=by rw[← Paired.length rel];exact z
  have hl:(putK kvs k v).length<=sizeLine:=by have:=fz kvs k v;omega
  refine wpAny_setItem_heap (hsz:=hz) (tupleKind_room_in1 hu) (rH I.hok eb) dd fun h' dd' hs=>h _ ?_;obtain⟨q,es,ep,hq,h2,h3,h4,_,h5⟩:=dd';refine wL I (by rw[e];exact True.intro) hs ⟨q,hq⟩ ⟨hl,hd,_,(rel.put k eb rv).keeps fun c ys ec=>?_,q,es,ep,hq,h2,h3,h4,h5⟩
  rw[ar (ne_of ec e (fun z=>nomatch z))];exact ec
end
section
variable{X:Cx}{pins:List (Addr×Obj)}{σ:St}{H:Hp}{s:Shared}{a:Addr}{kvs:List (Key×V)}{k:Key}{u:Value}{A:Around}{E:Value->Shared->Prop}
end
noncomputable def NoSl(i:Expr):Prop:=∀ ov iv,subscripted i false ov iv=operate [ov,iv] (getItem ov iv)
theorem Ae{prog:Program}{w:World}{A:Around}{E:Value->Shared->Prop}{s:Shared}{env:Env}{value slice:Expr}{pos:Pos}{T id:String}{Q:Value->Shared->Prop}
  (hl:typeLookup (.type T) "__getitem__" = pure (some (.builtin id))) (hs:NoSl slice)
  (h:wpAny (model prog w) A (eval value env) (fun o s₁=>wpAny (model prog w) A (eval slice env) (fun i s₂=>s₂.TypeIs o T/\wpAny (model prog w) A (getItem o i) Q E s₂) E s₁) E s) :
  wpAny (model prog w) A (eval (.Subscript value slice pos) env) Q E s:=by
 refine Subscript_ (wpAny_mono h (fun o s₁ h₁=>wpAny_mono h₁ (fun i s₂ h₂=>?_) fun _ _ x=>x) fun _ _ x=>x);obtain⟨hT,h₂⟩:=h₂;unfold subscriptTail;refine wpAny_bind ?_;rw[getitemInPython_of_ne hT.not_modules];refine wpAny_bind (wpAny_specialOf hT hl ?_);have fin:wpAny (model prog w) A (subscripted slice false o i) (fun r s₃=>wpAny (model prog w) A (letTemporaryGo value o r >>= fun _=>pure r) Q E s₃) E s₂:=by
  rw[hs o i];exact wpAny_operating (wpAny_mono h₂ (fun r s₃ h₃=>wpAny_bind (wpAny_letTemporaryGo (wpAny_pure h₃))) fun _ _ x=>x)
 first
  |exact wpAny_pure (wpAny_bind fin)
  |exact wpAny_bind (wpAny_pure (wpAny_bind fin))
  |exact wpAny_bind fin
theorem qu{X:Cx}{pins:List (Addr×Obj)}{σ:St}{H:Hp}{s:Shared}{a:Addr}{y:V}{o:Option V}(I:Inv X pins σ H s)(g:DGet H a y o):s.TypeIs (.ref a) "dict":=by
 rcases g with⟨kvs,k,e,_,_⟩ | ⟨kvs,k,b,e,_,_,_⟩
 ·obtain⟨_,_,vs,_,dd⟩:=yC I.hok e;exact dd.typeIs
 ·obtain⟨_,_,xs,_,dd⟩:=yz I.hok e;exact dd.typeIs
noncomputable def tDGet(td ty:TE):TE:=fun σ H Q=>td σ H fun x H1=>ty σ H1 fun y H2=>∃ a v,x=.ref a/\DGet H2 a y (some v)/\Q v H2
noncomputable def Ac(ty td:TE):TE:=fun σ H Q=>ty σ H fun y H1=>td σ H1 fun x H2=>∃ a o,x=.ref a/\DGet H2 a y o/\Q (.bl (!o.isSome)) H2
noncomputable def sDPut(td ty tv:TE):TS:=fun D σ H=>tv σ H fun v H1=>td σ H1 fun x H2=>ty σ H2 fun y H3=>∃ a H4,x=.ref a/\DPut H3 a y v H4/\D.nx σ H4
section
variable{X:Cx}{o i e value:Expr}{pos pos' tpos:Pos}{td ty tv:TE}
theorem vt(hu:X.A.units+1<cLine)(ho:PE X o td)(hi:PE X i ty)(hs:NoSl i):PE X (.Subscript o i pos) (tDGet td ty):=by
 intro pins s σ H Q I h;refine Ae PySem.F.slot_dict_getitem.lookup hs (thn (ho pins s σ H _ I h) fun u s1 ⟨x,H1,I1,rx,q1⟩=>thn (hi pins s1 σ H1 _ I1 q1) fun iv s2 ⟨y,H2,I2,ry,a,v,ex,g,q2⟩=>?_);subst ex;obtain rfl:u=Value.ref a:=rx;exact⟨qu I2 g,wU hu I2 g ry fun w' s3 I3 rw'=>⟨v,H2,I3,rw',q2⟩⟩
theorem vy(hu:X.A.units+1<cLine)(hi:PE X i ty)(ho:PE X o td):PC X .NotIn i o (Ac ty td):=by
 intro pins s σ H Q I h;refine thn (hi pins s σ H _ I h) fun iv s1 ⟨y,H1,I1,ry,q1⟩=>thn (ho pins s1 σ H1 _ I1 q1) fun u s2 ⟨x,H2,I2,rx,a,ov,ex,g,q2⟩=>?_;subst ex;obtain rfl:u=Value.ref a:=rx;exact Br hu I2 g ry fun s3 I3=>⟨.bl (!ov.isSome),H2,I3,rfl,q2⟩
theorem vi(hu:X.A.units+1<cLine)(ho:PE X o td)(hi:PE X i ty)(hv:PE X value tv)(hs:swapsWith value (some (.Subscript o i pos')) pos.line X.env=pure false) :
  PS X (.Assign [.Subscript o i pos'] value pos) (sDPut td ty tv):=by
 intro pins s σ H D I h;refine wpAny_Assign_Subscript (thn (hv pins s σ H _ I h) fun r s1 ⟨v,H1,I1,rv,q1⟩=>thn (ho pins s1 σ H1 _ I1 q1) fun u s2 ⟨x,H2,I2,rx,q2⟩=>thn (hi pins s2 σ H2 _ I2 q2) fun iv s3 ⟨y,H3,I3,ry,a,H4,ex,g,q3⟩=>?_) hs;subst ex;obtain rfl:u=Value.ref a:=rx;exact wM hu I3 g ry rv fun s4 I4=>⟨σ,H4,I4,q3⟩
end
theorem yD{P:Program}{w:World}{H:Hp}(h:Heap)(hb:sysModules<h.objs.size):bH P w H (h.push { cls:=.type "dict",data:=.dict #[] }) h.objs.size (.dK []) :=
 ⟨C4 _,beq_eq_false_iff_ne.mpr (Ne.symm (CA hb)),[],.nil,Heap.DictOf.new h⟩
noncomputable def tDNewK:TE:=fun _ H Q=>∀ p,H p=none->Q (.ref p) (upd H p (.dK []))
section
variable{X:Cx}{pos:Pos}
theorem rb:PE X (.Dict [] [] pos) tDNewK:=fun pins s σ H Q I h =>
 wpAny_Dict_empty ⟨.ref s.heap.objs.size,_,I.laid (a:=s.heap.objs.size) (o:=.dK []) (t':=s.toks) (fun _ _ q=>Heap.get?_push_of_some _ q) (BI _) (yD s.heap I.big),rfl,h _ (I.hok.fresh (BI _))⟩
end
section
variable{X:Cx}{pins:List (Addr×Obj)}{σ:St}{H:Hp}{s:Shared}{a:Addr}{y d:V}{u r:Value}{o:Option V}{A:Around}{E:Value->Shared->Prop}
end
section
variable{X:Cx}{o e f:Expr}{apos cpos:Pos}{td ty tx:TE}
end
section
variable{X:Cx}{pins:List (Addr×Obj)}{σ:St}{H:Hp}{s:Shared}{a:Addr}{kvs:List (Key×V)}{A:Around}{E:Value->Shared->Prop}
end
section
variable{X:Cx}{pins:List (Addr×Obj)}{σ:St}{H:Hp}{s:Shared}{a:Addr}{y:V}{u:Value}{A:Around}{E:Value->Shared->Prop}
end
noncomputable def clOf(env:Env)(fr:List (Str×Nat)):List (Str×Addr):=fr.map fun p=>(p.1,(env.cells.lookup p.1).getD 0)
noncomputable def frOf(fr:List (Str×Nat))(σ:St):St:=fr.map fun p=>(σ[p.2]?).join
theorem gB{env:Env}:∀{fr:List (Str×Nat)}{y:Str}{c:Addr},(clOf env fr).lookup y=some c->y∈fr.map (·.1)/\c=(env.cells.lookup y).getD 0
 |[],_,_,h=>by cases h
 |p::r,y,c,h=>by
  unfold clOf at h;rw[BW,List.lookup_cons]at h
  cases e:y == p.1 with
  |true =>
   rw[e]at h;have ey:y=p.1:=eq_of_beq e
   cases h
   exact⟨by rw[ey];exact BQ,by rw[ey]⟩
  |false =>
   rw[e]at h;obtain⟨a,b⟩:=gB (env:=env) (fr:=r) h;exact⟨BO _ a,b⟩
theorem dU{env:Env}:∀{fr:List (Str×Nat)}{y:Str},y∈fr.map (·.1)->(clOf env fr).lookup y=some ((env.cells.lookup y).getD 0)
 |[],_,h=>by cases h
 |p::r,y,h=>by
  unfold clOf;rw[BW,List.lookup_cons]
  cases e:y == p.1 with
  |true =>
   have ey:y=p.1:=eq_of_beq e;rw[ey]
  |false =>
   have ny:y≠p.1:=fun z=>by rw[z]at e;simp at e
   rcases BG.mp h with z | z
   ·exact absurd z ny
   ·exact dU (env:=env) (fr:=r) z
section
variable{X:Cx}{pins:List (Addr×Obj)}{σ:St}{H:Hp}{s:Shared}{scope:Scope}{fr:List (Str×Nat)}{x:Str}
end
noncomputable def lx(te:TE)(fv:St)(J:It)(H1:Hp)(QQ:List V->Hp->Prop):Prop :=
 ∃ W:Nat->Nat->List V->Hp->Prop,(∃ m,W 0 m [] H1)/\∀ i m ys H,W i m ys H->ys.length<=sizeLine /\
  ((J.stop i H/\QQ ys H)∨(J.go i H/\∃ N:V->Hp->Prop,(∀ y H2,N y H2->∃ m',m'<m/\W (i+1) m' (ys++[y]) H2)/\∀ x H',J.yld i H x H'->te (some x::fv) H' N))
section
variable{X:Cx}{scope:Scope}{fr:List (Str×Nat)}{x:Str}{elt iter:Expr}{px pos:Pos}{te:TE}{wi:TI}
end
theorem wY{K:BD}{a:Addr}{xs:List V}{te:TE}{fv:St}{H1:Hp}{QQ:List V->Hp->Prop}(Pv:Nat->List V->Hp->Prop)(hz:xs.length<=sizeLine)(h0:Pv 0 [] H1)(hl:∀ i ys H,i<=xs.length->Pv i ys H->SqL K H a xs)
  (hs:∀ i x ys H,xs[i]?=some x->Pv i ys H->te (some x::fv) H fun y H2=>Pv (i+1) (ys++[y]) H2) (hd:∀ ys H,ys.length=xs.length->Pv xs.length ys H->QQ ys H)
  : lx te fv (Itl K a) H1 QQ:=by
 refine⟨fun i m ys H=>m=xs.length-i/\i<=xs.length/\ys.length=i/\Pv i ys H,⟨xs.length,by simp,C4 _,rfl,h0⟩,?_⟩
 rintro i m ys H ⟨rfl,hi,hy,p⟩;have q:=hl i ys H hi p;refine⟨by omega,?_⟩
 by_cases hlt:i<xs.length
 ·refine .inr ⟨⟨xs,xs[i],q,by simp[hlt]⟩,fun y H2=>Pv (i+1) (ys++[y]) H2,fun y H2 p2=>⟨xs.length-(i+1),by omega,rfl,hlt,by rw[BE,hy];rfl,p2⟩,fun x H' y=>?_⟩
  obtain⟨e,y⟩:=y;subst e;exact hs i x ys _ (y xs q) p
 ·have e:i=xs.length:=by omega
  subst e;exact .inl ⟨⟨xs,q,BI _⟩,hd ys H hy p⟩
theorem tZ{lo:Int}{n:Nat}{te:TE}{fv:St}{H1:Hp}{QQ:List V->Hp->Prop}(Pv:Nat->List V->Hp->Prop)(hz:n<=sizeLine)(h0:Pv 0 [] H1)
  (hs:∀ i ys H,i<n->Pv i ys H->te (some (.int (lo+i))::fv) H fun y H2=>Pv (i+1) (ys++[y]) H2) (hd:∀ ys H,ys.length=n->Pv n ys H->QQ ys H)
  : lx te fv (Itr lo n) H1 QQ:=by
 refine⟨fun i m ys H=>m=n-i/\i<=n/\ys.length=i/\Pv i ys H,⟨n,by simp,C4 _,rfl,h0⟩,?_⟩
 rintro i m ys H ⟨rfl,hi,hy,p⟩;refine⟨by omega,?_⟩
 by_cases hlt:i<n
 ·refine .inr ⟨hlt,fun y H2=>Pv (i+1) (ys++[y]) H2,fun y H2 p2=>⟨n-(i+1),by omega,rfl,hlt,by rw[BE,hy];rfl,p2⟩,fun x H' y=>?_⟩
  obtain⟨e,y⟩:=y;subst e y;exact hs i ys _ hlt p
 ·have e:i=n:=by omega
  subst e;exact .inl ⟨BI _,hd ys H hy p⟩
theorem oJ:bootBuiltins "int" = some (.type "int"):=by decide
theorem Bv:bootBuiltins "bool" = some (.type "bool"):=by decide
theorem kQ:bootBuiltins "list" = some (.type "list"):=by decide
theorem aN:bootBuiltins "len" = some (.builtin "len"):=by decide
theorem bq:bootBuiltins "isinstance" = some (.builtin "isinstance"):=by decide
theorem xg:bootBuiltins "sorted" = some (.builtin "sorted"):=by decide
theorem oK:bootBuiltins "enumerate" = some (.type "enumerate"):=by decide
structure Cal(P:Program)(w:World)(K:BD)(mg:Str->Option Value)(base:Heap)(k:Nat)(x:Str)(ps:List Str)(sp:Sp)(f:Addr)(fd:FuncData):Prop where
 ok:FnOk P w K mg base CX0 k f fd ps sp
 bn:d8 K fd ps []
 mg:mg x=some (.ref f)
 kp:CY K (.ref f)=true
theorem fq{X:Cx}{sts:List Stmt}{t t2:TS}(h:PSs X sts t)(i:∀ D σ H,t2 D σ H->t D σ H):PSs X sts t2:=fun pins s σ H D I q=>h pins s σ H D I (i D σ H q)
section
variable{X:Cx}
noncomputable def rIsi(K:BD):List V->Hp->VK->Prop:=fun xs H Q=>∃ x c t b u,xs = [x,c]/\TyOf K H x t/\((∃ n,c=.ty n/\u=Value.type n)∨∃ a,c=.ref a/\u=Value.ref a)/\CK K t u=some b/\Q (.bl b) H
theorem rT:gg X (.builtin "isinstance") (rIsi X.K):=by
 intro pins s σ H xs us Q I r h;obtain⟨x,c,t,b,u,rfl,ty,hu,e,q⟩:=h;obtain⟨v1,v2,rfl,r1,r2⟩:=uo r;have e2:v2=u:=by
  rcases hu with⟨n,rfl,rfl⟩ | ⟨a,rfl,rfl⟩
  ·exact r2
  ·exact r2
 subst e2;exact vZ I r1 ty e fun tk=>⟨.bl b,H,I.tok tk,rfl,q⟩
end
inductive RdD(K:BD)(H:Hp):V->PyData->Prop where
 |non:RdD K H .non .none
 |bl (b:Bool):RdD K H (.bl b) (.bool b)
 |int (i:Int):RdD K H (.int i) (.int i)
 |lst {a:Addr} {xs:List V} {ds:List PyData} (h:SqL K H a xs) (hl:xs.length=ds.length) (r:∀(i:Nat)(x:V)(d:PyData),xs[i]?=some x->ds[i]?=some d->RdD K H x d):RdD K H (.ref a) (.list ds)
 |tup {a:Addr} {xs:List V} {ds:List PyData} (h:SqT K H a xs) (hl:xs.length=ds.length) (r:∀(i:Nat)(x:V)(d:PyData),xs[i]?=some x->ds[i]?=some d->RdD K H x d):RdD K H (.ref a) (.tuple ds)
theorem gU{h:Heap}:∀{xs:List V}{us:List Value}{ds:List PyData},Vals xs us->xs.length=ds.length->(∀(i:Nat) x d,xs[i]?=some x->ds[i]?=some d->∀ u,RelV x u->∃ as,Reads h u d as)->∃ as,ReadsAll h us ds as
 |_,_,[],.nil,_,_=>⟨_,.nil⟩
 |_,_,_::_,.nil,e,_=>by cases e
 |_,_,[],.cons _ _,e,_=>by cases e
 |_,_,d::ds,.cons r rr,e,k=>by
  obtain⟨a1,q1⟩:=k 0 _ d rfl rfl _ r;obtain⟨a2,q2⟩:=gU rr (Nat.succ.inj e) fun i x d' e1 e2=>k (i+1) x d' e1 e2;exact⟨_,.cons q1 q2⟩
section
variable{X:Cx}
theorem RdD.reads{pins:List (Addr×Obj)}{σ:St}{H:Hp}{s:Shared}(I:Inv X pins σ H s){x:V}{d:PyData}(r:RdD X.K H x d):∀ u,RelV x u->∃ as,Reads s.heap u d as:=by
 induction r with
 |non=>intro u hu;cases hu;exact⟨_,.none⟩
 |bl b=>intro u hu;cases hu;exact⟨_,.bool b⟩
 |int i=>intro u hu;obtain⟨t,rfl⟩:=hu;exact⟨_,.int i t⟩
 |lst h hl r ih =>
  intro u hu
  cases hu
  obtain⟨its,rv,p,_⟩:=I.list h;obtain⟨as,q⟩:=gU (h:=s.heap) rv hl ih;obtain⟨o,n,e,c,_,d⟩:=p;exact⟨_,.list e c d (by simpa using q)⟩
 |tup h hl r ih =>
  intro u hu
  cases hu
  obtain⟨its,rv,p,_⟩:=I.tuple h;obtain⟨as,q⟩:=gU (h:=s.heap) rv hl ih;obtain⟨o,e,c,n,d⟩:=p;exact⟨_,.tuple e c d (by simpa using q)⟩
noncomputable def rSame(b:Bool)(K:BD):R2:=fun x y H Q=>∃ d,RdD K H x d/\RdD K H y d/\SeqAt.shaped d=true/\Q (.bl b) H
theorem op_neD(hu:X.A.units+64<cLine):OpR X (compareOp .NotEq) (rSame false X.K):=by
 intro pins s σ H x y v u Q I rx ry h;obtain⟨d,r1,r2,hs,q⟩:=h;obtain⟨as,q1⟩:=r1.reads I v rx;obtain⟨bs,q2⟩:=r2.reads I u ry;refine ne_dataH q1 q2 hs hs hu ?_;rw[SeqAt.eqv_refl d (SeqAt.canLay_of_shaped hs)];exact⟨.bl false,H,I,rfl,q⟩
end
section
variable{X:Cx}{tg:Expr}
end
section
variable{P:Program}{w:World}{H:Hp}{h:Heap}{a:Addr}{o:HO}
theorem bH.get(x:bH P w H h a o):∃ ob,h.get? a=some ob:=by
 cases o with
 |lst xs=>obtain⟨_,_,_,_,e⟩:=x;exact⟨_,e⟩
 |tup xs=>obtain⟨_,_,_,ob,e,_⟩:=x;exact⟨_,e⟩
 |dK kvs=>obtain⟨_,_,_,_,o,_,_,e,_⟩:=x;exact⟨_,e⟩
 |dT kvs=>obtain⟨_,_,_,_,o,_,_,e,_⟩:=x;exact⟨_,e⟩
 |set S n=>obtain⟨o,_,_,_,e,_⟩:=x;exact⟨_,e⟩
 |ins C dx fs=>obtain⟨_,_,_,e,_⟩:=x;exact⟨_,e⟩
 |own y=>exact x
 |xd fs=>obtain⟨_,⟨_,_,_,e,_⟩,_⟩:=x;exact⟨_,e⟩
 |rng lo hi=>obtain⟨_,_,_,e⟩:=x;exact⟨_,e⟩
 |frz ob u=>exact⟨_,x.1⟩
 |tbl ps=>exact⟨_,(show h.get? a=some _ from x)⟩
 |met f y=>exact⟨_,(show h.get? a=some _ from x)⟩
 |ext φ=>exact x.2.1
theorem HOk.none_of(x:HOk P w H h)(e:h.get? a=none):H a=none:=by
 cases q:H a with
 |none=>rfl
 |some u =>
  obtain⟨ob,z⟩:=(x a u q).get;rw[e]at z
  cases z
end
structure XOk(X:Cx)(pins:List (Addr×Obj))(H:Hp)(b:Addr):Prop where
 old:X.s₀.heap.get? b=none
 trk:H b=none
 nl:b≠X.env.locals
 nc:∀ x c,X.env.cells.lookup x=some c->c≠b
 np:∀ p∈X.pn++pins,p.1≠b
section
variable{X:Cx}{pins:List (Addr×Obj)}{σ:St}{H H':Hp}{s s':Shared}{b:Addr}
theorem Inv.xok(I:Inv X pins σ H s)(hx:X.ex = [])(e:s.heap.get? b=none)(n:H' b=none):XOk X pins H' b:=by
 refine⟨?_,n,fun z=>?_,fun x c q z=>?_,fun p hp z=>?_⟩
 ·cases q:X.s₀.heap.get? b with
  |none=>rfl
  |some o =>
   obtain⟨o',e'⟩:=I.base.there b o q (by rw[hx];simp)
   rw[e]at e'
   cases e'
 ·obtain⟨m,⟨o,_,_,ho,_⟩,_⟩:=I.loc;rw[z,ho]at e
  cases e
 ·obtain⟨v,o,ho,_⟩:=I.cell x c q;rw[z,e]at ho
  cases ho
 ·have:=(I.pin p hp).1
  rw[z,e]at this
  cases this
theorem Inv.xstep{h':Heap}{ch:List Addr}(I:Inv X pins σ H s)(hch:∀ b∈ch,XOk X pins H b)
  (keep:∀ b o,s.heap.get? b=some o->b∉ch->b∉frs X.stack->h'.get? b=some o)
  (slot:∀ b o,s.heap.get? b=some o->b∉ch->b∈frs X.stack->∃ sl,h'.get? b=some { o with slots:=sl }):Inv X pins σ H { s with heap:=h' }:=by
 have any:∀ b o,s.heap.get? b=some o->b∉ch->∃ sl,h'.get? b=some { o with slots:=sl }:=fun b o e hc=>by
  by_cases hb:b∈frs X.stack
  ·exact slot b o e hc hb
  ·exact⟨o.slots,keep b o e hc hb⟩
 have fsub:∀ b,b∈frs X.stack->b≠X.env.locals->b∈X.fs:=fun b hb n=>(BG.mp (I.stkSub b hb)).elim (fun z=>absurd z n) fun z=>z;have neL:∀ b o,X.s₀.heap.get? b=some o->b≠X.env.locals:=fun b o e=>CA (Cb (Heap.lt_size e) I.ok.above);have neC:∀ b o,X.s₀.heap.get? b=some o->b∉ch:=fun b o e hb=>by
  have:=(hch b hb).old;rw[e]at this
  cases this
 have cellK:∀ x c,X.env.cells.lookup x=some c->∀ v,s.heap.IsCell c v->h'.IsCell c v:=fun x c e v ⟨o,ho,hd⟩=>by
  obtain⟨sl,q⟩:=any c o ho fun z=>(hch c z).nc x c e rfl;exact⟨_,q,hd⟩
 refine⟨I.ok,I.os,I.bare,⟨fun b o e n hb hx=>?_,fun b o e n hb hx=>?_,I.base.free,fun b o e hx=>?_,I.base.tups,I.base.frzs,I.base.tbls⟩,?_,fun x c e=>?_,I.free,I.freeC,fun p hp=>?_,fun b u e=>?_,I.len⟩
 ·exact keep b o (I.base.keep b o e n hb hx) (neC b o e) fun z=>hb (fsub b z (neL b o e))
 ·obtain⟨sl,e1⟩:=I.base.slot b o e n hb hx;obtain⟨sl',e2⟩:=any b _ e1 (neC b o e);exact⟨sl',e2⟩
 ·obtain⟨o',e1⟩:=I.base.there b o e hx;obtain⟨sl,e2⟩:=any b _ e1 (neC b o e);exact⟨_,e2⟩
 ·obtain⟨m,⟨o,es,ep,ho,r⟩,hl⟩:=I.loc;obtain⟨sl,e2⟩:=any _ o ho fun z=>(hch _ z).nl rfl;refine⟨m,⟨_,es,ep,e2,r⟩,fun i x v e1 e2 e3=>?_⟩;obtain⟨u,r,l⟩:=hl i x v e1 e2 e3;refine⟨u,r,?_⟩;rcases l with l | ⟨k,c,e,z⟩
  ·exact .inl l
  ·exact .inr ⟨k,c,e,cellK x c e _ z⟩
 ·obtain⟨v,z⟩:=I.cell x c e;exact⟨v,cellK x c e v z⟩
 ·obtain⟨e,n,ne,nf,d⟩:=I.pin p hp;exact⟨keep p.1 p.2 e (fun z=>(hch p.1 z).np p hp rfl) fun z=>nf (fsub p.1 z ne),n,ne,nf,d⟩
 ·have nof:∀ c u',H c=some u'->c∉ch/\c∉frs X.stack:=fun c u' q=>⟨fun z=>(by rw[(hch c z).trk]at q;exact nomatch q),fun z=>(by rw[I.stkFree c z]at q;exact nomatch q)⟩
  refine(I.hok b u e).stay (fun c v hc q=>?_) (fun _ q=>q) fun _ _ q=>q;rcases hc with z | z
  ·rw[z]at q ⊢;exact keep b v q (nof b u e).1 (nof b u e).2
  ·exact keep c v q (nof c _ z).1 (nof c _ z).2
theorem Inv.xtrack{a:Addr}{o:HO}(I:Inv X pins σ H s)(f:XOk X pins H a)(new:bH X.prog X.w (upd H a o) s.heap a o):Inv X pins σ (upd H a o) s:=by
 have ne:∀ b u,H b=some u->b≠a:=fun b u e=>aV e f.trk;have nb:∀ b u,s.heap.get? b=some u->b≠a->H b=none->upd H a o b=none:=fun b u _ n q=>by rw[ar n];exact q
 refine⟨I.ok,I.os,I.bare,⟨I.base.keep,I.base.slot,fun b ob e n hx=>?_,I.base.there,fun b xs e=>?_,fun b ob xs e=>?_,fun b ps e=>?_⟩,I.loc,I.cell,?_,fun x c e=>?_,fun p hp=>?_,fun b u e=>?_,I.len⟩
 ·rw[ar (fun z=>by rw[z,f.old]at e;cases e)]
  exact I.base.free b ob e n hx
 ·have:=I.base.tups b xs e
  rw[ar (ne _ _ this)];exact this
 ·have:=I.base.frzs b ob xs e
  rw[ar (ne _ _ this)];exact this
 ·obtain⟨m,q⟩:=I.base.tbls b ps e;exact⟨m,by rw[ar (ne _ _ q)];exact q⟩
 ·rw[ar (Ne.symm f.nl)];exact I.free
 ·rw[ar (f.nc x c e)];exact I.freeC x c e
 ·obtain⟨e,n,r⟩:=I.pin p hp;exact⟨e,by rw[ar (f.np p hp)];exact n,r⟩
 ·by_cases hb:b=a
  ·rw[hb,ae]at e
   cases e
   rw[hb];exact new
  ·rw[ar hb]at e;exact(I.hok b u e).stay (fun c v _ q=>q) (fun c q=>by rw[ar (ne c _ q)];exact q) fun c xs q=>by rw[ar (ne c _ q)];exact q
end
noncomputable def Trc(h:Heap)(x:Addr)(C:Value)(T:Addr):Prop :=
 ∃ oe vs a0 oT ts,h.get? x=some oe/\oe.cls=C/\vs[0]?=some a0/\oe.data=.fields vs/\vs[1]?=some (.ref T)/\T≠x/\h.get? T=some oT/\oT.data=.fields ts/\ts[3]?=some .none
noncomputable def Xnw(h:Heap)(x:Addr)(C:Value):Prop:=∃ oe vs a0,h.get? x=some oe/\oe.cls=C/\oe.data=.fields vs/\vs[0]?=some a0/\vs[1]?=some .none
noncomputable def XA(X:Cx)(pins:List (Addr×Obj))(H:Hp)(s:Shared)(x:Addr)(C:Value):Prop:=XOk X pins H x/\(Xnw s.heap x C∨∃ T,XOk X pins H T/\Trc s.heap x C T)
section
variable{X:Cx}{pins:List (Addr×Obj)}{σ:St}{H:Hp}{s:Shared}{x:Addr}{C:Value}{E:Value->Shared->Prop}
noncomputable abbrev hidX(X:Cx)(h:Heap)(ch:List Addr):Heap:=PySem.W.hideAll h (ch++frs X.stack)
theorem Inv.hidF(I:Inv X pins σ H s)(ch:List Addr):s.heap.FunFrames (hidX X s.heap ch) X.stack :=
 PySem.W.funFrames_hide I.stack fun env he a hf=>B0 _ (Fx.mpr ⟨env,he,hf⟩)
theorem oa(ch:List Addr)(h:Heap):(hidX X h ch).StaysIn h:=fun _ _ e=>PySem.W.of_hideAll _ e
theorem dH{ch:List Addr}{h:Heap}{b:Addr}(hb:b∈ch):(hidX X h ch).get? b=none:=PySem.W.hideAll_none _ (CD _ hb)
theorem Inv.left{h':Heap}{ch:List Addr}{a0:Value}(I:Inv X pins σ H s)(hx:X.ex = [])(hch:∀ b∈ch,XOk X pins H b)(k:(hidX X s.heap ch).StaysIn h')(t:h'.TracedW (hidX X s.heap ch) x C a0)(u:s.heap.UpToSlots h') :
  Inv X pins σ H { s with heap:=h' }/\∃ T,XOk X pins H T/\Trc h' x C T:=by
 have fr:∀ b o,s.heap.get? b=some o->b∈frs X.stack->∃ sl,h'.get? b=some { o with slots:=sl }:=fun b o e hb=>by
  obtain⟨_,o',ho,hd⟩:=I.stack.mem hb;rw[e]at ho
  cases ho
  exact u b o e hd
 refine⟨I.xstep hch (fun b o e n1 n2=>k b o (Ey _ e fun z=>(BN.mp z).elim n1 n2)) fun b o e _ hb=>fr b o e hb,?_⟩;obtain⟨oe,vs,T,oT,ts,he,⟨hcls,h0⟩,hd,h1,hnT,hTe,hT,hdT,h3⟩:=t;refine⟨T,?_,oe,vs,a0,oT,ts,he,hcls,h0,hd,h1,hTe,hT,hdT,h3⟩
 cases q:s.heap.get? T with
 |none=>exact I.xok hx q (I.hok.none_of q)
 |some o =>
  by_cases z:T∈ch
  ·exact hch T z
  ·by_cases z2:T∈frs X.stack
   ·obtain⟨_,o',ho,hd'⟩:=I.stack.mem z2;obtain⟨sl,e⟩:=fr T o q z2;rw[hT]at e
    cases e
    rw[q]at ho
    cases ho
    exact absurd hdT (hd' ts)
   ·have:=Ey (ch++frs X.stack) q fun z3=>(BN.mp z3).elim z z2
    rw[hnT]at this
    cases this
theorem Inv.leave{Q:Unit->Shared->Prop}(I:Inv X pins σ H s)(hx:X.ex = [])(hst:X.stack=X.env::X.outer)(hfr:X.env.frame=some X.env.locals)(xa:XA X pins H s x C)
  (h:∀ h' T,Inv X pins σ H { s with heap:=h' }->XOk X pins H x->XOk X pins H T->Trc h' x C T->Q () { s with heap:=h' }):wpAny (model X.prog X.w) X.A (leaving X.env (.ref x)) Q E s:=by
 obtain⟨x1,x2⟩:=xa;have frm:X.A.frames=some (X.env::X.outer):=by rw[← hst];exact I.ok.frames
 rcases x2 with⟨oe,vs,a0,he,hc,hd,h0,h1⟩ | ⟨T,xT,oe,vs,a0,oT,ts,he,hc,h0,hd,h1,hTe,hT,hdT,h3⟩
 ·have hch:∀ b∈[x],XOk X pins H b:=fun b hb=>by
   have e:b=x:=by simpa using hb
   rw[e];exact x1
  refine wpAny_leaving_firstW (base:=hidX X s.heap [x]) frm (hst▸I.hidF [x]) hfr he (oa _ _) (dH (by simp)) hd h1 h0 fun h' L=>?_
  obtain⟨k1,_,k3,k4⟩:=L;obtain⟨I',T,xT,tr⟩:=I.left hx hch k1 k3 k4;rw[hc]at tr;exact h h' T I' x1 xT tr
 ·have hch:∀ b∈[x,T],XOk X pins H b:=fun b hb=>by
   rcases BG.mp hb with e | hb
   ·rw[e];exact x1
   ·have e:b=T:=by simpa using hb
    rw[e];exact xT
  refine wpAny_leaving_nextW (base:=hidX X s.heap [x,T]) frm (hst▸I.hidF [x,T]) hfr ⟨oe,vs,T,oT,ts,he,⟨hc,h0⟩,hd,h1,dH (by simp),hTe,hT,hdT,h3⟩ (oa _ _) (dH (by simp)) fun h' L=>?_
  obtain⟨k1,_,k3,k4⟩:=L;obtain⟨I',T',xT',tr⟩:=I.left hx hch k1 k3 k4;exact h h' T' I' x1 xT' tr
end
section
variable{X:Cx}{k:Nat}{f C:Addr}{fd:FuncData}{ps:List Str}{sp:Sp}{dvs:List V}{ds:List Value}{W:WK}{x m:Str}{p pos apos:Pos}{e o:Expr}{es:List Expr}{ta:TE}{t:TA}
end
abbrev veM:List Value:=[.type "ValueError",.type "Exception",.type "BaseException",.type "object"]
abbrev ExC(K:BD)(C:Addr):Prop:=ED K C veM "ValueError.__new__" = true
theorem wD{K:BD}{C:Addr}{h:Heap}(e:ExC K C)(X:K.In h):∃ bm N nm qn bs hdct sn sub ab col dd k0 k1 k2 k3 k5 mN,h.get? C=some (excClassObj nm qn C N bs bm hdct sn sub ab col dd k0 k1 k2 k3 k5 "ValueError.__new__")/\h.Ns N mN/\mN "__init__" = none/\OwnTail h veM bm/\∀ B b,Dc K C B=some b->(Value.ref C::bm).contains B=b:=by
 have z:=e;unfold ExC ED at z;split at z
 ·rename_i ddx cdx slx hobj;split at z
  ·rename_i Cx bmx y0 y1 y2 y3 nx y5 hmro hslots;have zz:=z;simp only[CZ,beq_iff_eq,DU]at zz;obtain⟨⟨⟨⟨⟨eC,eN⟩,edel⟩,etail⟩,ens⟩,einit⟩:=zz;subst eC;subst eN;obtain⟨l⟩:=slx;have hl:l = [y0,y1,y2,y3,some (.builtin "ValueError.__new__"),y5]:=hslots;subst hl;obtain⟨nm,bs,mro,ns,qn,hd,sn,sub,ab,col,del⟩:=cdx;have hmro':mro=.ref Cx::bmx:=hmro;have hdel':del=false:=edel;subst hmro' hdel';refine⟨bmx,ns,nm,qn,bs,hd,sn,sub,ab,col,ddx,y0,y1,y2,y3,y5,_,X _ _ hobj,.of_isNs (PySem.W.isNs_of_in X ens),PySem.W.nsMap_none_of_in X ens einit,PySem.W.tail_of_in X etail,fun B b hB=>?_⟩;unfold Dc Gb at hB;rw[hobj]at hB;simpa using hB
  ·cases z
 ·cases z
section
variable{X:Cx}{pins:List (Addr×Obj)}{σ:St}{H:Hp}{s:Shared}{x:Addr}{C:Value}
noncomputable def Cx.marked(X:Cx)(v:Value):Cx:={ X with A:=X.A.mark (some v),calm:=false,xe:=fun _ _=>False }
theorem Inv.marked(I:Inv X pins σ H s)(v:Value):Inv (X.marked v) pins σ H s :=
 ⟨⟨I.ok.mod,I.ok.kind,I.ok.glob,I.ok.blt,I.ok.above,I.ok.inj,I.ok.has,I.ok.cab,fun z=>(by cases z),I.ok.frames,I.ok.stk,I.ok.exf,I.ok.bs,I.ok.bsz,I.ok.noex,I.ok.exfs,I.ok.funs,I.ok.frf⟩,I.os,I.bare,I.base,I.loc,I.cell,I.free,I.freeC,I.pin,I.hok,I.len⟩
theorem Inv.unmarked{hd:X.calm=true->X.A.handled=none}{fr:X.A.frames=some X.stack}{v:Value}(I:Inv (X.marked v) pins σ H s):Inv X pins σ H s :=
 ⟨⟨I.ok.mod,I.ok.kind,I.ok.glob,I.ok.blt,I.ok.above,I.ok.inj,I.ok.has,I.ok.cab,hd,fr,I.ok.stk,I.ok.exf,I.ok.bs,I.ok.bsz,I.ok.noex,I.ok.exfs,I.ok.funs,I.ok.frf⟩,I.os,I.bare,I.base,I.loc,I.cell,I.free,I.freeC,I.pin,I.hok,I.len⟩
theorem Inv.gone{i:Nat}{n:Str}{h':Heap}{tk:Nat}{m:Str->Option Value}{v:Option Value}(I:Inv X pins σ H s)(hN:X.N.Nodup)(hi:X.N[i]?=some n)(hm:s.heap.Ns X.env.locals m/\∀ (i:Nat) (x:Str) (v:V),X.N[i]?=some x->σ[i]?=some (some v)->Vis X.env.scope x->∃ u,RelV v u/\Look X.env s.heap m x u)
  (hn:h'.Ns X.env.locals (fun y=>if y=n then v else m y)) (hs:Heap.SameBut X.env.locals s.heap h'):Inv X pins (σ.set i none) H { s with heap:=h',toks:=tk }:=by
 have lo:∀ b o,X.s₀.heap.get? b=some o->b≠X.env.locals:=fun b o e=>CA (Cb (Heap.lt_size e) I.ok.above);obtain⟨oL,_,_,hoL,_⟩:=id hm.1;refine⟨I.ok,I.os,I.bare,⟨fun b o e n1 hb hx=>(hs.2 b (lo b o e)).trans (I.base.keep b o e n1 hb hx),fun b o e n1 hb hx=>?_,I.base.free,fun b o e hx=>?_,I.base.tups,I.base.frzs,I.base.tbls⟩,⟨_,hn,fun j y w' e1 e2 e3=>?_⟩,fun y c e=>?_,I.free,I.freeC,fun p hp=>?_,fun b u e=>?_,by simpa using I.len⟩
 ·obtain⟨sl,q⟩:=I.base.slot b o e n1 hb hx;exact⟨sl,(hs.2 b (lo b o e)).trans q⟩
 ·obtain⟨o',q⟩:=I.base.there b o e hx;exact⟨o',(hs.2 b (lo b o e)).trans q⟩
 ·by_cases hj:j=i
  ·subst hj;rw[CJ]at e2;split at e2
   ·split at e2<;>cases e2
   ·rename_i z;exact absurd rfl z
  ·rw[C2 (Ne.symm hj)]at e2;obtain⟨u',r',l'⟩:=hm.2 j y w' e1 e2 e3;refine⟨u',r',?_⟩;rcases l' with⟨kk,e⟩ | ⟨kk,c,e,z⟩
   ·refine .inl ⟨kk,?_⟩;have ny:y≠n:=fun q=>hj (mv hN e1 (q▸hi));show(if y=n then v else m y)=some u';rw[if_neg ny];exact e
   ·exact .inr ⟨kk,c,e,z.sameBut hs (I.cne y c e)⟩
 ·obtain⟨w2,z⟩:=I.cell y c e;exact⟨w2,z.sameBut hs (I.cne y c e)⟩
 ·obtain⟨e,n1,ne,nf,d⟩:=I.pin p hp;exact⟨(hs.2 p.1 ne).trans e,n1,ne,nf,d⟩
 ·refine(I.hok b u e).stay (fun c v2 hc q=>(hs.2 c fun z=>?_).trans q) (fun _ q=>q) fun _ _ q=>q;have fr:=I.free;rcases hc with y | y
  ·rw[← y,z,fr]at e;cases e
  ·rw[z,fr]at y;cases y
end
section
variable{M:Model}{A:Around}{E:Value->Shared->Prop}{h:Heap}{g:Array GenState}{d:Drawn}{t:Nat}{os:OsState}
end
noncomputable def Cx.tried(X:Cx)(pins:List (Addr×Obj))(E:Value->Shared->Prop):Cx:={ X with pn:=X.pn++pins,xe:=E }
section
variable{X:Cx}{pins pins':List (Addr×Obj)}{σ:St}{H:Hp}{s:Shared}{E:Value->Shared->Prop}{b:Addr}
theorem Inv.tried(I:Inv X pins σ H s):Inv (X.tried pins E) [] σ H s :=
 ⟨⟨I.ok.mod,I.ok.kind,I.ok.glob,I.ok.blt,I.ok.above,I.ok.inj,I.ok.has,I.ok.cab,I.ok.hd,I.ok.frames,I.ok.stk,I.ok.exf,I.ok.bs,I.ok.bsz,I.ok.noex,I.ok.exfs,I.ok.funs,I.ok.frf⟩,I.os,I.bare,I.base,I.loc,I.cell,I.free,I.freeC,fun p hp=>I.pin p (by rw[Dl]at hp;exact hp),I.hok,I.len⟩
theorem Inv.untried(I:Inv (X.tried pins E) pins' σ H s):Inv X pins σ H s :=
 ⟨⟨I.ok.mod,I.ok.kind,I.ok.glob,I.ok.blt,I.ok.above,I.ok.inj,I.ok.has,I.ok.cab,I.ok.hd,I.ok.frames,I.ok.stk,I.ok.exf,I.ok.bs,I.ok.bsz,I.ok.noex,I.ok.exfs,I.ok.funs,I.ok.frf⟩,I.os,I.bare,I.base,I.loc,I.cell,I.free,I.freeC,fun p hp=>I.pin p (CD _ hp),I.hok,I.len⟩
theorem XOk.untried(x:XOk (X.tried pins E) pins' H b):XOk X pins H b:=⟨x.old,x.trk,x.nl,x.nc,fun p hp=>x.np p (CD _ hp)⟩
theorem SP.untried{D:Ends}{f:Flow}(h:SP (X.tried pins E) [] D f s):SP X pins D f s:=by
 cases f with
 |next=>obtain⟨σ',H',I,q⟩:=h;exact⟨σ',H',I.untried,q⟩
 |brk=>obtain⟨σ',H',I,q⟩:=h;exact⟨σ',H',I.untried,q⟩
 |cont=>obtain⟨σ',H',I,q⟩:=h;exact⟨σ',H',I.untried,q⟩
 |ret u=>obtain⟨v,σ',H',I,r,q⟩:=h;exact⟨v,σ',H',I.untried,r,q⟩
end
section
variable{X:Cx}{k:Nat}{f:Addr}{fd:FuncData}{ps:List Str}{sp:Sp}{dvs:List V}{ds:List Value}{W:WK}{x:Str}{p pos:Pos}{e:Expr}{es:List Expr}{t:TA}
end
theorem Inv.turnedL{X:Cx}{pins:List (Addr×Obj)}{σ:St}{H:Hp}{s:Shared}{h':Heap}{t':Nat}{fp:List Addr}(I:Inv X pins σ H s)(k:∀ b o,b∉fp->s.heap.get? b=some o->h'.get? b=some o)(hf:∀ b∈fp,FpOk X pins H b):Inv X pins σ H { s with heap:=h',toks:=t' }:=by
 have nit:∀ b u,H b=some u->b∉fp:=fun b u e z=>by rw[(hf b z).1]at e;cases e
 refine I.step (g':=s.gens) (d':=s.drawn) (ch:=fp) (fun b hb=>?_) (fun b o _ _ hc e _=>k b o hc e) (fun b o _ _ hc e _=>⟨o.slots,k b o hc e⟩) (fun _ _ _ _ n=>n)
  (fun b o hc e=>⟨o,k b o hc e⟩) (fun _ _ e=>e) (fun _ _ _ e=>e) (fun b ps e=>⟨#[],by rw[e];simp⟩) (fun m hm=>?_) (fun b u e=>?_) I.bare
 ·obtain⟨f0,f1,f2,f3,f4,f5⟩:=hf b hb;exact⟨f3,f1,f4,f5⟩
 ·obtain⟨o,es,ep,ho,r⟩:=hm;exact⟨o,es,ep,k _ o (fun z=>(hf _ z).2.1 rfl) ho,r⟩
 ·refine(I.hok b u e).stay (fun c v hc q=>k c v ?_ q) (fun _ q=>q) fun _ _ q=>q;rcases hc with z | z
  ·rw[z];exact nit b u e
  ·exact nit c _ z
noncomputable def Ite(K:BD)(a:Addr):It :=
 ⟨fun i H=>∃ xs x,SqL K H a xs/\xs[i]?=some x,fun i H v H'=>∃ T x,H T=none/\v=.ref T/\H'=upd H T (.tup [.int (i:Int),x])/\∀ xs,SqL K H a xs->xs[i]?=some x,fun i H=>∃ xs,SqL K H a xs/\xs.length<=i⟩
theorem uv{P:Program}{w:World}{K:BD}{es:List Expr}{k:Nat}{pos:Pos}(a e it:Addr)(hei:e≠it):Turn P w K (.Tuple es k pos) (Ite K a) [e,it] e (fun i h=>(∃ old,IsEnum h e it ((i:Nat):Int) old)/\h.IsListIter it a i) where
 mem:=by simp
 obj:=fun i h st b hb=>by
  obtain⟨⟨old,he⟩,o,e2,c,d⟩:=st;rcases BG.mp hb with rfl | hb
  ·exact⟨_,he,fun v z=>by
    have z':Data.fields _=Data.cell v:=z
    cases z'⟩
  ·have e3:b=it:=by simpa using hb
   subst e3;exact⟨o,e2,fun v z=>by rw[d]at z;cases z⟩
 keep:=fun i h h' st kk=>by
  obtain⟨⟨old,he⟩,hit⟩:=st;exact⟨⟨old,kk e (by simp) _ he⟩,hit.at fun o q=>kk it (by simp) o q⟩
 item:=by
  intro X hP hw hK hc i pins s σ H E I hf st hg;subst hP hw hK;obtain⟨xs,x,hq,hx⟩:=hg;obtain⟨its,rv,p,hz⟩:=I.list hq;obtain⟨u,hu,ru⟩:=rv.get hx;obtain⟨⟨old,he⟩,hit⟩:=st;refine wpAny_pyNext_enum_item he hit p.isList (x:=u) (by simpa using hu) hei fun h' ho hit' hT hsz hk=>?_
  refine⟨_,rfl,?_⟩;refine wpAny_letOwnedTupleGo_enum ho fun h2 he2 hs2=>?_;have hs2':Heap.SameBut e h' h2:=hs2;have hel:e<s.heap.objs.size:=Heap.lt_size he;have hil:it<s.heap.objs.size:=by obtain⟨_,q,_⟩:=hit;exact Heap.lt_size q
  have hfr:H s.heap.objs.size=none:=I.hok.fresh (BI _);have I0:Inv X pins σ (upd H s.heap.objs.size (.tup [.int (i:Int),x])) { s with heap:=s.heap.push { cls:=.type "tuple",data:=.seq #[.int (i:Int) s.toks,u] },toks:=s.toks+1 } :=
   I.laid (t':=s.toks+1) (fun b u e=>Heap.get?_push_of_some _ e) (BI _) ⟨by show 2<=sizeLine;decide,[.int (i:Int) s.toks,u],.cons ⟨_,rfl⟩ (.cons ru .nil),⟨_,Heap.get?_push_size _ rfl,rfl,_,rfl⟩⟩
  have hfb:∀ b∈[e,it],b<s.heap.objs.size:=fun b hb=>by
   rcases BG.mp hb with rfl | hb
   ·exact hel
   ·have e3:b=it:=by simpa using hb
    rw[e3];exact hil
  have hn:∀ b∈[e,it],upd H s.heap.objs.size (.tup [.int (i:Int),x]) b=none:=fun b hb=>by
   rw[ar (CA (hfb b hb))];exact(hf b hb).1
  have I2:Inv X pins σ (upd H s.heap.objs.size (.tup [.int (i:Int),x])) { s with heap:=h2,toks:=s.toks+1 }:=Inv.turnedL (s:={ s with heap:=s.heap.push { cls:=.type "tuple",data:=.seq #[.int (i:Int) s.toks,u] },toks:=s.toks+1 }) (h':=h2) I0 (t':=s.toks+1) (fp:=[e,it]) (fun b o hb q=>by
   have nb:b≠e:=fun z=>hb (by simp[z])
   have nb2:b≠it:=fun z=>hb (by simp[z])
   refine(hs2'.2 b nb).trans ?_;rcases Heap.get?_push_cases q with⟨z1,z2⟩ | q
   ·rw[z1,z2];exact hT
   ·exact hk b o nb nb2 q) fun b hb=>⟨hn b hb,(hf b hb).2⟩
  refine⟨.ref s.heap.objs.size,_,I2,rfl,⟨s.heap.objs.size,x,hfr,rfl,rfl,fun ys hy=>by rw[I.list_inj hy hq];exact hx⟩,?_,hn⟩
  refine⟨⟨u,?_⟩,hit'.at fun o q=>(hs2'.2 it (Ne.symm hei)).trans q⟩;have e4:(((i+1:Nat):Nat):Int)=(i:Int)+1:=by omega
  rw[e4];exact he2
 done:=by
  intro X hP hw hK hc i pins s σ H E I hf st hg;subst hP hw hK;obtain⟨xs,hq,hx⟩:=hg;obtain⟨its,rv,p,hz⟩:=I.list hq;obtain⟨⟨old,he⟩,hit⟩:=st;have hl:=rv.length;obtain⟨f0,f1,f2,f3,f4,f5⟩:=hf it (by simp)
  exact wpAny_pyNext_enum_end (I.ok.hd hc) he hit p.isList (by simp;omega) fun h' eb=>⟨rfl,I.turned (t':=s.toks) (fun b o hb e=>eb b o hb e) f0 f1 f3 f4 f5⟩
 self:=fun _ _ _ _ _ st h=>by
  obtain⟨⟨old,he⟩,_⟩:=st;exact wpAny_pyIter_enum he h
section
variable{X:Cx}
noncomputable def iEnum(K:BD)(ta:TA):TI:=fun σ H R=>ta σ H fun vs H1=>∃ a,vs = [.ref a]/\(∃ xs,SqL K H1 a xs)/\R (Ite K a) H1
theorem vn{l:Expr}{ta:TA}{es:List Expr}{k:Nat}{tp p pos:Pos} (hg:Gl X "enumerate") (hm:X.mg "enumerate" = none) (ha:PA X [l] ta) (hs:starEach [l] X.env = [(false,eval l X.env)]:=by rfl) :
  PI X (.Tuple es k tp) (.Call (.Name "enumerate" p) [l] [] pos) (iEnum X.K ta):=by
 intro pins s σ H R I h;refine Call_ (nY I hg hm oK (PyProof.Rows.callWith_type1 (thn (ha pos pins s σ H _ I h) fun us s1 ⟨vs,H1,I1,r1,q1⟩=>?_) hs rfl));obtain⟨a,e,⟨xs,hq⟩,q⟩:=q1;subst e;obtain⟨u,rfl,ru⟩:=kZ r1
 cases ru
 obtain⟨its,rv,p,hz⟩:=I1.list hq;refine call_enumerate_list p.isList fun h' he hit hsz hk=>?_;refine wpAny_pyIter_enum he ?_;refine⟨s1.heap.objs.size+1,[s1.heap.objs.size+1,s1.heap.objs.size],_,_,H1,rfl,I1.kept (t':=s1.toks) hk,uv a _ _ (Nat.succ_ne_self _),⟨⟨_,he⟩,hit⟩,fun b hb=>?_,q⟩;have hb':s1.heap.objs.size<=b:=by
  rcases BG.mp hb with rfl | hb
  ·exact Ez _
  ·have e3:b=s1.heap.objs.size:=by simpa using hb
   rw[e3];exact BI _
 exact I1.fpOk hb' (I1.hok.fresh hb')
end
theorem rK{K:BD}{a:Addr}{xs:List V}{g:TG}{tb:TS}{D:Ends}{σ:St}{H:Hp}(Pv:Nat->St->Hp->Prop)(h0:Pv 0 σ H)(hl:∀ i σ H,i<=xs.length->Pv i σ H->SqL K H a xs)
  (hs:∀ i x σ H T,xs[i]?=some x->Pv i σ H->H T=none->g (.ref T) σ (upd H T (.tup [.int (i:Int),x])) fun σ2 H2=>tb { D with nx:=Pv (i+1),ct:=Pv (i+1),bk:=D.nx } σ2 H2) (hd:∀ σ H,Pv xs.length σ H->D.nx σ H) :
  ∃ W:Nat->Nat->St->Hp->Prop,(∃ m,W 0 m σ H)/\∀ i m σ H,W i m σ H ->
   ((Ite K a).stop i H/\D.nx σ H)∨((Ite K a).go i H/\∃ N:St->Hp->Prop,(∀ σ' H',N σ' H'->∃ m',m'<m/\W (i+1) m' σ' H')/\∀ x H',(Ite K a).yld i H x H'->g x σ H' fun σ2 H2=>tb { D with nx:=N,ct:=N,bk:=D.nx } σ2 H2):=by
 refine⟨fun i m σ H=>m=xs.length-i/\i<=xs.length/\Pv i σ H,⟨xs.length,by simp,C4 _,h0⟩,?_⟩
 rintro i m σ H ⟨rfl,hi,p⟩;have q:=hl i σ H hi p;by_cases hlt:i<xs.length
 ·refine .inr ⟨⟨xs,xs[i],q,by simp[hlt]⟩,Pv (i+1),fun σ' H' p'=>⟨xs.length-(i+1),by omega,rfl,hlt,p'⟩,fun v H' y=>?_⟩
  obtain⟨T,x,hT,rfl,rfl,y⟩:=y;exact hs i x σ _ T (y xs q) p hT
 ·have e:i=xs.length:=by omega
  subst e;exact .inl ⟨⟨xs,q,BI _⟩,hd σ H p⟩
section
variable{X:Cx}
end
theorem cq{n j:Nat}(h:j<n):ixN n (j:Int)=some j:=by
 unfold ixN;rw[if_pos (by omega),if_pos (by omega)]
 rfl
theorem gc:∀{ds:List PyData},(∀ d∈ds,d.canLay0=true)->PyData.canLayAll0 ds=true
 |[],_=>by simp[PyData.canLayAll0]
 |d::ds,h=>by
  rw[PyData.canLayAll0,h d (by simp),gc fun x hx=>h x (by simp[hx])]
  rfl
theorem h9{n:Nat}:∀{ds:List PyData},(∀ d∈ds,d.depth<=n)->PyData.depthAll ds<=n
 |[],_=>by simp[PyData.depthAll]
 |d::ds,h=>by
  have h1:=h d (by simp)
  have h2:=h9 (ds:=ds) fun x hx=>h x (BO _ hx);rw[PyData.depthAll];omega
theorem jX{ds:List PyData}(h:∀ d∈ds,d.canLay0=true/\d.depth<=10):SeqAt.shaped (.list ds)=true:=by
 have h1:=gc fun d hd=>(h d hd).1;have h2:=h9 fun d hd=>(h d hd).2;have h3:PyData.depth (.list ds)<=64:=by simp only[PyData.depth];omega
 show(PyData.canLay0 (.list ds)&&decide (PyData.depth (.list ds)<=64))=true;rw[CZ];exact⟨by simp only[PyData.canLay0];exact h1,decide_eq_true h3⟩
noncomputable def cxG(X:Cx)(scope:Scope)(fr:List (Str×Nat))(xs:List Str)(C:Addr)(ex:List Addr)(s:Shared)(H:Hp):Cx where
 prog:=X.prog
 w:=X.w
 K:=X.K
 mg:=X.mg
 base:=X.base
 A:=X.A
 N:=xs++fr.map (·.1)
 s₀:=s
 H₀:=H
 env:=compEnvC scope (clOf X.env fr) C X.env
 outer:=X.stack
 stack:=X.stack
 ex:=ex
 fn:=fun _=>false
 calm:=X.calm
 pn:=[]
 xe:=fun _ _=>False
structure dA(X:Cx)(scope:Scope)(fr:List (Str×Nat))(xs:List Str):Prop where
 clos:closureFor scope X.env=pure (clOf X.env fr)
 cell:∀ y∈scope.names,y.2≠.cell
 kind:scope.kind=.function
 names:∀ y∈scope.names,y.2=.local->scope.names.lookup y.1=some .local
 slot:∀ p∈fr,X.N[p.2]?=some p.1/\X.env.kindOf p.1=some .cell
 has:∀ y∈(relabel scope X.env).names,(y.2=.cell∨y.2=.free)->y.1∈fr.map (·.1)
 frk:∀ p∈fr,(relabel scope X.env).names.lookup p.1=some .cell
theorem dA.of{X:Cx}{scope:Scope}{fr:List (Str×Nat)}{xs:List Str}(clos:closureFor scope X.env=pure (clOf X.env fr))(cell:∀ y∈scope.names,y.2≠.cell)(kind:scope.kind=.function)(names:∀ y∈scope.names,y.2=.local->scope.names.lookup y.1=some .local)
  (slot:∀ p∈fr,X.N[p.2]?=some p.1/\X.env.kindOf p.1=some .cell) (nf:∀ z∈scope.names,z.2=.free->z.1∈fr.map (·.1)) (frk:∀ p∈fr,(relabel scope X.env).names.lookup p.1=some .cell):dA X scope fr xs where
 clos:=clos
 cell:=cell
 kind:=kind
 names:=names
 slot:=slot
 has:=fun z hz hk=>by
  obtain⟨⟨n,k⟩,hm,e⟩:=B9.mp (show z∈scope.names.map _ from hz);have h2:=cell _ hm;dsimp only at e h2;have hn:z.1=n:=by rw[← e];split<;>rfl
  have hf:k=.free:=by
   by_cases q:k=.free
   ·exact q
   ·have hb:(k == NameKind.free)=false:=by simpa using q
    rw[hb]at e;simp only[Bool.false_and,DC,if_false]at e;subst e;exact(hk.elim h2 q).elim
  have:=nf _ hm hf;rw[hn];exact this
 frk:=frk
noncomputable abbrev nons(xs:List Str):St:=Dz xs.length none
section
variable{X:Cx}{pins:List (Addr×Obj)}{σ:St}{H:Hp}{s:Shared}{scope:Scope}{fr:List (Str×Nat)}{xs:List Str}
theorem dA.cells(O:dA X scope fr xs)(I:Inv X pins σ H s){y:Str}{c:Addr}(h:(clOf X.env fr).lookup y=some c):X.env.cells.lookup y=some c:=by
 obtain⟨hm,e⟩:=gB h;obtain⟨p,hp,ep⟩:=B9.mp hm;have k:=(O.slot p hp).2;rw[ep]at k;obtain⟨c',e'⟩:=I.ok.has y (.inl k);rw[e']at e;rw[e',e];rfl
theorem wb{fp:List Addr}(O:dA X scope fr xs)(I:Inv X pins σ H s)(hf:∀ b∈fp,FpOk X pins H b)(hfs:∀ b∈fp,b<s.heap.objs.size){g h':Heap}{tk:Nat}(hg:g=s.heap.push (LCg.lst []))
  (hk:∀ b o,g.get? b=some o->h'.get? b=some o) (hC:h'.Ns g.objs.size fun _=>none) :
  Inv (cxG X scope fr xs g.objs.size (s.heap.objs.size::fp) { s with heap:=g } H) (X.pn++pins++[(s.heap.objs.size,LCg.lst [])]) (nons xs++frOf fr σ) H { s with heap:=h',toks:=tk }:=by
 have hsz:g.objs.size=s.heap.objs.size+1:=by rw[hg,Heap.size_push]
 have kp:∀ b o,s.heap.get? b=some o->g.get? b=some o:=fun b o e=>by rw[hg];exact Heap.get?_push_of_some _ e
 have hk0:∀ b o,s.heap.get? b=some o->h'.get? b=some o:=fun b o e=>hk b o (kp b o e);have hDo:h'.get? s.heap.objs.size=some (LCg.lst []):=hk _ _ (by rw[hg];exact Heap.get?_push_size _ rfl)
 have neC:∀ b,b<s.heap.objs.size->b≠g.objs.size:=fun b e=>by rw[hsz];exact CA (FC e)
 have hDC:s.heap.objs.size≠g.objs.size:=by rw[hsz];exact CA (Ex _)
 have hfr:H g.objs.size=none:=I.hok.fresh (by rw[hsz];exact Ez _)
 have hfD:H s.heap.objs.size=none:=I.hok.fresh (BI _);have cne:∀ y c,X.env.cells.lookup y=some c->c<s.heap.objs.size:=fun y c e=>by
  obtain⟨v,q⟩:=I.cell y c e;exact q.lt
 have nst:∀ b,b≠X.env.locals->b∉X.fs->b∉frs X.stack:=fun b h1 h2 z=>(BG.mp (I.stkSub b z)).elim h1 h2;have nstD:s.heap.objs.size∉frs X.stack:=nst _ (Fh I.lt) (I.nofs (BI _));refine⟨⟨I.ok.mod,O.kind,I.ok.glob,I.ok.blt,BI _,?_,?_,fun _ _ z _=>(by cases z),I.ok.hd,I.ok.frames,.inl rfl,?_,?_,?_,?_,?_,?_,I.stkFree⟩,rfl,I.bare,Un.kept hk,?_,?_,hfr,?_,?_,I.hok.kept hk0,?_⟩
 ·intro y z c h1 h2;exact I.ok.inj y z c (O.cells I h1) (O.cells I h2)
 ·intro y hy;have hm:y∈fr.map (·.1):=by
   rcases hy with hy | hy
   ·exact O.has (y,_) (DG hy) (.inl rfl)
   ·exact O.has (y,_) (DG hy) (.inr rfl)
  exact⟨_,dU hm⟩
 ·intro b hb;rcases BG.mp hb with rfl | hb
  ·exact⟨hDC,fun y c e=>CA (cne y c (O.cells I e))⟩
  ·exact⟨neC b (hfs b hb),fun y c e=>(hf b hb).2.2.2.2.1 y c (O.cells I e)⟩
 ·intro b o e;exact⟨kp b o (I.bs b o e).1,(I.bs b o e).2⟩
 ·show X.base.objs.size<=g.objs.size;rw[hsz];exact Nat.le_succ_of_le (Co I.ok.bsz I.sz)
 ·intro b o e hb;rcases BG.mp hb with z | hb
  ·have:=Heap.lt_size (I.bs b o e).1
   rw[z]at this;exact Dy _ this
  ·rcases(hf b hb).2.2.2.1 with z | z
   ·exact I.ok.noex b o e z
   ·exact absurd (Cb (Heap.lt_size (I.ok.bs b o e).1) z) (Dy _)
 ·intro b hb;rcases BG.mp hb with z | hb
  ·rw[z];exact nstD
  ·exact nst b (hf b hb).2.1 (hf b hb).2.2.1
 ·exact(I.kept (h':=g) (t':=s.toks) kp).stack
 ·refine⟨_,hC,fun i y v e1 e2 e3=>?_⟩;have e1a:(xs++fr.map (·.1))[i]?=some y:=e1;by_cases hi:i<xs.length
  ·rw[BL (by simpa using hi)]at e2
   rw[DY,if_pos hi]at e2
   cases e2
  ·have e1':(fr.map (·.1))[i-xs.length]?=some y:=by
    rw[BH (by omega)]at e1a
    exact e1a
   have e2':(frOf fr σ)[i-xs.length]?=some (some v):=by
    rw[BH (by simp;omega)]at e2
    simpa using e2
   generalize i-xs.length=k at e1' e2';unfold frOf at e2';rw[BJ]at e1' e2'
   cases q:fr[k]? with
   |none=>rw[q]at e1';cases e1'
   |some p =>
    rw[q]at e1' e2';have ey:p.1=y:=Ci e1';have ev:(σ[p.2]?).join=some v:=Ci e2';have hp:p∈fr:=BF q;obtain⟨hN,hK⟩:=O.slot p hp;have hkk:=O.frk p hp;rw[ey]at hN hK hkk;have ev':σ[p.2]?=some (some v):=by
     cases q2:σ[p.2]? with
     |none=>rw[q2]at ev;cases ev
     |some w=>rw[q2]at ev;exact congrArg some ev
    obtain⟨m,hn,hl⟩:=I.loc;obtain⟨u,r,l⟩:=hl p.2 y v hN ev' (.inr (.inl hK));refine⟨u,r,?_⟩;rcases l with⟨k1,_⟩ | ⟨_,c,ec,z⟩
    ·rw[hK]at k1;cases k1
    ·have hm:y∈fr.map (·.1):=by rw[← ey];exact B9.mpr ⟨p,hp,rfl⟩
     have el:=dU (env:=X.env) hm;rw[ec]at el;exact .inr ⟨.inl hkk,c,el,by obtain⟨o,ho,hd⟩:=z;exact⟨o,hk0 _ _ ho,hd⟩⟩
 ·intro y c e;obtain⟨v,o,ho,hd⟩:=I.cell y c (O.cells I e);exact⟨v,o,hk0 _ _ ho,hd⟩
 ·intro y c e;exact I.freeC y c (O.cells I e)
 ·intro p hp;rcases BN.mp hp with hp | hp
  ·cases hp
  ·rcases BN.mp hp with hp | hp
   ·obtain⟨e,n,ne,nf,d⟩:=I.pin p hp;exact⟨hk0 _ _ e,n,neC _ (Heap.lt_size e),nst _ ne nf,d⟩
   ·have ep:p=(s.heap.objs.size,LCg.lst []):=by simpa using hp
    subst ep;exact⟨hDo,hfD,hDC,nstD,fun v z=>by cases z⟩
 ·show(nons xs++frOf fr σ).length=(xs++fr.map (·.1)).length;unfold frOf;simp
theorem iC{fp:List Addr}{g:Heap}{s':Shared}{H':Hp}{σ':St}{ys:List V}{us:List Value}(I:Inv X pins σ H s)(hf:∀ b∈fp,FpOk X pins H b)(hg:g=s.heap.push (LCg.lst []))
  (J:Inv (cxG X scope fr xs g.objs.size (s.heap.objs.size::fp) { s with heap:=g } H) (X.pn++pins++[(s.heap.objs.size,LCg.lst us)]) σ' H' s') (hv:Vals ys us) (hl:ys.length<=sizeLine) :
  Inv X pins σ (upd H' s.heap.objs.size (.lst ys)) s'/\H' s.heap.objs.size=none/\FpOk X pins (upd H' s.heap.objs.size (.lst ys)) g.objs.size/\∃ m,s'.heap.Ns g.objs.size m:=by
 have hsz:g.objs.size=s.heap.objs.size+1:=by rw[hg,Heap.size_push]
 have kp:∀ b o,s.heap.get? b=some o->g.get? b=some o:=fun b o e=>by rw[hg];exact Heap.get?_push_of_some _ e
 obtain⟨eD,nD,_,_,_⟩:=J.pin (s.heap.objs.size,LCg.lst us) (by simp)
 have hDC:g.objs.size≠s.heap.objs.size:=by rw[hsz];exact Fh (Ex _)
 have nD':∀ b u,H' b=some u->b≠s.heap.objs.size:=fun b u e z=>by rw[z]at e;rw[e]at nD;cases nD
 have hx:∀ b o,s.heap.get? b=some o->b∉fp->b∉s.heap.objs.size::fp:=fun b o e hb z=>by
  rcases BG.mp z with z | z
  ·have:=Heap.lt_size e
   rw[z]at this;exact Dy _ this
  ·exact hb z
 have bU:Un (frs X.stack) (s.heap.objs.size::fp) H H' g s'.heap:=J.base;have ltD:∀ b o,s.heap.get? b=some o->b≠s.heap.objs.size:=fun b o e=>CA (Heap.lt_size e);have un:Un (frs X.stack) fp H (upd H' s.heap.objs.size (.lst ys)) s.heap s'.heap:=by
  refine⟨fun b o e n hb he=>bU.keep b o (kp b o e) n hb (hx b o e he),fun b o e n hb he=>bU.slot b o (kp b o e) n hb (hx b o e he),fun b o e n he=>?_,fun b o e he=>bU.there b o (kp b o e) (hx b o e he),fun b xs e=>?_,fun b o u e=>?_,fun b ps e=>?_⟩
  ·rw[ar (ltD b o e)];exact bU.free b o (kp b o e) n (hx b o e he)
  ·have q:=bU.tups b xs e
   rw[ar (nD' b _ q)];exact q
  ·have q:=bU.frzs b o u e
   rw[ar (nD' b _ q)];exact q
  ·obtain⟨more,q⟩:=bU.tbls b ps e;exact⟨more,by rw[ar (nD' b _ q)];exact q⟩
 have hok:HOk X.prog X.w (upd H' s.heap.objs.size (.lst ys)) s'.heap:=fun b u e=>by
  by_cases hb:b=s.heap.objs.size
  ·rw[hb,ae]at e
   cases e
   rw[hb];exact⟨hl,us,us.length,hv,eD⟩
  ·rw[ar hb]at e;exact(J.hok b u e).stay (fun c v _ q=>q) (fun c q=>by rw[ar (nD' c _ q)];exact q) fun c xs q=>by rw[ar (nD' c _ q)];exact q
 have os:s'.os=s.os:=J.os;refine⟨I.call' os un hok J.bare fun b hb=>⟨(hf b hb).2.2.2.1,(hf b hb).2.1,(hf b hb).2.2.2.2⟩,nD,?_,?_⟩
 ·refine I.fpOk (H':=upd H' s.heap.objs.size (.lst ys)) (b:=g.objs.size) (by rw[hsz];exact Ez _) ?_
  rw[ar hDC];exact J.free
 ·obtain⟨m,hn,_⟩:=J.loc;exact⟨m,hn⟩
end
noncomputable def PTs(X:Cx)(ifs:List Expr)(t:TT):Prop :=
 ∀(pins:List (Addr×Obj))(s:Shared)(σ:St)(H:Hp)(Q:Bool->Hp->Prop),Inv X pins σ H s->t σ H Q ->
  wpAny (model X.prog X.w) X.A (forIn ifs true fun c r=>if r=true then do let ok ← isTrue c X.env (eval c X.env);pure (ForInStep.yield ok) else pure (ForInStep.yield r)) (fun b s'=>∃ H',Inv X pins σ H' s'/\Q b H') X.xe s
noncomputable def tYes:TT:=fun _ H Q=>Q true H
theorem cE{X:Cx}:PTs X [] tYes:=fun _ _ _ H _ I h=>wpAny_tests_nil ⟨H,I,h⟩
theorem Ar{X:Cx}{c:Expr}{t:TT}(h:PT X c t):PTs X [c] t:=fun pins s σ H Q I q=>wpAny_tests_one (h pins s σ H Q I q)
section
variable{prog:Program}{w:World}{A:Around}{s:Shared}
theorem wZ{elt target iter:Expr}{ifs:List Expr}{scope:Scope}{pos:Pos}{it acc:Value}{env:Env}{R:Result->Shared->Prop}(I:Nat->Shared->Prop)
  (turn:∀ n s,I n s->wpAny (model prog w) A (pyNext it) (fun r s₁=>match r with
   |none=>R (.ok .next) s₁
   |some v=>wpAny (model prog w) A (letOwnedTupleGo target it v) (fun _ s₀=>wpAny (model prog w) A (assign target env v) (fun _ s₂ =>
     wpAny (model prog w) A (forIn ifs true fun c r=>if r=true then do let ok ← isTrue c env (eval c env);pure (ForInStep.yield ok) else pure (ForInStep.yield r)) (fun ok s₃=>if ok=true then wpAny (model prog w) A (eval elt env) (fun x s₄ =>
      wpAny (model prog w) A (call (.builtin "list.append") [acc,x]) (fun _ s₅=>∃ m,m<n/\I m s₅) (notedBy (model prog w) A env fun e s'=>R (.error e) s') s₄) (notedBy (model prog w) A env fun e s'=>R (.error e) s') s₃
      else ∃ m,m<n/\I m s₃) (notedBy (model prog w) A env fun e s'=>R (.error e) s') s₂)
     (notedBy (model prog w) A env fun e s'=>R (.error e) s') s₀) (notedBy (model prog w) A env fun e s'=>R (.error e) s') s₁) (notedBy (model prog w) A env fun e s'=>R (.error e) s') s)
  (n:Nat) (h:I n s):codeAny (model prog w) A (.compLoop (.ListComp elt [⟨target,iter,ifs,0⟩] scope pos) 0 it acc env) R s:=by
 refine codeAny_loop rfl I (fun n s hI=>?_) n h;show wpAny _ A ((compTurn (.ListComp elt [⟨target,iter,ifs,0⟩] scope pos) 0 it acc env).onRaise (fun x=>do noteFrame x env;theTreesLotGoes x)) _ _ s
 refine wpAny_noted ?_;rw[compTurn_list];refine wpAny_bind (wpAny_standAt (wpAny_bind (wpAny_mono (turn n s hI) (fun r s₁ h₁=>?_) fun _ _ h'=>h')))
 cases r with
 |none=>exact wpAny_pure h₁
 |some v =>
  refine wpAny_bind (wpAny_mono h₁ (fun _ s₀ h₀'=>?_) fun _ _ h'=>h');refine wpAny_bind (wpAny_mono h₀' (fun _ s₂ h₂=>?_) fun _ _ h'=>h');refine wpAny_bind (wpAny_mono h₂ (fun okb s₃ h₃=>?_) fun _ _ h'=>h')
  cases okb with
  |false=>exact wpAny_pure ⟨rfl,h₃⟩
  |true=>exact wpAny_bind (wpAny_bind (wpAny_mono h₃ (fun x s₄ h₄=>wpAny_bind (wpAny_mono h₄ (fun _ s₅ h₅=>wpAny_pure (wpAny_pure ⟨rfl,h₅⟩)) fun _ _ h'=>h')) fun _ _ h'=>h'))
end
noncomputable def ir(g:TG)(tt:TT)(te:TE)(n:Nat)(fv:St)(J:It)(H1:Hp)(QQ:List V->Hp->Prop):Prop :=
 ∃ W:Nat->Nat->List V->Hp->Prop,(∃ m,W 0 m [] H1)/\∀ i m ys H,W i m ys H->ys.length<=sizeLine /\
  ((J.stop i H/\QQ ys H)∨(J.go i H/\∃ N:List V->Hp->Prop,(∀ zs H2,N zs H2->∃ m',m'<m/\W (i+1) m' zs H2) /\
   ∀ x H',J.yld i H x H'->g x (Dz n none++fv) H' fun σ2 H2=>σ2.drop n=fv/\tt σ2 H2 fun b H3=>if b=true then te σ2 H3 (fun y H4=>N (ys++[y]) H4) else N ys H3))
section
variable{X:Cx}{scope:Scope}{fr:List (Str×Nat)}{xs:List Str}{elt iter tg:Expr}{ifs:List Expr}{pos:Pos}{te:TE}{tt:TT}{tgt:TG}{wi:TI}
noncomputable def tCompE(wi:TI)(g:TG)(tt:TT)(te:TE)(n:Nat)(fr:List (Str×Nat)):TE:=fun σ H Q=>wi σ H fun J H1=>ir g tt te n (frOf fr σ) J H1 fun ys H2=>∀ D,H2 D=none->Q (.ref D) (upd H2 D (.lst ys))
noncomputable def uy(i:Nat)(wi:TI)(g:TG)(tt:TT)(te:TE)(n:Nat)(fr:List (Str×Nat)):TS:=fun D σ H=>wi σ H fun J H1=>ir g tt te n (frOf fr σ) J H1 fun ys H2=>∀ a,H2 a=none->D.nx (σ.set i (some (.ref a))) (upd H2 a (.lst ys))
end
theorem lD{K:BD}{a:Addr}{xs:List V}{g:TG}{tt:TT}{te:TE}{n:Nat}{fv:St}{H1:Hp}{QQ:List V->Hp->Prop}(Pv:Nat->List V->Hp->Prop)(hz:xs.length<=sizeLine)(h0:Pv 0 [] H1)(hl:∀ i ys H,i<=xs.length->Pv i ys H->SqL K H a xs)
  (hs:∀ i x ys H,xs[i]?=some x->Pv i ys H->g x (Dz n none++fv) H fun σ2 H2=>σ2.drop n=fv/\tt σ2 H2 fun b H3=>if b=true then te σ2 H3 (fun y H4=>Pv (i+1) (ys++[y]) H4) else Pv (i+1) ys H3) (hd:∀ ys H,Pv xs.length ys H->QQ ys H) (hy:∀ i ys H,Pv i ys H->ys.length<=i)
  : ir g tt te n fv (Itl K a) H1 QQ:=by
 refine⟨fun i m ys H=>m=xs.length-i/\i<=xs.length/\Pv i ys H,⟨xs.length,by simp,C4 _,h0⟩,?_⟩
 rintro i m ys H ⟨rfl,hi,p⟩;have q:=hl i ys H hi p;have hyl:=hy i ys H p;refine⟨by omega,?_⟩
 by_cases hlt:i<xs.length
 ·refine .inr ⟨⟨xs,xs[i],q,by simp[hlt]⟩,fun zs H2=>Pv (i+1) zs H2,fun zs H2 p2=>⟨xs.length-(i+1),by omega,rfl,hlt,p2⟩,fun x H' y=>?_⟩
  obtain⟨e,y⟩:=y;subst e;exact hs i x ys _ (y xs q) p
 ·have e:i=xs.length:=by omega
  subst e;exact .inl ⟨⟨xs,q,BI _⟩,hd ys H p⟩
section
variable{X:Cx}{K:BD}{pos:Pos}
theorem mD(h:X.K=K):IxR X (rIxL K):=h▸aD
theorem A0(h:X.K=K):IxR X (rIxT K):=h▸br
theorem Ax{es:List Expr}{k:Nat}{t:TGs}{n:Nat}(hK:X.K=K)(hc:X.calm=true)(h:PGs X es t)(hn:(assignEach es X.env).length=n:=by rfl)(hst:(assignEach es X.env).findIdx? (·.1)=none:=by rfl):PG X (.Tuple es k pos) (gTup K n t):=hK▸q8 hc h hn hst
theorem ue(h:X.K=K):gg X (.type "list") (fun xs H Q=>∃ p ys,xs = [.ref p]/\(SqL K H p ys∨SqT K H p ys)/\∀ l,H l=none->Q (.ref l) (upd H l (.lst ys))):=h▸df
theorem vq{e:Expr}{f:Str}{ta:TE}(h:X.K=K)(he:PE X e ta)(hb:attributeBase e f X.env (eval e X.env)=eval e X.env):PE X (.Attribute e f pos) (tFld K ta f):=h▸gA he hb
end
section
variable{X:Cx}
noncomputable def Ap:V->List V->Hp->VK->Prop:=fun x vs H Q=>∃ l xs k y,x=.ref l/\vs = [.int k,y]/\H l=some (.lst xs)/\0<=k/\k<=xs.length/\xs.length<sizeLine/\Q .non (upd H l (.lst (xs.take k.toNat++y::xs.drop k.toNat)))
theorem kj:MtM X "list.insert" Ap:=by
 intro pins s σ H x vs v us Q I rx rv h;obtain⟨l,xs,k,y,rfl,rfl,hH,h0,hk,hz,q⟩:=h
 cases rx
 obtain⟨u1,u2,rfl,r1,r2⟩:=rv.two;obtain⟨t,rfl⟩:=r1;obtain⟨z,its,n,r,hl,e⟩:=I.lstM hH;have hn:=ku;have hfit:¬ (!Builtin.List.listFitsIndex k)=true:=by
  rw[fitsIndex_both (by omega) (by omega)]
  exact Cf
 refine call_meets F.slot_list_insert ⟨_,e,rfl⟩ F.entry_list_insert (F.args_list_insert_3 _ _ _) (AutoListH.list_insert_list_int_val_1 l its.toArray n k t u2 hfit (by rw[Cm];omega)) ⟨e,?_⟩
 refine⟨.non,_,I.lset (its':=its.take k.toNat++u2::its.drop k.toNat) hH e ?_ ((r.take _).append (.cons r2 (r.drop _))) ?_,rfl,q⟩
 ·dsimp only;rw[if_neg (by omega),Cm,De (by omega)]
  simp;exact Cc (by rw[Cq];omega)
 ·rw[BE,BK,BV,Cq];omega
theorem mE:∀{ns:List Int}{us:List Value},Vals (ns.map V.int) us->IntsAre us ns
 |[],_,.nil=>.nil
 |n::ns,_,.cons r rr=>by
  obtain⟨t,rfl⟩:=r;exact .cons n t (mE rr)
end
theorem jT:∀{ps:List Nat},(∀ p∈ps,p<1000)->PyData.weightAll ((ps.map fun(p:Nat)=>((p:Nat):Int)).map PyData.int)<=12*ps.length
 |[],_=>by simp[PyData.weightAll]
 |p::ps,h=>by
  have ih:=jT (ps:=ps) fun x hx=>h x (BO _ hx);have hp:=h p (by simp)
  have hw:PyData.weight (.int (p:Int))<=11:=by
   rw[PyData.weight];split
   ·exact C4 _
   ·rename_i z;have z':p≠0:=fun e=>z (by rw[e];rfl)
    have e:((p:Int)).natAbs=p:=rfl;rw[e];have:=(Nat.log2_lt z').mpr (show p<2^10 by omega)
    omega
  rw[BW,BW,PyData.weightAll,BK];omega
theorem yp{ps:List Nat}(h:∀ p∈ps,p<1000)(hl:ps.length<=1000):PyData.layable0 (.list ((ps.map fun(p:Nat)=>((p:Nat):Int)).map PyData.int))=true:=by
 have h1:=PySem.W.shaped_ints (ps.map fun(p:Nat)=>((p:Nat):Int));have h2:=jT h;have h3:PyData.weight (.list ((ps.map fun(p:Nat)=>((p:Nat):Int)).map PyData.int))<=2^20:=by
  rw[PyData.weight];ac_rfl
 unfold PyData.layable0;unfold SeqAt.shaped at h1;rw[h1,decide_eq_true h3];rfl
section
variable{X:Cx}
noncomputable def rIndex(K:BD):V->List V->Hp->VK->Prop:=fun x vs H Q=>∃(l:Addr)(ps:List Nat)(k:Nat),x=.ref l/\vs = [.int (k:Int)]/\SqL K H l (ps.map fun(p:Nat)=>V.int (p:Int))/\(∀ p∈ps,p<1000)/\ps.length<=1000/\k∈ps/\Q (.int ((ps.idxOf k:Nat):Int)) H
theorem yv{ps:List Nat}{k:Nat}:(ps.map fun(p:Nat)=>((p:Nat):Int)).idxOf (k:Int)=ps.idxOf k:=by
 induction ps with
 |nil=>rfl
 |cons p ps ih =>
  rw[BW,List.idxOf_cons,List.idxOf_cons,ih];have e:(((p:Nat):Int) == (k:Int))=(p == k):=by
   by_cases h:p=k
   ·subst h;simp
   ·have h2:¬ (p:Int)=(k:Int):=fun z=>h (by omega)
    rw[beq_eq_false_iff_ne.mpr h,beq_eq_false_iff_ne.mpr h2]
  rw[e]
theorem rB:MtM X "list.index" (rIndex X.K):=by
 intro pins s σ H x vs v us Q I rx rv h;obtain⟨l,ps,k,rfl,rfl,hq,hs,hl,hk,q⟩:=h
 cases rx
 obtain⟨u,rfl,ru⟩:=rv.one;obtain⟨t,rfl⟩:=ru;have e:(ps.map fun(p:Nat)=>V.int (p:Int))=(ps.map fun(p:Nat)=>((p:Nat):Int)).map V.int:=by rw[Dj];rfl
 rw[e]at hq;obtain⟨its,r,pl,hz⟩:=I.list hq;refine index_list_ints pl.isList (mE r) (yp hs hl) (B9.mpr ⟨k,hk,rfl⟩) ?_;rw[yv];exact⟨.int _,H,I.tok _,⟨_,rfl⟩,q⟩
theorem op_eqG(hu:X.A.units+64<cLine):OpR X (compareOp .Eq) (fun x y H Q=>∃ d1 d2,RdD X.K H x d1/\RdD X.K H y d2/\SeqAt.shaped d1=true/\SeqAt.shaped d2=true/\Q (.bl (PyData.eqv d1 d2)) H):=by
 intro pins s σ H x y v u Q I rx ry h;obtain⟨d1,d2,r1,r2,h1,h2,q⟩:=h;obtain⟨as,q1⟩:=r1.reads I v rx;obtain⟨bs,q2⟩:=r2.reads I u ry;exact eq_dataH q1 q2 h1 h2 hu ⟨.bl _,H,I,rfl,q⟩
end
theorem um:∀{us:List Value}{ns:List Int},IntsAre us ns->Vals (ns.map V.int) us
 |_,_,.nil=>.nil
 |_,_,.cons _ t r=>.cons ⟨t,rfl⟩ (um r)
section
variable{X:Cx}
end
theorem zL:bootBuiltins "min" = some (.builtin "min"):=by decide
theorem zM:bootBuiltins "max" = some (.builtin "max"):=by decide
section
variable{X:Cx}
noncomputable def rCatS(K:BD):R2:=fun x y H Q=>∃ l b xs zs,x=.ref l/\y=.ref b/\SqL K H l xs/\SqL K H b zs/\xs.length+zs.length<=sizeLine/\∀ p,H p=none->Q (.ref p) (upd H p (.lst (xs++zs)))
theorem dS:OpR X (binaryOp .Add) (rCatS X.K):=by
 intro pins s σ H x y v u Q I rx ry h;obtain⟨l,b,xs,zs,rfl,rfl,hH,hB,hz,q⟩:=h
 cases rx
 cases ry
 obtain⟨its,r,pl,_⟩:=I.list hH;obtain⟨its2,r2,pl2,_⟩:=I.list hB;obtain⟨⟨cls,dd,data,sl⟩,ho,hc,n,hd⟩:=pl.isList;obtain⟨⟨cls2,dd2,data2,sl2⟩,ho2,hc2,n2,hd2⟩:=pl2.isList;simp only at hc hd hc2 hd2;subst hc hd hc2 hd2;have ea:its.toArray++its2.toArray=(its++its2).toArray:=by simp
 have e1:=r.length;have e2:=r2.length;refine concat_meets ⟨_,ho,rfl⟩ ⟨_,ho2,rfl⟩ noFill_list_add seq_list_add PySem.F.slot_list_add PySem.F.entry_list_add (PySem.F.args_list_add_2 _ _) (list_addW l b its.toArray its2.toArray n n2 dd dd2 sl sl2 (by rw[Cm,Cm];omega)) ⟨ho,ho2,?_⟩
 rw[ea];exact⟨.ref _,_,I.lnew (t':=s.toks) (r.append r2) (by rw[BE];omega),rfl,q _ I.fresh⟩
end
theorem yesT{σ:St}{H:Hp}{A B:Hp->Prop}(h:A H):tYes σ H fun b H3=>if b=true then A H3 else B H3 :=
 show(if true=true then A H else B H) from iteT (B:=B H) h
section
variable{X:Cx}
theorem op_neG(hu:X.A.units+64<cLine):OpR X (compareOp .NotEq) (fun x y H Q=>∃ d1 d2,RdD X.K H x d1/\RdD X.K H y d2/\SeqAt.shaped d1=true/\SeqAt.shaped d2=true/\Q (.bl (!PyData.eqv d1 d2)) H):=by
 intro pins s σ H x y v u Q I rx ry h;obtain⟨d1,d2,r1,r2,h1,h2,q⟩:=h;obtain⟨as,q1⟩:=r1.reads I v rx;obtain⟨bs,q2⟩:=r2.reads I u ry;exact ne_dataH q1 q2 h1 h2 hu ⟨.bl _,H,I,rfl,q⟩
theorem kJ:∀(a b:List Int),PyData.eqvAll (a.map PyData.int) (b.map PyData.int)=decide (a=b)
 |[],[]=>by simp[PyData.eqvAll]
 |[],y::b=>by simp[PyData.eqvAll]
 |x::a,[]=>by simp[PyData.eqvAll]
 |x::a,y::b=>by
  rw[BW,BW];simp only[PyData.eqvAll,PyData.eqv,kJ a b];by_cases h:x=y
  ·by_cases h2:a=b
   ·simp[h,h2]
   ·simp[h,h2]
  ·simp[h]
theorem rN(a b:List Int):PyData.eqv (.list (a.map PyData.int)) (.list (b.map PyData.int))=decide (a=b):=by
 rw[← kJ];simp only[PyData.eqv]
end
section
variable{X:Cx}{tg:Expr}
end
section
variable{P:Program}{w:World}{K:BD}{mg:Str->Option Value}{base:Heap}
end
end L2
namespace PyProof.Rows
open PySem
local macro_rules | `(tactic| walk_at "gallop") => do
 let n:=Lean.mkIdent (Lean.mkPrivateNameCore `PySem.Builtin.List.W1All `PySem.Builtin.gallop)
 `(tactic| delta $n)
local macro_rules | `(tactic| walk_at "st") => `(tactic| try dsimp -zeta -zetaHave only)
local macro_rules | `(tactic| walk_at "l4") => `(tactic| (extract_lets -underBinder +onlyGivenNames a b; subst a b))
noncomputable abbrev wt:Bool->Keyed->Array Keyed->Nat->Nat->Nat->StateT SortSt Sem (Option Nat):=sortPriv% PySem.Builtin.gallop
noncomputable def IntP(p:Keyed):Prop:=∃ n t,p.1=.int n t
noncomputable def ky(p:Keyed):Int:=numOf p.1
theorem aR{σ α:Type}{M:Model}{A:Around}{E:Value->Shared->Prop}{s:Shared}{c:Prop} [Decidable c] {a b:StateT σ Sem α} {Q:α->σ->Prop} {st:σ} (h:c) (q:wpS M A E s a Q st):wpS M A E s (if c then a else b) Q st:=by rw[if_pos h];exact q
theorem aP{σ α:Type}{M:Model}{A:Around}{E:Value->Shared->Prop}{s:Shared}{c:Prop} [Decidable c] {a b:StateT σ Sem α} {Q:α->σ->Prop} {st:σ} (h:¬ c) (q:wpS M A E s b Q st):wpS M A E s (if c then a else b) Q st:=by rw[if_neg h];exact q
variable{prog:Program}{w:World}{A:Around}{E:Value->Shared->Prop}{s:Shared}
theorem lG{st:SortSt}{x y:Keyed}{Q:Option Bool->SortSt->Prop}(hk:kindOf st=oneType')(hx:IntP x)(hy:IntP y)(h:Q (some (decide (ky x<ky y))) st):wpS (model prog w) A E s ((sortPriv% PySem.Builtin.lt) x y) Q st:=by
 show wpS (model prog w) A E s (lt' x y) Q st;obtain⟨n,t,hx⟩:=hx;obtain⟨m,u,hy⟩:=hy;rw[lt'_eq];refine wpS_bind (wpS_get ?_);unfold ky at h;rw[hx,hy]at h;rw[hk,keyLt'_oneType,hx,hy];refine wpS_bind (wpS_lift (wpAny_attempt (oneLt_int ⟨rfl,?_⟩)));exact wpS_pure h
theorem aY{st:SortSt}{arr:Array Keyed}{i:Nat}{p:Keyed}{Q:Keyed->SortSt->Prop}(hi:arr[i]?=some p)(h:Q p st):wpS (model prog w) A E s ((sortPriv% PySem.Builtin.elem) arr i) Q st:=by
 show wpS (model prog w) A E s (elem' arr i) Q st;rw[elem'_eq,hi];exact wpS_pure h
theorem gh{st:SortSt}{left:Bool}{key:Keyed}{arr:Array Keyed}{base n hint:Nat}{Q:Option Nat->SortSt->Prop}(f:Nat->Bool)(hk:kindOf st=oneType')(hkey:IntP key)(hin:∀ i,i<n->∃ p,arr[base+i]?=some p/\IntP p/\f i=if left then decide (ky p<ky key) else !decide (ky key<ky p))
  (mono:∀ i j,i<=j->j<n->f j=true->f i=true) (hh:hint<n) (h:∀ k,k<=n->(∀ i,i<k->f i=true)->(∀ i,k<=i->i<n->f i=false)->Q (some k) st) :
  wpS (model prog w) A E s (wt left key arr base n hint) Q st:=by
 unfold wt;walk_at "gallop";extract_lets -underBinder +onlyGivenNames beyond;clear_value (eb:beyond=_);have hb:∀(i:Nat)(Q':Option Bool->SortSt->Prop),i<n->Q' (some (f i)) st->wpS (model prog w) A E s (beyond i) Q' st:=by
  intro i Q' hi q;obtain⟨p,hp,ip,ef⟩:=hin i hi;rw[eb];refine wpS_bind (aY hp ?_);rw[ef]at q
  cases left with
  |true=>exact lG hk ip hkey q
  |false=>exact wpS_bind (lG hk hkey ip (wpS_pure q))
 clear eb;walk_at "l4";refine wpS_bind (hb hint _ hh ?_);walk_at "st";have nmono:∀ i j,i<=j->j<n->f i=false->f j=false:=fun i j hij hj e=>by
  cases z:f j with
  |false=>rfl
  |true=>rw[mono i j hij hj z]at e;cases e
 extract_lets -underBinder +onlyGivenNames jp;clear_value (ej:jp=_);have hj:∀(u:Unit)(a0 a1 lo hi:Nat),lo<=hi->hi<=n->(∀ i,i<lo->f i=true)->(∀ i,hi<=i->i<n->f i=false)->wpS (model prog w) A E s (jp u a0 a1 lo hi) Q st:=by
  intro u a0 a1 lo hi h1 h2 h3 h4;rw[ej];dsimp only
  refine wpS_bind (wpS_mono (wpS_forRange (I:=fun x c st'=>st'=st/\∃ l r,c=(none,l,r)/\l<=r/\r<=n/\r-l<=n-x/\(∀ i,i<l->f i=true)/\(∀ i,r<=i->i<n->f i=false))
   (Q:=fun c st'=>st'=st/\∃ l,c=(none,l,l)/\l<=n/\(∀ i,i<l->f i=true)/\(∀ i,l<=i->i<n->f i=false)) ?step ?fin ⟨rfl,lo,hi,rfl,h1,h2,by omega,h3,h4⟩) ?post)
  case post =>
   rintro c st' ⟨rfl,l,rfl,g1,g2,g3⟩;exact wpS_pure (h l g1 g2 g3)
  case fin =>
   rintro c st' ⟨rfl,l,r,rfl,g1,g2,g3,g4,g5⟩;have:l=r:=by omega
   subst this;exact⟨rfl,l,rfl,g2,g4,g5⟩
  case step =>
   rintro x c st' _ hx ⟨rfl,l,r,rfl,g1,g2,g3,g4,g5⟩;dsimp only;by_cases z:l ≥ r
   ·refine aR z ?_;have:l=r:=by omega
    subst this;exact wpS_pure ⟨rfl,l,rfl,g2,g4,g5⟩
   ·refine aP z ?_;refine wpS_bind (hb _ _ (by omega) ?_)
    cases e:f (l+(r-l)/2) with
    |true=>exact wpS_pure ⟨rfl,_,r,rfl,by omega,g2,by omega,fun i hi=>mono i _ (by omega) (by omega) e,g5⟩
    |false=>exact wpS_pure ⟨rfl,l,_,rfl,by omega,by omega,by omega,g4,fun i h1 h2=>nmono _ i h1 h2 e⟩
 clear ej
 cases er:f hint with
 |true =>
  refine aR rfl ?_;dsimp only
  refine wpS_bind (wpS_mono (wpS_forRange (I:=fun x c st'=>st'=st/\∃ l o,c=(none,l,o)/\l<o/\x+1<=o/\hint+l<n/\f (hint+l)=true)
   (Q:=fun c st'=>st'=st/\∃ l o,c=(none,l,o)/\l<o/\hint+l<n/\f (hint+l)=true/\(n-hint<=o∨f (hint+o)=false)) ?step ?fin ⟨rfl,0,1,rfl,by omega,by omega,by omega,er⟩) ?post)
  case post =>
   rintro c st' ⟨rfl,l,o,rfl,g1,g2,g3,g4⟩;dsimp only;refine hj _ _ _ _ _ (by omega) (by omega) (fun i hi=>mono i _ (by omega) g2 g3) fun i h1 h2=>?_
   rcases g4 with g4 | g4
   ·omega
   ·exact nmono (hint+o) i (by omega) h2 g4
  case fin =>
   rintro c st' ⟨rfl,l,o,rfl,g1,g2,g3,g4⟩;exact⟨rfl,l,o,rfl,g1,g3,g4,.inl (by omega)⟩
  case step =>
   rintro x c st' _ hx ⟨rfl,l,o,rfl,g1,g2,g3,g4⟩;dsimp only;by_cases z:o ≥ n-hint
   ·refine aR z ?_;exact wpS_pure ⟨rfl,l,o,rfl,g1,g3,g4,.inl z⟩
   ·refine aP z ?_;refine wpS_bind (hb _ _ (by omega) ?_)
    cases e:f (hint+o) with
    |true=>exact wpS_pure ⟨rfl,_,_,rfl,by omega,by omega,by omega,e⟩
    |false=>exact wpS_pure ⟨rfl,l,o,rfl,g1,g3,g4,.inr e⟩
 |false =>
  refine aP Cf ?_;dsimp only
  refine wpS_bind (wpS_mono (wpS_forRange (I:=fun x c st'=>st'=st/\∃ l o,c=(none,l,o)/\l<o/\x+1<=o/\l<=hint/\f (hint-l)=false)
   (Q:=fun c st'=>st'=st/\∃ l o,c=(none,l,o)/\l<o/\l<=hint/\f (hint-l)=false/\(hint+1<=o∨f (hint-o)=true)) ?step ?fin ⟨rfl,0,1,rfl,by omega,by omega,by omega,er⟩) ?post)
  case post =>
   rintro c st' ⟨rfl,l,o,rfl,g1,g2,g3,g4⟩;dsimp only;refine hj _ _ _ _ _ (by omega) (by omega) (fun i hi=>?_) fun i h1 h2=>nmono _ i h1 h2 g3
   rcases g4 with g4 | g4
   ·omega
   ·exact mono i (hint-o) (by omega) (by omega) g4
  case fin =>
   rintro c st' ⟨rfl,l,o,rfl,g1,g2,g3,g4⟩;exact⟨rfl,l,o,rfl,g1,g3,g4,.inl (by omega)⟩
  case step =>
   rintro x c st' _ hx ⟨rfl,l,o,rfl,g1,g2,g3,g4⟩;dsimp only;by_cases z:o ≥ hint+1
   ·refine aR z ?_;exact wpS_pure ⟨rfl,l,o,rfl,g1,g3,g4,.inl z⟩
   ·refine aP z ?_;refine wpS_bind (hb _ _ (by omega) ?_)
    cases e:f (hint-o) with
    |true=>exact wpS_pure ⟨rfl,l,o,rfl,g1,g3,g4,.inr e⟩
    |false=>exact wpS_pure ⟨rfl,_,_,rfl,by omega,by omega,by omega,e⟩
noncomputable def Upl(l:List Keyed):Prop:=l.Pairwise fun x y=>ky x<=ky y
structure LM(P R o:List Keyed)(i j:Nat):Prop where
 pm:o.Perm (P.take i++R.take j)
 up:Upl o
 la:∀ x∈o,∀ y∈P.drop i,ky x<=ky y
 lb:∀ x∈o,∀ y∈R.drop j,ky x<=ky y
theorem LM.swap{P R o:List Keyed}{i j:Nat}(h:LM P R o i j):LM R P o j i:=⟨h.pm.trans CF,h.up,h.lb,h.la⟩
theorem LM.a{P R o:List Keyed}{i j:Nat}(h:LM P R o i j)(u:Upl P)(k:Nat)(c:∀ x∈(P.drop i).take k,∀ y∈R.drop j,ky x<=ky y):LM P R (o++(P.drop i).take k) (i+k) j where
 pm:=by
  rw[ER,Ca];refine(h.pm.append_right _).trans ?_;rw[Ca];exact DB _ CF
 up:=CP.mpr ⟨h.up,(u.drop).take,fun x hx y hy=>h.la x hx y (CM hy)⟩
 la:=fun x hx y hy=>by
  rw[← Ec]at hy;rcases BN.mp hx with hx | hx
  ·exact h.la x hx y (CV hy)
  ·have z:Upl ((P.drop i).take k++(P.drop i).drop k):=by rw[Cj];exact u.drop
   exact(CP.mp z).2.2 x hx y hy
 lb:=fun x hx y hy=>by
  rcases BN.mp hx with hx | hx
  ·exact h.lb x hx y hy
  ·exact c x hx y hy
theorem LM.fin{P R o:List Keyed}{i j:Nat}(h:LM P R o i j)(u:Upl P)(v:Upl R)(c:∀ x∈P.drop i,∀ y∈R.drop j,ky x<=ky y):(o++P.drop i++R.drop j).Perm (P++R)/\Upl (o++P.drop i++R.drop j):=by
 constructor
 ·refine((h.pm.append_right _).append_right _).trans ?_;have e:P++R=(P.take i++P.drop i)++(R.take j++R.drop j):=by rw[Cj,Cj]
  rw[e,← Ca];refine List.Perm.append_right _ ?_;rw[Ca,Ca];exact DB _ CF
 ·refine CP.mpr ⟨CP.mpr ⟨h.up,u.drop,h.la⟩,v.drop,fun x hx y hy=>?_⟩;rcases BN.mp hx with hx | hx
  ·exact h.lb x hx y hy
  ·exact c x hx y hy
end PyProof.Rows
namespace PyProof.Rows
open PySem
local macro_rules | `(tactic| walk_at "setG") => do
 let n:=Lean.mkIdent (Lean.mkPrivateNameCore `PySem.Builtin.List.W1All `PySem.Builtin.setMinGallop)
 `(tactic| delta $n)
local macro_rules | `(tactic| walk_at "mergeLo") => do
 let n:=Lean.mkIdent (Lean.mkPrivateNameCore `PySem.Builtin.List.W1All `PySem.Builtin.mergeLo)
 `(tactic| delta $n)
local macro_rules | `(tactic| walk_at "st") => `(tactic| try dsimp -zeta -zetaHave only)
local macro_rules | `(tactic| walk_at "l3") => `(tactic| (extract_lets -underBinder +onlyGivenNames a b c; subst a b c))
local macro_rules | `(tactic| walk_at "l11") => `(tactic| (extract_lets -underBinder +onlyGivenNames a b c d e f g h i j k; subst a b c d e f g h i j k; dsimp -zeta -zetaHave only))
variable{prog:Program}{w:World}{A:Around}{E:Value->Shared->Prop}{s:Shared}
structure SmG(st st':SortSt):Prop where
 k:kindOf st'=kindOf st
 a:arrOf st'=arrOf st
 p:pendingOf st'=pendingOf st
 f:failedOf st'=failedOf st
theorem SmG.rfl'(st:SortSt):SmG st st:=⟨rfl,rfl,rfl,rfl⟩
theorem SmG.trans{a b c:SortSt}(h:SmG a b)(g:SmG b c):SmG a c:=⟨g.k.trans h.k,g.a.trans h.a,g.p.trans h.p,g.f.trans h.f⟩
theorem jH{st:SortSt}{g:Nat}{Q:Unit->SortSt->Prop}(h:∀ st',SmG st st'->Q () st'):wpS (model prog w) A E s ((sortPriv% PySem.Builtin.setMinGallop) g) Q st:=by
 walk_at "setG";exact wpS_modify (h _ ⟨rfl,rfl,rfl,rfl⟩)
theorem f9(a:Array Keyed)(i:Nat):(a.extract i).toList=a.toList.drop i:=by
 rw[DS,Eu];exact Cc (by rw[Cq];exact BI _)
theorem jO(a:Array Keyed)(i k:Nat):(a.extract i (i+k)).toList=(a.toList.drop i).take k:=by
 rw[DS,Eu];congr 1;omega
theorem eO{P:List Keyed}{i:Nat}{x:Keyed}(h:P[i]?=some x):(P.drop i).take 1 = [x]:=by
 have hi:=(BB.mp h).1;rw[DQ hi];rw[BA hi]at h
 cases h
 rfl
theorem LM.a1{P R o:List Keyed}{i j:Nat}{x:Keyed}(h:LM P R o i j)(u:Upl P)(hx:P[i]?=some x)(c:∀ y∈R.drop j,ky x<=ky y):LM P R (o++[x]) (i+1) j:=by
 have:=h.a u 1 (by rw[eO hx];intro z hz;rw[BR.mp hz];exact c)
 rwa[eO hx]at this
theorem gH{P:List Keyed}{i:Nat}{x:Keyed}(u:Upl P)(hx:P[i]?=some x):∀ y∈P.drop i,ky x<=ky y:=by
 have hi:=(BB.mp hx).1;have z:Upl (P.drop i):=u.drop;rw[DQ hi]at z ⊢;rw[BA hi]at hx
 cases hx
 intro y hy;rcases BG.mp hy with rfl | hy
 ·exact Eb _
 ·exact(Fw.mp z).1 y hy
theorem vN{P:List Keyed}{i k:Nat}{x:Keyed}(h:x∈(P.drop i).take k):∃ m,m<k/\P[i+m]?=some x:=by
 obtain⟨m,hm,e⟩:=Fq h;rw[BV,Cq]at hm;refine⟨m,by omega,?_⟩
 rw[E6,FD]at e;rw[BA (by omega),e]
theorem uq{P:List Keyed}{i j:Nat}{x y:Keyed}(u:Upl P)(hx:P[i]?=some x)(hy:P[j]?=some y)(h:i<=j):ky x<=ky y:=gH u hx y (by
 have hj:=(BB.mp hy).1;refine BF (i:=j-i) ?_
 rw[DP,show i+(j-i)=j by omega,hy])
theorem vP{P:List Keyed}{i:Nat}{x:Keyed}(h:x∈P.drop i):∃ m,P[i+m]?=some x:=by
 obtain⟨m,hm⟩:=List.getElem?_of_mem h;exact⟨m,by rw[← hm,DP]⟩
noncomputable def fR(P:List Keyed)(i:Nat)(v:Keyed)(m:Nat):Bool:=match P[i+m]? with | some p=>!decide (ky v<ky p) | none=>false
noncomputable def fL(P:List Keyed)(i:Nat)(v:Keyed)(m:Nat):Bool:=match P[i+m]? with | some p=>decide (ky p<ky v) | none=>false
theorem kI{P:List Keyed}{i m:Nat}{v p:Keyed}(h:P[i+m]?=some p):fR P i v m = !decide (ky v<ky p):=by unfold fR;rw[h]
theorem lh{P:List Keyed}{i m:Nat}{v p:Keyed}(h:P[i+m]?=some p):fL P i v m=decide (ky p<ky v):=by unfold fL;rw[h]
theorem Bh{P:List Keyed}{i:Nat}{v:Keyed}(u:Upl P){n:Nat}(hn:i+n<=P.length):∀ x y,x<=y->y<n->fR P i v y=true->fR P i v x=true:=fun x y hxy hy e=>by
 have hx:P[i+x]?=some P[i+x]:=BA (by omega)
 have hy':P[i+y]?=some P[i+y]:=BA (by omega)
 rw[kI hy']at e;rw[kI hx];have:=uq u hx hy' (by omega)
 simp only[DU,decide_eq_false_iff_not]at e ⊢;omega
theorem Bj{P:List Keyed}{i:Nat}{v:Keyed}(u:Upl P){n:Nat}(hn:i+n<=P.length):∀ x y,x<=y->y<n->fL P i v y=true->fL P i v x=true:=fun x y hxy hy e=>by
 have hx:P[i+x]?=some P[i+x]:=BA (by omega)
 have hy':P[i+y]?=some P[i+y]:=BA (by omega)
 rw[lh hy']at e;rw[lh hx];have:=uq u hx hy' (by omega)
 simp only[decide_eq_true_eq]at e ⊢;omega
theorem Bi{P:List Keyed}{i k:Nat}{v:Keyed}(h:∀ m,m<k->fR P i v m=true):∀ x∈(P.drop i).take k,ky x<=ky v:=fun x hx=>by
 obtain⟨m,hm,e⟩:=vN hx;have:=h m hm;rw[kI e]at this;simp only[DU,decide_eq_false_iff_not]at this;omega
theorem Bk{P:List Keyed}{i k:Nat}{v:Keyed}(h:∀ m,m<k->fL P i v m=true):∀ x∈(P.drop i).take k,ky x<ky v:=fun x hx=>by
 obtain⟨m,hm,e⟩:=vN hx;have:=h m hm;rw[lh e]at this;simpa using this
theorem fR_hi{P:List Keyed}{i k n:Nat}{v:Keyed}(hn:P.length<=i+n)(h:∀ m,k<=m->m<n->fR P i v m=false):∀ y∈P.drop (i+k),ky v<ky y:=fun y hy=>by
 obtain⟨m,e⟩:=vP hy;have hl:=(BB.mp e).1;have:=h (k+m) (by omega) (by omega)
 rw[kI (show P[i+(k+m)]?=some y by rw[← Nat.add_assoc];exact e)]at this
 simpa using this
theorem fL_hi{P:List Keyed}{i k n:Nat}{v:Keyed}(hn:P.length<=i+n)(h:∀ m,k<=m->m<n->fL P i v m=false):∀ y∈P.drop (i+k),ky v<=ky y:=fun y hy=>by
 obtain⟨m,e⟩:=vP hy;have hl:=(BB.mp e).1;have:=h (k+m) (by omega) (by omega)
 rw[lh (show P[i+(k+m)]?=some y by rw[← Nat.add_assoc];exact e)]at this
 simp only[decide_eq_false_iff_not]at this;omega
theorem qI{st:SortSt}{key:Keyed}{arr:Array Keyed}{base n hint:Nat}{Q:Option Nat->SortSt->Prop}(hk:kindOf st=oneType')(hkey:IntP key)(u:Upl arr.toList)(ip:∀ x∈arr.toList,IntP x)(hn:base+n<=arr.size)(hh:hint<n)
  (h:∀ k,k<=n->(∀ i,i<k->fR arr.toList base key i=true)->(∀ i,k<=i->i<n->fR arr.toList base key i=false)->Q (some k) st):wpS (model prog w) A E s ((sortPriv% PySem.Builtin.gallop) false key arr base n hint) Q st :=
 have la:arr.toList.length=arr.size:=by simp
 gh (fR arr.toList base key) hk hkey (fun i hi=>by
  have hx:arr.toList[base+i]?=some arr.toList[base+i]:=BA (by omega)
  exact⟨_,by rw[← hx];simp,ip _ (CO _),by rw[kI hx];rfl⟩) (Bh u (by omega)) hh h
theorem qJ{st:SortSt}{key:Keyed}{arr:Array Keyed}{base n hint:Nat}{Q:Option Nat->SortSt->Prop}(hk:kindOf st=oneType')(hkey:IntP key)(u:Upl arr.toList)(ip:∀ x∈arr.toList,IntP x)(hn:base+n<=arr.size)(hh:hint<n)
  (h:∀ k,k<=n->(∀ i,i<k->fL arr.toList base key i=true)->(∀ i,k<=i->i<n->fL arr.toList base key i=false)->Q (some k) st):wpS (model prog w) A E s ((sortPriv% PySem.Builtin.gallop) true key arr base n hint) Q st :=
 have la:arr.toList.length=arr.size:=by simp
 gh (fL arr.toList base key) hk hkey (fun i hi=>by
  have hx:arr.toList[base+i]?=some arr.toList[base+i]:=BA (by omega)
  exact⟨_,by rw[← hx];simp,ip _ (CO _),by rw[lh hx];rfl⟩) (Bj u (by omega)) hh h
theorem zC{σ α β:Type}{M:Model}{c:Prop} [Decidable c] {F:α->StateT σ Sem β} {x y:α} {Q:β->σ->Prop} {st:σ} (h:∀ z,wpS M A E s (F z) Q st):wpS M A E s (if c then F x else F y) Q st:=by
 split<;>exact h _
theorem o5{σ α:Type}{M:Model}{m:StateT σ Sem α}{Q:α->σ->Prop}{st:σ}(h:∀ R:α->σ->Prop,(∀ a st',Q a st'->R a st')->wpS M A E s m R st):wpS M A E s m Q st:=h Q fun _ _ q=>q
noncomputable def rC:Array Keyed->Array Keyed->StateT SortSt Sem (Array Keyed):=sortPriv% PySem.Builtin.mergeLo
theorem at_l{a:Array Keyed}{i:Nat}{x:Keyed}(h:a.toList[i]?=some x):a[i]?=some x:=by rw[← h];simp
theorem oY{st:SortSt}{a b:Array Keyed}{Q:Array Keyed->SortSt->Prop}(hk:kindOf st=oneType')(ua:Upl a.toList)(ub:Upl b.toList)(ia:∀ x∈a.toList,IntP x)(ib:∀ x∈b.toList,IntP x)(a1:1<=a.size)(b1:1<=b.size)
  (h0:∀ x y:Keyed,b.toList[0]?=some x->y∈a.toList->ky x<=ky y) (hst:∀ x y:Keyed,x∈b.toList->a.toList[a.size-1]?=some y->ky x<ky y)
  (h:∀ R st',SmG st st'->R.toList.Perm (a.toList++b.toList)->Upl R.toList->Q R st'):wpS (model prog w) A E s (rC a b) Q st:=by
 unfold rC;walk_at "mergeLo";have la:a.toList.length=a.size:=by simp
 have lb:b.toList.length=b.size:=by simp
 have atA:∀ i,i<a.size->∃ x,a.toList[i]?=some x/\IntP x:=fun i hi=>⟨_,BA (by omega),ia _ (CO _)⟩
 have atB:∀ i,i<b.size->∃ x,b.toList[i]?=some x/\IntP x:=fun i hi=>⟨_,BA (by omega),ib _ (CO _)⟩
 have dn:∀(o:Array Keyed)(i j:Nat)(st':SortSt),SmG st st'->LM a.toList b.toList o.toList i j->j=b.size->Q (o++a.extract i++b.extract j) st':=by
  intro o i j st' sg lm e;have nb:b.toList.drop j = []:=Ff (by omega)
  obtain⟨g1,g2⟩:=lm.fin ua ub (by rw[nb];intro x _ y hy;cases hy)
  refine h _ st' sg ?_ ?_
  ·rw[Cp,Cp,f9,f9];exact g1
  ·rw[Cp,Cp,f9,f9];exact g2
 have ls:∀(o:Array Keyed)(i j:Nat)(st':SortSt),SmG st st'->LM a.toList b.toList o.toList i j->i+1=a.size->Q (o++b.extract j++a.extract i) st':=by
  intro o i j st' sg lm e;obtain⟨z,hz,_⟩:=atA i (by omega)
  have na:a.toList.drop i = [z]:=by
   rw[← eO hz];exact(Cc (by rw[Cq];omega)).symm
  obtain⟨g1,g2⟩:=lm.swap.fin ub ua (by
   rw[na];intro x hx y hy;rw[BR.mp hy]
   exact DF (hst x z (CV hx) (by rw[← e];exact hz)))
  refine h _ st' sg ?_ ?_
  ·rw[Cp,Cp,f9,f9];exact g1.trans CF
  ·rw[Cp,Cp,f9,f9];exact g2
 refine wpS_bind (wpS_lift (wpAny_rule ⟨rfl,?_⟩));obtain⟨y0,hy0,iy0⟩:=atB 0 (by omega)
 walk_at "l3";refine wpS_bind (aY (at_l hy0) ?_)
 have m0:LM a.toList b.toList [y0] 0 1:=⟨by rw[F4,Fj,← eO hy0];exact F7 _,Fb ..,fun x hx y hy=>by rw[BR.mp hx];exact h0 y0 y hy0 hy,fun x hx y hy=>by
  rw[BR.mp hx]
  exact gH ub hy0 y (CV hy)⟩
 by_cases c1:(1 == b.size)=true
 ·refine aR c1 ?_;exact wpS_pure (dn _ _ _ _ (SmG.rfl' _) m0 (by simpa using c1))
 refine aP c1 ?_;have c1':1≠b.size:=by simpa using c1
 by_cases c2:(0+1 == a.size)=true
 ·refine aR c2 ?_;exact wpS_pure (ls _ _ _ _ (SmG.rfl' _) m0 (by simpa using c2))
 refine aP c2 ?_;have c2':0+1≠a.size:=by simpa using c2
 refine wpS_bind (wpS_get ?_)
 refine wpS_bind (wpS_mono (wpS_forRange (I:=fun x c st'=>SmG st st'/\∃(o:Array Keyed)(i j g:Nat),c=(none,o,i,j,g)/\LM a.toList b.toList o.toList i j/\i+1<a.size/\j<b.size/\x+1<=i+j)
  (Q:=fun c st'=>∃(r:Array Keyed)(z:Array Keyed×Nat×Nat×Nat),c=(some r,z)/\Q r st') ?step ?fin ⟨SmG.rfl' _,_,_,_,_,rfl,m0,by omega,by omega,by omega⟩) ?post)
 case post =>
  rintro c st' ⟨r,z,rfl,q⟩;exact wpS_pure q
 case fin =>
  rintro c st' ⟨sg,o,i,j,g,rfl,lm,g1,g2,g3⟩;omega
 case step =>
  rintro x c st1 _ hx ⟨sg1,o,i,j,g,rfl,lm,g1,g2,g3⟩
  refine wpS_bind (wpS_mono (wpS_forRange (I:=fun y c st'=>SmG st st'/\∃(o:Array Keyed)(i j ac bc:Nat),c=(none,o,i,j,ac,bc)/\LM a.toList b.toList o.toList i j/\i+1<a.size/\j<b.size/\x+1+y<=i+j)
   (Q:=fun c st'=>(∃(r:Array Keyed)(z:Array Keyed×Nat×Nat×Nat×Nat),c=(some r,z)/\Q r st')∨SmG st st'/\∃(o:Array Keyed)(i j ac bc:Nat),c=(none,o,i,j,ac,bc)/\LM a.toList b.toList o.toList i j/\i+1<a.size/\j<b.size/\x+2<=i+j) ?istep ?ifin ⟨sg1,o,i,j,0,0,rfl,lm,g1,g2,by omega⟩) ?ipost)
  case ifin =>
   rintro c st' ⟨sg,o,i,j,ac,bc,rfl,lm,g1,g2,g3⟩;exact .inr ⟨sg,o,i,j,ac,bc,rfl,lm,g1,g2,by omega⟩
  case istep =>
   rintro y c st2 _ hy ⟨sg2,o,i,j,ac,bc,rfl,lm,g1,g2,g3⟩;obtain⟨vb,hvb,ivb⟩:=atB j g2;obtain⟨va,hva,iva⟩:=atA i (by omega)
   dsimp only;refine wpS_bind (aY (at_l hvb) (wpS_bind (aY (at_l hva) (wpS_bind (lG (sg2.k.trans hk) ivb iva ?_)))));by_cases c:ky vb<ky va
   ·rw[decide_eq_true c];dsimp only;refine aR rfl ?_;refine wpS_bind (aY (at_l hvb) ?_);have m2:LM a.toList b.toList (o.push vb).toList i (j+1):=by
     rw[El];exact(lm.swap.a1 ub hvb fun z hz=>by have:=gH ua hva z hz;omega).swap
    by_cases d1:(j+1 == b.size)=true
    ·refine aR d1 ?_;exact wpS_pure (.inl ⟨_,_,rfl,dn _ _ _ _ sg2 m2 (by simpa using d1)⟩)
    ·refine aP d1 ?_;have d1':j+1≠b.size:=by simpa using d1
     split
     ·exact wpS_pure (.inr ⟨sg2,_,_,_,_,_,rfl,m2,g1,by omega,by omega⟩)
     ·exact wpS_pure ⟨sg2,_,_,_,_,_,rfl,m2,g1,by omega,by omega⟩
   ·rw[decide_eq_false c];dsimp only;refine aP Cf ?_;refine wpS_bind (aY (at_l hva) ?_);have m2:LM a.toList b.toList (o.push va).toList (i+1) j:=by
     rw[El];exact lm.a1 ua hva fun z hz=>by have:=gH ub hvb z hz;omega
    by_cases d1:(i+1+1 == a.size)=true
    ·refine aR d1 ?_;exact wpS_pure (.inl ⟨_,_,rfl,ls _ _ _ _ sg2 m2 (by simpa using d1)⟩)
    ·refine aP d1 ?_;have d1':i+1+1≠a.size:=by simpa using d1
     split
     ·exact wpS_pure (.inr ⟨sg2,_,_,_,_,_,rfl,m2,by omega,g2,by omega⟩)
     ·exact wpS_pure ⟨sg2,_,_,_,_,_,rfl,m2,by omega,g2,by omega⟩
  case ipost =>
   rintro c st2 (⟨r,z,rfl,q⟩ | ⟨sg2,o,i,j,ac,bc,rfl,lm,g1,g2,g3⟩)
   ·exact wpS_pure ⟨_,_,rfl,q⟩
   dsimp -zeta -zetaHave only;refine wpS_bind (wpS_lift (wpAny_rule ⟨rfl,?_⟩))
   refine wpS_bind (wpS_mono (wpS_forRange (I:=fun y c st'=>SmG st st'/\∃(o:Array Keyed)(i j g ac bc:Nat),c=(none,o,i,j,g,ac,bc)/\LM a.toList b.toList o.toList i j/\i+1<a.size/\j<b.size/\x+2<=i+j)
    (Q:=fun c st'=>(∃(r:Array Keyed)(z:Array Keyed×Nat×Nat×Nat×Nat×Nat),c=(some r,z)/\Q r st')∨SmG st st'/\∃(o:Array Keyed)(i j g ac bc:Nat),c=(none,o,i,j,g,ac,bc)/\LM a.toList b.toList o.toList i j/\i+1<a.size/\j<b.size/\x+2<=i+j) ?jstep ?jfin ⟨sg2,o,i,j,_,ac,bc,rfl,lm,g1,g2,g3⟩) ?jpost)
   case jfin=>exact fun c st' q=>.inr q
   case jpost =>
    rintro c st3 (⟨r,z,rfl,q⟩ | ⟨sg3,o,i,j,g,ac,bc,rfl,lm,g1,g2,g3⟩)
    ·exact wpS_pure ⟨_,_,rfl,q⟩
    dsimp only;exact wpS_bind (jH fun st4 sg4=>wpS_pure ⟨sg3.trans sg4,_,_,_,_,rfl,lm,g1,g2,by omega⟩)
   case jstep =>
    rintro y c st3 _ hy ⟨sg3,o,i,j,g,ac,bc,rfl,lm,g1,g2,g3⟩;walk_at "st";walk_at "l11";extract_lets -underBinder +onlyGivenNames jp;clear_value (ej:jp=_);refine o5 fun R hR=>?_;refine zC (F:=fun z=>jp () z) fun g'=>?_;rw[ej];clear ej jp;walk_at "st";refine wpS_bind (jH fun st4 sg4=>?_);have sg34:=sg3.trans sg4;have k4:=sg34.k.trans hk;obtain⟨vb,hvb,ivb⟩:=atB j g2;refine wpS_bind (aY (at_l hvb) ?_);refine wpS_bind (qI k4 ivb ua ia (by omega) (by omega) fun k kn kt kf=>?_)
    walk_at "st";extract_lets -underBinder +onlyGivenNames ac jp;subst ac;clear_value (ej:jp=_);have vbl:=gH ub hvb;have hlo:=Bi kt;have hhi:=fR_hi (by omega) kf
    have hj:∀(o':Array Keyed)(i':Nat),LM a.toList b.toList o'.toList i' j->i'+1<a.size->(∀ y∈a.toList.drop i',ky vb<=ky y)->x+2<=i'+j->wpS (model prog w) A E s (jp () o' i') R st4:=by
     intro o' i' lm' g1' gv g3';rw[ej];clear ej jp;walk_at "st";refine wpS_bind (aY (at_l hvb) ?_);have m2:LM a.toList b.toList (o'.push vb).toList i' (j+1):=by
      rw[El];exact(lm'.swap.a1 ub hvb gv).swap
     by_cases d1:(j+1 == b.size)=true
     ·refine aR d1 ?_;exact wpS_pure (hR _ _ (.inl ⟨_,_,rfl,dn _ _ _ _ sg34 m2 (by simpa using d1)⟩))
     refine aP d1 ?_;have d1':j+1≠b.size:=by simpa using d1
     obtain⟨va,hva,iva⟩:=atA i' (by omega)
     have val:=gH ua hva;refine wpS_bind (aY (at_l hva) ?_);refine wpS_bind (qJ k4 iva ub ib (by omega) (by omega) fun k2 kn2 kt2 kf2=>?_)
     walk_at "st";extract_lets -underBinder +onlyGivenNames ac jp;subst ac;clear_value (ej:jp=_);have hlo2:=Bk kt2;have hhi2:=fL_hi (by omega) kf2
     have hj:∀(o':Array Keyed)(j':Nat),LM a.toList b.toList o'.toList i' j'->j'<b.size->(∀ y∈b.toList.drop j',ky va<=ky y)->x+2<=i'+j'->wpS (model prog w) A E s (jp () o' j') R st4:=by
      intro o' j' lm2 g2' gv' g3'';rw[ej];clear ej jp;walk_at "st";refine wpS_bind (aY (at_l hva) ?_);have m3:LM a.toList b.toList (o'.push va).toList (i'+1) j':=by
       rw[El];exact lm2.a1 ua hva gv'
      by_cases d2:(i'+1+1 == a.size)=true
      ·refine aR d2 ?_;exact wpS_pure (hR _ _ (.inl ⟨_,_,rfl,ls _ _ _ _ sg34 m3 (by simpa using d2)⟩))
      refine aP d2 ?_;have d2':i'+1+1≠a.size:=by simpa using d2
      split
      ·exact wpS_pure (hR _ _ (.inr ⟨sg34,_,_,_,_,_,_,rfl,m3,by omega,g2',by omega⟩))
      ·exact wpS_pure (hR _ _ ⟨sg34,_,_,_,_,_,_,rfl,m3,by omega,g2',by omega⟩)
     clear ej;by_cases z2:k2 > 0
     ·refine aR z2 ?_;have m3:LM a.toList b.toList (o'.push vb++b.extract (j+1) (j+1+k2)).toList i' (j+1+k2):=by
       rw[Cp,jO];exact(m2.swap.a ub k2 fun x hx y hy=>by have:=hlo2 x hx;have:=val y hy;omega).swap
      by_cases d2:(j+1+k2 == b.size)=true
      ·refine aR d2 ?_;exact wpS_pure (hR _ _ (.inl ⟨_,_,rfl,dn _ _ _ _ sg34 m3 (by simpa using d2)⟩))
      refine aP d2 ?_;have d2':j+1+k2≠b.size:=by simpa using d2
      exact hj _ _ m3 (by omega) hhi2 (by omega)
     ·refine aP z2 ?_;have:k2=0:=by omega
      subst this;exact hj _ _ m2 (by omega) hhi2 (by omega)
    clear ej;by_cases z:k > 0
    ·refine aR z ?_;have m2:LM a.toList b.toList (o++a.extract i (i+k)).toList (i+k) j:=by
      rw[Cp,jO];exact lm.a ua k fun x hx y hy=>by have:=hlo x hx;have:=vbl y hy;omega
     by_cases d1:(i+k+1 == a.size)=true
     ·refine aR d1 ?_;exact wpS_pure (hR _ _ (.inl ⟨_,_,rfl,ls _ _ _ _ sg34 m2 (by simpa using d1)⟩))
     refine aP d1 ?_;have d1':i+k+1≠a.size:=by simpa using d1
     by_cases d2:(i+k == a.size)=true
     ·exfalso;have d2':i+k=a.size:=by simpa using d2
      obtain⟨vl,hvl,_⟩:=atA (a.size-1) (by omega)
      have h1:=kt (a.size-1-i) (by omega)
      rw[kI (show a.toList[i+(a.size-1-i)]?=some vl by rw[show i+(a.size-1-i)=a.size-1 by omega];exact hvl)]at h1
      have h2:=hst vb vl (BF hvb) hvl;simp only[DU,decide_eq_false_iff_not]at h1;omega
     refine aP d2 ?_;have d2':i+k≠a.size:=by simpa using d2
     exact hj _ _ m2 (by omega) (fun y hy=>DF (hhi y hy)) (by omega)
    ·refine aP z ?_;have:k=0:=by omega
     subst this;exact hj _ _ lm g1 (fun y hy=>DF (hhi y hy)) (by omega)
end PyProof.Rows
namespace PyProof.Rows
open PySem
local macro_rules | `(tactic| walk_at "mergeHi") => do
 let n:=Lean.mkIdent (Lean.mkPrivateNameCore `PySem.Builtin.List.W1All `PySem.Builtin.mergeHi)
 `(tactic| delta $n)
local macro_rules | `(tactic| walk_at "st") => `(tactic| try dsimp -zeta -zetaHave only)
local macro_rules | `(tactic| walk_at "l3") => `(tactic| (extract_lets -underBinder +onlyGivenNames a b c; subst a b c))
local macro_rules | `(tactic| walk_at "l11") => `(tactic| (extract_lets -underBinder +onlyGivenNames a b c d e f g h i j k; subst a b c d e f g h i j k; dsimp -zeta -zetaHave only))
variable{prog:Program}{w:World}{A:Around}{E:Value->Shared->Prop}{s:Shared}
structure LH(P R o:List Keyed)(i j:Nat):Prop where
 pm:o.Perm (P.drop i++R.drop j)
 up:Upl o
 la:∀ x∈P.take i,∀ y∈o,ky x<=ky y
 lb:∀ x∈R.take j,∀ y∈o,ky x<=ky y
theorem LH.swap{P R o:List Keyed}{i j:Nat}(h:LH P R o i j):LH R P o j i:=⟨h.pm.trans CF,h.up,h.lb,h.la⟩
theorem yB(P:List Keyed){i i':Nat}(h:i'<=i)(hi:i<=P.length):P.drop i'=(P.take i).drop i'++P.drop i:=by
 have e:=congrArg (List.drop i') (Cj i P);rw[FN,BV,show i'-min i P.length=0 by omega,EI]at e
 exact e.symm
theorem LH.a{P R o:List Keyed}{i j:Nat}(h:LH P R o i j)(u:Upl P){i':Nat}(hi':i'<=i)(hi:i<=P.length)(c:∀ x∈R.take j,∀ y∈(P.take i).drop i',ky x<=ky y):LH P R ((P.take i).drop i'++o) i' j where
 pm:=by
  rw[yB P hi' hi,Ca];exact DB _ h.pm
 up:=CP.mpr ⟨(u.take).drop,h.up,fun x hx y hy=>h.la x (CV hx) y hy⟩
 la:=fun x hx y hy=>by
  have e:P.take i'=(P.take i).take i':=by rw[Es,De hi']
  rw[e]at hx;rcases BN.mp hy with hy | hy
  ·have z:Upl ((P.take i).take i'++(P.take i).drop i'):=by rw[Cj];exact u.take
   exact(CP.mp z).2.2 x hx y hy
  ·exact h.la x (CM hx) y hy
 lb:=fun x hx y hy=>by
  rcases BN.mp hy with hy | hy
  ·exact c x hx y hy
  ·exact h.lb x hx y hy
theorem my{P:List Keyed}{i:Nat}{x:Keyed}(h:P[i]?=some x):(P.take (i+1)).drop i = [x]:=by
 have hi:=(BB.mp h).1;rw[EJ,show i+1-i=1 by omega]
 exact eO h
theorem LH.a1{P R o:List Keyed}{i j:Nat}{x:Keyed}(h:LH P R o (i+1) j)(u:Upl P)(hx:P[i]?=some x)(c:∀ y∈R.take j,ky y<=ky x):LH P R (x::o) i j:=by
 have hi:=(BB.mp hx).1;have:=h.a u (i':=i) (by omega) (by omega) (by rw[my hx];intro y hy z hz;rw[BR.mp hz];exact c y hy)
 rwa[my hx]at this
theorem LH.fin{P R o:List Keyed}{i j:Nat}(h:LH P R o i j)(u:Upl P)(v:Upl R)(c:∀ x∈P.take i,∀ y∈R.take j,ky x<=ky y):(P.take i++R.take j++o).Perm (P++R)/\Upl (P.take i++R.take j++o):=by
 constructor
 ·refine(DB _ h.pm).trans ?_;have e:P++R=(P.take i++P.drop i)++(R.take j++R.drop j):=by rw[Cj,Cj]
  rw[e,← Ca,← Ca];refine List.Perm.append_right _ ?_;rw[Ca,Ca];exact DB _ CF
 ·refine CP.mpr ⟨CP.mpr ⟨u.take,v.take,c⟩,h.up,fun x hx y hy=>?_⟩;rcases BN.mp hx with hx | hx
  ·exact h.la x hx y hy
  ·exact h.lb x hx y hy
theorem iM{P:List Keyed}{i:Nat}{x:Keyed}(u:Upl P)(hx:P[i]?=some x):∀ y∈P.take (i+1),ky y<=ky x:=fun y hy=>by
 obtain⟨m,hm,e⟩:=Fq hy;rw[BV]at hm;rw[E6]at e;exact uq u (i:=m) (by rw[BA (by omega),e]) hx (by omega)
theorem fR_lo'{P:List Keyed}{k:Nat}{v:Keyed}(h:∀ m,m<k->fR P 0 v m=true):∀ x∈P.take k,ky x<=ky v:=Bi (P:=P) (i:=0) h
theorem fL_lo'{P:List Keyed}{k:Nat}{v:Keyed}(h:∀ m,m<k->fL P 0 v m=true):∀ x∈P.take k,ky x<ky v:=Bk (P:=P) (i:=0) h
theorem rF{P:List Keyed}{i k:Nat}{y:Keyed}(h:y∈(P.take i).drop k):∃ m,k<=m/\m<i/\P[m]?=some y:=by
 rw[EJ]at h;obtain⟨m,hm,e⟩:=vN h;exact⟨k+m,by omega,by omega,e⟩
theorem fR_hi'{P:List Keyed}{k n:Nat}{v:Keyed}(h:∀ m,k<=m->m<n->fR P 0 v m=false):∀ y∈(P.take n).drop k,ky v<ky y:=fun y hy=>by
 obtain⟨m,h1,h2,e⟩:=rF hy;have:=h m h1 h2;rw[kI (show P[0+m]?=some y by rw[Nat.zero_add];exact e)]at this
 simpa using this
theorem fL_hi'{P:List Keyed}{k n:Nat}{v:Keyed}(h:∀ m,k<=m->m<n->fL P 0 v m=false):∀ y∈(P.take n).drop k,ky v<=ky y:=fun y hy=>by
 obtain⟨m,h1,h2,e⟩:=rF hy;have:=h m h1 h2;rw[lh (show P[0+m]?=some y by rw[Nat.zero_add];exact e)]at this
 simp only[decide_eq_false_iff_not]at this;omega
theorem jw(a:Array Keyed)(i:Nat):(a.extract 0 i).toList=a.toList.take i:=by
 rw[DS,Eu];rfl
theorem mM(a:Array Keyed)(i k:Nat):(a.extract k i).toList=(a.toList.take i).drop k:=by
 rw[DS,Eu,EJ]
noncomputable def rv(o:Array Keyed):List Keyed:=o.toList.reverse
theorem lT(o:Array Keyed)(x:Keyed):rv (o.push x)=x::rv o:=by unfold rv;rw[El,List.reverse_append];rfl
theorem zh(o p:Array Keyed):rv (o++p.reverse)=p.toList++rv o:=by unfold rv;rw[Cp,List.reverse_append,Ep,List.reverse_reverse]
noncomputable def rD:Array Keyed->Array Keyed->StateT SortSt Sem (Array Keyed):=sortPriv% PySem.Builtin.mergeHi
theorem oZ{st:SortSt}{a b:Array Keyed}{Q:Array Keyed->SortSt->Prop}(hk:kindOf st=oneType')(ua:Upl a.toList)(ub:Upl b.toList)(ia:∀ x∈a.toList,IntP x)(ib:∀ x∈b.toList,IntP x)(a1:1<=a.size)(b1:1<=b.size)
  (h0:∀ x y:Keyed,b.toList[0]?=some x->y∈a.toList->ky x<ky y) (hst:∀ x y:Keyed,x∈b.toList->a.toList[a.size-1]?=some y->ky x<ky y)
  (h:∀ R st',SmG st st'->R.toList.Perm (a.toList++b.toList)->Upl R.toList->Q R st'):wpS (model prog w) A E s (rD a b) Q st:=by
 unfold rD;walk_at "mergeHi";have la:a.toList.length=a.size:=by simp
 have lb:b.toList.length=b.size:=by simp
 have atA:∀ i,i<a.size->∃ x,a.toList[i]?=some x/\IntP x:=fun i hi=>⟨_,BA (by omega),ia _ (CO _)⟩
 have atB:∀ i,i<b.size->∃ x,b.toList[i]?=some x/\IntP x:=fun i hi=>⟨_,BA (by omega),ib _ (CO _)⟩
 have dn:∀(o:Array Keyed)(i j:Nat)(st':SortSt),SmG st st'->LH a.toList b.toList (rv o) i j->i=0∨j=0->Q (a.extract 0 i++b.extract 0 j++o.reverse) st':=by
  intro o i j st' sg lm e
  obtain⟨g1,g2⟩:=lm.fin ua ub (by
   rcases e with e | e
   ·subst e;intro x hx;cases hx
   ·subst e;intro x _ y hy;cases hy)
  refine h _ st' sg ?_ ?_
  ·rw[Cp,Cp,jw,jw,Ep];exact g1
  ·rw[Cp,Cp,jw,jw,Ep];exact g2
 have ls:∀(o:Array Keyed)(i j:Nat)(st':SortSt),SmG st st'->LH a.toList b.toList (rv o) i j->j=1->Q (b.extract 0 j++a.extract 0 i++o.reverse) st':=by
  intro o i j st' sg lm e;subst e;obtain⟨z,hz,_⟩:=atB 0 (by omega)
  have nb:b.toList.take 1 = [z]:=eO (P:=b.toList) (i:=0) hz
  obtain⟨g1,g2⟩:=lm.swap.fin ub ua (by
   rw[nb];intro x hx y hy;rw[BR.mp hx]
   exact DF (h0 z y hz (CM hy)))
  refine h _ st' sg ?_ ?_
  ·rw[Cp,Cp,jw,jw,Ep];exact g1.trans CF
  ·rw[Cp,Cp,jw,jw,Ep];exact g2
 refine wpS_bind (wpS_lift (wpAny_rule ⟨rfl,?_⟩));obtain⟨y0,hy0,iy0⟩:=atA (a.size-1) (by omega)
 walk_at "l3";refine wpS_bind (aY (at_l hy0) ?_)
 have m0:LH a.toList b.toList (rv #[y0]) (a.size-1) b.size:=⟨by
   show[y0].Perm _;rw[Ff (show b.toList.length<=b.size by omega),Dl]
   have e:=my hy0;rw[show a.size-1+1=a.size by omega,Cc (by omega)]at e
   rw[e],Fb ..,fun x hx y hy=>by
   have:y=y0:=BR.mp hy;rw[this];refine iM ua hy0 x ?_;rw[show a.size-1+1=a.size by omega,Cc (by omega)]
   exact CM hx,fun x hx y hy=>by
   have:y=y0:=BR.mp hy;rw[this]
   exact DF (hst x y0 (CM hx) hy0)⟩
 by_cases c1:(a.size-1 == 0)=true
 ·refine aR c1 ?_;exact wpS_pure (dn _ _ _ _ (SmG.rfl' _) m0 (.inl (by simpa using c1)))
 refine aP c1 ?_;have c1':a.size-1≠0:=by simpa using c1
 by_cases c2:(b.size == 1)=true
 ·refine aR c2 ?_;exact wpS_pure (ls _ _ _ _ (SmG.rfl' _) m0 (by simpa using c2))
 refine aP c2 ?_;have c2':b.size≠1:=by simpa using c2
 refine wpS_bind (wpS_get ?_)
 refine wpS_bind (wpS_mono (wpS_forRange (I:=fun x c st'=>SmG st st'/\∃(o:Array Keyed)(i j g:Nat),c=(none,i,j,o,g)/\LH a.toList b.toList (rv o) i j/\1<=i/\i<=a.size/\2<=j/\j<=b.size/\x+1+(i+j)<=a.size+b.size)
  (Q:=fun c st'=>∃(r:Array Keyed)(z:Nat×Nat×Array Keyed×Nat),c=(some r,z)/\Q r st') ?step ?fin ⟨SmG.rfl' _,_,_,_,_,rfl,m0,by omega,by omega,by omega,by omega,by omega⟩) ?post)
 case post =>
  rintro c st' ⟨r,z,rfl,q⟩;exact wpS_pure q
 case fin =>
  rintro c st' ⟨sg,o,i,j,g,rfl,lm,g1,g1',g2,g2',g3⟩;omega
 case step =>
  rintro x c st1 _ hx ⟨sg1,o,i,j,g,rfl,lm,g1,g1',g2,g2',g3⟩
  refine wpS_bind (wpS_mono (wpS_forRange (I:=fun y c st'=>SmG st st'/\∃(o:Array Keyed)(i j ac bc:Nat),c=(none,i,j,o,ac,bc)/\LH a.toList b.toList (rv o) i j/\1<=i/\i<=a.size/\2<=j/\j<=b.size/\x+1+y+(i+j)<=a.size+b.size)
   (Q:=fun c st'=>(∃(r:Array Keyed)(z:Nat×Nat×Array Keyed×Nat×Nat),c=(some r,z)/\Q r st')∨SmG st st'/\∃(o:Array Keyed)(i j ac bc:Nat),c=(none,i,j,o,ac,bc)/\LH a.toList b.toList (rv o) i j/\1<=i/\i<=a.size/\2<=j/\j<=b.size/\x+2+(i+j)<=a.size+b.size) ?istep ?ifin ⟨sg1,o,i,j,0,0,rfl,lm,g1,g1',g2,g2',by omega⟩) ?ipost)
  case ifin =>
   rintro c st' ⟨sg,o,i,j,ac,bc,rfl,lm,g1,g1',g2,g2',g3⟩;exact .inr ⟨sg,o,i,j,ac,bc,rfl,lm,g1,g1',g2,g2',by omega⟩
  case istep =>
   rintro y c st2 _ hy ⟨sg2,o,i,j,ac,bc,rfl,lm,g1,g1',g2,g2',g3⟩;obtain⟨vb,hvb,ivb⟩:=atB (j-1) (by omega)
   obtain⟨va,hva,iva⟩:=atA (i-1) (by omega)
   have ei:i-1+1=i:=by omega
   have ej:j-1+1=j:=by omega
   dsimp only;refine wpS_bind (aY (at_l hvb) (wpS_bind (aY (at_l hva) (wpS_bind (lG (sg2.k.trans hk) ivb iva ?_)))));by_cases c:ky vb<ky va
   ·rw[decide_eq_true c];dsimp only;refine aR rfl ?_;refine wpS_bind (aY (at_l hva) ?_);have m2:LH a.toList b.toList (rv (o.push va)) (i-1) j:=by
     rw[lT];exact LH.a1 (by rw[ei];exact lm) ua hva fun z hz=>by
      have:=iM ub hvb z (by rw[ej];exact hz)
      omega
    by_cases d1:(i-1 == 0)=true
    ·refine aR d1 ?_;exact wpS_pure (.inl ⟨_,_,rfl,dn _ _ _ _ sg2 m2 (.inl (by simpa using d1))⟩)
    ·refine aP d1 ?_;have d1':i-1≠0:=by simpa using d1
     split
     ·exact wpS_pure (.inr ⟨sg2,_,_,_,_,_,rfl,m2,by omega,by omega,g2,g2',by omega⟩)
     ·exact wpS_pure ⟨sg2,_,_,_,_,_,rfl,m2,by omega,by omega,g2,g2',by omega⟩
   ·rw[decide_eq_false c];dsimp only;refine aP Cf ?_;refine wpS_bind (aY (at_l hvb) ?_);have m2:LH a.toList b.toList (rv (o.push vb)) i (j-1):=by
     rw[lT]
     exact(LH.a1 (by rw[ej];exact lm.swap) ub hvb fun z hz=>by
      have:=iM ua hva z (by rw[ei];exact hz)
      omega).swap
    by_cases d1:(j-1 == 1)=true
    ·refine aR d1 ?_;exact wpS_pure (.inl ⟨_,_,rfl,ls _ _ _ _ sg2 m2 (by simpa using d1)⟩)
    ·refine aP d1 ?_;have d1':j-1≠1:=by simpa using d1
     split
     ·exact wpS_pure (.inr ⟨sg2,_,_,_,_,_,rfl,m2,g1,g1',by omega,by omega,by omega⟩)
     ·exact wpS_pure ⟨sg2,_,_,_,_,_,rfl,m2,g1,g1',by omega,by omega,by omega⟩
  case ipost =>
   rintro c st2 (⟨r,z,rfl,q⟩ | ⟨sg2,o,i,j,ac,bc,rfl,lm,g1,g1',g2,g2',g3⟩)
   ·exact wpS_pure ⟨_,_,rfl,q⟩
   dsimp -zeta -zetaHave only;refine wpS_bind (wpS_lift (wpAny_rule ⟨rfl,?_⟩))
   refine wpS_bind (wpS_mono (wpS_forRange (I:=fun y c st'=>SmG st st'/\∃(o:Array Keyed)(i j g ac bc:Nat),c=(none,i,j,o,g,ac,bc)/\LH a.toList b.toList (rv o) i j/\1<=i/\i<=a.size/\2<=j/\j<=b.size/\x+2+(i+j)<=a.size+b.size)
    (Q:=fun c st'=>(∃(r:Array Keyed)(z:Nat×Nat×Array Keyed×Nat×Nat×Nat),c=(some r,z)/\Q r st')∨SmG st st'/\∃(o:Array Keyed)(i j g ac bc:Nat),c=(none,i,j,o,g,ac,bc)/\LH a.toList b.toList (rv o) i j/\1<=i/\i<=a.size/\2<=j/\j<=b.size/\x+2+(i+j)<=a.size+b.size) ?jstep ?jfin ⟨sg2,o,i,j,_,ac,bc,rfl,lm,g1,g1',g2,g2',g3⟩) ?jpost)
   case jfin=>exact fun c st' q=>.inr q
   case jpost =>
    rintro c st3 (⟨r,z,rfl,q⟩ | ⟨sg3,o,i,j,g,ac,bc,rfl,lm,g1,g1',g2,g2',g3⟩)
    ·exact wpS_pure ⟨_,_,rfl,q⟩
    dsimp only;exact wpS_bind (jH fun st4 sg4=>wpS_pure ⟨sg3.trans sg4,_,_,_,_,rfl,lm,g1,g1',g2,g2',by omega⟩)
   case jstep =>
    rintro y c st3 _ hy ⟨sg3,o,i,j,g,ac,bc,rfl,lm,g1,g1',g2,g2',g3⟩;walk_at "st";walk_at "l11";extract_lets -underBinder +onlyGivenNames jp;clear_value (ej:jp=_);refine o5 fun R hR=>?_;refine zC (F:=fun z=>jp () z) fun g'=>?_;rw[ej];clear ej jp;walk_at "st";refine wpS_bind (jH fun st4 sg4=>?_);have sg34:=sg3.trans sg4;have k4:=sg34.k.trans hk;have ej1:j-1+1=j:=by omega
    obtain⟨vb,hvb,ivb⟩:=atB (j-1) (by omega)
    refine wpS_bind (aY (at_l hvb) ?_);refine wpS_bind (qI k4 ivb ua ia (by omega) (by omega) fun k kn kt kf=>?_)
    walk_at "st";extract_lets -underBinder +onlyGivenNames kk ac jp;subst kk ac;clear_value (ej:jp=_);have vbl:=iM ub hvb;rw[ej1]at vbl;have hlo:=fR_lo' kt;have hhi:=fR_hi' kf;have hj:∀(i':Nat)(o':Array Keyed),LH a.toList b.toList (rv o') i' j->1<=i'->i'<=a.size->(∀ y∈a.toList.take i',ky y<=ky vb)->x+2+(i'+j)<=a.size+b.size->wpS (model prog w) A E s (jp () i' o') R st4:=by
     intro i' o' lm' q1 q1' gv g3';rw[ej];clear ej jp;walk_at "st";refine wpS_bind (aY (at_l hvb) ?_);have m2:LH a.toList b.toList (rv (o'.push vb)) i' (j-1):=by
      rw[lT];exact(LH.a1 (by rw[ej1];exact lm'.swap) ub hvb gv).swap
     by_cases d1:(j-1 == 1)=true
     ·refine aR d1 ?_;exact wpS_pure (hR _ _ (.inl ⟨_,_,rfl,ls _ _ _ _ sg34 m2 (by simpa using d1)⟩))
     refine aP d1 ?_;have d1':j-1≠1:=by simpa using d1
     have ei1:i'-1+1=i':=by omega
     obtain⟨va,hva,iva⟩:=atA (i'-1) (by omega)
     have val:=iM ua hva;rw[ei1]at val;refine wpS_bind (aY (at_l hva) ?_);refine wpS_bind (qJ k4 iva ub ib (by omega) (by omega) fun k2 kn2 kt2 kf2=>?_)
     walk_at "st";extract_lets -underBinder +onlyGivenNames kk ac jp;subst kk ac;clear_value (ej:jp=_);have hlo2:=fL_lo' kt2;have hhi2:=fL_hi' kf2;have hj:∀(j':Nat)(o':Array Keyed),LH a.toList b.toList (rv o') i' j'->2<=j'->j'<=b.size->(∀ y∈b.toList.take j',ky y<=ky va)->x+2+(i'+j')<=a.size+b.size->wpS (model prog w) A E s (jp () j' o') R st4:=by
      intro j' o' lm2 q2 q2' gv' g3'';rw[ej];clear ej jp;walk_at "st";refine wpS_bind (aY (at_l hva) ?_);have m3:LH a.toList b.toList (rv (o'.push va)) (i'-1) j':=by
       rw[lT];exact LH.a1 (by rw[ei1];exact lm2) ua hva gv'
      by_cases d2:(i'-1 == 0)=true
      ·refine aR d2 ?_;exact wpS_pure (hR _ _ (.inl ⟨_,_,rfl,dn _ _ _ _ sg34 m3 (.inl (by simpa using d2))⟩))
      refine aP d2 ?_;have d2':i'-1≠0:=by simpa using d2
      split
      ·exact wpS_pure (hR _ _ (.inr ⟨sg34,_,_,_,_,_,_,rfl,m3,by omega,by omega,q2,q2',by omega⟩))
      ·exact wpS_pure (hR _ _ ⟨sg34,_,_,_,_,_,_,rfl,m3,by omega,by omega,q2,q2',by omega⟩)
     clear ej;by_cases z2:j-1-k2 > 0
     ·refine aR z2 ?_;have m3:LH a.toList b.toList (rv (o'.push vb++(b.extract k2 (j-1)).reverse)) i' k2:=by
       rw[zh,mM];exact(m2.swap.a ub (by omega) (by omega) fun x hx y hy=>by have:=hhi2 y hy;have:=val x hx;omega).swap
      by_cases d2:(k2 == 1)=true
      ·refine aR d2 ?_;exact wpS_pure (hR _ _ (.inl ⟨_,_,rfl,ls _ _ _ _ sg34 m3 (by simpa using d2)⟩))
      refine aP d2 ?_;have d2':k2≠1:=by simpa using d2
      by_cases d3:(k2 == 0)=true
      ·refine aR d3 ?_;exact wpS_pure (hR _ _ (.inl ⟨_,_,rfl,dn _ _ _ _ sg34 m3 (.inr (by simpa using d3))⟩))
      refine aP d3 ?_;have d3':k2≠0:=by simpa using d3
      exact hj _ _ m3 (by omega) (by omega) (fun y hy=>DF (hlo2 y hy)) (by omega)
     ·refine aP z2 ?_;have:k2=j-1:=by omega
      subst this;exact hj _ _ m2 (by omega) (by omega) (fun y hy=>DF (hlo2 y hy)) (by omega)
    clear ej;by_cases z:i-k > 0
    ·refine aR z ?_;have m2:LH a.toList b.toList (rv (o++(a.extract k i).reverse)) k j:=by
      rw[zh,mM];exact lm.a ua (by omega) (by omega) fun x hx y hy=>by have:=hhi y hy;have:=vbl x hx;omega
     by_cases d1:(k == 0)=true
     ·refine aR d1 ?_;exact wpS_pure (hR _ _ (.inl ⟨_,_,rfl,dn _ _ _ _ sg34 m2 (.inl (by simpa using d1))⟩))
     refine aP d1 ?_;have d1':k≠0:=by simpa using d1
     exact hj _ _ m2 (by omega) (by omega) hlo (by omega)
    ·refine aP z ?_;have:k=i:=by omega
     subst this;exact hj _ _ lm g1 g1' hlo (by omega)
end PyProof.Rows
namespace PyProof.Rows
open PySem
local macro_rules | `(tactic| walk_at "countRun") => do
 let n:=Lean.mkIdent (Lean.mkPrivateNameCore `PySem.Builtin.List.W1All `PySem.Builtin.countRun)
 `(tactic| delta $n)
local macro_rules | `(tactic| walk_at "binarySort") => do
 let n:=Lean.mkIdent (Lean.mkPrivateNameCore `PySem.Builtin.List.W1All `PySem.Builtin.binarySort)
 `(tactic| delta $n)
local macro_rules | `(tactic| walk_at "st") => `(tactic| try dsimp -zeta -zetaHave only)
local macro_rules | `(tactic| walk_at "l3") => `(tactic| (extract_lets -underBinder +onlyGivenNames a b c; subst a b c))
local macro_rules | `(tactic| walk_at "l11") => `(tactic| (extract_lets -underBinder +onlyGivenNames a b c d e f g h i j k; subst a b c d e f g h i j k; dsimp -zeta -zetaHave only))
local macro_rules | `(tactic| walk_at "l1") => `(tactic| (extract_lets -underBinder +onlyGivenNames a; subst a; try dsimp -zeta -zetaHave only))
local macro_rules | `(tactic| walk_at "l2") => `(tactic| (extract_lets -underBinder +onlyGivenNames a b; subst a b; try dsimp -zeta -zetaHave only))
local macro_rules | `(tactic| walk_at "l4") => `(tactic| (extract_lets -underBinder +onlyGivenNames a b c d; subst a b c d; try dsimp -zeta -zetaHave only))
variable{prog:Program}{w:World}{A:Around}{E:Value->Shared->Prop}{s:Shared}
structure SB(lo:Nat)(st0 st:SortSt):Prop where
 perm:(arrOf st).Perm (arrOf st0)
 kind:kindOf st=oneType'
 failed:failedOf st=failedOf st0
 pend:pendingOf st=pendingOf st0
 low:∀ i,i<lo->(arrOf st)[i]?=(arrOf st0)[i]?
theorem SB.set{lo:Nat}{st0 st:SortSt}(h:SB lo st0 st){xs:Array Keyed}(hp:xs.Perm (arrOf st))(hl:∀ i,i<lo->xs[i]?=(arrOf st)[i]?):SB lo st0 (setArr st xs) :=
 ⟨hp.trans h.perm,h.kind,h.failed,h.pend,fun i hi=>(hl i hi).trans (h.low i hi)⟩
theorem SB.size{lo:Nat}{st0 st:SortSt}(h:SB lo st0 st):(arrOf st).size=(arrOf st0).size:=h.perm.size_eq
noncomputable def Sin(xs:Array Keyed)(lo n:Nat):Prop:=∀ i j,lo<=i->i<=j->j<lo+n->K xs i<=K xs j
noncomputable def Nin(xs:Array Keyed)(lo n:Nat):Prop:=∀ i j,lo<=i->i<=j->j<lo+n->K xs j<=K xs i
theorem iL{lo:Nat}{st0 st:SortSt}{i j:Nat}{Q:Option Bool->SortSt->Prop}(hB:SB lo st0 st)(h0:IntKeys (arrOf st0))(hi:i<(arrOf st0).size)(hj:j<(arrOf st0).size)
  (h:Q (some (decide (K (arrOf st) i<K (arrOf st) j))) st):wpS (model prog w) A E s ((sortPriv% PySem.Builtin.ltAt) i j) Q st:=by
 have at':∀ i,i<(arrOf st0).size->∃ t q,(arrOf st)[i]?=some (.int (K (arrOf st) i) t,q):=fun i hi=>by
  have hi':i<(arrOf st).size:=by rw[hB.size];exact hi
  obtain⟨n,t,hn⟩:=h0 (arrOf st)[i] ((EW.mp hB.perm).mem_iff.mp (by simp))
  have e:(arrOf st)[i]?=some (arrOf st)[i]:=getElem?_pos _ i hi';refine⟨t,(arrOf st)[i].2,?_⟩;unfold K;rw[e];show some (arrOf st)[i]=some (.int (numOf (arrOf st)[i].1) t,(arrOf st)[i].2);rw[hn];exact congrArg some (Prod.ext hn rfl)
 obtain⟨t,p,e1⟩:=at' i hi;obtain⟨u,q,e2⟩:=at' j hj;exact wpS_ltAt hB.kind e1 e2 h
theorem jI{lo:Nat}{st0 st:SortSt}{i j:Nat}{Q:Unit->SortSt->Prop}(hB:SB lo st0 st)(hl:lo<=i)(hj:j<=(arrOf st0).size)(h:∀ st',SB lo st0 st'->(∀ k,K (arrOf st') k=if i<=k/\k<j then K (arrOf st) (i+j-1-k) else K (arrOf st) k)->Q () st') :
  wpS (model prog w) A E s ((sortPriv% PySem.Builtin.reverseSlice) i j) Q st:=by
 have hj':j<=(arrOf st).size:=by rw[hB.size];exact hj
 refine wpS_reverse (h _ (hB.set (mirror_perm _ _ _ _) fun k hk=>?_) fun k=>K_mirror hj' k);rw[getElem?_mirror_all hj',if_neg (by omega)]
theorem Ai(xs:Array Keyed)(lo:Nat):Sin xs lo 1:=fun i j h1 h2 h3=>by
 have:i=j:=by omega
 rw[this];exact Eb _
theorem zf{xs:Array Keyed}{lo n:Nat}(h:Sin xs lo n)(n1:1<=n)(c:¬ K xs (lo+n)<K xs (lo+n-1)):Sin xs lo (n+1):=fun i j h1 h2 h3=>by
 by_cases z:j<lo+n
 ·exact h i j h1 h2 z
 ·have ej:j=lo+n:=by omega
  by_cases zi:i=j
  ·rw[zi];exact Eb _
  ·have:=h i (lo+n-1) h1 (by omega) (by omega)
   rw[ej];omega
theorem rm{xs:Array Keyed}{lo n:Nat}(h:Nin xs lo n)(n1:1<=n)(c:K xs (lo+n)<=K xs (lo+n-1)):Nin xs lo (n+1):=fun i j h1 h2 h3=>by
 by_cases z:j<lo+n
 ·exact h i j h1 h2 z
 ·have ej:j=lo+n:=by omega
  by_cases zi:i=j
  ·rw[zi];exact Eb _
  ·have:=h i (lo+n-1) h1 (by omega) (by omega)
   rw[ej];omega
noncomputable def oz:Nat->Nat->StateT SortSt Sem (Option Nat):=sortPriv% PySem.Builtin.countRun
theorem rY{st0:SortSt}{lo nrem:Nat}{Q:Option Nat->SortSt->Prop}(hk:kindOf st0=oneType')(h0:IntKeys (arrOf st0))(hn:lo+nrem<=(arrOf st0).size)(n1:1<=nrem)
  (h:∀ m st',SB lo st0 st'->1<=m->m<=nrem->Sin (arrOf st') lo m->Q (some m) st'):wpS (model prog w) A E s (oz lo nrem) Q st0:=by
 have hB:SB lo st0 st0:=⟨Array.Perm.refl _,hk,rfl,rfl,fun _ _=>rfl⟩;unfold oz;walk_at "countRun"
 refine wpS_bind (wpS_mono (wpS_forRange (I:=fun x c st'=>st'=st0/\c=(none,x)/\Sin (arrOf st0) lo x)
  (Q:=fun c st'=>st'=st0/\∃ n,c=(none,n)/\1<=n/\n<=nrem/\Sin (arrOf st0) lo n/\(n=nrem∨K (arrOf st0) (lo+n)<K (arrOf st0) (lo+n-1))) ?step ?fin ⟨rfl,rfl,Ai _ _⟩) ?post)
 case fin =>
  rintro c st' ⟨rfl,rfl,hs⟩;rw[show max 1 nrem=nrem by omega]at hs ⊢
  exact⟨rfl,nrem,rfl,n1,BI _,hs,.inl rfl⟩
 case step =>
  rintro x c st' h1 h2 ⟨rfl,rfl,hs⟩;dsimp only;refine wpS_bind (iL hB h0 (by omega) (by omega) ?_)
  by_cases z:K (arrOf st') (lo+x)<K (arrOf st') (lo+x-1)
  ·simp only[z,decide_true,if_true];exact wpS_pure ⟨rfl,x,rfl,h1,by omega,hs,.inr z⟩
  ·simp only[z,decide_false,DC,if_false];exact wpS_pure ⟨rfl,rfl,zf hs h1 z⟩
 case post =>
  rintro c st' ⟨rfl,n,rfl,g1,g2,hs,hor⟩;walk_at "st";walk_at "l2";by_cases z:(n == nrem)=true
  ·refine aR z ?_;exact wpS_pure (h n st' hB g1 g2 hs)
  refine aP z ?_;have z':n≠nrem:=by simpa using z
  have hlt:=hor.resolve_left z';extract_lets -underBinder +onlyGivenNames jp;clear_value (ej:jp=_);have hj:∀ st1,SB lo st' st1->Nin (arrOf st1) lo (n+1)->wpS (model prog w) A E s (jp ()) Q st1:=by
   intro st1 hB1 hs1;rw[ej];clear ej jp;walk_at "st";refine wpS_bind (wpS_lift (wpAny_rule ⟨rfl,?_⟩))
   refine wpS_bind (wpS_mono (wpS_forRange (I:=fun x c st2=>SB lo st' st2/\∃ neq,c=(none,x,neq)/\Nin (arrOf st2) lo x/\neq+1<=x/\(∀ i,lo+x-(neq+1)<=i->i<lo+x->K (arrOf st2) i=K (arrOf st2) (lo+x-1)))
    (Q:=fun c st2=>SB lo st' st2/\∃ m neq,c=(none,m,neq)/\1<=m/\m<=nrem/\Nin (arrOf st2) lo m/\neq+1<=m/\(∀ i,lo+m-(neq+1)<=i->i<lo+m->K (arrOf st2) i=K (arrOf st2) (lo+m-1))) ?dstep ?dfin ⟨hB1,0,rfl,hs1,by omega,fun i h1 h2=>by congr 1;omega⟩) ?dpost)
   case dfin =>
    rintro c st2 ⟨hB2,neq,rfl,hs2,q1,q2⟩;rw[show max (n+1) nrem=nrem by omega]at hs2 q1 q2 ⊢
    exact⟨hB2,nrem,neq,rfl,by omega,BI _,hs2,q1,q2⟩
   case dstep =>
    rintro x c st2 h1 h2 ⟨hB2,neq,rfl,hs2,q1,q2⟩;dsimp only;refine wpS_bind (iL hB2 h0 (by omega) (by omega) ?_)
    by_cases z:K (arrOf st2) (lo+x)<K (arrOf st2) (lo+x-1)
    ·simp only[z,decide_true,if_true];have nx:=rm hs2 (by omega) (DF z)
     by_cases y:neq > 0
     ·refine aR y ?_;refine wpS_bind (jI hB2 (by omega) (by omega) fun st3 hB3 e3=>?_)
      have e3':∀ k,K (arrOf st3) k=K (arrOf st2) k:=fun k=>by
       rw[e3];split
       ·rename_i hk;rw[q2 _ (by omega) (by omega),q2 k (by omega) (by omega)]
       ·rfl
      refine wpS_pure ⟨hB3,0,rfl,fun i j a1 a2 a3=>?_,by omega,fun i h1 h2=>by congr 1;omega⟩
      rw[e3',e3'];exact nx i j a1 a2 a3
     ·refine aP y ?_;exact wpS_pure ⟨hB2,0,rfl,nx,by omega,fun i h1 h2=>by congr 1;omega⟩
    ·simp only[z,decide_false,DC,if_false];refine wpS_bind (iL hB2 h0 (by omega) (by omega) ?_)
     by_cases y:K (arrOf st2) (lo+x-1)<K (arrOf st2) (lo+x)
     ·simp only[y,decide_true,if_true];exact wpS_pure ⟨hB2,x,neq,rfl,by omega,by omega,hs2,q1,q2⟩
     ·simp only[y,decide_false,DC,if_false];have eq:K (arrOf st2) (lo+x)=K (arrOf st2) (lo+x-1):=by omega
      refine wpS_pure ⟨hB2,neq+1,rfl,rm hs2 (by omega) (by omega),by omega,fun i a1 a2=>?_⟩
      rw[show lo+(x+1)-1=lo+x by omega]
      by_cases ix:i=lo+x
      ·rw[ix]
      ·rw[eq];exact q2 i (by omega) (by omega)
   case dpost =>
    rintro c st2 ⟨hB2,m,neq,rfl,m1,m2,hs2,q1,q2⟩;walk_at "st";walk_at "l4";extract_lets -underBinder +onlyGivenNames jp;clear_value (ej:jp=_);have hj:∀ st3,SB lo st' st3->Nin (arrOf st3) lo m->wpS (model prog w) A E s (jp ()) Q st3:=by
     intro st3 hB3 hs3;rw[ej];clear ej jp;walk_at "st";refine wpS_bind (jI hB3 (BI _) (by omega) fun st4 hB4 e4=>?_)
     have hs4:Sin (arrOf st4) lo m:=fun i j a1 a2 a3=>by
      rw[e4,e4,if_pos (by omega),if_pos (by omega)]
      exact hs3 _ _ (by omega) (by omega) (by omega)
     refine wpS_bind (wpS_mono (wpS_forRange (I:=fun x c st'=>st'=st4/\c=(none,x)/\Sin (arrOf st4) lo x) (Q:=fun c st'=>st'=st4/\∃ n,c=(none,n)/\1<=n/\n<=nrem/\Sin (arrOf st4) lo n) ?ustep ?ufin ⟨rfl,rfl,hs4⟩) ?upost)
     case ufin =>
      rintro c st5 ⟨rfl,rfl,hs5⟩;rw[show max m nrem=nrem by omega]at hs5 ⊢
      exact⟨rfl,nrem,rfl,n1,BI _,hs5⟩
     case ustep =>
      rintro x c st5 h1 h2 ⟨rfl,rfl,hs5⟩;dsimp only;refine wpS_bind (iL hB4 h0 (by omega) (by omega) ?_)
      by_cases z:K (arrOf st5) (lo+x)<K (arrOf st5) (lo+x-1)
      ·simp only[z,decide_true,if_true];exact wpS_pure ⟨rfl,x,rfl,by omega,by omega,hs5⟩
      ·simp only[z,decide_false,DC,if_false];exact wpS_pure ⟨rfl,rfl,zf hs5 (by omega) z⟩
     case upost =>
      rintro c st5 ⟨rfl,k,rfl,k1,k2,hs5⟩;exact wpS_pure (h k st5 hB4 k1 k2 hs5)
    by_cases y:neq > 0
    ·refine aR y ?_;refine wpS_bind (jI hB2 (by omega) (by omega) fun st3 hB3 e3=>hj st3 hB3 fun i j a1 a2 a3=>?_)
     have e3':∀ k,K (arrOf st3) k=K (arrOf st2) k:=fun k=>by
      rw[e3];split
      ·rename_i hk;rw[q2 _ (by omega) (by omega),q2 k (by omega) (by omega)]
      ·rfl
     rw[e3',e3'];exact hs2 i j a1 a2 a3
    ·refine aP y ?_;exact hj st2 hB2 hs2
  by_cases y:n > 1
  ·refine aR y ?_;refine wpS_bind (iL hB h0 (by omega) (by omega) ?_)
   by_cases r:K (arrOf st') lo<K (arrOf st') (lo+n-1)
   ·simp only[r,decide_true,if_true];exact wpS_pure (h n st' hB g1 g2 hs)
   ·simp only[r,decide_false,DC,if_false];have all:∀ k,lo<=k->k<lo+n->K (arrOf st') k=K (arrOf st') (lo+n-1):=fun k a1 a2=>by
     have b1:=hs lo k (BI _) a1 a2;have b2:=hs k (lo+n-1) a1 (by omega) (by omega)
     omega
    refine wpS_bind (jI hB (BI _) (by omega) fun st1 hB1 e1=>hj st1 hB1 ?_)
    have e1':∀ k,K (arrOf st1) k=K (arrOf st') k:=fun k=>by
     rw[e1];split
     ·rename_i hk;rw[all _ (by omega) (by omega),all k (by omega) (by omega)]
     ·rfl
    refine rm (fun i j a1 a2 a3=>?_) (by omega) ?_
    ·rw[e1',e1',all i a1 (by omega),all j (by omega) a3]
     exact Eb _
    ·rw[e1',e1'];exact DF hlt
  ·refine aP y ?_;have:n=1:=by omega
   subst this;refine hj st' hB (rm (fun i j a1 a2 a3=>?_) (by omega) (DF hlt))
   have:i=j:=by omega
   rw[this];exact Eb _
noncomputable def kS:Nat->Nat->Nat->StateT SortSt Sem Bool:=sortPriv% PySem.Builtin.binarySort
theorem xA{st0 st:SortSt}{lo n m:Nat}{Q:Bool->SortSt->Prop}(h0:IntKeys (arrOf st0))(hn:lo+n<=(arrOf st0).size)(hm:m<=n)(hB:SB lo st0 st)(hs:Sin (arrOf st) lo m)
  (h:∀ st',SB lo st0 st'->Sin (arrOf st') lo n->Q true st'):wpS (model prog w) A E s (kS lo n m) Q st:=by
 unfold kS;walk_at "binarySort"
 refine wpS_bind (wpS_mono (wpS_forRange (I:=fun k c st'=>c=(none,())/\SB lo st0 st'/\Sin (arrOf st') lo (min k n))
  (Q:=fun c st'=>c=(none,())/\SB lo st0 st'/\Sin (arrOf st') lo n) ?step ?fin ?init) ?post)
 case post =>
  rintro c st' ⟨rfl,hB',hs'⟩;exact wpS_pure (h st' hB' hs')
 case init =>
  refine⟨rfl,hB,fun i j h1 h2 h3=>?_⟩;by_cases z:m=0
  ·have:i=j:=by omega
   rw[this];exact Eb _
  ·exact hs i j h1 h2 (by omega)
 case fin =>
  rintro c st' ⟨hc,hB',hs'⟩;refine⟨hc,hB',?_⟩;rwa[show min (max (max m 1) n) n=n by omega]at hs'
 case step =>
  rintro k c st' hak hkn ⟨rfl,hB',hs'⟩;rw[show min k n=k by omega]at hs'
  dsimp only
  refine wpS_bind (wpS_mono (wpS_forRange (I:=fun x c st''=>st''=st'/\∃ l r,c=(none,l,r)/\l<=r/\r<=k/\r-l<=k-x /\
    (∀ i,lo<=i->i<lo+l->K (arrOf st') i<=K (arrOf st') (lo+k))/\(∀ i,lo+r<=i->i<lo+k->K (arrOf st') (lo+k)<K (arrOf st') i))
   (Q:=fun c st''=>st''=st'/\∃ l,c=(none,l,l)/\l<=k /\
    (∀ i,lo<=i->i<lo+l->K (arrOf st') i<=K (arrOf st') (lo+k))/\(∀ i,lo+l<=i->i<lo+k->K (arrOf st') (lo+k)<K (arrOf st') i)) ?istep ?ifin ⟨rfl,0,k,rfl,by omega,by omega,by omega,fun i h1 h2=>by omega,fun i h1 h2=>by omega⟩) ?ipost)
  case ifin =>
   rintro c st'' ⟨rfl,l,r,rfl,q1,q2,q3,q4,q5⟩;have:l=r:=by omega
   subst this;exact⟨rfl,l,rfl,q2,q4,q5⟩
  case istep =>
   rintro x c st'' _ hxk ⟨rfl,l,r,rfl,q1,q2,q3,q4,q5⟩;dsimp only;by_cases z:l ≥ r
   ·refine aR z ?_;have:l=r:=by omega
    subst this;exact wpS_pure ⟨rfl,l,rfl,q2,q4,q5⟩
   ·refine aP z ?_;refine wpS_bind (iL hB' h0 (by omega) (by omega) ?_)
    by_cases y:K (arrOf st'') (lo+k)<K (arrOf st'') (lo+(l+r)/2)
    ·simp only[y,decide_true,if_true];refine wpS_pure ⟨rfl,l,(l+r)/2,rfl,by omega,by omega,by omega,q4,fun i h1 h2=>?_⟩
     have:=hs' (lo+(l+r)/2) i (by omega) h1 h2
     omega
    ·simp only[y,decide_false,DC,if_false];refine wpS_pure ⟨rfl,(l+r)/2+1,r,rfl,by omega,by omega,by omega,fun i h1 h2=>?_,q5⟩
     have:=hs' i (lo+(l+r)/2) h1 (by omega) (by omega)
     omega
  case ipost =>
   rintro c st'' ⟨rfl,l,rfl,q1,q2,q3⟩;dsimp only;have hks:lo+k<(arrOf st'').size:=by rw[hB'.size];omega
   have el:lo+k-(lo+k-(lo+l))=lo+l:=by omega
   refine wpS_bind ?_;show wpS _ _ _ _ (moveDown' (lo+k) (lo+l)) _ _;rw[moveDown'_eq];refine wpS_modify (wpS_pure ⟨rfl,hB'.set (bubble_perm _ _ _) fun i hi=>?_,?_⟩)
   ·rw[getElem?_bubble hks _ (by omega),el,if_neg (by omega),if_neg (by omega)]
   ·rw[show min (k+1) n=k+1 by omega]
    intro i j h1 h2 h3;show K (bubble (arrOf st'') (lo+k) (lo+k-(lo+l))) i<=K (bubble (arrOf st'') (lo+k) (lo+k-(lo+l))) j;rw[K_bubble hks (by omega),K_bubble hks (by omega),el]
    repeat' split
    all_goals first
     | (exfalso;omega)
     |exact Eb _
     |exact q2 _ (by omega) (by omega)
     |exact DF (q3 _ (by omega) (by omega))
     |exact hs' _ _ (by omega) (by omega) (by omega)
end PyProof.Rows
namespace PyProof.Rows
open PySem
local macro_rules | `(tactic| walk_at "mergeAt") => do
 let n:=Lean.mkIdent (Lean.mkPrivateNameCore `PySem.Builtin.List.W1All `PySem.Builtin.mergeAt)
 `(tactic| delta $n)
local macro_rules | `(tactic| walk_at "st") => `(tactic| try dsimp -zeta -zetaHave only)
local macro_rules | `(tactic| walk_at "l3") => `(tactic| (extract_lets -underBinder +onlyGivenNames a b c; subst a b c))
local macro_rules | `(tactic| walk_at "l11") => `(tactic| (extract_lets -underBinder +onlyGivenNames a b c d e f g h i j k; subst a b c d e f g h i j k; dsimp -zeta -zetaHave only))
local macro_rules | `(tactic| walk_at "l1") => `(tactic| (extract_lets -underBinder +onlyGivenNames a; subst a; try dsimp -zeta -zetaHave only))
local macro_rules | `(tactic| walk_at "l2") => `(tactic| (extract_lets -underBinder +onlyGivenNames a b; subst a b; try dsimp -zeta -zetaHave only))
local macro_rules | `(tactic| walk_at "l4") => `(tactic| (extract_lets -underBinder +onlyGivenNames a b c d; subst a b c d; try dsimp -zeta -zetaHave only))
variable{prog:Program}{w:World}{A:Around}{E:Value->Shared->Prop}{s:Shared}
theorem nF{P:List Keyed}{i n m:Nat}(hm:m<n):((P.drop i).take n)[m]?=P[i+m]?:=by
 rw[Du,if_pos hm,DP]
theorem zg{P:List Keyed}{i n x y:Nat}{p q:Keyed}(u:Upl ((P.drop i).take n))(hp:P[i+x]?=some p)(hq:P[i+y]?=some q)(h:x<=y)(hy:y<n):ky p<=ky q :=
 uq u (i:=x) (j:=y) (by rw[nF (by omega)];exact hp) (by rw[nF hy];exact hq) h
theorem uj{st:SortSt}{key:Keyed}{arr:Array Keyed}{base n hint:Nat}{Q:Option Nat->SortSt->Prop}(hk:kindOf st=oneType')(hkey:IntP key)(u:Upl ((arr.toList.drop base).take n))(ip:∀ x∈arr.toList,IntP x)(hn:base+n<=arr.size)(hh:hint<n)
  (h:∀ k,k<=n->(∀ i,i<k->fR arr.toList base key i=true)->(∀ i,k<=i->i<n->fR arr.toList base key i=false)->Q (some k) st):wpS (model prog w) A E s ((sortPriv% PySem.Builtin.gallop) false key arr base n hint) Q st:=by
 have la:arr.toList.length=arr.size:=by simp
 refine gh (fR arr.toList base key) hk hkey (fun i hi=>?_) (fun x y hxy hy e=>?_) hh h
 ·have hx:arr.toList[base+i]?=some arr.toList[base+i]:=BA (by omega)
  exact⟨_,by rw[← hx];simp,ip _ (CO _),by rw[kI hx];rfl⟩
 ·have hx:arr.toList[base+x]?=some arr.toList[base+x]:=BA (by omega)
  have hy':arr.toList[base+y]?=some arr.toList[base+y]:=BA (by omega)
  rw[kI hy']at e;rw[kI hx];have:=zg u hx hy' hxy hy;simp only[DU,decide_eq_false_iff_not]at e ⊢;omega
theorem uk{st:SortSt}{key:Keyed}{arr:Array Keyed}{base n hint:Nat}{Q:Option Nat->SortSt->Prop}(hk:kindOf st=oneType')(hkey:IntP key)(u:Upl ((arr.toList.drop base).take n))(ip:∀ x∈arr.toList,IntP x)(hn:base+n<=arr.size)(hh:hint<n)
  (h:∀ k,k<=n->(∀ i,i<k->fL arr.toList base key i=true)->(∀ i,k<=i->i<n->fL arr.toList base key i=false)->Q (some k) st):wpS (model prog w) A E s ((sortPriv% PySem.Builtin.gallop) true key arr base n hint) Q st:=by
 have la:arr.toList.length=arr.size:=by simp
 refine gh (fL arr.toList base key) hk hkey (fun i hi=>?_) (fun x y hxy hy e=>?_) hh h
 ·have hx:arr.toList[base+i]?=some arr.toList[base+i]:=BA (by omega)
  exact⟨_,by rw[← hx];simp,ip _ (CO _),by rw[lh hx];rfl⟩
 ·have hx:arr.toList[base+x]?=some arr.toList[base+x]:=BA (by omega)
  have hy':arr.toList[base+y]?=some arr.toList[base+y]:=BA (by omega)
  rw[lh hy']at e;rw[lh hx];have:=zg u hx hy' hxy hy;simp only[decide_eq_true_eq]at e ⊢;omega
theorem vO{P:List Keyed}{i n k:Nat}{y:Keyed}(h:y∈((P.drop i).take n).drop k):∃ m,k<=m/\m<n/\P[i+m]?=some y:=by
 obtain⟨m,e⟩:=vP h;have hl:=(BB.mp e).1;rw[BV]at hl;rw[nF (by omega)]at e
 exact⟨k+m,by omega,by omega,e⟩
theorem fR_sh{P:List Keyed}{i n k:Nat}{v:Keyed}(h:∀ m,k<=m->m<n->fR P i v m=false):∀ y∈((P.drop i).take n).drop k,ky v<ky y:=fun y hy=>by
 obtain⟨m,h1,h2,e⟩:=vO hy;have:=h m h1 h2;rw[kI e]at this;simpa using this
theorem fL_sh{P:List Keyed}{i n k:Nat}{v:Keyed}(h:∀ m,k<=m->m<n->fL P i v m=false):∀ y∈((P.drop i).take n).drop k,ky v<=ky y:=fun y hy=>by
 obtain⟨m,h1,h2,e⟩:=vO hy;have:=h m h1 h2;rw[lh e]at this;simp only[decide_eq_false_iff_not]at this;omega
theorem rL(c:Nat):∀(l:List Keyed)(n:Nat)(xs:Array Keyed),c+n+l.length<=xs.size->((l.zipIdx n).foldl (fun a x=>match x with | (p,j)=>a.setIfInBounds (c+j) p) xs).toList=xs.toList.take (c+n)++l++xs.toList.drop (c+n+l.length)
 |[],n,xs,_=>by
  show xs.toList=_;rw[Dl,DH,Nat.add_zero,Cj]
 |p::l,n,xs,h=>by
  have ll:xs.toList.length=xs.size:=by simp
  rw[BK]at h ⊢;rw[List.zipIdx_cons,List.foldl_cons];show((l.zipIdx (n+1)).foldl _ (xs.setIfInBounds (c+n) p)).toList=_;rw[rL c l (n+1) _ (by rw[F9];omega),F2,List.drop_set_of_lt (by omega),show c+(n+1)=c+n+1 by omega,show c+n+1+l.length=c+n+(l.length+1) by omega]
  have e:(xs.toList.set (c+n) p).take (c+n+1)=xs.toList.take (c+n)++[p]:=by
   rw[Cv,List.take_set_of_le (BI _),CG (by omega)]
   rfl
  rw[e,Ca (xs.toList.take (c+n)) [p] l];rfl
theorem qM{P R:List Keyed}(u:Upl P)(v:Upl R)(c:∀ x∈P,∀ y∈R,ky x<=ky y):Upl (P++R):=CP.mpr ⟨u,v,c⟩
theorem zX{σ:Type}{M:Model}{x st:σ}{Q:PUnit->σ->Prop}(h:Q ⟨⟩ x):wpS M A E s (set x:StateT σ Sem PUnit) Q st:=by
 unfold wpS;rw[StateT.run_set];exact wpAny_pure ⟨rfl,h⟩
noncomputable def rE:Nat->StateT SortSt Sem Bool:=sortPriv% PySem.Builtin.mergeAt
theorem o3{st:SortSt}{i sa na pa sb nb pb:Nat}{Q:Bool->SortSt->Prop}(hk:kindOf st=oneType')(hf:failedOf st=none)(h0:IntKeys (arrOf st))(p1:(pendingOf st)[i]?=some (sa,na,pa))(p2:(pendingOf st)[i+1]?=some (sb,nb,pb))(es:sb=sa+na)(a1:1<=na)(b1:1<=nb)(le:sb+nb<=(arrOf st).size)
  (s1:Upl (((arrOf st).toList.drop sa).take na)) (s2:Upl (((arrOf st).toList.drop sb).take nb))
  (h:∀(st':SortSt)(M:List Keyed),kindOf st'=oneType'->failedOf st'=none->pendingOf st'=((pendingOf st).setIfInBounds i (sa,na+nb,pa)).eraseIdxIfInBounds (i+1)->(arrOf st').toList=(arrOf st).toList.take sa++M++(arrOf st).toList.drop (sb+nb)->M.Perm (((arrOf st).toList.drop sa).take na++((arrOf st).toList.drop sb).take nb)->Upl M->Q true st') :
  wpS (model prog w) A E s (rE i) Q st:=by
 unfold rE;walk_at "mergeAt";refine wpS_bind (wpS_get ?_);rw[show((sortPriv% PySem.Builtin.SortState.pending) st)[i]?=some (sa,na,pa) from p1,show((sortPriv% PySem.Builtin.SortState.pending) st)[i+1]?=some (sb,nb,pb) from p2];dsimp -zeta -zetaHave only;refine wpS_bind (zX ?_);obtain⟨xs,exs⟩:∃ xs,arrOf st=xs:=⟨_,rfl⟩;obtain⟨st1,est1⟩:∃ st1:SortSt,SortSt.mk' (kindOf st) (arrOf st) (((pendingOf st).setIfInBounds i (sa,na+nb,pa)).eraseIdxIfInBounds (i+1)) (gallopOf st) (failedOf st)=st1:=⟨_,rfl⟩;have k1:kindOf st1=oneType':=by rw[← est1];exact hk
 have f1:failedOf st1=none:=by rw[← est1];exact hf
 have e1:arrOf st1=xs:=by rw[← est1,← exs]
 have q1:pendingOf st1=((pendingOf st).setIfInBounds i (sa,na+nb,pa)).eraseIdxIfInBounds (i+1):=by rw[← est1]
 show wpS (model prog w) A E s _ Q (SortSt.mk' (kindOf st) (arrOf st) (((pendingOf st).setIfInBounds i (sa,na+nb,pa)).eraseIdxIfInBounds (i+1)) (gallopOf st) (failedOf st));rw[est1];clear est1;rw[show(sortPriv% PySem.Builtin.SortState.a) st=xs from exs];rw[exs]at h0 le s1 s2 h;clear exs p1 p2 hf hk;have ll:xs.toList.length=xs.size:=by simp
 have ip:∀ x∈xs.toList,IntP x:=fun x hx=>h0 x hx;have at':∀ i,i<xs.size->∃ x,xs.toList[i]?=some x/\IntP x:=fun i hi=>⟨_,BA (by omega),ip _ (CO _)⟩
 obtain⟨b0,hb0,ib0⟩:=at' sb (by omega)
 refine wpS_bind (aY (at_l hb0) ?_);refine wpS_bind (uj k1 ib0 s1 ip (by omega) (by omega) fun k kn kt kf=>?_)
 dsimp -zeta -zetaHave only;obtain⟨S1,eS1⟩:∃ S1,(xs.toList.drop sa).take na=S1:=⟨_,rfl⟩;obtain⟨S2,eS2⟩:∃ S2,(xs.toList.drop sb).take nb=S2:=⟨_,rfl⟩;have l1:S1.length=na:=by rw[← eS1,BV,Cq];omega
 have l2:S2.length=nb:=by rw[← eS2,BV,Cq];omega
 have tk1:S1.take k=(xs.toList.drop sa).take k:=by rw[← eS1,Es,De kn]
 have lo1:∀ x∈S1.take k,ky x<=ky b0:=by rw[tk1];exact Bi kt
 have hi1:∀ y∈S1.drop k,ky b0<ky y:=by rw[← eS1];exact fR_sh kf
 have bS:S2[0]?=some b0:=by rw[← eS2,nF (by omega)];exact hb0
 rw[eS1]at s1;rw[eS2]at s2;have b0l:∀ y∈S2,ky b0<=ky y:=gH (i:=0) s2 bS
 have whole:Upl (S1++S2)->Q true st1:=fun u=>h st1 (S1++S2) k1 f1 q1 (by
  rw[e1,← eS1,← eS2,← Ca,es,← ER,← ER,← es,Cj]) (by rw[eS1,eS2]) u
 by_cases z:(na-k == 0)=true
 ·refine aR z ?_;have z':na-k=0:=by simpa using z
  refine wpS_pure (whole (qM s1 s2 fun x hx y hy=>?_));have:=lo1 x (by rw[Cc (by omega)];exact hx)
  have:=b0l y hy;omega
 refine aP z ?_;have z':na-k≠0:=by simpa using z
 obtain⟨al,hal,ial⟩:=at' (sa+k+(na-k)-1) (by omega)
 have aS:S1[na-1]?=some al:=by rw[← eS1,nF (by omega),← hal];congr 1;omega
 refine wpS_bind (aY (at_l hal) ?_);refine wpS_bind (uk k1 ial (by rw[eS2];exact s2) ip (by omega) (by omega) fun m mn mt mf=>?_)
 dsimp -zeta -zetaHave only;have tk2:S2.take m=(xs.toList.drop sb).take m:=by rw[← eS2,Es,De mn]
 have lo2:∀ x∈S2.take m,ky x<ky al:=by rw[tk2];exact Bk mt
 have hi2:∀ y∈S2.drop m,ky al<=ky y:=by rw[← eS2];exact fL_sh mf
 have all:∀ x∈S1,ky x<=ky al:=fun x hx=>iM s1 aS x (by rw[Cc (by omega)];exact hx)
 by_cases y:(m == 0)=true
 ·refine aR y ?_;have y':m=0:=by simpa using y
  subst y';exact wpS_pure (whole (qM s1 s2 fun x hx y hy=>Int.le_trans (all x hx) (hi2 y hy)))
 refine aP y ?_;have y':m≠0:=by simpa using y
 walk_at "st";extract_lets -underBinder +onlyGivenNames xx yy jp;subst xx yy;clear_value (ej:jp=_);have ea:(xs.extract (sa+k) sb).toList=S1.drop k:=by
  rw[mM,← eS1,EJ,EJ,Ec];congr 1;omega
 have eb:(xs.extract sb (sb+m)).toList=S2.take m:=by rw[jO,tk2]
 have za:(xs.extract (sa+k) sb).size=na-k:=by rw[← Dn,ea,Cq,l1]
 have zb:(xs.extract sb (sb+m)).size=m:=by rw[← Dn,eb,BV];omega
 have ipa:∀ x∈(xs.extract (sa+k) sb).toList,IntP x:=fun x hx=>by
  rw[mM]at hx;exact ip x (CM (CV hx))
 have ipb:∀ x∈(xs.extract sb (sb+m)).toList,IntP x:=fun x hx=>by
  rw[jO]at hx;exact ip x (CV (CM hx))
 have ua:Upl (xs.extract (sa+k) sb).toList:=by rw[ea];exact s1.drop
 have ub:Upl (xs.extract sb (sb+m)).toList:=by rw[eb];exact s2.take
 have c0:∀ x y:Keyed,(xs.extract sb (sb+m)).toList[0]?=some x->y∈(xs.extract (sa+k) sb).toList->ky x<ky y:=fun x y hx hy=>by
  rw[eb,Du,if_pos (by omega),bS]at hx
  cases hx
  rw[ea]at hy;exact hi1 y hy
 have cl:∀ x y:Keyed,x∈(xs.extract sb (sb+m)).toList->(xs.extract (sa+k) sb).toList[(xs.extract (sa+k) sb).size-1]?=some y->ky x<ky y:=fun x y hx hy=>by
  rw[za,ea,DP,show k+(na-k-1)=na-1 by omega,aS]at hy
  cases hy
  rw[eb]at hx;exact lo2 x hx
 have hj:∀(R:Array Keyed)(st2:SortSt),SmG st1 st2->R.toList.Perm ((xs.extract (sa+k) sb).toList++(xs.extract sb (sb+m)).toList)->Upl R.toList->wpS (model prog w) A E s (jp R) Q st2:=by
  intro R st2 sg pm up;rw[ej];clear ej jp;walk_at "st";rw[ea,eb]at pm;have rl:R.toList.length=na-k+m:=by rw[pm.length_eq,BE,Cq,BV,l1,l2];omega
  refine wpS_bind (wpS_modify ?_);refine wpS_bind (wpS_get ?_);have ff:(sortPriv% PySem.Builtin.SortState.failed) st2=none:=sg.f.trans f1;show wpS (model prog w) A E s (pure ((sortPriv% PySem.Builtin.SortState.failed) st2).isNone) Q _;rw[ff];have tk:∀ x∈S1.take k,∀ y∈S1.drop k,ky x<=ky y:=by
   have:Upl (S1.take k++S1.drop k):=by rw[Cj];exact s1
   exact(CP.mp this).2.2
  have tk':∀ x∈S2.take m,∀ y∈S2.drop m,ky x<=ky y:=by
   have:Upl (S2.take m++S2.drop m):=by rw[Cj];exact s2
   exact(CP.mp this).2.2
  refine wpS_pure (h _ (S1.take k++R.toList++S2.drop m) (sg.k.trans k1) rfl (sg.p.trans q1) ?_ ?_ ?_)
  ·show(R.toList.zipIdx.foldl (fun a x=>match x with | (p,j)=>a.setIfInBounds (sa+k+j) p) (arrOf st2)).toList=_
   rw[sg.a,e1,rL (sa+k) R.toList 0 xs (by omega),Nat.add_zero,rl,show sa+k+(na-k+m)=sb+m by omega,ER,← tk1]
   have ed:xs.toList.drop (sb+m)=S2.drop m++xs.toList.drop (sb+nb):=by
    rw[← Ec,← eS2];have e:=congrArg (List.drop m) (Cj nb (xs.toList.drop sb));rw[FN,BV,Cq,show m-min nb (xs.toList.length-sb)=0 by omega,EI,Ec]at e
    exact e.symm
   rw[ed];simp only[Ca]
  ·rw[eS1,eS2];have e:S1++S2=S1.take k++(S1.drop k++S2.take m)++S2.drop m:=by
    rw[Ca,Ca,Cj,← Ca,Cj]
   rw[e];exact(DB _ pm).append_right _
  ·refine qM (qM s1.take up fun x hx y hy=>?_) s2.drop fun x hx y hy=>?_
   ·rcases BN.mp (pm.mem_iff.mp hy)with hy | hy
    ·exact tk x hx y hy
    ·have:=lo1 x hx
     have:=b0l y (CM hy);omega
   ·rcases BN.mp hx with hx | hx
    ·have:=lo1 x hx
     have:=b0l y (CV hy);omega
    ·rcases BN.mp (pm.mem_iff.mp hx)with hx | hx
     ·exact Int.le_trans (all x (CV hx)) (hi2 y hy)
     ·exact tk' x hx y hy
 clear ej;by_cases c:na-k<=m
 ·refine aR c ?_;exact wpS_bind (oY k1 ua ub ipa ipb (by omega) (by omega) (fun x y a b=>DF (c0 x y a b)) cl fun R st2 sg pm up=>hj R st2 sg pm up)
 ·refine aP c ?_;exact wpS_bind (oZ k1 ua ub ipa ipb (by omega) (by omega) c0 cl fun R st2 sg pm up=>hj R st2 sg pm up)
end PyProof.Rows
namespace PyProof.Rows
open PySem
local macro_rules | `(tactic| walk_at "sortRuns") => do
 let n:=Lean.mkIdent (Lean.mkPrivateNameCore `PySem.Builtin.List.W1All `PySem.Builtin.sortRuns)
 `(tactic| delta $n)
local macro_rules | `(tactic| walk_at "st") => `(tactic| try dsimp -zeta -zetaHave only)
local macro_rules | `(tactic| walk_at "l3") => `(tactic| (extract_lets -underBinder +onlyGivenNames a b c; subst a b c))
local macro_rules | `(tactic| walk_at "l11") => `(tactic| (extract_lets -underBinder +onlyGivenNames a b c d e f g h i j k; subst a b c d e f g h i j k; dsimp -zeta -zetaHave only))
local macro_rules | `(tactic| walk_at "l1") => `(tactic| (extract_lets -underBinder +onlyGivenNames a; subst a; try dsimp -zeta -zetaHave only))
local macro_rules | `(tactic| walk_at "l2") => `(tactic| (extract_lets -underBinder +onlyGivenNames a b; subst a b; try dsimp -zeta -zetaHave only))
local macro_rules | `(tactic| walk_at "l4") => `(tactic| (extract_lets -underBinder +onlyGivenNames a b c d; subst a b c d; try dsimp -zeta -zetaHave only))
variable{prog:Program}{w:World}{A:Around}{E:Value->Shared->Prop}{s:Shared}
noncomputable def Rn(L:List Keyed):List (Nat×Nat×Nat)->Nat->Nat->Prop
 |[],c,e=>c=e
 |p::t,c,e=>p.1=c/\1<=p.2.1/\Upl ((L.drop p.1).take p.2.1)/\Rn L t (c+p.2.1) e
theorem Rn.le{L:List Keyed}:∀{T:List (Nat×Nat×Nat)}{c e:Nat},Rn L T c e->c+T.length<=e
 |[],c,e,h=>by cases h;exact BI _
 |p::t,c,e,⟨_,h1,_,h⟩=>by
  have:=Rn.le h;rw[BK];omega
theorem Rn.app{L:List Keyed}:∀{T1 T2:List (Nat×Nat×Nat)}{c e:Nat},Rn L (T1++T2) c e↔∃ m,Rn L T1 c m/\Rn L T2 m e
 |[],T2,c,e=>⟨fun h=>⟨c,rfl,h⟩,fun⟨m,h1,h2⟩=>by cases h1;exact h2⟩
 |p::t,T2,c,e=>by
  constructor
  ·rintro⟨h1,h2,h3,h4⟩;obtain⟨m,g1,g2⟩:=Rn.app.mp h4;exact⟨m,⟨h1,h2,h3,g1⟩,g2⟩
  ·rintro⟨m,⟨h1,h2,h3,g1⟩,g2⟩;exact⟨h1,h2,h3,Rn.app.mpr ⟨m,g1,g2⟩⟩
theorem Rn.lo{L L':List Keyed}{m:Nat}(hm:L.take m=L'.take m):∀{T:List (Nat×Nat×Nat)}{c e:Nat},Rn L T c e->e<=m->Rn L' T c e
 |[],c,e,h,_=>h
 |p::t,c,e,⟨h1,h2,h3,h4⟩,he=>by
  have hl:=h4.le;refine⟨h1,h2,?_,Rn.lo hm h4 he⟩;have cut:∀ Z:List Keyed,(Z.drop p.1).take p.2.1=((Z.take m).drop p.1).take p.2.1:=fun Z=>by
   rw[EJ,Es,De (by omega)]
  rw[cut L',← hm,← cut L];exact h3
theorem Rn.hi{L L':List Keyed}{m:Nat}(hm:L.drop m=L'.drop m):∀{T:List (Nat×Nat×Nat)}{c e:Nat},Rn L T c e->m<=c->Rn L' T c e
 |[],c,e,h,_=>h
 |p::t,c,e,⟨h1,h2,h3,h4⟩,he=>by
  refine⟨h1,h2,?_,Rn.hi hm h4 (by omega)⟩
  have cut:∀ Z:List Keyed,Z.drop p.1=(Z.drop m).drop (p.1-m):=fun Z=>by rw[Ec];congr 1;omega
  rw[cut L',← hm,← cut L];exact h3
theorem Rn.like{L:List Keyed}:∀{T T':List (Nat×Nat×Nat)}{c e:Nat},T.map (fun p=>(p.1,p.2.1))=T'.map (fun p=>(p.1,p.2.1))->Rn L T c e->Rn L T' c e
 |[],[],c,e,_,h=>h
 |p::t,q::t',c,e,hm,⟨h1,h2,h3,h4⟩=>by
  rw[BW,BW]at hm;injection hm with a b;injection a with a1 a2;refine⟨by rw[← a1];exact h1,by rw[← a2];exact h2,by rw[← a1,← a2];exact h3,?_⟩
  rw[← a2];exact Rn.like b h4
 |[],q::t',c,e,hm,h=>by cases hm
 |p::t,[],c,e,hm,h=>by cases hm
structure SI(a₀:Array Keyed)(lo:Nat)(st:SortSt):Prop where
 perm:(arrOf st).Perm a₀
 kind:kindOf st=oneType'
 failed:failedOf st=none
 rn:Rn (arrOf st).toList (pendingOf st).toList 0 lo
 le:lo<=a₀.size
theorem SI.size{a₀:Array Keyed}{lo:Nat}{st:SortSt}(h:SI a₀ lo st):(arrOf st).size=a₀.size:=h.perm.size_eq
theorem SI.keys{a₀:Array Keyed}{lo:Nat}{st:SortSt}(h:SI a₀ lo st)(h0:IntKeys a₀):IntKeys (arrOf st):=fun p hp=>h0 p ((EW.mp h.perm).mem_iff.mp hp)
theorem jS{a₀:Array Keyed}{lo i:Nat}{st:SortSt}{Q:Bool->SortSt->Prop}(h0:IntKeys a₀)(hS:SI a₀ lo st)(hi:i+1<(pendingOf st).size)(h:∀ st',SI a₀ lo st'->(pendingOf st').size+1=(pendingOf st).size->(arrOf st').toList.drop lo=(arrOf st).toList.drop lo->Q true st') :
  wpS (model prog w) A E s ((sortPriv% PySem.Builtin.mergeAt) i) Q st:=by
 have tl:(pendingOf st).toList.length=(pendingOf st).size:=by simp
 obtain⟨T,eT⟩:∃ T,(pendingOf st).toList=T:=⟨_,rfl⟩;rw[eT]at tl;have g1:(pendingOf st)[i]?=some T[i]:=by rw[← BA,← eT];simp
 have g2:(pendingOf st)[i+1]?=some T[i+1]:=by rw[← BA,← eT];simp
 have sp:T=T.take i++T[i]::T[i+1]::T.drop (i+2):=by
  rw[← DQ,← DQ,Cj]
 obtain⟨T1,eT1⟩:∃ T1,T.take i=T1:=⟨_,rfl⟩;obtain⟨T2,eT2⟩:∃ T2,T.drop (i+2)=T2:=⟨_,rfl⟩;obtain⟨⟨sa,na,pa⟩,ep⟩:∃ p,T[i]=p:=⟨_,rfl⟩;obtain⟨⟨sb,nb,pb⟩,eq⟩:∃ p,T[i+1]=p:=⟨_,rfl⟩;have t1l:T1.length=i:=by rw[← eT1,BV];omega
 rw[ep]at g1;rw[eq]at g2;rw[eT1,eT2,ep,eq]at sp;have rn:=hS.rn;rw[eT,sp]at rn;obtain⟨m,r1,⟨x1,x2,x3,⟨y1,y2,y3,r2⟩⟩⟩:=Rn.app.mp rn;dsimp only at x1 x2 x3 y1 y2 y3 r2;have le2:=r2.le;have le:=hS.le;have sz:=hS.size;have ll:(arrOf st).toList.length=(arrOf st).size:=by simp
 refine o3 hS.kind hS.failed (hS.keys h0) g1 g2 (by omega) x2 y2 (by omega) x3 y3 fun st' M k' f' p' e' pm up=>?_
 have Ml:M.length=na+nb:=by
  rw[pm.length_eq,BE,BV,BV,Cq,Cq];omega
 have hpp:(pendingOf st').toList=T1++(sa,na+nb,pa)::T2:=by
  rw[p'];have:(((pendingOf st).setIfInBounds i (sa,na+nb,pa)).eraseIdxIfInBounds (i+1)).toList=(T.set i (sa,na+nb,pa)).eraseIdx (i+1):=by
   unfold Array.eraseIdxIfInBounds;rw[dif_pos (by rw[F9];exact hi),Array.toList_eraseIdx,F2,eT]
  rw[this,sp,← t1l,EL _ _ (BI _),Ck,List.set_cons_zero,List.eraseIdx_append_of_length_le (by omega),show T1.length+1-T1.length=1 by omega]
  rfl
 have ptl:(pendingOf st').size+1=(pendingOf st).size:=by
  have a:=congrArg EV hpp;have b:=congrArg EV sp;simp only[BE,BK,Dn]at a b;omega
 have es:sb=sa+na:=by omega
 have lt:((arrOf st).toList.take sa).length=sa:=by rw[BV];omega
 have tke:(arrOf st).toList.take m=(arrOf st').toList.take m:=by
  rw[e',Ca,FL (by omega),Es,x1,Nat.min_self]
 have dre:(arrOf st).toList.drop (sb+nb)=(arrOf st').toList.drop (sb+nb):=by
  rw[e',List.drop_left' (by rw[BE,lt,Ml];omega)]
 refine h st' ⟨?_,k',f',?_,le⟩ ptl (by
  have e:=congrArg (List.drop (lo-(sb+nb))) dre;rw[Ec,Ec,show sb+nb+(lo-(sb+nb))=lo by omega]at e
  exact e.symm)
 ·refine Array.Perm.trans (EW.mpr ?_) hS.perm;rw[e'];have e2:(arrOf st).toList=(arrOf st).toList.take sa++(((arrOf st).toList.drop sa).take na++((arrOf st).toList.drop sb).take nb)++(arrOf st).toList.drop (sb+nb):=by
   have es:sb=sa+na:=by omega
   rw[← Ca,es,← ER,← ER,Cj]
  exact((DB _ pm).append_right _).trans (List.Perm.of_eq e2.symm)
 ·rw[hpp];refine Rn.app.mpr ⟨m,r1.lo tke (BI _),x1,by show 1<=na+nb;omega,?_,?_⟩
  ·show Upl (((arrOf st').toList.drop sa).take (na+nb));have:((arrOf st').toList.drop sa).take (na+nb)=M:=by
    rw[e',Ca,FN,lt,Ck,EI,Ff (by omega),Fj,FL (by omega),Cc (by omega)]
   rw[this];exact up
  ·show Rn _ T2 (m+(na+nb)) lo;have:=r2.hi dre (by omega)
   rw[show m+(na+nb)=m+na+nb by omega]
   exact this
theorem Ag{xs:Array Keyed}{lo n:Nat}(h:Sin xs lo n)(hn:lo+n<=xs.size):Upl ((xs.toList.drop lo).take n):=by
 have ll:xs.toList.length=xs.size:=by simp
 refine F5.mpr fun i j hi hj hij=>?_;rw[BV,Cq]at hj;rw[E6,FD,E6,FD];have z:=h (lo+i) (lo+j) (by omega) (by omega) (by omega)
 rw[K_eq (by omega),K_eq (by omega)]at z
 simpa[ky] using z
theorem SB.si{a₀:Array Keyed}{lo:Nat}{st0 st:SortSt}(h:SB lo st0 st)(hS:SI a₀ lo st0):SI a₀ lo st:=by
 refine⟨h.perm.trans hS.perm,h.kind,h.failed.trans hS.failed,?_,hS.le⟩;rw[h.pend];refine hS.rn.lo (FF fun i=>?_) (BI _);rw[Du,Du];split
 ·rename_i hi;have:=h.low i hi;rw[← EM,← EM]at this;exact this.symm
 ·rfl
theorem ite_lt(c:Bool){n:Nat}(h:¬ n<=1):(if c=true then n-2-1 else n-2)+1<n:=by split<;>omega
noncomputable def nB:StateT SortSt Sem Unit:=sortPriv% PySem.Builtin.sortRuns
theorem oX{a₀:Array Keyed}{st:SortSt}{Q:Unit->SortSt->Prop}(h0:IntKeys a₀)(hS:SI a₀ 0 st)(h:∀ st',(arrOf st').Perm a₀->failedOf st'=none->Upl (arrOf st').toList->Q () st'):wpS (model prog w) A E s nB Q st:=by
 unfold nB;walk_at "sortRuns";refine wpS_bind (wpS_get ?_);rw[show((sortPriv% PySem.Builtin.SortState.a) st).size=a₀.size from hS.size];walk_at "st";walk_at "l3";generalize (sortPriv% PySem.Builtin.minRun) a₀.size a₀.size 0=mr;refine wpS_bind (wpS_mono (wpS_forRange (I:=fun x c st'=>∃ lo,c=(none,lo)/\SI a₀ lo st'/\(lo=a₀.size∨x<=lo)) (Q:=fun c st'=>c=(none,a₀.size)/\SI a₀ a₀.size st') ?step ?fin ⟨0,rfl,hS,.inr (BI _)⟩) ?post)
 case fin =>
  rintro c st' ⟨lo,rfl,hS',g⟩;have:=hS'.le;have:lo=a₀.size:=by omega
  subst this;exact⟨rfl,hS'⟩
 case step =>
  rintro x c st' _ hx ⟨lo,rfl,hS',g⟩;have le:=hS'.le;have sz:=hS'.size;by_cases z:lo ≥ a₀.size
  ·refine aR z ?_;have:lo=a₀.size:=by omega
   subst this;exact wpS_pure ⟨rfl,hS'⟩
  refine aP z ?_;refine o5 fun R hR=>?_;refine wpS_bind (rY hS'.kind (hS'.keys h0) (by omega) (by omega) fun m st1 hB1 m1 m2 hs1=>?_)
  walk_at "st";extract_lets -underBinder +onlyGivenNames nn jp;subst nn;clear_value (ej:jp=_);have hj:∀(n:Nat)(st2:SortSt),SB lo st' st2->1<=n->lo+n<=a₀.size->Sin (arrOf st2) lo n->wpS (model prog w) A E s (jp () n) R st2:=by
   intro n st2 hB2 n1 n2 hs2;rw[ej];clear ej jp;walk_at "st";have S2:=hB2.si hS';have u2:=Ag hs2 (by rw[S2.size];exact n2)
   refine wpS_bind (wpS_get ?_);walk_at "st";extract_lets -underBinder +onlyGivenNames jp;clear_value (ej:jp=_);have hj:∀ st3:SortSt,SI a₀ lo st3->(arrOf st3).toList.drop lo=(arrOf st2).toList.drop lo->wpS (model prog w) A E s (jp ()) R st3:=by
    intro st3 S3 e3;rw[ej];clear ej jp;walk_at "st";refine wpS_bind (wpS_modify (wpS_pure (hR _ _ ⟨lo+n,rfl,⟨S3.perm,S3.kind,S3.failed,?_,n2⟩,?_⟩)))
    ·show Rn (arrOf st3).toList ((pendingOf st3).push (lo,n,0)).toList 0 (lo+n);rw[El];refine Rn.app.mpr ⟨lo,S3.rn,rfl,n1,?_,rfl⟩;show Upl (((arrOf st3).toList.drop lo).take n);rw[e3];exact u2
    ·rcases g with g | g
     ·exact absurd g (by omega)
     ·exact .inr (by omega)
   clear ej
   cases eb:((sortPriv% PySem.Builtin.SortState.pending) st2).back? with
   |none=>exact hj st2 S2 rfl
   |some p =>
    obtain⟨s1,n1',p1⟩:=p;walk_at "st";extract_lets -underBinder +onlyGivenNames pw;clear_value pw;refine wpS_bind (wpS_mono (wpS_forRange (I:=fun _ c st3=>c=(none,())/\SI a₀ lo st3/\(arrOf st3).toList.drop lo=(arrOf st2).toList.drop lo) (Q:=fun c st3=>c=(none,())/\SI a₀ lo st3/\(arrOf st3).toList.drop lo=(arrOf st2).toList.drop lo) ?pstep (fun c st3 q=>q) ⟨rfl,S2,rfl⟩) ?ppost)
    case pstep =>
     rintro y c st3 _ hy ⟨rfl,S3,e3⟩;refine wpS_bind (wpS_get ?_);walk_at "st";walk_at "l1";by_cases big:((sortPriv% PySem.Builtin.SortState.pending) st3).size > 1
     ·rw[if_pos big];obtain⟨⟨q1,q2,q3⟩,eq⟩:∃ p,((sortPriv% PySem.Builtin.SortState.pending) st3)[((sortPriv% PySem.Builtin.SortState.pending) st3).size-2]?=some p:=⟨_,getElem?_pos _ _ (by omega)⟩
      rw[eq];dsimp -zeta -zetaHave only;split
      ·exact wpS_pure ⟨rfl,S3,e3⟩
      ·exact wpS_bind (jS h0 S3 (show(pendingOf st3).size-2+1<(pendingOf st3).size from by have:(pendingOf st3).size > 1:=big;omega) fun st4 S4 _ e4=>wpS_pure ⟨rfl,S4,e4.trans e3⟩)
     ·rw[if_neg big];exact wpS_pure ⟨rfl,S3,e3⟩
    case ppost =>
     rintro c st3 ⟨rfl,S3,e3⟩;walk_at "st";walk_at "l1";refine wpS_bind (wpS_modify (hj _ ⟨S3.perm,S3.kind,S3.failed,?_,S3.le⟩ e3));refine Rn.like ?_ S3.rn;show _=FP _ ((pendingOf st3).modify _ _).toList;rw[Array.toList_modify];refine FF fun i=>?_;rw[BJ,BJ,List.getElem?_modify]
     cases (pendingOf st3).toList[i]? with
     |none=>rfl
     |some p =>
      show some (p.1,p.2.1)=some ((if _=i then _ else p).1,(if _=i then _ else p).2.1);split<;>rfl
  clear ej;by_cases c:m<mr
  ·refine aR c ?_;refine wpS_bind (wpS_lift (wpAny_rule ⟨rfl,?_⟩));refine wpS_bind (xA (hS'.keys h0) (by rw[sz];omega) (by omega) hB1 hs1 fun st2 hB2 hs2=>?_)
   exact hj _ st2 hB2 (by omega) (by omega) hs2
  ·refine aP c ?_;exact hj m st1 hB1 m1 (by omega) hs1
 case post =>
  rintro c st' ⟨rfl,hS'⟩;walk_at "st";walk_at "l1";have pl:(pendingOf st').size<=a₀.size:=by
   have:=hS'.rn.le;rw[Dn]at this;omega
  refine wpS_bind (wpS_mono (wpS_forRange (I:=fun x c st3=>c=(none,())/\SI a₀ a₀.size st3/\((pendingOf st3).size<=1∨(pendingOf st3).size+x<=a₀.size)) (Q:=fun c st3=>c=(none,())/\SI a₀ a₀.size st3/\(pendingOf st3).size<=1) ?fstep ?ffin ⟨rfl,hS',.inr pl⟩) ?fpost)
  case ffin =>
   rintro c st3 ⟨rfl,S3,g⟩;exact⟨rfl,S3,by omega⟩
  case fpost =>
   rintro c st3 ⟨rfl,S3,g⟩;refine wpS_pure (h st3 S3.perm S3.failed ?_);have rn:=S3.rn;have sz:=S3.size;have ll:(arrOf st3).toList.length=(arrOf st3).size:=by simp
   have tl:(pendingOf st3).toList.length=(pendingOf st3).size:=by simp
   match e:(pendingOf st3).toList with
   |[] =>
    rw[e]at rn;have rn':0=a₀.size:=rn;rw[List.eq_nil_of_length_eq_zero (show(arrOf st3).toList.length=0 by omega)]
    exact FG
   |[p] =>
    rw[e]at rn;obtain⟨r1,_,r3,r4⟩:=rn;have r4':0+p.2.1=a₀.size:=r4;rw[r1,EI,Cc (by omega)]at r3
    exact r3
   |p::q::t =>
    rw[e]at tl;simp only[BK]at tl;omega
  case fstep =>
   rintro x c st3 _ hx ⟨rfl,S3,g⟩;refine wpS_bind (wpS_get ?_);by_cases z:((sortPriv% PySem.Builtin.SortState.pending) st3).size<=1
   ·refine aR z ?_;exact wpS_pure ⟨rfl,S3,z⟩
   refine aP z ?_;refine wpS_bind (jS h0 S3 (ite_lt _ z) fun st4 S4 p4 _=>wpS_pure ⟨rfl,S4,?_⟩);have z':¬ (pendingOf st3).size<=1:=z;omega
end PyProof.Rows
namespace PyProof.Rows
open PySem
variable{prog:Program}{w:World}{A:Around}{E:Value->Shared->Prop}{s:Shared}
theorem upl_to{xs:Array Keyed}(u:Upl xs.toList):SortedTo xs xs.size:=fun i j hij hj=>by
 have ll:xs.toList.length=xs.size:=by simp
 have hi':i<xs.size:=by omega
 rw[K_eq hi',K_eq hj];have:=uq u (i:=i) (j:=j) (BA (by omega)) (BA (by omega)) hij
 simpa[ky] using this
theorem xI{a:Addr}{vs:List Value}{ns:List Int}{n:Nat}{P:Fin->Shared->Prop} (ho:s.heap.get? a=some (seqObj "list" vs.toArray n)) (hI:IntsAre vs ns) (hz:vs.length<=sizeLine)
  (h:∀(out:Array Value)(ns':List Int),IntsAre out.toList ns'->ns'.Perm ns->ns'.Pairwise (·<=·)->P (.done (.ret .none)) { s with heap:=sortedHeap s.heap a vs out }) :
  wpAny (model prog w) A (Builtin.«list.sort» ⟨[.ref a],[]⟩) P E s:=by
 by_cases h64:vs.length<64
 ·exact list_sort_tree ho hI h64 h
 obtain⟨v₁,v₂,rest,e⟩:∃ v₁ v₂ rest,vs=v₁::v₂::rest:=by
  match vs,h64 with
  |[],h64=>exact absurd (by decide) h64
  |[_],h64=>exact absurd (by show 1<64;decide) h64
  |v₁::v₂::rest,_=>exact⟨v₁,v₂,rest,rfl⟩
 have sz:vs.toArray.size=vs.length:=by simp
 have ha:a<s.heap.objs.size:=Heap.lt_size ho;rw[list_sort_plain];refine wpAny_bind (listItems_at ho rfl (wpAny_bind (listUpdate_at ho rfl ?_)));obtain⟨e1,ho1⟩:∃ e1,(s.heap.update a (Obj.mapSeq fun _=>#[])).get? a=some (seqObj "list" #[] e1):=⟨_,get?_update_seq ho (fun _=>#[])⟩;refine wpAny_bind (seqEpoch_at ho1 rfl (wpAny_bind (wpAny_newTuple (wpAny_bind (wpAny_newList (wpAny_holding ?_))))));have ho6:(((s.heap.update a (Obj.mapSeq fun _=>#[])).push (seqObj "tuple" vs.toArray 0)).push (seqObj "list" #[] 0)).get? a=some (seqObj "list" #[] e1):=by
  rw[Heap.get?_push_ne _ _ _ (by rw[size_push',Heap.size_update];exact CA (FC ha)),Heap.get?_push_ne _ _ _ (by rw[Heap.size_update];exact CA ha)]
  exact ho1
 show wpAny (model prog w) A _ P E { s with heap:=((s.heap.update a (Obj.mapSeq fun _=>#[])).push (seqObj "tuple" vs.toArray 0)).push (seqObj "list" #[] 0) };have n2:¬ vs.toArray.size<2:=by omega
 dsimp only;rw[if_neg n2,if_neg n2];have kk:keyKind' vs.toArray=pure oneType':=by subst e;exact keyKind_ints hI
 rw[kk];refine wpAny_bind (wpAny_pure ?_);have run:=oX (prog:=prog) (w:=w) (A:=A) (E:=E) (s:={ s with heap:=((s.heap.update a (Obj.mapSeq fun _=>#[])).push (seqObj "tuple" vs.toArray 0)).push (seqObj "list" #[] 0) }) (a₀:=pairsOf vs) (st:=SortSt.mk' oneType' (vs.toArray.zip vs.toArray) #[] 7 none)
  (Q:=fun _ st'=>(arrOf st').Perm (pairsOf vs)/\failedOf st'=none/\Upl (arrOf st').toList) hI.intKeys ⟨Array.Perm.refl _,rfl,rfl,rfl,C4 _⟩ fun st' q1 q2 q3=>⟨q1,q2,q3⟩
 refine wpAny_bind (wpAny_mono run ?_ fun _ _ e=>e);rintro⟨⟨⟩,st'⟩ s' ⟨rfl,hp,hf,hu⟩;dsimp only;refine wpAny_bind (seqEpoch_at ho6 rfl ?_);refine wpAny_bind (listUpdate_at ho6 rfl ?_ (hsz2:=by refine Co (FJ ((Array.size_map ..).trans (hp.size_eq.trans (pairsOf_size _)))) ?_;omega))
 rw[hf];simp only[bne_self_eq_false,DC,if_false];obtain⟨ns',h1,h2,h3⟩:=sorted_out hI hp (by rw[← hp.size_eq];exact upl_to hu)
 exact wpAny_pure (h _ ns' h1 h2 h3)
theorem sf{l:Addr}{vs:List Value}{ns:List Int}{Q:Value->Shared->Prop}(hl:s.heap.IsList l vs.toArray)(hI:IntsAre vs ns)(hz:vs.length<=sizeLine)
  (h:∀(out:Array Value)(ns':List Int),IntsAre out.toList ns'->ns'.Perm ns->ns'.Pairwise (·<=·)->Q (.ref (s.heap.objs.size+1)) { s with heap:=sortedAll s.heap vs out }) :
  wpAny (model prog w) A (call (.builtin "sorted") [.ref l]) Q E s:=by
 refine Calls.call_function_entry kind_sorted plain_sorted entry_sorted (args_sorted1 _) ?_;unfold Builtin.«sorted»;refine wpAny_bind (m:=checkCount "sorted" 1 1 _) (wpAny_pure ?_);refine wpAny_bind (collect_list hl ?_ hz);refine wpAny_bind (wpAny_newList ?_ hz);have hsz:((s.heap.push (seqObj "list" #[] 0)).update s.heap.objs.size (Obj.mapSeq (·++vs.toArray))).objs.size=s.heap.objs.size+1:=by
  rw[Heap.size_update,size_push']
 have hoL:(((s.heap.push (seqObj "list" #[] 0)).update s.heap.objs.size (Obj.mapSeq (·++vs.toArray))).push (seqObj "list" vs.toArray 0)).get? (s.heap.objs.size+1)=some (seqObj "list" vs.toArray 0):=by
  rw[← hsz];exact Heap.get?_push_size _ rfl
 show wpAny _ _ _ _ _ { s with heap:=((s.heap.push (seqObj "list" #[] 0)).update s.heap.objs.size (Obj.mapSeq (·++vs.toArray))).push (seqObj "list" vs.toArray 0) };rw[hsz];refine wpAny_bind (wpAny_holding (wpAny_call_entry slot_list_sort ⟨_,hoL,rfl⟩ entry_list_sort (xI hoL hI hz fun out ns' a1 a2 a3=>⟨_,rfl,?_⟩) (args_list_sort _)));exact wpAny_pure ⟨_,rfl,h out ns' a1 a2 a3⟩
end PyProof.Rows
namespace L2
open PySem PySem.Spec PyProof.Rows
section
variable{X:Cx}
noncomputable def zk(K:BD):List V->Hp->VK->Prop:=fun xs H Q=>∃(p:Addr)(ns:List Int),xs = [.ref p]/\SqL K H p (ns.map V.int)/\∀(l:Addr)(out:List Int),H l=none->out.Perm ns->out.Pairwise (·<=·)->Q (.ref l) (upd H l (.lst (out.map V.int)))
theorem t9:gg X (.builtin "sorted") (zk X.K):=by
 intro pins s σ H xs us Q I r h;obtain⟨p,ns,rfl,hq,q⟩:=h;obtain⟨u,rfl,ru⟩:=kZ r
 cases ru
 obtain⟨its,rv,pl,hz⟩:=I.list hq;have hi:=mE rv;have hl:=rv.length;rw[BC]at hl hz;refine sf pl.isList hi (by omega) fun out ns' a1 a2 a3=>?_
 obtain⟨e,he⟩:=sortedAll_at s.heap its out;refine⟨.ref (s.heap.objs.size+1),_,I.laid (t':=s.toks) (fun _ _=>sortedAll_old) (Ez _) (show bH X.prog X.w _ _ _ (.lst (ns'.map V.int)) from⟨?_,out.toList,e,um a1,?_⟩),rfl,q _ ns' (I.hok.fresh (Ez _)) a2 a3⟩
 ·rw[BC,a2.length_eq];omega
 ·exact he
theorem pe_bmK{K:BD}{o e:Expr}{es:List Expr}{to:TE}{t:TA}{name:Str}{apos cpos:Pos}{T id:String}{r:V->List V->Hp->VK->Prop}(hK:X.K=K)(pa:PlainAttrs T)(slot:Slot T name id) (hty:typeOf (.builtin id)=pure (.type "method_descriptor")) (hm:MtR X id r) (ho:PE X o to) (ha:PA X (e::es) t)
  (hbase:attributeBase o name X.env (eval o X.env)=eval o X.env:=by rfl)
  (hfew:((backTo cpos (starEach (e::es) X.env)).all (fun x=>!x.1)&&(backToKw cpos (keywordEach [] X.env)).all (fun x=>x.1.isSome)
   && decide ((e::es).length+([]:List Keyword).length+(if([]:List Keyword).isEmpty then 0 else 1)<30))=true:=by rfl)
  (hline:(apos.endLine == cpos.line)=true:=by rfl) (hs:starEach (e::es) X.env=(false,eval e X.env)::starEach es X.env:=by rfl) (hplain:(backTo cpos (starEach es X.env)).any (·.1)=false:=by rfl) :
  PE X (.Call (.Attribute o name apos) (e::es) [] cpos) (tBM K T r to t):=hK▸bP pa slot hty hm ho ha hbase hfew hline hs hplain
theorem bt_all:bootBuiltins "all" = some (.builtin "all"):=by decide
end
section
open PySem.W
end
section
open PySem.W
variable{prog:Program}{w:World}{A:Around}{E:Value->Shared->Prop}{s:Shared}
end
section
variable{X:Cx}
noncomputable def rAllB(K:BD):List V->Hp->VK->Prop:=fun xs H Q=>∃(p:Addr)(bs:List Bool),xs = [.ref p]/\SqL K H p (bs.map V.bl)/\Q (.bl (bs.all id)) H
theorem xf(hc:X.calm=true):gg X (.builtin "all") (rAllB X.K):=by
 intro pins s σ H xs us Q I r h;obtain⟨p,bs,rfl,hq,q⟩:=h;obtain⟨u,rfl,ru⟩:=kZ r
 cases ru
 obtain⟨its,rv,pl,hz⟩:=I.list hq;have hln:=rv.length;rw[BC]at hln;have hlt:p<s.heap.objs.size:=by obtain⟨_,_,q,_⟩:=pl;exact Heap.lt_size q
 refine call_all_walk (wpAny_pyIter_list pl.isList ?_);refine⟨s.heap.objs.size,[s.heap.objs.size,p],[s.heap.objs.size],its.toArray.size,_,_,fun i=>bs.getD i true,rfl,Walks.list (A:=X.A.in1) (I.ok.hd hc) _ p (CA hlt) its.toArray,⟨⟨_,Heap.get?_push_size _ rfl,rfl,rfl⟩,pl.isList.push _⟩,fun i v s' Q' E' hP hQ=>?_,fun h' tk hk=>?_⟩
 ·have hv:its[i]?=some v:=by simpa using hP
  have hi:i<bs.length:=by have:=(BB.mp hv).1;omega
  obtain⟨w,hw,rw'⟩:=rv.get (i:=i) (x:=.bl bs[i]) (by rw[BJ,BA hi];rfl)
  rw[hv]at hw
  cases hw
  cases rw'
  replace hQ:Q' (bs.getD i true) s':=hQ;rw[show bs.getD i true=bs[i] by rw[DJ,BA hi];rfl]at hQ
  exact wpAny_truthy_bool hQ
 ·have ea:((Cz its.toArray.size).all fun i=>bs.getD i true)=bs.all id:=by
   rw[Cm,← hln,Eg,DN,DN];constructor
   ·intro h b hb;obtain⟨i,hi,rfl⟩:=Fq hb;have:=h i (Dt.mpr hi);rw[DJ,BA hi]at this;exact this
   ·intro h i hi;have hi':=Dt.mp hi;rw[DJ,BA hi'];exact h _ (CO hi')
  rw[ea];refine⟨.bl _,H,I.kept (t':=tk) (fun b o e=>hk b o (fun hm=>?_) (Heap.get?_push_of_some _ e)),rfl,q⟩;rw[BR.mp hm]at e;exact Dy _ (Heap.lt_size e)
theorem uz:∀{ws:List Str}{us:List Value},Vals (ws.map V.str) us->∃ l:List (Str×Tok),us=strValues l/\l.map (·.1)=ws
 |[],_,.nil=>⟨[],rfl,rfl⟩
 |w::ws,_,.cons r rr=>by
  obtain⟨t,rfl⟩:=(show ∃ t,_=Value.str w t from r);obtain⟨l,rfl,e⟩:=uz rr;exact⟨(w,t)::l,rfl,by rw[BW,e]⟩
noncomputable def rJoin(K:BD):V->List V->Hp->VK->Prop:=fun x xs H Q=>∃(sep:Str)(a:Addr)(ws:List Str),x=.str sep/\xs = [.ref a]/\SqL K H a (ws.map V.str)/\(ws.map (·.length)).sum+ws.length*sep.length<=1000000/\Q (.str (Str.join sep ws)) H
theorem hV:MtM X "str.join" (rJoin X.K):=by
 intro pins s σ H x vs v us Q I rx rv h;obtain⟨sep,a,ws,rfl,rfl,hq,hl,q⟩:=h;obtain⟨t,rfl⟩:=rx;obtain⟨u,rfl,ru⟩:=rv.one
 cases ru
 obtain⟨its,r,pl,hz⟩:=I.list hq;obtain⟨l,rfl,e⟩:=uz r;have tl:Builtin.Str.tooLong ((l.map (·.1)).toArray.foldl (·+·.length+sep.length) 0)=false:=by
  rw[e,StrLaws.joinTotal];unfold Builtin.Str.tooLong;have:(1000000:Nat)<=sizeLine:=by decide
  exact decide_eq_false (by omega)
 refine call_meets Dr (typeIs_str _ _ _) PySem.F.entry_str_join (PySem.F.args_str_join_2 _ _) (meets_str_join_list sep t a l tl) ⟨pl.isList,?_⟩;have fin:(Made.str (Builtin.Str.glued sep (l.map (·.1)))).post (fun v s'=>EP X pins σ Q v s') s:=⟨joinFit_length tl,.str (Builtin.Str.glued sep (l.map (·.1))),H,I.tok _,⟨_,rfl⟩,by rw[StrLaws.glued_eq_join,e];exact q⟩
 match l,fin,e with
 |[],fin,_=>exact fin
 |[p],_,e=>exact⟨.str p.1,H,I,⟨_,rfl⟩,by subst e;exact q⟩
 |_::_::_,fin,_=>exact fin
noncomputable def rSplit:V->List V->Hp->VK->Prop:=fun x xs H Q=>∃(z y:Str),x=.str z/\xs = [.str y]/\y.length=1/\z.length<=1000000/\∀ l:Addr,H l=none->Q (.ref l) (upd H l (.lst ((Txt.split z y).map V.str)))
theorem iu:∀(ws:List Str)(n:Nat),Vals (ws.map V.str) (strsFrom n ws)
 |[],_=>.nil
 |w::ws,n=>.cons ⟨_,rfl⟩ (iu ws (n+1))
theorem gn:MtM X "str.split" rSplit:=by
 intro pins s σ H x vs v us Q I rx rv h;obtain⟨z,y,rfl,rfl,y1,zl,q⟩:=h;obtain⟨t,rfl⟩:=rx;obtain⟨u,rfl,ru⟩:=rv.one;obtain⟨t',rfl⟩:=ru;have hn:=split_le z y;have zs:z.length<=sizeLine:=Co zl (by decide)
 have ps:∀ ws:List Str,ws.length<=z.length+2->(ws.map V.str).length<=sizeLine:=fun ws h=>by rw[BC];exact Co h (Co (Nat.add_le_add_right zl 2) (by decide))
 by_cases c1:(decide (z.length<y.length)||decide (Builtin.Str.strKind z<Builtin.Str.strKind y))=true
 ·have e:Txt.split z y = [z]:=by unfold Txt.split;rw[if_pos c1]
  rw[e]at q;refine call_meets C3 (typeIs_str _ _ _) E8 (E4 _ _) (meets_str_split_cannot_occur z y t t' c1) ?_;exact⟨.ref _,_,I.laid (t':=s.toks) (fun b o e=>Heap.get?_push_of_some _ e) (BI _) (show bH X.prog X.w _ _ _ (.lst [V.str z]) from⟨by show 1<=sizeLine;decide,[Value.str z t],0,.cons ⟨t,rfl⟩ .nil,Heap.get?_push_size _ rfl⟩),rfl,q _ (I.hok.fresh (BI _))⟩
 ·have c1':(decide (z.length<y.length)||decide (Builtin.Str.strKind z<Builtin.Str.strKind y))=false:=by simpa using c1
  have y0:(y.length == 0)=false:=by rw[y1];rfl
  by_cases c2:(Builtin.Str.occurrences z y 0 z.length (z.length+1)).isEmpty=true
  ·have e:Txt.split z y = [z]:=by unfold Txt.split;rw[if_neg c1,if_pos c2]
   rw[e]at q;refine call_meets C3 (typeIs_str _ _ _) E8 (E4 _ _) (meets_str_split_not_found z y t t' c1' y0 c2) ?_;exact⟨.ref _,_,I.laid (t':=s.toks) (fun b o e=>Heap.get?_push_of_some _ e) (BI _) (show bH X.prog X.w _ _ _ (.lst [V.str z]) from⟨by show 1<=sizeLine;decide,[Value.str z t],0,.cons ⟨t,rfl⟩ .nil,Heap.get?_push_size _ rfl⟩),rfl,q _ (I.hok.fresh (BI _))⟩
  ·have c2':(Builtin.Str.occurrences z y 0 z.length (z.length+1)).isEmpty=false:=by simpa using c2
   have e:Txt.split z y=Builtin.Str.partsBetween z (Builtin.Str.occurrences z y 0 z.length (z.length+1)) y.length:=by unfold Txt.split;rw[if_neg c1,if_neg c2]
   rw[e]at q hn;refine call_meets C3 (typeIs_str _ _ _) E8 (E4 _ _) (meets_str_split_sep z y t t' c1' y0 c2' zs (Co hn (Co (Nat.add_le_add_right zl 2) (by decide)))) ?_
   exact⟨.ref _,_,I.laid (fun b o e=>Heap.get?_push_of_some _ e) (BI _) (show bH X.prog X.w _ _ _ (.lst ((Builtin.Str.partsBetween z (Builtin.Str.occurrences z y 0 z.length (z.length+1)) y.length).map V.str)) from⟨ps _ hn,_,0,iu _ _,Heap.get?_push_size _ rfl⟩),rfl,q _ (I.hok.fresh (BI _))⟩
theorem oG:gg X (.type "int") (fun xs H Q=>∃(z:Str)(n:Int),xs = [.str z]/\PySem.intText? z=some n/\z.length<=640/\Q (.int n) H):=by
 intro pins s σ H xs us Q I r h;obtain⟨z,n,rfl,hn,hl,q⟩:=h;obtain⟨u,rfl,ru⟩:=kZ r;obtain⟨t,rfl⟩:=ru;exact PySem.W.KIN.call_text hn hl ⟨.int n,H,I.tok _,⟨_,rfl⟩,q⟩
noncomputable def Its(x:Str):It:=⟨fun i _=>i<x.cps.size,fun i H v H'=>H'=H/\∃ c,x.cps[i]?=some c/\v=.str ⟨#[c]⟩,fun i _=>x.cps.size<=i⟩
theorem xD{P:Program}{w:World}{K:BD}{tg:Expr}(it:Addr)(x:Str)(t:Tok):Turn P w K tg (Its x) [it] it (fun i h=>h.IsStrIter it "str_ascii_iterator" x t i) where
 mem:=by simp
 obj:=fun i h st b hb=>by
  have e:b=it:=by simpa using hb
  subst e;obtain⟨o,e,c,d⟩:=st;exact⟨o,e,fun v z=>by rw[d]at z;cases z⟩
 keep:=fun i h h' st k=>let ⟨o,e,r⟩:=st;⟨o,k it (by simp) o e,r⟩
 item:=by
  intro X hP hw hK hc i pins s σ H E I hf st hg;subst hP hw hK;obtain⟨f0,f1,f2,f3,f4,f5⟩:=hf it (by simp)
  have hi:i<x.cps.size:=hg;refine wpAny_pyNext_ascii_item st (c:=x.cps[i]) (by simp[hi]) fun h' st' sb=>?_
  have I1:Inv X pins σ H { s with heap:=h',toks:=s.toks+1 }:=I.turned (fun b o hb e=>(sb.2 b hb).trans e) f0 f1 f3 f4 f5;obtain⟨o,e,c,d⟩:=id st';exact⟨_,rfl,Ba (s:={ s with heap:=h',toks:=s.toks+1 }) e c d (by decide) ⟨.str ⟨#[x.cps[i]]⟩,H,I1,⟨_,rfl⟩,⟨rfl,_,by simp[hi],rfl⟩,st',fun b hb=>(hf b hb).1⟩⟩
 done:=by
  intro X hP hw hK hc i pins s σ H E I hf st hg;subst hP hw hK;obtain⟨f0,f1,f2,f3,f4,f5⟩:=hf it (by simp)
  exact wpAny_pyNext_ascii_end (I.ok.hd hc) st (by have:x.cps.size<=i:=hg;simp;omega) fun h' eb=>⟨rfl,I.turned (t':=s.toks) (fun b o hb e=>eb b o hb e) f0 f1 f3 f4 f5⟩
 self:=fun _ _ _ _ _ st h=>wpAny_pyIter_striter_ascii st h
noncomputable def iStr(tl:TE):TI:=fun σ H R=>tl σ H fun v H1=>∃ x:Str,v=.str x/\x.cps.all (· < 128)=true/\R (Its x) H1
theorem pi_str{tg l:Expr}{tl:TE}(hl:PE X l tl):PI X tg l (iStr tl):=by
 intro pins s σ H R I h;refine thn (hl pins s σ H _ I h) fun v s1 ⟨x,H1,I1,r1,q1⟩=>?_;obtain⟨z,rfl,ha,q⟩:=q1;obtain⟨t,rfl⟩:=r1;refine wpAny_pyIter_ascii ha ?_;refine⟨s1.heap.objs.size,[s1.heap.objs.size],_,_,H1,rfl,I1.kept (t':=s1.toks) fun b o e=>Heap.get?_push_of_some _ e,xD _ z t,⟨_,Heap.get?_push_size _ rfl,rfl,rfl⟩,fun b hb=>?_,q⟩;have e:b=s1.heap.objs.size:=by simpa using hb
 subst e;exact I1.fpOk (BI _) (I1.hok.fresh (BI _))
theorem yH{x:Str}{te:TE}{fv:St}{H1:Hp}{QQ:List V->Hp->Prop}(Pv:Nat->List V->Hp->Prop)(hz:x.cps.size<=sizeLine)(h0:Pv 0 [] H1)
  (hs:∀ i c ys H,x.cps[i]?=some c->Pv i ys H->te (some (.str ⟨#[c]⟩)::fv) H fun y H2=>Pv (i+1) (ys++[y]) H2) (hd:∀ ys H,ys.length=x.cps.size->Pv x.cps.size ys H->QQ ys H)
  : lx te fv (Its x) H1 QQ:=by
 refine⟨fun i m ys H=>m=x.cps.size-i/\i<=x.cps.size/\ys.length=i/\Pv i ys H,⟨x.cps.size,by simp,C4 _,rfl,h0⟩,?_⟩
 rintro i m ys H ⟨rfl,hi,hy,p⟩;refine⟨by omega,?_⟩
 by_cases hlt:i<x.cps.size
 ·refine .inr ⟨hlt,fun y H2=>Pv (i+1) (ys++[y]) H2,fun y H2 p2=>⟨x.cps.size-(i+1),by omega,rfl,hlt,by rw[BE,hy];rfl,p2⟩,fun v H' y=>?_⟩
  obtain⟨rfl,c,hc,rfl⟩:=y;exact hs i c ys _ hc p
 ·have e:i=x.cps.size:=by omega
  subst e;exact .inl ⟨BI _,hd ys H hy p⟩
theorem qZ(a:Array Nat):∀(n:Nat)(b:Array Nat),((Dz n a).foldl (·++·) b).size=b.size+n*a.size
 |0,b=>by simp
 |n+1,b=>by
  rw[List.replicate_succ,List.foldl_cons,qZ a n,Array.size_append,Nat.succ_mul];omega
theorem sG:OpR X (binaryOp .Mult) (fun x y H Q=>∃(z:Str)(n:Nat),x=.str z/\y=.int (n:Int)/\1<n/\z.length≠0/\z.length*n<=1000000/\Q (.str ⟨(Dz n z.cps).foldl (·++·) #[]⟩) H):=by
 intro pins s σ H x y v u Q I rx ry h;obtain⟨z,n,rfl,rfl,n1,z0,hz,q⟩:=h;obtain⟨t,rfl⟩:=rx;obtain⟨t',rfl⟩:=ry;have nl:n<=1000000:=Co (Nat.le_mul_of_pos_left n (Nat.pos_of_ne_zero z0)) hz;have zl:z.length<=1000000:=Co (Nat.le_mul_of_pos_right _ (by omega)) hz
 have c1:((n:Int) == 1||z.length == 0)=false:=by
  rw[Bool.or_eq_false_iff];exact⟨by simp;omega,by simpa using z0⟩
 refine P.mul_str (by simp;omega) (fun _ _=>?_) (fun _ _=>?_) ?_
 ·have:(1000000:Int)<=(2^63-1)/(n:Int):=Int.le_ediv_of_mul_le (by omega) (by omega)
  omega
 ·unfold Builtin.Str.tooLong;have:(1000000:Nat)<=sizeLine:=by decide
  rw[Cg];exact decide_eq_false (by omega)
 ·rw[if_neg (by omega),c1,if_neg (by decide),Cg]
  refine⟨?_,.str _,H,I.tok _,⟨_,rfl⟩,q⟩;show((Dz n z.cps).foldl (·++·) #[]).size<=_;rw[qZ];have:(1000000:Nat)<=sizeLine:=by decide
  have e:n*z.cps.size=z.length*n:=Nat.mul_comm _ _;show 0+n*z.cps.size<=_;omega
noncomputable def rPart:V->List V->Hp->VK->Prop:=fun x xs H Q=>∃(z y:Str),x=.str z/\xs = [.str y]/\y.length=1/\z.length<=1000000/\∀ l:Addr,H l=none->Q (.ref l) (upd H l (.tup [.str (Txt.partition z y).1,.str (Txt.partition z y).2.1,.str (Txt.partition z y).2.2]))
theorem nU:MtM X "str.partition" rPart:=by
 intro pins s σ H x vs v us Q I rx rv h;obtain⟨z,y,rfl,rfl,y1,zl,q⟩:=h;obtain⟨t,rfl⟩:=rx;obtain⟨u,rfl,ru⟩:=rv.one;obtain⟨t',rfl⟩:=ru;have y0:(y.length == 0)=false:=by rw[y1];rfl
 have zs:z.length<=sizeLine:=Co zl (by decide)
 refine call_meets F0 (typeIs_str _ _ _) PySem.F.entry_str_partition (PySem.F.args_str_partition_2 _ _) (meets_str_partition z y t t' y0 zs) ?_;unfold Txt.partition at q;revert q
 cases Builtin.Str.occurrences z y 0 z.length 1 with
 |nil =>
  intro q;have o:bH X.prog X.w (upd H s.heap.objs.size (.tup [V.str z,V.str Str.empty,V.str Str.empty])) (s.heap.push { cls:=.type "tuple",data:=.seq [Value.str z t,Value.str Str.empty s.toks,Value.str Str.empty s.toks].toArray }) s.heap.objs.size (.tup [V.str z,V.str Str.empty,V.str Str.empty]):=⟨by show 3<=sizeLine;decide,_,.cons ⟨_,rfl⟩ (.cons ⟨_,rfl⟩ (.cons ⟨_,rfl⟩ .nil)),_,Heap.get?_push_size _ rfl,rfl,0,rfl⟩
  exact⟨.ref _,_,I.laid (fun b o e=>Heap.get?_push_of_some _ e) (BI _) o,rfl,q _ (I.hok.fresh (BI _))⟩
 |cons i r =>
  intro q;have o:bH X.prog X.w (upd H s.heap.objs.size (.tup [V.str (Builtin.Str.strSub z 0 i),V.str y,V.str (Builtin.Str.strSub z (i+y.length) z.length)])) (s.heap.push { cls:=.type "tuple",data:=.seq [Value.str (Builtin.Str.strSub z 0 i) s.toks,Value.str y t',Value.str (Builtin.Str.strSub z (i+y.length) z.length) (s.toks+1)].toArray }) s.heap.objs.size (.tup [V.str (Builtin.Str.strSub z 0 i),V.str y,V.str (Builtin.Str.strSub z (i+y.length) z.length)]):=⟨by show 3<=sizeLine;decide,_,.cons ⟨_,rfl⟩ (.cons ⟨_,rfl⟩ (.cons ⟨_,rfl⟩ .nil)),_,Heap.get?_push_size _ rfl,rfl,0,rfl⟩
  exact⟨.ref _,_,I.laid (fun b o e=>Heap.get?_push_of_some _ e) (BI _) o,rfl,q _ (I.hok.fresh (BI _))⟩
end
theorem xk{x:Str}{c i:Nat}:StrLaws.At x ⟨#[c]⟩ x.length i↔x.cps.toList[i]?=some c:=by
 have e:(x.cps.extract i (i+1)).toList=x.cps.toList[i]?.toList:=by
  rw[DS];show(x.cps.toList.drop i).take (i+1-i)=_;rw[E9,List.take_one,List.head?_drop]
 have k:StrLaws.At x ⟨#[c]⟩ x.length i↔i+1<=x.cps.size/\(x.cps.extract i (i+1) == #[c])=true:=Iff.rfl;rw[k,beq_iff_eq,← FO,e]
 cases h:x.cps.toList[i]? with
 |none=>simp
 |some d =>
  have:=(BB.mp h).1;rw[Dn]at this;simp;omega
theorem xW{c:Nat}{a r:List Nat}{x:Str}(hc:c∉a)(hx:x.cps.toList=a++c::r):(Txt.partition x ⟨#[c]⟩).1=⟨a.toArray⟩:=by
 have ha:StrLaws.At x ⟨#[c]⟩ x.length a.length:=xk.mpr (by rw[hx,BH (BI _),Ck];rfl)
 unfold Txt.partition;rcases StrLaws.occ_head x ⟨#[c]⟩ 1 (BI _) with⟨_,n⟩ | ⟨i,r',e,h1,h2⟩
 ·exact absurd ha (n _)
 ·rw[e];have ei:i=a.length:=by
   rcases Nat.lt_trichotomy i a.length with z | z | z
   ·have q:=xk.mp h1
    rw[hx,BL z]at q;exact absurd (BF q) hc
   ·exact z
   ·exact absurd ha (h2 _ z)
  subst ei;show Builtin.Str.strSub x 0 a.length=_;refine Str.ext' (FO.mp ?_);show(x.cps.extract 0 a.length).toList=a.toArray.toList;rw[DS];show(x.cps.toList.drop 0).take (a.length-0)=_;rw[hx];simp
theorem xV{c:Nat}{x:Str}(hc:c∉x.cps.toList):(Txt.partition x ⟨#[c]⟩).1=x:=by
 unfold Txt.partition;rcases StrLaws.occ_head x ⟨#[c]⟩ 1 (BI _) with⟨e,_⟩ | ⟨i,r',e,h1,_⟩
 ·rw[e]
 ·exact absurd (BF (xk.mp h1)) hc
end L2
namespace L2
open PySem PySem.Spec PyProof.Rows PySem.Calls Builtin Builtin.ObjectAttr Builtin.Getset_descriptor
noncomputable def gD(x D:Addr)(h:Heap):Prop:=∃ o,h.get? x=some o/\o.cls=.ref D
theorem gD.type{x D:Addr}{h:Heap}(M:Model)(I:gD x D h):E7 M h (typeOf (.ref x)) (.ref D):=by
 obtain⟨o,a,b⟩:=I;exact b▸(PySem.W.Looks.ld a).andThen .now
structure ErC(K:BD)(D:Addr):Prop where
 ga:B8 K (.ref D) "__getattribute__" = some (some (.builtin "BaseException.__getattribute__"))
 gt:B8 K (.ref D) "__getattr__" = some none
 hb:Dc K D (.type "BaseException")=some true
 hd:Dp K D=true
 ha:B8 K (.ref D) "__class__" = some (some (.builtin "object.__class__"))
 hn:Fz K (.builtin "object.__class__") "__get__" = some (some (.builtin "getset_descriptor.__get__"))
 tk:FR K (.builtin "object.__class__")=some true
 hm:Dc K D (.type "object")=some true
section
variable{prog:Program}{w:World}{A:Around}{E:Value->Shared->Prop}{s:Shared}{K:BD}{x D:Addr}
theorem AY{M:Model}{h:Heap}(X:K.In h)(e:ErC K D):E7 M h (find (.ref x) (.ref D) "__class__") (.bind (.builtin "getset_descriptor.__get__") (.builtin "object.__class__")):=by
 have L1:=Dv (M:=M) X e.ha;have L2:=PySem.W.looks_specialIn (M:=M) X e.hn;have L3:=PySem.W.looks_takesIn (M:=M) X e.tk;refine L1.andThen (L2.andThen ?_);exact(show E7 M h (dataDescriptor? (some (.builtin "object.__class__")) (some (.builtin "getset_descriptor.__get__"))) (some (.builtin "getset_descriptor.__get__",.builtin "object.__class__")) from L3.andThen .now).andThen (PySem.W.Looks.tag .now)
theorem kd_get{R:Except Value Flow->Shared->Prop}{tp:Value}(X:K.In s.heap)(I:gD x D s.heap)(e:ErC K D)
  (h:R (.ok (.ret (.ref D))) s):codeAny (model prog w) A (.call (.builtin "getset_descriptor.__get__") ⟨[.builtin "object.__class__",.ref x,tp],[]⟩) R s:=by
 obtain⟨hh,g,dr,t,os⟩:=s;have L0:=I.type (model prog w);have L1:=Fo (M:=model prog w) X e.hm;refine codeAny_call_builtin PySem.W.KF.slot_gs.plain PySem.W.KF.entry_gs (PySem.W.KF.slot_gs.check _ _ _ _ _ _ _ _ PySem.W.KF.type_class (PySem.W.KF.args_gs _ _ _) ?_);unfold Builtin.«getset_descriptor.__get__» descrGet;rw[PySem.W.dga_obj];refine wpAny_bind (wpAny_pure ?_);unfold descrGetter descrCheckInstance descrNameAndClass isInstance;simp only[PySem.W.KF.owner_class];repeat lk
 refine⟨Code.quiet_builtin _ (by decide),codeAny_builtin PySem.W.KF.entry_class ?_⟩
 unfold Builtin.«object.__class__» shownTypeOf;repeat lk
 exact h
theorem rJ{M:Model}{nameV:Value}{Q:Unit->Shared->Prop}(X:K.In s.heap)(I:gD x D s.heap)(e:ErC K D)(hq:Q () s):wpAny M A (checkBuiltinCall "BaseException.__getattribute__" ⟨[.ref x,nameV],[]⟩) Q E s:=by
 obtain⟨hh,g,d,t,os⟩:=s;have hk:builtinKind "BaseException.__getattribute__" = some .slot:=by decide
 have hsplit:splitId "BaseException.__getattribute__" = some ("BaseException","__getattribute__"):=by decide
 have ha:=F.args_bexc_ga (.ref x) nameV;have L0:=I.type M;have L1:=Fo (M:=M) X e.hb;have LI:E7 M hh (isInstance (.ref x) (.type "BaseException")) true:=L0.andThen L1;simp only[checkBuiltinCall,hk,hsplit];refine wpAny_bind (LI.at ?_);repeat (first | assumption | wp_step)
theorem yr{tk:Tok}{Q:Fin->Shared->Prop}(X:K.In s.heap)(I:gD x D s.heap)(e:ErC K D)(h:Q (.done (.ret (.ref D))) s):wpAny (model prog w) A (Builtin.«object.__getattribute__» ⟨[.ref x,.str "__class__" tk],[]⟩) Q E s:=by
 obtain⟨hh,g,d,t,os⟩:=s;have L0:=I.type (model prog w);have L2:=AY (x:=x) (M:=model prog w) X e;unfold Builtin.«object.__getattribute__»;repeat (first | assumption | with_reducible refine L0.at ?_ | with_reducible refine L2.at ?_ | with_reducible refine wpAny_call (kd_get (K:=K) X I e ?_) | wp_step)
theorem yt{Q:Option Value->Shared->Prop}(X:K.In s.heap)(I:gD x D s.heap)(e:ErC K D)(h:Q (some (.ref D)) { s with toks:=s.toks+1 }):wpAny (model prog w) A (getAttr? (.ref x) "__class__") Q E s:=by
 obtain⟨hh,g,d,t,os⟩:=s;have L0:=I.type (model prog w);have L1:=Dv (M:=model prog w) X e.ga;have L3:=Dv (M:=model prog w) X e.gt;have f3:=F.excAttr_ValueError.ga.bind (.ref x);unfold getAttr? getAttrBy? getAttrBy;refine wpAny_bind (wpAny_mkText (wpAny_bind (wpAny_attempt (wpAny_holding (wpAny_bind (L0.at (wpAny_bind (L1.at ?_))))))));show wpAny _ _ (getAttrByItsOwn _ _ _ _ _ _) _ _ _;unfold getAttrByItsOwn;refine wpAny_bind (show wpAny _ _ (typeLookup _ _) _ _ _ from L3.at ?_);refine wpAny_bind (wpAny_attempt (wpAny_holding ?_));show wpAny _ _ (boundAndCalled _ _ _) _ _ _;unfold boundAndCalled;rw[f3];refine wpAny_bind (wpAny_pure ?_);refine wpAny_call (codeAny_call_builtin F.excAttr_ValueError.ga.plain F.entry_bexc_ga (rJ (s:=⟨hh,g,d,t+1,os⟩) X I e (yr (s:=⟨hh,g,d,t+1,os⟩) X I e ?_)));exact wpAny_mono (PySem.W.handed_on rfl (Q:=fun v s'=>v=.ref D/\s'=⟨hh,g,d,t+1,os⟩) ⟨rfl,rfl⟩) (fun v s'' hv=>by obtain⟨rfl,rfl⟩:=hv;exact wpAny_pure h) (fun _ _ z=>z)
theorem rG(e:ErC K D):PySem.W.KitX K (.ref x) (.ref D) (gD x D) where
 ty:=fun M _ _ I=>I.type M
 it:=fun _ _ X _=>by
  obtain⟨cdD,hcD,_⟩:=Fe e.hd;unfold Gb at hcD;split at hcD
  ·rename_i c' d' cd' sl' ho;intro A' Q' E' s' k q;unfold isType loadHead;exact wpAny_bind (wpAny_loadPart (k _ _ (X _ _ ho)) (wpAny_pure q))
  ·cases hcD
 ne:=fun h tp dd its n sl X htp=>by
  obtain⟨cdD,hcD,_⟩:=Fe e.hd;refine FH.mpr fun q=>?_;have e:D=tp:=Value.ref.inj (beq_iff_eq.mp q);subst e;unfold Gb at hcD;split at hcD
  ·rename_i c' d' cd' sl' ho;have z:=(X _ _ ho).symm.trans htp
   cases z
  ·cases hcD
 ca:=fun X I k=>yt X I e k
end
end L2
namespace L2
open PySem PySem.Spec PyProof.Rows
structure DK(h h':Heap):Prop where
 le:h.objs.size<=h'.objs.size
 d:∀(e:Addr)(o':Obj),e<h.objs.size->h'.get? e=some o'->∃ o,h.get? e=some o/\o'.dict=o.dict
theorem DK.rfl'(h:Heap):DK h h:=⟨BI _,fun _ o' _ q=>⟨o',q,rfl⟩⟩
theorem DK.trans{a b c:Heap}(x:DK a b)(y:DK b c):DK a c:=⟨Co x.le y.le,fun e o' he q=>by
 obtain⟨o1,q1,d1⟩:=y.d e o' (Cb he x.le) q;obtain⟨o,q0,d0⟩:=x.d e o1 he q1
 exact⟨o,q0,d1.trans d0⟩⟩
theorem DK.upd{h:Heap}{a:Addr}{f:Obj->Obj}(ha:(h.get? a).isSome)(hf:∀ o,(f o).dict=o.dict):DK h (h.update a f):=by
 refine⟨FJ (Heap.size_update ..).symm,fun e o' he q=>?_⟩;by_cases z:a=e
 ·subst z;obtain⟨o,q0⟩:=EC.mp ha;obtain⟨q1,_⟩:=Heap.get?_some_iff.mp q;obtain⟨q2,_⟩:=Heap.get?_some_iff.mp q0;refine⟨o,q0,?_⟩
  cases h
  simp only[Heap.update,Array.getElem?_modify,if_true]at q1;simp only at q2;rw[q2]at q1
  cases q1
  exact hf o
 ·rw[Heap.get?_update_other _ _ z]at q;exact⟨o',q,rfl⟩
theorem DK.psh(h:Heap)(o:Obj):DK h (h.push o):=by
 refine⟨by rw[Heap.size_push];exact Ez _,fun e o' he q=>?_⟩
 rw[Heap.get?_push_ne _ _ _ (CA he)]at q;exact⟨o',q,rfl⟩
noncomputable def aX{α:Type}:Sem α->Prop
 |.pure _=>True
 |.raise _=>True
 |.unsupported _=>True
 |.finish _=>True
 |.rule _ k=>aX (k ())
 |.at _ k=>aX (k ())
 |.load _ _ k=>∀ o,aX (k o)
 |.update _ _ f k=>(∀ o,(f o).dict=o.dict)/\aX (k ())
 |.alloc _ k=>∀ a,aX (k a)
 |.loadIfAlive _ k=>∀ o,aX (k o)
 |.point _ k=>aX (k ())
 |.register _ _=>True
 |.fresh k=>∀ t,aX (k t)
 |.ask k=>∀ t,aX (k t)
 |.choose _ _ k=>∀ t,aX (k t)
 |.os _ _ k=>∀ t,aX (k t)
 |.call _ _ _ _ _=>False
 |.handled _ k=>∀ t,aX (k t)
 |.newGen _ k=>∀ t,aX (k t)
 |.genState _ k=>∀ t,aX (k t)
 |.resume _ _ _ _=>False
 |.yield _ _ _ _=>True
 |.stack k=>∀ t,aX (k t)
 |.fork _ _=>True
 |.thread k=>∀ t,aX (k t)
 |.await _ _ _ _ _=>True
theorem aX.bind{α β:Type}{m:Sem α}{f:α->Sem β}(hm:aX m)(hf:∀ a,aX (f a)):aX (m >>= f):=by
 show aX (m.bind f);induction m with
 |pure a=>exact hf a
 |raise e=>exact True.intro
 |unsupported w=>exact True.intro
 |finish e=>exact True.intro
 |rule t k ih=>exact ih () hm
 | «at» p k ih=>exact ih () hm
 |load a p k ih=>exact fun o=>ih o (hm o)
 |update a p g k ih=>exact⟨hm.1,ih () hm.2⟩
 |alloc o k ih=>exact fun a=>ih a (hm a)
 |loadIfAlive a k ih=>exact fun o=>ih o (hm o)
 |point l k ih=>exact ih () hm
 |register a k ih=>exact True.intro
 |fresh k ih=>exact fun o=>ih o (hm o)
 |ask k ih=>exact fun o=>ih o (hm o)
 |choose s n k ih=>exact fun o=>ih o (hm o)
 |os q l k ih=>exact fun o=>ih o (hm o)
 |call c h g l k ih=>exact hm.elim
 |handled o k ih=>exact fun o=>ih o (hm o)
 |newGen c k ih=>exact fun o=>ih o (hm o)
 |genState g k ih=>exact fun o=>ih o (hm o)
 |resume g r l k ih=>exact hm.elim
 |yield v g l k ih=>exact True.intro
 |stack k ih=>exact fun o=>ih o (hm o)
 |fork c k ih=>exact True.intro
 |thread k ih=>exact fun o=>ih o (hm o)
 |await a t d l k ih=>exact True.intro
theorem yA{α:Type}{M:Model}{Γ:PySem.Ctx}(m:Sem α)(hm:aX m)(Q:α->Pos->Shared->Prop)(E:Value->Pos->Shared->Prop)(p:Pos)(s:Shared)(h:Sem.wp M Γ m Q E p s) :
  Sem.wp M Γ m (fun a p' s'=>Q a p' s'/\DK s.heap s'.heap) (fun e p' s'=>E e p' s'/\DK s.heap s'.heap) p s:=by
 have go:∀{m:Sem α}{p:Pos}{s s1:Shared},DK s.heap s1.heap->Sem.wp M Γ m (fun a p' s'=>Q a p' s'/\DK s1.heap s'.heap) (fun e p' s'=>E e p' s'/\DK s1.heap s'.heap) p s1->Sem.wp M Γ m (fun a p' s'=>Q a p' s'/\DK s.heap s'.heap) (fun e p' s'=>E e p' s'/\DK s.heap s'.heap) p s1 :=
  fun{m p s s1} d z=>Sem.wp_mono M Γ m (fun a p' s' q=>⟨q.1,d.trans q.2⟩) (fun a p' s' q=>⟨q.1,d.trans q.2⟩) p s1 z
 induction m generalizing p s with
 |pure a=>rw[Sem.wp]at h ⊢;exact⟨h,DK.rfl' _⟩
 |raise e=>rw[Sem.wp]at h ⊢;exact⟨h,DK.rfl' _⟩
 |unsupported w=>rw[Sem.wp]at h;exact h.elim
 |finish e=>rw[Sem.wp]at h;exact h.elim
 |rule t k ih=>rw[Sem.wp]at h ⊢;exact ih () hm p s h
 | «at» p' k ih=>rw[Sem.wp]at h ⊢;exact ih () hm p' s h
 |load a pt k ih=>rw[Sem.wp]at h ⊢;obtain⟨o,e,h⟩:=h;exact⟨o,e,ih o (hm o) p s h⟩
 |update a pt g k ih=>rw[Sem.wp]at h ⊢;exact⟨h.1,go (DK.upd h.1 hm.1) (ih () hm.2 p _ h.2)⟩
 |alloc o k ih=>rw[Sem.wp]at h ⊢;exact go (DK.psh _ _) (ih _ (hm _) p _ h)
 |loadIfAlive a k ih=>rw[Sem.wp]at h ⊢;exact ih _ (hm _) p s h
 |point l k ih=>rw[Sem.wp]at h ⊢;exact ih () hm p s h
 |register a k ih=>rw[Sem.wp]at h;exact h.elim
 |fresh k ih=>rw[Sem.wp]at h ⊢;exact ih _ (hm _) p _ h
 |ask k ih=>rw[Sem.wp]at h ⊢;exact ih _ (hm _) p s h
 |choose sr n k ih=>rw[Sem.wp]at h ⊢;exact⟨h.1,ih _ (hm _) p _ h.2⟩
 |os q l k ih=>rw[Sem.wp]at h ⊢;exact ih _ (hm _) p _ h
 |call c hh g l k ih=>exact hm.elim
 |handled o k ih=>rw[Sem.wp]at h ⊢;exact ih _ (hm _) p s h
 |newGen c k ih=>rw[Sem.wp]at h ⊢;exact ih _ (hm _) p _ h
 |genState g k ih=>rw[Sem.wp]at h ⊢;obtain⟨o,e,h⟩:=h;exact⟨o,e,ih _ (hm _) p s h⟩
 |resume g r l k ih=>exact hm.elim
 |yield v g l k ih=>rw[Sem.wp]at h;exact h.elim
 |stack k ih=>rw[Sem.wp]at h ⊢;exact ih _ (hm _) p s h
 |fork c k ih=>rw[Sem.wp]at h;exact h.elim
 |thread k ih=>rw[Sem.wp]at h ⊢;exact ih _ (hm _) p s h
 |await a t d l k ih=>rw[Sem.wp]at h;exact h.elim
theorem gj{α:Type}{M:Model}{A:Around}{m:Sem α}(hm:aX m){Q:α->Shared->Prop}{E:Value->Shared->Prop}{s:Shared}(h:wpAny M A m Q E s):wpAny M A m (fun a s'=>Q a s'/\DK s.heap s'.heap) (fun e s'=>E e s'/\DK s.heap s'.heap) s :=
 fun Γ p hΓ=>yA m hm _ _ p s (h Γ p hΓ)
theorem bj{α:Type}(a:α):aX (pure a:Sem α):=True.intro
theorem oq{α:Type}(w:String):aX (PySem.unsupported w:Sem α):=True.intro
theorem cH{α:Type}{c:Prop} [Decidable c] {a b:Sem α} (ha:aX a) (hb:aX b):aX (if c then a else b):=by split<;>assumption
theorem jg(a:Addr):aX (load a):=fun _=>True.intro
theorem h7:aX stack:=fun _=>True.intro
theorem lj(v:Value):aX (fieldsOf v):=by
 unfold fieldsOf
 cases v with
 |ref a =>
  refine aX.bind (jg a) fun o=>?_
  cases o.data<;>exact True.intro
 |_=>exact True.intro
theorem fB(v:Value)(i:Nat):aX (field v i):=by
 unfold field;refine aX.bind (lj v) fun vs=>?_
 cases vs[i]?<;>exact True.intro
theorem eJ(v:Value)(i:Nat)(x:Value):aX (setField v i x):=by
 unfold setField
 cases v with
 |ref a =>
  show aX (updateField a i x);unfold updateField;refine aX.bind (jg a) fun o=>?_
  cases o.data with
  |fields vs =>
   refine cH ?_ (oq _);refine⟨fun o=>?_,True.intro⟩;unfold Obj.mapFields;split<;>rfl
  |_=>exact True.intro
 |_=>exact True.intro
theorem dX(e:Value)(f:Option Addr):aX (setFlight e f):=by
 unfold setFlight;refine aX.bind (fB e 1) fun tb=>?_;exact cH (eJ _ _ _) (bj _)
theorem kK:∀ l:List Env,aX (readyFrames l)
 |[]=>True.intro
 |env::outer=>by
  unfold readyFrames
  cases env.frame with
  |none=>exact True.intro
  |some f =>
   refine aX.bind (jg f) fun o=>?_;refine cH (bj _) ?_;refine aX.bind ?_ fun i=>aX.bind ?_ fun b=>aX.bind ⟨fun o=>rfl,True.intro⟩ fun _=>kK outer
   ·unfold behindIsImport;refine cH (bj _) (cH (bj _) (aX.bind (fB _ _) fun _=>bj _))
   ·unfold keptBack
    cases outer with
    |nil=>exact cH (bj _) (aX.bind (by unfold underTheClaimsCaller;exact aX.bind h7 fun _=>bj _) fun _=>bj _)
    |cons c r=>exact bj _
theorem mQ(env:Env):aX (Fu env):=by
 unfold Fu frameObject frameEnvs;refine aX.bind (aX.bind h7 fun _=>bj _) fun l=>aX.bind ?_ fun o=>?_
 ·cases (l.dropWhile fun x=>x.frame != env.frame) with
  |nil=>exact bj _
  |cons e r=>exact aX.bind (kK _) fun _=>bj _
 ·cases o<;>exact True.intro
theorem qp(f:Addr)(b:Bool):aX (entryPlaceOf f b):=by
 unfold entryPlaceOf;refine aX.bind h7 fun acts=>?_;split<;>exact True.intro
theorem dY(e:Value)(env:Env):aX (noteFrame e env):=by
 unfold noteFrame
 cases env.frame with
 |none=>exact True.intro
 |some f =>
  refine aX.bind (fB _ _) fun head=>?_
  have last:aX (do
    let a ← Fu env
    let pl ← entryPlaceOf f (head != .none)
    let b ← EntryCells.newEntry head a .none (rawInt f) .none pl
    setField e 1 b):=by
   refine aX.bind (mQ env) fun a=>aX.bind (qp _ _) fun pl=>aX.bind ?_ fun b=>eJ _ _ _;unfold EntryCells.newEntry newFields newObj;dsimp only;have nw:∀ d:Data,aX (newObjAsIs (.type "traceback") d):=fun d=>aX.bind (fun _=>True.intro) fun _=>bj _;exact cH (aX.bind (oq _) fun _=>nw _) (nw _)
  refine cH (aX.bind (fB _ _) fun z=>cH (bj _) (aX.bind (eJ _ _ _) fun _=>last)) last
theorem iD(env:Env)(e:Value):aX (leaving env e):=aX.bind (dY e env) fun _=>dX e none
noncomputable def Xd(h:Heap)(x:Addr)(d:Option Addr):Prop:=∃ oe,h.get? x=some oe/\oe.dict=d
theorem Xd.dk{h h':Heap}{x:Addr}{d:Option Addr}(z:Xd h x d)(k:DK h h')(ex:∃ o,h'.get? x=some o):Xd h' x d:=by
 obtain⟨oe,e,hd⟩:=z;obtain⟨o',e'⟩:=ex;obtain⟨o,e2,d2⟩:=k.d x o' (Heap.lt_size e) e';rw[e]at e2
 cases e2
 exact⟨o',e',d2.trans hd⟩
theorem Trc.there{h:Heap}{x T:Addr}{C:Value}(t:Trc h x C T):∃ o,h.get? x=some o:=by
 obtain⟨oe,_,_,_,_,he,_⟩:=t;exact⟨oe,he⟩
noncomputable def CXd(P:Program)(w:World):CXT:=fun outer H s E e s'=>∃(x:Addr)(C:Value)(T:Addr)(H':Hp)(d:Option Addr),e=.ref x/\s'.os=s.os/\AllBare s'.gens/\Un (frs outer) [] H H' s.heap s'.heap/\HOk P w H' s'.heap /\
 s.heap.get? x=none/\s.heap.get? T=none/\H' x=none/\H' T=none/\Trc s'.heap x C T/\Xd s'.heap x d/\E C d H'
noncomputable abbrev WKD:=Value->Option Addr->St->Hp->Prop
noncomputable def WshD(X:Cx)(W:WKD):Prop:=∀(pins:List (Addr×Obj))(σ:St)(H:Hp)(s:Shared)(x:Addr)(C:Value)(d:Option Addr),Inv X pins σ H s->XA X pins H s x C->Xd s.heap x d->W C d σ H->X.xe (.ref x) s
theorem bp{P:Program}{w:World}{K:BD}{mg:Str->Option Value}{base:Heap}{N:List Str}{qual:Str}{scope:Scope}{f:Addr}{cd:Value}{A:Around}{outer:List Env}{s₀:Shared}{H₀:Hp}{E:XK} :
  WshD (cxOf (CXd P w) P w K mg base N qual scope f cd A outer s₀ H₀ E) (fun C d _ H=>E C d H):=fun pins σ H s x C d I xa z hE=>by
 show wpAny (model P w) (A.deeper (envOfC qual scope s₀.heap.objs.size f cd)) (leaving (envOfC qual scope s₀.heap.objs.size f cd) (.ref x)) _ _ s;refine wpAny_mono (gj (iD _ _) (Inv.leave (Q:=fun _ s'=>∃ h' T,s'={ s with heap:=h' }/\Inv (cxOf (CXd P w) P w K mg base N qual scope f cd A outer s₀ H₀ E) pins σ H { s with heap:=h' }/\XOk (cxOf (CXd P w) P w K mg base N qual scope f cd A outer s₀ H₀ E) pins H x/\XOk (cxOf (CXd P w) P w K mg base N qual scope f cd A outer s₀ H₀ E) pins H T/\Trc h' x C T) (E:=fun _ _=>False) I rfl rfl rfl xa fun h' T I' x1 xT tr=>⟨h',T,rfl,I',x1,xT,tr⟩)) ?_ (fun _ _ q=>q.1.elim);rintro _ s' ⟨⟨h',T,rfl,I',x1,xT,tr⟩,dk⟩;exact⟨x,C,T,H,d,rfl,I'.os,I'.bare,I'.base,I'.hok,x1.old,xT.old,x1.trk,xT.trk,tr,z.dk dk tr.there,hE⟩
structure CalD(P:Program)(w:World)(K:BD)(mg:Str->Option Value)(base:Heap)(k:Nat)(x:Str)(ps:List Str)(sp:Sp)(f:Addr)(fd:FuncData):Prop where
 ok:FnOk P w K mg base (CXd P w) k f fd ps sp
 bn:d8 K fd ps []
 mg:mg x=some (.ref f)
 kp:CY K (.ref f)=true
theorem Fun.okD{P:Program}{w:World}{K:BD}{mg:Str->Option Value}{base:Heap}{x qual:Str}{st:Stmt}{f:Addr}{fd:FuncData}{N ps:List Str}{k:Nat}{sp:Sp}(F:Fun K x qual st f fd)(S:aJ N ps (ay st))(len:∀ vs H Q E,sp vs H Q E->vs.length=ps.length)
  (hbody:∀(cdv:Value)(A:Around)(outer:List Env)(s:Shared)(H:Hp)(vs:List V)(Q:VK)(E:XK),Room k (A.deeper (envOfC qual (ay st) s.heap.objs.size f cdv))->sp vs H Q E ->
   ∃ t,PSs (cxOf (CXd P w) P w K mg base N qual (ay st) f cdv A outer s H E) (dy st) t/\t { nx:=fun _ H'=>Q .non H',rt:=Q } (start N vs) H):FnOk P w K mg base (CXd P w) (k+1) f fd ps sp:=by
 obtain⟨oc,od,kV,doc,pm,an,cdv,ct,osl,rfl,lk,hcd⟩:=F.ex;exact fn_of lk hcd S len fun A outer s H vs Q E hr hsp=>hbody cdv A outer s H vs Q E hr hsp
section
variable{X:Cx}{k:Nat}{f C:Addr}{fd:FuncData}{ps:List Str}{sp:Sp}{dvs:List V}{ds:List Value}{W:WKD}{x m:Str}{p pos apos:Pos}{e o:Expr}{es:List Expr}{ta:TE}{t:TA}
theorem WshD.of{pins:List (Addr×Obj)}{σ:St}{H:Hp}{s s':Shared}{v:Value}(ws:WshD X W)(hx:X.ex = [])(I:Inv X pins σ H s)(h:CXd X.prog X.w X.stack H s (fun C d H'=>W C d σ H') v s'):X.xe v s':=by
 obtain⟨x,C,T,H',d,rfl,os,bare,un,hok,nx,nT,tx,tT,tr,z,q⟩:=h;have I':Inv X pins σ H' s':=I.call' os un hok bare fun b z=>absurd z (by simp)
 exact ws pins σ H' s' x C d I' ⟨I.xok hx nx tx,.inr ⟨T,I.xok hx nT tT,tr⟩⟩ z q
theorem Am{pins:List (Addr×Obj)}{σ:St}{H:Hp}{s:Shared}{Q:VK}{us:List Value}{vs:List V}(F:FnOk X.prog X.w X.K X.mg X.base (CXd X.prog X.w) k f fd ps sp)(hr:Room k X.A)(hb:d8 X.K fd ps ds)(hd:Vals dvs ds)(ws:WshD X W)(hx:X.ex = [])
  (I:Inv X pins σ H s) (r:Vals vs us) (h:sp (vs++dvs) H Q (fun C d H'=>W C d σ H')):wpAny (model X.prog X.w) X.A (call (.ref f) us) (EP X pins σ Q) X.xe s:=by
 have r2:Vals (vs++dvs) (us++ds):=r.append hd;have hl:(us++ds).length=ps.length:=by rw[← r2.length];exact F.len _ _ _ _ h
 refine wpAny_call (codeAny_mono (F.run X.A X.stack s H ⟨us,[]⟩ (us++ds) (vs++dvs) Q _ hr I.env0 (hb s us I.kIn hl) r2 h) fun r s' hq=>?_)
 cases r with
 |error e=>exact ws.of hx I hq
 |ok fl =>
  cases fl with
  |ret u=>exact I.after hq
  |next=>exact False.elim hq
  |brk=>exact False.elim hq
  |cont=>exact False.elim hq
noncomputable def ux(sp:Sp)(dvs:List V)(W:WKD)(t:TA):TE:=fun σ H Q=>t σ H fun vs H1=>sp (vs++dvs) H1 Q fun C d H'=>W C d σ H'
theorem cX(F:FnOk X.prog X.w X.K X.mg X.base (CXd X.prog X.w) k f fd ps sp)(hr:Room k X.A)(hg:Gl X x)(hm:X.mg x=some (.ref f))(hk:CY X.K (.ref f)=true)(hb:d8 X.K fd ps ds)(hd:Vals dvs ds)(ws:WshD X W)(hx:X.ex = [])
  (ha:PA X (e::es) t) (hdb:(x == ("__debug__" : Str))=false:=by decide) (he:starEach (e::es) X.env=(false,eval e X.env)::starEach es X.env:=by rfl) (hpl:(backTo pos (starEach es X.env)).any (·.1)=false:=by rfl) :
  PE X (.Call (.Name x p) (e::es) [] pos) (ux sp dvs W t):=by
 intro pins s σ H Q I h;refine wpAny_Call_Name_kw (fU I hg hm ?_ hdb);refine EE (h₀:=X.base) I.ok.mod.kin hk (thn (ha pos pins s σ H _ I h) fun us s1 ⟨vs,H1,I1,r,q⟩=>⟨I1.kIn,?_⟩) he hpl;exact Am F hr hb hd ws hx I1 r q
end
noncomputable def Aa(C:Addr)(W:WKD)(t:TA):TS:=fun _ σ H=>t σ H fun vs H1=>vs.length<=sizeLine/\W (.ref C) none σ H1
theorem dP{X:Cx}{x:Str}{C:Addr}{e:Expr}{es:List Expr}{t:TA}{W:WKD}{np cpos pos:Pos}(ec:ExC X.K C)(hm:X.mg x=some (.ref C))(hg:Gl X x)(ws:WshD X W)(hx:X.ex = [])(hc:X.calm=true)(ha:PA X (e::es) t)
  (he:starEach (e::es) X.env=(false,eval e X.env)::starEach es X.env:=by rfl) (hpl:(backTo cpos (starEach es X.env)).any (·.1)=false:=by rfl) (hdb:(x == ("__debug__" : Str))=false:=by decide) :
  PS X (.Raise (some (.Call (.Name x np) (e::es) [] cpos)) none pos) (Aa C W t):=by
 intro pins s σ H D I h;obtain⟨tl,N,nm,qn,bs,hdct,sn,sub,ab,col,dd,k0,k1,k2,k3,k5,mN,hC,hN,hni,T,_⟩:=wD ec I.ok.mod.kin;have hpl2:(backTo cpos (starEach (e::es) X.env)).any (·.1)=false:=by
  rw[he];show(false||(backTo cpos (starEach es X.env)).any (·.1))=false
  rw[hpl];rfl
 refine wpAny_Raise_call_subT (C:=C) (nm:=nm) (q:=qn) (N:=N) (bs:=bs) (bm:=tl) (hdct:=hdct) (sn:=sn) (sub:=sub) (ab:=ab) (col:=col) (dd:=dd) (k0:=k0) (k1:=k1) (k2:=k2) (k3:=k3) (k5:=k5) Em (mN:=mN) (T.hasType Em.hasBase) (I.ok.hd hc) hpl2 hni (fU I hg hm ⟨rfl,?_⟩ hdb);have z:=ha cpos pins s σ H _ I h;rw[he]at z ⊢;refine Calls.evalArgs_plain (wpAny_mono z (fun us s2 zz=>?_) fun _ _ y=>y);obtain⟨vs,H1,I2,r,hz,q⟩:=zz;refine⟨rfl,by rw[← r.length];exact hz,I2.bk _ _ hC,hN.keeps I2.bk,T.keeps I2.bk,fun h' e' hme=>?_⟩
 obtain⟨t0,ht0,_,_⟩:=hme.there;have I3:Inv X pins σ H1 { s2 with heap:=h' }:=I2.kept (t':=s2.toks) hme.keeps;exact ws pins σ H1 _ e' (.ref C) none I3 ⟨I2.xok hx hme.new (I2.hok.none_of hme.new),.inl ⟨_,_,_,ht0,rfl,rfl,rfl,rfl⟩⟩ ⟨_,ht0,rfl⟩ q
noncomputable def oS(X:Cx)(W:WKD):Prop:=∀(pins:List (Addr×Obj))(σ:St)(H:Hp)(s:Shared)(x T:Addr)(C:Value)(d:Option Addr),Inv X pins σ H s->XOk X pins H x->XOk X pins H T->Trc s.heap x C T->Xd s.heap x d->W C d σ H->X.xe (.ref x) s
section
variable{X:Cx}{k:Nat}{f:Addr}{fd:FuncData}{ps:List Str}{sp:Sp}{dvs:List V}{ds:List Value}{W:WKD}{x:Str}{p pos:Pos}{e:Expr}{es:List Expr}{t:TA}
theorem vv(F:FnOk X.prog X.w X.K X.mg X.base (CXd X.prog X.w) k f fd ps sp)(hr:Room k X.A)(hg:Gl X x)(hm:X.mg x=some (.ref f))(hk:CY X.K (.ref f)=true)(hb:d8 X.K fd ps ds)(hd:Vals dvs ds)(ws:oS X W)(hx:X.ex = [])
  (ha:PA X (e::es) t) (hdb:(x == ("__debug__" : Str))=false:=by decide) (he:starEach (e::es) X.env=(false,eval e X.env)::starEach es X.env:=by rfl) (hpl:(backTo pos (starEach es X.env)).any (·.1)=false:=by rfl) :
  PE X (.Call (.Name x p) (e::es) [] pos) (ux sp dvs W t):=by
 intro pins s σ H Q I h;refine wpAny_Call_Name_kw (fU I hg hm ?_ hdb);refine EE (h₀:=X.base) I.ok.mod.kin hk (thn (ha pos pins s σ H _ I h) fun us s1 ⟨vs,H1,I1,r,q⟩=>⟨I1.kIn,?_⟩) he hpl;have r2:Vals (vs++dvs) (us++ds):=r.append hd;have hl:(us++ds).length=ps.length:=by rw[← r2.length];exact F.len _ _ _ _ q
 refine wpAny_call (codeAny_mono (F.run X.A X.stack s1 H1 ⟨us,[]⟩ (us++ds) (vs++dvs) Q _ hr I1.env0 (hb s1 us I1.kIn hl) r2 q) fun r s' hq=>?_)
 cases r with
 |error e =>
  obtain⟨x,C,T,H',d,rfl,os,bare,un,hok,nx,nT,tx,tT,tr,z,q'⟩:=hq;have I':Inv X pins σ H' s':=I1.call' os un hok bare fun b z=>absurd z (by simp)
  exact ws pins σ H' s' x T C d I' (I1.xok hx nx tx) (I1.xok hx nT tT) tr z q'
 |ok fl =>
  cases fl with
  |ret u=>exact I1.after hq
  |next=>exact False.elim hq
  |brk=>exact False.elim hq
  |cont=>exact False.elim hq
end
section
variable{M:Model}{A:Around}{E:Value->Shared->Prop}{h:Heap}{g:Array GenState}{d:Drawn}{t:Nat}{os:OsState}
theorem Bl{C D:Addr}{nm2 qn2:Str}{N2:Addr}{bs2 bm2:List Value}{hdct2:Bool}{sn2:List Str}{sub2:List Value}{ab2:Bool}{col2:Option Bool}{dd2:Option Addr}{j0 j1 j2 j3 j5:Option Value}{id2:String}{x:Addr}{ob:Obj}{Q:Bool->Shared->Prop}
  (hD:h.get? D=some (excClassObj nm2 qn2 D N2 bs2 bm2 hdct2 sn2 sub2 ab2 col2 dd2 j0 j1 j2 j3 j5 id2)) (hob:h.get? x=some ob) (hcl:ob.cls=.ref C)
  (hDB:(Value.ref D::bm2).contains (.type "BaseException")=true) (lk:E7 M h (isSubtype (.ref C) (.ref D)) true) (hq:Q true ⟨h,g,d,t,os⟩):wpAny M A (excMatches (.ref x) (.ref D)) Q E ⟨h,g,d,t,os⟩:=by
 have ntup:=tc_notTuple;unfold excMatches;repeat (first | (with_reducible refine wpAny_loadPart_at hob ?_;rw[hcl]) | with_reducible refine wpAny_loadPart_at hD ?_ | (with_reducible refine wpAny_isSubtype_exc hD ?_;rw[hDB]) | with_reducible refine lk.at ?_ | wp_step)
 exact hq
end
noncomputable def excD(x C:Addr)(d:Option Addr):HO:=.ext fun h=>∃ o,h.get? x=some o/\o.cls=.ref C/\o.dict=d/\F3 o=true
noncomputable def z8(ie:Nat)(Cs:Addr->Prop)(tb:WKD->TS)(ts:TS):TS:=fun Ds σ H=>tb (fun C d σ1 H1=>∃ c,C=.ref c/\Cs c/\∀ x,H1 x=none->ts { nx:=fun σ2 H2=>Ds.nx (σ2.set ie none) H2,rt:=fun _ _=>False } (σ1.set ie (some (.ref x))) (upd H1 x (excD x c d))) Ds σ H
theorem vh{X:Cx}{body:List Stmt}{b0:Stmt}{suite:List Stmt}{dn en:Str}{np hpos pos:Pos}{D:Addr}{ie:Nat}{Cs:Addr->Prop}{tb:WKD->TS}{ts:TS}(hx:X.ex = [])(hst:X.stack=X.env::X.outer)(hfr:X.env.frame=some X.env.locals)(hN:X.N.Nodup)(hi:X.N[ie]?=some en)(hl:X.env.kindOf en=some .local)
  (hgD:Gl X dn) (hmD:X.mg dn=some (.ref D)) (eD:ExC X.K D) (hCs:∀ c,Cs c->Dc X.K c (.ref D)=some true)
  (hb:∀ pins XE W,oS (X.tried pins XE) W->PSs (X.tried pins XE) body (tb W)) (hs:∀ v,PSs (X.marked v) (b0::suite) ts) (hdb:(dn == ("__debug__" : Str))=false:=by decide) :
  PS X (.Try body [.ExceptHandler (some (.Name dn np)) (some en) (b0::suite) hpos] [] [] pos) (z8 ie Cs tb ts):=by
 intro pins s σ H Ds I h;refine wpAny_Try_except ?_;refine wpAny_mono (hb pins (fun e s₁=>wpAny (model X.prog X.w) X.A (noteFrame e X.env) (fun _ s₂=>wpAny (model X.prog X.w) X.A (setFlight e none) (fun _ s₃=>wpAny (model X.prog X.w) X.A (handleBy e X.env [.ExceptHandler (some (.Name dn np)) (some en) (b0::suite) hpos]) (SP X pins Ds) X.xe s₃) X.xe s₂) X.xe s₁) _ ?_ [] s σ H Ds I.tried h) (fun f s1 q=>?_) fun _ _ z=>z
 ·intro pins' σ1 H1 s1 x T C d I1 xx xT tr zd hw;obtain⟨c,rfl,hc,hts⟩:=hw;have I2:Inv X pins σ1 H1 s1:=I1.untried;have x2:XOk X pins H1 x:=xx.untried;have T2:XOk X pins H1 T:=xT.untried;have frm:X.A.frames=some (X.env::X.outer):=by rw[← hst];exact I2.ok.frames
  have fly:∀{h:Heap}{T:Addr},Inv X pins σ1 H1 { s1 with heap:=h }->Trc h x (.ref c) T->∃ a0,Heap.FlyingW (hidX X h [x,T]) (X.env::X.outer) x (.ref c) a0 h:=fun{h T} J tr=>by
   obtain⟨oe,vs,a0,oT,ts,he,hcl,h0,hd,h1,hTe,hT,hdT,h3⟩:=tr;exact⟨a0,oa _ _,dH (by simp),hst▸J.hidF [x,T],⟨oe,vs,T,oT,ts,he,⟨hcl,h0⟩,hd,h1,dH (by simp),hTe,hT,hdT,h3⟩⟩
  have two:∀{T:Addr},XOk X pins H1 T->∀ b∈[x,T],XOk X pins H1 b:=fun{T} hT b hb=>by
   rcases BG.mp hb with e | hb
   ·rw[e];exact x2
   ·have e:b=T:=by simpa using hb
    rw[e];exact hT
  obtain⟨a0,fl⟩:=fly (h:=s1.heap) I2 tr;refine wpAny_mono (gj (dY _ _) (wpAny_looks_onW (Q:=fun _ s'=>∃ h4,s'={ s1 with heap:=h4 }/\Heap.HeldW (hidX X s1.heap [x,T]) (X.env::X.outer) x (.ref c) a0 X.env.locals h4/\s1.heap.UpToSlots h4) (E:=fun _ _=>False) frm hfr fl fun h4 a b=>⟨h4,rfl,a,b⟩)) ?_ (fun _ _ q=>q.1.elim);rintro _ s4 ⟨⟨h4,rfl,held4,up4⟩,dk4⟩;refine wpAny_mono (gj (dX _ _) (wpAny_landsW (Q:=fun _ s'=>∃ h5,s'={ s1 with heap:=h5 }/\Heap.FlyingW (hidX X s1.heap [x,T]) (X.env::X.outer) x (.ref c) a0 h5/\h4.UpToSlots h5) (E:=fun _ _=>False) held4 fun h5 a b=>⟨h5,rfl,a,b⟩)) ?_ (fun _ _ q=>q.1.elim);rintro _ s5 ⟨⟨h5,rfl,fl5,up5⟩,dk5⟩;obtain⟨I5,T5,xT5,tr5⟩:=I2.left hx (two T2) fl5.1 fl5.2.2.2 (up4.trans up5);have z5:Xd h5 x d:=zd.dk (DK.trans (b:=h4) dk4 dk5) tr5.there;refine wpAny_handleBy_cons (codeAny_handlers_test (Calls.Name_function_global I5.ok.kind hgD (Calls.loadGlobal_global (by rw[I5.ok.glob];exact I5.mod.glob.keeps I5.bk) hmD ?_) hdb)) (by intro q;cases q)
  obtain⟨_,_,_,_,_,_,_,_,_,_,_,_,_,_,_,_,_,hD,_,_,TD,_⟩:=wD eD I5.kIn;have hDB:=TD.hasType (X:="BaseException") (b:=true) rfl;obtain⟨ob,_,_,_,_,hob,hcl,_⟩:=id tr5;refine Bl hD hob hcl (by rw[Fy,hDB,Bool.or_true]) (Fo I5.kIn (hCs c hc)) ?_
  refine codeAny_handlers_suite_as ?_;obtain⟨a5,fl5'⟩:=fly I5 tr5;refine wpAny_mono (gj (dX _ _) (lands_againW (Q:=fun _ s'=>∃ h6,s'={ s1 with heap:=h6 }/\Heap.FlyingW (hidX X h5 [x,T5]) (X.env::X.outer) x (.ref c) a5 h6/\h5.UpToSlots h6) (E:=fun _ _=>False) (s:={ s1 with heap:=h5 }) fl5' fun h6 a b=>⟨h6,rfl,a,b⟩)) ?_ (fun _ _ q=>q.1.elim);rintro _ s6 ⟨⟨h6,rfl,fl6,up6⟩,dk6⟩;obtain⟨I6,T6,xT6,tr6⟩:=I5.left hx (two xT5) fl6.1 fl6.2.2.2 up6;have z6:Xd h6 x d:=z5.dk dk6 tr6.there;obtain⟨oe,vs6,_,_,_,he,hcl6,_,hd6,_⟩:=id tr6;have hnc:F3 oe=true:=by unfold F3;rw[hd6]
  have hdd:oe.dict=d:=by
   obtain⟨o2,e2,d2⟩:=z6;rw[he]at e2
   cases e2
   exact d2
  have I7:=I6.xtrack (o:=excD x c d) x2 ⟨⟨oe,he,hcl6,hdd,hnc⟩,⟨oe,he⟩,fun h1 h2 ⟨o,z1,z2⟩ kk=>⟨o,kk o z1,z2⟩⟩;refine jK I7 hN hi (.inl hl) (v:=.ref x) rfl (fun s8 I8=>?_) (.inr hl);refine wpAny_mono (hs (.ref x) pins s8 _ _ _ (I8.marked _) (hts x x2.trk)) (fun f s9 q9=>?_) fun _ _ z=>z.elim
  cases f with
  |next =>
   obtain⟨σ9,H9,I9,q9⟩:=q9;have I9':Inv X pins σ9 H9 s9:=Inv.unmarked (hd:=I2.ok.hd) (fr:=I2.ok.frames) I9;obtain⟨m,hm⟩:=I9'.loc;refine wpAny_nameGoes_keeps hl hm.1 (by rw[I9'.ok.kind];rfl) fun h' v hn hss=>?_
   exact⟨_,_,I9'.gone hN hi hm hn hss,q9⟩
  |brk=>obtain⟨_,_,_,z⟩:=q9;exact z.elim
  |cont=>obtain⟨_,_,_,z⟩:=q9;exact z.elim
  |ret u=>obtain⟨_,_,_,_,_,z⟩:=q9;exact z.elim
 ·have q':=SP.untried q
  cases f with
  |next=>exact wpAny_execs_nil q'
  |brk=>exact q'
  |cont=>exact q'
  |ret u=>exact q'
end L2
namespace L2
open PySem PySem.Spec PyProof.Rows PySem.Calls Builtin Builtin.ObjectAttr
noncomputable def oo(K:BD)(C fI:Addr):Bool:=match K.lookup C with
 |some ⟨.type "type",_,.cls cd,sl⟩=>(match cd.mro,sl.toList with
  |.ref C'::bm,[_,_,_,_,some (.builtin n),_]=>C' == C&&n == "ValueError.__new__"&&!cd.hasDel&&PySem.W.tailIn K veM bm&&PySem.W.nsOkIn K cd.ns&&Cy K cd.ns "__init__" == some (some (.ref fI))
  |_,_=>false)
 |_=>false
theorem sN{K:BD}{h:Heap}{N:Addr}{mg:Str->Option Value}{n:Str}{v:Value}(X:K.In h)(G:h.Ns N mg)(e:Cy K N n=some (some v)):mg n=some v:=by
 obtain⟨o,es,ep,ho,hd,_,hf⟩:=G;unfold Cy at e;split at e
 ·rename_i c d es' n' sl q;have:=X _ _ q;rw[ho]at this
  cases this
  cases hd
  split at e
  ·rename_i en he
   cases e
   rw[← hf];unfold nsFind findBy;rw[← Array.find?_toList,he];rfl
  ·split at e<;>cases e
 ·cases e
theorem mO{K:BD}{C fI:Addr}{h:Heap}(e:oo K C fI=true)(X:K.In h):∃ bm N nm qn bs hdct sn sub ab col dd k0 k1 k2 k3 k5 mN,h.get? C=some (excClassObj nm qn C N bs bm hdct sn sub ab col dd k0 k1 k2 k3 k5 "ValueError.__new__")/\h.Ns N mN/\mN "__init__" = some (.ref fI)/\OwnTail h veM bm:=by
 have z:=e;unfold oo at z;split at z
 ·rename_i ddx cdx slx hobj;split at z
  ·rename_i Cx bmx y0 y1 y2 y3 nx y5 hmro hslots;have zz:=z;simp only[CZ,beq_iff_eq,DU]at zz;obtain⟨⟨⟨⟨⟨eC,eN⟩,edel⟩,etail⟩,ens⟩,einit⟩:=zz;subst eC;subst eN;obtain⟨l⟩:=slx;have hl:l = [y0,y1,y2,y3,some (.builtin "ValueError.__new__"),y5]:=hslots;subst hl;obtain⟨nm,bs,mro,ns,qn,hd,sn,sub,ab,col,del⟩:=cdx;have hmro':mro=.ref Cx::bmx:=hmro;have hdel':del=false:=edel;subst hmro' hdel';have N:=PySem.W.isNs_of_in X ens;refine⟨bmx,ns,nm,qn,bs,hd,sn,sub,ab,col,ddx,y0,y1,y2,y3,y5,_,X _ _ hobj,.of_isNs N,?_,PySem.W.tail_of_in X etail⟩;exact sN X (.of_isNs N) einit
  ·cases z
 ·cases z
section
variable{prog:Program}{w:World}{A:Around}{E:Value->Shared->Prop}{h:Heap}{g:Array GenState}{d:Drawn}{t:Nat}{os:OsState}
variable{nm q:Str}{C N:Addr}{bs bm bmB:List Value}{hdct:Bool}{sn:List Str}{sub:List Value}{ab:Bool}{col:Option Bool}{dd:Option Addr}{k0 k1 k2 k3 k5:Option Value}{B newId initId:String}
theorem k8(F:ExcBaseFacts B newId initId bmB)(T:OwnTail h bmB bm){mN:Str->Option Value}{rest:List Value}{fI:Addr}{oI:Obj}{Q:Fin->Shared->Prop}
  (hC:h.get? C=some (excClassObj nm q C N bs bm hdct sn sub ab col dd k0 k1 k2 k3 k5 newId)) (hn:h.Ns N mN) (hi:mN "__init__" = some (.ref fI))
  (hfI:h.get? fI=some oI) (hfc:oI.cls=.type "function")
  (hq:∀ h' e,Heap.MadeExcOf h h' e (.ref C) rest ->
   wpAny (model prog w) A (call (.ref fI) (.ref e::rest)) (fun r s'=>r=.none/\Q (.done (.ret (.ref e))) s') E ⟨h',g,d,t,os⟩) (hrest:rest.length<=sizeLine) :
  wpAny (model prog w) A (Builtin.«type.__call__» ⟨.ref C::rest,[]⟩) Q E ⟨h,g,d,t,os⟩:=by
 repeat (first | with_reducible refine wpAny_loadPart_at hC ?_ | with_reducible refine wpAny_madeBy_exc hC ?_ | wp_step)
 refine codeAny_call_builtin_code (Code.quiet_builtin _ F.quiet) (wpAny_check_new_subT F T hC ?_);refine codeAny_exc_new_subT F T hC ?_ hrest;show wpAny _ _ _ _ _ _;have hC₁:=Heap.get?_push_of_some { cls:=.ref C,data:=.fields #[.ref h.objs.size,.none,.none,.none,.bool false,.none] }
  (Heap.get?_push_of_some { cls:=.type "tuple",data:=.seq rest.toArray } hC)
 have hfI₁:=Heap.get?_push_of_some { cls:=.ref C,data:=.fields #[.ref h.objs.size,.none,.none,.none,.bool false,.none] }
  (Heap.get?_push_of_some { cls:=.type "tuple",data:=.seq rest.toArray } hfI)
 have hn₁:((h.push { cls:=.type "tuple",data:=.seq rest.toArray }).push { cls:=.ref C,data:=.fields #[.ref h.objs.size,.none,.none,.none,.bool false,.none] }).Ns N mN :=
  let ⟨o,es,ep,e,r⟩:=hn;⟨o,es,ep,Heap.get?_push_of_some _ (Heap.get?_push_of_some _ e),r⟩
 have hget:((h.push { cls:=.type "tuple",data:=.seq rest.toArray }).push
   { cls:=.ref C,data:=.fields #[.ref h.objs.size,.none,.none,.none,.bool false,.none] }).get? (h.objs.size+1)=some
   { cls:=.ref C,data:=.fields #[.ref h.objs.size,.none,.none,.none,.bool false,.none] }:=by heap_get
 have T₁:=T.keeps (h':=(h.push { cls:=.type "tuple",data:=.seq rest.toArray }).push { cls:=.ref C,data:=.fields #[.ref h.objs.size,.none,.none,.none,.bool false,.none] })
  fun b o e=>Heap.get?_push_of_some _ (Heap.get?_push_of_some _ e)
 have hcC:(Value.ref C::bm).contains (.ref C)=true:=by simp
 unfold isInstance;repeat (first | with_reducible refine wpAny_loadPart_at hget ?_ | (with_reducible refine wpAny_isSubtype_exc hC₁ ?_;rw[hcC]) | wp_step)
 show wpAny _ _ (typeLookup (.ref C) _) _ _ _;refine wpAny_typeLookup_tail hC₁ hn₁ T₁ F.mroIs F.init.lookup ?_;rw[hi];refine wpAny_holding (wpAny_bind ?_);unfold bindSpecial;refine wpAny_bind (wpAny_typeOf (T:="function") ⟨_,hfI₁,hfc⟩ ?_);rw[if_pos (by decide)]
 refine wpAny_pure (wpAny_bind (wpAny_mono (hq _ (h.objs.size+1) ⟨fun b o hb=>Heap.get?_push_of_some _ (Heap.get?_push_of_some _ hb),Heap.get?_none_of_le (Ez _),h.objs.size,hget,Heap.get?_none_of_le (BI _),?_⟩) (fun r s' hr=>?_) fun _ _ x=>x))
 ·exact Heap.get?_push_of_some _ (Heap.get?_push_at rfl rfl)
 ·obtain⟨rfl,hQ⟩:=hr;wp_walk;exact hQ
theorem ud(F:ExcBaseFacts B newId initId bmB)(T:OwnTail h bmB bm){mN:Str->Option Value}{rest:List Value}{fI:Addr}{oI:Obj}{Q:Value->Shared->Prop}
  (hC:h.get? C=some (excClassObj nm q C N bs bm hdct sn sub ab col dd k0 k1 k2 k3 k5 newId)) (hn:h.Ns N mN) (hi:mN "__init__" = some (.ref fI))
  (hfI:h.get? fI=some oI) (hfc:oI.cls=.type "function")
  (hq:∀ h' e,Heap.MadeExcOf h h' e (.ref C) rest ->
   wpAny (model prog w) (A.under (.builtin "type.__call__" ⟨.ref C::rest,[]⟩)) (call (.ref fI) (.ref e::rest)) (fun r s'=>r=.none/\Q (.ref e) s') E ⟨h',g,d,t,os⟩) (hrest:rest.length<=sizeLine) :
  wpAny (model prog w) A (call (.ref C) rest) Q E ⟨h,g,d,t,os⟩:=by
 have f1:=tc_lookup;have f2:=tc_bind (.ref C);have hT:(⟨h,g,d,t,os⟩:Shared).TypeIs (.ref C) "type":=⟨_,hC,rfl⟩;refine wpAny_call (codeAny_of_tree ?_);show wpAny _ _ (callAny (.ref C) _) _ _ _;repeat (any_goals (first | assumption | with_reducible refine wpAny_loadPart_at hC ?_ | wp_step))
 refine⟨rfl,?_⟩;refine codeAny_call_builtin_at (Code.quiet_builtin _ (by decide)) entry_typeCall (wpAny_check_type_call_sub hC (k8 F T hC hn hi hfI hfc (fun h' e hm=>?_) hrest))
 exact hq h' e hm
theorem i6{M:Model}{env:Env}{s:Shared}{x:Sem Value}{Q:Flow->Shared->Prop} (hbase:bm.contains (.type "BaseException")=true) (hh:A.handled=none)
  (h:wpAny M A x (fun v s₁=>∃ e oe,v=.ref e/\s₁.heap.get? C=some (excClassObj nm q C N bs bm hdct sn sub ab col dd k0 k1 k2 k3 k5 newId) /\
   s₁.heap.get? e=some oe/\oe.cls=.ref C/\(∃ vs,oe.data=.fields vs/\vs[1]?=some .none)/\E (.ref e) s₁) E s) :
  wpAny M A (raiseStmt env (some x) none) Q E s:=by
 have hcB:(Value.ref C::bm).contains (.type "BaseException")=true:=by rw[Fy,hbase,Bool.or_true]
 unfold raiseStmt;refine wpAny_bind (wpAny_mono h (fun v s₁ h₁=>?_) fun _ _ x=>x);obtain⟨e,oe,rfl,hC,he,hcl,⟨vs,hdt,hv1⟩,hE⟩:=h₁;obtain⟨hp,g,d,tk,os⟩:=s₁;obtain⟨oc,odd,odt,osl⟩:=oe
 cases hcl
 cases hdt
 repeat (first | with_reducible refine wpAny_loadPart_at he ?_ | with_reducible refine wpAny_loadPart_at hC ?_ | (with_reducible refine wpAny_isSubtype_exc hC ?_;rw[hcB]) | wp_step)
 rw[hv1];refine wpAny_pure ?_;rw[if_neg (by decide)]
 exact wpAny_pure (wpAny_raiseNew_none hh hE)
end
noncomputable def excN(x C:Addr)(d:Option Addr):HO:=.ext fun h=>∃ o vs a0,h.get? x=some o/\o.cls=.ref C/\o.dict=d/\o.data=.fields vs/\vs[0]?=some a0/\vs[1]?=some .none
theorem wF{P:Program}{w:World}{H:Hp}{h:Heap}{x C:Addr}{d:Option Addr}(e:∃ o vs a0,h.get? x=some o/\o.cls=.ref C/\o.dict=d/\o.data=.fields vs/\vs[0]?=some a0/\vs[1]?=some .none):bH P w H h x (excN x C d):=by
 refine⟨e,let ⟨o,_,_,q,_⟩:=e;⟨o,q⟩,fun h1 h2 ⟨o,vs,a0,q,r⟩ k=>⟨o,vs,a0,k o q,r⟩⟩
theorem o7{h:Heap}{tl:List Value}(T:OwnTail h veM tl)(self:Value):refuseLoop self "__setattr__" tl=pure ():=by
 induction T with
 |base=>exact PySem.F.store_ValueError.passes self
 |own _ _ _ _ ih=>rw[refuseLoop_ref,ih]
structure ErS(K:BD)(C fI:Addr)(f:Str):Prop where
 ei:oo K C fI=true
 sa:B8 K (.ref C) "__setattr__" = some (some (.builtin "object.__setattr__"))
 na:B8 K (.ref C) f=some none
 hd:Dp K C=true
section
variable{prog:Program}{w:World}{A:Around}{E:Value->Shared->Prop}{s:Shared}{K:BD}{x C fI:Addr}{name:Str}{v:Value}
theorem sj{M:Model}{nameV:Value}{Q:Unit->Shared->Prop}(X:K.In s.heap)(I:gD x C s.heap)(e:oo K C fI=true)(hq:Q () s):wpAny M A (checkBuiltinCall "object.__setattr__" ⟨[.ref x,nameV,v],[]⟩) Q E s:=by
 obtain⟨hh,g,d,t,os⟩:=s;obtain⟨bm,N,nm,qn,bs,hdct,sn,sub,ab,col,dd,k0,k1,k2,k3,k5,mN,hC,hN,hi,T⟩:=mO e X;have SF:=F8;have ha:=SF.args (.ref x) nameV v;obtain⟨o,hx,hc⟩:=I;have hcB:(Value.ref C::bm).contains (.type "object")=true:=by rw[Fy,T.hasType (X:="object") (b:=true) rfl,Bool.or_true]
 simp only[checkBuiltinCall,SF.kind,SF.split];refine wpAny_bind ?_
 ·unfold isInstance;repeat (first | (with_reducible refine wpAny_loadPart_at hx ?_;rw[hc]) | (with_reducible refine wpAny_isSubtype_exc hC ?_;rw[hcB]) | wp_step)
  exact hq
theorem setE{Q:Unit->Shared->Prop}{o:Obj}(X:K.In s.heap)(hx:s.heap.get? x=some o)(hc:o.cls=.ref C)(hdn:o.dict=none)(hnc:∀ c,o.data≠.cls c)(e:ErS K C fI name)
  (hq:∀ h' tk',h'.get? x=some { o with dict:=some s.heap.objs.size }->h'.Ns1 s.heap.objs.size (fun y=>if y=name then some v else none)->(∀ b ob,b≠x->s.heap.get? b=some ob->h'.get? b=some ob)->Q () { s with heap:=h',toks:=tk' }) :
  wpAny (model prog w) A (setAttr (.ref x) name v) Q E s:=by
 obtain⟨h,g,d,t,os⟩:=s;have I:gD x C h:=⟨o,hx,hc⟩;obtain⟨bm,N,nm,qn,bs,hdct,sn,sub,ab,col,dd,k0,k1,k2,k3,k5,mN,hC,hN,hi,T⟩:=mO e.ei X;have L0:=I.type (model prog w);have L1:=Dv (M:=model prog w) X e.sa;have L2:=Dv (M:=model prog w) X e.na;have SF:=F8;have hpass:=o7 T (.ref x);obtain⟨cd,hcl,hhd⟩:=Fe e.hd;have L3:=PySem.W.looks_clsIn (M:=model prog w) X hcl;refine wpAny_bind (wpAny_mkText (wpAny_bind (wpAny_bind (wpAny_bind (L0 _ _ _ _ (fun _ _ e=>e) (L1 _ _ _ _ (fun _ _ e=>e) (wpAny_holding ?_)))))));rw[SF.slot.bind];refine wpAny_bind (wpAny_pure (wpAny_bind (wpAny_call (codeAny_call_builtin SF.slot.plain SF.entry (sj (s:=⟨h,g,d,t+1,os⟩) X I e.ei ?_)))));unfold Builtin.«object.__setattr__»;repeat (first | rw[refuse_eq] | (rw[refuseLoop_ref,hpass]) | with_reducible refine L0.at ?_ | with_reducible refine wpAny_mroOf_exc hC ?_ | with_reducible refine L2.at ?_ | wp_step)
 obtain⟨oc,odd,odt,osl⟩:=o;have hc':oc=.ref C:=hc;have hdn':odd=none:=hdn;subst hc' hdn';dsimp only;refine wpAny_bind (L3.at ?_);rw[hhd];have hx₁:(h.push { cls:=.type "dict",data:=.dict #[] }).get? x=some ⟨.ref C,none,odt,osl⟩:=Heap.get?_push_of_some _ hx;have hxs:x≠h.objs.size:=CA (Heap.lt_size hx);rw[if_neg (by decide)]
 dsimp only;rw[if_neg (by simp[typeHasDict])]
 have go:∀(Q':Option Addr->Shared->Prop)(E':Value->Shared->Prop),Q' (some h.objs.size) ⟨(h.push { cls:=.type "dict",data:=.dict #[] }).update x fun o=>{ cls:=o.cls,dict:=some h.objs.size,data:=o.data,slots:=o.slots },g,d,t+1,os⟩ ->
   wpAny (model prog w) A.in1 (do
    let d ← alloc { cls:=Value.type "dict",data:=Data.dict #[] }
    update x fun o=>{ cls:=o.cls,dict:=some d,data:=o.data,slots:=o.slots }
    dictMade (.ref C) x d) Q' E' ⟨h,g,d,t+1,os⟩:=fun Q' E' hq'=>wpAny_bind (wpAny_alloc' (wpAny_bind (wpAny_update' hx₁ (wpAny_pure hq'))))
 have hgd:((h.push { cls:=.type "dict",data:=.dict #[] }).update x fun o=>{ cls:=o.cls,dict:=some h.objs.size,data:=o.data,slots:=o.slots }).get? h.objs.size
   = some { cls:=.type "dict",data:=.dict #[] } :=
  (Heap.get?_update_ne _ _ _ _ hxs.symm).trans (Heap.get?_push_at rfl rfl)
 have hnd:((h.push { cls:=.type "dict",data:=.dict #[] }).update x fun o=>{ cls:=o.cls,dict:=some h.objs.size,data:=o.data,slots:=o.slots }).Ns h.objs.size (fun _=>none) :=
  ⟨_,#[],_,hgd,rfl,fun e he=>absurd he (by simp),fun _=>rfl⟩
 have fin:∀{E'},wpAny (model prog w) A.in1 (storeInDict h.objs.size (.str name t) name v)
   (fun fin s'=>match fin with | .done (.ret _)=>Q () s' | _=>False) E' ⟨(h.push { cls:=.type "dict",data:=.dict #[] }).update x fun o=>{ cls:=o.cls,dict:=some h.objs.size,data:=o.data,slots:=o.slots },g,d,t+1,os⟩:=by
  intro E';unfold storeInDict newKeyGuard;refine wpAny_bind (wpAny_pure (wpAny_bind (wpAny_nsSet1 (Heap.Ns1.of_empty hnd) fun h' hn' hs=>?_)));obtain⟨oD,esD,epD,hoD,hdD,hcD⟩:=hn'.count (Within.cons name v Within.nil);refine wpAny_bind (wpAny_lookBehind hoD (by rw[hdD];exact pastItsLine_dict (Co hcD (by rw[BK,DH,sizeLine_eq];omega))) ?_)
  refine wpAny_pure (hq h' _ ?_ hn' fun b ob hbx hb=>?_)
  ·refine(hs.2 x hxs).trans (Heap.get?_update_self _ hx₁ ?_);have hfr:=(Heap.get?_some_iff.mp hx).2
   cases odt<;>first | rfl | exact hfr
  ·exact(hs.2 b (CA (Heap.lt_size hb))).trans ((Heap.get?_update_ne _ _ _ _ hbx).trans (Heap.get?_push_of_some _ hb))
 have big:∀{E'},wpAny (model prog w) A.in1 (do
    let d ← alloc { cls:=Value.type "dict",data:=Data.dict #[] }
    update x fun o=>{ cls:=o.cls,dict:=some d,data:=o.data,slots:=o.slots }
    dictMade (.ref C) x d) (fun a s'=>a=some h.objs.size/\s'=⟨(h.push { cls:=.type "dict",data:=.dict #[] }).update x fun o=>{ cls:=o.cls,dict:=some h.objs.size,data:=o.data,slots:=o.slots },g,d,t+1,os⟩) E' ⟨h,g,d,t+1,os⟩:=go _ _ ⟨rfl,rfl⟩
 cases odt with
 |cls c=>exact absurd rfl (hnc c)
 |_ =>
  refine wpAny_mono big (fun a s' z=>?_) fun _ _ z=>z;obtain⟨rfl,rfl⟩:=z;refine wpAny_mono fin (fun f s' z=>?_) fun _ _ z=>z;rcases f with(_ | _ | _ | _) | _<;>first | exact wpAny_pure (wpAny_pure z) | exact z.elim
end
section
variable{X:Cx}{pins:List (Addr×Obj)}{σ:St}{H:Hp}{s:Shared}{A:Around}{E:Value->Shared->Prop}{a C fI:Addr}{f:Str}
theorem pd{y:V}{u:Value}{Q:Unit->Shared->Prop}(I:Inv X pins σ H s)(hx:X.ex = [])(e:H a=some (excN a C none))(es:ErS X.K C fI f)(ry:RelV y u)
  (h:∀ s' d,H d=none->d≠a->Inv X pins σ (upd (upd H a (excN a C (some d))) d (.xd [(f,y)])) s'->Q () s'):wpAny (model X.prog X.w) A (setAttr (.ref a) f u) Q E s:=by
 obtain⟨⟨o,vs,a0,ho,hc,hd,hdt,h0,h1⟩,_,_⟩:=(show bH X.prog X.w H s.heap a (excN a C none) from I.hok a _ e);refine setE I.kIn ho hc hd (fun c z=>by rw[hdt]at z;cases z) es fun h' tk' q1 q2 q3=>?_
 have dn:H s.heap.objs.size=none:=I.hok.fresh (BI _);have dne:s.heap.objs.size≠a:=Fh (Heap.lt_size ho);have I1:Inv X pins σ (upd H a (excN a C (some s.heap.objs.size))) { s with heap:=h',toks:=tk' }:=I.write (x:=a) (e:=a) (by rw[e];exact True.intro) (.inl rfl) (fun b u n q=>q3 b u n q) ⟨_,q1⟩ (wF ⟨_,vs,a0,q1,hc,rfl,hdt,h0,h1⟩)
 refine h _ _ dn dne (I1.xtrack (I.xok hx (Heap.get?_none_of_le (BI _)) (by rw[ar dne];exact dn)) ⟨_,q2,fun g=>?_⟩)
 show RelO ([(f,y)].lookup g) (if g=f then some u else none);by_cases q:g=f
 ·subst q;rw[if_pos rfl];simp only[EA,beq_self_eq_true];exact ry
 ·rw[if_neg q];have hb:(g == f)=false:=beq_eq_false_iff_ne.mpr q;simp only[EA,hb];exact True.intro
noncomputable def del(H:Hp)(x:Addr):Hp:=fun b=>if b=x then none else H b
theorem mS{x:Addr}:del H x x=none:=if_pos rfl
theorem iE{x b:Addr}(h:b≠x):del H x b=H b:=if_neg h
theorem Inv.untrk{φ:Heap->Prop}{x:Addr}(I:Inv X pins σ H s)(e:H x=some (.ext φ)):Inv X pins σ (del H x) s:=by
 have ne:∀{b:Addr}{u:HO},H b=some u->(∀ φ,u≠.ext φ)->b≠x:=fun{b u} q n z=>by
  rw[z,e]at q
  cases q
  exact n φ rfl
 refine I.step (h':=s.heap) (g':=s.gens) (t':=s.toks) (d':=s.drawn) (ch:=[]) (fun _ z=>nomatch z) (fun b o _ _ _ q _=>q) (fun b o _ _ _ q _=>⟨o.slots,q⟩) (fun b o _ _ n=>?_) (fun b o _ q=>⟨o,q⟩)
  (fun b xs q=>?_) (fun b o u q=>?_) (fun b ps q=>⟨#[],?_⟩) (fun m hm=>hm) (fun b u q=>?_) I.bare
 ·by_cases z:b=x
  ·rw[z];exact mS
  ·rw[iE z];exact n
 ·rw[iE (ne q fun _ z=>by cases z)];exact q
 ·rw[iE (ne q fun _ z=>by cases z)];exact q
 ·rw[iE (ne q fun _ z=>by cases z),q];simp
 ·by_cases z:b=x
  ·rw[z,mS]at q;cases q
  ·rw[iE z]at q;refine(I.hok b u q).stay (fun c v _ q=>q) (fun c q=>?_) fun c xs q=>?_
   ·rw[iE (ne q fun _ z=>by cases z)];exact q
   ·rw[iE (ne q fun _ z=>by cases z)];exact q
noncomputable def sFldE(K:BD)(fI:Addr)(ta tv:TE)(f:Str):TS:=fun D σ H=>tv σ H fun y H1=>ta σ H1 fun x H2=>∃ a C,x=.ref a/\H2 a=some (excN a C none)/\ErS K C fI f/\∀ d,H2 d=none->d≠a->D.nx σ (upd (upd H2 a (excN a C (some d))) d (.xd [(f,y)]))
theorem Au{o value:Expr}{ta tv:TE}{pos pos':Pos}(hx:X.ex = [])(ha:PE X o ta)(hv:PE X value tv)(hs:swapsWith value (some (.Attribute o f pos')) pos.line X.env=pure false):PS X (.Assign [.Attribute o f pos'] value pos) (sFldE X.K fI ta tv f):=by
 intro pins s σ H D I h;refine plainObj_wpAny_Assign_Attribute (thn (hv pins s σ H _ I h) fun u s1 ⟨y,H1,I1,ry,q⟩=>thn (ha pins s1 σ H1 _ I1 q) fun ov s2 ⟨x,H2,I2,rx,a,C,ex,ea,es,q2⟩=>?_) hs;subst ex;obtain rfl:ov=Value.ref a:=rx;exact pd I2 hx ea es ry fun s3 d dn dne I3=>⟨σ,_,I3,q2 d dn dne⟩
theorem getE{b:Bool}{od o:Obj}{v:Value}{Q:Value->Shared->Prop}(XX:X.K.In s.heap)(J:PySem.W.InstAt s.heap a o C (some od))(ec:ErC X.K C)(na:B8 X.K (.ref C) f=some none)(hl:Fn f od=some (some v))(hv:FK v=true)
  (h:Q v { s with toks:=s.toks+1 }):wpAny (model X.prog X.w) A (getAttr (.ref a) f b) Q E s:=by
 obtain⟨hh,g,d,t,os⟩:=s;have I:gD a C hh:=⟨o,J.at_,J.cls⟩;have L0:=I.type (model X.prog X.w);have L1:=Dv (M:=model X.prog X.w) XX ec.ga;have L3:=Dv (M:=model X.prog X.w) XX ec.gt;have LF:=PySem.W.looks_find (M:=model X.prog X.w) XX J (PySem.W.findObj_own ec.hd na rfl hl);have f3:=F.excAttr_ValueError.ga.bind (.ref a);unfold getAttr getAttrBy;refine wpAny_bind (wpAny_mkText (wpAny_holding (wpAny_bind (L0.at (wpAny_bind (L1.at ?_))))));show wpAny _ _ (getAttrByItsOwn _ _ _ _ _ _) _ _ _;unfold getAttrByItsOwn;refine wpAny_bind (show wpAny _ _ (typeLookup _ _) _ _ _ from L3.at ?_);refine wpAny_bind (wpAny_attempt (wpAny_holding ?_));have hcg:callGetattribute (.ref a) (.str f t) (.builtin "BaseException.__getattribute__") b=boundAndCalled (.builtin "BaseException.__getattribute__") (.ref a) (.str f t):=by cases b<;>rfl
 show wpAny _ _ (callGetattribute _ _ _ _) _ _ _;rw[hcg];unfold boundAndCalled;rw[f3];refine wpAny_bind (wpAny_pure ?_);refine wpAny_call (codeAny_call_builtin F.excAttr_ValueError.ga.plain F.entry_bexc_ga (rJ (s:=⟨hh,g,d,t+1,os⟩) XX I ec ?_));unfold Builtin.«object.__getattribute__»;repeat (first | assumption | with_reducible refine L0.at ?_ | with_reducible refine LF.at ?_ | wp_step)
 exact PySem.W.handed_on hv h
theorem qd{b:Bool}{v:V}{d:Addr}{fs:List (Str×V)}{Q:Value->Shared->Prop}(I:Inv X pins σ H s)(e:H a=some (excD a C (some d)))(ec:ErC X.K C)(na:B8 X.K (.ref C) f=some none)(ed:H d=some (.xd fs))(l:fs.lookup f=some v)
  (h:∀ u s',Inv X pins σ H s'->RelV v u->Q u s'):wpAny (model X.prog X.w) A (getAttr (.ref a) f b) Q E s:=by
 obtain⟨⟨o,ho,hc,hd,hn⟩,_,_⟩:=(show bH X.prog X.w H s.heap a (excD a C (some d)) from I.hok a _ e);obtain⟨mA,N1,r⟩:=(show bH X.prog X.w H s.heap d (.xd fs) from I.hok d _ ed);obtain⟨u,hu,ru⟩:=RelO.some_of (v:=v) (o:=mA f) (by rw[← l];exact r f)
 obtain⟨od,hod,hl⟩:=nW N1;refine getE (o:=o) (od:=od) I.kIn ⟨ho,hc,hn,by rw[hd];exact hod⟩ ec na (by rw[hl,hu]) (og ru) (h u _ (I.tok _) ru)
noncomputable def tFldE(K:BD)(ta:TE)(f:Str):TE:=fun σ H Q=>ta σ H fun x H1=>∃ a C d fs v,x=.ref a/\H1 a=some (excD a C (some d))/\ErC K C/\B8 K (.ref C) f=some none/\H1 d=some (.xd fs)/\fs.lookup f=some v/\Q v H1
theorem pJ{e:Expr}{ta:TE}{pos:Pos}(he:PE X e ta)(hb:attributeBase e f X.env (eval e X.env)=eval e X.env):PE X (.Attribute e f pos) (tFldE X.K ta f):=by
 intro pins s σ H Q I h;refine xj hb (thn (he pins s σ H _ I h) fun u s1 ⟨x,H1,I1,rx,a,C,d,fs,v,ex,ea,ec,na,ed,l,q⟩=>?_);subst ex;obtain rfl:u=Value.ref a:=rx;exact qd I1 ea ec na ed l fun u' s2 I2 ru=>⟨v,H1,I2,ru,q⟩
end
section
variable{prog:Program}{w:World}{A:Around}{E:Value->Shared->Prop}{s:Shared}{env:Env}
variable{nm q:Str}{C N:Addr}{bs bm bmB:List Value}{hdct:Bool}{sn:List Str}{sub:List Value}{ab:Bool}{col:Option Bool}{dd:Option Addr}{k0 k1 k2 k3 k5:Option Value}{B newId initId:String}
theorem j9(F:ExcBaseFacts B newId initId bmB){mN:Str->Option Value}{fI:Addr}{x:Str}{np cpos pos:Pos}{args:List Expr}{Q:Flow->Shared->Prop}
  (hbase:bm.contains (.type "BaseException")=true) (hh:A.handled=none) (hplain:(backTo cpos (starEach args env)).any (·.1)=false) (hi:mN "__init__" = some (.ref fI))
  (h:wpAny (model prog w) A (eval (.Name x np) env) (fun f s₁=>f=.ref C/\wpAny (model prog w) A (evalArgs (.ref C) true (backTo cpos (starEach args env)) [])
   (fun a s₂=>a.kw = []/\a.pos.length<=sizeLine/\s₂.heap.get? C=some (excClassObj nm q C N bs bm hdct sn sub ab col dd k0 k1 k2 k3 k5 newId)/\s₂.heap.Ns N mN/\OwnTail s₂.heap bmB bm/\(∃ oI,s₂.heap.get? fI=some oI/\oI.cls=.type "function") /\
    ∀ h' e,Heap.MadeExcOf s₂.heap h' e (.ref C) a.pos->wpAny (model prog w) (A.under (.builtin "type.__call__" ⟨.ref C::a.pos,[]⟩)) (call (.ref fI) (.ref e::a.pos)) (fun r s'=>r=.none/\∃ oe,s'.heap.get? C=some (excClassObj nm q C N bs bm hdct sn sub ab col dd k0 k1 k2 k3 k5 newId) /\
     s'.heap.get? e=some oe/\oe.cls=.ref C/\(∃ vs,oe.data=.fields vs/\vs[1]?=some .none)/\E (.ref e) s') E { s₂ with heap:=h' }) E s₁) E s) :
  wpAny (model prog w) A (exec (.Raise (some (.Call (.Name x np) args [] cpos)) none pos) env) Q E s:=by
 rw[arm_exec_Raise];first
  |refine wpAny_bind (wpAny_standAt (i6 (C:=C) (nm:=nm) (q:=q) (N:=N) (bs:=bs) (bm:=bm) (hdct:=hdct) (sn:=sn) (sub:=sub) (ab:=ab) (col:=col) (dd:=dd) (k0:=k0) (k1:=k1) (k2:=k2) (k3:=k3) (k5:=k5) (newId:=newId) hbase hh (wpAny_bind (wpAny_mono (wpAny_Call_ofName (wpAny_mono h (fun f s₁ h₁=>?_) fun _ _ x=>x)) (fun v s₃ h₃=>wpAny_bind (wpAny_standAt (wpAny_pure h₃))) fun _ _ x=>x))))
  | (simp only[evalOpt,Option.map];refine wpAny_bind (wpAny_standAt (i6 (C:=C) (nm:=nm) (q:=q) (N:=N) (bs:=bs) (bm:=bm) (hdct:=hdct) (sn:=sn) (sub:=sub) (ab:=ab) (col:=col) (dd:=dd) (k0:=k0) (k1:=k1) (k2:=k2) (k3:=k3) (k5:=k5) (newId:=newId) hbase hh (wpAny_bind (wpAny_mono (wpAny_Call_ofName (wpAny_mono h (fun f s₁ h₁=>?_) fun _ _ x=>x)) (fun v s₃ h₃=>wpAny_bind (wpAny_standAt (wpAny_pure h₃))) fun _ _ x=>x)))))
  | (refine wpAny_bind (wpAny_standAt (i6 (C:=C) (nm:=nm) (q:=q) (N:=N) (bs:=bs) (bm:=bm) (hdct:=hdct) (sn:=sn) (sub:=sub) (ab:=ab) (col:=col) (dd:=dd) (k0:=k0) (k1:=k1) (k2:=k2) (k3:=k3) (k5:=k5) (newId:=newId) hbase hh ?_));refine wpAny_bind (wpAny_mono (wpAny_Call_ofName (wpAny_mono h (fun f s₁ h₁=>?_) fun _ _ x=>x)) (fun v s₃ h₃=>wpAny_bind (wpAny_standAt (wpAny_pure h₃))) fun _ _ x=>x))
 obtain⟨rfl,h₁⟩:=h₁;unfold callWith;refine wpAny_bind (wpAny_holding (wpAny_mono h₁ (fun a s₂ h₂=>wpAny_bind (wpAny_standAt ?_)) fun _ _ x=>x));obtain⟨apos,akw⟩:=a;obtain⟨hkw,hlen,hC,hn,T,⟨oI,hfI,hfc⟩,h₂⟩:=h₂;obtain rfl:akw = []:=hkw;obtain⟨hp,g,d,tk,os⟩:=s₂;simp only[hplain];refine wpAny_bind (wpAny_keeperOf_exc hC ?_);refine wpAny_bind (ud F T hC hn hi hfI hfc (fun h' e hm=>wpAny_mono (h₂ h' e hm) (fun r s' hr=>?_) fun _ _ z=>z) hlen);obtain⟨rfl,oe,a1,a2,a3,a4,a5⟩:=hr;exact⟨rfl,wpAny_bind (wpAny_holding (wpAny_point (wpAny_pure ⟨e,oe,rfl,a1,a2,a3,a4,a5⟩)))⟩
end
noncomputable def z9(C:Addr)(sp:Sp)(W:WKD)(t:TA):TS:=fun _ σ H=>t σ H fun vs H1=>vs.length<=sizeLine/\∀ x,H1 x=none->sp (.ref x::vs) (upd H1 x (excN x C none)) (fun v H2=>v=.non/\∃ d,H2 x=some (excN x C d)/\W (.ref C) d σ (del H2 x)) E0
theorem iB{X:Cx}{k:Nat}{x f:Str}{C fI:Addr}{fd:FuncData}{ps:List Str}{sp:Sp}{e:Expr}{es:List Expr}{t:TA}{W:WKD}{np cpos pos:Pos}(er:ErS X.K C fI f)(hfn:EY X.K (.ref fI)=true)(F:FnOk X.prog X.w X.K X.mg X.base CX0 k fI fd ps sp)(hb:d8 X.K fd ps [])(hr:Room (k+1) X.A)
  (hm:X.mg x=some (.ref C)) (hg:Gl X x) (ws:WshD X W) (hx:X.ex = []) (hc:X.calm=true) (ha:PA X (e::es) t)
  (he:starEach (e::es) X.env=(false,eval e X.env)::starEach es X.env:=by rfl) (hpl:(backTo cpos (starEach es X.env)).any (·.1)=false:=by rfl) (hdb:(x == ("__debug__" : Str))=false:=by decide) :
  PS X (.Raise (some (.Call (.Name x np) (e::es) [] cpos)) none pos) (z9 C sp W t):=by
 intro pins s σ H D I h;obtain⟨tl,N,nm,qn,bs,hdct,sn,sub,ab,col,dd,k0,k1,k2,k3,k5,mN,hC,hN,hi,T⟩:=mO er.ei I.ok.mod.kin;have hpl2:(backTo cpos (starEach (e::es) X.env)).any (·.1)=false:=by
  rw[he];show(false||(backTo cpos (starEach es X.env)).any (·.1))=false
  rw[hpl];rfl
 obtain⟨oI,hoI,hcI⟩:=Cu.mp (show PySem.W.typeIn X.K (.ref fI)=some (.type "function") from beq_iff_eq.mp hfn);refine j9 (C:=C) (nm:=nm) (q:=qn) (N:=N) (bs:=bs) (bm:=tl) (hdct:=hdct) (sn:=sn) (sub:=sub) (ab:=ab) (col:=col) (dd:=dd) (k0:=k0) (k1:=k1) (k2:=k2) (k3:=k3) (k5:=k5) Em (mN:=mN) (T.hasType Em.hasBase) (I.ok.hd hc) hpl2 hi (fU I hg hm ⟨rfl,?_⟩ hdb);have z:=ha cpos pins s σ H _ I h;rw[he]at z ⊢;refine Calls.evalArgs_plain (wpAny_mono z (fun us s2 zz=>?_) fun _ _ y=>y);obtain⟨vs,H1,I2,r,hz,q⟩:=zz;refine⟨rfl,by rw[← r.length];exact hz,I2.bk _ _ hC,hN.keeps I2.bk,T.keeps I2.bk,⟨oI,I2.kIn _ _ hoI,hcI⟩,fun h' e' hme=>?_⟩
 obtain⟨t0,ht0,_,_⟩:=hme.there;have I3:Inv X pins σ H1 { s2 with heap:=h' }:=I2.kept (t':=s2.toks) hme.keeps;have xn:H1 e'=none:=I2.hok.none_of hme.new;have xo:XOk X pins H1 e':=I2.xok hx hme.new xn;have I4:Inv X pins σ (upd H1 e' (excN e' C none)) { s2 with heap:=h' }:=I3.xtrack xo (wF ⟨_,_,_,ht0,rfl,rfl,rfl,rfl,rfl⟩);have hq:=q e' xn;have r2:Vals (V.ref e'::vs) (Value.ref e'::us):=.cons rfl r;have hl:(Value.ref e'::us++[]).length=ps.length:=by
  have e:=r2.length;rw[F.len _ _ _ _ hq]at e;rw[Dl];exact e.symm
 have hbb:=hb { s2 with heap:=h' } (Value.ref e'::us) I4.kIn hl;rw[Dl]at hbb;refine wpAny_call (codeAny_mono (F.run _ X.stack _ _ ⟨Value.ref e'::us,[]⟩ (Value.ref e'::us) _ _ _ (hr.make C us []) (I4.env0.make C us []) hbb r2 hq) fun r s' hq'=>?_)
 cases r with
 |error e=>exact(bA (X:=X) pins σ _ _ e s' I4 hq')
 |ok fl =>
  cases fl with
  |ret u =>
   obtain⟨v,H',I5,rv,ev,d,hxd,w5⟩:=I4.after hq';subst ev;obtain⟨⟨o,vs2,a0,ho,hcl,hdd,hdt,h0,h1⟩,_,_⟩:=(show bH X.prog X.w H' s'.heap e' (excN e' C d) from I5.hok e' _ hxd);refine⟨rv,o,I5.bk _ _ hC,ho,hcl,⟨vs2,hdt,h1⟩,?_⟩;exact ws pins σ (del H' e') s' e' (.ref C) d (I5.untrk hxd) ⟨⟨xo.old,mS,xo.nl,xo.nc,xo.np⟩,.inl ⟨o,vs2,a0,ho,hcl,hdt,h0,h1⟩⟩ ⟨o,ho,hdd⟩ w5
  |next=>exact False.elim hq'
  |brk=>exact False.elim hq'
  |cont=>exact False.elim hq'
theorem eU{X:Cx}:gg X (.builtin "isinstance") (fun xs H Q=>∃ x c dx d b,xs = [.ref x,.ref d]/\H x=some (excD x c dx)/\ErC X.K c/\CK X.K (.ref c) (.ref d)=some b/\Q (.bl b) H):=by
 intro pins s σ H xs us Q I r h;obtain⟨x,c,dx,d,b,rfl,hx,ec,ek,q⟩:=h;obtain⟨v1,v2,rfl,r1,r2⟩:=uo r
 cases r1
 cases r2
 obtain⟨⟨o,p1,p2,_⟩,_,_⟩:=(show bH X.prog X.w H s.heap x (excD x c dx) from I.hok x _ hx);exact Dd (rG ec) I.kIn ⟨o,p1,p2⟩ ek (fun z=>nomatch z) fun tk=>⟨.bl b,H,I.tok tk,rfl,q⟩
theorem uc{X:Cx}:gg X (.builtin "isinstance") (fun xs H Q=>∃ x c dx T b,xs = [.ref x,.ty T]/\H x=some (excD x c dx)/\ErC X.K c/\CK X.K (.ref c) (.type T)=some b/\Q (.bl b) H):=by
 intro pins s σ H xs us Q I r h;obtain⟨x,c,dx,T,b,rfl,hx,ec,ek,q⟩:=h;obtain⟨v1,v2,rfl,r1,r2⟩:=uo r
 cases r1
 cases r2
 obtain⟨⟨o,p1,p2,_⟩,_,_⟩:=(show bH X.prog X.w H s.heap x (excD x c dx) from I.hok x _ hx);exact Dd (rG ec) I.kIn ⟨o,p1,p2⟩ ek (fun z=>nomatch z) fun tk=>⟨.bl b,H,I.tok tk,rfl,q⟩
end L2
namespace L2
open PySem PySem.Spec PyProof.Rows
noncomputable def PnX(X:Cx):Prop:=∀ b∈X.ex,∃ o,(b,o)∈X.pn
section
variable{X:Cx}{pins:List (Addr×Obj)}{σ:St}{H H':Hp}{s s':Shared}{b:Addr}
theorem Inv.xokP(I:Inv X pins σ H s)(hx:PnX X)(e:s.heap.get? b=none)(n:H' b=none):XOk X pins H' b:=by
 refine⟨?_,n,fun z=>?_,fun x c q z=>?_,fun p hp z=>?_⟩
 ·cases q:X.s₀.heap.get? b with
  |none=>rfl
  |some o =>
   obtain⟨o',e'⟩:=I.base.there b o q fun z=>by
    obtain⟨o1,h1⟩:=hx b z;have:=(I.pin (b,o1) (CD _ h1)).1;rw[e]at this
    cases this
   rw[e]at e'
   cases e'
 ·obtain⟨m,⟨o,_,_,ho,_⟩,_⟩:=I.loc;rw[z,ho]at e
  cases e
 ·obtain⟨v,o,ho,_⟩:=I.cell x c q;rw[z,e]at ho
  cases ho
 ·have:=(I.pin p hp).1
  rw[z,e]at this
  cases this
noncomputable def TrcF(h:Heap)(x:Addr)(C:Value)(T:Addr):Prop :=
 ∃ oe vs a0 oT ts fl,h.get? x=some oe/\oe.cls=C/\vs[0]?=some a0/\oe.data=.fields vs/\vs[1]?=some (.ref T)/\T≠x/\h.get? T=some oT/\oT.data=.fields ts/\ts[3]?=some fl
theorem Inv.leftF{h':Heap}{ch:List Addr}{a0 C fl:Value}{x:Addr}(I:Inv X pins σ H s)(hx:PnX X)(hch:∀ b∈ch,XOk X pins H b)(k:(hidX X s.heap ch).StaysIn h')(t:h'.TracedAtW (hidX X s.heap ch) x C a0 fl)(u:s.heap.UpToSlots h') :
  Inv X pins σ H { s with heap:=h' }/\∃ T,XOk X pins H T/\TrcF h' x C T:=by
 have fr:∀ b o,s.heap.get? b=some o->b∈frs X.stack->∃ sl,h'.get? b=some { o with slots:=sl }:=fun b o e hb=>by
  obtain⟨_,o',ho,hd⟩:=I.stack.mem hb;rw[e]at ho
  cases ho
  exact u b o e hd
 refine⟨I.xstep hch (fun b o e n1 n2=>k b o (Ey _ e fun z=>(BN.mp z).elim n1 n2)) fun b o e _ hb=>fr b o e hb,?_⟩;obtain⟨oe,vs,T,oT,ts,he,⟨hcls,h0⟩,hd,h1,hnT,hTe,hT,hdT,h3⟩:=t;refine⟨T,?_,oe,vs,a0,oT,ts,fl,he,hcls,h0,hd,h1,hTe,hT,hdT,h3⟩
 cases q:s.heap.get? T with
 |none=>exact I.xokP hx q (I.hok.none_of q)
 |some o =>
  by_cases z:T∈ch
  ·exact hch T z
  ·by_cases z2:T∈frs X.stack
   ·obtain⟨_,o',ho,hd'⟩:=I.stack.mem z2;obtain⟨sl,e⟩:=fr T o q z2;rw[hT]at e
    cases e
    rw[q]at ho
    cases ho
    exact absurd hdT (hd' ts)
   ·have:=Ey (ch++frs X.stack) q fun z3=>(BN.mp z3).elim z z2
    rw[hnT]at this
    cases this
end
section
variable{M:Model}{A:Around}{E:Value->Shared->Prop}{s:Shared}
theorem pU{base:Heap}{env:Env}{outer:List Env}{L e:Addr}{cls a0 fl:Value}{Q:Unit->Shared->Prop}(hfr:A.frames=some (env::outer))(hl:s.heap.FunFrames base (env::outer))(hf:env.frame=some L)
  (ht:s.heap.TracedAtW base e cls a0 fl) (hkb:base.StaysIn s.heap) (hen:base.get? e=none)
  (h:∀ h',base.StaysIn h'->h'.TracedW base e cls a0->s.heap.UpToSlots h'->Q () { s with heap:=h' }):wpAny M A (leaving env (.ref e)) Q E s:=by
 by_cases c:fl=rawInt L
 ·subst c;unfold leaving;exact wpAny_bind (wpAny_noteFrame_againW hf ht (wpAny_landsW ⟨hkb,hen,hl,ht⟩ fun h' z up=>h h' z.1 z.2.2.2 up))
 ·obtain⟨oe,vs,T,oT,ts,he,⟨hc,h0⟩,hd,h1,nT,Te,hT,dT,h3⟩:=ht;have b1:(Value.ref T != Value.none)=true:=by simp
  have b2:¬ ((fl == rawInt L)=true):=fun z=>c (eq_of_beq z);have i1:=(EX.mp h1).1;have i3:=(EX.mp h3).1;unfold leaving noteFrame;simp only[hf];refine wpAny_bind (wpAny_bind (wpAny_field he hd h1 ?_));rw[if_pos b1];refine wpAny_bind (wpAny_field hT dT h3 ?_);rw[if_neg b2];refine wpAny_bind (wpAny_setField hT dT i3 ?_);generalize hg:s.heap.update T (Obj.mapFields (·.setIfInBounds 3 Value.none))=g;have oth:∀ b,b≠T->g.get? b=s.heap.get? b:=fun b z=>by rw[← hg];exact Heap.get?_update_other _ _ (Ne.symm z)
  have isT:∀ b o,s.heap.get? b=some o->(∀ ws,o.data≠.fields ws)->b≠T:=fun b o q n z=>by
   subst z;rw[hT]at q
   cases q
   exact n ts dT
  have kb:base.StaysIn g:=fun b o q=>by
   rw[oth b fun z=>by rw[z,nT]at q;cases q]
   exact hkb b o q
  have z:=wpAny_newEntryW (M:=M) (E:=E) (Q:=Q) (s:={ s with heap:=g }) (head:=.ref T) (hadNext:=Value.ref T != Value.none) hfr (hl.of_keeps fun b o q n=>⟨o,by rw[oth b (isT b o q n)];exact q,rfl⟩) hf (by show g.get? e=some oe;rw[oth e (Ne.symm Te)];exact he) kb hen hd i1 h0
   fun h' y=>by
    refine h h' y.1 (hc▸y.2.2.1) fun b o q n=>y.2.2.2 b o ?_ n;show g.get? b=some o;rw[oth b (isT b o q n)];exact q
  exact z
end
section
variable{X:Cx}{pins:List (Addr×Obj)}{σ:St}{H:Hp}{s:Shared}{x T:Addr}{C:Value}{E:Value->Shared->Prop}
theorem yP{x T:Addr}(x1:XOk X pins H x)(xT:XOk X pins H T):∀ b∈[x,T],XOk X pins H b:=fun b hb=>by
 rcases BG.mp hb with e | hb
 ·rw[e];exact x1
 ·have e:b=T:=by simpa using hb
  rw[e];exact xT
theorem Inv.leaveF{Q:Unit->Shared->Prop}(I:Inv X pins σ H s)(hx:X.ex = [])(hst:X.stack=X.env::X.outer)(hfr:X.env.frame=some X.env.locals)(x1:XOk X pins H x)(xT:XOk X pins H T)(tr:TrcF s.heap x C T)
  (h:∀ h' T,Inv X pins σ H { s with heap:=h' }->XOk X pins H x->XOk X pins H T->Trc h' x C T->Q () { s with heap:=h' }):wpAny (model X.prog X.w) X.A (leaving X.env (.ref x)) Q E s:=by
 have frm:X.A.frames=some (X.env::X.outer):=by rw[← hst];exact I.ok.frames
 obtain⟨oe,vs,a0,oT,ts,fl,he,hc,h0,hd,h1,hTe,hT,hdT,h3⟩:=tr;refine pU (base:=hidX X s.heap [x,T]) frm (hst▸I.hidF [x,T]) hfr ⟨oe,vs,T,oT,ts,he,⟨hc,h0⟩,hd,h1,dH (by simp),hTe,hT,hdT,h3⟩ (oa _ _) (dH (by simp)) fun h' k1 k3 k4=>?_
 obtain⟨I',T',xT',tr'⟩:=I.left hx (yP x1 xT) k1 k3 k4;exact h h' T' I' x1 xT' tr'
end
noncomputable def WshF(X:Cx)(W:WKD):Prop:=∀(pins:List (Addr×Obj))(σ:St)(H:Hp)(s:Shared)(x T:Addr)(C:Value)(d:Option Addr),Inv X pins σ H s->XOk X pins H x->XOk X pins H T->TrcF s.heap x C T->Xd s.heap x d->W C d σ H->X.xe (.ref x) s
theorem zW{P:Program}{w:World}{K:BD}{mg:Str->Option Value}{base:Heap}{N:List Str}{qual:Str}{scope:Scope}{f:Addr}{cd:Value}{A:Around}{outer:List Env}{s₀:Shared}{H₀:Hp}{E:XK} :
  WshF (cxOf (CXd P w) P w K mg base N qual scope f cd A outer s₀ H₀ E) (fun C d _ H=>E C d H):=fun pins σ H s x T C d I x1 xT tr z hE=>by
 show wpAny (model P w) (A.deeper (envOfC qual scope s₀.heap.objs.size f cd)) (leaving (envOfC qual scope s₀.heap.objs.size f cd) (.ref x)) _ _ s;refine wpAny_mono (gj (iD _ _) (Inv.leaveF (Q:=fun _ s'=>∃ h' T,s'={ s with heap:=h' }/\Inv (cxOf (CXd P w) P w K mg base N qual scope f cd A outer s₀ H₀ E) pins σ H { s with heap:=h' }/\XOk (cxOf (CXd P w) P w K mg base N qual scope f cd A outer s₀ H₀ E) pins H x/\XOk (cxOf (CXd P w) P w K mg base N qual scope f cd A outer s₀ H₀ E) pins H T/\Trc h' x C T) (E:=fun _ _=>False) I rfl rfl rfl x1 xT tr fun h' T I' x1 xT tr=>⟨h',T,rfl,I',x1,xT,tr⟩)) ?_ (fun _ _ q=>q.1.elim);rintro _ s' ⟨⟨h',T,rfl,I',x1,xT,tr⟩,dk⟩;exact⟨x,C,T,H,d,rfl,I'.os,I'.bare,I'.base,I'.hok,x1.old,xT.old,x1.trk,xT.trk,tr,z.dk dk tr.there,hE⟩
section
variable{X:Cx}{k:Nat}{f:Addr}{fd:FuncData}{ps:List Str}{sp:Sp}{dvs:List V}{ds:List Value}{W:WKD}{x:Str}{p pos:Pos}{e:Expr}{es:List Expr}{t:TA}
theorem vw(F:FnOk X.prog X.w X.K X.mg X.base (CXd X.prog X.w) k f fd ps sp)(hr:Room k X.A)(hg:Gl X x)(hm:X.mg x=some (.ref f))(hk:CY X.K (.ref f)=true)(hb:d8 X.K fd ps ds)(hd:Vals dvs ds)(ws:oS X W)(hx:PnX X)
  (ha:PA X (e::es) t) (hdb:(x == ("__debug__" : Str))=false:=by decide) (he:starEach (e::es) X.env=(false,eval e X.env)::starEach es X.env:=by rfl) (hpl:(backTo pos (starEach es X.env)).any (·.1)=false:=by rfl) :
  PE X (.Call (.Name x p) (e::es) [] pos) (ux sp dvs W t):=by
 intro pins s σ H Q I h;refine wpAny_Call_Name_kw (fU I hg hm ?_ hdb);refine EE (h₀:=X.base) I.ok.mod.kin hk (thn (ha pos pins s σ H _ I h) fun us s1 ⟨vs,H1,I1,r,q⟩=>⟨I1.kIn,?_⟩) he hpl;have r2:Vals (vs++dvs) (us++ds):=r.append hd;have hl:(us++ds).length=ps.length:=by rw[← r2.length];exact F.len _ _ _ _ q
 refine wpAny_call (codeAny_mono (F.run X.A X.stack s1 H1 ⟨us,[]⟩ (us++ds) (vs++dvs) Q _ hr I1.env0 (hb s1 us I1.kIn hl) r2 q) fun r s' hq=>?_)
 cases r with
 |error e =>
  obtain⟨x,C,T,H',d,rfl,os,bare,un,hok,nx,nT,tx,tT,tr,z,q'⟩:=hq;have I':Inv X pins σ H' s':=I1.call' os un hok bare fun b z=>absurd z (by simp)
  exact ws pins σ H' s' x T C d I' (I1.xokP hx nx tx) (I1.xokP hx nT tT) tr z q'
 |ok fl =>
  cases fl with
  |ret u=>exact I1.after hq
  |next=>exact False.elim hq
  |brk=>exact False.elim hq
  |cont=>exact False.elim hq
end
section
variable{X:Cx}{pins:List (Addr×Obj)}{σ:St}{H:Hp}{s:Shared}{x T L:Addr}{C:Value}{d:Option Addr}{R:Value->Shared->Prop}{fenv cenv:Env}{outer:List Env}
theorem AU{e:Value}{a b:Env}(h:a.frame=b.frame):noteFrame e a=noteFrame e b:=by
 unfold noteFrame Fu frameObject frameEnvs;rw[h]
theorem yh(hx:PnX X)(hst:X.stack=fenv::outer)(hf:fenv.frame=some L)(hfe:cenv.frame=fenv.frame)(hA:X.A=X.A)(I:Inv X pins σ H s)(x1:XOk X pins H x)(xT:XOk X pins H T)(tr:Trc s.heap x C T)(zd:Xd s.heap x d)
  (h:∀ s4 T4,Inv X pins σ H s4->XOk X pins H T4->TrcF s4.heap x C T4->Xd s4.heap x d->R (.ref x) s4):notedBy (model X.prog X.w) X.A cenv R (.ref x) s:=by
 have frm:X.A.frames=some (fenv::outer):=by rw[← hst];exact I.ok.frames
 obtain⟨oe,vs,a0,oT,ts,he,hc,h0,hd,h1,hTe,hT,hdT,h3⟩:=tr;unfold notedBy;rw[AU hfe];refine wpAny_mono (gj (dY _ _) (wpAny_looks_onW (Q:=fun _ s'=>∃ h4,s'={ s with heap:=h4 }/\Heap.HeldW (hidX X s.heap [x,T]) (fenv::outer) x C a0 L h4/\s.heap.UpToSlots h4) (E:=fun _ _=>False) frm hf ⟨oa _ _,dH (by simp),hst▸I.hidF [x,T],oe,vs,T,oT,ts,he,⟨hc,h0⟩,hd,h1,dH (by simp),hTe,hT,hdT,h3⟩ fun h4 a b=>⟨h4,rfl,a,b⟩)) ?_ (fun _ _ q=>q.1.elim)
 rintro _ s4 ⟨⟨h4,rfl,held,up⟩,dk⟩;obtain⟨I4,T4,xT4,tr4⟩:=I.leftF hx (yP x1 xT) held.1 held.2.2.2 up;obtain⟨o4,_,_,_,_,_,e4,_⟩:=id tr4;exact h _ T4 I4 xT4 tr4 (zd.dk dk ⟨o4,e4⟩)
theorem vz{W:WKD}{what:String}{env:Env}(ws:WshF X W)(I:Inv X pins σ H s)(x1:XOk X pins H x)(xT:XOk X pins H T)(tr:TrcF s.heap x C T)(zd:Xd s.heap x d)(h:W C d σ H):wpAny (model X.prog X.w) X.A (PySem.passOn what (.ref x) env:Sem Value) (fun _ _=>False) X.xe s:=by
 obtain⟨oe,vs,a0,oT,ts,fl,he,hc,h0,hd,h1,hTe,hT,hdT,h3⟩:=tr;have i3:=(EX.mp h3).1;unfold PySem.passOn setFlight;refine wpAny_bind (wpAny_field he hd h1 ?_);rw[if_neg (show ¬ ((Value.ref T == Value.none)=true) from by simp)]
 refine wpAny_bind (wpAny_bind (wpAny_field he hd h1 ?_));rw[if_pos (show(Value.ref T != Value.none)=true from by simp)]
 refine wpAny_setField hT hdT i3 ?_;generalize hv:(env.frame.elim Value.none fun f=>rawInt f)=v;have oth:∀ b,b≠T->(s.heap.update T (Obj.mapFields (·.setIfInBounds 3 v))).get? b=s.heap.get? b:=fun b z=>Heap.get?_update_other _ _ (Ne.symm z);have one:∀ b∈[T],XOk X pins H b:=fun b hb=>by
  have e:b=T:=by simpa using hb
  rw[e];exact xT
 have I2:Inv X pins σ H { s with heap:=s.heap.update T (Obj.mapFields (·.setIfInBounds 3 v)) }:=I.xstep one (fun b o e n _=>(oth b fun z=>n (by simp[z])).trans e) fun b o e n _=>⟨o.slots,(oth b fun z=>n (by simp[z])).trans e⟩
 refine wpAny_throw (ws pins σ H _ x T C d I2 x1 xT ⟨oe,vs,a0,_,_,v,(oth x (Ne.symm hTe)).trans he,hc,h0,hd,h1,hTe,Heap.get?_update_self _ hT (Obj.isFreed_of_fields (Obj.data_mapFields hdT _)),Obj.data_mapFields hdT _,by simp[i3]⟩ ?_ h)
 obtain⟨o2,e2,d2⟩:=zd;exact⟨o2,(oth x (Ne.symm hTe)).trans e2,d2⟩
end
section
variable{X:Cx}{scope:Scope}{fr:List (Str×Nat)}{xs:List Str}{elt iter tg:Expr}{ifs:List Expr}{pos:Pos}{tt:TT}{tgt:TG}{wi:TI}
theorem kM{pins:List (Addr×Obj)}{σ:St}{H:Hp}{s:Shared}{E:Value->Shared->Prop}{it:Addr}{fp:List Addr}{tn:Nat->Heap->Prop}{J:It}{RR:Value->Addr->Result->Shared->Prop}{QQ:List V->Hp->Prop}(hc:X.calm=true)(O:dA X scope fr xs)
  (hg0:∀ C ex s H,PG (cxG X scope fr xs C ex s H) tg tgt) (ht:∀ C ex s H,PTs (cxG X scope fr xs C ex s H) ifs tt) {teW:WKD->TE} {Wi:WKD} (he:∀ C ex s H ps XE Wi,PnX ((cxG X scope fr xs C ex s H).tried ps XE)->oS ((cxG X scope fr xs C ex s H).tried ps XE) Wi->PE ((cxG X scope fr xs C ex s H).tried ps XE) elt (teW Wi)) (hX0:X.ex = []) (hstX:X.stack=X.env::X.outer) (hfrX:X.env.frame=some X.env.locals) (I:Inv X pins σ H s) (T:Turn X.prog X.w X.K tg J fp it tn) (st:tn 0 s.heap) (hf:∀ b∈fp,FpOk X pins H b) (hq:ir tgt tt (teW Wi) xs.length (frOf fr σ) J H QQ)
  (fin:∀ D C H4 ys s4 m,Inv X pins σ (upd H4 D (.lst ys)) s4->H4 D=none->FpOk X pins (upd H4 D (.lst ys)) C->s4.heap.Ns C m->QQ ys H4->RR (.ref D) C (.ok .next) s4)
  (finE:∀ D C H4 σ4 ys s4 m x T c d,Inv X pins σ (upd H4 D (.lst ys)) s4->H4 D=none->FpOk X pins (upd H4 D (.lst ys)) C->s4.heap.Ns C m->XOk X pins (upd H4 D (.lst ys)) x->XOk X pins (upd H4 D (.lst ys)) T->x≠C->T≠C->TrcF s4.heap x c T->Xd s4.heap x d->Wi c d σ4 H4->RR (.ref D) C (.error (.ref x)) s4) :
  wpAny (model X.prog X.w) X.A (newList []) (fun acc s₃=>wpAny (model X.prog X.w) X.A (newFunctionEnv scope X.env.globals (clOf X.env fr) [] X.env.qual none .none (some X.env)) (fun cenv s₄ =>
   codeAny (model X.prog X.w) X.A (.compStart (.ListComp elt [⟨tg,iter,ifs,0⟩] scope pos) 0 (.ref it) acc { cenv with scope:=relabel scope X.env }) (RR acc cenv.locals) s₄) E s₃) E s:=by
 obtain⟨W,⟨m0,w0⟩,turn⟩:=hq;have hfs:∀ b∈fp,b<s.heap.objs.size:=fun b hb=>by
  obtain⟨o,e,_⟩:=T.obj 0 s.heap st b hb;exact Heap.lt_size e
 refine wpAny_newObj_type (wpAny_newFunctionEnv O.cell (by intro y hy;simp at hy) (fun h₁ hns₁ hsb₁=>?_) O.kind)
 dsimp only at hns₁ hsb₁ ⊢;generalize hH2:s.heap.push { cls:=.type "list",dict:=none,data:=.seq ([]:List Value).toArray }=g at hns₁ hsb₁ ⊢;have hg:g=s.heap.push (LCg.lst []):=hH2.symm;have hsz:g.objs.size=s.heap.objs.size+1:=by rw[hg,Heap.size_push]
 have hk:∀ b o,g.get? b=some o->h₁.get? b=some o:=fun b o e=>hsb₁.extBut b o (CA (Heap.lt_size e)) (Heap.get?_push_of_some _ e);have kp:∀ b o,s.heap.get? b=some o->h₁.get? b=some o:=fun b o e=>hk b o (by rw[hg];exact Heap.get?_push_of_some _ e)
 have kpg:∀ b o,s.heap.get? b=some o->g.get? b=some o:=fun b o e=>by rw[hg];exact Heap.get?_push_of_some _ e
 have J0:=wb (h':=h₁) (tk:=s.toks+([]:List (Str×Value)).length) O I hf hfs hg hk hns₁;have stat:∀{H':Hp}{us:List Value},(∀ b∈fp,H' b=none)->∀ b∈fp,FpOk (cxG X scope fr xs g.objs.size (s.heap.objs.size::fp) { s with heap:=g } H) (X.pn++pins++[(s.heap.objs.size,LCg.lst us)]) H' b:=fun{H' us} hn b hb=>by
  obtain⟨_,f1,f2,f3,f4,f5⟩:=hf b hb;refine⟨hn b hb,?_,fun z=>(BG.mp (I.stkSub b z)).elim f1 f2,.inl (BO _ hb),fun y c e=>f4 y c (O.cells I e),fun p hp=>?_⟩
  ·show b≠g.objs.size;rw[hsz];exact CA (FC (hfs b hb))
  ·rcases BN.mp hp with hp | hp
   ·cases hp
   ·rcases BN.mp hp with hp | hp
    ·exact f5 p hp
    ·have ep:p=(s.heap.objs.size,LCg.lst us):=by simpa using hp
     rw[ep];exact Fh (hfs b hb)
 have loop:codeAny (model X.prog X.w) X.A (.compLoop (.ListComp elt [⟨tg,iter,ifs,0⟩] scope pos) 0 (.ref it) (.ref s.heap.objs.size) (compEnvC scope (clOf X.env fr) g.objs.size X.env))
   (RR (.ref s.heap.objs.size) g.objs.size) { s with heap:=h₁,toks:=s.toks+([]:List (Str×Value)).length }:=by
  refine wZ (fun n s'=>∃ i ys us H',Inv (cxG X scope fr xs g.objs.size (s.heap.objs.size::fp) { s with heap:=g } H) (X.pn++pins++[(s.heap.objs.size,LCg.lst us)]) (nons xs++frOf fr σ) H' s'/\Vals ys us/\tn i s'.heap/\(∀ b∈fp,H' b=none)/\W i n ys H') ?_ m0
   ⟨0,[],[],H,J0,.nil,T.keep 0 s.heap h₁ st fun b _ o e=>kp b o e,fun b hb=>(hf b hb).1,w0⟩
  rintro n s3 ⟨i,ys,us,H3,J3,hv,st3,fr3,w3⟩;obtain⟨hlen,hh⟩:=turn i n ys H3 w3;have none_err:∀{α:Type}{t:Sem α}{Q:α->Shared->Prop}{E':Value->Shared->Prop}{s:Shared},wpAny (model X.prog X.w) X.A t Q (fun _ _=>False) s->wpAny (model X.prog X.w) X.A t Q E' s:=fun h=>wpAny_mono h (fun _ _ q=>q) fun _ _ z=>z.elim;have weakN:∀{σ6:St},σ6.length=(nons xs++frOf fr σ).length->σ6.drop xs.length=frOf fr σ->∀(i:Nat) v,(nons xs++frOf fr σ)[i]?=some (some v)->σ6[i]?=some (some v):=fun{σ6} hl6 e6 i v e=>by
   by_cases hi:i<xs.length
   ·rw[BL (by simpa using hi),DY,if_pos hi]at e
    cases e
   ·rw[BH (by simp;omega),← e6,DP]at e
    have:xs.length+(i-(nons xs).length)=i:=by simp;omega
    rw[this]at e;exact e
  rcases hh with⟨stop,qn⟩ | ⟨go,N,hN,step⟩
  ·refine none_err (thn (T.done (cxG X scope fr xs g.objs.size (s.heap.objs.size::fp) { s with heap:=g } H) rfl rfl rfl hc i _ s3 _ H3 _ J3 (stat fr3) st3 stop) fun r s4 ⟨hr,J4⟩=>?_);subst hr;obtain⟨I4,nD,fC,m,hn⟩:=iC I hf hg J4 hv hlen;exact fin _ _ H3 ys s4 m I4 nD fC hn qn
  ·refine none_err (thn (T.item (cxG X scope fr xs g.objs.size (s.heap.objs.size::fp) { s with heap:=g } H) rfl rfl rfl hc i _ s3 _ H3 _ J3 (stat fr3) st3 go) fun r s4 ⟨u,hr,h4⟩=>?_);subst hr;refine none_err (thn h4 fun _ s5 ⟨v,H5,J5,r5,y5,st5,fr5⟩=>?_);have J5':=J5.pinned (stat fr5) (T.obj _ _ st5);refine none_err (thn (hg0 _ _ _ _ _ s5 _ H5 v u _ J5' r5 (step v H5 y5)) fun _ s6 ⟨σ6,H6,J6,e6,q6⟩=>?_);refine none_err (thn (ht _ _ _ _ _ s6 σ6 H6 _ J6 q6) fun b s6' ⟨H6',J6',q6'⟩=>?_);have hl6:σ6.length=(nons xs++frOf fr σ).length:=J6.len.trans J3.len.symm
   cases b with
   |false =>
    rw[if_neg Cf]at q6' ⊢;obtain⟨m',hm,w7⟩:=hN ys H6' q6';have pinF:∀ b∈fp,∀ o,s5.heap.get? b=some o->s6'.heap.get? b=some o/\H6' b=none:=fun b hb o e=>by
     obtain⟨q1,q2,_⟩:=J6'.pin (b,o) (B0 _ (B0 _ (eP hb e)));exact⟨q1,q2⟩
    refine⟨m',hm,i+1,ys,us,H6',J6'.unpinned.weak (σ':=nons xs++frOf fr σ) hl6.symm (weakN hl6 e6),hv,T.keep _ _ _ st5 fun b hb o e=>(pinF b hb o e).1,fun b hb=>?_,w7⟩;obtain⟨o,e,_⟩:=T.obj _ _ st5 b hb;exact(pinF b hb o e).2
   |true =>
    rw[if_pos rfl]at q6' ⊢;have hP:∀ XE,PnX ((cxG X scope fr xs g.objs.size (s.heap.objs.size::fp) { s with heap:=g } H).tried (X.pn++pins++[(s.heap.objs.size,LCg.lst us)]++ka fp s5.heap) XE):=fun XE b hb=>by
     rcases BG.mp hb with rfl | hb
     ·exact⟨LCg.lst us,B0 _ (CD _ (B0 _ (by simp)))⟩
     ·obtain⟨o,e,_⟩:=T.obj _ _ st5 b hb;exact⟨o,B0 _ (B0 _ (eP hb e))⟩
    refine wpAny_mono (he _ _ _ _ (X.pn++pins++[(s.heap.objs.size,LCg.lst us)]++ka fp s5.heap) (notedBy (model X.prog X.w) X.A (compEnvC scope (clOf X.env fr) g.objs.size X.env) fun e s'=>RR (.ref s.heap.objs.size) g.objs.size (.error e) s') Wi (hP _) ?wsh [] s6' _ H6' _ J6'.tried q6') (fun u7 s7 ⟨v7,H7,J7t,r7,q7⟩=>?body) (fun _ _ z=>z)
    case wsh =>
     intro pins' σ1 H1 s1 x T' c d I1 xx xT tr zd hw;show notedBy (model X.prog X.w) X.A (compEnvC scope (clOf X.env fr) g.objs.size X.env) (fun e s'=>RR (.ref s.heap.objs.size) g.objs.size (.error e) s') (.ref x) s1;refine yh (X:=(cxG X scope fr xs g.objs.size (s.heap.objs.size::fp) { s with heap:=g } H).tried (X.pn++pins++[(s.heap.objs.size,LCg.lst us)]++ka fp s5.heap) (notedBy (model X.prog X.w) X.A (compEnvC scope (clOf X.env fr) g.objs.size X.env) fun e s'=>RR (.ref s.heap.objs.size) g.objs.size (.error e) s')) (L:=X.env.locals) (cenv:=compEnvC scope (clOf X.env fr) g.objs.size X.env) (R:=fun e s'=>RR (.ref s.heap.objs.size) g.objs.size (.error e) s') (hP (notedBy (model X.prog X.w) X.A (compEnvC scope (clOf X.env fr) g.objs.size X.env) fun e s'=>RR (.ref s.heap.objs.size) g.objs.size (.error e) s')) hstX hfrX rfl rfl I1 xx xT tr zd fun s4 T4 I4 xT4 tr4 zd4=>?_;have I5:Inv (cxG X scope fr xs g.objs.size (s.heap.objs.size::fp) { s with heap:=g } H) (X.pn++pins++[(s.heap.objs.size,LCg.lst us)]) σ1 H1 s4:=I4.untried.pins_of fun p hp=>I4.untried.pin p (B0 _ (CD _ hp));obtain⟨I6,nD,fC,m,hn⟩:=iC I hf hg I5 hv hlen;have old:∀{b:Addr},g.get? b=none->s.heap.get? b=none:=fun{b} hb=>by
      cases q:s.heap.get? b with
      |none=>rfl
      |some o =>
       have:=kpg b o q;rw[hb]at this
       cases this
     have neD:∀{b:Addr},g.get? b=none->b≠s.heap.objs.size:=fun{b} hb z=>by
      rw[z,hg,Heap.get?_push_size _ rfl]at hb
      cases hb
     refine finE _ _ H1 σ1 ys s4 m x T4 c d I6 nD fC hn (I.xok hX0 (old xx.old) ?_) (I.xok hX0 (old xT4.old) ?_) xx.nl xT4.nl tr4 zd4 hw
     ·rw[ar (neD xx.old)];exact xx.trk
     ·rw[ar (neD xT4.old)];exact xT4.trk
    case body =>
    have J7:=J7t.untried;obtain⟨m',hm,w7⟩:=hN _ H7 q7;obtain⟨eD,nD,dC,dF,dd⟩:=J7.pin (s.heap.objs.size,LCg.lst us) (B0 _ (CD _ (B0 _ (by simp))))
    have hvl:=hv.length;refine append_at (hsz:=by show us.toArray.size<=sizeLine;rw[Cm,← hvl];exact hlen) eD fun h8 hs8 hD8=>?_
    have pinD:∀ p∈X.pn++pins,p.1≠s.heap.objs.size:=fun p hp z=>by
     have:=Heap.lt_size (I.pin p hp).1;rw[z]at this;exact Dy _ this
    have J7a:Inv (cxG X scope fr xs g.objs.size (s.heap.objs.size::fp) { s with heap:=g } H) (X.pn++pins) _ H7 s7:=J7.pins_of fun p hp=>J7.pin p (B0 _ (CD _ (CD _ hp)))
    have J8:Inv (cxG X scope fr xs g.objs.size (s.heap.objs.size::fp) { s with heap:=g } H) (X.pn++pins) _ H7 { s7 with heap:=h8 }:=J7a.turned (t':=s7.toks) (fun b o hb e=>(hs8.2 b hb).trans e) nD dC (.inl BQ) (fun y c e z=>by
     obtain⟨w',q⟩:=I.cell y c (O.cells I e);have:=q.lt;rw[z]at this
     exact Dy _ this) (fun p hp=>(BN.mp hp).elim (fun z=>by cases z) (pinD p))
    have J9:Inv (cxG X scope fr xs g.objs.size (s.heap.objs.size::fp) { s with heap:=g } H) (X.pn++pins++[(s.heap.objs.size,LCg.lst (us++[u7]))]) _ H7 { s7 with heap:=h8 }:=J8.pins_of fun p hp=>by
     rcases BN.mp hp with hp | hp
     ·exact J8.pin p (B0 _ hp)
     ·have ep:p=(s.heap.objs.size,LCg.lst (us++[u7])):=by simpa using hp
      subst ep;exact⟨hD8.trans (congrArg some (LCg.lst_snoc us u7)),nD,dC,dF,fun v z=>by cases z⟩
    have J10:=J9.weak (σ':=nons xs++frOf fr σ) hl6.symm (weakN hl6 e6);have pinF:∀ b∈fp,∀ o,s5.heap.get? b=some o->s7.heap.get? b=some o/\H7 b=none:=fun b hb o e=>by
     obtain⟨q1,q2,_⟩:=J7.pin (b,o) (B0 _ (B0 _ (eP hb e)));exact⟨q1,q2⟩
    refine⟨m',hm,i+1,ys++[v7],us++[u7],H7,J10,hv.append (.cons r7 .nil),T.keep _ _ _ st5 fun b hb o e=>(hs8.2 b (CA (hfs b hb))).trans (pinF b hb o e).1,fun b hb=>?_,w7⟩;obtain⟨o,e,_⟩:=T.obj _ _ st5 b hb;exact(pinF b hb o e).2
 exact codeAny_compStart_list loop (T.self X.A 0 _ _ _ (T.keep 0 s.heap h₁ st fun b _ o e=>kp b o e) loop)
noncomputable abbrev wOut(W:WKD)(σ:St):WKD:=fun c d _ H1=>∀ D ys,H1 D=none->W c d σ (upd H1 D (.lst ys))
theorem rR{W:WKD}{σ σ4:St}{pins:List (Addr×Obj)}{use:Option (Value->Sem Unit)}{QV:Value->Shared->Prop}{acc:Value}{D C:Addr}{H4:Hp}{ys:List V}{s4:Shared}{m:Str->Option Value}{x T:Addr}{c:Value}{d:Option Addr}(ws:WshF X W)(I:Inv X pins σ (upd H4 D (.lst ys)) s4)(nD:H4 D=none)(fC:FpOk X pins (upd H4 D (.lst ys)) C)(hn:s4.heap.Ns C m)
  (x1:XOk X pins (upd H4 D (.lst ys)) x) (xT:XOk X pins (upd H4 D (.lst ys)) T) (xC:x≠C) (TC:T≠C) (tr:TrcF s4.heap x c T) (zd:Xd s4.heap x d) (hw:wOut W σ c d σ4 H4):compPost (model X.prog X.w) X.A X.xe use QV acc C (.error (.ref x)) s4:=by
 have go:∃ m,s4.heap.Ns C m/\∀ h',Heap.SameBut C s4.heap h'->∀ cenv:Env,cenv.locals=C->wpAny (model X.prog X.w) X.A (PySem.passOn "comprehension.variables-let-go" (.ref x) cenv:Sem Value) (fun _ _=>False) X.xe { s4 with heap:=h' }:=by
  refine⟨m,hn,fun h' hs' cenv _=>?_⟩;obtain⟨g0,g1,g2,g3,g4,g5⟩:=fC;have I5:=I.turned (t':=s4.toks) (fun b o hb e=>(hs'.2 b hb).trans e) g0 g1 g3 g4 g5;obtain⟨oe,vs,a0,oT,ts,fl,he,hc,h0,hd,h1,hTe,hT,hdT,h3⟩:=tr;obtain⟨o2,e2,d2⟩:=zd;exact vz ws I5 x1 xT ⟨oe,vs,a0,oT,ts,fl,(hs'.2 x xC).trans he,hc,h0,hd,h1,hTe,(hs'.2 T TC).trans hT,hdT,h3⟩ ⟨o2,(hs'.2 x xC).trans e2,d2⟩ (hw D ys nD)
 cases use<;>exact go
noncomputable def Ad(W:WKD)(wi:TI)(g:TG)(tt:TT)(te:WKD->TE)(n:Nat)(fr:List (Str×Nat)):TE:=fun σ H Q=>wi σ H fun J H1=>ir g tt (te (wOut W σ)) n (frOf fr σ) J H1 fun ys H2=>∀ D,H2 D=none->Q (.ref D) (upd H2 D (.lst ys))
theorem nK{te:WKD->TE}{W:WKD}(ws:WshF X W)(hX0:X.ex = [])(hstX:X.stack=X.env::X.outer)(hfrX:X.env.frame=some X.env.locals)(hc:X.calm=true)(O:dA X scope fr xs)(hi:PI X tg iter wi)(hg0:∀ C ex s H,PG (cxG X scope fr xs C ex s H) tg tgt)(ht:∀ C ex s H,PTs (cxG X scope fr xs C ex s H) ifs tt)
  (he:∀ C ex s H ps XE Wi,PnX ((cxG X scope fr xs C ex s H).tried ps XE)->oS ((cxG X scope fr xs C ex s H).tried ps XE) Wi->PE ((cxG X scope fr xs C ex s H).tried ps XE) elt (te Wi)) (hs:∀ x,foldedSetIterable iter X.env x=pure x:=by intro _;rfl) :
  PE X (.ListComp elt [⟨tg,iter,ifs,0⟩] scope pos) (Ad W wi tgt tt te xs.length fr):=by
 intro pins s σ H Q I h;rw[eval_ListComp];refine wpAny_comprehension_free (use:=none) rfl hs O.clos O.kind O.names (thn (hi pins s σ H _ I h) fun xv s1 h1=>thn h1 fun itv s2 h2=>?_);obtain⟨it,fp,tn,J,H2,e,I2,T,st2,f2,q2⟩:=h2;subst e;refine kM (RR:=fun acc C=>compPost (model X.prog X.w) X.A X.xe none (EP X pins σ Q) acc C) hc O hg0 ht he hX0 hstX hfrX I2 T st2 f2 q2 ?_ ?_
 ·intro D C H4 ys s4 m I4 nD fC hn q4;refine⟨m,hn,fun h' hs'=>?_⟩;obtain⟨g0,g1,g2,g3,g4,g5⟩:=fC;exact⟨.ref D,_,I4.turned (t':=s4.toks) (fun b o hb e=>(hs'.2 b hb).trans e) g0 g1 g3 g4 g5,rfl,q4 D nD⟩
 ·intro D C H4 σ4 ys s4 m x T c d I4 nD fC hn x1 xT xC TC tr zd hw;exact rR ws I4 nD fC hn x1 xT xC TC tr zd hw
noncomputable def r9(i:Nat)(W:WKD)(wi:TI)(g:TG)(tt:TT)(te:WKD->TE)(n:Nat)(fr:List (Str×Nat)):TS:=fun D σ H=>wi σ H fun J H1=>ir g tt (te (wOut W σ)) n (frOf fr σ) J H1 fun ys H2=>∀ a,H2 a=none->D.nx (σ.set i (some (.ref a))) (upd H2 a (.lst ys))
theorem nI{te:WKD->TE}{W:WKD}{i:Nat}{y:Str}{py spos:Pos}(ws:WshF X W)(hX0:X.ex = [])(hstX:X.stack=X.env::X.outer)(hfrX:X.env.frame=some X.env.locals)(hc:X.calm=true)(hN:X.N.Nodup)(hi':X.N[i]?=some y)(hy:X.env.scope.names.lookup y=some .local)(O:dA X scope fr xs)(hi:PI X tg iter wi)(hg0:∀ C ex s H,PG (cxG X scope fr xs C ex s H) tg tgt)(ht:∀ C ex s H,PTs (cxG X scope fr xs C ex s H) ifs tt)
  (he:∀ C ex s H ps XE Wi,PnX ((cxG X scope fr xs C ex s H).tried ps XE)->oS ((cxG X scope fr xs C ex s H).tried ps XE) Wi->PE ((cxG X scope fr xs C ex s H).tried ps XE) elt (te Wi))
  (hsw:swapsWith (.ListComp elt [⟨tg,iter,ifs,0⟩] scope pos) (some (.Name y py)) spos.line X.env=pure true:=by rfl) (hs:∀ x,foldedSetIterable iter X.env x=pure x:=by intro _;rfl) :
  PS X (.Assign [.Name y py] (.ListComp elt [⟨tg,iter,ifs,0⟩] scope pos) spos) (r9 i W wi tgt tt te xs.length fr):=by
 intro pins s σ H D I h;rw[exec_Assign_Name_used _ _ _ _ hsw];refine wpAny_bind (wpAny_standAt (wpAny_bind ?_));show wpAny _ X.A (do let _ ← comprehension (.ListComp elt [⟨tg,iter,ifs,0⟩] scope pos) scope X.env _ (newList []) false (eval iter X.env) (some (assign (.Name y py) X.env))) _ _ s
 refine wpAny_bind (thn (wpAny_comprehension_free (use:=some (assign (.Name y py) X.env)) (Q:=fun _ s'=>SP X pins D .next s') rfl hs O.clos O.kind O.names (thn (hi pins s σ H _ I h) fun xv s1 h1=>thn h1 fun itv s2 h2=>?_)) fun _ s' hq=>wpAny_pure (wpAny_pure hq));obtain⟨it,fp,tn,J,H2,e,I2,T,st2,f2,q2⟩:=h2;subst e;refine kM (RR:=fun acc C=>compPost (model X.prog X.w) X.A X.xe (some (assign (.Name y py) X.env)) (fun _ s'=>SP X pins D .next s') acc C) hc O hg0 ht he hX0 hstX hfrX I2 T st2 f2 q2 ?_ ?_
 ·intro a C H4 ys s4 m I4 nD fC hn q4;obtain⟨g0,g1,g2,g3,g4,g5⟩:=fC;obtain⟨oC,eC,hoC⟩:=LCg.ns_obj hn;have I5:Inv X (pins++[(C,oC)]) σ (upd H4 a (.lst ys)) s4:=I4.pins_of fun p hp=>by
   rcases BN.mp hp with hp | hp
   ·exact I4.pin p (B0 _ hp)
   ·have ep:p=(C,oC):=by simpa using hp
    subst ep;obtain⟨es,epp,hd,_⟩:=hoC;exact⟨eC,g0,g1,g2,fun v z=>by rw[hd]at z;cases z⟩
  show wpAny _ X.A (assign (.Name y py) X.env (.ref a)) _ _ _;refine wpAny_assign_Name (jK I5 hN hi' (.inl hy) (v:=.ref a) rfl (fun s6 I6=>?_) (.inr hy));obtain⟨e6,_⟩:=I6.pin (C,oC) (B0 _ (B0 _ (by simp)))
  refine⟨m,hoC.ns e6,fun h' hs'=>?_⟩;exact⟨_,_,I6.unpinned.turned (t':=s6.toks) (fun b o hb e=>(hs'.2 b hb).trans e) g0 g1 g3 g4 g5,q4 a nD⟩
 ·intro D C H4 σ4 ys s4 m x T c d I4 nD fC hn x1 xT xC TC tr zd hw;exact rR ws I4 nD fC hn x1 xT xC TC tr zd hw
end
theorem lF{X:Cx}{W:WKD}(ws:WshD X W):oS X W:=fun pins σ H s x T C d I x1 xT tr z hw=>ws pins σ H s x C d I ⟨x1,.inr ⟨T,xT,tr⟩⟩ z hw
theorem pG{X:Cx}(h:X.ex = []):PnX X:=fun b hb=>by rw[h]at hb;cases hb
section
variable{X:Cx}{k:Nat}{f C:Addr}{fd:FuncData}{ps:List Str}{sp:Sp}{dvs:List V}{ds:List Value}{W:WKD}{x m:Str}{p pos apos:Pos}{e o:Expr}{es:List Expr}{ta:TE}{t:TA}
noncomputable def tMakeD(C:Addr)(sp:Sp)(dvs:List V)(W:WKD)(t:TA):TE:=fun σ H Q=>t σ H fun vs H1=>∀ x dx,H1 x=none->H1 dx=none->dx≠x ->
 sp (.ref x::(vs++dvs)) (upd (upd H1 dx (.own x)) x (.ins C dx [])) (fun v H2=>v=.non/\Q (.ref x) H2) fun C d H'=>W C d σ H'
theorem l8(M:Mk X.K C f)(F:FnOk X.prog X.w X.K X.mg X.base (CXd X.prog X.w) k f fd ps sp)(hr:Room (k+1) X.A)(hg:Gl X x)(hm:X.mg x=some (.ref C))(hb:d8 X.K fd ps ds)(hd:Vals dvs ds)(ws:oS X W)(hx:PnX X)
  (ha:PA X (e::es) t) (hdb:(x == ("__debug__" : Str))=false:=by decide) (he:starEach (e::es) X.env=(false,eval e X.env)::starEach es X.env:=by rfl) (hpl:(backTo pos (starEach es X.env)).any (·.1)=false:=by rfl) :
  PE X (.Call (.Name x p) (e::es) [] pos) (tMakeD C sp dvs W t):=by
 intro pins s σ H Q I h;refine wpAny_Call_Name_kw (fU I hg hm ?_ hdb);refine EE (h₀:=X.base) I.ok.mod.kin M.kp (thn (ha pos pins s σ H _ I h) fun us s1 ⟨vs,H1,I1,r,q⟩=>⟨I1.kIn,?_⟩) he hpl;have hq:=q (s1.heap.objs.size+1) s1.heap.objs.size (I1.hok.fresh (Ez _)) (I1.hok.fresh (BI _)) (CA (Ex _));have I2:=Inv.made (C:=C) I1;have r2:Vals (V.ref (s1.heap.objs.size+1)::(vs++dvs)) (Value.ref (s1.heap.objs.size+1)::(us++ds)):=.cons rfl (r.append hd);have hl:(Value.ref (s1.heap.objs.size+1)::us++ds).length=ps.length:=by
  have e:=r2.length;rw[F.len _ _ _ _ hq]at e;exact e.symm
 refine wpAny_call (ym (f:=f) I1.kIn M.makes M.init (beq_iff_eq.mp M.fn) (codeAny_mono (F.run _ X.stack _ _ ⟨Value.ref (s1.heap.objs.size+1)::us,[]⟩ (Value.ref (s1.heap.objs.size+1)::(us++ds)) _ _ _ (hr.make C us [])
  (I2.env0.make C us []) (hb _ (Value.ref (s1.heap.objs.size+1)::us) I2.kIn hl) r2 hq) fun r s' hq'=>?_))
 cases r with
 |error e =>
  obtain⟨x,C,T,H',d,rfl,os,bare,un,hok,nx,nT,tx,tT,tr,z,q'⟩:=hq';have I':Inv X pins σ H' s':=I2.call' os un hok bare fun b z=>absurd z (by simp)
  exact ws pins σ H' s' x T C d I' (I2.xokP hx nx tx) (I2.xokP hx nT tT) tr z q'
 |ok fl =>
  cases fl with
  |ret u =>
   obtain⟨v,H',I3,rv,ev,q3⟩:=I2.after hq';subst ev;exact⟨rv,⟨V.ref (s1.heap.objs.size+1),H',I3,rfl,q3⟩⟩
  |next=>exact False.elim hq'
  |brk=>exact False.elim hq'
  |cont=>exact False.elim hq'
end
section
variable{M:Model}{A:Around}{E:Value->Shared->Prop}{h:Heap}{g:Array GenState}{d:Drawn}{t:Nat}{os:OsState}
end
theorem lx.g{te:TE}{fv:St}{J:It}{H1:Hp}{QQ:List V->Hp->Prop}(h:lx te fv J H1 QQ):ir (kE 0) tYes te 1 fv J H1 QQ:=by
 obtain⟨W,w0,st⟩:=h;refine⟨W,w0,fun i m ys H w=>?_⟩;obtain⟨l,h⟩:=st i m ys H w;refine⟨l,h.imp id fun⟨go,N,hN,h⟩=>⟨go,fun zs H2=>∃ y,zs=ys++[y]/\N y H2,fun zs H2 ⟨y,e,n⟩=>e▸hN y H2 n,fun x H' yl=>⟨rfl,yesT ?_⟩⟩⟩
 have e:(fun y H4=>∃ y',ys++[y]=ys++[y']/\N y' H4)=N:=funext fun y=>funext fun H4=>propext ⟨fun⟨y',e,n⟩=>by
  have:y=y':=by simpa using e
  rw[this];exact n,fun n=>⟨y,rfl,n⟩⟩
 rw[e];exact h x H' yl
theorem cU{K:BD}{a:Addr}{xs:List V}{te:TE}{fv:St}{H1:Hp}{QQ:List V->Hp->Prop}(Pv:Nat->List V->Hp->Prop)(hz:xs.length<=sizeLine)(h0:Pv 0 [] H1)(hl:∀ i ys H,i<=xs.length->Pv i ys H->SqL K H a xs)
  (hs:∀ i x ys H,xs[i]?=some x->Pv i ys H->te (some x::fv) H fun y H2=>Pv (i+1) (ys++[y]) H2) (hd:∀ ys H,ys.length=xs.length->Pv xs.length ys H->QQ ys H):ir (kE 0) tYes te 1 fv (Itl K a) H1 QQ:=(wY Pv hz h0 hl hs hd).g
theorem dZ{lo:Int}{n:Nat}{te:TE}{fv:St}{H1:Hp}{QQ:List V->Hp->Prop}(Pv:Nat->List V->Hp->Prop)(hz:n<=sizeLine)(h0:Pv 0 [] H1)
  (hs:∀ i ys H,i<n->Pv i ys H->te (some (.int (lo+i))::fv) H fun y H2=>Pv (i+1) (ys++[y]) H2) (hd:∀ ys H,ys.length=n->Pv n ys H->QQ ys H):ir (kE 0) tYes te 1 fv (Itr lo n) H1 QQ:=(tZ Pv hz h0 hs hd).g
section
variable{X:Cx}{scope:Scope}{fr:List (Str×Nat)}{xs:List Str}{elt iter tg:Expr}{ifs:List Expr}{pos:Pos}{tt:TT}{tgt:TG}{wi:TI}{te:TE}
noncomputable abbrev wNo:WKD:=fun _ _ _ _=>False
theorem wshNo:WshF X wNo:=fun _ _ _ _ _ _ _ _ _ _ _ _ _ z=>z.elim
theorem cG(hX0:X.ex = [])(hstX:X.stack=X.env::X.outer)(hfrX:X.env.frame=some X.env.locals)(hc:X.calm=true)(O:dA X scope fr xs)(hi:PI X tg iter wi)(hg0:∀ C ex s H,PG (cxG X scope fr xs C ex s H) tg tgt)(ht:∀ C ex s H,PTs (cxG X scope fr xs C ex s H) ifs tt)
  (he:∀ C ex s H ps XE,PE ((cxG X scope fr xs C ex s H).tried ps XE) elt te) (hs:∀ x,foldedSetIterable iter X.env x=pure x:=by intro _;rfl):PE X (.ListComp elt [⟨tg,iter,ifs,0⟩] scope pos) (tCompE wi tgt tt te xs.length fr) :=
 nK (te:=fun _=>te) wshNo hX0 hstX hfrX hc O hi hg0 ht (fun C ex s H ps XE _ _ _=>he C ex s H ps XE) hs
theorem gW{i:Nat}{y:Str}{py spos:Pos}(hX0:X.ex = [])(hstX:X.stack=X.env::X.outer)(hfrX:X.env.frame=some X.env.locals)(hc:X.calm=true)(hN:X.N.Nodup)(hi':X.N[i]?=some y)(hy:X.env.scope.names.lookup y=some .local)(O:dA X scope fr xs)(hi:PI X tg iter wi)(hg0:∀ C ex s H,PG (cxG X scope fr xs C ex s H) tg tgt)(ht:∀ C ex s H,PTs (cxG X scope fr xs C ex s H) ifs tt)
  (he:∀ C ex s H ps XE,PE ((cxG X scope fr xs C ex s H).tried ps XE) elt te) (hsw:swapsWith (.ListComp elt [⟨tg,iter,ifs,0⟩] scope pos) (some (.Name y py)) spos.line X.env=pure true:=by rfl) (hs:∀ x,foldedSetIterable iter X.env x=pure x:=by intro _;rfl) :
  PS X (.Assign [.Name y py] (.ListComp elt [⟨tg,iter,ifs,0⟩] scope pos) spos) (uy i wi tgt tt te xs.length fr) :=
 nI (te:=fun _=>te) wshNo hX0 hstX hfrX hc hN hi' hy O hi hg0 ht (fun C ex s H ps XE _ _ _=>he C ex s H ps XE) hsw hs
end
end L2
namespace L2
theorem len_0{α:Type}{l:List α}(h:l.length=0):l = []:=DX.mp h
theorem sV{α:Type}{l:List α}{n:Nat}(h:l.length=n+1):∃ x r,l=x::r/\r.length=n:=by
 cases l with
 |nil=>cases h
 |cons x r=>exact⟨x,r,rfl,Nat.succ.inj h⟩
theorem len_1{α:Type}{l:List α}(h:l.length=1):∃ a,l = [a]:=by
 obtain⟨a,r,rfl,e⟩:=sV h;exact⟨a,by rw[len_0 e]⟩
theorem len_2{α:Type}{l:List α}(h:l.length=2):∃ a b,l = [a,b]:=by
 obtain⟨a,r,rfl,e⟩:=sV h;obtain⟨b,rfl⟩:=len_1 e;exact⟨a,b,rfl⟩
theorem len_3{α:Type}{l:List α}(h:l.length=3):∃ a b c,l = [a,b,c]:=by
 obtain⟨a,r,rfl,e⟩:=sV h;obtain⟨b,c,rfl⟩:=len_2 e;exact⟨a,b,c,rfl⟩
theorem AW{α:Type}{l:List α}(h:l.length=4):∃ a b c d,l = [a,b,c,d]:=by
 obtain⟨a,r,rfl,e⟩:=sV h;obtain⟨b,c,d,rfl⟩:=len_3 e;exact⟨a,b,c,d,rfl⟩
theorem len_5{α:Type}{l:List α}(h:l.length=5):∃ a b c d e,l = [a,b,c,d,e]:=by
 obtain⟨a,r,rfl,z⟩:=sV h;obtain⟨b,c,d,e,rfl⟩:=AW z;exact⟨a,b,c,d,e,rfl⟩
theorem len_6{α:Type}{l:List α}(h:l.length=6):∃ a b c d e f,l = [a,b,c,d,e,f]:=by
 obtain⟨a,r,rfl,z⟩:=sV h;obtain⟨b,c,d,e,f,rfl⟩:=len_5 z;exact⟨a,b,c,d,e,f,rfl⟩
end L2
namespace K8
theorem yT:∀{a b:List Nat},a.Nodup->(∀ x∈a,x∈b)->a.length<=b.length
 |[],_,_,_=>C4 _
 |x::a,b,nd,h=>by
  obtain⟨n1,n2⟩:=B7.mp nd;have hx:=h x (by simp)
  have ih:=yT (a:=a) (b:=b.erase x) n2 fun y hy=>(List.mem_erase_of_ne (fun e:y=x=>n1 (e▸hy))).mpr (h y (BO _ hy));rw[List.length_erase_of_mem hx]at ih;have:0<b.length:=Ed hx;rw[BK];omega
theorem eQ{a:List Nat}{N:Nat}(nd:a.Nodup)(h:∀ x∈a,x<N):a.length<=N:=by
 have:=yT (b:=Cz N) nd fun x hx=>Dt.mpr (h x hx);rwa[CS]at this
theorem rA{l:List Nat}(nd:l.Nodup){i j x:Nat}(hi:l[i]?=some x)(hj:l[j]?=some x):i=j:=by
 have p:=F5.mp nd;obtain⟨h1,e1⟩:=BB.mp hi;obtain⟨h2,e2⟩:=BB.mp hj;rcases Nat.lt_trichotomy i j with z | z | z
 ·exact absurd (e1.trans e2.symm) (p i j h1 h2 z)
 ·exact z
 ·exact absurd (e2.trans e1.symm) (p j i h2 h1 z)
noncomputable abbrev En:=List (Nat×Nat)
structure bC(m:Nat)(es:En)(ts:List (List Nat)):Prop where
 len:ts.length=m
 ends:∀ e∈es,e.1<m/\e.2<m/\e.1≠e.2
 nd:∀(p:Nat)(l:List Nat),ts[p]?=some l->l.Nodup
 mem:∀(p:Nat)(l:List Nat),ts[p]?=some l->∀ t,t∈l↔∃ e,es[t]?=some e/\(e.1=p∨e.2=p)
theorem xE(m:Nat):bC m [] (Dz m []) where
 len:=by simp
 ends:=fun e h=>by cases h
 nd:=fun p l h=>by
  rw[DY]at h;split at h
  ·cases h;exact Et
  ·cases h
 mem:=fun p l h t=>by
  rw[DY]at h;split at h
  ·cases h;simp
  ·cases h
noncomputable def ins(l:List Nat)(k x:Nat):List Nat:=l.take k++x::l.drop k
theorem pX{l:List Nat}{k x y:Nat}:y∈ins l k x↔y=x∨y∈l:=by
 unfold ins;rw[BN,BG];have:=Cj k l;constructor
 ·rintro(h | h | h)
  ·exact .inr (CM h)
  ·exact .inl h
  ·exact .inr (CV h)
 ·rintro(h | h)
  ·exact .inr (.inl h)
  ·rw[← this]at h;rcases BN.mp h with z | z
   ·exact .inl z
   ·exact .inr (.inr z)
theorem wg{l:List Nat}{k x:Nat}(nd:l.Nodup)(h:x∉l):(ins l k x).Nodup:=by
 unfold ins;have e:=Cj k l;rw[← e]at nd;obtain⟨a,b,c⟩:=Cw.mp nd;refine Cw.mpr ⟨a,B7.mpr ⟨fun z=>h (CV z),b⟩,fun y hy z hz=>?_⟩;rcases BG.mp hz with q | q
 ·intro w;exact h (by rw[← q,← w];exact CM hy)
 ·exact c y hy z q
theorem bC.put{m:Nat}{es:En}{ts:List (List Nat)}{one two k j:Nat}{l l':List Nat}(w:bC m es ts)(h1:one<m)(h2:two<m)(hn:one≠two)(e1:ts[one]?=some l)(e2:ts[two]?=some l') :
  bC m (es++[(one,two)]) ((ts.set one (ins l k es.length)).set two (ins l' j es.length)):=by
 have old:∀{p l},ts[p]?=some l->es.length∉l:=fun{p l} e z=>by
  obtain⟨x,hx,_⟩:=(w.mem p l e es.length).mp z;have:=(BB.mp hx).1;omega
 have get:∀ p q,((ts.set one (ins l k es.length)).set two (ins l' j es.length))[p]?=some q->(p=two/\q=ins l' j es.length)∨(p=one/\p≠two/\q=ins l k es.length)∨(p≠one/\p≠two/\ts[p]?=some q):=fun p q e=>by
  have L:two<(ts.set one (ins l k es.length)).length:=by rw[BZ,w.len];exact h2
  have L1:one<ts.length:=by rw[w.len];exact h1
  rw[CJ]at e;by_cases z:two=p
  ·rw[if_pos z,if_pos L]at e;exact .inl ⟨z.symm,(Ci e).symm⟩
  ·rw[if_neg z,CJ]at e;by_cases y:one=p
   ·rw[if_pos y,if_pos L1]at e;exact .inr (.inl ⟨y.symm,Ne.symm z,(Ci e).symm⟩)
   ·rw[if_neg y]at e;exact .inr (.inr ⟨Ne.symm y,Ne.symm z,e⟩)
 have esg:∀ t x,(es++[(one,two)])[t]?=some x↔(es[t]?=some x)∨(t=es.length/\x=(one,two)):=fun t x=>by
  by_cases z:t<es.length
  ·rw[BL z];constructor
   ·exact .inl
   ·rintro(y | y)
    ·exact y
    ·omega
  ·rw[BH (by omega)]
   constructor
   ·intro y;have hl:=(BB.mp y).1;rw[BM]at hl;have ht:t=es.length:=by omega
    subst ht;rw[Ck]at y
    cases y
    exact .inr ⟨rfl,rfl⟩
   ·rintro(y | ⟨y,rfl⟩)
    ·have:=(BB.mp y).1;omega
    ·rw[y,Ck];rfl
 refine⟨by rw[BZ,BZ];exact w.len,fun e he=>?_,fun p q e=>?_,fun p q e t=>?_⟩
 ·rcases BN.mp he with z | z
  ·exact w.ends e z
  ·have:e=(one,two):=by simpa using z
   subst this;exact⟨h1,h2,hn⟩
 ·rcases get p q e with⟨_,rfl⟩ | ⟨_,_,rfl⟩ | ⟨_,_,y⟩
  ·exact wg (w.nd two l' e2) (old e2)
  ·exact wg (w.nd one l e1) (old e1)
  ·exact w.nd p q y
 ·rcases get p q e with⟨rfl,rfl⟩ | ⟨rfl,np,rfl⟩ | ⟨n1,n2,y⟩
  ·rw[pX,w.mem p l' e2 t];constructor
   ·rintro(z | ⟨x,hx,hp⟩)
    ·exact⟨(one,p),(esg _ _).mpr (.inr ⟨z,rfl⟩),.inr rfl⟩
    ·exact⟨x,(esg _ _).mpr (.inl hx),hp⟩
   ·rintro⟨x,hx,hp⟩;rcases(esg _ _).mp hx with z | ⟨z,_⟩
    ·exact .inr ⟨x,z,hp⟩
    ·exact .inl z
  ·rw[pX,w.mem p l e1 t];constructor
   ·rintro(z | ⟨x,hx,hp⟩)
    ·exact⟨(p,two),(esg _ _).mpr (.inr ⟨z,rfl⟩),.inl rfl⟩
    ·exact⟨x,(esg _ _).mpr (.inl hx),hp⟩
   ·rintro⟨x,hx,hp⟩;rcases(esg _ _).mp hx with z | ⟨z,_⟩
    ·exact .inr ⟨x,z,hp⟩
    ·exact .inl z
  ·rw[w.mem p q y t];constructor
   ·rintro⟨x,hx,hp⟩;exact⟨x,(esg _ _).mpr (.inl hx),hp⟩
   ·rintro⟨x,hx,hp⟩;rcases(esg _ _).mp hx with z | ⟨z,rfl⟩
    ·exact⟨x,z,hp⟩
    ·rcases hp with hp | hp
     ·exact absurd hp.symm n1
     ·exact absurd hp.symm n2
noncomputable def hd(es:En)(d:Nat):Nat:=match es[d/2]? with | some e=>if d%2=0 then e.2 else e.1 | none=>0
noncomputable def tl(es:En)(d:Nat):Nat:=match es[d/2]? with | some e=>if d%2=0 then e.1 else e.2 | none=>0
noncomputable def leave(es:En)(t p:Nat):Nat:=match es[t]? with | some e=>if e.1=p then 2*t else 2*t+1 | none=>0
noncomputable def nxt(l:List Nat)(t:Nat):Nat:=(l[(l.idxOf t+1)%l.length]?).getD 0
noncomputable def fol(es:En)(ts:List (List Nat))(d:Nat):Nat:=leave es (nxt ((ts[hd es d]?).getD []) (d/2)) (hd es d)
section
variable{m:Nat}{es:En}{ts:List (List Nat)}
theorem qa{l:List Nat}{t:Nat}(h:t∈l):l[l.idxOf t]?=some t:=by
 have hl:=E5.mpr h;rw[BA hl,List.getElem_idxOf]
theorem gY{l:List Nat}{t:Nat}(h:t∈l):l[(l.idxOf t+1)%l.length]?=some (nxt l t):=by
 have hl:0<l.length:=Ed h;have:=Dh (l.idxOf t+1) hl;unfold nxt;rw[BA this];rfl
theorem bC.at(w:bC m es ts){d:Nat}(h:d<2*es.length):∃ e l,es[d/2]?=some e/\hd es d=(if d%2=0 then e.2 else e.1)/\tl es d=(if d%2=0 then e.1 else e.2)/\hd es d<m/\ts[hd es d]?=some l/\d/2∈l:=by
 have hl:d/2<es.length:=by omega
 have e1:es[d/2]?=some es[d/2]:=BA hl;have q:=w.ends _ (BF e1);generalize es[d/2]=e at e1 q;have h1:hd es d=(if d%2=0 then e.2 else e.1):=by unfold hd;rw[e1]
 have h2:tl es d=(if d%2=0 then e.1 else e.2):=by unfold tl;rw[e1]
 have h3:hd es d<m:=by rw[h1];split<;>omega
 have h4:ts[hd es d]?=some (ts[hd es d]'(by rw[w.len];exact h3)):=BA _
 refine⟨e,_,e1,h1,h2,h3,h4,(w.mem _ _ h4 _).mpr ⟨e,e1,?_⟩⟩;rw[h1];split
 ·exact .inr rfl
 ·exact .inl rfl
theorem bC.foll(w:bC m es ts){d:Nat}(h:d<2*es.length):∃ l e,ts[hd es d]?=some l/\d/2∈l/\es[nxt l (d/2)]?=some e/\(e.1=hd es d∨e.2=hd es d)/\e.1≠e.2/\fol es ts d=(if e.1=hd es d then 2*nxt l (d/2) else 2*nxt l (d/2)+1)/\fol es ts d<2*es.length/\fol es ts d/2=nxt l (d/2)/\tl es (fol es ts d)=hd es d:=by
 obtain⟨e0,l,h1,h2,h3,h4,h5,h6⟩:=w.at h;have hn:=gY h6;obtain⟨e,he,hp⟩:=(w.mem _ _ h5 _).mp (BF hn);have hlt:=(BB.mp he).1;have hne:=(w.ends e (BF he)).2.2;have hf:fol es ts d=(if e.1=hd es d then 2*nxt l (d/2) else 2*nxt l (d/2)+1):=by
  unfold fol;rw[h5];show leave es (nxt l (d/2)) (hd es d)=_;unfold leave;rw[he]
 refine⟨l,e,h5,h6,he,hp,hne,hf,?_,?_,?_⟩
 ·rw[hf];split<;>omega
 ·rw[hf];split<;>omega
 ·rw[hf];by_cases z:e.1=hd es d
  ·have a1:2*nxt l (d/2)/2=nxt l (d/2):=by omega
   have a2:2*nxt l (d/2)%2=0:=by omega
   rw[if_pos z];unfold tl;rw[a1,he];show(if 2*nxt l (d/2)%2=0 then e.1 else e.2)=_;rw[if_pos a2,z]
  ·have a1:(2*nxt l (d/2)+1)/2=nxt l (d/2):=by omega
   have a2:¬ (2*nxt l (d/2)+1)%2=0:=by omega
   rw[if_neg z];unfold tl;rw[a1,he];show(if(2*nxt l (d/2)+1)%2=0 then e.1 else e.2)=_;rw[if_neg a2];exact hp.elim (fun y=>absurd y z) id
theorem bC.inj(w:bC m es ts){a b:Nat}(ha:a<2*es.length)(hb:b<2*es.length)(h:fol es ts a=fol es ts b):a=b:=by
 obtain⟨l,e,p1,p2,_,_,_,_,_,p3,p4⟩:=w.foll ha;obtain⟨l',e',q1,q2,_,_,_,_,_,q3,q4⟩:=w.foll hb;have hh:hd es a=hd es b:=by rw[← p4,← q4,h]
 rw[hh,q1]at p1
 cases p1
 have hx:nxt l (a/2)=nxt l (b/2):=by rw[← p3,← q3,h]
 have g1:=gY p2;have g2:=gY q2;rw[hx]at g1;have ii:=rA (w.nd _ _ q1) g1 g2;have i1:=E5.mpr p2;have i2:=E5.mpr q2;have ix:l.idxOf (a/2)=l.idxOf (b/2):=by
  generalize l.idxOf (a/2)=x at *;generalize l.idxOf (b/2)=y at *;by_cases z1:x+1=l.length
  ·by_cases z2:y+1=l.length
   ·omega
   ·rw[z1,Fi,DM (by omega)]at ii;omega
  ·by_cases z2:y+1=l.length
   ·rw[z2,Fi,DM (by omega)]at ii;omega
   ·rw[DM (by omega),DM (by omega)]at ii;omega
 have ht:a/2=b/2:=by
  have g3:=qa p2;have g4:=qa q2;rw[ix,g4]at g3;exact(Ci g3).symm
 obtain⟨e1,_,r1,r2,_,_,_,_⟩:=w.at ha;obtain⟨e2,_,s1,s2,_,_,_,_⟩:=w.at hb;rw[ht,s1]at r1;have ee:e2=e1:=Ci r1;rw[ee]at s1 s2;have hne:=(w.ends e1 (BF s1)).2.2;rw[r2,s2]at hh;have:a%2=b%2:=by
  by_cases z1:a%2=0<;>by_cases z2:b%2=0
  ·omega
  ·rw[if_pos z1,if_neg z2]at hh;exact absurd hh.symm hne
  ·rw[if_neg z1,if_pos z2]at hh;exact absurd hh hne
  ·omega
 omega
end
structure xw(f:Nat->Nat)(N:Nat):Prop where
 lt:∀ d,d<N->f d<N
 inj:∀ a b,a<N->b<N->f a=f b->a=b
structure Path(f:Nat->Nat)(N first:Nat)(r:List Nat):Prop where
 hd:r[0]?=some first
 lt:∀ d∈r,d<N
 nd:r.Nodup
 nx:∀ i x y,r[i]?=some x->r[i+1]?=some y->y=f x
theorem xS{f:Nat->Nat}{N d:Nat}(h:d<N):Path f N d [d] where
 hd:=rfl
 lt:=fun x hx=>by have:x=d:=by simpa using hx
                  rw[this];exact h
 nd:=by simp
 nx:=fun i x y h1 h2=>by
  have:=(BB.mp h2).1;rw[BM]at this;omega
theorem Path.snoc{f:Nat->Nat}{N d x:Nat}{r:List Nat}(p:xw f N)(h:Path f N d (r++[x]))(hn:f x≠d):Path f N d (r++[x]++[f x]) where
 hd:=by rw[BL (by rw[BE,BM];omega)];exact h.hd
 lt:=fun y hy=>by
  rcases BN.mp hy with z | z
  ·exact h.lt y z
  ·have:y=f x:=by simpa using z
   rw[this];exact p.lt x (h.lt x (by simp))
 nd:=by
  refine Cw.mpr ⟨h.nd,by simp,fun a ha b hb e=>?_⟩
  have eb:b=f x:=by simpa using hb
  subst eb;obtain⟨i,hi⟩:=Cr.mp ha;rw[e]at hi;have hil:=(BB.mp hi).1;rw[BE,BM]at hil
  cases i with
  |zero =>
   rw[h.hd]at hi;exact hn (Ci hi).symm
  |succ i =>
   have gi:(r++[x])[i]?=some ((r++[x])[i]'(by rw[BE,BM];omega)):=BA _
   have:=h.nx i _ _ gi hi;have mi:=h.lt _ (BF gi);have mx:=h.lt x (by simp)
   have e2:=p.inj _ _ mx mi this;rw[← e2]at gi;have gx:(r++[x])[r.length]?=some x:=by rw[BH (BI _),Ck];rfl
   have:=rA h.nd gi gx;omega
 nx:=fun i a b h1 h2=>by
  have h2l:=(BB.mp h2).1;rw[BE,BE,BM,BM]at h2l;rw[BL (by rw[BE,BM];omega)]at h1
  by_cases z:i+1<(r++[x]).length
  ·rw[BL z]at h2;exact h.nx i a b h1 h2
  ·rw[BE,BM]at z;have ei:i=r.length:=by omega
   subst ei;rw[BH (by rw[BE,BM];omega)]at h2
   have:r.length+1-(r++[x]).length=0:=by rw[BE,BM];omega
   rw[this]at h2;rw[BH (BI _),Ck]at h1;have e1:x=a:=Ci h1;have e2:f x=b:=Ci h2;rw[← e2,e1]
structure Ring(f:Nat->Nat)(N:Nat)(r:List Nat):Prop where
 lt:∀ d∈r,d<N
 nd:r.Nodup
 ne:0<r.length
 nx:∀ i x,r[i]?=some x->r[(i+1)%r.length]?=some (f x)
theorem Path.ring{f:Nat->Nat}{N d x:Nat}{r:List Nat}(p:xw f N)(h:Path f N d (r++[x]))(he:f x=d):Ring f N (r++[x]) where
 lt:=h.lt
 nd:=h.nd
 ne:=by rw[BE,BM];omega
 nx:=fun i y hy=>by
  have hl:=(BB.mp hy).1;by_cases z:i+1=(r++[x]).length
  ·rw[z,Fi];have:i=r.length:=by rw[BE,BM]at z;omega
   subst this;rw[BH (BI _),Ck]at hy;have:x=y:=Ci hy;subst this;rw[he];exact h.hd
  ·have l2:i+1<(r++[x]).length:=by omega
   rw[DM l2];have g:=BA l2;rw[g,h.nx i _ _ hy g]
theorem Ring.back{f:Nat->Nat}{N a:Nat}{r:List Nat}(p:xw f N)(h:Ring f N r)(ha:a<N)(hf:f a∈r):a∈r:=by
 obtain⟨i,hi⟩:=Cr.mp hf;have hl:=(BB.mp hi).1;have key:∃ j,j<r.length/\(j+1)%r.length=i:=by
  cases i with
  |zero=>exact⟨r.length-1,by have:=h.ne;omega,by have:=h.ne;rw[show r.length-1+1=r.length by omega,Fi]⟩
  |succ i=>exact⟨i,by omega,DM hl⟩
 obtain⟨j,hj,ej⟩:=key;have g:=BA hj;have q:=h.nx j _ g;rw[ej,hi]at q;have mj:=h.lt _ (BF g);have:=p.inj _ _ ha mj (Ci q);rw[this];exact BF g
structure eA(f:Nat->Nat)(N i:Nat)(rs:List (List Nat)):Prop where
 ring:∀ r∈rs,Ring f N r
 hdl:∀ r∈rs,∀ h,r[0]?=some h->h<i/\∀ d∈r,h<=d
 asc:∀(a b:Nat)(r r':List Nat)(h h':Nat),a<b->rs[a]?=some r->rs[b]?=some r'->r[0]?=some h->r'[0]?=some h'->h<h'
 nd:rs.flatten.Nodup
 all:∀ d,d<i->d∈rs.flatten
theorem sv(f:Nat->Nat)(N:Nat):eA f N 0 [] where
 ring:=fun r h=>by cases h
 hdl:=fun r h=>by cases h
 asc:=fun a b r r' h h' _ e=>by cases e
 nd:=by simp
 all:=fun d h=>by omega
theorem eA.skip{f:Nat->Nat}{N i:Nat}{rs:List (List Nat)}(w:eA f N i rs)(h:i∈rs.flatten):eA f N (i+1) rs where
 ring:=w.ring
 hdl:=fun r hr x hx=>⟨by have:=(w.hdl r hr x hx).1;omega,(w.hdl r hr x hx).2⟩
 asc:=w.asc
 nd:=w.nd
 all:=fun d hd=>by
  by_cases z:d=i
  ·rw[z];exact h
  ·exact w.all d (by omega)
theorem eA.put{f:Nat->Nat}{N i:Nat}{rs:List (List Nat)}{r:List Nat}(p:xw f N)(w:eA f N i rs)(h:i∉rs.flatten)(hi:i<N)(hr:Ring f N r)(pa:Path f N i r):eA f N (i+1) (rs++[r]):=by
 have apart:∀(k x:Nat),r[k]?=some x->x∉rs.flatten:=fun k=>by
  induction k with
  |zero =>
   intro x hx;rw[pa.hd]at hx
   cases hx
   exact h
  |succ k ih =>
   intro x hx z;have hl:=(BB.mp hx).1;have g:=BA (show k<r.length by omega)
   have e:=pa.nx k _ _ g hx;obtain⟨q,hq,zq⟩:=CN.mp z;rw[e]at zq;exact ih _ g (CN.mpr ⟨q,hq,(w.ring q hq).back p (hr.lt _ (BF g)) zq⟩)
 have least:∀ d∈r,i<=d:=fun d hd=>by
  obtain⟨k,hk⟩:=Cr.mp hd;by_cases z:i<=d
  ·exact z
  ·exact absurd (w.all d (by omega)) (apart k d hk)
 refine⟨fun q hq=>?_,fun q hq x hx=>?_,fun a b q q' x x' hab ha hb hx hx'=>?_,?_,fun d hd=>?_⟩
 ·rcases BN.mp hq with z | z
  ·exact w.ring q z
  ·have:q=r:=by simpa using z
   rw[this];exact hr
 ·rcases BN.mp hq with z | z
  ·have:=w.hdl q z x hx
   exact⟨by omega,this.2⟩
  ·have e:q=r:=by simpa using z
   subst e;rw[pa.hd]at hx
   cases hx
   exact⟨by omega,least⟩
 ·have bl:=(BB.mp hb).1
  rw[BE,BM]at bl;rw[BL (by omega)]at ha
  by_cases z:b<rs.length
  ·rw[BL z]at hb;exact w.asc a b q q' x x' hab ha hb hx hx'
  ·have eb:b=rs.length:=by omega
   subst eb;rw[BH (BI _),Ck]at hb;have e:r=q':=Ci hb;subst e;rw[pa.hd]at hx'
   cases hx'
   exact(w.hdl q (BF ha) x hx).1
 ·rw[EB];have e : [r].flatten=r:=by simp
  rw[e];refine Cw.mpr ⟨w.nd,hr.nd,fun a ha b hb e=>?_⟩;obtain⟨k,hk⟩:=Cr.mp hb;exact apart k b hk (e▸ha)
 ·rw[EB,BN];by_cases z:d=i
  ·right;rw[z];simp;exact BF pa.hd
  ·exact .inl (w.all d (by omega))
theorem Bc{rs:List (List Nat)}(nd:rs.flatten.Nodup){a b:Nat}{r r':List Nat}{d:Nat}(ha:rs[a]?=some r)(hb:rs[b]?=some r')(h1:d∈r)(h2:d∈r'):a=b:=by
 induction rs generalizing a b with
 |nil=>cases ha
 |cons q rs ih =>
  rw[CH]at nd;obtain⟨_,n2,n3⟩:=Cw.mp nd
  cases a with
  |zero =>
   cases b with
   |zero=>rfl
   |succ b =>
    have e:q=r:=Ci ha;subst e;exact absurd rfl (n3 d h1 d (CN.mpr ⟨r',BF hb,h2⟩))
  |succ a =>
   cases b with
   |zero =>
    have e:q=r':=Ci hb;subst e;exact absurd rfl (n3 d h2 d (CN.mpr ⟨r,BF ha,h1⟩))
   |succ b=>exact congrArg Nat.succ (ih n2 ha hb)
noncomputable def fF(f:Nat->Nat):Nat->List Nat->Nat->Prop
 |x,[],z=>f x=z
 |x,y::l,z=>f x=y/\fF f y l z
theorem cV{f:Nat->Nat}:∀{x:Nat}{l:List Nat}{y:Nat}{k:List Nat}{z:Nat},fF f x (l++y::k) z↔fF f x l y/\fF f y k z
 |x,[],y,k,z=>Iff.rfl
 |x,a::l,y,k,z=>by
  show(f x=a/\fF f a (l++y::k) z)↔(f x=a/\fF f a l y)/\fF f y k z;rw[cV,and_assoc]
theorem iF{f g:Nat->Nat}:∀{x y:Nat}{l:List Nat}{z:Nat},fF f x l z->g y=f x->(∀ t∈l,g t=f t)->fF g y l z
 |x,y,[],z,h,e,_=>e.trans h
 |x,y,a::l,z,h,e,k=>⟨e.trans h.1,iF h.2 (k a (BQ ..)) fun t ht=>k t (BO _ ht)⟩
theorem oA{f g F:Nat->Nat}:∀{x:Nat}{l:List Nat}{z:Nat},fF f x l z->(∀ t∈x::l,g (F t)=F (f t))->fF g (F x) (l.map F) (F z)
 |x,[],z,h,k=>by
  show g (F x)=F z;rw[k x (BQ ..),show f x=z from h]
 |x,a::l,z,h,k=>⟨by rw[k x (BQ ..),h.1],oA h.2 fun t ht=>k t (BO _ ht)⟩
theorem kO{f:Nat->Nat}{S:Nat->Prop}:∀{x:Nat}{l:List Nat}{z:Nat},fF f x l z->(∀ t∈x::l,S t->S (f t))->S x->S z/\∀ t∈l,S t
 |x,[],z,h,k,s=>⟨by have:=k x (BQ ..) s;rwa[show f x=z from h]at this,fun t ht=>nomatch ht⟩
 |x,a::l,z,h,k,s=>by
  have s1:S a:=by have:=k x (BQ ..) s;rwa[h.1]at this
  obtain⟨h1,h2⟩:=kO h.2 (fun t ht=>k t (BO _ ht)) s1;refine⟨h1,fun t ht=>?_⟩;rcases BG.mp ht with y | y
  ·rw[y];exact s1
  ·exact h2 t y
structure CR(f:Nat->Nat)(N:Nat)(r:List Nat):Prop where
 ch:∃ x l,r=x::l/\fF f x l x
 lt:∀ d∈r,d<N
 nd:r.Nodup
theorem CR.closed{f:Nat->Nat}{N:Nat}{r:List Nat}(h:CR f N r):∀ d∈r,f d∈r:=by
 obtain⟨x,l,rfl,c⟩:=h.ch;intro d hd;rcases BG.mp hd with y | y
 ·subst y
  cases l with
  |nil=>rw[show f d=d from c];exact BQ ..
  |cons a l=>rw[c.1];simp
 ·obtain⟨A,B,rfl⟩:=List.append_of_mem y;have c2:=(cV.mp c).2
  cases B with
  |nil=>rw[show f d=x from c2];exact BQ ..
  |cons a B=>rw[c2.1];simp
theorem CR.sub{f:Nat->Nat}{N:Nat}{r:List Nat}{S:Nat->Prop}(h:CR f N r)(k:∀ t∈r,S t->S (f t)){d:Nat}(hd:d∈r)(s:S d):∀ t∈r,S t:=by
 obtain⟨x,l,rfl,c⟩:=h.ch;have fromx:S x->∀ t∈x::l,S t:=fun sx t ht=>by
  rcases BG.mp ht with y | y
  ·rw[y];exact sx
  ·exact(kO c k sx).2 t y
 rcases BG.mp hd with y | y
 ·exact fromx (y▸s)
 ·obtain⟨A,B,rfl⟩:=List.append_of_mem y;have c2:=(cV.mp c).2;exact fromx (kO c2 (fun t ht=>k t (by simp only[BG,BN]at ht ⊢;rcases ht with z | z<;>simp[z])) s).1
theorem CR.same{f:Nat->Nat}{N:Nat}{r r':List Nat}(h:CR f N r)(h':CR f N r'){d:Nat}(h1:d∈r)(h2:d∈r'):∀ t∈r,t∈r':=h.sub (S:=fun t=>t∈r') (fun t _=>h'.closed t) h1 h2
theorem CR.ne{f:Nat->Nat}{N:Nat}{r:List Nat}(h:CR f N r):∃ d,d∈r:=by
 obtain⟨x,l,rfl,_⟩:=h.ch;exact⟨x,BQ ..⟩
structure Part(f:Nat->Nat)(N:Nat)(rs:List (List Nat)):Prop where
 cr:∀ r∈rs,CR f N r
 nd:rs.flatten.Nodup
 all:∀ d,d<N->d∈rs.flatten
theorem Part.same:∀{rs qs:List (List Nat)}{f:Nat->Nat}{N:Nat},Part f N rs->Part f N qs->rs.length=qs.length:=by
 have le:∀(k:Nat){rs qs:List (List Nat)}{f:Nat->Nat}{N:Nat},Part f N rs->Part f N qs->rs.length<=qs.length:=by
  intro _ rs qs f N p q;have g:∀ r∈rs,∃ i,i<qs.length/\∃ r',qs[i]?=some r'/\∀ t∈r',t∈r:=fun r hr=>by
   have c:=p.cr r hr;obtain⟨d,hd⟩:=c.ne;obtain⟨r',m1,m2⟩:=CN.mp (q.all d (c.lt d hd));obtain⟨i,hi⟩:=Cr.mp m1;exact⟨i,(BB.mp hi).1,r',hi,(q.cr r' m1).same c m2 hd⟩
  have:∀(l:List (List Nat)),(∀ r∈l,r∈rs)->l.flatten.Nodup->∃ is:List Nat,is.length=l.length/\is.Nodup/\∀ i∈is,i<qs.length/\∃ r∈l,∃ r',qs[i]?=some r'/\∀ t∈r',t∈r:=fun l=>by
   induction l with
   |nil=>intro _ _;exact⟨[],rfl,Et,fun i hi=>nomatch hi⟩
   |cons r l ih =>
    intro h nd;rw[CH]at nd;obtain⟨n1,n2,n3⟩:=Cw.mp nd;obtain⟨is,e1,e2,e3⟩:=ih (fun r hr=>h r (BO _ hr)) n2;obtain⟨i,h1,r',h2,h3⟩:=g r (h r (BQ ..));refine⟨i::is,by simp[e1],B7.mpr ⟨fun z=>?_,e2⟩,fun j hj=>?_⟩
    ·obtain⟨_,r2,m2,r3,m3,m4⟩:=e3 i z;rw[h2]at m3
     cases m3
     obtain⟨d,hd⟩:=(q.cr r' (BF h2)).ne;exact n3 d (h3 d hd) d (CN.mpr ⟨r2,m2,m4 d hd⟩) rfl
    ·rcases BG.mp hj with z | z
     ·subst z;exact⟨h1,r,BQ ..,r',h2,h3⟩
     ·obtain⟨k1,r2,k2,k3⟩:=e3 j z;exact⟨k1,r2,BO _ k2,k3⟩
  obtain⟨is,e1,e2,e3⟩:=this rs (fun _ h=>h) p.nd;rw[← e1];exact eQ e2 fun i hi=>(e3 i hi).1
 intro rs qs f N p q;exact Nat.le_antisymm (le 0 p q) (le 0 q p)
theorem Ring.cr{f:Nat->Nat}{N:Nat}{r:List Nat}(h:Ring f N r):CR f N r:=by
 refine⟨?_,h.lt,h.nd⟩;have ne:=h.ne;match r,h,ne with
 |x::l,h,_ =>
  refine⟨x,l,rfl,?_⟩;have key:∀(k i:Nat)(y:Nat),i+k+1=(x::l).length->(x::l)[i]?=some y->fF f y ((x::l).drop (i+1)) x:=fun k=>by
   induction k with
   |zero =>
    intro i y hi hy;have e:=h.nx i y hy;rw[show(i+1)%(x::l).length=0 by rw[← hi];simp]at e
    rw[List.drop_of_length_le (by omega)]
    exact(Ci e).symm
   |succ k ih =>
    intro i y hi hy;have e:=h.nx i y hy;rw[DM (by omega)]at e
    obtain⟨hl,e2⟩:=BB.mp e;rw[DQ hl,e2];exact⟨rfl,ih (i+1) (f y) (by omega) e⟩
  exact key l.length 0 x (by simp) rfl
theorem eA.part{f:Nat->Nat}{N:Nat}{rs:List (List Nat)}(w:eA f N N rs):Part f N rs:=⟨fun r hr=>(w.ring r hr).cr,w.nd,w.all⟩
theorem n9{A B:List Nat}{t:Nat}(h:t∉A):(A++t::B).idxOf t=A.length:=by
 rw[List.idxOf_append,if_neg h,List.idxOf_cons_self,Nat.zero_add]
theorem bB{A B:List Nat}{t:Nat}(h:t∉A):nxt (A++t::B) t=((B++(A++t::B)).head?).getD 0:=by
 unfold nxt;rw[n9 h]
 cases B with
 |nil =>
  have e:(A.length+1)%(A++[t]).length=0:=by rw[BE,BM,Fi]
  rw[e,Fj,List.head?_eq_getElem?]
 |cons b B =>
  have e:(A.length+1)%(A++t::b::B).length=A.length+1:=DM (by simp)
  rw[e,BH (by omega)]
  rw[show A.length+1-A.length=1 by omega]
  rfl
theorem wc{A B:List Nat}{u n:Nat}(h:u∉A):ins (A++u::B) ((A++u::B).idxOf u+1) n=A++u::n::B:=by
 rw[n9 h];unfold ins;have e1:(A++u::B).take (A.length+1)=A++[u]:=by
  rw[List.take_append,Cc (by omega),show A.length+1-A.length=1 by omega]
  rfl
 have e2:(A++u::B).drop (A.length+1)=B:=by simp
 rw[e1,e2];simp
theorem fc{l:List Nat}{u:Nat}(h:u∈l):∃ A B,l=A++u::B/\u∉A:=by
 induction l with
 |nil=>exact nomatch h
 |cons a l ih =>
  by_cases z:a=u
  ·subst z;exact⟨[],l,rfl,Ct⟩
  ·rcases BG.mp h with y | y
   ·exact absurd y.symm z
   ·obtain⟨A,B,rfl,k⟩:=ih y;exact⟨a::A,B,rfl,fun w=>by rcases BG.mp w with w | w;exact z w.symm;exact k w⟩
theorem AS{l:List Nat}{u n:Nat}(hu:u∈l)(hn:n∉l) :
  nxt (ins l (l.idxOf u+1) n) u=n/\nxt (ins l (l.idxOf u+1) n) n=nxt l u/\∀ t∈l,t≠u->nxt (ins l (l.idxOf u+1) n) t=nxt l t:=by
 obtain⟨A,B,rfl,k⟩:=fc hu;rw[wc k];have hnA:n∉A:=fun z=>hn (by simp[z])
 have hnu:n≠u:=fun z=>hn (by simp[z])
 refine⟨?_,?_,fun t ht htu=>?_⟩
 ·rw[bB k];rfl
 ·have e:A++u::n::B=(A++[u])++n::B:=by simp
  rw[e,bB (fun z=>by rcases BN.mp z with z | z;exact hnA z;exact hnu (by simpa using z)),bB k]
  cases B<;>cases A<;>rfl
 ·rcases BN.mp ht with z | z
  ·obtain⟨A1,A2,rfl,k2⟩:=fc z;have e1:(A1++t::A2)++u::n::B=A1++t::(A2++u::n::B):=by simp
   have e2:(A1++t::A2)++u::B=A1++t::(A2++u::B):=by simp
   rw[e1,e2,bB k2,bB k2]
   cases A2<;>rfl
  ·have z':t∈B:=by
    rcases BG.mp z with z | z
    ·exact absurd z htu
    ·exact z
   by_cases tA:t∈A
   ·obtain⟨A1,A2,rfl,k2⟩:=fc tA;have e1:(A1++t::A2)++u::n::B=A1++t::(A2++u::n::B):=by simp
    have e2:(A1++t::A2)++u::B=A1++t::(A2++u::B):=by simp
    rw[e1,e2,bB k2,bB k2]
    cases A2<;>rfl
   ·obtain⟨B1,B2,rfl,k2⟩:=fc z';have tn:t≠n:=fun y=>hn (by rw[← y];simp)
    have e1:A++u::n::(B1++t::B2)=(A++u::n::B1)++t::B2:=by simp
    have e2:A++u::(B1++t::B2)=(A++u::B1)++t::B2:=by simp
    rw[e1,e2,bB (by simp[tA,htu,tn,k2]),bB (by simp[tA,htu,k2])]
    cases B2<;>cases A<;>rfl
theorem kA{es:En}{e:Nat×Nat}{t p:Nat}(h:t<es.length):leave (es++[e]) t p=leave es t p:=by
 unfold leave;rw[BL h]
theorem nX{es:En}{e:Nat×Nat}{p:Nat}:leave (es++[e]) es.length p=if e.1=p then 2*es.length else 2*es.length+1:=by
 unfold leave;rw[BH (BI _),Ck];rfl
theorem lC{es:En}{e:Nat×Nat}{d:Nat}(h:d<2*es.length):hd (es++[e]) d=hd es d:=by
 unfold hd;rw[BL (by omega)]
theorem hd_new{es:En}{e:Nat×Nat}:hd (es++[e]) (2*es.length)=e.2/\hd (es++[e]) (2*es.length+1)=e.1:=by
 have e1:2*es.length/2=es.length:=by omega
 have e2:(2*es.length+1)/2=es.length:=by omega
 constructor
 ·unfold hd;rw[e1,BH (BI _),Ck];show(if 2*es.length%2=0 then e.2 else e.1)=_;rw[if_pos (by omega)]
 ·unfold hd;rw[e2,BH (BI _),Ck];show(if(2*es.length+1)%2=0 then e.2 else e.1)=_;rw[if_neg (by omega)]
theorem hd_inj{m:Nat}{es:En}{ts:List (List Nat)}(w:bC m es ts){a b:Nat}(ha:a<2*es.length)(hb:b<2*es.length)(h:hd es a=hd es b)(h2:a/2=b/2):a=b:=by
 obtain⟨e1,_,r1,r2,_⟩:=w.at ha;obtain⟨e2,_,s1,s2,_⟩:=w.at hb;rw[h2,s1]at r1
 cases r1
 have hne:=(w.ends e1 (BF s1)).2.2;rw[r2,s2]at h;by_cases z1:a%2=0<;>by_cases z2:b%2=0
 ·omega
 ·rw[if_pos z1,if_neg z2]at h;exact absurd h.symm hne
 ·rw[if_neg z1,if_pos z2]at h;exact absurd h hne
 ·omega
noncomputable def cf(n:Nat)(e:Nat×Nat)(p:Nat):Nat:=if e.1=p then 2*n else 2*n+1
theorem eI{es:En}{ts:List (List Nat)}{d:Nat}{l:List Nat}(h:ts[hd es d]?=some l):fol es ts d=leave es (nxt l (d/2)) (hd es d):=by
 unfold fol;rw[h];rfl
theorem bC.flip{m:Nat}{es:En}{ts:List (List Nat)}{a b:Nat}(w:bC m (es++[(a,b)]) ts):bC m (es++[(b,a)]) ts:=by
 have key:∀(x y:Nat)(t p:Nat),(∃ e,(es++[(x,y)])[t]?=some e/\(e.1=p∨e.2=p))->∃ e,(es++[(y,x)])[t]?=some e/\(e.1=p∨e.2=p):=fun x y t p=>by
  rintro⟨e,h1,h2⟩;by_cases z:t<es.length
  ·rw[BL z]at h1;exact⟨e,by rw[BL z];exact h1,h2⟩
  ·have hl:=(BB.mp h1).1
   rw[BE,BM]at hl;have z':t=es.length:=by omega
   subst z';rw[BH (BI _),Ck]at h1
   cases h1
   exact⟨(y,x),by rw[BH (BI _),Ck];rfl,h2.symm⟩
 refine⟨w.len,fun e he=>?_,w.nd,fun p l h t=>⟨fun z=>key a b t p ((w.mem p l h t).mp z),fun z=>(w.mem p l h t).mpr (key b a t p z)⟩⟩;rcases BN.mp he with z | z
 ·exact w.ends e (CD _ z)
 ·have:e=(b,a):=by simpa using z
  subst this;obtain⟨h1,h2,h3⟩:=w.ends (a,b) (by simp)
  exact⟨h2,h1,fun y=>h3 y.symm⟩
theorem bC.room{m:Nat}{es:En}{ts:List (List Nat)}(w:bC m es ts):bC (m+1) es (ts++[[]]):=by
 refine⟨by rw[BE,w.len];rfl,fun e he=>?_,fun p l h=>?_,fun p l h t=>?_⟩
 ·obtain⟨h1,h2,h3⟩:=w.ends e he;exact⟨by omega,by omega,h3⟩
 all_goals by_cases z:p<ts.length
 ·rw[BL z]at h;exact w.nd p l h
 ·have hl:=(BB.mp h).1
  rw[BE,BM]at hl;have z':p=ts.length:=by omega
  subst z';rw[BH (BI _),Ck]at h
  cases h
  exact Et
 ·rw[BL z]at h;exact w.mem p l h t
 ·have hl:=(BB.mp h).1
  rw[BE,BM]at hl;have z':p=ts.length:=by omega
  subst z';rw[BH (BI _),Ck]at h
  cases h
  refine⟨(fun y=>nomatch y),?_⟩;rintro⟨e,h1,h2⟩;obtain⟨k1,k2,_⟩:=w.ends e (BF h1);have:=w.len;omega
theorem Bo{m:Nat}{es:En}{ts:List (List Nat)}(w:bC m es ts){p:Nat}{l:List Nat}(h:ts[p]?=some l):es.length∉l:=fun z=>by
 obtain⟨x,hx,_⟩:=(w.mem p l h es.length).mp z;have:=(BB.mp hx).1;omega
theorem qf{m:Nat}{es:En}{ts ts':List (List Nat)}{e:Nat×Nat}{p u:Nat}{l:List Nat}(w:bC m es ts)(hl:ts[p]?=some l)(hu:u<2*es.length)(hp:hd es u=p)(hl':ts'[p]?=some (ins l (l.idxOf (u/2)+1) es.length)) :
  fol (es++[e]) ts' u=cf es.length e p/\(∀ b,b/2=es.length->hd (es++[e]) b=p->fol (es++[e]) ts' b=fol es ts u)/\∀ d,d<2*es.length->d≠u->hd es d=p->fol (es++[e]) ts' d=fol es ts d:=by
 obtain⟨_,l0,_,_,_,_,g5,g6⟩:=w.at hu;rw[hp,hl]at g5
 cases g5
 have nn:=Bo w hl;obtain⟨n1,n2,n3⟩:=AS g6 nn;have lt:∀ t∈l,nxt l t<es.length:=fun t ht=>by
  obtain⟨x,hx,_⟩:=(w.mem p l hl (nxt l t)).mp (BF (gY ht));exact(BB.mp hx).1
 refine⟨?_,fun b hb hpb=>?_,fun d hd' hne hpd=>?_⟩
 ·rw[eI (l:=ins l (l.idxOf (u/2)+1) es.length) (by rw[lC hu,hp];exact hl'),n1,lC hu,hp,nX]
  rfl
 ·rw[eI (l:=ins l (l.idxOf (u/2)+1) es.length) (by rw[hpb];exact hl'),hb,n2,hpb,kA (lt _ g6),eI (l:=l) (by rw[hp];exact hl),hp]
 ·obtain⟨_,l0,_,_,_,_,k5,k6⟩:=w.at hd';rw[hpd,hl]at k5
  cases k5
  have tne:d/2≠u/2:=fun z=>hne (hd_inj w hd' hu (hpd.trans hp.symm) z);rw[eI (l:=ins l (l.idxOf (u/2)+1) es.length) (by rw[lC hd',hpd];exact hl'),n3 _ k6 tne,lC hd',hpd,kA (lt _ k6),eI (l:=l) (by rw[hpd];exact hl),hpd]
theorem rM{m:Nat}{es:En}{ts ts':List (List Nat)}{e:Nat×Nat}(w:bC m es ts){d:Nat}(hd':d<2*es.length)(h:ts'[hd es d]?=ts[hd es d]?):fol (es++[e]) ts' d=fol es ts d:=by
 obtain⟨_,l,_,_,_,_,k5,k6⟩:=w.at hd';have lt:nxt l (d/2)<es.length:=by
  obtain⟨x,hx,_⟩:=(w.mem _ l k5 (nxt l (d/2))).mp (BF (gY k6));exact(BB.mp hx).1
 rw[eI (l:=l) (by rw[lC hd',h];exact k5),lC hd',kA lt,eI k5]
theorem cz(n:Nat)(e:Nat×Nat)(p:Nat):cf n e p/2=n:=by
 unfold cf;split<;>omega
theorem rP{es:En}{one two:Nat}{e:Nat×Nat}(hne:one≠two)(he:e=(one,two)∨e=(two,one)):hd (es++[e]) (cf es.length e one)=two/\hd (es++[e]) (cf es.length e two)=one/\cf es.length e one≠cf es.length e two/\∀ d,d<2*(es.length+1)->d<2*es.length∨d=cf es.length e one∨d=cf es.length e two:=by
 obtain⟨h1,h2⟩:=hd_new (es:=es) (e:=e);unfold cf;rcases he with he | he
 ·have c1:e.1=one:=by rw[he]
  have c2:¬ e.1=two:=by rw[he];exact hne
  have c3:e.2=two:=by rw[he]
  rw[if_pos c1,if_neg c2,h1,h2];exact⟨c3,c1,by omega,fun d hd=>by omega⟩
 ·have c1:e.1=two:=by rw[he]
  have c2:¬ e.1=one:=by rw[he];exact fun z=>hne z.symm
  have c3:e.2=one:=by rw[he]
  rw[if_pos c1,if_neg c2,h1,h2];exact⟨c1,c3,by omega,fun d hd=>by omega⟩
structure Gr(m:Nat)(es:En)(ts:List (List Nat)):Prop where
 w:bC m es ts
 conn:∀ S:Nat->Prop,(∀ e∈es,S e.1↔S e.2)->∀ p q,p<m->q<m->S p->S q
 mb:m<=es.length+1
theorem zE{m:Nat}{es:En}{ts:List (List Nat)}(g:Gr m es ts):m<=es.length+1:=g.mb
theorem CR.mono{f g:Nat->Nat}{N M:Nat}{r:List Nat}(h:CR f N r)(hN:N<=M)(k:∀ t∈r,g t=f t):CR g M r:=by
 obtain⟨x,l,rfl,c⟩:=h.ch;exact⟨⟨x,l,rfl,iF c (k x (BQ ..)) fun t ht=>k t (BO _ ht)⟩,fun d hd=>Cb (h.lt d hd) hN,h.nd⟩
theorem yG{m:Nat}{es:En}{e:Nat×Nat}(c:∀ S:Nat->Prop,(∀ e∈es,S e.1↔S e.2)->∀ p q,p<m->q<m->S p->S q):∀ S:Nat->Prop,(∀ x∈es++[e],S x.1↔S x.2)->∀ p q,p<m->q<m->S p->S q :=
 fun S h=>c S fun x hx=>h x (CD _ hx)
theorem Gr.join{m:Nat}{es:En}{ts:List (List Nat)}(g:Gr m es ts){left right one two:Nat}{e:Nat×Nat}{l l' tail:List Nat}(hl:left<2*es.length)(hr:CR (fol es ts) (2*es.length) (left::tail))(hch:fF (fol es ts) left tail left)(hm:right∈left::tail)
  (h1:hd es left=one) (h2:hd es right=two) (hne:one≠two) (he:e=(one,two)∨e=(two,one)) (e1:ts[one]?=some l) (e2:ts[two]?=some l') :
  Gr m (es++[e]) ((ts.set one (ins l (l.idxOf (left/2)+1) es.length)).set two (ins l' (l'.idxOf (right/2)+1) es.length)):=by
 have w:=g.w;have hlen:=w.len;have o1:one<m:=by rw[← hlen];exact(BB.mp e1).1
 have o2:two<m:=by rw[← hlen];exact(BB.mp e2).1
 have W:bC m (es++[e]) ((ts.set one (ins l (l.idxOf (left/2)+1) es.length)).set two (ins l' (l'.idxOf (right/2)+1) es.length)):=by
  rcases he with rfl | rfl
  ·exact w.put o1 o2 hne e1 e2
  ·exact(w.put o1 o2 hne e1 e2).flip
 exact⟨W,yG g.conn,by have:=g.mb;rw[BE];exact Nat.le_succ_of_le this⟩
theorem Gr.leaf{m:Nat}{es:En}{ts:List (List Nat)}(g:Gr m es ts){left one:Nat}{e:Nat×Nat}{l tail:List Nat}(hl:left<2*es.length)(hr:CR (fol es ts) (2*es.length) (left::tail))(hch:fF (fol es ts) left tail left)
  (h1:hd es left=one) (he:e=(one,m)∨e=(m,one)) (e1:ts[one]?=some l) :
  Gr (m+1) (es++[e]) (ts.set one (ins l (l.idxOf (left/2)+1) es.length)++[[es.length]]):=by
 have w:=g.w;have hlen:=w.len;have o1:one<m:=by rw[← hlen];exact(BB.mp e1).1
 have hne:one≠m:=by omega
 have W:bC (m+1) (es++[e]) (ts.set one (ins l (l.idxOf (left/2)+1) es.length)++[[es.length]]):=by
  have q:=w.room.put (one:=one) (two:=m) (k:=l.idxOf (left/2)+1) (j:=0) (l:=l) (l':=[]) (by omega) (by omega) hne (by rw[BL (by omega)];exact e1) (by rw[BH (by omega),hlen,Ck];rfl)
  have q2:((ts++[[]]).set one (ins l (l.idxOf (left/2)+1) es.length)).set m (ins [] 0 es.length)=ts.set one (ins l (l.idxOf (left/2)+1) es.length)++[[es.length]]:=by
   rw[EO _ _ (by omega),EL _ _ (by rw[BZ];omega),BZ,hlen,Ck]
   rfl
  rw[q2]at q;rcases he with rfl | rfl
  ·exact q
  ·exact q.flip
 refine⟨W,fun S hS p q hp hq sp=>?_,by have:=g.mb;rw[BE];exact Nat.succ_le_succ this⟩
 have old:=g.conn S fun x hx=>hS x (CD _ hx);have nw:S one↔S m:=by
  have:=hS e (B0 _ (BR.mpr rfl));rcases he with rfl | rfl
  ·exact this
  ·exact this.symm
 have s1:S one:=by
  by_cases c:p=m
  ·subst c;exact nw.mpr sp
  ·exact old p one (by omega) o1 sp
 by_cases c:q=m
 ·subst c;exact nw.mp s1
 ·exact old one q o1 (by omega) s1
theorem gr_two:Gr 2 [(0,1)] [[0],[0]]:=by
 have W:bC 2 [(0,1)] [[0],[0]]:=by
  refine⟨rfl,fun e he=>?_,fun p l h=>?_,fun p l h t=>?_⟩
  ·have:e=(0,1):=by simpa using he
   subst this;exact⟨by decide,by decide,by decide⟩
  ·match p,h with
   |0,h=>cases h;decide
   |1,h=>cases h;decide
   |p+2,h=>cases h
  ·have key:(∃ e,([(0,1)]:En)[t]?=some e/\(e.1=p∨e.2=p))↔t=0/\(p=0∨p=1):=by
    constructor
    ·rintro⟨e,h1,h2⟩;match t,h1 with
     |0,h1=>cases h1;exact⟨rfl,h2.imp Eq.symm Eq.symm⟩
     |t+1,h1=>cases h1
    ·rintro⟨rfl,h2⟩;exact⟨(0,1),rfl,h2.imp Eq.symm Eq.symm⟩
   rw[key];match p,h with
   |0,h=>cases h;simp
   |1,h=>cases h;simp
   |p+2,h=>cases h
 refine⟨W,fun S hS p q hp hq sp=>?_,by decide⟩
 have h01:S 0↔S 1:=hS (0,1) (by simp)
 have hp':p=0∨p=1:=by omega
 have hq':q=0∨q=1:=by omega
 rcases hp' with rfl | rfl<;>rcases hq' with rfl | rfl
 ·exact sp
 ·exact h01.mp sp
 ·exact h01.mpr sp
 ·exact sp
structure Bij(F:Nat->Nat)(n:Nat):Prop where
 lt:∀ k,k<n->F k<n
 inj:∀ a b,a<n->b<n->F a=F b->a=b
 sur:∀ y,y<n->∃ k,k<n/\F k=y
noncomputable def ofL(o:List Nat)(k:Nat):Nat:=(o[k]?).getD 0
theorem rV{o:List Nat}{n:Nat}(hl:o.length=n)(nd:o.Nodup)(h:∀ x∈o,x<n):Bij (ofL o) n:=by
 have get:∀ k,k<n->o[k]?=some (ofL o k):=fun k hk=>by
  unfold ofL;rw[BA (by omega)]
  rfl
 refine⟨fun k hk=>h _ (BF (get k hk)),fun a b ha hb e=>rA nd (get a ha) (by rw[get b hb,e]),fun y hy=>?_⟩
 have hm:y∈o:=by
  by_cases z:y∈o
  ·exact z
  ·have:=eQ (a:=y::o) (N:=n) (B7.mpr ⟨z,nd⟩) fun x hx=>by
    rcases BG.mp hx with u | u
    ·omega
    ·exact h x u
   rw[BK]at this;omega
 obtain⟨k,hk⟩:=Cr.mp hm;have hkl:=(BB.mp hk).1;refine⟨k,by omega,?_⟩
 have:=get k (by omega)
 rw[hk]at this;exact(Ci this).symm
theorem rp{F:Nat->Nat}:∀{l:List Nat},l.Nodup->(∀ x∈l,∀ y∈l,F x=F y->x=y)->(l.map F).Nodup
 |[],_,_=>Et
 |a::l,nd,h=>by
  obtain⟨n1,n2⟩:=B7.mp nd;refine B7.mpr ⟨fun z=>?_,rp n2 fun x hx y hy=>h x (BO _ hx) y (BO _ hy)⟩;obtain⟨x,hx,e⟩:=B9.mp z;have:=h x (BO _ hx) a (BQ ..) e;exact n1 (this▸hx)
theorem AR{F:Nat->Nat}{l:List Nat}{t:Nat}(ht:t∈l)(h:∀ x∈l,F x=F t->x=t):nxt (l.map F) (F t)=F (nxt l t):=by
 obtain⟨A,B,rfl,k⟩:=fc ht;have k2:F t∉A.map F:=fun z=>by
  obtain⟨x,hx,e⟩:=B9.mp z;exact k (h x (by simp[hx]) e▸hx)
 rw[Cn,BW,bB k2,bB k]
 cases B<;>cases A<;>rfl
theorem AQ{X Y:List Nat}{t:Nat}(nd:(X++Y).Nodup)(ht:t∈X++Y):nxt (Y++X) t=nxt (X++Y) t:=by
 obtain⟨n1,n2,n3⟩:=Cw.mp nd;rcases BN.mp ht with z | z
 ·have tY:t∉Y:=fun y=>n3 t z t y rfl
  obtain⟨A,B,rfl,k⟩:=fc z;have e1:Y++(A++t::B)=(Y++A)++t::B:=by simp
  have e2:(A++t::B)++Y=A++t::(B++Y):=by simp
  rw[e1,e2,bB (by simp[tY,k]),bB k]
  cases B<;>cases Y<;>cases A<;>rfl
 ·have tX:t∉X:=fun y=>n3 t y t z rfl
  obtain⟨A,B,rfl,k⟩:=fc z;have e1:(A++t::B)++X=A++t::(B++X):=by simp
  have e2:X++(A++t::B)=(X++A)++t::B:=by simp
  rw[e1,e2,bB k,bB (by simp[tX,k])]
  cases B<;>cases X<;>cases A<;>rfl
structure Ren(m:Nat)(es es2:En)(ts ts2:List (List Nat))(π σ:Nat->Nat):Prop where
 pi:Bij π m
 si:Bij σ es.length
 l1:es2.length=es.length
 l2:ts2.length=m
 es:∀(k:Nat)(e:Nat×Nat),es[k]?=some e->es2[σ k]?=some (π e.1,π e.2)
 ts:∀(p:Nat)(l:List Nat),ts[p]?=some l->∃ X Y,l=X++Y/\ts2[π p]?=some ((Y++X).map σ)
section
variable{m:Nat}{es es2:En}{ts ts2:List (List Nat)}{π σ:Nat->Nat}
theorem Ren.es'(R:Ren m es es2 ts ts2 π σ){j:Nat}{x:Nat×Nat}(h:es2[j]?=some x):∃ k e,σ k=j/\es[k]?=some e/\x=(π e.1,π e.2):=by
 have hj:=(BB.mp h).1;rw[R.l1]at hj;obtain⟨k,hk,rfl⟩:=R.si.sur j hj;have e1:es[k]?=some es[k]:=BA hk;have:=R.es k _ e1;rw[h]at this;exact⟨k,_,rfl,e1,Ci this⟩
theorem Ren.ts'(R:Ren m es es2 ts ts2 π σ)(w:bC m es ts){j:Nat}{L:List Nat}(h:ts2[j]?=some L):∃ p l X Y,p<m/\π p=j/\ts[p]?=some l/\l=X++Y/\L=(Y++X).map σ:=by
 have hj:=(BB.mp h).1;rw[R.l2]at hj;obtain⟨p,hp,rfl⟩:=R.pi.sur j hj;have e1:ts[p]?=some (ts[p]'(by rw[w.len];exact hp)):=BA _
 obtain⟨X,Y,h1,h2⟩:=R.ts p _ e1;rw[h]at h2;exact⟨p,_,X,Y,hp,rfl,e1,h1,Ci h2⟩
theorem ko(w:bC m es ts){p:Nat}{l:List Nat}(h:ts[p]?=some l){t:Nat}(ht:t∈l):t<es.length:=by
 obtain⟨x,hx,_⟩:=(w.mem p l h t).mp ht;exact(BB.mp hx).1
theorem Ren.turn(R:Ren m es es2 ts ts2 π σ)(w:bC m es ts):bC m es2 ts2:=by
 refine⟨R.l2,fun x hx=>?_,fun j L h=>?_,fun j L h t=>?_⟩
 ·obtain⟨j,hj⟩:=Cr.mp hx;obtain⟨k,e,_,h1,rfl⟩:=R.es' hj;obtain⟨a1,a2,a3⟩:=w.ends e (BF h1);exact⟨R.pi.lt _ a1,R.pi.lt _ a2,fun z=>a3 (R.pi.inj _ _ a1 a2 z)⟩
 ·obtain⟨p,l,X,Y,hp,rfl,h1,rfl,rfl⟩:=R.ts' w h;have nd:=w.nd p _ h1;obtain⟨n1,n2,n3⟩:=Cw.mp nd;refine rp (Cw.mpr ⟨n2,n1,fun a ha b hb z=>n3 b hb a ha z.symm⟩) fun x hx y hy=>R.si.inj x y (ko w h1 ?_) (ko w h1 ?_)
  ·simp only[BN]at hx ⊢;exact hx.symm
  ·simp only[BN]at hy ⊢;exact hy.symm
 ·obtain⟨p,l,X,Y,hp,rfl,h1,rfl,rfl⟩:=R.ts' w h;constructor
  ·intro z;obtain⟨k,hk,rfl⟩:=B9.mp z;obtain⟨e,h2,h3⟩:=(w.mem p _ h1 k).mp (by simp only[BN]at hk ⊢;exact hk.symm)
   exact⟨_,R.es k e h2,h3.imp (congrArg π) (congrArg π)⟩
  ·rintro⟨x,h2,h3⟩;obtain⟨k,e,rfl,h4,rfl⟩:=R.es' h2;obtain⟨a1,a2,a3⟩:=w.ends e (BF h4);have hk:=(w.mem p _ h1 k).mpr ⟨e,h4,h3.imp (R.pi.inj _ _ a1 hp) (R.pi.inj _ _ a2 hp)⟩;exact B9.mpr ⟨k,by simp only[BN]at hk ⊢;exact hk.symm,rfl⟩
noncomputable def Phi(σ:Nat->Nat)(d:Nat):Nat:=2*σ (d/2)+d%2
theorem jQ(d:Nat):Phi σ d/2=σ (d/2):=by unfold Phi;omega
theorem Ren.hd(R:Ren m es es2 ts ts2 π σ){d:Nat}(hd':d<2*es.length):hd es2 (Phi σ d)=π (hd es d):=by
 have e1:es[d/2]?=some (es[d/2]'(by omega)):=BA _
 have e2:=R.es _ _ e1;unfold K8.hd;rw[jQ,e1,e2];have hm:Phi σ d%2=d%2:=by unfold Phi;omega
 show(if Phi σ d%2=0 then π es[d/2].2 else π es[d/2].1)=π (if d%2=0 then es[d/2].2 else es[d/2].1);rw[hm];split<;>rfl
theorem Ren.fol(R:Ren m es es2 ts ts2 π σ)(w:bC m es ts){d:Nat}(hd':d<2*es.length):fol es2 ts2 (Phi σ d)=Phi σ (fol es ts d):=by
 obtain⟨_,l,_,_,_,k4,k5,k6⟩:=w.at hd';obtain⟨X,Y,rfl,h2⟩:=R.ts _ _ k5;have nd:=w.nd _ _ k5;rw[eI (l:=(Y++X).map σ) (by rw[R.hd hd'];exact h2),eI k5,jQ,R.hd hd']
 have k7:d/2∈Y++X:=by simp only[BN]at k6 ⊢;exact k6.symm
 rw[AR k7 fun x hx=>R.si.inj x _ (ko w k5 (by simp only[BN]at hx ⊢;exact hx.symm)) (ko w k5 k6),AQ nd k6]
 have hn:=BF (gY k6);have hlt:=ko w k5 hn;generalize nxt (X++Y) (d/2)=t at hlt;have e1:es[t]?=some es[t]:=BA hlt;have a1:=(w.ends _ (BF e1)).1;unfold leave;rw[R.es _ _ e1,e1];show(if π es[t].1=π (K8.hd es d) then 2*σ t else 2*σ t+1)=Phi σ (if es[t].1=K8.hd es d then 2*t else 2*t+1);by_cases z:es[t].1=K8.hd es d
 ·rw[if_pos z,if_pos (congrArg π z)];unfold Phi;rw[show 2*t/2=t by omega]
  omega
 ·rw[if_neg z,if_neg (fun y=>z (R.pi.inj _ _ a1 k4 y))];unfold Phi;rw[show(2*t+1)/2=t by omega]
  omega
theorem xu(b:Bij σ es.length){x y:Nat}(hx:x<2*es.length)(hy:y<2*es.length)(e:Phi σ x=Phi σ y):x=y:=by
 have e1:σ (x/2)=σ (y/2):=by
  have h1:=jQ (σ:=σ) x;have h2:=jQ (σ:=σ) y;rw[e]at h1;exact h1.symm.trans h2
 have:=b.inj _ _ (by omega) (by omega) e1
 unfold Phi at e;omega
theorem Ren.gr(R:Ren m es es2 ts ts2 π σ)(g:Gr m es ts):Gr m es2 ts2:=by
 refine⟨R.turn g.w,fun S hS x y hx hy sx=>?_,by rw[R.l1];exact g.mb⟩
 obtain⟨x',hx',rfl⟩:=R.pi.sur x hx;obtain⟨y',hy',rfl⟩:=R.pi.sur y hy;refine g.conn (fun p=>S (π p)) (fun e he=>?_) x' y' hx' hy' sx;obtain⟨k,hk⟩:=Cr.mp he;exact hS (π e.1,π e.2) (BF (R.es k e hk))
end
end K8
namespace K8
open PySem L2
noncomputable def top(i:Nat):Stmt:=PySem.Challenge.pw_spinfloor_k12_texts_refused.main.body.getD i (.Pass ⟨0,0,0,0⟩)
noncomputable abbrev bD:Stmt:=pZ (top 7) 0
noncomputable abbrev cy:Stmt:=pZ (top 9) 0
noncomputable abbrev uZ:Stmt:=top 13
noncomputable abbrev j6:Stmt:=top 14
noncomputable abbrev i5:Stmt:=top 15
noncomputable abbrev fK:Stmt:=top 16
noncomputable abbrev gO:Stmt:=top 17
noncomputable abbrev iS:Stmt:=top 18
noncomputable abbrev j4:Stmt:=top 20
noncomputable abbrev fi:Stmt:=top 22
noncomputable abbrev eG:Stmt:=top 23
noncomputable abbrev dO:Stmt:=top 24
noncomputable abbrev cx:Stmt:=pZ (top 25) 0
noncomputable abbrev gP:Stmt:=top 29
noncomputable abbrev fN:Stmt:=top 30
noncomputable abbrev dg:Stmt:=top 31
noncomputable abbrev fj:Stmt:=top 32
noncomputable abbrev iR:Stmt:=top 33
noncomputable abbrev gM:Stmt:=top 34
noncomputable abbrev pB:Stmt:=top 35
noncomputable abbrev lR:Stmt:=top 36
noncomputable abbrev gN:Stmt:=top 37
noncomputable abbrev fJ:Stmt:=top 38
noncomputable abbrev uY:Stmt:=top 39
noncomputable abbrev uW:Stmt:=top 40
noncomputable abbrev iY:Stmt:=top 42
noncomputable abbrev j8:Stmt:=top 43
noncomputable abbrev iU:Stmt:=top 44
noncomputable abbrev gT:Stmt:=top 45
noncomputable abbrev gQ:Stmt:=top 46
noncomputable abbrev dj:Stmt:=top 47
noncomputable abbrev iZ:Stmt:=top 48
noncomputable abbrev gS:Stmt:=top 49
noncomputable abbrev fM:Stmt:=top 50
noncomputable abbrev iW:Stmt:=top 51
noncomputable abbrev i4:Stmt:=top 52
noncomputable abbrev iT:Stmt:=top 53
noncomputable abbrev j7:Stmt:=top 54
noncomputable abbrev fk:Stmt:=top 55
noncomputable abbrev fm:Stmt:=top 56
noncomputable abbrev iX:Stmt:=top 57
noncomputable abbrev lS:Stmt:=top 58
noncomputable def tf(a b s:Int):List (Str×V):=putF "strength" (.int s) (putF "two" (.int b) (putF "one" (.int a) []))
theorem lu(a b s:Int):(tf a b s).lookup ("one" : Str)=some (.int a):=by
 unfold tf;rw[aW,if_neg (by decide),aW,if_neg (by decide),aW,if_pos rfl]
theorem qO(a b s:Int):(tf a b s).lookup ("two" : Str)=some (.int b):=by
 unfold tf;rw[aW,if_neg (by decide),aW,if_pos rfl]
theorem f1_len(a:Int):(putF "one" (.int a) []).length<1000:=by show 1<1000;decide
theorem f2_len(a b:Int):(putF "two" (.int b) (putF "one" (.int a) [])).length<1000:=by
 have e:(putF "two" (.int b) (putF "one" (.int a) []):List (Str×V))=([("one",.int a),("two",.int b)]:List (Str×V)):=by
  show(if("one" : Str) = "two" then[(("one" : Str),V.int b)] else(("one" : Str),V.int a)::putF "two" (V.int b) [])=_;rw[if_neg (by decide)]
  all_goals rfl
 rw[e];show 2<1000;decide
structure CT(K:BD)(C:Addr):Prop where
 cl:Cls K C
 n1:eB K C "one"
 n2:eB K C "two"
 n3:eB K C "strength"
theorem aj{H:Hp}{p:Addr}(h:H p=none)(o:HO):Same H (upd H p o):=fun b u q=>by rw[ar (aV q h)];exact q
theorem a8{H H2:Hp}{l:Addr}(h:Same H H2)(hl:H l=none)(o:HO):Same H (upd H2 l o):=fun b u q=>by rw[ar (aV q hl)];exact h b u q
noncomputable def iV(p:Nat):V:=.int (p:Int)
theorem iV_at{hs:List Nat}{k x:Nat}(h:hs[k]?=some x):atI (hs.map iV) (k:Int)=some (iV x):=aO (by rw[BJ,h];rfl)
noncomputable def dB(H:Hp)(ys:List V)(es:En):Prop:=ys.length=es.length/\∀(i:Nat)(e:Nat×Nat),es[i]?=some e->∃ p,ys[i]?=some (.ref p)/\H p=some (.tup [iV e.1,iV e.2])
theorem dB.mono{H H':Hp}{ys:List V}{es:En}(h:dB H ys es)(s:Same H H'):dB H' ys es:=⟨h.1,fun i e q=>by
 obtain⟨p,a,b⟩:=h.2 i e q
 exact⟨p,a,s _ _ b⟩⟩
noncomputable def cJ(K:BD)(H:Hp)(xs:List V)(es:En):Prop:=xs.length=es.length/\∀(i:Nat)(e:Nat×Nat),es[i]?=some e->∃ p C dx s,xs[i]?=some (.ref p)/\H p=some (.ins C dx (tf (e.1:Int) (e.2:Int) s))/\CT K C
theorem cJ.mono{K:BD}{H H':Hp}{xs:List V}{es:En}(t:cJ K H xs es)(h:Same H H'):cJ K H' xs es:=⟨t.1,fun i e q=>by
 obtain⟨p,C,dx,s,a,b,d⟩:=t.2 i e q
 exact⟨p,C,dx,s,a,h _ _ b,d⟩⟩
noncomputable def d7(H:Hp)(xs:List V)(ts:List (List Nat)):Prop:=xs.length=ts.length/\∀(i:Nat)(l:List Nat),ts[i]?=some l->∃ p,xs[i]?=some (.ref p)/\H p=some (.lst (l.map iV))
theorem d7.mono{H H':Hp}{xs:List V}{ts:List (List Nat)}(h:d7 H xs ts)(s:Same H H'):d7 H' xs ts:=⟨h.1,fun i e q=>by
 obtain⟨p,a,b⟩:=h.2 i e q
 exact⟨p,a,s _ _ b⟩⟩
noncomputable def cj(S:Addr->Prop)(H:Hp)(xs:List V)(ts:List (List Nat)):Prop:=xs.length=ts.length/\∀(i:Nat)(l:List Nat),ts[i]?=some l->∃ p,xs[i]?=some (.ref p)/\¬ S p/\H p=some (.lst (l.map iV))
theorem cj.mono{S:Addr->Prop}{H H':Hp}{xs:List V}{ts:List (List Nat)}(h:cj S H xs ts)(s:∀ b u,¬ S b->H b=some u->H' b=some u):cj S H' xs ts:=⟨h.1,fun i e q=>by
 obtain⟨p,a,n,b⟩:=h.2 i e q
 exact⟨p,a,n,s _ _ n b⟩⟩
theorem cj.off{S:Addr->Prop}{H:Hp}{xs:List V}{ts:List (List Nat)}(h:cj S H xs ts):d7 H xs ts:=⟨h.1,fun i e q=>by
 obtain⟨p,a,n,b⟩:=h.2 i e q
 exact⟨p,a,b⟩⟩
theorem cj.snoc{S:Addr->Prop}{H:Hp}{xs:List V}{ts:List (List Nat)}{q:Addr}{l:List Nat}(h:cj S H xs ts)(n:¬ S q)(e:H q=some (.lst (l.map iV))):cj S H (xs++[.ref q]) (ts++[l]):=by
 refine⟨by rw[BE,BE,h.1];rfl,fun j k ej=>?_⟩
 by_cases hj:j<ts.length
 ·rw[BL hj]at ej;obtain⟨p,a1,a2⟩:=h.2 j k ej;exact⟨p,by rw[BL (by rw[h.1];exact hj)];exact a1,a2⟩
 ·rw[BH (by omega)]at ej
  have hj2:j=ts.length:=by
   have:=(BB.mp ej).1;rw[BM]at this;omega
  subst hj2;rw[Ck]at ej
  cases ej
  exact⟨q,by rw[← h.1,BH (BI _),Ck];rfl,n,e⟩
theorem mF{f:Nat->Nat}{N i:Nat}{rs:List (List Nat)}(w:eA f N i rs):rs.flatten.length<=N:=eQ w.nd fun x hx=>by
 obtain⟨r,h1,h2⟩:=CN.mp hx;exact(w.ring r h1).lt x h2
theorem xM{f:Nat->Nat}{N i:Nat}{rs:List (List Nat)}(w:eA f N i rs):rs.length<=N:=by
 have h:∀(l:List (List Nat)),(∀ r∈l,0<r.length)->l.length<=l.flatten.length:=fun l=>by
  induction l with
  |nil=>intro _;exact BI _
  |cons a l ih =>
   intro h;rw[CH,BE,BK];have h1:=h a (BQ ..);have h2:=ih fun r hr=>h r (BO _ hr);omega
 exact Co (h rs fun r hr=>(w.ring r hr).ne) (mF w)
structure TT(K:BD)(H:Hp)(a b:Addr)(m:Nat)(es:En)(ts:List (List Nat)):Prop where
 xs:∃ xs,SqL K H a xs/\cJ K H xs es
 ys:∃ ys,SqL K H b ys/\d7 H ys ts
 w:bC m es ts
 few:es.length<=82
theorem TT.mono{K:BD}{H H':Hp}{a b:Addr}{m:Nat}{es:En}{ts:List (List Nat)}(t:TT K H a b m es ts)(s:Same H H'):TT K H' a b m es ts:=by
 obtain⟨⟨xs,h1,h2⟩,⟨ys,h3,h4⟩,w,f⟩:=t;exact⟨⟨xs,s.seq h1,h2.mono s⟩,⟨ys,s.seq h3,h4.mono s⟩,w,f⟩
theorem eM{m N:Nat}{es:En}{ts:List (List Nat)}(w:bC m es ts)(f:es.length<=N){p:Nat}{l:List Nat}(h:ts[p]?=some l):(∀ t∈l,t<N)/\l.length<=N:=by
 have a:∀ t∈l,t<es.length:=fun t ht=>by
  obtain⟨e,he,_⟩:=(w.mem p l h t).mp ht;exact(BB.mp he).1
 exact⟨fun t ht=>by have:=a t ht;omega,Co (eQ (w.nd p l h) a) f⟩
theorem perm{m:Nat}{es:En}{ts:List (List Nat)}(w:bC m es ts):xw (fol es ts) (2*es.length):=⟨fun d h=>by
 obtain⟨_,_,_,_,_,_,_,_,z,_⟩:=w.foll h
 exact z,fun a b ha hb h=>w.inj ha hb h⟩
noncomputable def y9(K:BD):Sp:=fun vs H Q _=>∃(a:Addr)(xs:List V)(es:En)(d:Nat),vs = [.ref a,.int (d:Int)]/\SqL K H a xs/\cJ K H xs es/\d<2*es.length/\Q (iV (hd es d)) H
noncomputable def y7(K:BD):Sp:=fun vs H Q _=>∃(a:Addr)(xs:List V)(es:En)(t p:Nat)(e:Nat×Nat),vs = [.ref a,.int (t:Int),.int (p:Int)]/\SqL K H a xs/\cJ K H xs es/\es[t]?=some e/\Q (iV (if e.1=p then 2*t else 2*t+1)) H
noncomputable def spFol(K:BD):Sp:=fun vs H Q _=>∃(a b:Addr)(m:Nat)(es:En)(ts:List (List Nat))(d:Nat),vs = [.ref a,.ref b,.int (d:Int)]/\TT K H a b m es ts/\d<2*es.length/\Q (iV (fol es ts d)) H
noncomputable def zc(K:BD):Sp:=fun vs H Q _=>∃(a b:Addr)(m:Nat)(es:En)(ts:List (List Nat))(d:Nat),vs = [.ref a,.ref b,.int (d:Int)]/\TT K H a b m es ts/\d<2*es.length /\
 ∀ q r H',Same H H'->H q=none->H' q=some (.lst (r.map iV))->Path (fol es ts) (2*es.length) d r->Ring (fol es ts) (2*es.length) r->Q (.ref q) H'
noncomputable def qS(K:BD):Sp:=fun vs H Q _=>∃(a b:Addr)(m:Nat)(es:En)(ts:List (List Nat)),vs = [.ref a,.ref b]/\TT K H a b m es ts /\
 ∀ q ys rs H',Same H H'->H' q=some (.lst ys)->d7 H' ys rs->eA (fol es ts) (2*es.length) (2*es.length) rs->Q (.ref q) H'
noncomputable def xt(H:Hp)(ys:List V)(n:Nat)(rs:List (List Nat)):Prop:=ys.length=n/\∀ i,i<n->∃ p a b r r',ys[i]?=some (.ref p)/\H p=some (.tup [iV a,iV b])/\rs[a]?=some r/\2*i∈r/\rs[b]?=some r'/\2*i+1∈r'
noncomputable def uH(K:BD):Sp:=fun vs H Q _=>∃(a b:Addr)(xs ys:List V)(es:En)(f:Nat->Nat)(rs:List (List Nat)),vs = [.ref a,.ref b]/\SqL K H a xs/\cJ K H xs es/\es.length<=82/\SqL K H b ys/\d7 H ys rs/\eA f (2*es.length) (2*es.length) rs /\
 ∀ q zs H',Same H H'->H' q=some (.lst zs)->xt H' zs es.length rs->Q (.ref q) H'
noncomputable def lr(ns:List Int)(k:Nat):Int:=ns.getD k 0
noncomputable def qX(K:BD):Sp:=fun vs H Q _=>∃(a:Addr)(k:Nat)(ns:List Int),vs = [.ref a,.int (k:Int)]/\SqL K H a (ns.map V.int)/\Q (.int (lr ns k)) H
structure Txt(mg:Str->Option Value):Prop where
 n_len:mg "len" = none
 n_int:mg "int" = none
 n_bool:mg "bool" = none
 n_list:mg "list" = none
 n_tuple:mg "tuple" = none
 n_range:mg "range" = none
 n_enumerate:mg "enumerate" = none
 n_isinstance:mg "isinstance" = none
 n_min:mg "min" = none
 n_sum:mg "sum" = none
 n_sorted:mg "sorted" = none
section
variable{P:Program}{w:World}{K:BD}{mg:Str->Option Value}{base:Heap}
theorem uS:aJ ["ties","dart","tie"] ["ties","dart"] (ay uZ):=by ac_nf
theorem AK{f:Addr}{fd:FuncData} (F:Fun K "head" "head" uZ f fd):FnOk P w K mg base CX0 1 f fd ["ties","dart"] (y9 K):=by
 refine F.ok uS (fun vs H Q E h=>?_) (fun cdv A outer s H vs Q E hr h=>?_)
 ·obtain⟨a,xs,es,d,rfl,_⟩:=h;rfl
 obtain⟨a,xs,es,d,rfl,hS,hT,hdl,k⟩:=h;have hl:d/2<es.length:=by omega
 have e1:es[d/2]?=some es[d/2]:=BA hl;obtain⟨p,C,dx,s',x1,x2,x3⟩:=hT.2 _ _ e1;have hh:hd es d=if d%2=0 then es[d/2].2 else es[d/2].1:=by unfold hd;rw[e1]
 have ed:(d:Int)/2=((d/2:Nat):Int):=by omega
 refine⟨_,(af (av (i:=2) uS.nd rfl (Or.inl rfl) (aL aD (pv 0) (aq a9 (pv 1) ai) (fun _ _=>rfl)))
   (ak (aG (l9 (ax bu (aq aT (pv 1) ai) ai (aA _)) (gA (pv 2) rfl) (gA (pv 2) rfl))))),?_⟩
 refine⟨_,rfl,_,rfl,_,_,rfl,rfl,⟨by decide,by decide⟩,a,xs,_,_,rfl,rfl,hS,(by rw[ed];exact aO x1),?_⟩
 refine⟨_,rfl,_,_,rfl,rfl,(by show(0:Int)<2;decide),rfl,_,rfl,?_⟩
 refine ite2 (fun q=>?_) (fun q=>?_)
 ·have q':(d:Int)%2=0:=V.int.inj (of_decide_eq_true q)
  refine⟨_,rfl,p,C,dx,_,_,rfl,x2,x3.cl,x3.n2,qO _ _ _,?_⟩;rw[hh,if_pos (by omega)]at k
  exact k
 ·have q':¬ (d:Int)%2=0:=fun z=>q (decide_eq_true (congrArg V.int z))
  refine⟨_,rfl,p,C,dx,_,_,rfl,x2,x3.cl,x3.n1,lu _ _ _,?_⟩;rw[hh,if_neg (by omega)]at k
  exact k
theorem sk:aJ ["ties","number","place"] ["ties","number","place"] (ay j6):=by ac_nf
theorem sJ{f:Addr}{fd:FuncData} (F:Fun K "leaving" "leaving" j6 f fd):FnOk P w K mg base CX0 1 f fd ["ties","number","place"] (y7 K):=by
 refine F.ok sk (fun vs H Q E h=>?_) (fun cdv A outer s H vs Q E hr h=>?_)
 ·obtain⟨a,xs,es,t,p,e,rfl,_⟩:=h;rfl
 obtain⟨a,xs,es,t,pl,e,rfl,hS,hT,he,k⟩:=h;obtain⟨p,C,dx,s',x1,x2,x3⟩:=hT.2 _ _ he;have m2:CMul 2 (t:Int):=.inl ⟨by decide,by decide⟩
 refine⟨_,(ak (aG (l9 (ax bu (gA (aL aD (pv 0) (pv 1) (fun _ _=>rfl)) rfl) (pv 2) (aA _)) (aq cN ai (pv 1)) (aq aU (aq cN ai (pv 1)) ai)))),?_⟩;refine⟨_,rfl,_,rfl,a,xs,_,_,rfl,rfl,hS,aO x1,p,C,dx,_,_,rfl,x2,x3.cl,x3.n1,lu _ _ _,_,rfl,rfl,_,rfl,?_⟩;refine ite2 (fun q=>?_) (fun q=>?_)
 ·have q':(e.1:Int)=(pl:Int):=V.int.inj (of_decide_eq_true q)
  refine⟨_,rfl,_,_,rfl,rfl,m2,?_⟩;rw[if_pos (by omega)]at k
  exact k
 ·have q':¬ (e.1:Int)=(pl:Int):=fun z=>q (decide_eq_true (congrArg V.int z))
  refine⟨_,rfl,_,_,rfl,rfl,m2,_,_,rfl,rfl,?_⟩;rw[if_neg (by omega)]at k
  exact k
theorem fg:aJ ["ties","turns","dart","place","about","behind"] ["ties","turns","dart"] (ay i5):=by ac_nf
theorem pO{f fh fl:Addr}{fd fdh fdl:FuncData} (F:Fun K "follower" "follower" i5 f fd) (T:Txt mg) (G_head:Cal P w K mg base 1 "head" ["ties","dart"] (y9 K) fh fdh) (G_leaving:Cal P w K mg base 1 "leaving" ["ties","number","place"] (y7 K) fl fdl):FnOk P w K mg base CX0 2 f fd ["ties","turns","dart"] (spFol K):=by
 refine F.ok fg (fun vs H Q E h=>?_) (fun cdv A outer s H vs Q E hr h=>?_)
 ·obtain⟨a,b,m,es,ts,d,rfl,_⟩:=h;rfl
 obtain⟨a,b,m,es,ts,d,rfl,tt,hdl,k⟩:=h;obtain⟨⟨xs,h1,h2⟩,⟨ys,h3,h4⟩,w',few⟩:=tt;obtain⟨l,e,p1,p2,p3,p4,p5,p6,p7,p8,p9⟩:=w'.foll hdl;obtain⟨small,len⟩:=eM w' few p1;obtain⟨q,y1,y2⟩:=h4.2 _ _ p1;have ed:(d:Int)/2=((d/2:Nat):Int):=by omega
 refine⟨_,(af (av (i:=3) fg.nd rfl (Or.inl rfl) (aI G_head.ok (hr.mono (by decide)) rfl G_head.mg G_head.kp G_head.bn .nil bA (aa (pv 0) (aa (pv 2) ag))))
   (af (av (i:=4) fg.nd rfl (Or.inl rfl) (aL aD (pv 1) (pv 3) (fun _ _=>rfl)))
   (af (av (i:=5) fg.nd rfl (Or.inl rfl) (aq aT (aq aU (bP BS Gg Ge rB (pv 4) (aa (aq a9 (pv 2) ai) ag)) ai) (au ao (by rfl) T.n_len aN (aa (pv 4) ag))))
   (ak (aG (aI G_leaving.ok (hr.mono (by decide)) rfl G_leaving.mg G_leaving.kp G_leaving.bn .nil bA (aa (pv 0) (aa (aL aD (pv 4) (pv 5) (fun _ _=>rfl)) (aa (pv 3) ag))))))))),?_⟩
 refine⟨_,rfl,_,rfl,a,xs,es,d,rfl,h1,h2,hdl,?_⟩;refine⟨_,rfl,_,rfl,b,ys,_,_,rfl,rfl,h3,aO y1,?_⟩;have hlen:(l.map iV).length=l.length:=BC _;have hl0:0<l.length:=Ed p2;have hmod:(((l.idxOf (d/2):Nat):Int)+1)%((l.map iV).length:Int)=(((l.idxOf (d/2)+1)%l.length:Nat):Int):=by rw[hlen];rfl
 refine⟨_,rfl,.inl ⟨rfl,_,SqL.of y2⟩,_,rfl,_,_,rfl,rfl,⟨by decide,by decide⟩,q,l,d/2,rfl,congrArg (fun z=>[V.int z]) ed,SqL.of y2,fun p hp=>by have:=small p hp;omega,by omega,p2,_,_,rfl,rfl,_,rfl,q,_,rfl,.inl (SqL.of y2),_,_,rfl,rfl,(by show(0:Int)<((l.map iV).length:Int);rw[hlen];omega),?_⟩
 refine⟨_,rfl,_,rfl,_,rfl,q,_,_,_,rfl,rfl,SqL.of y2,(by rw[hmod];exact iV_at (gY p2)),_,rfl,a,xs,es,nxt l (d/2),hd es d,e,rfl,h1,h2,p3,?_⟩
 rw[p6]at k;exact k
theorem dE:aJ ["ties","turns","first","row","dart"] ["ties","turns","first"] (ay fK):=by ac_nf
theorem AL{f ff:Addr}{fd fdf:FuncData} (F:Fun K "round_from" "round_from" fK f fd) (G_follower:Cal P w K mg base 2 "follower" ["ties","turns","dart"] (spFol K) ff fdf):FnOk P w K mg base CX0 3 f fd ["ties","turns","first"] (zc K):=by
 refine F.ok dE (fun vs H Q E h=>?_) (fun cdv A outer s H vs Q E hr h=>?_)
 ·obtain⟨a,b,m,es,ts,d,rfl,_⟩:=h;rfl
 obtain⟨a,b,m,es,ts,d,rfl,tt,hdl,k⟩:=h;have pm:=perm tt.w
 refine⟨_,(af (av (i:=3) dE.nd rfl (Or.inl rfl) (bh (aa (pv 2) ag)))
   (af (av (i:=4) dE.nd rfl (Or.inl rfl) (aI G_follower.ok (hr.mono (by decide)) rfl G_follower.mg G_follower.kp G_follower.bn .nil bA (aa (pv 0) (aa (pv 1) (aa (pv 2) ag)))))
   (af (lW PassesOwn.never (ax jB (pv 4) (pv 2) (aA _)) (af (aZ (bP BS Ce Cd bg (pv 3) (aa (pv 4) ag)))
   (ak (av (i:=4) dE.nd rfl (Or.inl rfl) (aI G_follower.ok (hr.mono (by decide)) rfl G_follower.mg G_follower.kp G_follower.bn .nil bA (aa (pv 0) (aa (pv 1) (aa (pv 4) ag))))))))
   (ak (aG (pv 3)))))),?_⟩
 refine⟨_,rfl,(by show 1<=sizeLine;decide),fun q hq=>?_⟩
 have s1:=aj hq (.lst [.int (d:Int)]);refine⟨_,rfl,_,rfl,_,rfl,a,b,m,es,ts,d,rfl,tt.mono s1,hdl,?_⟩;refine qK (fun σ H2=>∃(r:List Nat)(x:Nat),σ = [some (.ref a),some (.ref b),some (.int (d:Int)),some (.ref q),some (iV (fol es ts x))]/\Same H H2/\H2 q=some (.lst ((r++[x]).map iV))/\Path (fol es ts) (2*es.length) d (r++[x]))
  (fun σ H2=>match H2 q with | some (.lst xs)=>200-xs.length | _=>0) ⟨[],d,rfl,s1,ae,xS hdl⟩ ?_ ?_
 ·rintro σ H2 ⟨r,x,rfl,s2,hq2,pa⟩;refine⟨_,rfl,_,rfl,rfl,_,rfl,?_⟩;have few:=tt.few;have hlen:=eQ pa.nd pa.lt;refine ite2 (fun c=>?_) (fun c=>?_)
  ·have c':fol es ts x≠d:=fun z=>by
    rw[decide_eq_true (show iV (fol es ts x)=V.int (d:Int) by rw[z];rfl)]at c
    cases c
   have pa2:=pa.snoc pm c';have hlen2:=eQ pa2.nd pa2.lt;have lt2:fol es ts x<2*es.length:=pa2.lt _ (by simp)
   refine⟨_,rfl,.inl ⟨rfl,_,SqL.of hq2⟩,_,rfl,q,_,_,rfl,rfl,hq2,aC (by rw[BC];omega),?_⟩
   have s3:=a8 s2 hq (.lst ((r++[x]).map iV++[iV (fol es ts x)]));refine⟨_,rfl,_,rfl,_,rfl,a,b,m,es,ts,fol es ts x,rfl,tt.mono s3,lt2,?_⟩;refine⟨⟨r++[x],fol es ts x,rfl,s3,?_,pa2⟩,?_⟩
   ·rw[ae,show((r++[x]++[fol es ts x]).map iV)=(r++[x]).map iV++[iV (fol es ts x)] from by rw[Cn];rfl]
   ·show(match(upd H2 q (.lst ((r++[x]).map iV++[iV (fol es ts x)]))) q with | some (.lst xs)=>200-xs.length | _=>0)<(match H2 q with | some (.lst xs)=>200-xs.length | _=>0)
    rw[ae,hq2];show 200-((r++[x]).map iV++[iV (fol es ts x)]).length<200-((r++[x]).map iV).length;rw[BE,BC,BM];omega
  ·have c':fol es ts x=d:=by
    by_cases z:fol es ts x=d
    ·exact z
    ·exact absurd (by rw[decide_eq_false (fun y=>z (by have:=V.int.inj y;omega))];rfl) c
   refine⟨_,rfl,?_⟩;exact k q _ H2 s2 hq hq2 pa (pa.ring pm c')
 ·rintro σ H2 Q1 Q2 hi ⟨v',e,b',e2,z1,c',e3,q'⟩;exact⟨v',e,b',e2,z1,c',e3,hi _ _ q'⟩
theorem cu:aJ ["ties","turns","rounds","seen","dart","row","gone"] ["ties","turns"] (ay gO):=by ac_nf
theorem vG{f ff:Addr}{fd fdf:FuncData} (F:Fun K "rounds_of" "rounds_of" gO f fd) (T:Txt mg) (G_round_from:Cal P w K mg base 3 "round_from" ["ties","turns","first"] (zc K) ff fdf):FnOk P w K mg base CX0 4 f fd ["ties","turns"] (qS K):=by
 refine F.ok cu (fun vs H Q E h=>?_) (fun cdv A outer s H vs Q E hr h=>?_)
 ·obtain⟨a,b,m,es,ts,rfl,_⟩:=h;rfl
 obtain⟨a,b,m,es,ts,rfl,tt,k⟩:=h;have hu:=hu_of hr;have pm:=perm tt.w;have few:=tt.few;obtain⟨xs,h1,h2⟩:=tt.xs
 refine⟨_,(af (av (i:=2) cu.nd rfl (Or.inl rfl) (bh ag))
   (af (av (i:=3) cu.nd rfl (Or.inl rfl) rb)
   (af (cL PassesOwn.never rfl (bw rfl T.n_range (aa (aq cN ai (au ao (by rfl) T.n_len aN (aa (pv 0) ag))) ag)) (aQ (i:=4) cu.nd rfl (Or.inl rfl)) (ak (bf (pt_cmp (vy hu (pv 4) (pv 3))) (af (av (i:=5) cu.nd rfl (Or.inl rfl) (aI G_round_from.ok (hr.mono (by decide)) rfl G_round_from.mg G_round_from.kp G_round_from.bn .nil bA (aa (pv 0) (aa (pv 1) (aa (pv 4) ag)))))
   (af (aZ (bP BS Ce Cd bg (pv 2) (aa (pv 5) ag)))
   (ak (cL PassesOwn.never rfl (cp (pv 5)) (aQ (i:=6) cu.nd rfl (Or.inl rfl)) (ak (vi hu (pv 3) (pv 6) i9 rfl)))))) aF)))
   (ak (aG (pv 2)))))),?_⟩
 refine⟨(by show 0<=sizeLine;decide),fun qr hqr=>fun qs hqs=>?_⟩
 have s1:=(aj hqr (.lst [])).trans (aj hqs (.dK []));have hqs0:H qs=none:=by
  cases z:H qs with
  |none=>rfl
  |some o=>rw[aj hqr (.lst []) qs o z]at hqs;cases hqs
 have hne:qr≠qs:=fun z=>by rw[← z,ae]at hqs;cases hqs
 have hxl:xs.length=es.length:=h2.1;have hN:(2*(xs.length:Int)).toNat=2*es.length:=by omega
 refine⟨_,rfl,a,xs,rfl,.inl (s1.seq h1),_,_,rfl,rfl,.inl ⟨by decide,by decide⟩,_,rfl,by omega,by omega,cb (n:=(2*(xs.length:Int)).toNat) (fun i σ H2=>∃ v4 v5 v6 ys rs kvs,σ = [some (.ref a),some (.ref b),some (.ref qr),some (.ref qs),v4,v5,v6]/\Same H H2/\H2 qr=some (.lst ys)/\cj (fun p=>p=qr∨p=qs) H2 ys rs/\H2 qs=some (.dK kvs)/\kvs.length<=rs.flatten.length/\(∀ d:Nat,(valV kvs (Sum.inl (d:Int))).isSome=true↔d∈rs.flatten)/\eA (fol es ts) (2*es.length) i rs)
  ⟨_,_,_,[],[],[],rfl,s1,by rw[ar hne,ae],⟨rfl,fun i l e=>by simp at e⟩,ae,BI _,fun d=>by simp[valV],sv _ _⟩ ?_ ?_⟩
 ·rintro i σ H2 hi ⟨v4,v5,v6,ys,rs,kvs,rfl,s2,e1,rx,e2,kl,km,ro⟩;rw[hN]at hi;have e0:(0:Int)+(i:Int)=(i:Int):=DE _;rw[e0];have fl:=mF ro;have rl:=xM ro;refine⟨_,rfl,_,rfl,_,_,rfl,DGet.k (k:=Sum.inl (i:Int)) e2,_,rfl,?_⟩;refine ite2 (fun c=>?_) (fun c=>?_)
  ·have hni:i∉rs.flatten:=fun z=>by
    rw[(km i).mpr z]at c
    cases c
   refine⟨_,rfl,_,rfl,_,rfl,a,b,m,es,ts,i,rfl,tt.mono s2,hi,fun q r H3 s3 hq hq3 pa ri=>?_⟩;have s23:=s2.trans s3;have nq:¬ (q=qr∨q=qs):=by
    rintro(z | z)
    ·rw[z,e1]at hq;cases hq
    ·rw[z,e2]at hq;cases hq
   refine⟨_,rfl,.inl ⟨rfl,_,SqL.of (s3 _ _ e1)⟩,_,rfl,qr,_,_,rfl,rfl,s3 _ _ e1,aC (by rw[rx.1];omega),?_⟩
   have s4:=a8 s23 hqr (.lst (ys++[.ref q]));have hrq:∀{H5:Hp},cj (fun p=>p=qr∨p=qs) H5 (ys++[.ref q]) (rs++[r])->H5 q=some (.lst (r.map iV)):=fun h=>by
    obtain⟨p,z1,_,z2⟩:=h.2 rs.length r (by rw[BH (BI _),Ck];rfl)
    rw[← rx.1,BH (BI _),Ck]at z1
    cases z1
    exact z2
   have rx4:cj (fun p=>p=qr∨p=qs) (upd H3 qr (.lst (ys++[.ref q]))) (ys++[.ref q]) (rs++[r]):=by
    refine(rx.mono fun p o n z=>?_).snoc nq ?_
    ·rw[ar (fun z=>n (.inl z))];exact s3 _ _ z
    ·rw[ar (fun z=>nq (.inl z))];exact hq3
   have rl:r.length<=2*es.length:=eQ ri.nd ri.lt
   refine⟨_,rfl,q,rfl,⟨_,SqL.of (hrq rx4)⟩,gs (xs:=r.map iV) (fun j σ H5=>∃ v6 kvs',σ = [some (.ref a),some (.ref b),some (.ref qr),some (.ref qs),some (.int (i:Int)),some (.ref q),v6]/\Same H H5/\H5 qr=some (.lst (ys++[.ref q]))/\cj (fun p=>p=qr∨p=qs) H5 (ys++[.ref q]) (rs++[r])/\H5 qs=some (.dK kvs')/\kvs'.length<=rs.flatten.length+j/\∀ d:Nat,(valV kvs' (Sum.inl (d:Int))).isSome=true↔d∈rs.flatten∨d∈r.take j)
    ⟨_,kvs,rfl,s4,ae,rx4,by rw[ar hne.symm];exact s3 _ _ e2,kl,fun d=>by rw[km d];simp⟩ (fun j σ H5 _ p=>?_) ?_ ?_⟩
   ·obtain⟨_,_,_,_,_,z,_⟩:=p;exact SqL.of (hrq z)
   ·rintro j x σ H5 hx ⟨v6,kvs',rfl,s5,f1,rx5,f2,kl5,km5⟩;rw[BJ]at hx;obtain⟨g,hg,rfl⟩:=Cu.mp hx;have hjl:j<r.length:=(BB.mp hg).1;refine⟨_,rfl,_,rfl,qs,_,rfl,DPut.k (k:=Sum.inl (g:Int)) f2 (aC (by omega)),?_⟩
    refine⟨_,_,rfl,a8 s5 hqs0 _,by rw[ar hne];exact f1,rx5.mono fun p o n z=>by rw[ar (fun z=>n (.inr z))];exact z,ae,by have:=fz kvs' (Sum.inl (g:Int)) (V.bl true);omega,fun d=>?_⟩
    rw[lH];have tk:r.take (j+1)=r.take j++[g]:=by rw[Cv,hg];rfl
    rw[tk];by_cases z:d=g
    ·subst z;simp
    ·rw[if_neg (fun y=>z (by have:=Sum.inl.inj y;omega)),km5 d]
     simp[z]
   ·rintro σ H5 ⟨v6,kvs',rfl,s5,f1,rx5,f2,kl5,km5⟩;rw[BC]at kl5 km5;refine⟨_,_,_,_,rs++[r],kvs',rfl,s5,f1,rx5,f2,by rw[EB,BE];simpa using kl5,fun d=>?_,ro.put pm hni hi ri pa⟩
    rw[km5 d,CQ,EB,BN];simp
  ·have hii:i∈rs.flatten:=(km i).mp (by
    cases z:(valV kvs (Sum.inl (i:Int))).isSome with
    |true=>rfl
    |false=>exact absurd (by rw[z];rfl) c)
   exact⟨_,_,_,ys,rs,kvs,rfl,s2,e1,rx,e2,kl,km,ro.skip hii⟩
 ·rintro σ H2 ⟨v4,v5,v6,ys,rs,kvs,rfl,s2,e1,rx,e2,kl,km,ro⟩;rw[hN]at ro;exact⟨_,rfl,k qr ys rs H2 s2 e1 rx.off ro⟩
theorem dN:aJ ["ties","rounds","number_at","number","row","dart"] ["ties","rounds"] (ay iS):=by ac_nf
theorem x8{f:Addr}{fd:FuncData} (F:Fun K "sides_of" "sides_of" iS f fd) (T:Txt mg):FnOk P w K mg base CX0 1 f fd ["ties","rounds"] (uH K):=by
 refine F.ok dN (fun vs H Q E h=>?_) (fun cdv A outer s H vs Q E hr h=>?_)
 ·obtain⟨a,b,xs,ys,es,g,rs,rfl,_⟩:=h;rfl
 obtain⟨a,b,xs,ys,es,g,rs,rfl,hS,hT,few,hB,hR,ro,k⟩:=h;have hu:=hu_of hr;have fl:=mF ro
 refine⟨_,(af (av (i:=2) dN.nd rfl (Or.inr rfl) rb)
   (af (cL PassesOwn.never rfl (vn rfl T.n_enumerate (aa (pv 1) ag)) (q8 rfl (cW (aQ (i:=3) dN.nd rfl (Or.inl rfl)) (cW (aQ (i:=4) dN.nd rfl (Or.inl rfl)) lZ))) (ak (cL PassesOwn.never rfl (cp (pv 4)) (aQ (i:=5) dN.nd rfl (Or.inl rfl)) (ak (vi hu (pv 2) (pv 5) (pv 3) rfl)))))
   (ak (aG (cG rfl rfl rfl rfl (fr:=[("number_at",2)]) (xs:=["i"]) (dA.of (by rfl) (by decide) (by rfl) (by decide) (by intro p hp;simp only[BG,Ct,or_false]at hp;rcases hp with rfl<;>exact⟨rfl,rfl⟩) (by decide) (by intro p hp;simp only[BG,Ct,or_false]at hp;rcases hp with rfl<;>rfl)) (bw rfl T.n_range (aa (au ao (by rfl) T.n_len aN (aa (pv 0) ag)) ag)) (fun C ex s H=>(aQ (i:=0) (show(["i","number_at"]:List Str).Nodup from by decide) rfl (Or.inl rfl))) (fun C ex s H=>cE) (fun C ex s H ps XE=>(bG (aa (vt hu (pv 1) (aq cN ai (pv 0)) (fun _ _=>rfl)) (aa (vt hu (pv 1) (aq aU (aq cN ai (pv 0)) ai) (fun _ _=>rfl)) ag))))))))),?_⟩
 intro q hq;have s1:=aj hq (.dK []);have kF:∀ i,(rs.take i).flatten.length<=rs.flatten.length:=fun i=>by
  have:=congrArg (fun z=>z.flatten.length) (Cj i rs);simp only[EB,BE]at this;omega
 refine⟨_,rfl,b,rfl,⟨_,s1.seq hB⟩,rK (K:=K) (xs:=ys) (fun i σ H2=>∃ v3 v4 v5 kvs,σ = [some (.ref a),some (.ref b),some (.ref q),v3,v4,v5]/\Same H H2/\H2 q=some (.dK kvs)/\kvs.length<=(rs.take i).flatten.length/\∀(d c:Nat)(r:List Nat),c<i->rs[c]?=some r->d∈r->valV kvs (Sum.inl (d:Int))=some (iV c))
  ⟨_,_,_,[],rfl,s1,ae,C4 _,fun d c r z=>absurd z (EU _)⟩ (fun i σ H2 _ ⟨_,_,_,_,_,s2,_⟩=>s2.seq hB) ?_ ?_⟩
 ·rintro i x σ H2 T2 hx ⟨v3,v4,v5,kvs,rfl,s2,e1,kl,km⟩ hT2;have hil:i<rs.length:=by
   have:=(BB.mp hx).1;rw[hR.1]at this;exact this
  have hr':rs[i]?=some rs[i]:=BA hil;obtain⟨p,x1,x2⟩:=hR.2 i _ hr';rw[hx]at x1
  cases x1
  generalize rs[i]=r at hr' x2;have s3:Same H (upd H2 T2 (.tup [.int (i:Int),.ref p])):=s2.trans (aj hT2 _);have f1:(rs.take (i+1)).flatten=(rs.take i).flatten++r:=by rw[Cv,hr'];simp
  have f2:=kF (i+1);rw[f1,BE]at f2;refine⟨T2,_,rfl,SqT.of ae,rfl,_,_,rfl,_,_,rfl,rfl,?_⟩
  refine⟨_,rfl,p,rfl,⟨_,SqL.of (s3 _ _ x2)⟩,gs (xs:=r.map iV) (fun j σ H5=>∃ v5 kvs',σ = [some (.ref a),some (.ref b),some (.ref q),some (.int (i:Int)),some (.ref p),v5]/\Same H H5/\H5 q=some (.dK kvs')/\kvs'.length<=(rs.take i).flatten.length+j/\(∀(d c:Nat)(r:List Nat),c<i->rs[c]?=some r->d∈r->valV kvs' (Sum.inl (d:Int))=some (iV c))/\∀ d∈r.take j,valV kvs' (Sum.inl (d:Int))=some (iV i))
   ⟨_,kvs,rfl,s3,aj hT2 _ _ _ e1,kl,km,fun d hd=>by simp at hd⟩ (fun j σ H5 _ ⟨_,_,_,z,_⟩=>SqL.of (z _ _ x2)) ?_ ?_⟩
  ·rintro j x σ H5 hx2 ⟨v5,kvs',rfl,s5,g1,kl5,km5,kn5⟩;rw[BJ]at hx2;obtain⟨g,hg,rfl⟩:=Cu.mp hx2;have hjl:j<r.length:=(BB.mp hg).1;refine⟨_,rfl,_,rfl,_,rfl,q,_,rfl,DPut.k (k:=Sum.inl (g:Int)) g1 (aC (by omega)),?_⟩
   refine⟨_,_,rfl,a8 s5 hq _,ae,by have:=fz kvs' (Sum.inl (g:Int)) (V.int (i:Int));omega,fun d c r' hc hrc hd=>?_,fun d hd=>?_⟩
   ·rw[lH,if_neg (fun z=>?_)]
    ·exact km5 d c r' hc hrc hd
    ·have z':d=g:=by have:=Sum.inl.inj z;omega
     subst z';have:=Bc ro.nd hrc hr' hd (BF hg);omega
   ·rw[lH];by_cases z:d=g
    ·subst z;rw[if_pos rfl];rfl
    ·rw[if_neg (fun y=>z (by have:=Sum.inl.inj y;omega))]
     refine kn5 d ?_;rw[Cv,hg]at hd;simpa[z] using hd
  ·rintro σ H5 ⟨v5,kvs',rfl,s5,g1,kl5,km5,kn5⟩;rw[BC]at kl5 kn5;rw[CQ]at kn5;refine⟨_,_,_,kvs',rfl,s5,g1,by rw[f1,BE];exact kl5,fun d c r' hc hrc hd=>?_⟩
   by_cases z:c=i
   ·subst z;rw[hr']at hrc
    cases hrc
    exact kn5 d hd
   ·exact km5 d c r' (by omega) hrc hd
 ·rintro σ H2 ⟨v3,v4,v5,kvs,rfl,s2,e1,kl,km⟩;rw[hR.1]at km;have get:∀ d,d<2*es.length->∃ c r,rs[c]?=some r/\d∈r/\valV kvs (Sum.inl (d:Int))=some (iV c):=fun d hd=>by
   obtain⟨r,z1,z2⟩:=CN.mp (ro.all d hd);obtain⟨c,z3⟩:=Cr.mp z1;exact⟨c,r,z3,z2,km d c r (BB.mp z3).1 z3 z2⟩
  have hxl:xs.length=es.length:=hT.1;refine⟨_,rfl,a,xs,rfl,.inl (s2.seq hS),_,rfl,by omega,by omega,dZ (fun i zs H3=>Same H2 H3/\xt H3 zs i rs) (by rw[Cg,hxl];exact Di (aC (by omega))) ⟨fun _ _ e=>e,rfl,fun i hi=>absurd hi (EU _)⟩ ?_ ?_⟩
  ·rintro i zs H3 hi ⟨s3,sd⟩;have e0:(0:Int)+(i:Int)=(i:Int):=DE _;rw[e0];rw[Cg,hxl]at hi;obtain⟨c1,r1,z1,z2,z3⟩:=get (2*i) (by omega)
   obtain⟨c2,r2,y1,y2,y3⟩:=get (2*i+1) (by omega)
   have m2:CMul 2 (i:Int):=.inl ⟨by decide,by decide⟩
   have d1:DGet H3 q (V.int (2*(i:Int))) (some (iV c1)):=by
    rw[← z3,show((2*i:Nat):Int)=2*(i:Int) by omega]
    exact DGet.k (k:=Sum.inl (2*(i:Int))) (s3 _ _ e1)
   have d2:DGet H3 q (V.int (2*(i:Int)+1)) (some (iV c2)):=by
    rw[← y3,show((2*i+1:Nat):Int)=2*(i:Int)+1 by omega]
    exact DGet.k (k:=Sum.inl (2*(i:Int)+1)) (s3 _ _ e1)
   refine⟨_,rfl,_,rfl,_,_,rfl,rfl,m2,q,_,rfl,d1,_,rfl,_,rfl,_,_,rfl,rfl,m2,_,_,rfl,rfl,q,_,rfl,d2,(by show 2<=sizeLine;decide),fun t ht=>?_⟩
   have s4:=aj ht (.tup [iV c1,iV c2]);refine⟨s3.trans s4,by rw[BE,sd.1];rfl,fun j hj=>?_⟩
   by_cases z:j=i
   ·subst z;exact⟨t,c1,c2,r1,r2,by rw[← sd.1,BH (BI _),Ck];rfl,ae,z1,z2,y1,y2⟩
   ·obtain⟨p,a',b',r,r',w1,w2,w3⟩:=sd.2 j (by omega)
    exact⟨p,a',b',r,r',by rw[BL (by rw[sd.1];omega)];exact w1,s4 _ _ w2,w3⟩
  ·rintro zs H3 hzl ⟨s3,sd⟩ D hD;rw[Cg,hxl]at sd
   exact k D zs _ ((s2.trans s3).trans (aj hD _)) ae ⟨sd.1,fun i hi=>by
    obtain⟨p,a',b',r,r',w1,w2,w3⟩:=sd.2 i hi
    exact⟨p,a',b',r,r',w1,aj hD _ _ _ w2,w3⟩⟩
theorem ph:aJ ["script","k"] ["script","k"] (ay iZ):=by ac_nf
theorem AM{f:Addr}{fd:FuncData} (F:Fun K "_law_cell" "_law_cell" iZ f fd) (T:Txt mg):FnOk P w K mg base CX0 1 f fd ["script","k"] (qX K):=by
 refine F.ok ph (fun vs H Q E h=>?_) (fun cdv A outer s H vs Q E hr h=>?_)
 ·obtain⟨a,k,ns,rfl,_⟩:=h;rfl
 obtain⟨a,k,ns,rfl,hS,q⟩:=h
 refine⟨_,(af (bf (ax md (pv 1) (au ao (by rfl) T.n_len aN (aa (pv 0) ag)) (aA _)) (ak (aG (aL aD (pv 0) (pv 1) (fun _ _=>rfl)))) aF)
   (ak (aG ai))),?_⟩
 refine⟨_,rfl,_,rfl,a,_,rfl,.inl hS,_,_,rfl,rfl,_,rfl,?_⟩;refine ite2 (fun c=>?_) (fun c=>?_)
 ·have c':(k:Int)<((ns.map V.int).length:Int):=of_decide_eq_true c
  rw[BC]at c';have hk:k<ns.length:=by omega
  have hat:atI (ns.map V.int) (k:Int)=some (.int (lr ns k)):=aO (by rw[BJ,BA hk];unfold lr;rw[DJ,BA hk];rfl)
  exact⟨_,rfl,_,rfl,a,_,_,_,rfl,rfl,hS,hat,q⟩
 ·have c':¬ (k:Int)<((ns.map V.int).length:Int):=fun z=>c (decide_eq_true z)
  rw[BC]at c';have e:lr ns k=0:=by unfold lr;rw[DJ,Fm (by omega)];rfl
  rw[e]at q;exact q
theorem at0{u v:V}:atI [u,v] 0=some u:=rfl
theorem at1{u v:V}:atI [u,v] 1=some v:=rfl
theorem cJ.snoc{H:Hp}{xs:List V}{es:En}{e:Nat×Nat}{p C dx:Addr}{s:Int}(t:cJ K H xs es)(h:H p=some (.ins C dx (tf (e.1:Int) (e.2:Int) s)))(c:CT K C):cJ K H (xs++[.ref p]) (es++[e]):=by
 refine⟨by rw[BE,BE,t.1];rfl,fun j k ej=>?_⟩
 by_cases hj:j<es.length
 ·rw[BL hj]at ej;obtain⟨p,C',dx',s',a1,a2,a3⟩:=t.2 j k ej;exact⟨p,C',dx',s',by rw[BL (by rw[t.1];exact hj)];exact a1,a2,a3⟩
 ·rw[BH (by omega)]at ej
  have hj2:j=es.length:=by
   have:=(BB.mp ej).1;rw[BM]at this;omega
  subst hj2;rw[Ck]at ej
  cases ej
  exact⟨p,C,dx,s,by rw[← t.1,BH (BI _),Ck];rfl,h,c⟩
theorem dB.put{H:Hp}{ys:List V}{es:En}{q:Addr}{zs:List V}{o:HO}(t:dB H ys es)(h:H q=some (.lst zs)):dB (upd H q o) ys es:=⟨t.1,fun i e z=>by
 obtain⟨p,a,b⟩:=t.2 i e z;refine⟨p,a,?_⟩;rw[ar (fun z=>by rw[z,h]at b;cases b)]
 exact b⟩
theorem dB.snoc{H:Hp}{xs:List V}{es:En}{e:Nat×Nat}{p:Addr}(t:dB H xs es)(h:H p=some (.tup [iV e.1,iV e.2])):dB H (xs++[.ref p]) (es++[e]):=by
 refine⟨by rw[BE,BE,t.1];rfl,fun j k ej=>?_⟩
 by_cases hj:j<es.length
 ·rw[BL hj]at ej;obtain⟨p,a1,a2⟩:=t.2 j k ej;exact⟨p,by rw[BL (by rw[t.1];exact hj)];exact a1,a2⟩
 ·rw[BH (by omega)]at ej
  have hj2:j=es.length:=by
   have:=(BB.mp ej).1;rw[BM]at this;omega
  subst hj2;rw[Ck]at ej
  cases ej
  exact⟨p,by rw[← t.1,BH (BI _),Ck];rfl,h⟩
theorem A3{l:List Nat}{k n:Nat}:(ins l k n).length=l.length+1:=by
 unfold ins;rw[BE,BK,BV,Cq];omega
theorem zv(X:Int)(n:Nat):0<=X%((n:Int)+1)/\X%((n:Int)+1)<=(n:Int):=⟨Df _ (by omega),by have:=CU X (show(0:Int)<(n:Int)+1 by omega);omega⟩
noncomputable def Dist(xs:List V):Prop:=∀(i j:Nat)(p:Addr),xs[i]?=some (.ref p)->xs[j]?=some (.ref p)->i=j
theorem cj.set{S:Addr->Prop}{H:Hp}{xs:List V}{ts:List (List Nat)}{i:Nat}{p:Addr}{l':List Nat}(h:cj S H xs ts)(D:Dist xs)(e:xs[i]?=some (.ref p)):cj S (upd H p (.lst (l'.map iV))) xs (ts.set i l'):=by
 refine⟨by rw[BZ];exact h.1,fun j l z=>?_⟩
 have hi:i<ts.length:=by rw[← h.1];exact(BB.mp e).1
 rw[CJ]at z;by_cases hj:i=j
 ·subst hj;rw[if_pos rfl,if_pos hi]at z
  cases z
  obtain⟨p',a1,a2,a3⟩:=h.2 i _ (BA hi);rw[e]at a1
  cases a1
  exact⟨p,e,a2,ae⟩
 ·rw[if_neg hj]at z;obtain⟨p',a1,a2,a3⟩:=h.2 j l z;exact⟨p',a1,a2,by rw[ar (fun y=>by rw[y]at a1;exact hj (D i j p e a1))];exact a3⟩
theorem insV{l:List Nat}{k n:Nat}:(l.map iV).take k++V.int (n:Int)::(l.map iV).drop k=(ins l k n).map iV:=by
 unfold ins;rw[Cn,BW,Eh,Ej];rfl
end
noncomputable def uO(K:BD):Sp:=fun vs H Q _=>∃(a:Addr)(ys:List V)(es:En)(d:Nat),vs = [.ref a,.int (d:Int)]/\SqL K H a ys/\dB H ys es/\d<2*es.length/\Q (iV (hd es d)) H
section
variable{P:Program}{w:World}{K:BD}{mg:Str->Option Value}{base:Heap}
theorem pf:aJ ["ends","dart"] ["ends","dart"] (ay iY):=by ac_nf
theorem yd{f:Addr}{fd:FuncData} (F:Fun K "_law_head" "_law_head" iY f fd):FnOk P w K mg base CX0 1 f fd ["ends","dart"] (uO K):=by
 refine F.ok pf (fun vs H Q E h=>?_) (fun cdv A outer s H vs Q E hr h=>?_)
 ·obtain⟨a,ys,es,d,rfl,_⟩:=h;rfl
 obtain⟨a,ys,es,d,rfl,hS,hE,hdl,k⟩:=h;have hl:d/2<es.length:=by omega
 have e1:es[d/2]?=some es[d/2]:=BA hl;obtain⟨p,x1,x2⟩:=hE.2 _ _ e1;have hh:hd es d=if d%2=0 then es[d/2].2 else es[d/2].1:=by unfold hd;rw[e1]
 have ed:(d:Int)/2=((d/2:Nat):Int):=by omega
 have hat:atI [iV es[d/2].1,iV es[d/2].2] (1-(d:Int)%2)=some (iV (hd es d)):=by
  by_cases z:d%2=0
  ·rw[hh,if_pos z,show(1-(d:Int)%2)=1 by omega];rfl
  ·rw[hh,if_neg z,show(1-(d:Int)%2)=0 by omega];rfl
 refine⟨_,(ak (aG (aL br (aL aD (pv 0) (aq a9 (pv 1) ai) (fun _ _=>rfl)) (aq cM ai (aq aT (pv 1) ai)) (fun _ _=>rfl)))),?_⟩;exact⟨_,rfl,_,rfl,_,_,rfl,rfl,⟨by decide,by decide⟩,a,ys,_,_,rfl,rfl,hS,(by rw[ed];exact aO x1),_,rfl,_,_,rfl,rfl,(by show(0:Int)<2;decide),_,_,rfl,rfl,p,_,_,_,rfl,rfl,SqT.of x2,hat,k⟩
end
theorem Gr.joinP{m:Nat}{es:En}{ts:List (List Nat)}(g:Gr m es ts){left right one two:Nat}{e:Nat×Nat}{l l' xs ys:List Nat}{rest:List (List Nat)}(hl:left<2*es.length)(hr:CR (fol es ts) (2*es.length) (left::(xs++right::ys)))(hch:fF (fol es ts) left (xs++right::ys) left)(hm:right∈left::(xs++right::ys))
  (h1:hd es left=one) (h2:hd es right=two) (hne:one≠two) (he:e=(one,two)∨e=(two,one)) (e1:ts[one]?=some l) (e2:ts[two]?=some l')
  (pr:Part (fol es ts) (2*es.length) ((left::(xs++right::ys))::rest)) :
  Part (fol (es++[e]) ((ts.set one (ins l (l.idxOf (left/2)+1) es.length)).set two (ins l' (l'.idxOf (right/2)+1) es.length))) (2*(es++[e]).length) ((left::cf es.length e one::ys)::(right::cf es.length e two::xs)::rest):=by
 have w:=g.w;have hrt:right<2*es.length:=hr.lt right hm;have hlen:=w.len;have o1:one<m:=by rw[← hlen];exact(BB.mp e1).1
 have o2:two<m:=by rw[← hlen];exact(BB.mp e2).1
 have W:bC m (es++[e]) ((ts.set one (ins l (l.idxOf (left/2)+1) es.length)).set two (ins l' (l'.idxOf (right/2)+1) es.length)):=by
  rcases he with rfl | rfl
  ·exact w.put o1 o2 hne e1 e2
  ·exact(w.put o1 o2 hne e1 e2).flip
 have r1:((ts.set one (ins l (l.idxOf (left/2)+1) es.length)).set two (ins l' (l'.idxOf (right/2)+1) es.length))[one]?=some (ins l (l.idxOf (left/2)+1) es.length):=by
  rw[CJ,if_neg (fun z=>hne z.symm),CJ,if_pos rfl,if_pos (by rw[hlen];exact o1)]
 have r2:((ts.set one (ins l (l.idxOf (left/2)+1) es.length)).set two (ins l' (l'.idxOf (right/2)+1) es.length))[two]?=some (ins l' (l'.idxOf (right/2)+1) es.length):=by
  rw[CJ,if_pos rfl,if_pos (by rw[BZ,hlen];exact o2)]
 have r3:∀ p,p≠one->p≠two->((ts.set one (ins l (l.idxOf (left/2)+1) es.length)).set two (ins l' (l'.idxOf (right/2)+1) es.length))[p]?=ts[p]?:=fun p n1 n2=>by
  rw[CJ,if_neg (fun z=>n2 z.symm),CJ,if_neg (fun z=>n1 z.symm)]
 generalize (ts.set one (ins l (l.idxOf (left/2)+1) es.length)).set two (ins l' (l'.idxOf (right/2)+1) es.length)=ts' at W r1 r2 r3;obtain⟨a1,a2,a3⟩:=qf (e:=e) w e1 hl h1 r1;obtain⟨b1,b2,b3⟩:=qf (e:=e) w e2 hrt h2 r2;obtain⟨d1,d2,d3,d4⟩:=rP (es:=es) hne he;have fa:=b2 _ (cz _ _ _) d1;have fb:=a2 _ (cz _ _ _) d2;have els:∀ d,d<2*es.length->d≠left->d≠right->fol (es++[e]) ts' d=fol es ts d:=fun d hd' n1 n2=>by
  by_cases z1:hd es d=one
  ·exact a3 d hd' n1 z1
  ·by_cases z2:hd es d=two
   ·exact b3 d hd' n2 z2
   ·exact rM w hd' (r3 _ z1 z2)
 generalize ha:cf es.length e one=α at *;generalize hb:cf es.length e two=β at *;have hα:α/2=es.length:=by rw[← ha];exact cz _ _ _
 have hβ:β/2=es.length:=by rw[← hb];exact cz _ _ _
 have hlr:right≠left:=fun z=>hne (by rw[← h1,← h2,z])
 have hm':right∈xs++right::ys:=by
  rcases BG.mp hm with z | z
  ·exact absurd z hlr
  ·exact z
 obtain⟨c1,c2⟩:=cV.mp hch;have nd:=hr.nd;have ltx:∀ t∈xs,t<2*es.length/\t≠left/\t≠right:=fun t ht=>by
  refine⟨hr.lt t (by simp[ht]),fun z=>?_,fun z=>?_⟩
  ·subst z;exact(B7.mp nd).1 (by simp[ht])
  ·subst z;have:=(Cw.mp (B7.mp nd).2).2.2 t ht t (by simp)
   exact this rfl
 have lty:∀ t∈ys,t<2*es.length/\t≠left/\t≠right:=fun t ht=>by
  refine⟨hr.lt t (by simp[ht]),fun z=>?_,fun z=>?_⟩
  ·subst z;exact(B7.mp nd).1 (by simp[ht])
  ·subst z;exact(B7.mp (Cw.mp (B7.mp nd).2).2.1).1 ht
 have ndr:=pr.nd;rw[CH]at ndr;obtain⟨_,nd2,nd3⟩:=Cw.mp ndr;have ltr:∀ t∈rest.flatten,t<2*es.length/\t≠left/\t≠right:=fun t ht=>by
  obtain⟨q,q1,q2⟩:=CN.mp ht;exact⟨(pr.cr q (BO _ q1)).lt t q2,fun z=>nd3 left (by simp) t ht z.symm,fun z=>nd3 right (by simp) t ht z.symm⟩
 have hlen2:(es++[e]).length=es.length+1:=by rw[BE];rfl
 have PP:Part (fol (es++[e]) ts') (2*(es++[e]).length) ((left::α::ys)::(right::β::xs)::rest):=by
  refine⟨fun q hq=>?_,?_,fun d hd'=>?_⟩
  ·rcases BG.mp hq with z | z
   ·subst z;refine⟨⟨left,α::ys,rfl,a1,iF c2 fa fun t ht=>els t (lty t ht).1 (lty t ht).2.1 (lty t ht).2.2⟩,fun d hd'=>?_,?_⟩
    ·rw[hlen2];simp only[BG]at hd';rcases hd' with y | y | y
     ·omega
     ·omega
     ·have:=(lty d y).1;omega
    ·refine B7.mpr ⟨fun y=>?_,B7.mpr ⟨fun y=>?_,?_⟩⟩
     ·rcases BG.mp y with y | y
      ·omega
      ·exact(lty _ y).2.1 rfl
     ·have:=(lty _ y).1;omega
     ·exact(B7.mp (Cw.mp (B7.mp nd).2).2.1).2
   ·rcases BG.mp z with z | z
    ·subst z;refine⟨⟨right,β::xs,rfl,b1,iF c1 fb fun t ht=>els t (ltx t ht).1 (ltx t ht).2.1 (ltx t ht).2.2⟩,fun d hd'=>?_,?_⟩
     ·rw[hlen2];simp only[BG]at hd';rcases hd' with y | y | y
      ·omega
      ·omega
      ·have:=(ltx d y).1;omega
     ·refine B7.mpr ⟨fun y=>?_,B7.mpr ⟨fun y=>?_,?_⟩⟩
      ·rcases BG.mp y with y | y
       ·omega
       ·exact(ltx _ y).2.2 rfl
      ·have:=(ltx _ y).1;omega
      ·exact(Cw.mp (B7.mp nd).2).1
    ·refine(pr.cr q (BO _ z)).mono (by rw[hlen2];omega) fun t ht=>?_
     obtain⟨k1,k2,k3⟩:=ltr t (CN.mpr ⟨q,z,ht⟩);exact els t k1 k2 k3
  ·have dis:∀ x∈xs,∀ y∈ys,x≠y:=fun x hx y hy=>(Cw.mp (B7.mp nd).2).2.2 x hx y (by simp[hy])
   rw[CH,CH];refine Cw.mpr ⟨?_,Cw.mpr ⟨?_,nd2,fun a ha b hb=>?_⟩,fun a ha b hb=>?_⟩
   ·refine B7.mpr ⟨fun y=>?_,B7.mpr ⟨fun y=>?_,(B7.mp (Cw.mp (B7.mp nd).2).2.1).2⟩⟩
    ·rcases BG.mp y with y | y
     ·omega
     ·exact(lty _ y).2.1 rfl
    ·have:=(lty _ y).1;omega
   ·refine B7.mpr ⟨fun y=>?_,B7.mpr ⟨fun y=>?_,(Cw.mp (B7.mp nd).2).1⟩⟩
    ·rcases BG.mp y with y | y
     ·omega
     ·exact(ltx _ y).2.2 rfl
    ·have:=(ltx _ y).1;omega
   ·obtain⟨k1,k2,k3⟩:=ltr b hb;simp only[BG]at ha;rcases ha with y | y | y
    ·exact fun z=>k3 (z▸y)
    ·omega
    ·exact nd3 a (by simp[y]) b hb
   ·simp only[BG,BN]at ha hb;rcases hb with(y | y | y) | y
    ·rcases ha with z | z | z
     ·exact fun u=>hlr (by rw[← y,← u,z])
     ·have:=hrt;omega
     ·exact fun u=>(lty a z).2.2 (u.trans y)
    ·rcases ha with z | z | z
     ·omega
     ·omega
     ·have:=(lty a z).1;omega
    ·rcases ha with z | z | z
     ·exact fun u=>(ltx b y).2.1 (u▸z)
     ·have:=(ltx b y).1;omega
     ·exact fun u=>dis b y a z u.symm
    ·obtain⟨k1,k2,k3⟩:=ltr b y;rcases ha with z | z | z
     ·exact fun u=>k2 (u▸z)
     ·omega
     ·exact nd3 a (by simp[z]) b y
  ·rw[hlen2]at hd';simp only[CH,BN,BG];rcases d4 d hd' with y | y | y
   ·have:=pr.all d y
    simp only[CH,BN,BG]at this;rcases this with(z | z | z | z) | z
    ·exact .inl (.inl z)
    ·exact .inr (.inl (.inr (.inr z)))
    ·exact .inr (.inl (.inl z))
    ·exact .inl (.inr (.inr z))
    ·exact .inr (.inr z)
   ·exact .inl (.inr (.inl y))
   ·exact .inr (.inl (.inr (.inl y)))
 exact PP
theorem Gr.leafP{m:Nat}{es:En}{ts:List (List Nat)}(g:Gr m es ts){left one:Nat}{e:Nat×Nat}{l tail:List Nat}{rest:List (List Nat)}(hl:left<2*es.length)(hr:CR (fol es ts) (2*es.length) (left::tail))(hch:fF (fol es ts) left tail left)
  (h1:hd es left=one) (he:e=(one,m)∨e=(m,one)) (e1:ts[one]?=some l)
  (pr:Part (fol es ts) (2*es.length) ((left::tail)::rest)) :
  Part (fol (es++[e]) (ts.set one (ins l (l.idxOf (left/2)+1) es.length)++[[es.length]])) (2*(es++[e]).length) ((left::cf es.length e one::cf es.length e m::tail)::rest):=by
 have w:=g.w;have hlen:=w.len;have o1:one<m:=by rw[← hlen];exact(BB.mp e1).1
 have hne:one≠m:=by omega
 have W:bC (m+1) (es++[e]) (ts.set one (ins l (l.idxOf (left/2)+1) es.length)++[[es.length]]):=by
  have q:=w.room.put (one:=one) (two:=m) (k:=l.idxOf (left/2)+1) (j:=0) (l:=l) (l':=[]) (by omega) (by omega) hne (by rw[BL (by omega)];exact e1) (by rw[BH (by omega),hlen,Ck];rfl)
  have q2:((ts++[[]]).set one (ins l (l.idxOf (left/2)+1) es.length)).set m (ins [] 0 es.length)=ts.set one (ins l (l.idxOf (left/2)+1) es.length)++[[es.length]]:=by
   rw[EO _ _ (by omega),EL _ _ (by rw[BZ];omega),BZ,hlen,Ck]
   rfl
  rw[q2]at q;rcases he with rfl | rfl
  ·exact q
  ·exact q.flip
 have r1:(ts.set one (ins l (l.idxOf (left/2)+1) es.length)++[[es.length]])[one]?=some (ins l (l.idxOf (left/2)+1) es.length):=by
  rw[BL (by rw[BZ];omega),CJ,if_pos rfl,if_pos (by omega)]
 have r2:(ts.set one (ins l (l.idxOf (left/2)+1) es.length)++[[es.length]])[m]?=some [es.length]:=by
  rw[BH (by rw[BZ];omega),BZ,hlen,Ck]
  rfl
 have r3:∀ p,p≠one->p<m->(ts.set one (ins l (l.idxOf (left/2)+1) es.length)++[[es.length]])[p]?=ts[p]?:=fun p n1 n2=>by
  rw[BL (by rw[BZ];omega),CJ,if_neg (fun z=>n1 z.symm)]
 generalize ts.set one (ins l (l.idxOf (left/2)+1) es.length)++[[es.length]]=ts' at W r1 r2 r3;obtain⟨a1,a2,a3⟩:=qf (e:=e) w e1 hl h1 r1;obtain⟨d1,d2,d3,d4⟩:=rP (es:=es) hne he;have fb:=a2 _ (cz _ _ _) d2;have fa:fol (es++[e]) ts' (cf es.length e one)=cf es.length e m:=by
  rw[eI (l:=[es.length]) (by rw[d1];exact r2),cz,d1]
  have:nxt [es.length] es.length=es.length:=by
   unfold nxt;rw[List.idxOf_cons_self];simp
  rw[this,nX];rfl
 have els:∀ d,d<2*es.length->d≠left->fol (es++[e]) ts' d=fol es ts d:=fun d hd' n1=>by
  by_cases z1:hd es d=one
  ·exact a3 d hd' n1 z1
  ·obtain⟨_,_,_,_,_,k4,_⟩:=w.at hd';exact rM w hd' (r3 _ z1 k4)
 generalize ha:cf es.length e one=α at *;generalize hb:cf es.length e m=β at *;have hα:α/2=es.length:=by rw[← ha];exact cz _ _ _
 have hβ:β/2=es.length:=by rw[← hb];exact cz _ _ _
 have nd:=hr.nd;have ltt:∀ t∈tail,t<2*es.length/\t≠left:=fun t ht=>⟨hr.lt t (by simp[ht]),fun z=>(B7.mp nd).1 (z▸ht)⟩
 have ndr:=pr.nd;rw[CH]at ndr;obtain⟨_,nd2,nd3⟩:=Cw.mp ndr;have ltr:∀ t∈rest.flatten,t<2*es.length/\t≠left:=fun t ht=>by
  obtain⟨q,q1,q2⟩:=CN.mp ht;exact⟨(pr.cr q (BO _ q1)).lt t q2,fun z=>nd3 left (by simp) t ht z.symm⟩
 have hlen2:(es++[e]).length=es.length+1:=by rw[BE];rfl
 have nd4:(left::α::β::tail).Nodup:=by
  refine B7.mpr ⟨fun y=>?_,B7.mpr ⟨fun y=>?_,B7.mpr ⟨fun y=>?_,(B7.mp nd).2⟩⟩⟩
  ·simp only[BG]at y;rcases y with y | y | y
   ·omega
   ·omega
   ·exact(ltt _ y).2 rfl
  ·simp only[BG]at y;rcases y with y | y
   ·exact d3 y
   ·have:=(ltt _ y).1;omega
  ·have:=(ltt _ y).1;omega
 have PP:Part (fol (es++[e]) ts') (2*(es++[e]).length) ((left::α::β::tail)::rest):=by
  refine⟨fun q hq=>?_,?_,fun d hd'=>?_⟩
  ·rcases BG.mp hq with z | z
   ·subst z;refine⟨⟨left,α::β::tail,rfl,a1,fa,iF hch fb fun t ht=>els t (ltt t ht).1 (ltt t ht).2⟩,fun d hd'=>?_,nd4⟩;rw[hlen2];simp only[BG]at hd';rcases hd' with y | y | y | y
    ·omega
    ·omega
    ·omega
    ·have:=(ltt d y).1;omega
   ·refine(pr.cr q (BO _ z)).mono (by rw[hlen2];omega) fun t ht=>?_
    obtain⟨k1,k2⟩:=ltr t (CN.mpr ⟨q,z,ht⟩);exact els t k1 k2
  ·rw[CH];refine Cw.mpr ⟨nd4,nd2,fun a ha b hb=>?_⟩;obtain⟨k1,k2⟩:=ltr b hb;simp only[BG]at ha;rcases ha with y | y | y | y
   ·exact fun u=>k2 (u▸y)
   ·omega
   ·omega
   ·exact nd3 a (by simp[y]) b hb
  ·rw[hlen2]at hd';simp only[CH,BN,BG];rcases d4 d hd' with y | y | y
   ·have:=pr.all d y
    simp only[CH,BN,BG]at this;rcases this with(z | z) | z
    ·exact .inl (.inl z)
    ·exact .inl (.inr (.inr (.inr z)))
    ·exact .inr z
   ·exact .inl (.inr (.inl y))
   ·exact .inl (.inr (.inr (.inl y)))
 exact PP
theorem CR.turn{f:Nat->Nat}{N:Nat}{A B:List Nat}(h:CR f N (A++B))(nb:B≠[]):CR f N (B++A):=by
 have pm:(B++A).Perm (A++B):=CF;refine⟨?_,fun d hd=>h.lt d (pm.mem_iff.mp hd),pm.nodup_iff.mpr h.nd⟩;match A,B,h,nb with
 |[],B,h,_ =>
  rw[Dl];exact h.ch
 |x::A,b::B,h,_ =>
  obtain⟨y,l,e,c⟩:=h.ch;rw[Dg]at e
  cases e
  obtain⟨c1,c2⟩:=cV.mp c;exact⟨b,B++x::A,rfl,cV.mpr ⟨c2,c1⟩⟩
theorem Part.perm{f:Nat->Nat}{N:Nat}{rs rs':List (List Nat)}(p:Part f N rs)(h:rs.Perm rs'):Part f N rs' :=
 ⟨fun r hr=>p.cr r (h.mem_iff.mpr hr),h.flatten.nodup_iff.mp p.nd,fun d hd=>h.flatten.mem_iff.mp (p.all d hd)⟩
theorem Part.swap{f:Nat->Nat}{N:Nat}{r r':List Nat}{rest:List (List Nat)}(p:Part f N (r::rest))(h:CR f N r')(pm:r'.Perm r):Part f N (r'::rest):=by
 have q:((r'::rest).flatten).Perm ((r::rest).flatten):=by
  rw[CH,CH];exact pm.append_right _
 refine⟨fun x hx=>?_,q.nodup_iff.mpr p.nd,fun d hd=>q.mem_iff.mpr (p.all d hd)⟩;rcases BG.mp hx with z | z
 ·rw[z];exact h
 ·exact p.cr x (BO _ z)
theorem l5:∀{rs:List (List Nat)}{i:Nat}{r:List Nat},rs[i]?=some r->rs.Perm (r::rs.eraseIdx i)
 |[],i,r,h=>by cases h
 |x::rs,0,r,h=>by cases h;exact F7 _
 |x::rs,i+1,r,h=>by
  have ih:=l5 (rs:=rs) (i:=i) (r:=r) h;show(x::rs).Perm (r::x::rs.eraseIdx i);exact(ih.cons x).trans (List.Perm.swap r x _)
theorem ra{rs:List (List Nat)}{i:Nat}(hi:i<rs.length)(r:List Nat):(r::rs.eraseIdx i).Perm (rs.set i r):=by
 have h:(rs.set i r)[i]?=some r:=by rw[CG hi]
 have:=l5 h;rw[List.eraseIdx_set_eq]at this;exact this.symm
theorem uC{m:Nat}{es:En}{ts rings:List (List Nat)}(g:Gr m es ts)(pt:Part (fol es ts) (2*es.length) rings){w left right one two:Nat}{A B C:List Nat}(hw:rings[w]?=some (A++left::(B++right::C))){e:Nat×Nat}{l l':List Nat}(h1:hd es left=one)(h2:hd es right=two)(hne:one≠two)(he:e=(one,two)∨e=(two,one))(e1:ts[one]?=some l)(e2:ts[two]?=some l') :
  Gr m (es++[e]) ((ts.set one (ins l (l.idxOf (left/2)+1) es.length)).set two (ins l' (l'.idxOf (right/2)+1) es.length)) /\
  Part (fol (es++[e]) ((ts.set one (ins l (l.idxOf (left/2)+1) es.length)).set two (ins l' (l'.idxOf (right/2)+1) es.length))) (2*(es++[e]).length) (rings.set w (A++left::cf es.length e one::C)++[B++[right,cf es.length e two]]):=by
 have wl:=(BB.mp hw).1;have p1:=pt.perm (l5 hw);have c0:=p1.cr _ (BQ ..);have c1:CR (fol es ts) (2*es.length) (left::(B++right::(C++A))):=by
  have:=c0.turn (CL _ _);rw[Dg,Ca,Dg]at this;exact this
 have pm:(left::(B++right::(C++A))).Perm (A++left::(B++right::C)):=by
  have:(left::(B++right::C)++A).Perm (A++left::(B++right::C)):=CF;rw[Dg,Ca,Dg]at this;exact this
 have p2:=p1.swap c1 pm;have hl:=c1.lt left (BQ ..);obtain⟨x,tl,ex,ch⟩:=c1.ch
 cases ex
 have hm:right∈left::(B++right::(C++A)):=by simp
 refine⟨g.join hl c1 ch hm h1 h2 hne he e1 e2,?_⟩;have q:=g.joinP hl c1 ch hm h1 h2 hne he e1 e2 p2;generalize (ts.set one (ins l (l.idxOf (left/2)+1) es.length)).set two (ins l' (l'.idxOf (right/2)+1) es.length)=ts' at q ⊢;generalize cf es.length e one=α at q ⊢;generalize cf es.length e two=β at q ⊢;have d1:CR (fol (es++[e]) ts') (2*(es++[e]).length) (A++left::α::C):=by
  have h:=q.cr _ (BQ ..);by_cases na:A = []
  ·subst na;rw[Dl]at h;exact h
  ·have h':CR (fol (es++[e]) ts') (2*(es++[e]).length) ((left::α::C)++A):=h
   exact h'.turn na
 have pm1:(A++left::α::C).Perm (left::α::(C++A)):=(CF:(A++(left::α::C)).Perm ((left::α::C)++A));have q1:=q.swap d1 pm1;have q2:=q1.perm (List.Perm.swap _ _ _);have d2:CR (fol (es++[e]) ts') (2*(es++[e]).length) (B++[right,β]):=by
  have h:=q2.cr _ (BQ ..);by_cases nb:B = []
  ·subst nb;exact h
  ·have h':CR (fol (es++[e]) ts') (2*(es++[e]).length) ([right,β]++B):=h
   exact h'.turn nb
 have q3:=q2.swap d2 (CF:(B++[right,β]).Perm ([right,β]++B));refine q3.perm ?_;refine(List.Perm.cons _ (ra wl _)).trans ?_;exact(CF:([B++[right,β]]++rings.set w (A++left::α::C)).Perm _)
theorem uB{m:Nat}{es:En}{ts rings:List (List Nat)}(g:Gr m es ts)(pt:Part (fol es ts) (2*es.length) rings){w left one:Nat}{A B:List Nat}(hw:rings[w]?=some (A++left::B)){e:Nat×Nat}{l:List Nat}(h1:hd es left=one)(he:e=(one,m)∨e=(m,one))(e1:ts[one]?=some l) :
  Gr (m+1) (es++[e]) (ts.set one (ins l (l.idxOf (left/2)+1) es.length)++[[es.length]]) /\
  Part (fol (es++[e]) (ts.set one (ins l (l.idxOf (left/2)+1) es.length)++[[es.length]])) (2*(es++[e]).length) (rings.set w (A++left::cf es.length e one::cf es.length e m::B)):=by
 have wl:=(BB.mp hw).1;have p1:=pt.perm (l5 hw);have c0:=p1.cr _ (BQ ..);have c1:CR (fol es ts) (2*es.length) (left::(B++A)):=c0.turn (CL _ _);have p2:=p1.swap c1 (CF:((left::B)++A).Perm (A++left::B));have hl:=c1.lt left (BQ ..);obtain⟨x,tl,ex,ch⟩:=c1.ch
 cases ex
 refine⟨g.leaf hl c1 ch h1 he e1,?_⟩;have q:=g.leafP hl c1 ch h1 he e1 p2;generalize ts.set one (ins l (l.idxOf (left/2)+1) es.length)++[[es.length]]=ts' at q ⊢;generalize cf es.length e one=α at q ⊢;generalize cf es.length e m=β at q ⊢;have d1:CR (fol (es++[e]) ts') (2*(es++[e]).length) (A++left::α::β::B):=by
  have h:=q.cr _ (BQ ..);by_cases na:A = []
  ·subst na;rw[Dl]at h;exact h
  ·have h':CR (fol (es++[e]) ts') (2*(es++[e]).length) ((left::α::β::B)++A):=h
   exact h'.turn na
 have q1:=q.swap d1 (CF:(A++(left::α::β::B)).Perm ((left::α::β::B)++A));exact q1.perm (ra wl _)
noncomputable def y4(K:BD):Sp:=fun vs H Q _=>∃(pt q:Addr)(xs:List V)(p d n:Nat)(l:List Nat),vs = [.ref pt,.int (p:Int),.int (d:Int),.int (n:Int)]/\SqL K H pt xs/\xs[p]?=some (.ref q)/\H q=some (.lst (l.map iV))/\d/2∈l/\l.length<=70/\(∀ x∈l,x<1000)/\Q .non (upd H q (.lst ((ins l (l.idxOf (d/2)+1) n).map iV)))
section
variable{P:Program}{w:World}{K:BD}{mg:Str->Option Value}{base:Heap}
theorem lB:aJ ["turns","place","behind","fresh","row"] ["turns","place","behind","fresh"] (ay j8):=by ac_nf
theorem ok_put{f:Addr}{fd:FuncData} (F:Fun K "_law_put" "_law_put" j8 f fd):FnOk P w K mg base CX0 1 f fd ["turns","place","behind","fresh"] (y4 K):=by
 refine F.ok lB (fun vs H Q E h=>?_) (fun cdv A outer s H vs Q E hr h=>?_)
 ·obtain⟨pt,q,xs,p,d,n,l,rfl,_⟩:=h;rfl
 obtain⟨pt,q,xs,p,d,n,l,rfl,hS,hx,hq,hd,l60,lb,kk⟩:=h;have ix:l.idxOf (d/2)<l.length:=List.idxOf_lt_length_of_mem hd;have ll:(l.map iV).length=l.length:=BC ..;have eL:(d:Int)/2=((d/2:Nat):Int):=by omega
 refine⟨_,(af (av (i:=4) lB.nd rfl (Or.inl rfl) (aL aD (pv 0) (pv 1) (fun _ _=>rfl)))
   (ak (aZ (bP BS E3 E2 kj (pv 4) (aa (aq aU (bP BS Gg Ge rB (pv 4) (aa (aq a9 (pv 2) ai) ag)) ai) (aa (pv 3) ag)))))),?_⟩
 refine⟨_,rfl,_,rfl,pt,xs,_,_,rfl,rfl,hS,aO hx,?_⟩;refine⟨_,rfl,.inl ⟨rfl,_,SqL.of hq⟩,_,rfl,.inl ⟨rfl,_,SqL.of hq⟩,_,rfl,_,_,rfl,rfl,⟨by decide,by decide⟩,q,l,d/2,rfl,congrArg (fun z=>[V.int z]) eL,SqL.of hq,fun p hp=>by have:=lb p hp;omega,by omega,hd,_,_,rfl,rfl,_,rfl,q,_,_,_,rfl,rfl,hq,by omega,by omega,aC (by omega),?_⟩
 rw[insV,show(((l.idxOf (d/2):Nat):Int)+1).toNat=l.idxOf (d/2)+1 by omega]
 exact kk
end
structure GwC(S:Addr->Prop)(H:Hp)(pe pt pr:Addr)(ys xs zs:List V)(es:En)(ts rg:List (List Nat)):Prop where
 he:H pe=some (.lst ys)
 en:dB H ys es
 ht:H pt=some (.lst xs)
 rx:cj (fun p=>p=pe∨p=pt∨p=pr∨S p) H xs ts
 di:Dist xs
 hr:H pr=some (.lst zs)
 rz:cj (fun p=>(p=pe∨p=pt∨p=pr)∨V.ref p∈xs∨S p) H zs rg
 ne:pe≠pt/\pe≠pr/\pt≠pr/\¬ S pe/\¬ S pt/\¬ S pr
 sl:∀ p,S p->H p≠none
noncomputable def Keep(S:Addr->Prop)(H H':Hp):Prop:=∀ p o,S p->H p=some o->H' p=some o
theorem Keep.trans{S:Addr->Prop}{H H1 H2:Hp}(a:Keep S H H1)(b:Keep S H1 H2):Keep S H H2:=fun p o s h=>b p o s (a p o s h)
theorem Keep.of{S:Addr->Prop}{H H1:Hp}(a:Same H H1):Keep S H H1:=fun p o _ h=>a p o h
theorem Keep.upd{S:Addr->Prop}{H:Hp}{q:Addr}{o:HO}(n:¬ S q):Keep S H (upd H q o):=fun p u s h=>by rw[ar (show p≠q from fun z=>n (z▸s))];exact h
theorem ui{S:Addr->Prop}{H:Hp}{xs:List V}{ts:List (List Nat)}(h:cj S H xs ts){p:Addr}(m:V.ref p∈xs):H p≠none:=by
 obtain⟨i,hi⟩:=Cr.mp m;have il:=(BB.mp hi).1;obtain⟨p',a1,_,a3⟩:=h.2 i _ (BA (by rw[← h.1];exact il))
 rw[hi]at a1
 cases a1
 rw[a3];exact fun z=>nomatch z
section
variable{S:Addr->Prop}{H H':Hp}{pe pt pr:Addr}{ys xs zs:List V}{es:En}{ts rg:List (List Nat)}
theorem GwC.same(c:GwC S H pe pt pr ys xs zs es ts rg)(s:Same H H'):GwC S H' pe pt pr ys xs zs es ts rg :=
 ⟨s _ _ c.he,c.en.mono s,s _ _ c.ht,c.rx.mono fun p o _ z=>s _ _ z,c.di,s _ _ c.hr,c.rz.mono fun p o _ z=>s _ _ z,c.ne,fun p sp z=>by
  cases y:H p with
  |none=>exact c.sl p sp y
  |some o=>rw[s _ _ y]at z;cases z⟩
theorem GwC.new(c:GwC S H pe pt pr ys xs zs es ts rg){b:Addr}(h:H b=none):b≠pe/\b≠pt/\b≠pr/\¬ S b/\V.ref b∉xs/\V.ref b∉zs :=
 ⟨fun z=>(by rw[z,c.he]at h;cases h),fun z=>(by rw[z,c.ht]at h;cases h),fun z=>(by rw[z,c.hr]at h;cases h),fun z=>c.sl b z h,fun z=>ui c.rx z h,fun z=>ui c.rz z h⟩
theorem GwC.put(c:GwC S H pe pt pr ys xs zs es ts rg){i:Nat}{q:Addr}(hx:xs[i]?=some (.ref q))(l':List Nat):GwC S (upd H q (.lst (l'.map iV))) pe pt pr ys xs zs es (ts.set i l') rg/\¬ S q:=by
 have il:i<ts.length:=by rw[← c.rx.1];exact(BB.mp hx).1
 obtain⟨q',a1,a2,a3⟩:=c.rx.2 i _ (BA il);rw[hx]at a1
 cases a1
 have n1:pe≠q:=fun z=>a2 (.inl z.symm);have n2:pt≠q:=fun z=>a2 (.inr (.inl z.symm));have n3:pr≠q:=fun z=>a2 (.inr (.inr (.inl z.symm)));have n4:¬ S q:=fun z=>a2 (.inr (.inr (.inr z)));refine⟨⟨by rw[ar n1];exact c.he,c.en.put a3,by rw[ar n2];exact c.ht,c.rx.set c.di hx,c.di,by rw[ar n3];exact c.hr,c.rz.mono fun p o n z=>?_,c.ne,fun p sp z=>?_⟩,n4⟩
 ·rw[ar (show p≠q from fun y=>n (.inr (.inl (y▸BF hx))))];exact z
 ·rw[ar (show p≠q from fun y=>n4 (y▸sp))]at z;exact c.sl p sp z
theorem GwC.updR(c:GwC S H pe pt pr ys xs zs es ts rg){zs':List V}{rg':List (List Nat)}(hz:cj (fun p=>(p=pe∨p=pt∨p=pr)∨V.ref p∈xs∨S p) H zs' rg'):GwC S (upd H pr (.lst zs')) pe pt pr ys xs zs' es ts rg':=by
 obtain⟨n1,n2,n3,n4,n5,n6⟩:=c.ne;refine⟨by rw[ar n2];exact c.he,c.en.put c.hr,by rw[ar n3];exact c.ht,c.rx.mono fun p o n z=>?_,c.di,ae,hz.mono fun p o n z=>?_,c.ne,fun p sp z=>?_⟩
 ·rw[ar (fun y=>n (.inr (.inr (.inl y))))];exact z
 ·rw[ar (fun y=>n (.inl (.inr (.inr y))))];exact z
 ·rw[ar (show p≠pr from fun y=>n6 (y▸sp))]at z;exact c.sl p sp z
theorem nH{S:Addr->Prop}{H:Hp}{zs:List V}{rg:List (List Nat)}(h:cj S H zs rg){W:Nat}{b:Addr}{r:List Nat}(n:¬ S b)(e:H b=some (.lst (r.map iV))):cj S H (zs.set W (.ref b)) (rg.set W r):=by
 refine⟨by rw[BZ,BZ];exact h.1,fun j l z=>?_⟩
 rw[CJ]at z ⊢;by_cases hj:W=j
 ·rw[if_pos hj]at z ⊢;by_cases hl:W<rg.length
  ·rw[if_pos hl]at z
   cases z
   exact⟨b,by rw[if_pos (by rw[h.1];exact hl)],n,e⟩
  ·rw[if_neg hl]at z;cases z
 ·rw[if_neg hj]at z ⊢;exact h.2 j l z
theorem GwC.leaf(c:GwC S H pe pt pr ys xs zs es ts rg){pn:Addr}(hp:pn≠pe/\pn≠pt/\pn≠pr/\¬ S pn/\V.ref pn∉xs/\V.ref pn∉zs){l:List Nat}(e:H pn=some (.lst (l.map iV))):GwC S (upd H pt (.lst (xs++[.ref pn]))) pe pt pr ys (xs++[.ref pn]) zs es (ts++[l]) rg:=by
 obtain⟨n1,n2,n3,n4,n5,n6⟩:=c.ne;obtain⟨m1,m2,m3,m4,m5,m6⟩:=hp;have R:=c.rx.snoc (q:=pn) (l:=l) (by rintro(z | z | z | z);exact m1 z;exact m2 z;exact m3 z;exact m4 z) e
 refine⟨by rw[ar n1];exact c.he,c.en.put c.ht,ae,R.mono fun p o n z=>?_,fun i j p e1 e2=>?_,by rw[ar (Ne.symm n3)];exact c.hr,⟨c.rz.1,fun i l hl=>?_⟩,c.ne,fun p sp z=>?_⟩
 ·rw[ar (fun y=>n (.inr (.inl y)))];exact z
 ·have old:∀ k,(xs++[V.ref pn])[k]?=some (.ref p)->(xs[k]?=some (.ref p))∨(k=xs.length/\p=pn):=fun k ek=>by
   by_cases hk:k<xs.length
   ·rw[BL hk]at ek;exact .inl ek
   ·have:=(BB.mp ek).1
    rw[BE,BM]at this;have hk2:k=xs.length:=by omega
    subst hk2;rw[BH (BI _),Ck]at ek
    cases ek
    exact .inr ⟨rfl,rfl⟩
  rcases old i e1 with a | ⟨a,a'⟩
  ·rcases old j e2 with b | ⟨b,b'⟩
   ·exact c.di i j p a b
   ·exact absurd (b'▸BF a) m5
  ·rcases old j e2 with b | ⟨b,b'⟩
   ·exact absurd (a'▸BF b) m5
   ·rw[a,b]
 ·obtain⟨p,a1,a2,a3⟩:=c.rz.2 i l hl;refine⟨p,a1,?_,?_⟩
  ·rintro(y | y | y)
   ·exact a2 (.inl y)
   ·rcases BN.mp y with y | y
    ·exact a2 (.inr (.inl y))
    ·have:p=pn:=by
      have:=BR.mp y
      cases this;rfl
     exact m6 (this▸BF a1)
   ·exact a2 (.inr (.inr y))
  ·rw[ar (fun y=>a2 (.inl (.inr (.inl y))))];exact a3
 ·rw[ar (show p≠pt from fun y=>n5 (y▸sp))]at z;exact c.sl p sp z
theorem GwC.fin(c:GwC S H pe pt pr ys xs zs es ts rg){i:Nat}{q:Addr}(hx:xs[i]?=some (.ref q))(l':List Nat){t:Addr}(ht:(upd H q (.lst (l'.map iV))) t=none)(e:Nat×Nat) :
  GwC S (upd (upd (upd H q (.lst (l'.map iV))) t (.tup [iV e.1,iV e.2])) pe (.lst (ys++[.ref t]))) pe pt pr (ys++[.ref t]) xs zs (es++[e]) (ts.set i l') rg/\Keep S H (upd (upd (upd H q (.lst (l'.map iV))) t (.tup [iV e.1,iV e.2])) pe (.lst (ys++[.ref t]))):=by
 obtain⟨c1,nq⟩:=c.put hx l';have sn:=aj ht (.tup [iV e.1,iV e.2]);have c2:=c1.same sn;obtain⟨n1,n2,n3,n4,n5,n6⟩:=c.ne;refine⟨⟨ae,(c2.en.snoc ae).put c2.he,by rw[ar (Ne.symm n1)];exact c2.ht,c2.rx.mono fun p o n z=>?_,c2.di,by rw[ar (Ne.symm n2)];exact c2.hr,c2.rz.mono fun p o n z=>?_,c.ne,fun p sp z=>?_⟩,?_⟩
 ·rw[ar (fun y=>n (.inl y))];exact z
 ·rw[ar (fun y=>n (.inl (.inl y)))];exact z
 ·rw[ar (show p≠pe from fun y=>n4 (y▸sp))]at z;exact c2.sl p sp z
 ·exact((Keep.upd nq).trans (Keep.of sn)).trans (Keep.upd n4)
end
noncomputable def GwA(S:Addr->Prop)(H:Hp)(pe pt pr:Addr)(m:Nat)(es:En)(ts rg:List (List Nat)):Prop:=(∃ ys xs zs,GwC S H pe pt pr ys xs zs es ts rg)/\Gr m es ts/\Part (fol es ts) (2*es.length) rg/\m+rg.length=es.length+2
noncomputable def stepT:TS:=fun D σ H=>∃(pe pt q rg:Addr)(v0 v3 v4 v5 v6 v7 v10 v15:Option V)(a L one two n o:Nat)(xs ys:List V)(ring l:List Nat),σ = [v0,some (.ref pe),some (.ref pt),v3,v4,v5,v6,v7,some (.ref rg),some (.int (a:Int)),v10,some (.int (one:Int)),some (.int (two:Int)),some (.int (n:Int)),some (.int ((2*n+o:Nat):Int)),v15]/\o<2/\H pt=some (.lst xs)/\xs[one]?=some (.ref q)/\H q=some (.lst (l.map iV))/\L/2∈l/\l.length<=70/\(∀ x∈l,x<1000)/\H rg=some (.lst (ring.map iV))/\ring[a]?=some L/\q≠pe/\H pe=some (.lst ys)/\ys.length<=70 /\
 ∀ t,(upd H q (.lst ((ins l (l.idxOf (L/2)+1) n).map iV))) t=none->D.nx σ (upd (upd (upd H q (.lst ((ins l (l.idxOf (L/2)+1) n).map iV))) t (.tup (if o=0 then[iV one,iV two] else[iV two,iV one]))) pe (.lst (ys++[.ref t])))
noncomputable def By(S:Addr->Prop)(H:Hp)(pe pt pr:Addr)(N P:Nat)(Q:Hp->Prop):Prop:=∀(m':Nat)(es':En)(ts' rg':List (List Nat))(H':Hp),Keep S H H'->GwA S H' pe pt pr m' es' ts' rg'->N<=es'.length->es'.length<=N+1->m'<=P->Q H'
noncomputable def stepO:TS:=fun D σ H=>∃(S:Addr->Prop)(c:Int)(pe pt pr rq:Addr)(P m W a b:Nat)(v5 v7 v11 v12 v13 v14 v15:Option V)(ys xs zs:List V)(es:En)(ts rg:List (List Nat))(ring:List Nat),σ = [some (.int c),some (.ref pe),some (.ref pt),some (.ref pr),some (.int (P:Int)),v5,some (.int (W:Int)),v7,some (.ref rq),some (.int (a:Int)),some (.int (b:Int)),v11,v12,v13,v14,v15]/\GwC S H pe pt pr ys xs zs es ts rg/\Gr m es ts/\Part (fol es ts) (2*es.length) rg/\m+rg.length=es.length+2/\es.length<=62/\m<=P/\zs[W]?=some (.ref rq)/\rg[W]?=some ring/\H rq=some (.lst (ring.map iV))/\a<=b/\b<ring.length/\(∀ σ',By S H pe pt pr es.length P (D.nx σ'))/\By S H pe pt pr es.length P (D.rt .non)
theorem o6{r:List Nat}{a L:Nat}(h:r[a]?=some L):r.take (a+1)=r.take a++[L]:=by
 rw[Cv,h];rfl
theorem lI{r:List Nat}{a L:Nat}(h:r[a]?=some L):r=r.take a++L::r.drop (a+1):=by
 have:=(Cj (a+1) r).symm;rw[o6 h,Ca]at this;exact this
theorem uD{r:List Nat}{a b L R:Nat}(h:r[a]?=some L)(h2:r[b]?=some R)(lt:a<b):r=r.take a++L::((r.drop (a+1)).take (b-a-1)++R::r.drop (b+1)):=by
 have e:(r.drop (a+1))[b-a-1]?=some R:=by rw[DP,show a+1+(b-a-1)=b by omega];exact h2
 have:=lI e;rw[Ec,show a+1+(b-a-1+1)=b+1 by omega]at this
 rw[← this];exact lI h
theorem mid_at{r:List Nat}{a b R:Nat}(h2:r[b]?=some R)(lt:a<b):(r.drop (a+1)).take (b-a)=(r.drop (a+1)).take (b-a-1)++[R]:=by
 have e:(r.drop (a+1))[b-a-1]?=some R:=by rw[DP,show a+1+(b-a-1)=b by omega];exact h2
 rw[show b-a=b-a-1+1 by omega]
 exact o6 e
theorem Bt{xs:List V}{c:Nat}(h:c<=xs.length):cutV xs (some (c:Int)) none=xs.drop c:=by
 unfold cutV;rw[HT.sIx_nat,De h];show(xs.drop c).take (xs.length-c)=_;exact Cc (by rw[Cq];exact BI _)
theorem wW{xs:List V}{c:Nat}(h:c<=xs.length):cutV xs none (some (c:Int))=xs.take c:=by
 unfold cutV;rw[HT.sIx_nat,De h];show(xs.drop 0).take (c-0)=_;rw[EI,FI]
theorem Bs{xs:List V}{c d:Nat}(h:c<=xs.length)(h2:d<=xs.length):cutV xs (some (c:Int)) (some (d:Int))=(xs.drop c).take (d-c):=by
 unfold cutV;rw[HT.sIx_nat,HT.sIx_nat,De h,De h2]
theorem cY{H G:Hp}{p:Addr}(sm:Same H G)(z:G p=none):H p=none:=by
 cases y:H p with
 |none=>rfl
 |some o=>rw[sm _ _ y]at z;cases z
theorem yF{n o x y:Nat}(o2:o<2)(ne:x≠y):cf n (if o=0 then(x,y) else(y,x)) x=2*n+o/\cf n (if o=0 then(x,y) else(y,x)) y=2*n+1-o:=by
 by_cases z:o=0
 ·subst z;rw[if_pos rfl];unfold cf;exact⟨by rw[if_pos rfl];rfl,by rw[if_neg ne];rfl⟩
 ·have:o=1:=by omega
  subst this;rw[if_neg (by decide)]
  unfold cf;exact⟨by rw[if_neg (Ne.symm ne)],by rw[if_pos rfl];rfl⟩
theorem yR{o x y:Nat}:HO.tup (if o=0 then[iV x,iV y] else[iV y,iV x])=HO.tup [iV (if o=0 then(x,y) else(y,x)).1,iV (if o=0 then(x,y) else(y,x)).2]:=by
 by_cases z:o=0
 ·rw[if_pos z,if_pos z]
 ·rw[if_neg z,if_neg z]
theorem vA{o x y:Nat}:(if o=0 then(x,y) else(y,x))=(x,y)∨(if o=0 then(x,y) else(y,x))=(y,x):=by
 by_cases z:o=0
 ·exact .inl (if_pos z)
 ·exact .inr (if_neg z)
theorem ma{f:Nat->Nat}{N:Nat}{rs:List (List Nat)}(p:Part f N rs):rs.length<=N:=by
 have h1:rs.flatten.length<=N:=eQ p.nd fun d hd=>by
  obtain⟨r,a,b⟩:=CN.mp hd;exact(p.cr r a).lt d b
 have h2:∀ l:List (List Nat),(∀ r∈l,∃ d,d∈r)->l.length<=l.flatten.length:=fun l=>by
  induction l with
  |nil=>intro _;exact BI _
  |cons r l ih =>
   intro h;obtain⟨d,hd⟩:=h r (BQ ..);have:=ih fun q hq=>h q (BO _ hq);have:=Ed hd;rw[CH,BE,BK];omega
 exact Co (h2 rs fun r hr=>(p.cr r hr).ne) h1
noncomputable def yW:Sp:=fun vs H Q _=>∃(S:Addr->Prop)(c:Int)(pe pt pr:Addr)(P m:Nat)(es:En)(ts rg:List (List Nat)),vs = [.int c,.ref pe,.ref pt,.ref pr,.int (P:Int)]/\GwA S H pe pt pr m es ts rg/\0<es.length/\es.length<=62/\m<=P/\By S H pe pt pr es.length P (Q .non)
section
variable{P:Program}{w:World}{K:BD}{mg:Str->Option Value}{base:Heap}
theorem bb:aJ ["cell","ends","turns","rings","places","mixed","which","rest","ring","a","b","one","two","fresh","out","back"] ["cell","ends","turns","rings","places"] (ay iU):=by ac_nf
theorem AD{f fh fp:Addr}{fd dh dp:FuncData} (F:Fun K "_law_step" "_law_step" iU f fd) (T:Txt mg) (G_law_head:Cal P w K mg base 1 "_law_head" ["ends","dart"] (uO K) fh dh) (G_law_put:Cal P w K mg base 1 "_law_put" ["turns","place","behind","fresh"] (y4 K) fp dp):FnOk P w K mg base CX0 2 f fd ["cell","ends","turns","rings","places"] yW:=by
 refine F.ok bb (fun vs H Q E h=>?_) (fun cdv A outer s H vs Q E hr h=>?_)
 ·obtain⟨S,c,pe,pt,pr,P,m,es,ts,rg,rfl,_⟩:=h;rfl
 obtain⟨S,c,pe,pt,pr,P,m,es,ts,rg,rfl,⟨⟨ys,xs,zs,C⟩,g,part,cnt⟩,e0,few,mP,kk⟩:=h
 refine⟨_,(af (av (i:=5) bb.nd rfl (Or.inl rfl) (aq aT (aq cN (aq aT (pv 0) ai) ai) ai))
   (af (av (i:=6) bb.nd rfl (Or.inl rfl) (aq aT (aq a9 (pv 5) ai) (au ao (by rfl) T.n_len aN (aa (pv 3) ag))))
   (af (av (i:=7) bb.nd rfl (Or.inl rfl) (aq a9 (aq a9 (pv 5) ai) (au ao (by rfl) T.n_len aN (aa (pv 3) ag))))
   (af (av (i:=8) bb.nd rfl (Or.inl rfl) (aL aD (pv 3) (pv 6) (fun _ _=>rfl)))
   (af (av (i:=9) bb.nd rfl (Or.inl rfl) (aq aT (pv 7) (au ao (by rfl) T.n_len aN (aa (pv 8) ag))))
   (af (av (i:=10) bb.nd rfl (Or.inl rfl) (pv 9))
   (af (bf (ax bu (aq aT (pv 5) ai) ai (aA _)) (ak (av (i:=10) bb.nd rfl (Or.inl rfl) (aq aU (pv 9) (aq aT (aq a9 (pv 7) (au ao (by rfl) T.n_len aN (aa (pv 8) ag))) (aq cM (au ao (by rfl) T.n_len aN (aa (pv 8) ag)) (pv 9)))))) aF)
   (fq (t2:=stepO) (af (av (i:=11) bb.nd rfl (Or.inl rfl) (aI G_law_head.ok (hr.mono (by decide)) rfl G_law_head.mg G_law_head.kp G_law_head.bn .nil bA (aa (pv 1) (aa (aL aD (pv 8) (pv 9) (fun _ _=>rfl)) ag))))
   (af (av (i:=12) bb.nd rfl (Or.inl rfl) (aI G_law_head.ok (hr.mono (by decide)) rfl G_law_head.mg G_law_head.kp G_law_head.bn .nil bA (aa (pv 1) (aa (aL aD (pv 8) (pv 10) (fun _ _=>rfl)) ag))))
   (af (av (i:=13) bb.nd rfl (Or.inl rfl) (au ao (by rfl) T.n_len aN (aa (pv 1) ag)))
   (af (av (i:=14) bb.nd rfl (Or.inl rfl) (aq aU (aq cN ai (pv 13)) (aq aT (aq a9 (pv 0) ai) ai)))
   (af (av (i:=15) bb.nd rfl (Or.inl rfl) (aq cM (aq aU (aq cN ai (pv 13)) ai) (pv 14)))
   (af (bf (PW.pt (ve (ax bu (pv 11) (pv 12) (aA _)) (pD (ax xX (au ao (by rfl) T.n_len aN (aa (pv 2) ag)) (pv 4) (aA _))))) (ak As) aF)
   (af (bf (ax bu (pv 11) (pv 12) (aA _)) (af (av (i:=12) bb.nd rfl (Or.inl rfl) (au ao (by rfl) T.n_len aN (aa (pv 2) ag)))
   (af (aZ (bP BS Ce Cd bg (pv 2) (aa (bh (aa (pv 13) ag)) ag)))
   (ak (dQ (aq dS (aq dS (cF dJ (pv 8) ft (cQ (aq aU (pv 9) ai))) (bh (aa (pv 14) (aa (pv 15) ag)))) (cF dJ (pv 8) (cQ (aq aU (pv 9) ai)) ft)) (dR (pv 3) (pv 6) bL))))) (af (aZ (aI G_law_put.ok (hr.mono (by decide)) rfl G_law_put.mg G_law_put.kp G_law_put.bn .nil bA (aa (pv 2) (aa (pv 12) (aa (aL aD (pv 8) (pv 10) (fun _ _=>rfl)) (aa (pv 13) ag))))))
   (af (dQ (aq dS (aq dS (cF dJ (pv 8) ft (cQ (aq aU (pv 9) ai))) (bh (aa (pv 14) ag))) (cF dJ (pv 8) (cQ (aq aU (pv 10) ai)) ft)) (dR (pv 3) (pv 6) bL))
   (ak (aZ (bP BS Ce Cd bg (pv 3) (aa (aq dS (cF dJ (pv 8) (cQ (aq aU (pv 9) ai)) (cQ (aq aU (pv 10) ai))) (bh (aa (pv 15) ag))) ag)))))))
   (fq (t2:=stepT) (af (aZ (aI G_law_put.ok (hr.mono (by decide)) rfl G_law_put.mg G_law_put.kp G_law_put.bn .nil bA (aa (pv 2) (aa (pv 11) (aa (aL aD (pv 8) (pv 9) (fun _ _=>rfl)) (aa (pv 13) ag))))))
   (ak (bf (ax bu (aq aT (pv 14) ai) ai (aA _)) (ak (aZ (bP BS Ce Cd bg (pv 1) (aa (bG (aa (pv 11) (aa (pv 12) ag))) ag)))) (ak (aZ (bP BS Ce Cd bg (pv 1) (aa (bG (aa (pv 12) (aa (pv 11) ag))) ag))))))) (fun D0 S0 H0 h0=>?restp))))))))) (fun D0 S0 H0 h0=>?resto))))))))),?_⟩
 case restp =>
  obtain⟨pe,pt,q,rg,v0,v3,v4,v5,v6,v7,v10,v15,a,L,one,two,n,o,xs,ys,ring,l,rfl,o2,hpt,hx,hq,hL,l60,lb,hrg,hra,qpe,hpe,y60,kk⟩:=h0;have hraV:(ring.map iV)[a]?=some (iV L):=by rw[BJ,hra];rfl
  refine⟨_,rfl,_,rfl,_,rfl,_,rfl,rg,_,_,_,rfl,rfl,SqL.of hrg,aO hraV,_,rfl,pt,q,xs,one,L,n,l,rfl,SqL.of hpt,hx,hq,hL,l60,lb,?_⟩;have hpe2:(upd H0 q (.lst ((ins l (l.idxOf (L/2)+1) n).map iV))) pe=some (.lst ys):=by rw[ar (Ne.symm qpe)];exact hpe
  refine⟨_,rfl,_,_,rfl,rfl,(by show(0:Int)<2;decide),rfl,_,rfl,ite2 (fun c=>?_) (fun c=>?_)⟩
  ·have c':((2*n+o:Nat):Int)%2=0:=V.int.inj (of_decide_eq_true c)
   have o0:o=0:=by omega
   refine⟨_,rfl,.inl ⟨rfl,_,SqL.of hpe2⟩,_,rfl,_,rfl,(by show 2<=sizeLine;decide),fun t ht=>⟨pe,ys,_,rfl,rfl,aj ht _ _ _ hpe2,aC (by omega),?_⟩⟩
   have:=kk t ht;rw[if_pos o0]at this;exact this
  ·have c':¬ ((2*n+o:Nat):Int)%2=0:=fun z=>c (decide_eq_true (congrArg V.int z))
   have o0:¬ o=0:=by omega
   refine⟨_,rfl,.inl ⟨rfl,_,SqL.of hpe2⟩,_,rfl,_,rfl,(by show 2<=sizeLine;decide),fun t ht=>⟨pe,ys,_,rfl,rfl,aj ht _ _ _ hpe2,aC (by omega),?_⟩⟩
   have:=kk t ht;rw[if_neg o0]at this;exact this
 case resto =>
  clear C g part cnt kk mP few e0;obtain⟨S,c,pe,pt,pr,rq,P,m,W,a,b,v5,v7,v11,v12,v13,v14,v15,ys,xs,zs,es,ts,rg,ring,rfl,C,g,part,cnt,few,mP,hzW,hrW,hrq,ab,bl,kN,kR⟩:=h0;have wf:=g.w;have mf:=zE g;have cr:=part.cr ring (BF hrW);obtain⟨L,hL⟩:∃ L,ring[a]?=some L:=⟨_,BA (by omega)⟩
  obtain⟨R,hR⟩:∃ R,ring[b]?=some R:=⟨_,BA bl⟩;have hLl:=cr.lt L (BF hL);have hRl:=cr.lt R (BF hR);have yl:ys.length=es.length:=C.en.1;have xl:xs.length=m:=by rw[C.rx.1,wf.len]
  have hLV:(ring.map iV)[a]?=some (iV L):=by rw[BJ,hL];rfl
  have hRV:(ring.map iV)[b]?=some (iV R):=by rw[BJ,hR];rfl
  have rlen:(ring.map iV).length=ring.length:=BC _;have rle:ring.length<=2*es.length:=eQ cr.nd cr.lt;obtain⟨_,l,_,_,_,k4,k5,k6⟩:=wf.at hLl;obtain⟨_,l',_,_,_,k4',k5',k6'⟩:=wf.at hRl;obtain⟨sm1,f1⟩:=eM (N:=70) wf (Co few (by decide)) k5
  obtain⟨sm2,f2⟩:=eM (N:=70) wf (Co few (by decide)) k5'
  obtain⟨p1,y1,y2,y3⟩:=C.rx.2 _ _ k5;obtain⟨p2,z1,z2,z3⟩:=C.rx.2 _ _ k5';obtain⟨rq',a1,a2,a3⟩:=C.rz.2 _ _ hrW;rw[hzW]at a1
  cases a1
  obtain⟨n1,n2,n3,n4,n5,n6⟩:=C.ne;obtain⟨o,ho,o2⟩:∃ o:Nat,c/3%2=(o:Int)/\o<2:=⟨(c/3%2).toNat,by omega,by omega⟩
  have qpt:rq≠pt:=fun z=>a2 (.inl (.inr (.inl z)));have qpr:rq≠pr:=fun z=>a2 (.inl (.inr (.inr z)));have qxs:V.ref rq∉xs:=fun z=>a2 (.inr (.inl z));refine⟨_,rfl,_,rfl,_,rfl,rq,_,_,_,rfl,rfl,SqL.of hrq,aO hLV,pe,ys,es,L,rfl,SqL.of C.he,C.en,hLl,?_⟩;refine⟨_,rfl,_,rfl,_,rfl,rq,_,_,_,rfl,rfl,SqL.of hrq,aO hRV,pe,ys,es,R,rfl,SqL.of C.he,C.en,hRl,?_⟩;refine⟨_,rfl,pe,ys,rfl,.inl (SqL.of C.he),?_⟩;refine⟨_,rfl,_,_,rfl,rfl,.inl ⟨by decide,by decide⟩,_,rfl,_,_,rfl,rfl,⟨by decide,by decide⟩,_,_,rfl,rfl,(by show(0:Int)<2;decide),_,_,rfl,rfl,?_⟩
  refine⟨_,rfl,_,_,rfl,rfl,.inl ⟨by decide,by decide⟩,_,_,rfl,rfl,_,rfl,_,_,rfl,rfl,?_⟩
  have hb:4*(es.length:Int)+1-(2*(es.length:Int)+(o:Int))=((2*es.length+1-o:Nat):Int):=by omega
  have ha:2*(es.length:Int)+(o:Int)=((2*es.length+o:Nat):Int):=by omega
  rw[ho,yl];dsimp only;rw[hb,ha];have cutA:cutV (ring.map iV) none (some ((a:Int)+1))=((ring.take a++[L]).map iV):=by
   rw[show(a:Int)+1=((a+1:Nat):Int) by omega,wW (by rw[rlen];omega),← o6 hL,Eh]
  have cutB:∀ x,x<ring.length->cutV (ring.map iV) (some ((x:Int)+1)) none=((ring.drop (x+1)).map iV):=fun x hx=>by
   rw[show(x:Int)+1=((x+1:Nat):Int) by omega,Bt (by rw[rlen];omega),Ej]
  have zl:zs.length=rg.length:=C.rz.1;have rgl:rg.length<=2*es.length:=ma part;have Wl:W<rg.length:=(BB.mp hrW).1;refine⟨_,rfl,_,rfl,rfl,_,rfl,ite2 (fun e1=>?_) (fun e1=>?_)⟩
  ·refine⟨_,rfl,pt,xs,rfl,.inl (SqL.of C.ht),_,rfl,_,_,rfl,rfl,_,rfl,ite2 (fun e2=>?_) (fun e2=>?_)⟩
   ·exact kR m es ts rg H0 (Keep.of (fun _ _ z=>z)) ⟨⟨ys,xs,zs,C⟩,g,part,cnt⟩ (BI _) (Ez _) mP
   have mlt:m<P:=by
    by_cases z:m<P
    ·exact z
    ·exact absurd (decide_eq_true (by rw[xl];omega)) e2
   refine⟨_,rfl,_,rfl,rfl,_,rfl,ite2 (fun _=>?_) (fun z=>absurd e1 z)⟩;refine⟨_,rfl,pt,xs,rfl,.inl (SqL.of C.ht),?_⟩;refine⟨_,rfl,.inl ⟨rfl,_,SqL.of C.ht⟩,_,rfl,(by show 1<=sizeLine;decide),fun pn hpn=>⟨pt,xs,_,rfl,rfl,aj hpn _ _ _ C.ht,aC (by omega),?_⟩⟩
   have sn:=aj hpn (.lst [V.int (es.length:Int)]);have C1:=(C.same sn).leaf (C.new hpn) (l:=[es.length]) ae;have hrq1:=sn _ _ hrq;have hrq2:(upd (upd H0 pn (.lst [V.int (es.length:Int)])) pt (.lst (xs++[.ref pn]))) rq=some (.lst (ring.map iV)):=by rw[ar qpt];exact hrq1
   have kp1:Keep S H0 (upd (upd H0 pn (.lst [V.int (es.length:Int)])) pt (.lst (xs++[.ref pn]))):=(Keep.of sn).trans (Keep.upd n5);generalize hG1:upd (upd H0 pn (.lst [V.int (es.length:Int)])) pt (.lst (xs++[.ref pn]))=G1 at C1 hrq2 kp1;refine⟨_,rfl,_,rfl,_,_,rfl,rfl,_,rfl,rq,_,rfl,SqL.of hrq2,fun b1 hb1=>?_⟩;rw[cutA];have t1:=aj hb1 (.lst ((ring.take a++[L]).map iV));refine⟨_,rfl,_,rfl,(by show 2<=sizeLine;decide),fun b2 hb2=>?_⟩
   have t2:=aj hb2 (.lst ([2*es.length+o,2*es.length+1-o].map iV));refine⟨b1,b2,(ring.take a++[L]).map iV,[2*es.length+o,2*es.length+1-o].map iV,rfl,rfl,SqL.of (t2 _ _ ae),SqL.of ae,(by rw[BC,BC,BE,BV];exact Di (aC (by simp;omega))),fun b3 hb3=>?_⟩
   have t3:=aj hb3 (.lst ((ring.take a++[L]).map iV++[2*es.length+o,2*es.length+1-o].map iV));have t03:=(t1.trans t2).trans t3;refine⟨_,rfl,_,rfl,_,_,rfl,rfl,_,rfl,rq,_,rfl,SqL.of (t03 _ _ hrq2),fun b4 hb4=>?_⟩;rw[cutB a (by omega)]
   have t4:=aj hb4 (.lst ((ring.drop (a+1)).map iV));refine⟨b3,b4,_,_,rfl,rfl,SqL.of (t4 _ _ ae),SqL.of ae,(by rw[BE,BC,BC,BE,BV,BC,Cq];exact Di (aC (by simp;omega))),fun b5 hb5=>?_⟩
   have hlist:(ring.take a++[L]).map iV++[2*es.length+o,2*es.length+1-o].map iV++(ring.drop (a+1)).map iV=(ring.take a++L::(2*es.length+o)::(2*es.length+1-o)::ring.drop (a+1)).map iV:=by simp
   rw[hlist];have t5:=aj hb5 (.lst ((ring.take a++L::(2*es.length+o)::(2*es.length+1-o)::ring.drop (a+1)).map iV));have t04:=t03.trans t4;have t05:=t04.trans t5;have C5:=C1.same t05;obtain⟨w1,w2,w3,w4,w5,w6⟩:=C1.new (cY t04 hb5);have C6:=C5.updR (nH C5.rz (W:=W) (b:=b5) (by rintro((z | z | z) | z | z);exact w1 z;exact w2 z;exact w3 z;exact w5 z;exact w4 z) ae)
   refine⟨_,rfl,_,rfl,pr,zs,_,W,rfl,rfl,C5.hr,cq (by omega),?_⟩
   have hrq6:=(ar (o:=.lst (zs.set W (.ref b5))) qpr).trans (t05 _ _ hrq2);have kp6:=(kp1.trans (Keep.of t05)).trans (Keep.upd (q:=pr) (o:=.lst (zs.set W (.ref b5))) n6);have tsl:hd es L<ts.length:=by rw[wf.len];exact k4
   obtain⟨p1',u1,u2,u3⟩:=C6.rx.2 (hd es L) l (by rw[BL tsl];exact k5)
   refine⟨pe,pt,p1',rq,_,_,_,_,_,_,_,_,a,L,hd es L,xs.length,es.length,o,xs++[.ref pn],ys,ring,l,rfl,o2,C6.ht,u1,u3,k6,by omega,fun x hx=>by have:=sm1 x hx;omega,hrq6,hL,fun z=>u2 (.inl z),C6.he,by omega,fun t ht=>?_⟩
   obtain⟨C7,kp7⟩:=C6.fin u1 (ins l (l.idxOf (L/2)+1) es.length) ht (if o=0 then(hd es L,xs.length) else(xs.length,hd es L));rw[yR];have hne:hd es L≠xs.length:=by omega
   have hS:=uB (e:=if o=0 then(hd es L,xs.length) else(xs.length,hd es L)) (w:=W) g part (hrW.trans (congrArg some (lI hL))) rfl (by rw[xl];exact vA) k5
   rw[← xl,(yF o2 hne).1,(yF o2 hne).2]at hS;rw[EO _ _ tsl]at C7;exact kN _ (xs.length+1) _ _ _ _ (kp6.trans kp7) ⟨⟨_,_,_,C7⟩,hS.1,hS.2,by rw[BZ,BE,BM];omega⟩ (by rw[BE];omega) (by rw[BE];exact BI _) (by omega)
  ·refine iteF ?_;refine⟨_,rfl,_,rfl,rfl,_,rfl,ite2 (fun z=>absurd z e1) (fun _=>?_)⟩;have hne:hd es L≠hd es R:=fun z=>e1 (decide_eq_true (by rw[z]))
   have alt:a<b:=by
    rcases Nat.lt_or_ge a b with z | z
    ·exact z
    ·have:a=b:=by omega
     subst this;rw[hL]at hR
     cases hR
     exact absurd rfl hne
   refine⟨_,rfl,_,rfl,_,rfl,_,rfl,rq,_,_,_,rfl,rfl,SqL.of hrq,aO hRV,_,rfl,pt,p2,xs,hd es R,R,es.length,l',rfl,SqL.of C.ht,z1,z3,k6',by omega,fun x hx=>by have:=sm2 x hx;omega,?_⟩
   obtain⟨C1,np2⟩:=C.put z1 (ins l' (l'.idxOf (R/2)+1) es.length);have hrq2:(upd H0 p2 (.lst ((ins l' (l'.idxOf (R/2)+1) es.length).map iV))) rq=some (.lst (ring.map iV)):=by rw[ar (show rq≠p2 from fun z=>qxs (z▸BF z1))];exact hrq
   have kp1:Keep S H0 (upd H0 p2 (.lst ((ins l' (l'.idxOf (R/2)+1) es.length).map iV))):=Keep.upd np2;generalize hG1:upd H0 p2 (.lst ((ins l' (l'.idxOf (R/2)+1) es.length).map iV))=G1 at C1 hrq2 kp1;refine⟨_,rfl,_,rfl,_,_,rfl,rfl,_,rfl,rq,_,rfl,SqL.of hrq2,fun b1 hb1=>?_⟩;rw[cutA];have t1:=aj hb1 (.lst ((ring.take a++[L]).map iV));refine⟨_,rfl,(by show 1<=sizeLine;decide),fun b2 hb2=>?_⟩
   have t2:=aj hb2 (.lst ([2*es.length+o].map iV));refine⟨b1,b2,(ring.take a++[L]).map iV,[2*es.length+o].map iV,rfl,rfl,SqL.of (t2 _ _ ae),SqL.of ae,(by rw[BC,BC,BE,BV];exact Di (aC (by simp;omega))),fun b3 hb3=>?_⟩
   have t3:=aj hb3 (.lst ((ring.take a++[L]).map iV++[2*es.length+o].map iV));have t03:=(t1.trans t2).trans t3;refine⟨_,rfl,_,rfl,_,_,rfl,rfl,_,rfl,rq,_,rfl,SqL.of (t03 _ _ hrq2),fun b4 hb4=>?_⟩;rw[cutB b bl];have t4:=aj hb4 (.lst ((ring.drop (b+1)).map iV));refine⟨b3,b4,_,_,rfl,rfl,SqL.of (t4 _ _ ae),SqL.of ae,(by rw[BE,BC,BC,BE,BV,BC,Cq];exact Di (aC (by simp;omega))),fun b5 hb5=>?_⟩
   have hlist:(ring.take a++[L]).map iV++[2*es.length+o].map iV++(ring.drop (b+1)).map iV=(ring.take a++L::(2*es.length+o)::ring.drop (b+1)).map iV:=by simp
   rw[hlist];have t5:=aj hb5 (.lst ((ring.take a++L::(2*es.length+o)::ring.drop (b+1)).map iV));have t04:=t03.trans t4;have t05:=t04.trans t5;have C5:=C1.same t05;obtain⟨w1,w2,w3,w4,w5,w6⟩:=C1.new (cY t04 hb5);have C6:=C5.updR (nH C5.rz (W:=W) (b:=b5) (by rintro((z | z | z) | z | z);exact w1 z;exact w2 z;exact w3 z;exact w5 z;exact w4 z) ae)
   refine⟨_,rfl,_,rfl,pr,zs,_,W,rfl,rfl,C5.hr,cq (by omega),?_⟩
   have hrq6:=(ar (o:=.lst (zs.set W (.ref b5))) qpr).trans (t05 _ _ hrq2);have kp6:=(kp1.trans (Keep.of t05)).trans (Keep.upd (q:=pr) (o:=.lst (zs.set W (.ref b5))) n6);generalize hG6:upd _ pr (HO.lst (zs.set W (.ref b5)))=G6 at C6 hrq6 kp6;refine⟨_,rfl,.inl ⟨rfl,_,SqL.of C6.hr⟩,_,rfl,_,rfl,_,_,rfl,rfl,_,rfl,_,rfl,_,_,rfl,rfl,_,rfl,rq,_,rfl,SqL.of hrq6,fun b6 hb6=>?_⟩;have cutM:cutV (ring.map iV) (some ((a:Int)+1)) (some ((b:Int)+1))=(((ring.drop (a+1)).take (b-a-1)++[R]).map iV):=by
    rw[show(a:Int)+1=((a+1:Nat):Int) by omega,show(b:Int)+1=((b+1:Nat):Int) by omega,Bs (by rw[rlen];omega) (by rw[rlen];omega),← mid_at hR alt,Eh,Ej,show b+1-(a+1)=b-a by omega]
   rw[cutM];have t6:=aj hb6 (.lst (((ring.drop (a+1)).take (b-a-1)++[R]).map iV));refine⟨_,rfl,(by show 1<=sizeLine;decide),fun b7 hb7=>?_⟩
   have t7:=aj hb7 (.lst ([2*es.length+1-o].map iV));refine⟨b6,b7,((ring.drop (a+1)).take (b-a-1)++[R]).map iV,[2*es.length+1-o].map iV,rfl,rfl,SqL.of (t7 _ _ ae),SqL.of ae,(by rw[BC,BC,BE,BV,Cq];exact Di (aC (by simp;omega))),fun b8 hb8=>?_⟩
   have hlist2:((ring.drop (a+1)).take (b-a-1)++[R]).map iV++[2*es.length+1-o].map iV=((ring.drop (a+1)).take (b-a-1)++[R,2*es.length+1-o]).map iV:=by simp
   rw[hlist2];have t8:=aj hb8 (.lst (((ring.drop (a+1)).take (b-a-1)++[R,2*es.length+1-o]).map iV));have t67:=t6.trans t7;have t68:=t67.trans t8;have C8:=C6.same t68;obtain⟨x1,x2,x3,x4,x5,x6⟩:=C6.new (cY t67 hb8);have C9:=C8.updR (C8.rz.snoc (q:=b8) (by rintro((z | z | z) | z | z);exact x1 z;exact x2 z;exact x3 z;exact x5 z;exact x4 z) ae)
   refine⟨pr,zs.set W (.ref b5),_,rfl,rfl,C8.hr,aC (by rw[BZ];omega),?_⟩
   have hrq9:=(ar (o:=.lst (zs.set W (.ref b5)++[.ref b8])) qpr).trans (t68 _ _ hrq6);have kp9:=(kp6.trans (Keep.of t68)).trans (Keep.upd (q:=pr) (o:=.lst (zs.set W (.ref b5)++[.ref b8])) n6);obtain⟨p1',u1,u2,u3⟩:=C9.rx.2 (hd es L) l (by rw[C2 (Ne.symm hne)];exact k5)
   refine⟨pe,pt,p1',rq,_,_,_,_,_,_,_,_,a,L,hd es L,hd es R,es.length,o,xs,ys,ring,l,rfl,o2,C9.ht,u1,u3,k6,by omega,fun x hx=>by have:=sm1 x hx;omega,hrq9,hL,fun z=>u2 (.inl z),C9.he,by omega,fun t ht=>?_⟩
   obtain⟨C10,kp10⟩:=C9.fin u1 (ins l (l.idxOf (L/2)+1) es.length) ht (if o=0 then(hd es L,hd es R) else(hd es R,hd es L));rw[yR];have hS:=uC (e:=if o=0 then(hd es L,hd es R) else(hd es R,hd es L)) (w:=W) g part (hrW.trans (congrArg some (uD hL hR alt))) rfl rfl hne vA k5 k5';rw[(yF o2 hne).1,(yF o2 hne).2]at hS;rw[List.set_comm _ _ (Ne.symm hne)]at C10;exact kN _ m _ _ _ _ (kp9.trans kp10) ⟨⟨_,_,_,C10⟩,hS.1,hS.2,by rw[BE,BE,BZ,BM,BM];omega⟩ (by rw[BE];omega) (by rw[BE];exact BI _) mP
 have zl:zs.length=rg.length:=C.rz.1;have mf:=zE g;have rg0:0<rg.length:=by
  rcases Nat.eq_zero_or_pos rg.length with z | z
  ·have:=part.all 0 (by omega)
   rw[DX.mp z]at this
   cases this
  ·exact z
 have rgl:rg.length<=2*es.length:=ma part;refine⟨_,rfl,_,_,rfl,rfl,(by show(0:Int)<1000000007;decide),_,_,rfl,rfl,.inr ⟨by decide,by decide⟩,_,_,rfl,rfl,(by show(0:Int)<2147483647;decide),?_⟩
 have o0:(0:Int)<=c%1000000007*48271%2147483647:=Df _ (by decide)
 have o1:c%1000000007*48271%2147483647<2147483647:=CU _ (by decide)
 refine⟨_,rfl,_,_,rfl,rfl,⟨by decide,by decide⟩,_,rfl,pr,zs,rfl,.inl (SqL.of C.hr),_,_,rfl,rfl,(by show(0:Int)<(zs.length:Int);omega),?_⟩
 refine⟨_,rfl,_,_,rfl,rfl,⟨by decide,by decide⟩,_,rfl,pr,zs,rfl,.inl (SqL.of C.hr),_,_,rfl,rfl,⟨(by show(0:Int)<(zs.length:Int);omega),(by show(zs.length:Int)<1073741824;omega +splitDisjunctions)⟩,?_⟩
 dsimp only;generalize c%1000000007*48271%2147483647=M at o0 o1;obtain⟨W,hW,Wl⟩:∃ W:Nat,M/2%(zs.length:Int)=(W:Int)/\W<rg.length:=by
  have h0:=Df (M/2) (show(zs.length:Int)≠0 by omega)
  have h1:=CU (M/2) (show(0:Int)<(zs.length:Int) by omega)
  exact⟨_,(Ea h0).symm,by omega⟩
 obtain⟨R,hR⟩:∃ R:Nat,M/2/(zs.length:Int)=(R:Int):=⟨_,(Ea (Int.ediv_nonneg (by omega) (by omega))).symm⟩
 rw[hW,hR];obtain⟨ring,hring⟩:∃ r,rg[W]?=some r:=⟨_,BA Wl⟩;obtain⟨rq,q1,q2,q3⟩:=C.rz.2 W ring hring;have cr:=part.cr ring (BF hring);have rle:ring.length<=2*es.length:=eQ cr.nd cr.lt;have rlen:(ring.map iV).length=ring.length:=BC _;have rpos:0<ring.length:=by
  obtain⟨d,hd⟩:=cr.ne;exact Ed hd
 have lpos:(0:Int)<((ring.map iV).length:Int):=by omega
 refine⟨_,rfl,_,rfl,pr,zs,_,_,rfl,rfl,SqL.of C.hr,aO q1,?_⟩;refine⟨_,rfl,_,rfl,rq,_,rfl,.inl (SqL.of q3),_,_,rfl,rfl,lpos,?_⟩;dsimp only;obtain⟨a,ha,al⟩:∃ a:Nat,(R:Int)%((ring.map iV).length:Int)=(a:Int)/\a<ring.length:=by
  have h0:=Df (R:Int) (show((ring.map iV).length:Int)≠0 by omega)
  have h1:=CU (R:Int) lpos;exact⟨_,(Ea h0).symm,by omega⟩
 rw[ha];refine⟨_,rfl,?_⟩;refine⟨_,rfl,_,_,rfl,rfl,(by show(0:Int)<2;decide),rfl,_,rfl,ite2 (fun c1=>?_) (fun c1=>?_)⟩
 ·have bpos:(0:Int)<((ring.map iV).length:Int)-(a:Int):=by omega
  refine⟨_,rfl,_,rfl,_,rfl,rq,_,rfl,.inl (SqL.of q3),_,_,rfl,rfl,⟨lpos,(by show((ring.map iV).length:Int)<1073741824;omega +splitDisjunctions)⟩,_,rfl,rq,_,rfl,.inl (SqL.of q3),_,rfl,_,_,rfl,rfl,_,_,rfl,rfl,bpos,_,_,rfl,rfl,?_⟩
  dsimp only;obtain⟨d,hd,dl⟩:∃ d:Nat,(R:Int)/((ring.map iV).length:Int)%(((ring.map iV).length:Int)-(a:Int))=(d:Int)/\a+d<ring.length:=by
   have h0:=Df ((R:Int)/((ring.map iV).length:Int)) (show((ring.map iV).length:Int)-(a:Int)≠0 by omega)
   have h1:=CU ((R:Int)/((ring.map iV).length:Int)) bpos;exact⟨_,(Ea h0).symm,by omega⟩
  rw[hd,show(a:Int)+(d:Int)=((a+d:Nat):Int) by omega]
  exact⟨S,c,pe,pt,pr,rq,P,m,W,a,a+d,_,_,_,_,_,_,_,ys,xs,zs,es,ts,rg,ring,rfl,C,g,part,cnt,few,mP,q1,hring,q3,by omega,dl,fun _=>kk,kk⟩
 ·exact⟨S,c,pe,pt,pr,rq,P,m,W,a,a,_,_,_,_,_,_,_,ys,xs,zs,es,ts,rg,ring,rfl,C,g,part,cnt,few,mP,q1,hring,q3,BI _,al,fun _=>kk,kk⟩
end
noncomputable def uL:Sp:=fun vs H Q _=>∃(c:Int)(m:Nat),vs = [.int c,.int (m:Int)]/\m<=100/\∀(q:Addr)(o:List Nat)(H':Hp),Same H H'->H q=none->H' q=some (.lst (o.map iV))->o.length=m->o.Nodup->(∀ x∈o,x<m)->Q (.ref q) H'
noncomputable def qW(K:BD):Sp:=fun vs H Q _=>∃(a:Addr)(P:Nat)(cs:List Int),vs = [.ref a,.int (P:Int)]/\SqL K H a (cs.map V.int)/\cs.length<=62/\2<=P /\
 ∀(t pe pt pr:Addr)(m:Nat)(es:En)(ts rg:List (List Nat))(H':Hp),Same H H'->H' t=some (.tup [.ref pe,.ref pt,.ref pr])->GwA (fun p=>H p≠none) H' pe pt pr m es ts rg->0<es.length->es.length<=cs.length+1->m<=P->Q (.ref t) H'
theorem xU:Part (fol [(0,1)] [[0],[0]]) 2 [[0,1]]:=by
 refine⟨fun r hr=>?_,by decide,fun d hd=>?_⟩
 ·have:r = [0,1]:=by simpa using hr
  subst this;exact⟨⟨0,[1],rfl,by decide,(by show fol [(0,1)] [[0],[0]] 1=0;decide)⟩,fun d hd=>by simp at hd ⊢;omega,by decide⟩
 ·simp;omega
theorem Keep.same{H H1 H2:Hp}(s:Same H H1)(k:Keep (fun p=>H p≠none) H1 H2):Same H H2:=fun p o h=>k p o (fun z=>by rw[z]at h;cases h) (s p o h)
section
variable{P:Program}{w:World}{K:BD}{mg:Str->Option Value}{base:Heap}
theorem cZ:aJ ["cell","many","order","mixed","k"] ["cell","many"] (ay gQ):=by ac_nf
theorem yc{f:Addr}{fd:FuncData} (F:Fun K "_law_order" "_law_order" gQ f fd) (T:Txt mg):FnOk P w K mg base CX0 1 f fd ["cell","many"] uL:=by
 refine F.ok cZ (fun vs H Q E h=>?_) (fun cdv A outer s H vs Q E hr h=>?_)
 ·obtain⟨c,m,rfl,_⟩:=h;rfl
 obtain⟨c,m,rfl,hm,k⟩:=h
 refine⟨_,(af (av (i:=2) cZ.nd rfl (Or.inl rfl) (bh ag))
   (af (av (i:=3) cZ.nd rfl (Or.inl rfl) (aq aT (pv 0) ai))
   (af (cL PassesOwn.never rfl (bw rfl T.n_range (aa (pv 1) ag)) (aQ (i:=4) cZ.nd rfl (Or.inl rfl)) (af (av (i:=3) cZ.nd rfl (Or.inl rfl) (aq aT (aq aU (aq cN (pv 3) ai) (aq cN ai (pv 4))) ai))
   (ak (aZ (bP BS E3 E2 kj (pv 2) (aa (aq aT (pv 3) (aq aU (pv 4) ai)) (aa (pv 4) ag)))))))
   (ak (aG (pv 2)))))),?_⟩
 refine⟨(by show 0<=sizeLine;decide),fun q hq=>?_⟩
 refine⟨_,rfl,_,_,rfl,rfl,(by show(0:Int)<1000000007;decide),?_⟩
 refine⟨_,rfl,_,rfl,by omega,by omega,cb (n:=(m:Int).toNat) (fun i σ H2=>∃(M:Int),∃ v4 o,σ = [some (.int c),some (.int (m:Int)),some (.ref q),some (.int M),v4]/\Same H H2/\H2 q=some (.lst (o.map iV))/\o.length=i/\o.Nodup/\∀ x∈o,x<i) ⟨_,_,[],rfl,aj hq _,ae,rfl,Et,fun x hx=>nomatch hx⟩ ?_ ?_⟩
 ·rintro i σ H2 hi ⟨M,v4,o,rfl,s2,hq2,ol,nd,lt⟩;rw[Cg]at hi;have e0:(0:Int)+(i:Int)=(i:Int):=DE _;rw[e0];have hlen:(o.map iV).length=i:=by rw[BC];exact ol
  refine⟨_,rfl,_,_,rfl,rfl,.inr ⟨by decide,by decide⟩,_,rfl,_,_,rfl,rfl,.inl ⟨by decide,by decide⟩,_,_,rfl,rfl,_,_,rfl,rfl,(by show(0:Int)<2147483647;decide),?_⟩
  refine⟨_,rfl,.inl ⟨rfl,_,SqL.of hq2⟩,_,rfl,_,rfl,_,_,rfl,rfl,_,_,rfl,rfl,(by show(0:Int)<(i:Int)+1;omega),_,rfl,q,_,_,_,rfl,rfl,hq2,(zv _ _).1,(by rw[hlen];exact(zv _ _).2),aC (by omega),?_⟩
  rw[insV];refine⟨_,_,_,rfl,a8 s2 hq _,ae,by rw[A3,ol],wg nd fun z=>by have:=lt i z;omega,fun x hx=>?_⟩
  rcases pX.mp hx with z | z
  ·omega
  ·have:=lt x z;omega
 ·rintro σ H2 ⟨M,v4,o,rfl,s2,hq2,ol,nd,lt⟩;rw[Cg]at ol lt;exact⟨_,rfl,k q o H2 s2 hq hq2 ol nd lt⟩
theorem da:aJ ["cells","places","ends","turns","rings","cell"] ["cells","places"] (ay gT):=by ac_nf
theorem yg{f fs:Addr}{fd ds:FuncData} (F:Fun K "_law_grown" "_law_grown" gT f fd) (G_law_step:Cal P w K mg base 2 "_law_step" ["cell","ends","turns","rings","places"] yW fs ds):FnOk P w K mg base CX0 3 f fd ["cells","places"] (qW K):=by
 refine F.ok da (fun vs H Q E h=>?_) (fun cdv A outer s H vs Q E hr h=>?_)
 ·obtain⟨a,P,cs,rfl,_⟩:=h;rfl
 obtain⟨a,P,cs,rfl,hS,h62,P2,kk⟩:=h;have hcl:(cs.map V.int).length=cs.length:=BC _
 refine⟨_,(af (av (i:=2) da.nd rfl (Or.inl rfl) (bh (aa (bG (aa ai (aa ai ag))) ag)))
   (af (av (i:=3) da.nd rfl (Or.inl rfl) (bh (aa (bh (aa ai ag)) (aa (bh (aa ai ag)) ag))))
   (af (av (i:=4) da.nd rfl (Or.inl rfl) (bh (aa (bh (aa ai (aa ai ag))) ag)))
   (af (cL PassesOwn.never rfl (cp (pv 0)) (aQ (i:=5) da.nd rfl (Or.inl rfl)) (ak (aZ (aI G_law_step.ok (hr.mono (by decide)) rfl G_law_step.mg G_law_step.kp G_law_step.bn .nil bA (aa (pv 5) (aa (pv 2) (aa (pv 3) (aa (pv 4) (aa (pv 1) ag)))))))))
   (ak (aG (bG (aa (pv 2) (aa (pv 3) (aa (pv 4) ag)))))))))),?_⟩
 refine⟨(by show 2<=sizeLine;decide),fun t0 ht0=>⟨(by show 1<=sizeLine;decide),fun pe hpe=>?_⟩⟩
 refine⟨(by show 1<=sizeLine;decide),fun p0 hp0=>⟨(by show 1<=sizeLine;decide),fun p1 hp1=>⟨(by show 2<=sizeLine;decide),fun pt hpt=>?_⟩⟩⟩
 refine⟨(by show 2<=sizeLine;decide),fun r0 hr0=>⟨(by show 1<=sizeLine;decide),fun pr hpr=>?_⟩⟩
 have s1:=aj ht0 (.tup [.int 0,.int 1]);have s2:=aj hpe (.lst [.ref t0]);have s3:=aj hp0 (.lst [.int 0]);have s4:=aj hp1 (.lst [.int 0]);have s5:=aj hpt (.lst [.ref p0,.ref p1]);have s6:=aj hr0 (.lst [.int 0,.int 1]);have s7:=aj hpr (.lst [.ref r0]);have s12:=s1.trans s2;have s13:=s12.trans s3;have s14:=s13.trans s4;have s15:=s14.trans s5;have s16:=s15.trans s6;have s17:=s16.trans s7;have s37:=((s3.trans s4).trans s5).trans (s6.trans s7);have s47:=(s4.trans s5).trans (s6.trans s7);have s57:=s5.trans (s6.trans s7);have s67:=s6.trans s7;have l_t0:=(s2.trans s37) _ _ (ae (a:=t0) (o:=.tup [.int 0,.int 1]));have l_pe:=s37 _ _ (ae (a:=pe) (o:=.lst [.ref t0]));have l_p0:=s47 _ _ (ae (a:=p0) (o:=.lst [.int 0]));have l_p1:=s57 _ _ (ae (a:=p1) (o:=.lst [.int 0]));have l_pt:=s67 _ _ (ae (a:=pt) (o:=.lst [.ref p0,.ref p1]));have l_r0:=s7 _ _ (ae (a:=r0) (o:=.lst [.int 0,.int 1]));have n_pe:=cY s1 hpe;have n_p0:=cY s12 hp0;have n_p1:=cY s13 hp1;have n_pt:=cY s14 hpt;have n_r0:=cY s15 hr0;have n_pr:=cY s16 hpr;have d1:∀{x:Addr}{G G':Hp}{o:HO},G x=some o->Same G G'->∀{y},G' y=none->y≠x:=fun h s y z e=>by
  rw[e,s _ _ h]at z;cases z
 have e1:p0≠pe:=d1 ae (fun _ _ z=>z) hp0;have e2:p1≠pe:=d1 ae s3 hp1;have e3:pt≠pe:=d1 ae (s3.trans s4) hpt;have e4:r0≠pe:=d1 ae ((s3.trans s4).trans s5) hr0;have e5:pr≠pe:=d1 ae (((s3.trans s4).trans s5).trans s6) hpr;have e6:p1≠p0:=d1 ae (fun _ _ z=>z) hp1;have e7:pt≠p0:=d1 ae s4 hpt;have e8:r0≠p0:=d1 ae (s4.trans s5) hr0;have e9:pr≠p0:=d1 ae ((s4.trans s5).trans s6) hpr;have e10:pt≠p1:=d1 ae (fun _ _ z=>z) hpt;have e11:r0≠p1:=d1 ae s5 hr0;have e12:pr≠p1:=d1 ae (s5.trans s6) hpr;have e13:r0≠pt:=d1 ae (fun _ _ z=>z) hr0;have e14:pr≠pt:=d1 ae s6 hpr;have e15:pr≠r0:=d1 ae (fun _ _ z=>z) hpr;have C0:GwC (fun p=>H p≠none) (upd (upd (upd (upd (upd (upd (upd H t0 (.tup [.int 0,.int 1])) pe (.lst [.ref t0])) p0 (.lst [.int 0])) p1 (.lst [.int 0])) pt (.lst [.ref p0,.ref p1])) r0 (.lst [.int 0,.int 1])) pr (.lst [.ref r0])) pe pt pr [.ref t0] [.ref p0,.ref p1] [.ref r0] [(0,1)] [[0],[0]] [[0,1]]:=by
  refine⟨l_pe,⟨rfl,fun i e z=>?_⟩,l_pt,⟨rfl,fun i l z=>?_⟩,fun i j p z1 z2=>?_,ae,⟨rfl,fun i l z=>?_⟩,⟨Ne.symm e3,Ne.symm e5,Ne.symm e14,fun z=>z n_pe,fun z=>z n_pt,fun z=>z n_pr⟩,fun p sp z=>sp (cY s17 z)⟩
  ·match i,z with
   |0,z=>cases z;exact⟨t0,rfl,l_t0⟩
   |i+1,z=>cases z
  ·match i,z with
   |0,z=>cases z;exact⟨p0,rfl,by rintro(y | y | y | y);exact e1 y;exact e7 y.symm;exact e9 y.symm;exact y n_p0,l_p0⟩
   |1,z=>cases z;exact⟨p1,rfl,by rintro(y | y | y | y);exact e2 y;exact e10 y.symm;exact e12 y.symm;exact y n_p1,l_p1⟩
   |i+2,z=>cases z
  ·match i,z1,j,z2 with
   |0,z1,0,z2=>rfl
   |1,z1,1,z2=>rfl
   |0,z1,1,z2=>cases z1;cases z2;exact absurd rfl e6
   |1,z1,0,z2=>cases z1;cases z2;exact absurd rfl e6
   |i+2,z1,_,_=>cases z1
   |0,_,j+2,z2=>cases z2
   |1,_,j+2,z2=>cases z2
  ·match i,z with
   |0,z =>
    cases z
    refine⟨r0,rfl,?_,l_r0⟩;rintro((y | y | y) | y | y)
    ·exact e4 y
    ·exact e13 y
    ·exact e15 y.symm
    ·have:r0=p0∨r0=p1:=by simpa using y
     rcases this with y | y
     ·exact e8 y
     ·exact e11 y
    ·exact y n_r0
   |i+1,z=>cases z
 refine⟨_,rfl,a,rfl,⟨_,s17.seq hS⟩,gs (xs:=cs.map V.int) (fun i σ H5=>∃ v5 m es ts rg,σ = [some (.ref a),some (.int (P:Int)),some (.ref pe),some (.ref pt),some (.ref pr),v5]/\Same H H5/\GwA (fun p=>H p≠none) H5 pe pt pr m es ts rg/\0<es.length/\es.length<=i+1/\m<=P)
  ⟨_,2,[(0,1)],[[0],[0]],[[0,1]],rfl,s17,⟨⟨_,_,_,C0⟩,gr_two,xU,rfl⟩,Nat.one_pos,BI _,P2⟩ (fun i σ H5 _ ⟨_,_,_,_,_,_,z,_⟩=>z.seq hS) ?_ ?_⟩
 ·rintro i x σ H5 hx ⟨v5,m,es,ts,rg,rfl,s5,gw,e0,ei,mP⟩;rw[BJ]at hx;obtain⟨c,hc,rfl⟩:=Cu.mp hx;have hil:i<cs.length:=(BB.mp hc).1;refine⟨_,rfl,_,rfl,_,rfl,_,rfl,_,rfl,_,c,pe,pt,pr,P,m,es,ts,rg,rfl,gw,e0,by omega,mP,fun m' es' ts' rg' H' kp gw' l1 l2 mP'=>?_⟩
  exact⟨_,m',es',ts',rg',rfl,kp.same s5,gw',by omega,by omega,mP'⟩
 ·rintro σ H5 ⟨v5,m,es,ts,rg,rfl,s5,gw,e0,ei,mP⟩;rw[hcl]at ei;refine⟨_,rfl,_,rfl,_,rfl,(by show 3<=sizeLine;decide),fun t ht=>?_⟩
  have sn:=aj ht (.tup [.ref pe,.ref pt,.ref pr]);obtain⟨⟨ys,xs,zs,C⟩,g,part,cnt⟩:=gw;exact kk t pe pt pr m es ts rg _ (s5.trans sn) ae ⟨⟨ys,xs,zs,C.same sn⟩,g,part,cnt⟩ e0 ei mP
end
noncomputable def cutp(c:Int)(p n:Nat):Nat:=(c%1009*((p:Int)+1)%(n:Int)).toNat
noncomputable def rowN(c:Int)(o2:List Nat)(p:Nat)(l:List Nat):List Nat:=(l.drop (cutp c p (max 1 l.length))++l.take (cutp c p (max 1 l.length))).map (ofL o2)
noncomputable def en2(o1 o2:List Nat)(es:En):En:=(Cz es.length).map fun j=>(ofL o1 ((es[o2.idxOf j]?).getD (0,0)).1,ofL o1 ((es[o2.idxOf j]?).getD (0,0)).2)
noncomputable def ts2(c:Int)(o1 o2:List Nat)(ts:List (List Nat)):List (List Nat):=(Cz ts.length).map fun j=>rowN c o2 (o1.idxOf j) ((ts[o1.idxOf j]?).getD [])
theorem wk{o:List Nat}(nd:o.Nodup){k:Nat}(h:k<o.length):o.idxOf (ofL o k)=k:=by
 have e:o[k]?=some (ofL o k):=by unfold ofL;rw[BA h];rfl
 exact rA nd (qa (BF e)) e
theorem ren_of{m:Nat}{es:En}{ts:List (List Nat)}{c:Int}{o1 o2:List Nat}(w:bC m es ts)(l1:o1.length=m)(n1:o1.Nodup)(b1:∀ x∈o1,x<m)(l2:o2.length=es.length)(n2:o2.Nodup)(b2:∀ x∈o2,x<es.length) :
  Ren m es (en2 o1 o2 es) ts (ts2 c o1 o2 ts) (ofL o1) (ofL o2):=by
 have B1:=rV l1 n1 b1;have B2:=rV l2 n2 b2;refine⟨B1,B2,by simp[en2],by simp[ts2,w.len],fun k e h=>?_,fun p l h=>?_⟩
 ·have hk:=(BB.mp h).1
  unfold en2;rw[BJ,Fs (B2.lt k hk)];show some (ofL o1 ((es[o2.idxOf (ofL o2 k)]?).getD (0,0)).1,ofL o1 ((es[o2.idxOf (ofL o2 k)]?).getD (0,0)).2)=_;rw[wk n2 (by omega),h]
  rfl
 ·have hp:p<m:=by rw[← w.len];exact(BB.mp h).1
  refine⟨l.take (cutp c p (max 1 l.length)),l.drop (cutp c p (max 1 l.length)),(Cj _ _).symm,?_⟩;unfold ts2;rw[BJ,Fs (by rw[w.len];exact B1.lt p hp)]
  show some (rowN c o2 (o1.idxOf (ofL o1 p)) ((ts[o1.idxOf (ofL o1 p)]?).getD []))=_;rw[wk n1 (by omega),h]
  rfl
theorem cut_hi{xs:List V}{c:Nat}(h:c<=xs.length):cutV xs (some (c:Int)) none=xs.drop c:=by
 unfold cutV;rw[HT.sIx_nat,De h];show(xs.drop c).take (xs.length-c)=_;exact Cc (by rw[Cq];exact BI _)
theorem cut_lo{xs:List V}{c:Nat}(h:c<=xs.length):cutV xs none (some (c:Int))=xs.take c:=by
 unfold cutV;rw[HT.sIx_nat,De h];show(xs.drop 0).take (c-0)=_;rw[EI,FI]
structure WebP(H:Hp)(pe pt:Addr)(m:Nat)(es:En)(ts:List (List Nat)):Prop where
 en:∃ ys,H pe=some (.lst ys)/\dB H ys es
 tu:∃ xs,H pt=some (.lst xs)/\d7 H xs ts
 w:bC m es ts
theorem at30{u v x:V}:atI [u,v,x] 0=some u:=rfl
theorem at31{u v x:V}:atI [u,v,x] 1=some v:=rfl
theorem at32{u v x:V}:atI [u,v,x] 2=some x:=rfl
structure TxtM(mg:Str->Option Value):Prop extends Txt mg where
 n_max:mg "max" = none
noncomputable def RingsP(H:Hp)(pr:Addr)(rg:List (List Nat)):Prop:=∃ zs,H pr=some (.lst zs)/\d7 H zs rg
theorem xO{m:Nat}{es es2:En}{ts ts2 rs:List (List Nat)}{π σ:Nat->Nat}(R:Ren m es es2 ts ts2 π σ)(w:bC m es ts)(p:Part (fol es ts) (2*es.length) rs):Part (fol es2 ts2) (2*es2.length) (rs.map (FP (Phi σ))):=by
 have flt:∀ d∈rs.flatten,d<2*es.length:=fun d hd=>by
  obtain⟨r,h1,h2⟩:=CN.mp hd;exact(p.cr r h1).lt d h2
 have hfl:(rs.map (FP (Phi σ))).flatten=rs.flatten.map (Phi σ):=List.map_flatten.symm;refine⟨fun q hq=>?_,?_,fun d hd=>?_⟩
 ·obtain⟨r,hr,rfl⟩:=B9.mp hq;have c:=p.cr r hr;obtain⟨x,l,rfl,ch⟩:=c.ch;refine⟨⟨Phi σ x,l.map (Phi σ),rfl,oA ch fun t ht=>R.fol w (c.lt t ht)⟩,fun d hd=>?_,rp c.nd fun a ha b hb=>xu R.si (c.lt a ha) (c.lt b hb)⟩;obtain⟨t,ht,rfl⟩:=B9.mp hd;have h1:=c.lt t ht;have h2:=R.si.lt (t/2) (by omega)
  rw[R.l1];unfold Phi;omega
 ·rw[hfl];exact rp p.nd fun a ha b hb=>xu R.si (flt a ha) (flt b hb)
 ·rw[R.l1]at hd;obtain⟨k,hk,e⟩:=R.si.sur (d/2) (by omega)
  rw[hfl];refine B9.mpr ⟨2*k+d%2,p.all _ (by omega),?_⟩
  unfold Phi;rw[show(2*k+d%2)/2=k by omega,e]
  omega
noncomputable def yX:Sp:=fun vs H Q _=>∃(t pe pt pr:Addr)(c:Int)(m:Nat)(es:En)(ts rg:List (List Nat)),vs = [.ref t,.int c]/\H t=some (.tup [.ref pe,.ref pt,.ref pr])/\WebP H pe pt m es ts/\RingsP H pr rg/\rg.length<=200/\(∀ r∈rg,r.length<=200/\∀ d∈r,d<2*es.length)/\m<=80/\es.length<=70 /\
 ∀(t' pe' pt' pr':Addr)(es':En)(ts':List (List Nat))(π σ:Nat->Nat)(H':Hp),Same H H'->H' t'=some (.tup [.ref pe',.ref pt',.ref pr'])->WebP H' pe' pt' m es' ts'->Ren m es es' ts ts' π σ->Q (.ref t') H'
section
variable{P:Program}{w:World}{K:BD}{mg:Str->Option Value}{base:Heap}
theorem aM:aJ ["grown","cell","places","ties","ends","k","turns","p","row","cut","rings","ring"] ["grown","cell"] (ay dj):=by ac_nf
theorem ok_ren{f fo:Addr}{fd fdo:FuncData} (F:Fun K "_law_renumbered" "_law_renumbered" dj f fd) (T:TxtM mg) (G_law_order:Cal P w K mg base 1 "_law_order" ["cell","many"] uL fo fdo):FnOk P w K mg base CX0 2 f fd ["grown","cell"] yX:=by
 refine F.ok aM (fun vs H Q E h=>?_) (fun cdv A outer s H vs Q E hr h=>?_)
 ·obtain⟨t,pe,pt,pr,c,m,es,ts,rg,rfl,_⟩:=h;rfl
 obtain⟨t,pe,pt,pr,c,m,es,ts,rg,rfl,ht,⟨⟨ys,hpe,en⟩,⟨xs,hpt,tu⟩,g⟩,⟨us,hpr,ru⟩,rgl,ringp,mf,h31,kk⟩:=h;have w':=g;have hyl:ys.length=es.length:=en.1;have hxl:xs.length=m:=by rw[tu.1,w'.len]
 refine⟨_,(af (av (i:=2) aM.nd rfl (Or.inl rfl) (aI G_law_order.ok (hr.mono (by decide)) rfl G_law_order.mg G_law_order.kp G_law_order.bn .nil bA (aa (pv 1) (aa (au ao (by rfl) T.n_len aN (aa (aL br (pv 0) ai (fun _ _=>rfl)) ag)) ag))))
   (af (av (i:=3) aM.nd rfl (Or.inr rfl) (aI G_law_order.ok (hr.mono (by decide)) rfl G_law_order.mg G_law_order.kp G_law_order.bn .nil bA (aa (aq a9 (pv 1) ai) (aa (au ao (by rfl) T.n_len aN (aa (aL br (pv 0) ai (fun _ _=>rfl)) ag)) ag))))
   (af (av (i:=4) aM.nd rfl (Or.inl rfl) (aK df (by rfl) T.n_list kQ (aa (aL br (pv 0) ai (fun _ _=>rfl)) ag)))
   (af (cL PassesOwn.never rfl (bw rfl T.n_range (aa (au ao (by rfl) T.n_len aN (aa (pv 4) ag)) ag)) (aQ (i:=5) aM.nd rfl (Or.inl rfl)) (ak (dQ (bG (aa (aL aD (pv 2) (aL br (aL aD (aL br (pv 0) ai (fun _ _=>rfl)) (pv 5) (fun _ _=>rfl)) ai (fun _ _=>rfl)) (fun _ _=>rfl)) (aa (aL aD (pv 2) (aL br (aL aD (aL br (pv 0) ai (fun _ _=>rfl)) (pv 5) (fun _ _=>rfl)) ai (fun _ _=>rfl)) (fun _ _=>rfl)) ag))) (dR (pv 4) (aL aD (pv 3) (pv 5) (fun _ _=>rfl)) bL))))
   (af (av (i:=6) aM.nd rfl (Or.inl rfl) (aK df (by rfl) T.n_list kQ (aa (aL br (pv 0) ai (fun _ _=>rfl)) ag)))
   (af (cL PassesOwn.never rfl (bw rfl T.n_range (aa (au ao (by rfl) T.n_len aN (aa (pv 6) ag)) ag)) (aQ (i:=7) aM.nd rfl (Or.inl rfl)) (af (gW (i:=8) rfl rfl rfl rfl aM.nd rfl rfl (fr:=[("ties",3)]) (xs:=["k"]) (dA.of (by rfl) (by decide) (by rfl) (by decide) (by intro p hp;simp only[BG,Ct,or_false]at hp;rcases hp with rfl<;>exact⟨rfl,rfl⟩) (by decide) (by intro p hp;simp only[BG,Ct,or_false]at hp;rcases hp with rfl<;>rfl)) (cp (aL aD (aL br (pv 0) ai (fun _ _=>rfl)) (pv 7) (fun _ _=>rfl))) (fun C ex s H=>(aQ (i:=0) (show(["k","ties"]:List Str).Nodup from by decide) rfl (Or.inl rfl))) (fun C ex s H=>cE) (fun C ex s H ps XE=>(aL (mD (K:=K) rfl) (pv 1) (pv 0) (fun _ _=>rfl))))
   (af (av (i:=9) aM.nd rfl (Or.inl rfl) (aq aT (aq cN (aq aT (pv 1) ai) (aq aU (pv 7) ai)) (au (oE rfl) (by rfl) T.n_max zM (aa ai (aa (au ao (by rfl) T.n_len aN (aa (pv 8) ag)) ag)))))
   (ak (dQ (aq op_cat (cF dJ (pv 8) (cQ (pv 9)) ft) (cF dJ (pv 8) ft (cQ (pv 9)))) (dR (pv 6) (aL aD (pv 2) (pv 7) (fun _ _=>rfl)) bL))))))
   (af (av (i:=10) aM.nd rfl (Or.inl rfl) (bh ag))
   (af (cL PassesOwn.never rfl (cp (aL br (pv 0) ai (fun _ _=>rfl))) (aQ (i:=11) aM.nd rfl (Or.inl rfl)) (ak (aZ (bP BS Ce Cd bg (pv 10) (aa (cG rfl rfl rfl rfl (fr:=[("ties",3)]) (xs:=["dart"]) (dA.of (by rfl) (by decide) (by rfl) (by decide) (by intro p hp;simp only[BG,Ct,or_false]at hp;rcases hp with rfl<;>exact⟨rfl,rfl⟩) (by decide) (by intro p hp;simp only[BG,Ct,or_false]at hp;rcases hp with rfl<;>rfl)) (cp (pv 11)) (fun C ex s H=>(aQ (i:=0) (show(["dart","ties"]:List Str).Nodup from by decide) rfl (Or.inl rfl))) (fun C ex s H=>cE) (fun C ex s H ps XE=>(aq aU (aq cN ai (aL (mD (K:=K) rfl) (pv 1) (aq a9 (pv 0) ai) (fun _ _=>rfl))) (aq aT (pv 0) ai)))) ag)))))
   (ak (aG (bG (aa (pv 4) (aa (pv 6) (aa (pv 10) ag)))))))))))))),?_⟩
 refine⟨_,rfl,_,rfl,t,_,1,_,rfl,rfl,SqT.of ht,at31,pt,xs,rfl,.inl (SqL.of hpt),c,m,(by rw[hxl];rfl),by omega,fun q1 o1 H1 s1 _ h1 l1 n1 b1=>?_⟩
 refine⟨_,rfl,_,_,rfl,rfl,⟨by decide,by decide⟩,_,rfl,t,_,0,_,rfl,rfl,SqT.of (s1 _ _ ht),at30,pe,ys,rfl,.inl (SqL.of (s1 _ _ hpe)),_,es.length,(by rw[hyl];rfl),by omega,fun q2 o2 H2 s2 _ h2' l2 n2 b2=>?_⟩
 have s12:=s1.trans s2;have R:=ren_of (c:=c) w' l1 n1 b1 l2 n2 b2;have h1':=s2 _ _ h1;refine⟨_,rfl,t,_,0,_,rfl,rfl,SqT.of (s12 _ _ ht),at30,pe,ys,rfl,.inl (SqL.of (s12 _ _ hpe)),fun qe hqe=>?_⟩;have s3:=aj hqe (.lst ys);have s13:=s12.trans s3;have h23:=s3 _ _ h2';have h13:=s3 _ _ h1';have get1:∀ k,k<m->(o1.map iV)[k]?=some (iV (ofL o1 k)):=fun k hk=>by
  rw[BJ];unfold ofL;rw[BA (by omega)];rfl
 have get2:∀ k,k<es.length->(o2.map iV)[k]?=some (iV (ofL o2 k)):=fun k hk=>by
  rw[BJ];unfold ofL;rw[BA (by omega)];rfl
 have hqe0:H qe=none:=by
  cases y:H qe with
  |none=>rfl
  |some o=>rw[s12 _ _ y]at hqe;cases hqe
 refine⟨_,rfl,qe,ys,rfl,.inl (SqL.of ae),_,rfl,by omega,by omega,cb (n:=(ys.length:Int).toNat) (fun i σ H5=>∃ v5 v6 v7 v8 v9 v10 v11 zs,σ = [some (.ref t),some (.int c),some (.ref q1),some (.ref q2),some (.ref qe),v5,v6,v7,v8,v9,v10,v11]/\Same H2 H5/\H5 qe=some (.lst zs)/\zs.length=es.length/\∀(k:Nat)(e:Nat×Nat),k<i->es[k]?=some e->∃ p,zs[ofL o2 k]?=some (.ref p)/\H5 p=some (.tup [iV (ofL o1 e.1),iV (ofL o1 e.2)]))
  ⟨_,_,_,_,_,_,_,ys,rfl,s3,ae,hyl,fun k e z=>absurd z (EU _)⟩ ?_ ?_⟩
 ·rintro i σ H5 hi ⟨v5,v6,v7,v8,v9,v10,v11,zs,rfl,s5,hz,zl,inv⟩;rw[Cg,hyl]at hi;have e0:(0:Int)+(i:Int)=(i:Int):=DE _;rw[e0];have s15:=s12.trans s5;obtain⟨e,he⟩:∃ e,es[i]?=some e:=⟨_,BA hi⟩;obtain⟨p,x1,x2⟩:=(en.mono s15).2 i e he;obtain⟨a1,a2,_⟩:=w'.ends e (BF he);have b2':=R.si.lt i hi;refine⟨_,rfl,_,rfl,t,_,0,_,rfl,rfl,SqT.of (s15 _ _ ht),at30,_,rfl,pe,ys,_,_,rfl,rfl,SqL.of (s15 _ _ hpe),aO x1,p,_,0,_,rfl,rfl,SqT.of x2,at0,q1,_,_,_,rfl,rfl,SqL.of (s5 _ _ h1'),aO (get1 _ a1),_,rfl,_,rfl,t,_,0,_,rfl,rfl,SqT.of (s15 _ _ ht),at30,_,rfl,pe,ys,_,_,rfl,rfl,SqL.of (s15 _ _ hpe),aO x1,p,_,1,_,rfl,rfl,SqT.of x2,at1,q1,_,_,_,rfl,rfl,SqL.of (s5 _ _ h1'),aO (get1 _ a2),(by show 2<=sizeLine;decide),fun tt htt=>?_⟩
  have sn:=aj htt (.tup [iV (ofL o1 e.1),iV (ofL o1 e.2)]);refine⟨_,rfl,_,rfl,_,rfl,q2,_,_,_,rfl,rfl,SqL.of (sn _ _ (s5 _ _ h2')),aO (get2 _ hi),qe,zs,_,ofL o2 i,rfl,rfl,sn _ _ hz,cq (by omega),?_⟩
  refine⟨_,_,_,_,_,_,_,_,rfl,a8 (s5.trans sn) hqe _,ae,by rw[BZ];exact zl,fun k e' hk hek=>?_⟩
  by_cases z:k=i
  ·subst z;rw[he]at hek
   cases hek
   exact⟨tt,by rw[CJ,if_pos rfl,if_pos (by omega)],by rw[ar (fun z=>by rw[z,hz]at htt;cases htt)];exact ae⟩
  ·obtain⟨p',u1,u2⟩:=inv k e' (by omega) hek
   have hkl:k<es.length:=(BB.mp hek).1;refine⟨p',by rw[CJ,if_neg (fun y=>z (R.si.inj _ _ hkl hi y.symm))];exact u1,?_⟩
   rw[ar (fun z=>by rw[z,hz]at u2;cases u2)]
   exact sn _ _ u2
 rintro σ H5 ⟨v5,v6,v7,v8,v9,v10,v11,zs,rfl,s5,hz,zl,inv⟩;rw[Cg,hyl]at inv;have s15:=s12.trans s5
 have enN:dB H5 zs (en2 o1 o2 es):=⟨by rw[zl,R.l1],fun j x h=>by
  obtain⟨k,e,rfl,h4,rfl⟩:=R.es' h
  exact inv k e (BB.mp h4).1 h4⟩
 refine⟨_,rfl,t,_,1,_,rfl,rfl,SqT.of (s15 _ _ ht),at31,pt,xs,rfl,.inl (SqL.of (s15 _ _ hpt)),fun qt hqt=>?_⟩;have s6:=aj hqt (.lst xs);have s16:=s15.trans s6
 refine⟨_,rfl,qt,xs,rfl,.inl (SqL.of ae),_,rfl,by omega,by omega,cb (n:=(xs.length:Int).toNat) (fun i σ H7=>∃ v5 v7 v8 v9 v10 v11 ws,σ = [some (.ref t),some (.int c),some (.ref q1),some (.ref q2),some (.ref qe),v5,some (.ref qt),v7,v8,v9,v10,v11]/\Same H5 H7/\H7 qt=some (.lst ws)/\ws.length=m/\∀(p:Nat)(l:List Nat),p<i->ts[p]?=some l->∃ q,ws[ofL o1 p]?=some (.ref q)/\H7 q=some (.lst ((rowN c o2 p l).map iV))/\q≠qt)
  ⟨_,_,_,_,_,_,xs,rfl,s6,ae,hxl,fun k e z=>absurd z (EU _)⟩ ?_ ?_⟩
 ·rintro i σ H7 hi ⟨w5,w7,w8,w9,w10,w11,ws,rfl,s7,hw,wl,inv2⟩;rw[Cg,hxl]at hi;have e0:(0:Int)+(i:Int)=(i:Int):=DE _;rw[e0];have s17:=s15.trans s7;have s27:=s5.trans s7;obtain⟨l,hl⟩:∃ l,ts[i]?=some l:=⟨_,BA (by rw[w'.len];exact hi)⟩
  obtain⟨p,x1,x2⟩:=(tu.mono s17).2 i l hl;have llt:∀ k∈l,k<es.length:=fun k hk=>ko w' hl hk;have lle:l.length<=es.length:=eQ (w'.nd _ _ hl) llt;have llen:(l.map iV).length=l.length:=BC _;refine⟨_,rfl,t,_,1,_,rfl,rfl,SqT.of (s17 _ _ ht),at31,_,rfl,pt,xs,_,_,rfl,rfl,SqL.of (s17 _ _ hpt),aO x1,p,rfl,⟨_,SqL.of x2⟩,cU (K:=K) (xs:=l.map iV) (fun j zs H8=>H8=H7/\zs=((l.map (ofL o2)).map iV).take j) (by rw[llen];exact Di (aC (by omega))) ⟨rfl,rfl⟩ (fun j zs H8 _ z=>z.1▸SqL.of x2) ?_ ?_⟩
  ·rintro j x zs H8 hx ⟨rfl,rfl⟩;rw[BJ]at hx;obtain⟨k,hk,rfl⟩:=Cu.mp hx;refine⟨_,rfl,_,rfl,q2,_,_,_,rfl,rfl,SqL.of (s27 _ _ h2'),aO (get2 _ (llt k (BF hk))),rfl,?_⟩;rw[Cv,BJ,BJ,hk];rfl
  rintro zs H8 hzl ⟨rfl,rfl⟩ D hD;rw[llen,Cc (by rw[BC,BC];exact BI _)]
  have sD:=aj hD (.lst ((l.map (ofL o2)).map iV));have dlen:((l.map (ofL o2)).map iV).length=l.length:=by rw[BC,BC]
  have dpos:(0:Int)<((max 1 l.length:Nat):Int):=by omega
  have mx1:(if(((l.map (ofL o2)).map iV).length:Int) > 1 then(((l.map (ofL o2)).map iV).length:Int) else 1)=((max 1 l.length:Nat):Int):=by rw[dlen];split<;>omega
  have c0:=Df c (show(1009:Int)≠0 by decide)
  have c1:=CU c (show(0:Int)<1009 by decide)
  refine⟨_,rfl,_,_,rfl,rfl,(by show(0:Int)<1009;decide),_,rfl,_,_,rfl,rfl,_,_,rfl,rfl,.inl ⟨by show -(2^64:Int)<c%1009;omega,by show c%1009<(2^64:Int);omega⟩,_,rfl,D,_,rfl,.inl (SqL.of ae),_,_,rfl,_,_,rfl,rfl,(by rw[mx1];exact dpos),?_⟩
  rw[mx1];have u0:=Df (c%1009*((i:Int)+1)) (show((max 1 l.length:Nat):Int)≠0 by omega)
  have u1:=CU (c%1009*((i:Int)+1)) dpos;have hcut:c%1009*((i:Int)+1)%((max 1 l.length:Nat):Int)=((cutp c i (max 1 l.length):Nat):Int):=by
   unfold cutp;exact(Ea u0).symm
  have cle:cutp c i (max 1 l.length)<=((l.map (ofL o2)).map iV).length:=by omega
  refine⟨_,rfl,_,rfl,_,rfl,D,_,rfl,SqL.of ae,fun b1' hb1=>?_⟩;rw[hcut,cut_hi cle];have sB:=aj hb1 (.lst (((l.map (ofL o2)).map iV).drop (cutp c i (max 1 l.length))));refine⟨_,rfl,_,rfl,_,rfl,D,_,rfl,SqL.of (sB _ _ ae),fun b2' hb2=>?_⟩;rw[hcut,cut_lo cle];have sC:=aj hb2 (.lst (((l.map (ofL o2)).map iV).take (cutp c i (max 1 l.length))));refine⟨b1',b2',_,_,rfl,rfl,sC _ _ ae,ae,by rw[Cq,BV];exact Di (aC (by omega)),fun b3 hb3=>?_⟩
  have hrow:((l.map (ofL o2)).map iV).drop (cutp c i (max 1 l.length))++((l.map (ofL o2)).map iV).take (cutp c i (max 1 l.length))=(rowN c o2 i l).map iV:=by
   unfold rowN;rw[Cn,Cn,Ej,Ej,Eh,Eh]
  rw[hrow];have sE:=aj hb3 (.lst ((rowN c o2 i l).map iV));have sAll:=((sD.trans sB).trans sC).trans sE;refine⟨_,rfl,_,rfl,_,rfl,q1,_,_,_,rfl,rfl,SqL.of (sAll _ _ (s27 _ _ h1')),aO (get1 _ hi),qt,ws,_,ofL o1 i,rfl,rfl,sAll _ _ hw,cq (by rw[wl];exact R.pi.lt i hi),?_⟩
  have b3t:b3≠qt:=fun z=>by rw[z,((sD.trans sB).trans sC) _ _ hw]at hb3;cases hb3
  refine⟨_,_,_,_,_,_,_,rfl,a8 (s7.trans sAll) hqt _,ae,by rw[BZ];exact wl,fun p' l' hp' hl'=>?_⟩
  by_cases z:p'=i
  ·subst z;rw[hl]at hl'
   cases hl'
   exact⟨b3,by rw[CJ,if_pos rfl,if_pos (by rw[wl];exact R.pi.lt p' hi)],by rw[ar b3t];exact ae,b3t⟩
  ·obtain⟨q,u1,u2,u3⟩:=inv2 p' l' (by omega) hl'
   have hpl:p'<m:=by rw[← w'.len];exact(BB.mp hl').1
   exact⟨q,by rw[CJ,if_neg (fun y=>z (R.pi.inj _ _ hpl hi y.symm))];exact u1,by rw[ar u3];exact sAll _ _ u2,u3⟩
 rintro σ H7 ⟨w5,w7,w8,w9,w10,w11,ws,rfl,s7,hw,wl,inv2⟩;rw[Cg,hxl]at inv2
 have tuN:d7 H7 ws (ts2 c o1 o2 ts):=⟨by rw[wl,R.l2],fun j L h=>by
  have hj:j<m:=by rw[← R.l2];exact(BB.mp h).1
  obtain⟨p,hp,rfl⟩:=R.pi.sur j hj;obtain⟨l,hl⟩:∃ l,ts[p]?=some l:=⟨_,BA (by rw[w'.len];exact hp)⟩
  obtain⟨q,z1,z2,_⟩:=inv2 p l hp hl;refine⟨q,z1,?_⟩;unfold ts2 at h;rw[BJ,Fs (by rw[w'.len];exact R.pi.lt p hp)]at h
  have h':some (rowN c o2 (o1.idxOf (ofL o1 p)) ((ts[o1.idxOf (ofL o1 p)]?).getD []))=some L:=h;rw[wk n1 (by omega),hl]at h'
  cases h'
  exact z2⟩
 have s17:=s15.trans s7;refine⟨(by show 0<=sizeLine;decide),fun qr hqr=>?_⟩
 have s8:=aj hqr (.lst []);have ru8:=ru.mono (s17.trans s8);have ul:us.length=rg.length:=ru.1;have h2s:=s5.trans s7
 refine⟨_,rfl,t,_,2,_,rfl,rfl,SqT.of ((s17.trans s8) _ _ ht),at32,pr,rfl,⟨us,SqL.of ((s17.trans s8) _ _ hpr)⟩,gs (xs:=us) (fun i σ H9=>∃ v5 v7 v8 v9 v11 ws2,σ = [some (.ref t),some (.int c),some (.ref q1),some (.ref q2),some (.ref qe),v5,some (.ref qt),v7,v8,v9,some (.ref qr),v11]/\Same H7 H9/\H9 qr=some (.lst ws2)/\cj (fun p=>p=qr) H9 ws2 ((rg.map (FP (Phi (ofL o2)))).take i))
  ⟨_,_,_,_,_,[],rfl,s8,ae,⟨rfl,fun i l z=>by simp at z⟩⟩ (fun i σ H9 _ ⟨_,_,_,_,_,_,_,z,_⟩=>SqL.of ((s17.trans z) _ _ hpr)) ?_ ?_⟩
 ·rintro i x σ H9 hx ⟨w5',w7',w8',w9',w11',ws2,rfl,s9,hq9,rx9⟩;have hi:i<rg.length:=by rw[← ul];exact(BB.mp hx).1
  obtain⟨r,hr⟩:∃ r,rg[i]?=some r:=⟨_,BA hi⟩;obtain⟨p,x1,x2⟩:=(ru.mono (s17.trans s9)).2 i r hr;rw[hx]at x1
  cases x1
  obtain⟨rl,rlt⟩:=ringp r (BF hr);have rlen:(r.map iV).length=r.length:=BC _;have wsl:ws2.length=i:=by rw[rx9.1,BV,BC];omega
  refine⟨_,rfl,.inl ⟨rfl,_,SqL.of hq9⟩,_,rfl,p,rfl,⟨_,SqL.of x2⟩,cU (K:=K) (xs:=r.map iV) (fun j zs H8=>H8=H9/\zs=((r.map (Phi (ofL o2))).map iV).take j) (by rw[rlen];exact Di (aC (by omega))) ⟨rfl,rfl⟩ (fun j zs H8 _ z=>z.1▸SqL.of x2) ?_ ?_⟩
  ·rintro j x zs H8 hx ⟨rfl,rfl⟩;rw[BJ]at hx;obtain⟨d,hd,rfl⟩:=Cu.mp hx;have dl:=rlt d (BF hd);have e2:(d:Int)/2=((d/2:Nat):Int):=by omega
   refine⟨_,rfl,_,rfl,_,_,rfl,rfl,⟨by decide,by decide⟩,q2,_,_,_,rfl,rfl,SqL.of ((h2s.trans s9) _ _ h2'),(by rw[e2];exact aO (get2 _ (by omega))),_,_,rfl,rfl,.inl ⟨by decide,by decide⟩,_,rfl,_,_,rfl,rfl,(by show(0:Int)<2;decide),_,_,rfl,rfl,rfl,?_⟩
   rw[Cv,BJ,BJ,hd];have:V.int (2*((ofL o2 (d/2):Nat):Int)+(d:Int)%2)=iV (Phi (ofL o2) d):=by
    unfold Phi iV;congr 1
   simpa[iV] using this
  rintro zs H8 hzl ⟨rfl,rfl⟩ D hD;rw[rlen,Cc (by rw[BC,BC];exact BI _)]
  have sD:=aj hD (.lst ((r.map (Phi (ofL o2))).map iV));have Dq:D≠qr:=fun z=>by rw[z,hq9]at hD;cases hD
  refine⟨qr,ws2,_,rfl,rfl,sD _ _ hq9,aC (by omega),?_⟩
  have hqr7:H7 qr=none:=hqr;refine⟨_,_,_,_,_,_,rfl,a8 (s9.trans sD) hqr7 _,ae,?_⟩;have tk:(rg.map (FP (Phi (ofL o2)))).take (i+1)=(rg.map (FP (Phi (ofL o2)))).take i++[r.map (Phi (ofL o2))]:=by
   rw[Cv,BJ,hr];rfl
  rw[tk];refine cj.mono (cj.snoc (cj.mono rx9 fun b u _ z=>sD _ _ z) Dq ae) fun b u n z=>?_;rw[ar n];exact z
 rintro σ H9 ⟨w5',w7',w8',w9',w11',ws2,rfl,s9,hq9,rx9⟩;rw[ul,Cc (by rw[BC];exact BI _)]at rx9
 have s19:=s17.trans s9;refine⟨_,rfl,_,rfl,_,rfl,(by show 3<=sizeLine;decide),fun t' ht'=>?_⟩
 have sT:=aj ht' (.tup [.ref qe,.ref qt,.ref qr]);have s79:=s9.trans sT;exact kk t' qe qt qr (en2 o1 o2 es) (ts2 c o1 o2 ts) _ _ _ (s19.trans sT) ae ⟨⟨zs,s79 _ _ (s7 _ _ hz),(enN.mono s7).mono s79⟩,⟨ws,s79 _ _ hw,tuN.mono s79⟩,R.turn w'⟩ R
end
theorem andN(a b:Nat):Builtin.bitAnd (a:Int) (b:Int)=((a&&&b:Nat):Int):=by
 rw[PyProof.Rows.bitAnd_pp (EG _) (EG _),Cg,Cg]
theorem orN(a b:Nat):Builtin.bitOr (a:Int) (b:Int)=((a|||b:Nat):Int):=by
 rw[PyProof.Rows.bitOr_and,andN];have q:=PyProof.Rows.nat_or_add_and a b;omega
theorem shlN(p:Nat):(1:Int)*2^((p:Nat):Int).toNat=((2^p:Nat):Int):=by
 rw[Int.one_mul,Cg,Int.natCast_pow];rfl
theorem xB{M p q:Nat}:(M&&&(2^p|||2^q)=0↔M.testBit p=false/\M.testBit q=false)/\(M|||(2^p|||2^q)=M->M.testBit p=true/\M.testBit q=true):=by
 have b1:∀ i,(2^p|||2^q).testBit i=(decide (p=i)||decide (q=i)):=fun i=>by rw[E1,ET,ET]
 refine⟨⟨fun h=>?_,fun⟨h1,h2⟩=>?_⟩,fun h=>?_⟩
 ·have h1:=congrArg (fun z=>FW z p) h
  have h2:=congrArg (fun z=>FW z q) h;simp only[Nat.testBit_and,b1,Nat.zero_testBit]at h1 h2;constructor
  ·simpa using h1
  ·simpa using h2
 ·refine Nat.eq_of_testBit_eq fun i=>?_;rw[Nat.testBit_and,b1,Nat.zero_testBit];by_cases z1:p=i
  ·subst z1;rw[h1];rfl
  ·by_cases z2:q=i
   ·subst z2;rw[h2];rfl
   ·simp[z1,z2]
 ·have h1:=congrArg (fun z=>FW z p) h
  have h2:=congrArg (fun z=>FW z q) h;simp only[E1 (x:=M),b1]at h1 h2;constructor
  ·simpa using h1.symm
  ·simpa using h2.symm
theorem wu{M m:Nat}(h:M<2^m)(k:∀ p,p<m->M.testBit p=true):M=2^m-1:=by
 refine Nat.eq_of_testBit_eq fun i=>?_;rw[FV];by_cases z:i<m
 ·rw[k i z,decide_eq_true z]
 ·rw[decide_eq_false z];exact Nat.testBit_lt_two_pow (Cb h (Nat.pow_le_pow_right (by decide) (by omega)))
noncomputable def Low(es:En)(M:Nat):Prop:=∀ S:Nat->Prop,(∀ e∈es,S e.1↔S e.2)->S 0->∀ x,M.testBit x=true->S x
theorem AV{es:En}{M:Nat}{e:Nat×Nat}(h:Low es M)(he:e∈es)(n:¬ (M.testBit e.1=false/\M.testBit e.2=false)):Low es (M|||(2^e.1|||2^e.2)):=fun S cS s0 x hx=>by
 have old:=h S cS s0;have both:S e.1/\S e.2:=by
  have k:=cS e he;by_cases z:M.testBit e.1=true
  ·exact⟨old _ z,k.mp (old _ z)⟩
  ·by_cases y:M.testBit e.2=true
   ·exact⟨k.mpr (old _ y),old _ y⟩
   ·exact absurd ⟨FH.mpr z,FH.mpr y⟩ n
 rw[E1,E1,ET,ET]at hx;rcases Bool.or_eq_true_iff.mp hx with z | z
 ·exact old x z
 ·rcases Bool.or_eq_true_iff.mp z with z | z
  ·rw[← of_decide_eq_true z];exact both.1
  ·rw[← of_decide_eq_true z];exact both.2
noncomputable def uI(K:BD):Sp:=fun vs H Q _=>∃(a:Addr)(ys:List V)(m:Nat)(es:En),vs = [.int 0,.ref a]/\SqL K H a ys/\dB H ys es/\(∀ e∈es,e.1<m/\e.2<m)/\1<=m/\m<=42/\∀ M:Nat,M<2^m->M.testBit 0=true->(∀ e∈es,M.testBit e.1=M.testBit e.2)->Low es M->Q (.int (M:Int)) H
section
variable{P:Program}{w:World}{K:BD}{mg:Str->Option Value}{base:Heap}
theorem cv:aJ ["start","pairs","mask","ahead","one","two","ends"] ["start","pairs"] (ay j4):=by ac_nf
theorem sI{f:Addr}{fd:FuncData} (F:Fun K "reached" "reached" j4 f fd):FnOk P w K mg base CX0 1 f fd ["start","pairs"] (uI K):=by
 refine F.ok cv (fun vs H Q E h=>?_) (fun cdv A outer s H vs Q E hr h=>?_)
 ·obtain⟨a,ys,m,es,rfl,_⟩:=h;rfl
 obtain⟨a,ys,m,es,rfl,hS,hE,g,m2,m40,kk⟩:=h
 refine⟨_,(af (av (i:=2) cv.nd rfl (Or.inl rfl) (aq rj ai (pv 0)))
   (af (av (i:=3) cv.nd rfl (Or.inl rfl) ai)
   (af (lW PassesOwn.never (ax jB (pv 2) (pv 3) (aA _)) (af (av (i:=3) cv.nd rfl (Or.inl rfl) (pv 2))
   (ak (cL PassesOwn.never rfl (cp (pv 1)) (q8 rfl (cW (aQ (i:=4) cv.nd rfl (Or.inl rfl)) (cW (aQ (i:=5) cv.nd rfl (Or.inl rfl)) lZ))) (af (av (i:=6) cv.nd rfl (Or.inl rfl) (aq op_or (aq rj ai (pv 4)) (aq rj ai (pv 5))))
   (ak (bf (ax jB (aq op_and (pv 2) (pv 6)) ai (aA _)) (ak (av (i:=2) cv.nd rfl (Or.inl rfl) (aq op_or (pv 2) (pv 6)))) aF)))))))
   (ak (aG (pv 2)))))),?_⟩
 refine⟨_,rfl,_,_,rfl,rfl,⟨by decide,by decide,by decide⟩,?_⟩
 have p2:∀ p,p<m->2^p<2^m:=fun p hp=>Nat.pow_lt_pow_right (by decide) hp
 refine qK (fun σ H2=>∃(M Ah:Nat),∃ v4 v5 v6,H2=H/\σ = [some (.int 0),some (.ref a),some (.int (M:Int)),some (.int (Ah:Int)),v4,v5,v6]/\M.testBit 0=true/\M<2^m/\Low es M/\(M=Ah->∀ e∈es,M.testBit e.1=M.testBit e.2))
  (fun σ _=>match σ with | [_,_,some (.int M),some (.int Ah),_,_,_]=>2*((2^m:Nat)-M).toNat+(if M=Ah then 0 else 1) | _=>0) ⟨1,0,_,_,_,rfl,rfl,by decide,Nat.one_lt_two_pow (by omega),(fun S _ s0 x hx=>by
   have:x=0:=by
    cases x with
    |zero=>rfl
    |succ x=>rw[Nat.testBit_succ]at hx;simp at hx
   rw[this];exact s0),fun z=>absurd z (by decide)⟩ ?_ ?_
 ·rintro σ H2 ⟨M,Ah,v4,v5,v6,rfl,rfl,b0,hM,lw,cl⟩;refine⟨_,rfl,_,rfl,rfl,_,rfl,?_⟩;refine ite2 (fun c=>?_) (fun c=>?_)
  ·have c':M≠Ah:=fun z=>by
    rw[decide_eq_true (show V.int (M:Int)=V.int (Ah:Int) by rw[z])]at c
    cases c
   refine⟨_,rfl,?_⟩;refine⟨_,rfl,a,rfl,⟨_,hS⟩,gs (K:=K) (xs:=ys) (fun i σ H3=>∃(M':Nat),∃ v4 v5 v6,H3=H2/\σ = [some (.int 0),some (.ref a),some (.int (M':Int)),some (.int (M:Int)),v4,v5,v6]/\M'.testBit 0=true/\M'<2^m/\Low es M'/\M<=M'/\(M'=M->∀(j:Nat)(e:Nat×Nat),j<i->es[j]?=some e->M.testBit e.1=M.testBit e.2)) ⟨M,_,_,_,rfl,rfl,b0,hM,lw,BI _,fun _ j e z=>absurd z (EU _)⟩ (fun i σ H3 _ ⟨_,_,_,_,z,_⟩=>z▸hS) ?_ ?_⟩
   ·rintro i x σ H3 hx ⟨M',v4,v5,v6,rfl,rfl,b0',hM',lw',hle,cl'⟩;have hi:i<es.length:=by rw[← hE.1];exact(BB.mp hx).1
    obtain⟨e,he⟩:∃ e,es[i]?=some e:=⟨_,BA hi⟩;obtain⟨p,x1,x2⟩:=hE.2 i e he;rw[hx]at x1
    cases x1
    obtain⟨e1,e2⟩:=g e (BF he);obtain⟨t1,t2⟩:=xB (M:=M') (p:=e.1) (q:=e.2);refine⟨p,_,rfl,SqT.of x2,rfl,_,_,rfl,_,_,rfl,rfl,?_⟩;refine⟨_,rfl,_,_,rfl,rfl,⟨by omega,by omega,by decide⟩,_,rfl,_,_,rfl,rfl,⟨by omega,by omega,by decide⟩,_,_,rfl,rfl,?_⟩
    have eo:Builtin.bitOr (1*2^((e.1:Nat):Int).toNat) (1*2^((e.2:Nat):Int).toNat)=((2^e.1|||2^e.2:Nat):Int):=by rw[shlN,shlN,orN]
    refine⟨_,rfl,_,rfl,_,_,rfl,rfl,rfl,_,rfl,?_⟩;have step:∀ M'':Nat,M'<=M''->(M''=M'->M'.testBit e.1=M'.testBit e.2)->M''=M->∀(j:Nat)(x:Nat×Nat),j<i+1->es[j]?=some x->M.testBit x.1=M.testBit x.2:=fun M'' h1 h2 h3 j x hj hx'=>by
     have e3:M'=M:=by omega
     by_cases z:j=i
     ·subst z;rw[he]at hx'
      cases hx'
      have:=h2 (by omega)
      rwa[e3]at this
     ·exact cl' e3 j x (by omega) hx'
    refine ite2 (fun c=>?_) (fun c=>?_)
    ·refine⟨_,rfl,_,rfl,_,_,rfl,rfl,?_⟩;refine⟨M'|||(2^e.1|||2^e.2),some (iV e.1),some (iV e.2),some (V.int (Builtin.bitOr (1*2^((e.1:Nat):Int).toNat) (1*2^((e.2:Nat):Int).toNat))),rfl,?_,?_,Nat.or_lt_two_pow hM' (Nat.or_lt_two_pow (p2 _ e1) (p2 _ e2)),?_,Co hle Nat.left_le_or,step _ Nat.left_le_or fun z=>?_⟩
     ·show[some (V.int 0),some (V.ref a),some (V.int (Builtin.bitOr (M':Int) (Builtin.bitOr (1*2^((e.1:Nat):Int).toNat) (1*2^((e.2:Nat):Int).toNat)))),some (V.int (M:Int)),some (iV e.1),some (iV e.2),some (V.int (Builtin.bitOr (1*2^((e.1:Nat):Int).toNat) (1*2^((e.2:Nat):Int).toNat)))]=_;rw[eo,orN]
     ·rw[E1,b0'];rfl
     ·refine AV lw' (BF he) fun z=>?_;have z2:=t1.mpr z;have c2:(!decide (V.int (Builtin.bitAnd (M':Int) (Builtin.bitOr (1*2^((e.1:Nat):Int).toNat) (1*2^((e.2:Nat):Int).toNat)))=V.int 0))=true:=c;rw[eo,andN,z2]at c2;exact absurd c2 (by decide)
     ·obtain⟨u1,u2⟩:=t2 z;rw[u1,u2]
    ·refine⟨M',_,_,_,rfl,rfl,b0',hM',lw',hle,step M' (BI _) fun _=>?_⟩;have c3:M'&&&(2^e.1|||2^e.2)=0:=by
      by_cases z:M'&&&(2^e.1|||2^e.2)=0
      ·exact z
      ·refine absurd ?_ c;rw[decide_eq_false (fun y=>z ?_)]
       ·rfl
       ·have y':=V.int.inj y
        rw[eo,andN]at y';omega
     obtain⟨u1,u2⟩:=t1.mp c3;rw[u1,u2]
   ·rintro σ H3 ⟨M',v4,v5,v6,rfl,rfl,b0',hM',lw',hle,cl'⟩;rw[hE.1]at cl';refine⟨⟨M',M,_,_,_,rfl,rfl,b0',hM',lw',fun z e he=>?_⟩,?_⟩
    ·obtain⟨j,hj⟩:=Cr.mp he;have:=cl' z j e (BB.mp hj).1 hj;rw[z];exact this
    ·show 2*(((2^m:Nat):Int)-(M':Int)).toNat+(if(M':Int)=(M:Int) then 0 else 1)<2*(((2^m:Nat):Int)-(M:Int)).toNat+(if(M:Int)=(Ah:Int) then 0 else 1);rw[if_neg (show ¬ (M:Int)=(Ah:Int) from fun z=>c' (by omega))]
     have hMi:(M':Int)<((2^m:Nat):Int):=by exact_mod_cast hM'
     have hMj:(M:Int)<=(M':Int):=by omega
     generalize ((2^m:Nat):Int)=Z at hMi ⊢;split<;>omega
  ·have c':M=Ah:=by
    by_cases z:M=Ah
    ·exact z
    ·exact absurd (by rw[decide_eq_false (fun y=>z (by have:=V.int.inj y;omega))];rfl) c
   exact⟨_,rfl,kk M hM b0 (cl c') lw⟩
 ·rintro σ H2 Q1 Q2 hi ⟨v',e,b',e2,z1,c',e3,q'⟩;exact⟨v',e,b',e2,z1,c',e3,hi _ _ q'⟩
end
theorem lA:∀{a b:List Int},a.Perm b->a.Pairwise (·<=·)->b.Pairwise (·<=·)->a=b
 |[],b,h,_,_=>(List.nil_perm.mp h).symm▸rfl
 |x::a,[],h,_,_=>absurd h.length_eq (by simp)
 |x::a,y::b,h,pa,pb=>by
  obtain⟨a1,a2⟩:=Fw.mp pa;obtain⟨b1,b2⟩:=Fw.mp pb;have h1:x<=y:=by
   rcases BG.mp (h.mem_iff.mpr (BQ ..):y∈x::a)with z | z
   ·rw[z];exact Eb _
   ·exact a1 y z
  have h2:y<=x:=by
   rcases BG.mp (h.mem_iff.mp (BQ ..):x∈y::b)with z | z
   ·rw[z];exact Eb _
   ·exact b1 x z
  have e:x=y:=Int.le_antisymm h1 h2;subst e;rw[lA (List.Perm.cons_inv h) a2 b2]
noncomputable def cI(l:List Nat):List Int:=l.map fun(p:Nat)=>((p:Nat):Int)
theorem cI_V(l:List Nat):(cI l).map V.int=l.map iV:=by unfold cI;rw[Dj];rfl
theorem Af{l r:List Nat}{out:List Int}(hp:out.Perm (cI l))(hs:out.Pairwise (·<=·))(nl:l.Nodup)(pr:r.Pairwise (· < ·))(hm:∀ t,t∈l↔t∈r):out=cI r:=by
 have nr:r.Nodup:=pr.imp fun h=>CA h;have q:(cI l).Perm (cI r):=((F1 nl nr).mpr hm).map _;refine lA (hp.trans q) hs ?_;unfold cI;exact List.Pairwise.map _ (fun a b h=>by omega) pr
theorem wj{l:List Nat}{n:Nat}:ins l l.length n=l++[n]:=by
 unfold ins;rw[CQ,List.drop_length]
theorem wG{S:Addr->Prop}{H:Hp}{xs:List V}{ts:List (List Nat)}{q:Addr}(h:cj S H xs ts)(D:Dist xs)(hq:H q=none):Dist (xs++[.ref q]):=by
 have old:∀(j:Nat)(p:Addr),j<xs.length->(xs++[V.ref q])[j]?=some (.ref p)->xs[j]?=some (.ref p)/\p≠q:=fun j p hj e=>by
  rw[BL hj]at e;obtain⟨p',a1,_,a3⟩:=h.2 j _ (BA (by rw[← h.1];exact hj))
  rw[e]at a1
  cases a1
  exact⟨e,aV a3 hq⟩
 have new:∀(j:Nat)(p:Addr),¬ j<xs.length->(xs++[V.ref q])[j]?=some (.ref p)->j=xs.length/\p=q:=fun j p hj e=>by
  have:=(BB.mp e).1;rw[BE,BM]at this;have hj2:j=xs.length:=by omega
  subst hj2;rw[BH (BI _),Ck]at e
  cases e
  exact⟨rfl,rfl⟩
 intro j k p e1 e2;by_cases hj:j<xs.length
 ·obtain⟨u1,u2⟩:=old j p hj e1;by_cases hk:k<xs.length
  ·exact D j k p u1 (old k p hk e2).1
  ·exact absurd (new k p hk e2).2 u2
 ·obtain⟨u1,u2⟩:=new j p hj e1;by_cases hk:k<xs.length
  ·exact absurd u2 (old k p hk e2).2
  ·rw[u1,(new k p hk e2).1]
theorem qD{X:Cx}{K:BD}(h:X.K=K):gg X (.builtin "sorted") (zk K):=h▸t9
structure TxtG(mg:Str->Option Value)(BT BU BP NF:Addr):Prop extends Txt mg where
 g_BadTie:mg "BadTie" = some (.ref BT)
 g_BadTurns:mg "BadTurns" = some (.ref BU)
 g_Parted:mg "Parted" = some (.ref BP)
 g_NotFlat:mg "NotFlat" = some (.ref NF)
noncomputable def ig(H:Hp)(zs:List V)(js:List (List Int)):Prop:=zs.length=js.length/\∀(i:Nat)(l:List Int),js[i]?=some l->∃ p,zs[i]?=some (.ref p)/\H p=some (.lst (l.map V.int))
theorem ig.mono{H H':Hp}{zs:List V}{js:List (List Int)}(h:ig H zs js)(s:Same H H'):ig H' zs js:=⟨h.1,fun i l e=>by
 obtain⟨p,a,b⟩:=h.2 i l e
 exact⟨p,a,s _ _ b⟩⟩
theorem ig.snoc{H:Hp}{zs:List V}{js:List (List Int)}{p:Addr}{l:List Int}(h:ig H zs js)(e:H p=some (.lst (l.map V.int))):ig H (zs++[.ref p]) (js++[l]):=by
 refine⟨by rw[BE,BE,h.1];rfl,fun j x hx=>?_⟩
 by_cases c:j<js.length
 ·rw[BL c]at hx;obtain⟨q,a,b⟩:=h.2 j x hx;exact⟨q,by rw[BL (by rw[h.1];exact c)];exact a,b⟩
 ·have e2:j=js.length:=by
   have:=(BB.mp hx).1;rw[BE,BM]at this;omega
  subst e2;rw[BH (BI _),Ck]at hx
  cases hx
  exact⟨p,by rw[← h.1,BH (BI _),Ck];rfl,e⟩
noncomputable def dI(js:List (List Int)):PyData:=.list (js.map fun l=>PyData.list (l.map PyData.int))
theorem ig.rd{K:BD}{H:Hp}{a:Addr}{zs:List V}{js:List (List Int)}(h:SqL K H a zs)(r:ig H zs js):RdD K H (.ref a) (dI js):=by
 refine RdD.lst h (by rw[BC];exact r.1) fun i x d e1 e2=>?_
 rw[BJ]at e2;obtain⟨l,hl,rfl⟩:=Cu.mp e2;obtain⟨p,a1,a2⟩:=r.2 i l hl;rw[e1]at a1
 cases a1
 refine RdD.lst (SqL.of a2) (by rw[BC,BC]) fun j y e q1 q2=>?_
 rw[BJ]at q1 q2
 cases z:l[j]? with
 |none=>rw[z]at q1;cases q1
 |some n=>rw[z]at q1 q2;cases q1;cases q2;exact .int _
theorem oy(js:List (List Int)):SeqAt.shaped (dI js)=true:=by
 refine jX fun d hd=>?_;obtain⟨l,_,rfl⟩:=B9.mp hd;have a:PyData.canLayAll0 (l.map PyData.int)=true:=gc fun d hd=>by
  obtain⟨p,_,rfl⟩:=B9.mp hd;simp[PyData.canLay0]
 have b:PyData.depthAll (l.map PyData.int)<=2:=h9 fun d hd=>by
  obtain⟨p,_,rfl⟩:=B9.mp hd;simp[PyData.depth]
 constructor
 ·simp[PyData.canLay0,a]
 ·simp only[PyData.depth];omega
theorem eqv_dI:∀ a b:List (List Int),PyData.eqv (dI a) (dI b)=decide (a=b):=fun a b=>by
 have all:∀ a b:List (List Int),PyData.eqvAll (a.map fun l=>PyData.list (l.map PyData.int)) (b.map fun l=>PyData.list (l.map PyData.int))=decide (a=b):=fun a=>by
  induction a with
  |nil =>
   intro b
   cases b with
   |nil=>simp[PyData.eqvAll]
   |cons y b=>simp[PyData.eqvAll]
  |cons x a ih =>
   intro b
   cases b with
   |nil=>simp[PyData.eqvAll]
   |cons y b =>
    rw[BW,BW];simp only[PyData.eqvAll,rN,ih b];by_cases h:x=y
    ·by_cases h2:a=b
     ·simp[h,h2]
     ·simp[h,h2]
    ·simp[h]
 rw[← all];simp only[dI,PyData.eqv]
noncomputable def Mt(m:Nat)(es:En)(js:List (List Int)):Prop:=∃ rows,bC m es rows/\js.length=rows.length/\∀(i:Nat)(l:List Int)(r:List Nat),js[i]?=some l->rows[i]?=some r->l.Perm (cI r)
noncomputable def uK(K:BD)(BT:Addr):Sp:=fun vs H Q E=>∃(a:Addr)(xs:List V)(m:Nat)(es:En),vs = [.int (m:Int),.ref a]/\SqL K H a xs/\cJ K H xs es/\((∀ e∈es,e.1<m/\e.2<m)->Q .non H)/\((¬ ∀ e∈es,e.1<m/\e.2<m)->E (.ref BT) none H)
noncomputable def qT(K:BD)(BU:Addr):Sp:=fun vs H Q E=>∃(a b:Addr)(xs zs:List V)(m:Nat)(es:En)(js:List (List Int)),vs = [.int (m:Int),.ref a,.ref b]/\SqL K H a xs/\cJ K H xs es/\SqL K H b zs/\ig H zs js/\(∀ e∈es,e.1<m/\e.2<m/\e.1≠e.2)/\es.length<=82/\m<=80/\js.length<=90/\∀ H',Same H H'->(Mt m es js->Q .non H')/\(¬ Mt m es js->E (.ref BU) none H')
noncomputable def uJ(K:BD)(BP:Addr):Sp:=fun vs H Q E=>∃(a:Addr)(xs:List V)(m:Nat)(es:En),vs = [.int (m:Int),.ref a]/\SqL K H a xs/\cJ K H xs es/\(∀ e∈es,e.1<m/\e.2<m)/\1<=m/\m<=42/\es.length<=82/\∀ M:Nat,M<2^m->M.testBit 0=true->(∀ e∈es,M.testBit e.1=M.testBit e.2)->Low es M->∀ H',Same H H'->(M=2^m-1->Q .non H')/\(M≠2^m-1->E (.ref BP) none H')
section
variable{P:Program}{w:World}{K:BD}{mg:Str->Option Value}{base:Heap}
theorem gu:aJ ["many","ties","tie"] ["many","ties"] (ay fi):=by ac_nf
theorem ya{f BT BU BP NF:Addr}{fd:FuncData} (F:Fun K "refuse_ends" "refuse_ends" fi f fd) (T:TxtG mg BT BU BP NF) (ecT:ExC K BT):FnOk P w K mg base (CXd P w) 1 f fd ["many","ties"] (uK K BT):=by
 refine F.okD gu (fun vs H Q E h=>?_) (fun cdv A outer s H vs Q E hr h=>?_)
 ·obtain⟨a,xs,m,es,rfl,_⟩:=h;rfl
 obtain⟨a,xs,m,es,rfl,hS,hT,k,ke⟩:=h;have one:(1:Nat)<=sizeLine:=by decide
 refine⟨_,(ak (cL PassesOwn.leaving rfl (cp (pv 1)) (aQ (i:=2) gu.nd rfl (Or.inl rfl)) (ak (bf (PW.pt (iA (ax xX (gA (pv 2) rfl) (pv 0) (aA _)) (iz (ax xX (gA (pv 2) rfl) (pv 0) (aA _))))) (ak (dP ecT T.g_BadTie rfl bp rfl rfl (aa aE ag))) aF)))),?_⟩;refine⟨_,rfl,a,rfl,⟨_,hS⟩,gs (K:=K) (xs:=xs) (fun i σ H2=>∃ v2,σ = [some (.int (m:Int)),some (.ref a),v2]/\H2=H/\∀ e∈es.take i,e.1<m/\e.2<m) ⟨_,rfl,rfl,fun e he=>by rw[F4]at he;cases he⟩ (fun i σ H2 _ ⟨_,_,z,_⟩=>z▸hS) ?_ ?_⟩
 ·rintro i x σ H2 hx ⟨v2,rfl,rfl,al⟩;have hi:i<es.length:=by rw[← hT.1];exact(BB.mp hx).1
  obtain⟨e,he⟩:∃ e,es[i]?=some e:=⟨_,BA hi⟩;obtain⟨p,C,dx,st,x1,x2,x3⟩:=hT.2 i e he;rw[hx]at x1
  cases x1
  refine⟨_,rfl,p,C,dx,_,_,rfl,x2,x3.cl,x3.n1,lu _ _ _,_,rfl,_,_,rfl,rfl,_,rfl,ite2 (fun c=>?_) (fun c=>?_)⟩
  ·have c':(e.1:Int) ≥ (m:Int):=of_decide_eq_true c
   exact iteT ⟨one,ke fun z=>by have:=(z e (BF he)).1;omega⟩
  have c1:¬ (e.1:Int) ≥ (m:Int):=fun z=>c (decide_eq_true z);refine⟨_,rfl,p,C,dx,_,_,rfl,x2,x3.cl,x3.n2,qO _ _ _,_,rfl,_,_,rfl,rfl,_,rfl,ite2 (fun c=>?_) (fun c=>?_)⟩
  ·have c':(e.2:Int) ≥ (m:Int):=of_decide_eq_true c
   exact⟨one,ke fun z=>by have:=(z e (BF he)).2;omega⟩
  have c2:¬ (e.2:Int) ≥ (m:Int):=fun z=>c (decide_eq_true z);refine⟨_,rfl,rfl,fun x hx'=>?_⟩;rw[Cv,he]at hx';rcases BN.mp hx' with z | z
  ·exact al x z
  ·rw[BR.mp z];exact⟨by omega,by omega⟩
 ·rintro σ H2 ⟨v2,rfl,rfl,al⟩;rw[hT.1,CQ]at al;exact k al
theorem cD:aJ ["many","ties","turns","ending","number","tie"] ["many","ties","turns"] (ay eG):=by ac_nf
theorem vE{f BT BU BP NF:Addr}{fd:FuncData} (F:Fun K "refuse_turns" "refuse_turns" eG f fd) (T:TxtG mg BT BU BP NF) (ecU:ExC K BU):FnOk P w K mg base (CXd P w) 1 f fd ["many","ties","turns"] (qT K BU):=by
 refine F.okD cD (fun vs H Q E h=>?_) (fun cdv A outer s H vs Q E hr h=>?_)
 ·obtain⟨a,b,xs,zs,m,es,js,rfl,_⟩:=h;rfl
 obtain⟨a,b,xs,zs,m,es,js,rfl,hS,hT,hB,hR,w',few,m40,jl,kk⟩:=h;have hu64:=hr.units
 refine⟨_,(af (gW (i:=3) rfl rfl rfl rfl cD.nd rfl rfl (fr:=[]) (xs:=["place"]) (dA.of (by rfl) (by decide) (by rfl) (by decide) (fun p hp=>nomatch hp) (by decide) (fun p hp=>nomatch hp)) (bw rfl T.n_range (aa (pv 0) ag)) (fun C ex s H=>(aQ (i:=0) (show(["place"]:List Str).Nodup from by decide) rfl (Or.inl rfl))) (fun C ex s H=>cE) (fun C ex s H ps XE=>(bh ag)))
   (af (cL PassesOwn.leaving rfl (vn rfl T.n_enumerate (aa (pv 1) ag)) (q8 rfl (cW (aQ (i:=4) cD.nd rfl (Or.inl rfl)) (cW (aQ (i:=5) cD.nd rfl (Or.inl rfl)) lZ))) (af (aZ (bP BS Ce Cd bg (aL aD (pv 3) (gA (pv 5) rfl) (fun _ _=>rfl)) (aa (pv 4) ag)))
   (ak (aZ (bP BS Ce Cd bg (aL aD (pv 3) (gA (pv 5) rfl) (fun _ _=>rfl)) (aa (pv 4) ag))))))
   (ak (bf (ax (op_neG hu64) (cG rfl rfl rfl rfl (fr:=[]) (xs:=["about"]) (dA.of (by rfl) (by decide) (by rfl) (by decide) (fun p hp=>nomatch hp) (by decide) (fun p hp=>nomatch hp)) (cp (pv 2)) (fun C ex s H=>(aQ (i:=0) (show(["about"]:List Str).Nodup from by decide) rfl (Or.inl rfl))) (fun C ex s H=>cE) (fun C ex s H ps XE=>(au (qD (K:=K) rfl) (by rfl) T.n_sorted xg (aa (pv 0) ag)))) (pv 3) (aA _)) (ak (dP ecU T.g_BadTurns rfl bp rfl rfl (aa aE ag))) aF)))),?_⟩
 refine⟨_,rfl,_,rfl,by omega,by omega,dZ (n:=(m:Int).toNat) (fun i ys H2=>Same H H2/\cj (fun p=>H p≠none) H2 ys (Dz i [])/\Dist ys) (by rw[Cg];exact Di (aC (by omega))) ⟨fun _ _ e=>e,⟨rfl,fun i l e=>by simp at e⟩,fun i j p e=>by simp at e⟩ ?_ ?_⟩
 ·rintro i ys H2 hi ⟨s2,rx,D⟩;refine⟨(by show 0<=sizeLine;decide),fun l hl=>?_⟩
  have s3:=aj hl (.lst []);refine⟨s2.trans s3,?_,wG rx D hl⟩;rw[List.replicate_succ'];refine(rx.mono fun b u _ z=>s3 _ _ z).snoc (fun z=>z ?_) ae
  cases y:H l with
  |none=>rfl
  |some o=>rw[s2 _ _ y]at hl;cases hl
 rintro ys H2 hyl ⟨s2,rx,D⟩ pn hpn;rw[Cg]at rx;have s3:=aj hpn (.lst ys);have hpn0:H pn=none:=by
  cases y:H pn with
  |none=>rfl
  |some o=>rw[s2 _ _ y]at hpn;cases hpn
 have rx3:cj (fun p=>p=pn∨H p≠none) (upd H2 pn (.lst ys)) ys (Dz m []):=⟨rx.1,fun i l z=>by
  obtain⟨p,a1,a2,a3⟩:=rx.2 i l z;have n2:p≠pn:=aV a3 hpn
  exact⟨p,a1,by rintro(y | y);exact n2 y;exact a2 y,s3 _ _ a3⟩⟩
 refine⟨_,rfl,a,rfl,⟨_,(s2.trans s3).seq hS⟩,rK (K:=K) (xs:=xs) (fun i σ H5=>∃ v4 v5 rows,σ = [some (.int (m:Int)),some (.ref a),some (.ref b),some (.ref pn),v4,v5]/\Same H H5/\H5 pn=some (.lst ys)/\cj (fun p=>p=pn∨H p≠none) H5 ys rows/\bC m (es.take i) rows/\∀ r∈rows,r.Pairwise (· < ·))
  ⟨_,_,_,rfl,s2.trans s3,ae,rx3,xE m,fun r hr=>by rw[(List.mem_replicate.mp hr).2];exact FG⟩ (fun i σ H5 _ ⟨_,_,_,_,z,_⟩=>z.seq hS) ?_ ?_⟩
 ·rintro i x σ H5 T2 hx ⟨v4,v5,rows,rfl,s5,hpn5,rx5,w5,pw⟩ hT2;have hi:i<es.length:=by rw[← hT.1];exact(BB.mp hx).1
  obtain⟨e,he⟩:∃ e,es[i]?=some e:=⟨_,BA hi⟩;obtain⟨p,C,dx,st,x1,x2,x3⟩:=hT.2 i e he;rw[hx]at x1
  cases x1
  have sT:=aj hT2 (.tup [.int (i:Int),.ref p]);have s6:=s5.trans sT;have x6:=s6 _ _ x2;obtain⟨e1,e2,e3⟩:=w' e (BF he);have til:(es.take i).length=i:=by rw[BV];omega
  have rlen:=w5.len;obtain⟨l,hl⟩:∃ l,rows[e.1]?=some l:=⟨_,BA (by omega)⟩
  obtain⟨l',hl'⟩:∃ l,rows[e.2]?=some l:=⟨_,BA (by omega)⟩
  have rx6:cj (fun p=>p=pn∨H p≠none) (upd H5 T2 (.tup [.int (i:Int),.ref p])) ys rows:=rx5.mono fun b u _ z=>sT _ _ z;obtain⟨p1,y1,y2,y3⟩:=rx6.2 _ _ hl;obtain⟨p2,z1,z2,z3⟩:=rx6.2 _ _ hl';have no_S:∀{p:Addr},¬ (p=pn∨H p≠none)->H p=none/\p≠pn:=fun{p} n=>by
   refine⟨?_,fun z=>n (.inl z)⟩
   cases y:H p with
   |none=>rfl
   |some o=>exact absurd (.inr (by rw[y];exact fun z=>nomatch z)) n
  obtain⟨hp1,np1⟩:=no_S y2;obtain⟨hp2,np2⟩:=no_S z2;have n12:p2≠p1:=fun y=>by rw[y]at z1;exact e3 (D _ _ p1 y1 z1)
  have ll:∀{q:Nat}{r:List Nat},rows[q]?=some r->∀ t∈r,t<i:=fun{q r} h t ht=>by
   have:=ko w5 h ht;omega
  have lle:∀{q:Nat}{r:List Nat},rows[q]?=some r->r.length<=82:=fun{q r} h=>by
   have:=eQ (w5.nd _ _ h) (ll h);omega
  have f1:=lle hl;have f2:=lle hl';have hpn6:=sT _ _ hpn5;refine⟨T2,_,rfl,SqT.of ae,rfl,_,_,rfl,_,_,rfl,rfl,?_⟩;refine⟨_,rfl,_,rfl,p,C,dx,_,_,rfl,x6,x3.cl,x3.n1,lu _ _ _,pn,ys,_,_,rfl,rfl,SqL.of hpn6,aO y1,.inl ⟨rfl,_,SqL.of y3⟩,_,rfl,p1,_,_,rfl,rfl,y3,aC (by rw[BC];omega),?_⟩
  have e1':(l.map iV)++[V.int (i:Int)]=(l++[i]).map iV:=by rw[Cn];rfl
  rw[e1'];have x7:(upd (upd H5 T2 (.tup [.int (i:Int),.ref p])) p1 (.lst ((l++[i]).map iV))) p=some (.ins C dx (tf (e.1:Int) (e.2:Int) st)):=by rw[ar (fun z=>by rw[z]at x2;rw[x2]at hp1;cases hp1)];exact x6
  have hpn7:(upd (upd H5 T2 (.tup [.int (i:Int),.ref p])) p1 (.lst ((l++[i]).map iV))) pn=some (.lst ys):=by rw[ar np1.symm];exact hpn6
  have z7:(upd (upd H5 T2 (.tup [.int (i:Int),.ref p])) p1 (.lst ((l++[i]).map iV))) p2=some (.lst (l'.map iV)):=by rw[ar n12];exact z3
  refine⟨_,rfl,_,rfl,p,C,dx,_,_,rfl,x7,x3.cl,x3.n2,qO _ _ _,pn,ys,_,_,rfl,rfl,SqL.of hpn7,aO z1,.inl ⟨rfl,_,SqL.of z7⟩,_,rfl,p2,_,_,rfl,rfl,z7,aC (by rw[BC];omega),?_⟩
  have e2':(l'.map iV)++[V.int (i:Int)]=(l'++[i]).map iV:=by rw[Cn];rfl
  rw[e2'];refine⟨_,_,(rows.set e.1 (l++[i])).set e.2 (l'++[i]),rfl,a8 (a8 s6 hp1 _) hp2 _,by rw[ar np2.symm];exact hpn7,(rx6.set D y1).set D z1,?_,fun r hr=>?_⟩
  ·have q:=w5.put (k:=l.length) (j:=l'.length) e1 e2 e3 hl hl'
   rw[wj,wj,til]at q;rw[Cv,he];exact q
  ·have app:∀{q:Nat}{r:List Nat},rows[q]?=some r->(r++[i]).Pairwise (· < ·):=fun{q r} h=>CP.mpr ⟨pw r (BF h),Fb _ _,fun x hx y hy=>by
    have:=ll h x hx;have:y=i:=by simpa using hy
    omega⟩
   rcases Dk hr with z | z
   ·rcases Dk z with z | z
    ·exact pw r z
    ·rw[z];exact app hl
   ·rw[z];exact app hl'
 rintro σ H5 ⟨v4,v5,rows,rfl,s5,hpn5,rx5,w5,pw⟩;rw[hT.1,CQ]at w5;have hzl:zs.length=js.length:=hR.1;refine⟨_,rfl,b,rfl,⟨_,s5.seq hB⟩,cU (K:=K) (xs:=zs) (fun i vs H6=>Same H5 H6/\∃ os:List (List Int),ig H6 vs os/\os.length=i/\∀(j:Nat)(l o:List Int),js[j]?=some l->os[j]?=some o->o.Perm l/\o.Pairwise (·<=·)) (Di (aC (by omega))) ⟨fun _ _ e=>e,[],⟨rfl,fun i l e=>by simp at e⟩,rfl,fun j l o _ e=>by simp at e⟩ (fun i vs H6 _ z=>(s5.trans z.1).seq hB) ?_ ?_⟩
 ·rintro i x vs H6 hx ⟨s6,os,rz,ol,pm⟩;have hi:i<js.length:=by rw[← hR.1];exact(BB.mp hx).1
  obtain⟨l,hl⟩:∃ l,js[i]?=some l:=⟨_,BA hi⟩;obtain⟨p,a1,a2⟩:=(hR.mono (s5.trans s6)).2 i l hl;rw[hx]at a1
  cases a1
  refine⟨_,rfl,p,l,rfl,SqL.of a2,fun q out hq hp hs=>?_⟩;have s7:=aj hq (.lst (out.map V.int));refine⟨s6.trans s7,os++[out],(rz.mono s7).snoc ae,by rw[BE,ol];rfl,fun j l' o h1 h2=>?_⟩
  by_cases c:j<os.length
  ·rw[BL c]at h2;exact pm j l' o h1 h2
  ·have e2:j=os.length:=by
    have:=(BB.mp h2).1;rw[BE,BM]at this;omega
   subst e2;rw[BH (BI _),Ck]at h2
   cases h2
   rw[ol,hl]at h1
   cases h1
   exact⟨hp,hs⟩
 rintro vs H6 _ ⟨s6,os,rz,ol,pm⟩ D' hD';rw[hzl]at ol;have s7:=aj hD' (.lst vs);have s67:=s6.trans s7
 have rd2:ig (upd H6 D' (.lst vs)) ys (rows.map cI):=⟨by rw[BC];exact rx5.1,fun i l e=>by
  rw[BJ]at e;obtain⟨r,hr',rfl⟩:=Cu.mp e;obtain⟨p,a1,_,a2⟩:=rx5.2 i r hr'
  exact⟨p,a1,by rw[cI_V];exact s67 _ _ a2⟩⟩
 obtain⟨kq,ke⟩:=kk _ (s5.trans s67);refine⟨_,rfl,_,_,ig.rd (SqL.of ae) (rz.mono s7),ig.rd (SqL.of (s67 _ _ hpn5)) rd2,oy _,oy _,_,rfl,?_⟩;rw[eqv_dI];have key:os=rows.map cI↔Mt m es js:=by
  constructor
  ·intro e;refine⟨rows,w5,by rw[← ol,e,BC],fun i l r hl hr'=>?_⟩
   have:=pm i l (cI r) hl (by rw[e,BJ,hr'];rfl)
   exact this.1.symm
  ·rintro⟨rows',wr,ln,pr⟩;refine FF fun i=>?_;by_cases c:i<js.length
   ·obtain⟨l,hl⟩:∃ l,js[i]?=some l:=⟨_,BA c⟩;obtain⟨o,ho⟩:∃ o,os[i]?=some o:=⟨_,BA (by omega)⟩
    obtain⟨r',hr1⟩:∃ r,rows'[i]?=some r:=⟨_,BA (by omega)⟩
    obtain⟨r,hr2⟩:∃ r,rows[i]?=some r:=⟨_,BA (by rw[w5.len,← wr.len];omega)⟩
    obtain⟨q1,q2⟩:=pm i l o hl ho;rw[ho,BJ,hr2];exact congrArg some (Af (q1.trans (pr i l r' hl hr1)) q2 (wr.nd _ _ hr1) (pw r (BF hr2)) fun t=>(wr.mem i r' hr1 t).trans (w5.mem i r hr2 t).symm)
   ·rw[Fm (by omega),Fm (by rw[BC,w5.len,← wr.len];omega)]
 by_cases z:os=rows.map cI
 ·rw[decide_eq_true z];exact iteF (kq (key.mp z))
 ·rw[decide_eq_false z];exact iteT ⟨(by decide:(1:Nat)<=sizeLine),ke fun y=>z (key.mpr y)⟩
theorem jA:aJ ["many","ties"] ["many","ties"] (ay dO):=by ac_nf
theorem x9{f fr BT BU BP NF:Addr}{fd fdr:FuncData} (F:Fun K "refuse_parted" "refuse_parted" dO f fd) (T:TxtG mg BT BU BP NF) (ecP:ExC K BP) (G_reached:Cal P w K mg base 1 "reached" ["start","pairs"] (uI K) fr fdr):FnOk P w K mg base (CXd P w) 2 f fd ["many","ties"] (uJ K BP):=by
 refine F.okD jA (fun vs H Q E h=>?_) (fun cdv A outer s H vs Q E hr h=>?_)
 ·obtain⟨a,xs,m,es,rfl,_⟩:=h;rfl
 obtain⟨a,xs,m,es,rfl,hS,hT,g,m2,m40,few,kk⟩:=h;have hul:xs.length=es.length:=hT.1;refine⟨_,(ak (bf (ax jB (aI G_reached.ok (hr.mono (by decide)) rfl G_reached.mg G_reached.kp G_reached.bn .nil bA (aa ai (aa (cG rfl rfl rfl rfl (fr:=[]) (xs:=["tie"]) (dA.of (by rfl) (by decide) (by rfl) (by decide) (fun p hp=>nomatch hp) (by decide) (fun p hp=>nomatch hp)) (cp (pv 1)) (fun C ex s H=>(aQ (i:=0) (show(["tie"]:List Str).Nodup from by decide) rfl (Or.inl rfl))) (fun C ex s H=>cE) (fun C ex s H ps XE=>(bG (aa (vq (K:=K) rfl (pv 0) rfl) (aa (vq (K:=K) rfl (pv 0) rfl) ag))))) ag))) (aq cM (aq rj ai (pv 0)) ai) (aA _)) (ak (dP ecP T.g_Parted rfl bp rfl rfl (aa aE ag))) aF)),?_⟩
 refine⟨_,rfl,a,rfl,⟨_,hS⟩,cU (K:=K) (xs:=xs) (fun i zs H11=>Same H H11/\dB H11 zs (es.take i)) (Di (aC (by omega))) ⟨fun _ _ e=>e,rfl,fun i l e=>by simp at e⟩ (fun i zs H11 _ z=>z.1.seq hS) ?_ ?_⟩
 ·rintro i x zs H11 hx ⟨s11,ez⟩;have hi:i<es.length:=by rw[← hT.1];exact(BB.mp hx).1
  obtain⟨e,he⟩:∃ e,es[i]?=some e:=⟨_,BA hi⟩;obtain⟨p,C,dx,st,a1,a2,a3⟩:=(hT.mono s11).2 i e he;rw[hx]at a1
  cases a1
  refine⟨_,rfl,p,C,dx,_,_,rfl,a2,a3.cl,a3.n1,lu _ _ _,_,rfl,p,C,dx,_,_,rfl,a2,a3.cl,a3.n2,qO _ _ _,(by show 2<=sizeLine;decide),fun g hg=>?_⟩
  have s12:=aj hg (.tup [iV e.1,iV e.2]);refine⟨s11.trans s12,?_⟩;rw[show es.take (i+1)=es.take i++[e] by rw[Cv,he];rfl]
  exact(ez.mono s12).snoc ae
 rintro zs H11 _ ⟨s11,ez⟩ D hD;rw[hT.1,CQ]at ez;have s12:=aj hD (.lst zs);refine⟨D,zs,m,es,rfl,SqL.of ae,ez.mono s12,g,m2,m40,fun M hM b0 cl lw=>?_⟩;obtain⟨kq,ke⟩:=kk M hM b0 cl lw _ (s11.trans s12);refine⟨_,rfl,_,_,rfl,rfl,⟨by omega,by omega,by decide⟩,_,_,rfl,rfl,rfl,_,rfl,?_⟩
 have e2:(1:Int)*2^((m:Nat):Int).toNat-1=((2^m-1:Nat):Int):=by
  have:=Nat.two_pow_pos m;rw[shlN];omega
 have dc:decide (V.int (M:Int)=V.int (1*2^((m:Nat):Int).toNat-1))=decide (M=2^m-1):=by
  rw[e2];by_cases z:M=2^m-1
  ·rw[decide_eq_true z,z,decide_eq_true rfl]
  ·rw[decide_eq_false z,decide_eq_false (fun y=>z (by have:=V.int.inj y;omega))]
 show(if(!decide (V.int (M:Int)=V.int (1*2^((m:Nat):Int).toNat-1)))=true then _ else _);rw[dc];by_cases z:M=2^m-1
 ·rw[decide_eq_true z];exact iteF (kq z)
 ·rw[decide_eq_false z];exact iteT ⟨(by decide:(1:Nat)<=sizeLine),ke z⟩
end
structure CW(K:BD)(C:Addr):Prop where
 cl:Cls K C
 n1:eB K C "many"
 n2:eB K C "ties"
 n3:eB K C "turns"
 n4:eB K C "rounds"
 n5:eB K C "sides"
theorem gm(k:Str)(v:V):∀ fs:List (Str×V),(putF k v fs).length<=fs.length+1
 |[]=>BI _
 | (a,b)::r=>by
  show(if a=k then(a,v)::r else(a,b)::putF k v r).length<=_;have:=gm k v r;split<;>simp only[BK]<;>omega
theorem none_of{H H':Hp}{b:Addr}(s:Same H H')(z:H' b=none):H b=none:=by
 cases y:H b with
 |none=>rfl
 |some o=>rw[s _ _ y]at z;cases z
theorem cJ.keep{K:BD}{H G:Hp}{xs:List V}{es:En}{p C dx:Addr}(t:cJ K H xs es)(hp:H p=some (.ins C dx []))(k:∀ q u,q≠p->H q=some u->G q=some u):cJ K G xs es:=⟨t.1,fun i e z=>by
 obtain⟨q,C',dx',s,a,b,d⟩:=t.2 i e z;refine⟨q,C',dx',s,a,k _ _ (fun z=>?_) b,d⟩;rw[z,hp]at b;have e1:([]:List (Str×V))=tf (e.1:Int) (e.2:Int) s:=by
  injection b with b;injection b
 have e2:=lu (e.1:Int) (e.2:Int) s;rw[← e1]at e2
 cases e2⟩
noncomputable def rX(m:Nat)(es:En):Prop:=∃ S:Nat->Prop,(∀ e∈es,S e.1↔S e.2)/\∃ p q,p<m/\q<m/\S p/\¬ S q
theorem sy{m M:Nat}{es:En}(h:rX m es)(lw:Low es M):M≠2^m-1:=fun e=>by
 obtain⟨S,cS,p,q,hp,hq,sp,nq⟩:=h;have bit:∀ x,x<m->M.testBit x=true:=fun x hx=>by rw[e,FV,decide_eq_true hx]
 by_cases s0:S 0
 ·exact nq (lw S cS s0 q (bit q hq))
 ·exact lw (fun x=>¬ S x) (fun e he=>not_congr (cS e he)) s0 p (bit p hp) sp
theorem mt_of{m:Nat}{es:En}{ts:List (List Nat)}(w:bC m es ts):Mt m es (ts.map cI):=⟨ts,w,BC _,fun i l r h1 h2=>by
 rw[BJ,h2]at h1
 cases h1
 exact F7 _⟩
inductive yM(BT BU BP NF:Addr)(H:Hp)(p C dx:Addr)(m:Nat)(es:En)(js:List (List Int))(Q:Hp->Prop)(E:Value->Option Addr->Hp->Prop):Prop
 |ends (h:¬ ∀ e∈es,e.1<m/\e.2<m) (k:∀ H',Same H H'->E (.ref BT) none H')
 |turns (h:∀ e∈es,e.1<m/\e.2<m) (n:¬ Mt m es js) (k:∀ H',Same H H'->E (.ref BU) none H')
 |parted (ts:List (List Nat)) (j:js=ts.map cI) (w:bC m es ts) (n:rX m es) (k:∀ H',Same H H'->E (.ref BP) none H')
 |web (ts rg:List (List Nat)) (j:js=ts.map cI) (g:Gr m es ts) (pt:Part (fol es ts) (2*es.length) rg) (n:m+rg.length≠es.length+2->∀ H',Same H H'->E (.ref NF) none H')
   (k:m+rg.length=es.length+2->∀(fs:List (Str×V))(q:Addr)(z:List V)(H':Hp),H' p=some (.ins C dx fs)->fs.lookup ("many" : Str)=some (.int (m:Int))->fs.lookup ("ties" : Str)=some (.ref q)->H' q=some (.lst z)->z.length=es.length->(∀ q o,H q=some o->q≠p->H' q=some o)->Q H')
noncomputable def o9(K:BD)(BT BU BP NF:Addr):Sp:=fun vs H Q E=>∃(p C dx qt qh:Addr)(m:Nat)(xs zs:List V)(es:En)(js:List (List Int)),vs = [.ref p,.int (m:Int),.ref qt,.ref qh]/\H p=some (.ins C dx [])/\CW K C/\H qt=some (.lst xs)/\cJ K H xs es/\H qh=some (.lst zs)/\ig H zs js/\(∀ e∈es,e.1≠e.2)/\1<=m/\m<=42/\es.length<=82/\js.length<=90/\yM BT BU BP NF H p C dx m es js (Q .non) E
section
variable{P:Program}{w:World}{K:BD}{mg:Str->Option Value}{base:Heap}
theorem iw:aJ ["self","many","ties","turns","rounds"] ["self","many","ties","turns"] (ay cx):=by ac_nf
theorem xY{f f1 f2 f3 f4 f5 BT BU BP NF:Addr}{fd d1 d2 d3 d4 d5:FuncData} (F:Fun K "__init__" "Web.__init__" cx f fd) (T:TxtG mg BT BU BP NF) (ecN:ExC K NF) (G_refuse_ends:CalD P w K mg base 1 "refuse_ends" ["many","ties"] (uK K BT) f1 d1) (G_refuse_turns:CalD P w K mg base 1 "refuse_turns" ["many","ties","turns"] (qT K BU) f2 d2) (G_refuse_parted:CalD P w K mg base 2 "refuse_parted" ["many","ties"] (uJ K BP) f3 d3) (G_rounds_of:Cal P w K mg base 4 "rounds_of" ["ties","turns"] (qS K) f4 d4) (G_sides_of:Cal P w K mg base 1 "sides_of" ["ties","rounds"] (uH K) f5 d5) :
  FnOk P w K mg base (CXd P w) 5 f fd ["self","many","ties","turns"] (o9 K BT BU BP NF):=by
 refine F.okD iw (fun vs H Q E h=>?_) (fun cdv A outer s H vs Q E hr h=>?_)
 ·obtain⟨p,C,dx,qt,qh,m,xs,zs,es,js,rfl,_⟩:=h;rfl
 obtain⟨p,C,dx,qt,qh,m,xs,zs,es,js,rfl,hp,cw,hqt,hT,hqh,hJ,ne,m1,m42,few,jl,cs⟩:=h;have hul:xs.length=es.length:=hT.1;have pl:∀{q:Addr}{ys:List V},H q=some (.lst ys)->q≠p:=fun{q ys} h z=>by rw[z,hp]at h;cases h
 refine⟨_,(af (aZ (cX G_refuse_ends.ok (hr.mono (by decide)) rfl G_refuse_ends.mg G_refuse_ends.kp G_refuse_ends.bn .nil bp rfl (aa (pv 1) (aa (pv 2) ag))))
   (af (aZ (cX G_refuse_turns.ok (hr.mono (by decide)) rfl G_refuse_turns.mg G_refuse_turns.kp G_refuse_turns.bn .nil bp rfl (aa (pv 1) (aa (pv 2) (aa (pv 3) ag)))))
   (af (aZ (cX G_refuse_parted.ok (hr.mono (by decide)) rfl G_refuse_parted.mg G_refuse_parted.kp G_refuse_parted.bn .nil bp rfl (aa (pv 1) (aa (pv 2) ag))))
   (af (av (i:=4) iw.nd rfl (Or.inl rfl) (aI G_rounds_of.ok (hr.mono (by decide)) rfl G_rounds_of.mg G_rounds_of.kp G_rounds_of.bn .nil bA (aa (pv 2) (aa (pv 3) ag))))
   (af (bf (ax jB (aq aU (aq cM (pv 1) (au ao (by rfl) T.n_len aN (aa (pv 2) ag))) (au ao (by rfl) T.n_len aN (aa (pv 4) ag))) ai (aA _)) (ak (dP ecN T.g_NotFlat rfl bp rfl rfl (aa aE ag))) aF)
   (af (ju (pv 0) (pv 1) rfl)
   (af (ju (pv 0) (aK df (by rfl) T.n_list kQ (aa (pv 2) ag)) rfl)
   (af (ju (pv 0) (cG rfl rfl rfl rfl (fr:=[]) (xs:=["about"]) (dA.of (by rfl) (by decide) (by rfl) (by decide) (fun p hp=>nomatch hp) (by decide) (fun p hp=>nomatch hp)) (cp (pv 3)) (fun C ex s H=>(aQ (i:=0) (show(["about"]:List Str).Nodup from by decide) rfl (Or.inl rfl))) (fun C ex s H=>cE) (fun C ex s H ps XE=>(aK (ue (K:=K) rfl) (by rfl) T.n_list kQ (aa (pv 0) ag)))) rfl)
   (af (ju (pv 0) (pv 4) rfl)
   (ak (ju (pv 0) (aI G_sides_of.ok (hr.mono (by decide)) rfl G_sides_of.mg G_sides_of.kp G_sides_of.bn .nil bA (aa (pv 2) (aa (pv 4) ag))) rfl))))))))))),?_⟩
 refine⟨_,rfl,_,rfl,qt,xs,m,es,rfl,SqL.of hqt,hT,fun ok=>?_,fun no=>?_⟩;rotate_left
 ·cases cs with
  |ends h k=>exact k H fun _ _ e=>e
  |turns h n k=>exact absurd h no
  |parted ts j w' n k=>exact absurd (fun e he=>⟨(w'.ends e he).1,(w'.ends e he).2.1⟩) no
  |web ts rg j g pt n k=>exact absurd (fun e he=>⟨(g.w.ends e he).1,(g.w.ends e he).2.1⟩) no
 refine⟨_,rfl,_,rfl,_,rfl,qt,qh,xs,zs,m,es,js,rfl,SqL.of hqt,hT,SqL.of hqh,hJ,fun e he=>⟨(ok e he).1,(ok e he).2,ne e he⟩,few,by omega,jl,fun H1 s1=>⟨fun mt=>?_,fun nm=>?_⟩⟩
 rotate_left
 ·cases cs with
  |ends h k=>exact absurd ok h
  |turns h n k=>exact k H1 s1
  |parted ts j w' n k=>subst j;exact absurd (mt_of w') nm
  |web ts rg j g pt n k=>subst j;exact absurd (mt_of g.w) nm
 refine⟨_,rfl,_,rfl,qt,xs,m,es,rfl,SqL.of (s1 _ _ hqt),hT.mono s1,ok,m1,m42,few,fun M hM b0 cl lw H2 s2=>⟨fun full=>?_,fun nf=>?_⟩⟩;rotate_left
 ·cases cs with
  |ends h k=>exact absurd ok h
  |turns h n k=>exact absurd mt n
  |parted ts j w' n k=>exact k H2 (s1.trans s2)
  |web ts rg j g pt n k =>
   refine absurd (wu hM fun x hx=>?_) nf;exact g.conn (fun x=>M.testBit x=true) (fun e he=>by rw[cl e he]) 0 x (by omega) hx b0
 obtain⟨ts,rg,rfl,g,pt,kn,kk⟩:∃ ts rg,js=ts.map cI/\Gr m es ts/\Part (fol es ts) (2*es.length) rg/\(m+rg.length≠es.length+2->∀ H',Same H H'->E (.ref NF) none H')/\(m+rg.length=es.length+2->∀(fs:List (Str×V))(q:Addr)(z:List V)(H':Hp),H' p=some (.ins C dx fs)->fs.lookup ("many" : Str)=some (.int (m:Int))->fs.lookup ("ties" : Str)=some (.ref q)->H' q=some (.lst z)->z.length=es.length->(∀ q o,H q=some o->q≠p->H' q=some o)->Q .non H'):=by
  cases cs with
  |ends h k=>exact absurd ok h
  |turns h n k=>exact absurd mt n
  |parted ts j w' n k=>exact absurd full (sy n lw)
  |web ts rg j g pt n k=>exact⟨ts,rg,j,g,pt,n,k⟩
 have w':=g.w
 have hR:d7 H zs ts:=⟨by rw[hJ.1,BC],fun i l e=>by
  obtain⟨q,a1,a2⟩:=hJ.2 i (cI l) (by rw[BJ,e];rfl)
  exact⟨q,a1,by rw[← cI_V];exact a2⟩⟩
 have hzl:zs.length=m:=by rw[hR.1,w'.len]
 have s12:=s1.trans s2;refine⟨_,rfl,_,rfl,qt,qh,m,es,ts,rfl,⟨⟨xs,SqL.of (s12 _ _ hqt),hT.mono s12⟩,⟨zs,SqL.of (s12 _ _ hqh),hR.mono s12⟩,w',by omega⟩,fun qr vs rs H3 s3 hqr hrs ro=>?_⟩
 have s13:=s12.trans s3;have cnt:rs.length=rg.length:=ro.part.same pt;have hvl:vs.length=rs.length:=hrs.1;refine⟨_,rfl,_,rfl,qt,xs,rfl,.inl (SqL.of (s13 _ _ hqt)),_,_,rfl,rfl,_,rfl,qr,vs,rfl,.inl (SqL.of hqr),_,_,rfl,rfl,rfl,_,rfl,?_⟩;by_cases fl:m+rg.length=es.length+2;rotate_left
 ·refine ite2 (fun _=>⟨(by decide:(1:Nat)<=sizeLine),kn fl H3 s13⟩) fun z=>?_
  exact absurd (by show(!decide (V.int ((m:Int)-(xs.length:Int)+(vs.length:Int))=V.int 2))=true;rw[decide_eq_false (fun y=>fl (by have:=V.int.inj y;omega))];rfl) z
 refine iteNS (congrArg V.int (by omega)) ?_
 have hp3:=s13 _ _ hp;refine⟨_,rfl,_,rfl,p,C,dx,[],rfl,hp3,cw.cl,cw.n1,(by show 0<1000;decide),?_⟩
 have keep:∀{G:Hp}{o:HO}{q:Addr}{u:HO},q≠p->G q=some u->(upd G p o) q=some u:=fun n z=>by rw[ar n];exact z
 refine⟨_,rfl,qt,xs,rfl,.inl (SqL.of (keep (pl hqt) (s13 _ _ hqt))),fun q1 hq1=>?_⟩;have n1p:q1≠p:=fun z=>by rw[z,ae]at hq1;cases hq1
 have t4:=aj hq1 (.lst xs);refine⟨_,rfl,p,C,dx,_,rfl,t4 _ _ ae,cw.cl,cw.n2,?_,?_⟩
 ·have:=gm "many" (.int (m:Int)) ([]:List (Str×V));simp only[DH]at this;omega
 have t1:∀ q u,q≠p->H3 q=some u->(upd (upd (upd H3 p (.ins C dx (putF "many" (.int (m:Int)) []))) q1 (.lst xs)) p (.ins C dx (putF "ties" (.ref q1) (putF "many" (.int (m:Int)) [])))) q=some u:=fun q u n z=>keep n (t4 _ _ (keep n z));have q1a:(upd (upd (upd H3 p (.ins C dx (putF "many" (.int (m:Int)) []))) q1 (.lst xs)) p (.ins C dx (putF "ties" (.ref q1) (putF "many" (.int (m:Int)) [])))) q1=some (.lst xs):=keep n1p ae;have pa:(upd (upd (upd H3 p (.ins C dx (putF "many" (.int (m:Int)) []))) q1 (.lst xs)) p (.ins C dx (putF "ties" (.ref q1) (putF "many" (.int (m:Int)) [])))) p=some (.ins C dx (putF "ties" (.ref q1) (putF "many" (.int (m:Int)) []))):=ae;generalize upd (upd (upd H3 p (.ins C dx (putF "many" (.int (m:Int)) []))) q1 (.lst xs)) p (.ins C dx (putF "ties" (.ref q1) (putF "many" (.int (m:Int)) [])))=H4 at t1 q1a pa;have lk:(putF "ties" (.ref q1) (putF "many" (.int (m:Int)) []):List (Str×V)).lookup ("ties" : Str)=some (.ref q1):=by rw[aW,if_pos rfl]
 have ln:(putF "ties" (.ref q1) (putF "many" (.int (m:Int)) []):List (Str×V)).length<=2:=by
  have a1:=gm "many" (.int (m:Int)) ([]:List (Str×V));have a2:=gm "ties" (.ref q1) (putF "many" (.int (m:Int)) ([]:List (Str×V)));simp only[DH]at a1;omega
 have lkm:(putF "ties" (.ref q1) (putF "many" (.int (m:Int)) []):List (Str×V)).lookup ("many" : Str)=some (.int (m:Int)):=by rw[aW,if_neg (by decide),aW,if_pos rfl]
 generalize (putF "ties" (.ref q1) (putF "many" (.int (m:Int)) []):List (Str×V))=fs at pa lk ln lkm;have hqh4:=t1 _ _ (pl hqh) (s13 _ _ hqh);have new4:∀{b:Addr},H4 b=none->H b=none:=fun{b} z=>by
  cases y:H b with
  |none=>rfl
  |some o =>
   by_cases n:b=p
   ·rw[n,pa]at z;cases z
   ·rw[t1 _ _ n (s13 _ _ y)]at z;cases z
 have new1:H q1=none:=by
  cases y:H q1 with
  |none=>rfl
  |some o=>rw[keep n1p (s13 _ _ y)]at hq1;cases hq1
 refine⟨_,rfl,qh,rfl,⟨_,SqL.of hqh4⟩,cU (K:=K) (xs:=zs) (fun i ys H5=>Same H4 H5/\cj (fun a=>H a≠none) H5 ys (ts.take i)) (Di (aC (by omega))) ⟨fun _ _ e=>e,rfl,fun i l e=>by simp at e⟩ (fun i _ H5 _ z=>SqL.of (z.1 _ _ hqh4)) ?_ ?_⟩
 ·rintro i x ys H5 hx ⟨s5,rz⟩;have hi:i<ts.length:=by rw[← hR.1];exact(BB.mp hx).1
  obtain⟨l,hl⟩:∃ l,ts[i]?=some l:=⟨_,BA hi⟩;obtain⟨r,a1,a2⟩:=hR.2 i l hl;rw[hx]at a1
  cases a1
  refine⟨_,rfl,r,_,rfl,.inl (SqL.of (s5 _ _ (t1 _ _ (pl a2) (s13 _ _ a2)))),fun g hg=>⟨s5.trans (aj hg _),?_⟩⟩;rw[show ts.take (i+1)=ts.take i++[l] by rw[Cv,hl];rfl]
  exact(rz.mono fun b u _ z=>aj hg _ _ _ z).snoc (fun z=>z (new4 (none_of s5 hg))) ae
 rintro ys H5 _ ⟨s5,rz⟩ D hD;rw[hR.1,CQ]at rz;have hDp:D≠p:=fun z=>by rw[z,s5 _ _ pa]at hD;cases hD
 have s6:=s5.trans (aj hD (.lst ys));refine⟨_,rfl,p,C,dx,fs,rfl,s6 _ _ pa,cw.cl,cw.n3,by omega,?_⟩
 have ln1:=gm "turns" (.ref D) fs;have lk1:(putF "turns" (.ref D) fs).lookup ("ties" : Str)=some (.ref q1):=by rw[aW,if_neg (by decide)];exact lk
 refine⟨_,rfl,_,rfl,p,C,dx,_,rfl,ae,cw.cl,cw.n4,by omega,?_⟩
 have ln2:=gm "rounds" (.ref qr) (putF "turns" (.ref D) fs);have lk2:(putF "rounds" (.ref qr) (putF "turns" (.ref D) fs)).lookup ("ties" : Str)=some (.ref q1):=by rw[aW,if_neg (by decide)];exact lk1
 have t7:∀ q u,q≠p->H3 q=some u->(upd (upd (upd H5 D (.lst ys)) p (.ins C dx (putF "turns" (.ref D) fs))) p (.ins C dx (putF "rounds" (.ref qr) (putF "turns" (.ref D) fs)))) q=some u:=fun q u n z=>keep n (keep n (s6 _ _ (t1 q u n z)));have q17:(upd (upd (upd H5 D (.lst ys)) p (.ins C dx (putF "turns" (.ref D) fs))) p (.ins C dx (putF "rounds" (.ref qr) (putF "turns" (.ref D) fs)))) q1=some (.lst xs):=keep n1p (keep n1p (s6 _ _ q1a));have p7:(upd (upd (upd H5 D (.lst ys)) p (.ins C dx (putF "turns" (.ref D) fs))) p (.ins C dx (putF "rounds" (.ref qr) (putF "turns" (.ref D) fs)))) p=some (.ins C dx (putF "rounds" (.ref qr) (putF "turns" (.ref D) fs))):=ae;have D7:(upd (upd (upd H5 D (.lst ys)) p (.ins C dx (putF "turns" (.ref D) fs))) p (.ins C dx (putF "rounds" (.ref qr) (putF "turns" (.ref D) fs)))) D=some (.lst ys):=keep hDp (keep hDp ae);have u7:∀ q u,q≠p->H5 q=some u->(upd (upd (upd H5 D (.lst ys)) p (.ins C dx (putF "turns" (.ref D) fs))) p (.ins C dx (putF "rounds" (.ref qr) (putF "turns" (.ref D) fs)))) q=some u:=fun q u n z=>keep n (keep n (aj hD _ _ _ z));generalize upd (upd (upd H5 D (.lst ys)) p (.ins C dx (putF "turns" (.ref D) fs))) p (.ins C dx (putF "rounds" (.ref qr) (putF "turns" (.ref D) fs)))=H7 at t7 q17 p7 D7 u7;have pl3:∀{q:Addr}{ys:List V},H3 q=some (.lst ys)->q≠p:=fun{q ys} h z=>by rw[z,hp3]at h;cases h
 have rs7:d7 H7 vs rs:=⟨hrs.1,fun i l z=>by
  obtain⟨r,a1,a2⟩:=hrs.2 i l z
  exact⟨r,a1,t7 _ _ (pl3 a2) a2⟩⟩
 have T7:cJ K H7 xs es:=(hT.mono s13).keep hp3 t7;refine⟨_,rfl,_,rfl,qt,qr,xs,vs,es,_,rs,rfl,SqL.of (t7 _ _ (pl hqt) (s13 _ _ hqt)),T7,by omega,SqL.of (t7 _ _ (pl3 hqr) hqr),rs7,ro,fun q5 z5 H8 s8 hq5 hs5=>?_⟩
 refine⟨_,rfl,p,C,dx,_,rfl,s8 _ _ p7,cw.cl,cw.n5,by omega,?_⟩
 have n5p:q5≠p:=fun z=>by rw[z,s8 _ _ p7]at hq5;cases hq5
 have hqr7:=t7 _ _ (pl3 hqr) hqr;refine kk fl _ q1 xs _ ae ?_ ?_ (keep n1p (s8 _ _ q17)) hT.1 fun q o z n=>keep n (s8 _ _ (t7 q o n (s13 _ _ z)))
 ·rw[aW,if_neg (by decide),aW,if_neg (by decide),aW,if_neg (by decide)]
  exact lkm
 ·rw[aW,if_neg (by decide)]
  exact lk2
end
end K8
namespace KF
open PySem L2 PyProof.Rows K8
theorem cg:bootBuiltins "str" = some (.type "str"):=by decide
theorem jV{a b:Str}(h:a.cps.toList=b.cps.toList):a=b:=Str.ext' (FO.mp h)
theorem ck(a b:Str):(a++b).cps.toList=a.cps.toList++b.cps.toList:=by rw[Str.cps_append,Cp]
theorem jU(a:Str):a.length=a.cps.toList.length:=by rw[Dn];rfl
noncomputable def spS:Str:=⟨#[32]⟩
noncomputable def nlS:Str:=⟨#[10]⟩
theorem jW:((" " : String):Str)=spS:=by decide
theorem nl_eq:(("\n" : String):Str)=nlS:=by decide
theorem tK:(("" : String):Str)=Str.empty:=by decide
noncomputable def jn(c:Nat):List (List Nat)->List Nat
 |[]=>[]
 |[a]=>a
 |a::b::r=>a++c::jn c (b::r)
theorem vW(c:Nat)(a:List Nat):∀{r:List (List Nat)},r≠[]->jn c (a::r)=a++c::jn c r
 |[],h=>absurd rfl h
 |_::_,_=>rfl
theorem fA(c:Nat):∀ ws:List Str,(Str.join ⟨#[c]⟩ ws).cps.toList=jn c (ws.map (·.cps.toList))
 |[]=>rfl
 |[_]=>rfl
 |a::b::r=>by
  show((a++⟨#[c]⟩++Str.join ⟨#[c]⟩ (b::r)).cps.toList)=_;rw[ck,ck,fA c (b::r)];show a.cps.toList++[c]++_=a.cps.toList++c::_;rw[Ca];rfl
theorem wV{c:Nat}:∀{a b x y:List Nat},c∉a->c∉b->a++c::x=b++c::y->a=b/\x=y
 |[],[],_,_,_,_,h=>⟨rfl,(DZ h).2⟩
 |[],d::b,_,_,_,hb,h=>absurd (DZ h).1 fun z=>hb (by rw[z];exact BQ ..)
 |d::a,[],_,_,ha,_,h=>absurd (DZ h).1 fun z=>ha (by rw[← z];exact BQ ..)
 |d::a,e::b,x,y,ha,hb,h=>by
  have q:=DZ (show d::(a++c::x)=e::(b++c::y) from h);have r:=wV (fun z=>ha (BO _ z)) (fun z=>hb (BO _ z)) q.2;exact⟨by rw[q.1,r.1],r.2⟩
theorem zr{c:Nat}{a b y:List Nat}(ha:c∉a)(h:a=b++c::y):False:=ha (by rw[h];simp)
theorem zA{c:Nat}:∀{P Q:List (List Nat)},P≠[]->Q≠[]->(∀ p∈P,c∉p)->(∀ p∈Q,c∉p)->jn c P=jn c Q->P=Q
 |[],_,h,_,_,_,_=>absurd rfl h
 |_,[],_,h,_,_,_=>absurd rfl h
 |[a],[b],_,_,_,_,h=>by rw[show a=b from h]
 |[a],b::b2::r,_,_,hP,_,h=>(zr (hP a (BQ ..)) (show a=b++c::jn c (b2::r) from h)).elim
 |a::a2::r,[b],_,_,_,hQ,h=>(zr (hQ b (BQ ..)) (show b=a++c::jn c (a2::r) from h.symm)).elim
 |a::a2::r,b::b2::t,_,_,hP,hQ,h=>by
  have q:=wV (hP a (BQ ..)) (hQ b (BQ ..)) (show a++c::jn c (a2::r)=b++c::jn c (b2::t) from h);rw[q.1,zA (CL _ _) (CL _ _) (fun p z=>hP p (BO _ z)) (fun p z=>hQ p (BO _ z)) q.2]
theorem kr:∀{a b:List Str},a.map (·.cps.toList)=b.map (·.cps.toList)->a=b
 |[],[],_=>rfl
 |[],_::_,h=>by cases h
 |_::_,[],h=>by cases h
 |_::_,_::_,h=>by
  have q:=DZ h;rw[jV q.1,kr q.2]
theorem xb(c:Nat):∀ l:List Nat,0<=cnt c l
 |[]=>by rw[cnt_nil];exact Eb 0
 |n::r=>by
  have:=xb c r;rw[cnt_cons];split<;>omega
theorem bX{c:Nat}{ws:List Str}(h0:ws≠[])(hf:∀ w∈ws,c∉w.cps.toList):CC (Str.join ⟨#[c]⟩ ws) ⟨#[c]⟩=ws:=by
 have h1:=StrLaws.join_split (Str.join ⟨#[c]⟩ ws) ⟨#[c]⟩;have h2:=congrArg (fun s:Str=>s.cps.toList) h1;simp only[fA]at h2;have ne:CC (Str.join ⟨#[c]⟩ ws) ⟨#[c]⟩≠[]:=fun z=>by
  have e:=split_len (Str.join ⟨#[c]⟩ ws) c;rw[z]at e;have:=xb c (Str.join ⟨#[c]⟩ ws).cps.toList;simp at e;omega
 refine kr (zA (c:=c) (by simpa using ne) (by simpa using h0) (fun p hp=>?_) (fun p hp=>?_) h2)
 ·obtain⟨q,hq,rfl⟩:=B9.mp hp;exact StrLaws.split_free _ c q hq
 ·obtain⟨q,hq,rfl⟩:=B9.mp hp;exact hf q hq
theorem nZ(sep w:Str):∀{ws:List Str},ws≠[]->Str.join sep (ws++[w])=Str.join sep ws++sep++w
 |[],h=>absurd rfl h
 |[a],_=>rfl
 |a::b::r,_=>by
  show a++sep++Str.join sep (b::r++[w])=a++sep++Str.join sep (b::r)++sep++w;rw[nZ sep w (CL b r)];simp only[Str.append_assoc]
noncomputable def tx(n:Nat):Str:=Str.ofString (toString ((n:Nat):Int))
theorem nv(n:Nat):(tx n).cps.toList=(EK 10 n).map Char.toNat:=PySem.W.KIN.signs_num n
theorem nu(n:Nat):∀ c∈(tx n).cps.toList,48<=c/\c<=57:=fun c hc=>by
 rw[nv]at hc;obtain⟨ch,hch,e⟩:=B9.mp hc;rw[← e];exact digit_range (Nat.isDigit_of_mem_toDigits (by decide) (by decide) hch)
theorem mR{m:Nat}(h:10<=m):EK 10 m=EK 10 (m/10)++[Nat.digitChar (m%10)]:=by
 have hm:m%10<10:=Dh m (by decide)
 have t:=Nat.toDigits_append_toDigits (b:=10) (n:=m/10) (d:=m%10) (by decide) (by omega) hm
 rw[Nat.div_add_mod,DW hm]at t;exact t.symm
theorem rO:∀(k m:Nat),m<10^(k+1)->(EK 10 m).length<=k+1
 |0,m,h=>by rw[DW (by omega)];exact BI 1
 |k+1,m,h=>by
  by_cases z:m<10
  ·rw[DW z];show 1<=_;omega
  ·rw[mR (by omega),BE]
   have:=rO k (m/10) (by rw[Nat.pow_succ]at h;omega)
   show _+1<=_;omega
theorem wH:∀ m:Nat,EK 10 m≠[]:=fun m h=>by
 by_cases z:m<10
 ·rw[DW z]at h;cases h
 ·rw[mR (by omega)]at h
  simp at h
theorem Bp(m:Nat):m≠0->(EK 10 m).head?≠some '0':=by
 induction m using Nat.strongRecOn with
 |_ m ih =>
  intro h0;by_cases z:m<10
  ·rw[DW z];have:∀ d:Nat,d<10->d≠0->[Nat.digitChar d].head?≠some '0':=by decide
   exact this m z h0
  ·have q:=ih (m/10) (by omega) (by omega)
   rw[mR (by omega),List.head?_append]
   match EK 10 (m/10),wH (m/10),q with
   |[],z,_=>exact absurd rfl z
   |_::_,_,q=>exact q
theorem bY{k n:Nat}(h:n<10^(k+1)):(tx n).length<=k+1:=by
 rw[jU,nv,BC];exact rO k n h
theorem zY(n:Nat):(tx n).cps.toList≠[]:=by
 rw[nv];intro h;exact wH n (List.map_eq_nil_iff.mp h)
theorem yO(n:Nat):Gd (tx n).cps.toList=n:=by rw[nv];exact PySem.W.KIN.val_back n
theorem tx_hd{n:Nat}(h:(tx n).cps.toList.head?=some 48):n=0:=by
 rw[nv,List.head?_map]at h;obtain⟨ch,hc,e⟩:=Cu.mp h;have:ch = '0':=by
  have e2:ch.toNat=('0').toNat:=e;exact Char.ext (UInt32.toNat_inj.mp e2)
 rw[this]at hc;exact Decidable.byContradiction fun z=>Bp n z hc
noncomputable def dig(w:Str):Bool:=w.cps.toList.all fun c=>decide (48<=c)&&decide (c<=57)
noncomputable def nOf(figs:Nat)(w:Str):Option Nat:=if w.cps.toList = []∨figs<w.length∨dig w=false then none else if w.cps.toList.head?=some 48/\w.length≠1 then none else some (Gd w.cps.toList)
theorem dig_tx(n:Nat):dig (tx n)=true:=DN.mpr fun c hc=>by
 have:=nu n c hc;simp[this.1,this.2]
theorem zu{k n:Nat}(h:n<10^(k+1)):nOf (k+1) (tx n)=some n:=by
 have hl:=bY h;unfold nOf;rw[if_neg,if_neg,yO]
 ·rintro⟨a,b⟩;have z:=tx_hd a;subst z;exact b (by decide)
 ·rintro(a | a | a)
  ·exact zY n a
  ·omega
  ·rw[dig_tx]at a;cases a
structure Txt(mg:Str->Option Value):Prop where
 n_max:mg "max" = none
 n_min:mg "min" = none
 n_len:mg "len" = none
 n_int:mg "int" = none
 n_str:mg "str" = none
 n_bool:mg "bool" = none
 n_list:mg "list" = none
 n_tuple:mg "tuple" = none
 n_range:mg "range" = none
 n_all:mg "all" = none
 n_enumerate:mg "enumerate" = none
 n_isinstance:mg "isinstance" = none
 figs:∃ t,mg "MOST_FIGURES" = some (.int 31 t)
 most:∃ t,mg "MOST_TIES" = some (.int 80 t)
theorem oR{α:Type}{x:α}{xs:List α}:atI (x::xs) 0=some x:=aO (j:=0) rfl
theorem a7{n:Nat}(h:n<10^40):((n:Int)).natAbs.log2<1920:=by
 rw[Int.natAbs_natCast];by_cases z:n=0
 ·subst z;decide
 ·exact(Nat.log2_lt z).mpr (Cb h (by decide))
theorem eZ:∀{ws:List Str}{k:Nat},(∀ w∈ws,w.length<=k)->(ws.map (·.length)).sum<=ws.length*k
 |[],_,_=>by simp
 |w::ws,k,h=>by
  have:=eZ (ws:=ws) fun x hx=>h x (BO _ hx);have:=h w (BQ ..);rw[BW,List.sum_cons,BK,Nat.succ_mul];omega
theorem mC(c:Nat):∀ ws:List Str,(Str.join ⟨#[c]⟩ ws).length<=(ws.map (·.length)).sum+ws.length
 |[]=>BI 0
 |[a]=>by show a.length<=a.length+0+1;omega
 |a::b::r=>by
  have:=mC c (b::r);show(a++⟨#[c]⟩++Str.join ⟨#[c]⟩ (b::r)).length<=_;rw[Str.length_append,Str.length_append,BW,List.sum_cons,BK];show a.length+1+_<=_;omega
noncomputable def oV:Option Nat->V
 |none=>.non
 |some n=>.int (n:Int)
noncomputable def Asc(w:Str):Prop:=w.cps.all (· < 128)=true
noncomputable def spNum:Sp:=fun vs H Q _=>∃(w:Str)(k:Nat),vs = [.str w,.int (k:Int)]/\k<=600/\w.length<=400000/\Asc w/\∀ H',Same H H'->Q (oV (nOf k w)) H'
section
variable{P:Program}{w:World}{K:BD}{mg:Str->Option Value}{base:Heap}
theorem nG:aJ ["word","figures"] ["word","figures"] (ay gP):=by ac_nf
theorem ok_num{f:Addr}{fd:FuncData} (F:Fun K "number_of" "number_of" gP f fd) (T:Txt mg):FnOk P w K mg base CX0 1 f fd ["word","figures"] spNum:=by
 refine F.ok nG (fun vs H Q E h=>?_) (fun cdv A outer s H vs Q E hr h=>?_)
 ·obtain⟨a,ws,rfl,_⟩:=h;rfl
 obtain⟨w,k,rfl,hk,hl,ha,kk⟩:=h;have s640:(400000:Nat)<=sizeLine:=by decide
 refine⟨_,(af (bf (PW.pt (iA (ax bu (pv 0) aE (aA _)) (iA (ax nR (au oF (by rfl) T.n_len aN (aa (pv 0) ag)) (pv 1) (aA _)) (iz (vg (vf (au (xf rfl) (by rfl) T.n_all bt_all (aa (cG rfl rfl rfl rfl (fr:=[]) (xs:=["sign"]) (dA.of (by rfl) (by decide) (by rfl) (by decide) (fun p hp=>nomatch hp) (by decide) (fun p hp=>nomatch hp)) (pi_str (pv 0)) (fun C ex s H=>(aQ (i:=0) (show(["sign"]:List Str).Nodup from by decide) rfl (Or.inl rfl))) (fun C ex s H=>cE) (fun C ex s H ps XE=>(cR vB (pv 0) aE (by with_unfolding_all rfl)))) ag)))))))) (ak (aG eh)) aF)
   (af (bf (PW.pt (ve (ax bu (aL vX (pv 0) ai (fun _ _=>rfl)) aE (aA _)) (pD (ax jB (pv 0) aE (aA _))))) (ak (aG eh)) aF)
   (ak (aG (aK oG (by rfl) T.n_int oJ (aa (pv 0) ag)))))),?_⟩
 have eE:decide (V.str w=V.str (("" : String):Str))=decide (w.cps.toList = []):=decide_eq_decide.mpr ⟨fun z=>by rw[V.str.inj z,tK];rfl,fun z=>by rw[tK,jV (a:=w) (b:=Str.empty) z]⟩
 refine⟨_,rfl,rfl,_,rfl,?_⟩;rw[eE];have kN:nOf k w=none->∀ H',Same H H'->Q .non H':=fun z H' s=>by
  have:=kk H' s;rwa[z]at this
 refine ite2 (fun c=>iteT (kN (if_pos (.inl (of_decide_eq_true c))) _ fun _ _ q=>q)) (fun c=>?_);have ne:w.cps.toList≠[]:=fun z=>c (decide_eq_true z);refine⟨_,rfl,w,rfl,Co hl s640,_,rfl,_,_,rfl,rfl,_,rfl,ite2 (fun c2=>iteT (kN (if_pos (.inr (.inl (by have:=of_decide_eq_true c2;omega)))) _ fun _ _ q=>q)) (fun c2=>?_)⟩
 have le:w.length<=k:=by
  have:¬ ((k:Int)<(w.length:Int)):=fun z=>c2 (decide_eq_true z);omega
 refine⟨_,rfl,w,rfl,ha,lx.g (yH (x:=w) (fun i ys H2=>ys=(w.cps.toList.take i).map (fun c=>V.bl (decide (48<=c)&&decide (c<=57)))/\H2=H) (Co hl s640) ⟨rfl,rfl⟩ ?_ ?_)⟩
 ·rintro i d ys H2 hd ⟨rfl,rfl⟩;refine⟨_,rfl,_,_,rfl,rfl,?_,rfl⟩;have fo:=StrLaws.found_one (("0123456789" : String):Str) d;have e10:(("0123456789" : String):Str).cps.toList = [48,49,50,51,52,53,54,55,56,57]:=by decide
  rw[e10]at fo;rw[fo,Cv,EM,hd,Cn];have:decide (d∈[48,49,50,51,52,53,54,55,56,57])=(decide (48<=d)&&decide (d<=57)):=by
   by_cases z:d<58
   ·exact(show ∀ d,d<58->decide (d∈[48,49,50,51,52,53,54,55,56,57])=(decide (48<=d)&&decide (d<=57)) by decide) d z
   ·rw[decide_eq_false (p:=d<=57) (fun y=>z (Nat.lt_succ_of_le y)),Bool.and_false];exact decide_eq_false fun y=>z ((show ∀ d∈[48,49,50,51,52,53,54,55,56,57],d<58 by decide) d y)
  rw[this];rfl
 ·rintro ys H2 _ ⟨rfl,rfl⟩ D hD;have eT:w.cps.toList.take w.cps.size=w.cps.toList:=by rw[← Dn,CQ]
  rw[eT];refine⟨D,w.cps.toList.map (fun c=>decide (48<=c)&&decide (c<=57)),rfl,SqL.of (by rw[ae,Dj];rfl),_,rfl,?_⟩
  have ea:(w.cps.toList.map (fun c=>decide (48<=c)&&decide (c<=57))).all id=dig w:=by unfold dig;rw[List.all_map];rfl
  rw[ea];have sD:Same H2 (upd H2 D (.lst (w.cps.toList.map (fun c=>V.bl (decide (48<=c)&&decide (c<=57)))))):=aj hD _
  cases hd:dig w with
  |false=>exact iteT (kN (if_pos (.inr (.inr hd))) _ sD)
  |true =>
   refine iteF ?_;have n1:¬ (w.cps.toList = []∨k<w.length∨dig w=false):=by
    rintro(z | z | z)
    ·exact ne z
    ·omega
    ·rw[hd]at z;cases z
   obtain⟨h0,tl,ew⟩:=DL ne;have ad:PySem.NumText.AllDigits w.cps.toList:=fun c hc=>by
    have:=DN.mp hd c hc;rw[CZ]at this;exact⟨of_decide_eq_true this.1,of_decide_eq_true this.2⟩
   have fin:¬ (w.cps.toList.head?=some 48/\w.length≠1)->tRet (tCB (fun xs H Q=>∃ z n,xs = [V.str z]/\intText? z=some n/\z.length<=640/\Q (V.int n) H) (tCons (tVar 0) tNil)) { nx:=fun x H'=>Q V.non H',rt:=Q } (L2.start [Str.ofString "word",Str.ofString "figures"] [V.str w,V.int (k:Int)]) (upd H2 D (.lst (w.cps.toList.map (fun c=>V.bl (decide (48<=c)&&decide (c<=57)))))):=fun n2=>by
    refine⟨_,rfl,w,_,rfl,intText_digits ad ne (by omega),by omega,?_⟩
    have:=kk _ sD;unfold nOf at this;rw[if_neg n1,if_neg n2]at this;exact this
   refine⟨_,rfl,w,0,h0,rfl,rfl,Co hl s640,by rw[ew];exact oR,rfl,_,rfl,ite2 (fun c3=>?_) (fun c3=>?_)⟩
   ·have e0:h0=48:=by
     have z:=V.str.inj (of_decide_eq_true c3);have z2:=congrArg (fun s:Str=>s.cps.toList) z;have e48:(("0" : String):Str).cps.toList = [48]:=by decide
     rw[e48]at z2;exact(DZ z2).1
    refine⟨_,rfl,rfl,_,rfl,ite2 (fun c4=>?_) (fun c4=>?_)⟩
    ·refine kN ?_ _ sD;unfold nOf;rw[if_neg n1,if_pos];refine⟨by rw[ew,e0];rfl,fun z=>?_⟩
     have z3:w=(("0" : String):Str):=jV (by
      have e48:(("0" : String):Str).cps.toList = [48]:=by decide
      rw[jU,ew]at z;have:tl = []:=DX.mp (by simpa using z)
      rw[e48,ew,this,e0])
     rw[z3]at c4;simp at c4
    ·refine fin fun⟨_,z⟩=>z ?_;have z3:w=(("0" : String):Str):=by
      have:¬ (!decide (V.str w=V.str (("0" : String):Str)))=true:=c4;simpa using this
     rw[z3];decide
   ·refine iteF (fin fun⟨z,_⟩=>c3 (decide_eq_true ?_));rw[ew]at z
    cases z
    have:(⟨#[48]⟩:Str)=(("0" : String):Str):=by decide
    rw[this]
end
noncomputable def bT(first row:Str)(k:Nat):Option (List Nat):=match CC row spS with
 |[]=>none
 |w::ws=>if w=first/\(ws.map (nOf k)).all DV=true then some (ws.map fun z=>(nOf k z).getD 0) else none
noncomputable def lV(H:Hp)(v:V):Option (List Nat)->Prop
 |none=>v=.non
 |some ns=>∃ a,v=.ref a/\H a=some (.lst (ns.map iV))
noncomputable def xH:Sp:=fun vs H Q _=>∃(first row:Str)(k:Nat),vs = [.str first,.str row,.int (k:Int)]/\k<=600/\row.length<=300000/\Asc row/\∀ v H',Same H H'->lV H' v (bT first row k)->Q v H'
theorem qP(row:Str)(c:Nat):CC row ⟨#[c]⟩≠[]:=fun z=>by
 have e:=split_len row c;rw[z]at e;have:=xb c row.cps.toList;simp at e;omega
theorem zx{c d:Nat}:∀{P:List (List Nat)}{p:List Nat},p∈P->d∈p->d∈jn c P
 |[a],p,hp,hd=>by
  rw[BR.mp hp]at hd;exact hd
 |a::b::r,p,hp,hd=>by
  show d∈a++c::jn c (b::r);rcases BG.mp hp with rfl | hp
  ·exact CD _ hd
  ·exact B0 _ (BO _ (zx hp hd))
theorem zy{c:Nat}:∀{P:List (List Nat)}{p:List Nat},p∈P->p.length<=(jn c P).length
 |[a],p,hp=>by rw[BR.mp hp];exact BI _
 |a::b::r,p,hp=>by
  show _<=(a++c::jn c (b::r)).length;rw[BE,BK];rcases BG.mp hp with rfl | hp
  ·omega
  ·have:=zy (c:=c) hp
   omega
theorem uE{row w:Str}{c:Nat}(h:Asc row)(hw:w∈CC row ⟨#[c]⟩):Asc w/\w.length<=row.length:=by
 have h2:=congrArg (fun s:Str=>s.cps.toList) (StrLaws.join_split row ⟨#[c]⟩);simp only[fA]at h2;have hm:w.cps.toList∈(CC row ⟨#[c]⟩).map (·.cps.toList):=B9.mpr ⟨w,hw,rfl⟩;constructor
 ·unfold Asc at h ⊢;rw[← Array.all_toList]at h ⊢;rw[DN]at h ⊢;intro x hx;refine h x ?_;rw[← h2];exact zx hm hx
 ·rw[jU,jU,← h2];exact zy hm
theorem rQ(xs:List V):cutV xs (some 1) none=xs.drop 1:=by
 unfold cutV;have q:=HT.sIx_nat xs.length 0 1;rw[show((1:Nat):Int)=(1:Int) from rfl]at q;rw[q,HT.sIx_none];rw[Cc (by rw[Cq];omega)]
 by_cases h:1<=xs.length
 ·rw[De h]
 ·have e:xs = []:=DX.mp (by omega)
  subst e;rfl
theorem zD(k:Nat):∀ zs:List Str,inV .non (zs.map fun z=>oV (nOf k z)) = !((zs.map (nOf k)).all DV)
 |[]=>rfl
 |z::zs=>by
  have ih:=zD k zs;unfold inV at ih ⊢;rw[BW,Ek,ih,BW,Fd]
  cases nOf k z<;>rfl
theorem wx(k:Nat):∀ zs:List Str,(zs.map fun z=>oV (nOf k z)).all mG=true
 |[]=>rfl
 |z::zs=>by
  rw[BW,Fd,wx k zs]
  cases nOf k z<;>rfl
theorem vK{k:Nat}:∀{zs:List Str},(zs.map (nOf k)).all DV=true->(zs.map fun z=>oV (nOf k z))=(zs.map fun z=>(nOf k z).getD 0).map iV
 |[],_=>rfl
 |z::zs,h=>by
  rw[BW,Fd,CZ]at h;obtain⟨n,hn⟩:=EC.mp h.1;rw[BW,BW,BW,vK h.2,hn];rfl
section
variable{P:Program}{w:World}{K:BD}{mg:Str->Option Value}{base:Heap}
theorem cO:aJ ["first","row","figures","words","numbers"] ["first","row","figures"] (ay dg):=by ac_nf
theorem ok_beh{f f1:Addr}{fd fd1:FuncData} (F:Fun K "numbers_behind" "numbers_behind" dg f fd) (G_number_of:Cal P w K mg base 1 "number_of" ["word","figures"] spNum f1 fd1):FnOk P w K mg base CX0 2 f fd ["first","row","figures"] xH:=by
 refine F.ok cO (fun vs H Q E h=>?_) (fun cdv A outer s H vs Q E hr h=>?_)
 ·obtain⟨v,i,k,rfl,_⟩:=h;rfl
 obtain⟨first,row,k,rfl,hk,hl,ha,kk⟩:=h
 refine⟨_,(af (av (i:=3) cO.nd rfl (Or.inl rfl) (bP CB C3 DI gn (pv 1) (aa aE ag)))
   (af (gW (i:=4) rfl rfl rfl rfl cO.nd rfl rfl (fr:=[("figures",2)]) (xs:=["word"]) (dA.of (by rfl) (by decide) (by rfl) (by decide) (by intro p hp;simp only[BG,Ct,or_false]at hp;rcases hp with rfl<;>exact⟨rfl,rfl⟩) (by decide) (by intro p hp;simp only[BG,Ct,or_false]at hp;rcases hp with rfl<;>rfl)) (cp (cF dJ (pv 3) (cQ ai) ft)) (fun C ex s H=>(aQ (i:=0) (show(["word","figures"]:List Str).Nodup from by decide) rfl (Or.inl rfl))) (fun C ex s H=>cE) (fun C ex s H ps XE=>(aI G_number_of.ok (hr.mono (by decide)) rfl G_number_of.mg G_number_of.kp G_number_of.bn .nil bA (aa (pv 0) (aa (pv 1) ag)))))
   (af (bf (PW.pt (iA (ax jB (aL aD (pv 3) ai (fun _ _=>rfl)) (pv 0) (aA _)) (iz (ax nQ eh (pv 4) (by with_unfolding_all rfl))))) (ak (aG eh)) aF)
   (ak (aG (pv 4)))))),?_⟩
 rw[jW];have sl:=split_le row spS;have s1:(400000:Nat)<=sizeLine:=by decide
 refine⟨_,rfl,rfl,row,spS,rfl,rfl,rfl,by omega,fun l hl=>?_⟩
 obtain⟨w0,ws,ew⟩:=DL (qP row 32);have ew':CC row spS=w0::ws:=ew;rw[ew'];rw[ew',BK]at sl;refine⟨_,rfl,_,rfl,l,_,rfl,SqL.of ae,fun c hc=>?_⟩;have ec:cutV ((w0::ws).map V.str) (some 1) none=ws.map V.str:=rQ _;rw[ec];refine⟨c,rfl,⟨_,SqL.of ae⟩,?_⟩;have sA:Same H (upd H l (.lst ((w0::ws).map V.str))):=aj hl _;have sB:=aj hc (.lst (ws.map V.str));generalize hH1:upd (upd H l (.lst ((w0::ws).map V.str))) c (.lst (ws.map V.str))=H1 at sB ⊢;have cH1:H1 c=some (.lst (ws.map V.str)):=by rw[← hH1,ae]
 have lH1:H1 l=some (.lst ((w0::ws).map V.str)):=sB _ _ ae;have aw:∀ z∈w0::ws,Asc z/\z.length<=row.length:=fun z hz=>uE (c:=32) ha (by rw[ew];exact hz)
 refine cU (K:=K) (xs:=ws.map V.str) (fun i ys H2=>ys=(ws.take i).map (fun z=>oV (nOf k z))/\Same H1 H2) (by rw[BC];omega) ⟨rfl,fun _ _ q=>q⟩ (fun i ys H2 _ ⟨_,z⟩=>SqL.of (z _ _ cH1)) ?_ ?_
 ·rintro i x ys H2 hx ⟨rfl,s2⟩;rw[BJ]at hx;obtain⟨z,hz,rfl⟩:=Cu.mp hx;have az:=aw z (BO _ (BF hz));refine⟨_,rfl,_,rfl,z,k,rfl,hk,by omega,az.1,fun H' s'=>⟨?_,s2.trans s'⟩⟩
  rw[Cv,hz,Cn];rfl
 ·rintro ys H2 _ ⟨rfl,s2⟩ D hD;rw[BC,CQ];have sD:=aj hD (.lst (ws.map fun z=>oV (nOf k z)));have sAll:Same H (upd H2 D (.lst (ws.map fun z=>oV (nOf k z)))):=sA.trans (sB.trans (s2.trans sD));have eb:bT first row k=if w0=first/\(ws.map (nOf k)).all DV=true then some (ws.map fun z=>(nOf k z).getD 0) else none:=by
   unfold bT;rw[ew']
  have ed:(!decide (V.str w0=V.str first)) = !decide (w0=first):=congrArg _ (decide_eq_decide.mpr ⟨V.str.inj,congrArg V.str⟩);refine⟨_,rfl,l,_,0,.str w0,rfl,rfl,SqL.of (sD _ _ (s2 _ _ lH1)),oR,_,rfl,rfl,_,rfl,?_⟩;rw[ed];refine ite2 (fun c1=>iteT (kk _ _ sAll ?_)) (fun c1=>?_)
  ·rw[eb,if_neg fun z=>by rw[decide_eq_true z.1]at c1;cases c1]
   rfl
  refine⟨_,rfl,D,_,rfl,.inl (SqL.of ae),rfl,wx k ws,_,rfl,?_⟩;have ef:(if false=true then !inV V.non (ws.map fun z=>oV (nOf k z)) else inV V.non (ws.map fun z=>oV (nOf k z))) = !((ws.map (nOf k)).all DV):=zD k ws;rw[ef]
  cases hall:(ws.map (nOf k)).all DV with
  |false =>
   refine iteT (kk _ _ sAll ?_);rw[eb,if_neg fun z=>by rw[hall]at z;exact Bool.noConfusion z.2]
   rfl
  |true =>
   refine iteF ⟨_,rfl,kk _ _ sAll ?_⟩;have w1:w0=first:=Decidable.byContradiction fun z=>c1 (by rw[decide_eq_false z];rfl)
   rw[eb,if_pos ⟨w1,hall⟩];exact⟨D,rfl,by rw[ae,vK hall]⟩
end
theorem vL{K:BD}{H:Hp}{a:Addr}{ps:List Nat}(h:SqL K H a (ps.map iV)):RdD K H (.ref a) (.list ((ps.map fun(p:Nat)=>((p:Nat):Int)).map PyData.int)):=by
 refine RdD.lst h (by simp) fun i x d e1 e2=>?_
 rw[BJ]at e1;rw[BJ,BJ]at e2
 cases z:ps[i]? with
 |none=>rw[z]at e1;cases e1
 |some n =>
  rw[z]at e1 e2
  cases e1
  cases e2
  exact .int _
theorem kC(l:List Int):SeqAt.shaped (.list (l.map PyData.int))=true:=jX fun d hd=>by
 obtain⟨x,_,rfl⟩:=B9.mp hd;exact⟨by simp[PyData.canLay0],by simp[PyData.depth]⟩
theorem jN{X:Cx}{x:Str}{n:Int}{pos:Pos}(hg:Gl X x)(hm:∃ t,X.mg x=some (.int n t)) (hd:(x == ("__debug__" : Str))=false:=by decide):PE X (.Name x pos) (tC (.int n)):=by
 obtain⟨t,h⟩:=hm;exact gX hg h ⟨t,rfl⟩ hd
noncomputable def Rw(row:Str):Prop:=row.length<=300000/\Asc row
noncomputable def fw(row:Str):Str:=(PySem.Txt.partition row spS).1
noncomputable def plW:Str:=(("places" : String):Str)
noncomputable def abW:Str:=(("about" : String):Str)
noncomputable def plO(row:Str):Option Nat:=match bT plW row 31 with
 |some [m]=>if 2<=m/\m<=40 then some m else none
 |_=>none
noncomputable def tieO(row:Str):Option (Nat×Nat×Nat):=match bT (fw row) row 31 with
 |some [a,b,s]=>if s<=10^30 then some (a,b,s) else none
 |_=>none
noncomputable def iq(pl:Nat)(row:Str):Option (List Nat):=match bT abW row 31 with
 |some (p::r)=>if p=pl then some r else none
 |_=>none
noncomputable def spFW:Sp:=fun vs H Q _=>∃ row:Str,vs = [.str row]/\row.length<=300000/\∀ H',Same H H'->Q (.str (fw row)) H'
noncomputable def qU:Sp:=fun vs H Q _=>∃ row:Str,vs = [.str row]/\Rw row/\∀ H',Same H H'->Q (oV (plO row)) H'
noncomputable def yV:Sp:=fun vs H Q _=>∃ row:Str,vs = [.str row]/\Rw row/\(tieO row=none->∀ H',Same H H'->Q .non H')/\(∀ a b s,tieO row=some (a,b,s)->∀ p H',Same H H'->H' p=some (.tup [.str (fw row),iV a,iV b,iV s])->Q (.ref p) H')
noncomputable def uF:Sp:=fun vs H Q _=>∃(row:Str)(pl:Nat),vs = [iV pl,.str row]/\Rw row/\(iq pl row=none->∀ H',Same H H'->Q .non H')/\(∀ r,iq pl row=some r->∀ p H',Same H H'->H p=none->H' p=some (.lst (r.map iV))->Q (.ref p) H')
section
variable{P:Program}{w:World}{K:BD}{mg:Str->Option Value}{base:Heap}
theorem lP:aJ ["row"] ["row"] (ay fN):=by ac_nf
theorem ok_fw{f:Addr}{fd:FuncData} (F:Fun K "first_word" "first_word" fN f fd):FnOk P w K mg base CX0 1 f fd ["row"] spFW:=by
 refine F.ok lP (fun vs H Q E h=>?_) (fun cdv A outer s H vs Q E hr h=>?_)
 ·obtain⟨row,rfl,_⟩:=h;rfl
 obtain⟨row,rfl,hl,kk⟩:=h;refine⟨_,(ak (aG (aL br (bP CB F0 PySem.F.type_str_partition nU (pv 0) (aa aE ag)) ai (fun _ _=>rfl)))),?_⟩;rw[jW];refine⟨_,rfl,rfl,row,spS,rfl,rfl,rfl,by omega,fun l hl=>?_⟩
 exact⟨l,_,0,_,rfl,rfl,SqT.of ae,rfl,kk _ (aj hl _)⟩
theorem gy:aJ ["row","numbers"] ["row"] (ay fj):=by ac_nf
theorem vI{f f1:Addr}{fd fd1:FuncData} (F:Fun K "places_told" "places_told" fj f fd) (T:Txt mg) (G_numbers_behind:Cal P w K mg base 2 "numbers_behind" ["first","row","figures"] xH f1 fd1):FnOk P w K mg base CX0 3 f fd ["row"] qU:=by
 refine F.ok gy (fun vs H Q E h=>?_) (fun cdv A outer s H vs Q E hr h=>?_)
 ·obtain⟨row,rfl,_⟩:=h;rfl
 obtain⟨row,rfl,hR,kk⟩:=h
 refine⟨_,(af (av (i:=1) gy.nd rfl (Or.inl rfl) (aI G_numbers_behind.ok (hr.mono (by decide)) rfl G_numbers_behind.mg G_numbers_behind.kp G_numbers_behind.bn .nil bA (aa aE (aa (pv 0) (aa (jN rfl T.figs) ag)))))
   (af (bf (PW.pt (iA (ax nP (pv 1) eh (aA _)) (iA (ax jB (au ao (by rfl) T.n_len aN (aa (pv 1) ag)) ai (aA _)) (iA (ax md (aL aD (pv 1) ai (fun _ _=>rfl)) ai (aA _)) (iz (ax nR (aL aD (pv 1) ai (fun _ _=>rfl)) ai (aA _))))))) (ak (aG eh)) aF)
   (ak (aG (aL aD (pv 1) ai (fun _ _=>rfl)))))),?_⟩
 refine⟨_,rfl,_,row,31,rfl,by decide,hR.1,hR.2,fun v H1 s1 hv=>?_⟩
 have kn:=kk H1 s1;unfold plO at kn
 cases hb:bT plW row 31 with
 |none =>
  rw[show bT (("places" : String):Str) row 31=none from hb]at hv;rw[hb]at kn;obtain rfl:v=.non:=hv;exact⟨_,rfl,rfl,_,rfl,iteT kn⟩
 |some ns =>
  rw[show bT (("places" : String):Str) row 31=some ns from hb]at hv;rw[hb]at kn;obtain⟨a,rfl,ha⟩:=hv;refine⟨_,rfl,rfl,_,rfl,ite2 (fun c=>absurd (of_decide_eq_true c) (by intro z;cases z)) (fun _=>?_)⟩
  refine⟨_,rfl,a,_,rfl,.inl (SqL.of ha),rfl,_,rfl,?_⟩;match ns,ha,kn with
  |[],ha,kn=>exact iteT kn
  |x::y::r,ha,kn=>exact ite2 (fun _=>kn) (fun c=>absurd (by rw[decide_eq_false (fun z=>by have z:=V.int.inj z;rw[BC,BK,BK]at z;omega)];rfl) c)
  |[m],ha,kn =>
   have kn:Q (oV (if 2<=m/\m<=40 then some m else none)) H1:=kn;refine iteF ?_;refine⟨_,rfl,a,_,0,_,rfl,rfl,SqL.of ha,oR,_,_,rfl,rfl,_,rfl,ite2 (fun c=>?_) (fun c=>?_)⟩
   ·have c':=of_decide_eq_true c
    rw[if_neg (by omega)]at kn
    exact iteT kn
   have c1:¬ ((m:Int)<2):=fun z=>c (decide_eq_true z);refine⟨_,rfl,a,_,0,_,rfl,rfl,SqL.of ha,oR,_,_,rfl,rfl,_,rfl,ite2 (fun c=>?_) (fun c=>?_)⟩
   ·have c':=of_decide_eq_true c
    rw[if_neg (by omega)]at kn
    exact kn
   have c2:¬ ((40:Int)<m):=fun z=>c (decide_eq_true z);rw[if_pos ⟨by omega,by omega⟩]at kn
   exact⟨_,rfl,a,_,0,_,rfl,rfl,SqL.of ha,oR,kn⟩
theorem gI:aJ ["row","kind","numbers"] ["row"] (ay iR):=by ac_nf
theorem AB{f f1 f2:Addr}{fd fd1 fd2:FuncData} (F:Fun K "tie_told" "tie_told" iR f fd) (T:Txt mg) (G_first_word:Cal P w K mg base 1 "first_word" ["row"] spFW f2 fd2) (G_numbers_behind:Cal P w K mg base 2 "numbers_behind" ["first","row","figures"] xH f1 fd1):FnOk P w K mg base CX0 3 f fd ["row"] yV:=by
 refine F.ok gI (fun vs H Q E h=>?_) (fun cdv A outer s H vs Q E hr h=>?_)
 ·obtain⟨row,rfl,_⟩:=h;rfl
 obtain⟨row,rfl,hR,kn,kk⟩:=h
 refine⟨_,(af (av (i:=1) gI.nd rfl (Or.inl rfl) (aI G_first_word.ok (hr.mono (by decide)) rfl G_first_word.mg G_first_word.kp G_first_word.bn .nil bA (aa (pv 0) ag)))
   (af (av (i:=2) gI.nd rfl (Or.inl rfl) (aI G_numbers_behind.ok (hr.mono (by decide)) rfl G_numbers_behind.mg G_numbers_behind.kp G_numbers_behind.bn .nil bA (aa (pv 1) (aa (pv 0) (aa (jN rfl T.figs) ag)))))
   (af (bf (PW.pt (iA (ax nP (pv 2) eh (aA _)) (iA (ax jB (au ao (by rfl) T.n_len aN (aa (pv 2) ag)) ai (aA _)) (iz (ax nR (aL aD (pv 2) ai (fun _ _=>rfl)) (aq kg ai ai) (aA _)))))) (ak (aG eh)) aF)
   (ak (aG (bG (aa (pv 1) (aa (aL aD (pv 2) ai (fun _ _=>rfl)) (aa (aL aD (pv 2) ai (fun _ _=>rfl)) (aa (aL aD (pv 2) ai (fun _ _=>rfl)) ag)))))))))),?_⟩
 refine⟨_,rfl,row,rfl,hR.1,fun H0 s0=>?_⟩;refine⟨_,rfl,_,rfl,_,row,31,rfl,by decide,hR.1,hR.2,fun v H1 s1 hv=>?_⟩
 have s01:=s0.trans s1;unfold tieO at kn kk
 cases hb:bT (fw row) row 31 with
 |none =>
  rw[hb]at hv kn;obtain rfl:v=.non:=hv;exact⟨_,rfl,rfl,_,rfl,iteT (kn rfl _ s01)⟩
 |some ns =>
  rw[hb]at hv kn kk;obtain⟨q,rfl,hq⟩:=hv;refine⟨_,rfl,rfl,_,rfl,ite2 (fun c=>absurd (of_decide_eq_true c) (by intro z;cases z)) (fun _=>?_)⟩
  refine⟨_,rfl,q,_,rfl,.inl (SqL.of hq),rfl,_,rfl,?_⟩;rcases ns with _ | ⟨a,_ | ⟨b,_ | ⟨s',_ | ⟨d,r⟩⟩⟩⟩
  ·exact iteT (kn rfl _ s01)
  ·exact iteT (kn rfl _ s01)
  ·exact iteT (kn rfl _ s01)
  ·have kn:(if s'<=10^30 then some (a,b,s') else none)=none->_:=kn
   have kk:∀ a1 b1 s1,(if s'<=10^30 then some (a,b,s') else none)=some (a1,b1,s1)->_:=kk;have e30:(10:Int)^(30:Int).toNat=((10^30:Nat):Int):=by decide
   refine iteF ?_;refine⟨_,rfl,q,_,2,_,rfl,rfl,SqL.of hq,(rfl:atI [iV a,iV b,iV s'] 2=some (iV s')),_,_,rfl,rfl,⟨by decide,by decide,by decide⟩,_,_,rfl,rfl,_,rfl,ite2 (fun c=>?_) (fun c=>?_)⟩
   ·have c':=of_decide_eq_true c
    rw[e30]at c';exact kn (if_neg (by omega)) _ s01
   have c':¬ ((10:Int)^(30:Int).toNat<(s':Int)):=fun z=>c (decide_eq_true z);rw[e30]at c';refine⟨_,rfl,_,rfl,q,_,0,_,rfl,rfl,SqL.of hq,(rfl:atI [iV a,iV b,iV s'] 0=some (iV a)),_,rfl,q,_,1,_,rfl,rfl,SqL.of hq,(rfl:atI [iV a,iV b,iV s'] 1=some (iV b)),_,rfl,q,_,2,_,rfl,rfl,SqL.of hq,(rfl:atI [iV a,iV b,iV s'] 2=some (iV s')),(by show 4<=sizeLine;decide),fun t ht=>?_⟩
   exact kk a b s' (if_pos (by omega)) t _ (s01.trans (aj ht _)) ae
  ·exact ite2 (fun _=>kn rfl _ s01) (fun c=>absurd (by rw[decide_eq_false (fun z=>by have z:=V.int.inj z;rw[BC,BK,BK,BK,BK]at z;omega)];rfl) c)
theorem jt:aJ ["place","row","numbers"] ["place","row"] (ay gM):=by ac_nf
theorem xZ{f f1:Addr}{fd fd1:FuncData} (F:Fun K "turn_told" "turn_told" gM f fd) (T:Txt mg) (G_numbers_behind:Cal P w K mg base 2 "numbers_behind" ["first","row","figures"] xH f1 fd1):FnOk P w K mg base CX0 3 f fd ["place","row"] uF:=by
 refine F.ok jt (fun vs H Q E h=>?_) (fun cdv A outer s H vs Q E hr h=>?_)
 ·obtain⟨row,pl,rfl,_⟩:=h;rfl
 obtain⟨row,pl,rfl,hR,kn,kk⟩:=h;have hu64:=hr.units
 refine⟨_,(af (av (i:=2) jt.nd rfl (Or.inl rfl) (aI G_numbers_behind.ok (hr.mono (by decide)) rfl G_numbers_behind.mg G_numbers_behind.kp G_numbers_behind.bn .nil bA (aa aE (aa (pv 1) (aa (jN rfl T.figs) ag)))))
   (af (bf (PW.pt (iA (ax nP (pv 2) eh (aA _)) (iA (ax (op_eqG hu64) (pv 2) (bh ag) (aA _)) (iz (ax jB (aL aD (pv 2) ai (fun _ _=>rfl)) (pv 0) (aA _)))))) (ak (aG eh)) aF)
   (ak (aG (cF dJ (pv 2) (cQ ai) ft))))),?_⟩
 refine⟨_,rfl,_,row,31,rfl,by decide,hR.1,hR.2,fun v H1 s1 hv=>?_⟩
 have hv:lV H1 v (bT abW row 31):=hv;unfold iq at kn kk
 cases hb:bT abW row 31 with
 |none =>
  rw[hb]at hv kn;obtain rfl:v=.non:=hv;exact⟨_,rfl,rfl,_,rfl,iteT (kn rfl _ s1)⟩
 |some ns =>
  rw[hb]at hv kn kk;obtain⟨a,rfl,ha⟩:=hv;refine⟨_,rfl,rfl,_,rfl,ite2 (fun c=>absurd (of_decide_eq_true c) (by intro z;cases z)) (fun _=>?_)⟩
  refine⟨_,rfl,(by show 0<=sizeLine;decide),fun e he=>?_⟩
  have se:=aj he (.lst []);have ha':=se _ _ ha;refine⟨_,_,vL (ps:=ns) (SqL.of ha'),vL (ps:=[]) (SqL.of ae),kC _,kC _,_,rfl,?_⟩;rw[rN];match ns,ha',kn,kk with
  |[],_,kn,_=>exact iteT (kn rfl _ (s1.trans se))
  |p::r,ha',kn,kk =>
   refine iteF ?_;refine⟨_,rfl,a,_,0,_,rfl,rfl,SqL.of ha',oR,_,rfl,rfl,_,rfl,?_⟩;by_cases c:p=pl
   ·subst c;rw[decide_eq_true rfl];refine iteF ⟨_,rfl,_,rfl,a,_,rfl,SqL.of ha',fun q hq=>?_⟩;have ec:cutV ((p::r).map iV) (some 1) none=r.map iV:=rQ _;rw[ec];refine kk r (if_pos rfl) q _ (s1.trans (se.trans (aj hq _))) ?_ ae
    cases y:H q with
    |none=>rfl
    |some o=>rw[se _ _ (s1 _ _ y)]at hq;cases hq
   ·rw[decide_eq_false (fun z=>c (by have:=V.int.inj z;omega))]
    exact iteT (kn (if_neg c) _ (s1.trans se))
end
noncomputable def spEI(K:BD)(fI:Addr):Sp:=fun vs H Q _=>∃(x C:Addr)(v:V),vs = [.ref x,v]/\H x=some (excN x C none)/\ErS K C fI "at"/\∀ d,H d=none->d≠x->Q .non (upd (upd H x (excN x C (some d))) d (.xd [("at",v)]))
structure OwnI(P:Program)(w:World)(K:BD)(mg:Str->Option Value)(base:Heap)(n:Str)(C fI:Addr)(fd:FuncData):Prop where
 er:ErS K C fI "at"
 fn:EY K (.ref fI)=true
 ok:FnOk P w K mg base CX0 1 fI fd ["self","at"] (spEI K fI)
 bn:d8 K fd ["self","at"] []
 mg:mg n=some (.ref C)
theorem nO{K:BD}{C fI:Addr} (er:ErS K C fI "at") {n:Int} {H:Hp} {W:Option Addr->Hp->Prop} (hW:∀ d H',Same H H'->H' d=some (.xd [("at",.int n)])->W (some d) H') (x:Addr) (hx:H x=none):spEI K fI [.ref x,.int n] (upd H x (excN x C none)) (fun v H2=>v=.non/\∃ d,H2 x=some (excN x C d)/\W d (del H2 x)) E0:=by
 refine⟨x,C,.int n,rfl,ae,er,fun d hd ne=>⟨rfl,some d,?_,hW d _ (fun b u q=>?_) ?_⟩⟩
 ·rw[ar (Ne.symm ne),ae]
 ·have bx:b≠x:=aV q hx
  have bd:b≠d:=fun z=>by
   rw[ar ne]at hd;rw[z,hd]at q
   cases q
  rw[iE bx,ar bd,ar bx,ar bx];exact q
 ·rw[iE ne,ae]
noncomputable def Bad(BT:Addr)(E:Value->Option Addr->Hp->Prop)(H:Hp)(n:Int):Prop:=∀ d H',Same H H'->H' d=some (.xd [("at",.int n)])->E (.ref BT) (some d) H'
noncomputable def jM(BT:Addr):Sp:=fun vs H Q E=>∃(v:V)(i:Int),vs = [v,.int i]/\(v≠.non->Q v H)/\(v=.non->Bad BT E H i)
noncomputable def lJ(K:BD)(BT:Addr):Sp:=fun vs H Q E=>∃(a:Addr)(xs:List V)(i:Nat),vs = [.ref a,.int (i:Int)]/\SqL K H a xs/\(∀ x,xs[i]?=some x->Q x H)/\(xs.length<=i->Bad BT E H ((xs.length:Int)+1))
section
variable{P:Program}{w:World}{K:BD}{mg:Str->Option Value}{base:Heap}
theorem iQ:aJ ["self","at"] ["self","at"] (ay bD):=by ac_nf
theorem ok_bti{f:Addr}{fd:FuncData} (F:Fun K "__init__" "BadText.__init__" bD f fd):FnOk P w K mg base CX0 1 f fd ["self","at"] (spEI K f):=by
 refine F.ok iQ (fun vs H Q E h=>?_) (fun cdv A outer s H vs Q E hr h=>?_)
 ·obtain⟨x,C,v,rfl,_⟩:=h;rfl
 obtain⟨x,C,v,rfl,hx,es,kk⟩:=h;refine⟨_,(ak (Au (fI:=f) rfl (pv 0) (pv 1) rfl)),?_⟩;exact⟨_,rfl,_,rfl,x,C,rfl,hx,es,kk⟩
theorem xK:aJ ["told","at"] ["told","at"] (ay pB):=by ac_nf
theorem vH{f g2 BT:Addr}{fd e2:FuncData} (F:Fun K "right" "right" pB f fd) (S_BadText:OwnI P w K mg base "BadText" BT g2 e2):FnOk P w K mg base (CXd P w) 3 f fd ["told","at"] (jM BT):=by
 refine F.okD xK (fun vs H Q E h=>?_) (fun cdv A outer s H vs Q E hr h=>?_)
 ·obtain⟨v,i,rfl,_⟩:=h;rfl
 obtain⟨v,i,rfl,k1,k2⟩:=h
 refine⟨_,(af (bf (ax nP (pv 0) eh (aA _)) (ak (iB S_BadText.er S_BadText.fn S_BadText.ok S_BadText.bn (hr.mono (by decide)) S_BadText.mg rfl bp rfl rfl (aa (pv 1) ag))) aF)
   (ak (aG (pv 0)))),?_⟩
 refine⟨_,rfl,rfl,_,rfl,ite2 (fun c=>?_) (fun c=>⟨_,rfl,k1 fun z=>c (decide_eq_true z)⟩)⟩;exact⟨_,rfl,(by decide:(1:Nat)<=sizeLine),fun x hx=>nO S_BadText.er (W:=fun d H'=>E (.ref BT) d H') (fun d H' s' hd=>k2 (of_decide_eq_true c) d H' s' hd) x hx⟩
theorem uR:aJ ["rows","number"] ["rows","number"] (ay lR):=by ac_nf
theorem vF{f g2 BT:Addr}{fd e2:FuncData} (F:Fun K "row_at" "row_at" lR f fd) (T:Txt mg) (S_BadText:OwnI P w K mg base "BadText" BT g2 e2):FnOk P w K mg base (CXd P w) 3 f fd ["rows","number"] (lJ K BT):=by
 refine F.okD uR (fun vs H Q E h=>?_) (fun cdv A outer s H vs Q E hr h=>?_)
 ·obtain⟨a,xs,i,rfl,_⟩:=h;rfl
 obtain⟨a,xs,i,rfl,hS,k1,k2⟩:=h
 refine⟨_,(af (bf (ax xX (pv 1) (au ao (by rfl) T.n_len aN (aa (pv 0) ag)) (aA _)) (ak (iB S_BadText.er S_BadText.fn S_BadText.ok S_BadText.bn (hr.mono (by decide)) S_BadText.mg rfl bp rfl rfl (aa (aq aU (au ao (by rfl) T.n_len aN (aa (pv 0) ag)) ai) ag))) aF)
   (ak (aG (aL aD (pv 0) (pv 1) (fun _ _=>rfl))))),?_⟩
 refine⟨_,rfl,_,rfl,a,xs,rfl,.inl hS,_,_,rfl,rfl,_,rfl,ite2 (fun c=>?_) (fun c=>?_)⟩
 ·have c':(xs.length:Int)<=(i:Int):=of_decide_eq_true c
  exact⟨_,rfl,a,xs,rfl,.inl hS,_,_,rfl,rfl,(by decide:(1:Nat)<=sizeLine),fun x hx=>nO S_BadText.er (W:=fun d H'=>E (.ref BT) d H') (fun d H' s' hd=>k2 (by omega) d H' s' hd) x hx⟩
 ·have c':¬ ((xs.length:Int)<=(i:Int)):=fun z=>c (decide_eq_true z)
  have hi:i<xs.length:=by omega
  exact⟨_,rfl,_,rfl,a,xs,_,xs[i],rfl,rfl,hS,aO (BA hi),k1 _ (BA hi)⟩
end
theorem Bad.mono{BT:Addr}{E:Value->Option Addr->Hp->Prop}{H H1:Hp}{n:Int}(h:Bad BT E H n)(s:Same H H1):Bad BT E H1 n:=fun d H' s' hd=>h d H' (s.trans s') hd
noncomputable def cP:Str:=(("pull" : String):Str)
noncomputable def bZ:Str:=(("push" : String):Str)
noncomputable def isT(b:Str):Prop:=fw b=cP∨fw b=bZ
theorem in_two(z:Str):inV (.str z) [.str cP,.str bZ]=decide (z=cP∨z=bZ):=by
 unfold inV;rw[Ek,Ek,List.any_nil,Bool.or_false];show((cP == z)||(bZ == z))=_
 rw[Eg,Bool.or_eq_true,beq_iff_eq,beq_iff_eq,decide_eq_true_iff];exact⟨fun h=>h.imp Eq.symm Eq.symm,fun h=>h.imp Eq.symm Eq.symm⟩
noncomputable abbrev Td:=Str×Nat×Nat×Nat
noncomputable def TdAt(H:Hp)(zs:List V)(td:List Td):Prop:=zs.length=td.length/\∀(i:Nat)(d:Td),td[i]?=some d->∃ t,zs[i]?=some (.ref t)/\H t=some (.tup [.str d.1,iV d.2.1,iV d.2.2.1,iV d.2.2.2])
noncomputable def RowD(b:Str)(d:Td):Prop:=fw b=d.1/\tieO b=some d.2/\isT b
theorem TdAt.mono{H H':Hp}{zs:List V}{td:List Td}(h:TdAt H zs td)(s:∀ b xs,H b=some (.tup xs)->H' b=some (.tup xs)):TdAt H' zs td:=⟨h.1,fun i d e=>by
 obtain⟨t,a,b⟩:=h.2 i d e
 exact⟨t,a,s _ _ b⟩⟩
theorem TdAt.snoc{H:Hp}{zs:List V}{td:List Td}{d:Td}{t:Addr}(h:TdAt H zs td)(ht:H t=some (.tup [.str d.1,iV d.2.1,iV d.2.2.1,iV d.2.2.2])):TdAt H (zs++[.ref t]) (td++[d]):=by
 refine⟨by rw[BE,BE,h.1];rfl,fun j x ej=>?_⟩
 by_cases hj:j<td.length
 ·rw[BL hj]at ej;obtain⟨u,a1,a2⟩:=h.2 j x ej;exact⟨u,by rw[BL (by rw[h.1];exact hj)];exact a1,a2⟩
 ·have hj2:j=td.length:=by
   have:=(BB.mp ej).1;rw[BE,BM]at this;omega
  subst hj2;rw[BH (BI _),Ck]at ej
  cases ej
  exact⟨t,by rw[← h.1,BH (BI _),Ck];rfl,ht⟩
inductive EndT(bs:List Str)(n:Nat):Bool->Prop
 |stop (h:∀ b,bs[n+1]?=some b->¬ isT b):EndT bs n true
 |bad (b:Str) (h:bs[n+1]?=some b) (t:isT b) (k:80<=n∨tieO b=none):EndT bs n false
noncomputable def lz(K:BD)(BT:Addr):Sp:=fun vs H Q E=>∃(r:Addr)(bs:List Str)(td:List Td)(ok:Bool),vs = [.ref r]/\SqL K H r (bs.map V.str)/\(∀ b∈bs,Rw b)/\td.length<=80/\(∀ i d,td[i]?=some d->∃ b,bs[i+1]?=some b/\RowD b d)/\EndT bs td.length ok /\
 (ok=true->∀(q:Addr)(zs:List V)(H':Hp),Same H H'->H' q=some (.lst zs)->TdAt H' zs td->Q (.ref q) H')/\(ok=false->Bad BT E H ((td.length:Int)+2))
inductive EndU(bs:List Str)(ah m n:Nat):Option Int->Prop
 |stop (h:n=m):EndU bs ah m n none
 |short (h:n<m) (k:bs.length=ah+n):EndU bs ah m n (some ((bs.length:Int)+1))
 |bad (h:n<m) (b:Str) (k:bs[ah+n]?=some b) (t:iq n b=none):EndU bs ah m n (some (((ah+n:Nat):Int)+1))
noncomputable def qQ(K:BD)(BT:Addr):Sp:=fun vs H Q E=>∃(r:Addr)(bs:List Str)(ts:List (List Nat))(m ah:Nat)(o:Option Int),vs = [iV m,.ref r,iV ah]/\SqL K H r (bs.map V.str)/\(∀ b∈bs,Rw b)/\ts.length<=m/\m<=40/\(∀ i l,ts[i]?=some l->∃ b,bs[ah+i]?=some b/\iq i b=some l)/\EndU bs ah m ts.length o /\
 (o=none->∀(q:Addr)(zs:List V)(H':Hp),Same H H'->H' q=some (.lst zs)->d7 H' zs ts->Q (.ref q) H')/\(∀ n,o=some n->Bad BT E H n)
section
variable{P:Program}{w:World}{K:BD}{mg:Str->Option Value}{base:Heap}
theorem d9:aJ ["rows","told","number"] ["rows"] (ay gN):=by ac_nf
theorem pN{f f1 f2 f3 BT g2:Addr}{fd d1 d2 d3 e2:FuncData} (F:Fun K "ties_told" "ties_told" gN f fd) (T:Txt mg) (S_BadText:OwnI P w K mg base "BadText" BT g2 e2) (G_first_word:Cal P w K mg base 1 "first_word" ["row"] spFW f1 d1) (G_tie_told:Cal P w K mg base 3 "tie_told" ["row"] yV f2 d2) (G_right:CalD P w K mg base 3 "right" ["told","at"] (jM BT) f3 d3):FnOk P w K mg base (CXd P w) 4 f fd ["rows"] (lz K BT):=by
 refine F.okD d9 (fun vs H Q E h=>?_) (fun cdv A outer s H vs Q E hr h=>?_)
 ·obtain⟨r,bs,td,ok,rfl,_⟩:=h;rfl
 obtain⟨r,bs,td,ok,rfl,hS,hR,t80,hd,he,kk,kb⟩:=h
 refine⟨_,(af (av (i:=1) d9.nd rfl (Or.inl rfl) (bh ag))
   (af (av (i:=2) d9.nd rfl (Or.inl rfl) ai)
   (af (lW PassesOwn.leaving (PW.pt (ve (ax md (pv 2) (au ao (by rfl) T.n_len aN (aa (pv 0) ag)) (aA _)) (pD (ax nQ (aI G_first_word.ok (hr.mono (by decide)) rfl G_first_word.mg G_first_word.kp G_first_word.bn .nil bA (aa (aL aD (pv 0) (pv 2) (fun _ _=>rfl)) ag)) (bG (aa aE (aa aE ag))) (by with_unfolding_all rfl))))) (af (bf (ax nR (pv 2) (jN rfl T.most) (aA _)) (ak (iB S_BadText.er S_BadText.fn S_BadText.ok S_BadText.bn (hr.mono (by decide)) S_BadText.mg rfl bp rfl rfl (aa (aq aU (pv 2) ai) ag))) aF)
   (af (aZ (bP BS Ce Cd bg (pv 1) (aa (cX G_right.ok (hr.mono (by decide)) rfl G_right.mg G_right.kp G_right.bn .nil bp rfl (aa (aI G_tie_told.ok (hr.mono (by decide)) rfl G_tie_told.mg G_tie_told.kp G_tie_told.bn .nil bA (aa (aL aD (pv 0) (pv 2) (fun _ _=>rfl)) ag)) (aa (aq aU (pv 2) ai) ag))) ag)))
   (ak (av (i:=2) d9.nd rfl (Or.inl rfl) (aq aU (pv 2) ai))))))
   (ak (aG (pv 1)))))),?_⟩
 refine⟨(by show 0<=sizeLine;decide),fun q hq=>?_⟩
 have s1:=aj hq (.lst []);refine⟨fun n σ H2=>∃(i:Nat)(zs:List V),n=td.length-i/\i<=td.length/\σ = [some (.ref r),some (.ref q),some (iV (i+1))]/\Same H H2/\H2 q=some (.lst zs)/\TdAt H2 zs (td.take i),⟨_,0,[],rfl,C4 _,rfl,s1,ae,rfl,fun i d e=>by simp at e⟩,?_⟩
 rintro n σ H2 ⟨i,zs,rfl,hi,rfl,s2,hq2,tz⟩;have hS2:=s2.seq hS;have zl:zs.length=i:=by rw[tz.1,BV];omega
 have done:i=td.length->(∀ b,bs[i+1]?=some b->¬ isT b)->∀ H3,Same H2 H3->Q (.ref q) H3:=fun e hn H3 s3=>by
  have k0:ok=true:=by
   cases he with
   |stop _=>rfl
   |bad b h t k=>subst e;exact absurd t (hn b h)
  rw[e,CQ]at tz;exact kk k0 q zs _ (s2.trans s3) (s3 _ _ hq2) (tz.mono fun b xs e=>s3 _ _ e)
 refine⟨_,rfl,_,rfl,r,_,rfl,.inl hS2,_,_,rfl,rfl,_,rfl,?_⟩;refine ite2 (fun c=>?_) (fun c=>?_);rotate_left
 ·have c':¬ ((i+1:Nat):Int)<((bs.map V.str).length:Int):=fun z=>c (decide_eq_true z)
  rw[BC]at c';have e:i=td.length:=by
   by_cases z:i=td.length
   ·exact z
   ·obtain⟨b,h1,_⟩:=hd i td[i] (BA (by omega))
    have:=(BB.mp h1).1;omega
  exact⟨_,rfl,done e (fun b hb=>by have:=(BB.mp hb).1;omega) _ fun _ _ z=>z⟩
 have c':((i+1:Nat):Int)<((bs.map V.str).length:Int):=of_decide_eq_true c;rw[BC]at c';obtain⟨b,hb⟩:∃ b,bs[i+1]?=some b:=⟨_,BA (by omega)⟩
 have rwb:=hR b (BF hb);have hb2:(bs.map V.str)[i+1]?=some (V.str b):=by rw[BJ,hb];rfl
 refine⟨_,rfl,_,rfl,r,_,_,V.str b,rfl,rfl,hS2,aO hb2,b,rfl,rwb.1,fun H3 s3=>⟨(by show 2<=sizeLine;decide),fun t ht=>?_⟩⟩
 have st:=aj ht (.tup [V.str (("pull" : String):Str),V.str (("push" : String):Str)]);have s4:=s3.trans st;refine⟨t,_,rfl,.inr (SqT.of ae),rfl,rfl,_,rfl,?_⟩;show(if(inV (.str (fw b)) [.str cP,.str bZ])=true then _ else _);rw[in_two];have hq4:=s4 _ _ hq2;by_cases kd:isT b
 ·rw[decide_eq_true (show fw b=cP∨fw b=bZ from kd)];refine iteT ⟨fun σ' H'=>∃ zs',i+1<=td.length/\σ' = [some (.ref r),some (.ref q),some (iV (i+1+1))]/\Same H H'/\H' q=some (.lst zs')/\TdAt H' zs' (td.take (i+1)),fun σ' H' ⟨zs',a1,a2,a3,a4,a5⟩=>⟨td.length-(i+1),by omega,i+1,zs',rfl,a1,a2,a3,a4,a5⟩,?_⟩
  have last:i=td.length->80<=i∨tieO b=none:=fun e=>by
   cases he with
   |stop h=>subst e;exact absurd kd (h b hb)
   |bad b' h t k=>subst e;rw[hb]at h;cases h;exact k
  have lb:i=td.length->Bad BT E H ((i:Int)+2):=fun e=>by
   rw[e];refine kb ?_
   cases he with
   |stop h=>subst e;exact absurd kd (h b hb)
   |bad b' h t k=>rfl
  refine⟨_,rfl,_,_,rfl,rfl,_,rfl,ite2 (fun c=>?_) (fun c=>?_)⟩
  ·have c8:=of_decide_eq_true c
   have e:i=td.length:=by omega
   refine⟨_,rfl,_,_,rfl,rfl,(by decide:(1:Nat)<=sizeLine),fun x hx=>nO S_BadText.er (W:=fun d H'=>E (.ref BT) d H') (fun d H' s' hd=>?_) x hx⟩
   refine lb e d H' ((s2.trans s4).trans s') ?_;rw[hd];exact congrArg (fun n:Int=>some (HO.xd [("at",V.int n)])) (by omega)
  have c80:¬ ((80:Int)<((i+1:Nat):Int)):=fun z=>c (decide_eq_true z);refine⟨_,rfl,.inl ⟨rfl,_,SqL.of hq4⟩,_,rfl,_,rfl,r,_,_,V.str b,rfl,rfl,s4.seq hS2,aO hb2,b,rfl,rwb,fun hn H5 s5=>?_,fun a b1 s30 ht5 p H5 s5 hp=>?_⟩
  ·have e:i=td.length:=by
    by_cases z:i=td.length
    ·exact z
    ·obtain⟨b',h1,_,h3,_⟩:=hd i td[i] (BA (by omega))
     rw[hb]at h1
     cases h1
     rw[hn]at h3
     cases h3
   refine⟨_,rfl,_,_,rfl,rfl,_,_,rfl,fun z=>absurd rfl z,fun _=>?_⟩;have:=(lb e).mono (s2.trans (s4.trans s5));rw[show(((i+1:Nat):Int)+1)=(i:Int)+2 by omega]
   exact this
  ·have hi2:i<td.length:=by
    by_cases z:i=td.length
    ·rcases last z with y | y
     ·omega
     ·rw[ht5]at y;cases y
    ·omega
   obtain⟨b',h1,fe,h3,_⟩:=hd i td[i] (BA hi2);rw[hb]at h1
   cases h1
   rw[ht5]at h3;have h3:=Ci h3;refine⟨_,rfl,_,_,rfl,rfl,_,_,rfl,fun _=>?_,fun z=>by cases z⟩
   have hq5:=s5 _ _ hq4;refine⟨q,zs,_,rfl,rfl,hq5,aC (by omega),?_⟩
   refine⟨_,rfl,_,_,rfl,rfl,zs++[.ref p],hi2,rfl,a8 (s2.trans (s4.trans s5)) hq _,ae,?_⟩;have pq:p≠q:=fun z=>by rw[z,hq5]at hp;cases hp
   rw[show td.take (i+1)=td.take i++[td[i]] by rw[Cv,BA hi2];rfl]
   refine TdAt.snoc (tz.mono fun b xs e=>?_) (by rw[ar pq,← fe,← h3];exact hp)
   rw[ar (fun z=>by rw[z,hq2]at e;cases e)]
   exact s5 _ _ (s4 _ _ e)
 ·rw[decide_eq_false (show ¬ (fw b=cP∨fw b=bZ) from kd)];have e:i=td.length:=by
   by_cases z:i=td.length
   ·exact z
   ·obtain⟨b',h1,_,_,h4⟩:=hd i td[i] (BA (by omega))
    rw[hb]at h1
    cases h1
    exact absurd h4 kd
  exact iteF ⟨_,rfl,done e (fun b' hb'=>by rw[hb]at hb';cases hb';exact kd) _ s4⟩
theorem dD:aJ ["many","rows","ahead","turns","place","number"] ["many","rows","ahead"] (ay fJ):=by ac_nf
theorem vC{f f1 f2 f3 BT:Addr}{fd d1 d2 d3:FuncData} (F:Fun K "turns_told" "turns_told" fJ f fd) (T:Txt mg) (G_row_at:CalD P w K mg base 3 "row_at" ["rows","number"] (lJ K BT) f1 d1) (G_turn_told:Cal P w K mg base 3 "turn_told" ["place","row"] uF f2 d2) (G_right:CalD P w K mg base 3 "right" ["told","at"] (jM BT) f3 d3):FnOk P w K mg base (CXd P w) 4 f fd ["many","rows","ahead"] (qQ K BT):=by
 refine F.okD dD (fun vs H Q E h=>?_) (fun cdv A outer s H vs Q E hr h=>?_)
 ·obtain⟨r,bs,ts,m,ah,o,rfl,_⟩:=h;rfl
 obtain⟨r,bs,ts,m,ah,o,rfl,hS,hR,tl,m40,hd,he,kk,kb⟩:=h
 refine⟨_,(af (av (i:=3) dD.nd rfl (Or.inl rfl) (bh ag))
   (af (cL PassesOwn.leaving rfl (bw rfl T.n_range (aa (pv 0) ag)) (aQ (i:=4) dD.nd rfl (Or.inl rfl)) (af (av (i:=5) dD.nd rfl (Or.inl rfl) (aq aU (pv 2) (pv 4)))
   (ak (aZ (bP BS Ce Cd bg (pv 3) (aa (cX G_right.ok (hr.mono (by decide)) rfl G_right.mg G_right.kp G_right.bn .nil bp rfl (aa (aI G_turn_told.ok (hr.mono (by decide)) rfl G_turn_told.mg G_turn_told.kp G_turn_told.bn .nil bA (aa (pv 4) (aa (cX G_row_at.ok (hr.mono (by decide)) rfl G_row_at.mg G_row_at.kp G_row_at.bn .nil bp rfl (aa (pv 1) (aa (pv 5) ag))) ag))) (aa (aq aU (pv 5) ai) ag))) ag))))))
   (ak (aG (pv 3))))),?_⟩
 refine⟨(by show 0<=sizeLine;decide),fun q hq=>?_⟩
 have s1:=aj hq (.lst []);refine⟨_,rfl,_,rfl,by omega,by omega,cb (n:=m) (fun i σ H2=>i<=ts.length/\∃(v4 v5:Option V)(zs:List V),σ = [some (iV m),some (.ref r),some (iV ah),some (.ref q),v4,v5]/\Same H H2/\H2 q=some (.lst zs)/\cj (fun a=>a=q) H2 zs (ts.take i)) ⟨C4 _,_,_,[],rfl,s1,ae,rfl,fun i l e=>by simp at e⟩ ?_ ?_⟩
 ·rintro i σ H2 hi ⟨ile,v4,v5,zs,rfl,s2,hq2,rz⟩;rw[DE];have hS2:=s2.seq hS;refine⟨_,rfl,_,rfl,_,_,rfl,rfl,?_⟩;refine⟨_,rfl,.inl ⟨rfl,_,SqL.of hq2⟩,_,rfl,_,rfl,_,rfl,r,_,ah+i,rfl,hS2,fun x hx=>?_,fun hz=>?_⟩;rotate_left
  ·rw[BC]at hz;have e:i=ts.length:=by
    by_cases z:i=ts.length
    ·exact z
    ·obtain⟨b,h1,_⟩:=hd i ts[i] (BA (by omega))
     have:=(BB.mp h1).1;omega
   rw[BC];subst e
   cases he with
   |stop h=>omega
   |short h k=>exact(kb _ rfl).mono s2
   |bad h b k t=>have:=(BB.mp k).1;omega
  rw[BJ]at hx;obtain⟨b,hb,rfl⟩:=Cu.mp hx;refine⟨b,i,rfl,hR b (BF hb),fun hn H5 s5=>?_,fun l hl p H5 s5 np hp=>?_⟩
  ·have e:i=ts.length:=by
    by_cases z:i=ts.length
    ·exact z
    ·obtain⟨b',h1,h2⟩:=hd i ts[i] (BA (by omega))
     rw[hb]at h1
     cases h1
     rw[hn]at h2
     cases h2
   refine⟨_,rfl,_,_,rfl,rfl,_,_,rfl,fun z=>absurd rfl z,fun _=>?_⟩;subst e
   cases he with
   |stop h=>omega
   |short h k=>have:=(BB.mp hb).1;omega
   |bad h b k t=>exact(kb _ rfl).mono (s2.trans s5)
  ·have hi2:i<ts.length:=by
    by_cases z:i<ts.length
    ·exact z
    ·have e:i=ts.length:=by omega
     subst e
     cases he with
     |stop h=>omega
     |short h k=>have:=(BB.mp hb).1;omega
     |bad h b' k t=>rw[hb]at k;cases k;rw[hl]at t;cases t
   obtain⟨b',h1,h2⟩:=hd i ts[i] (BA hi2);rw[hb]at h1
   cases h1
   rw[hl]at h2;obtain rfl:=Ci h2;have zl:zs.length=i:=by rw[rz.1,BV];omega
   refine⟨_,rfl,_,_,rfl,rfl,_,_,rfl,fun _=>?_,fun z=>by cases z⟩
   have hq5:=s5 _ _ hq2;refine⟨q,zs,_,rfl,rfl,hq5,aC (by omega),hi2,_,_,zs++[.ref p],rfl,a8 (s2.trans s5) hq _,ae,?_⟩
   have pq:p≠q:=fun z=>by rw[z,hq2]at np;cases np
   rw[show ts.take (i+1)=ts.take i++[ts[i]] by rw[Cv,BA hi2];rfl]
   exact(rz.mono fun b u n e=>by rw[ar n];exact s5 _ _ e).snoc pq (by rw[ar pq];exact hp)
 ·rintro σ H2 ⟨ile,v4,v5,zs,rfl,s2,hq2,rz⟩;have c:ts.length=m:=by omega
  rw[← c,CQ]at rz;refine⟨_,rfl,kk ?_ q zs H2 s2 hq2 rz.off⟩
  cases he with
  |stop h=>rfl
  |short h k=>omega
  |bad h b k t=>omega
end
end KF
namespace KF
open PySem L2 PyProof.Rows
open K8 hiding Txt
local macro_rules | `(tactic| walk_at "cc") => `(tactic| first | exact ⟨by decide, by decide⟩ | (show (0 : Int) < _; decide) | (show (0 : Int) < _; omega) | (show (0 : Int) ≤ _; omega) | exact ⟨by decide, by decide, by decide⟩ | exact ⟨by omega, by omega, by decide⟩ | exact Or.inl ⟨by decide, by decide⟩ | exact Or.inl ⟨by omega, by omega⟩)
local macro_rules | `(tactic| walk_at "rd") => `(tactic| repeat (first | refine ⟨_, rfl, ?_⟩ | refine ⟨_, _, rfl, rfl, ?_⟩ | refine ⟨rfl, ?_⟩ | (refine ⟨?cc, ?_⟩; (case cc => walk_at "cc"))))
noncomputable def cls(PL PS:Addr)(push:Bool):Addr:=if push=true then PS else PL
noncomputable def iN(K:BD)(BT:Addr):Sp:=fun vs H Q E=>∃(p C dx:Addr)(a b st:Int),vs = [.ref p,.int a,.int b,.int st]/\H p=some (.ins C dx [])/\CT K C/\0<=a/\0<=b/\0<=st/\(a≠b->∀ H',H' p=some (.ins C dx (tf a b st))->(∀ q o,H q=some o->q≠p->H' q=some o)->Q .non H')/\(a=b->∀ H',Same H H'->E (.ref BT) none H')
noncomputable def uM(PL PS BT:Addr):Sp:=fun vs H Q E=>∃(kd:Str)(a b s:Nat),vs = [.str kd,iV a,iV b,iV s]/\(a≠b->∀(p dx:Addr)(H':Hp),Same H H'->H' p=some (.ins (cls PL PS (decide (kd=bZ))) dx (tf (a:Int) (b:Int) (s:Int)))->Q (.ref p) H')/\(a=b->∀ H',Same H H'->E (.ref BT) none H')
structure MakD(P:Program)(w:World)(K:BD)(mg:Str->Option Value)(base:Heap)(k:Nat)(x:Str)(ps:List Str)(sp:Sp)(C f:Addr)(fd:FuncData):Prop where
 mkc:Mk K C f
 ok:FnOk P w K mg base (CXd P w) k f fd ps sp
 bn:d8 K fd ps []
 mg:mg x=some (.ref C)
section
variable{P:Program}{w:World}{K:BD}{mg:Str->Option Value}{base:Heap}
theorem lQ:aJ ["self","one","two","strength"] ["self","one","two","strength"] (ay cy):=by ac_nf
theorem yf{f BT BU BP NF:Addr}{fd:FuncData} (F:Fun K "__init__" "Tie.__init__" cy f fd) (T:TxtG mg BT BU BP NF) (ecT:ExC K BT):FnOk P w K mg base (CXd P w) 1 f fd ["self","one","two","strength"] (iN K BT):=by
 refine F.okD lQ (fun vs H Q E h=>?_) (fun cdv A outer s H vs Q E hr h=>?_)
 ·obtain⟨p,C,dx,a,b,s,rfl,_⟩:=h;rfl
 obtain⟨p,C,dx,a,b,st,rfl,hp,TC,ha,hb,hs,k,ke⟩:=h;have one:(1:Nat)<=sizeLine:=by decide
 refine⟨_,(af (bf (ax bu (pv 1) (pv 2) (aA _)) (ak (dP ecT T.g_BadTie rfl bp rfl rfl (aa aE ag))) aF)
   (af (bf (PW.pt (iA (ax md (pv 1) ai (aA _)) (iz (ax md (pv 2) ai (aA _))))) (ak (dP ecT T.g_BadTie rfl bp rfl rfl (aa aE ag))) aF)
   (af (bf (ax md (pv 3) ai (aA _)) (ak (dP ecT T.g_BadTie rfl bp rfl rfl (aa aE ag))) aF)
   (af (ju (pv 0) (pv 1) rfl)
   (af (ju (pv 0) (pv 2) rfl)
   (ak (ju (pv 0) (pv 3) rfl))))))),?_⟩
 walk_at "rd";refine ite2 (fun c=>⟨one,ke (V.int.inj (of_decide_eq_true c)) H fun _ _ z=>z⟩) (fun c=>?_);have hne:a≠b:=fun z=>c (decide_eq_true (congrArg V.int z));walk_at "rd";refine ite2 (fun c=>absurd (of_decide_eq_true c) (by omega)) (fun _=>?_)
 walk_at "rd";refine ite2 (fun c=>absurd (of_decide_eq_true c) (by omega)) (fun _=>?_)
 walk_at "rd";refine ite2 (fun c=>absurd (of_decide_eq_true c) (by omega)) (fun _=>?_)
 refine⟨_,rfl,_,rfl,p,C,dx,[],rfl,hp,TC.cl,TC.n1,(by show 0<1000;decide),?_⟩
 refine⟨_,rfl,_,rfl,p,C,dx,_,rfl,ae,TC.cl,TC.n2,f1_len a,?_⟩;refine⟨_,rfl,_,rfl,p,C,dx,_,rfl,ae,TC.cl,TC.n3,f2_len a b,?_⟩;exact k hne _ ae fun q o e hq=>by rw[ar hq,ar hq,ar hq];exact e
theorem Al:aJ ["kind","one","two","strength"] ["kind","one","two","strength"] (ay uY):=by ac_nf
theorem AI{f fI PL PS BT:Addr}{fd fdI:FuncData} (F:Fun K "made" "made" uY f fd) (M_Pull:MakD P w K mg base 1 "Pull" ["self","one","two","strength"] (iN K BT) PL fI fdI) (M_Push:MakD P w K mg base 1 "Push" ["self","one","two","strength"] (iN K BT) PS fI fdI) (TL:CT K PL) (TS:CT K PS):FnOk P w K mg base (CXd P w) 3 f fd ["kind","one","two","strength"] (uM PL PS BT):=by
 refine F.okD Al (fun vs H Q E h=>?_) (fun cdv A outer s H vs Q E hr h=>?_)
 ·obtain⟨kd,a,b,s',rfl,_⟩:=h;rfl
 obtain⟨kd,a,b,s',rfl,kk,ke⟩:=h;refine⟨_,(ak (aG (l9 (ax bu (pv 0) aE (aA _)) (l8 M_Push.mkc M_Push.ok (hr.mono (by decide)) rfl M_Push.mg M_Push.bn .nil (lF bp) (pG rfl) (aa (pv 1) (aa (pv 2) (aa (pv 3) ag)))) (l8 M_Pull.mkc M_Pull.ok (hr.mono (by decide)) rfl M_Pull.mg M_Pull.bn .nil (lF bp) (pG rfl) (aa (pv 1) (aa (pv 2) (aa (pv 3) ag))))))),?_⟩
 refine⟨_,rfl,rfl,_,rfl,ite2 (fun c=>?_) (fun c=>?_)⟩
 ·have c':kd=bZ:=V.str.inj (of_decide_eq_true c)
  refine⟨_,rfl,_,rfl,_,rfl,?_⟩;intro x dx nx ndx nex;have up:∀ b o,H b=some o->(upd (upd H dx (.own x)) x (.ins PS dx [])) b=some o:=fun b o z=>by rw[ar (aV z nx),ar (aV z ndx)];exact z
  refine⟨x,PS,dx,_,_,_,rfl,ae,TS,by omega,by omega,by omega,fun hne H' h1 h2=>⟨rfl,?_⟩,fun e H' s'=>ke (by omega) H' fun b o z=>s' _ _ (up _ _ z)⟩
  refine kk (by omega) x dx H' (fun b o z=>h2 b o (up _ _ z) (aV z nx)) ?_
  rw[decide_eq_true c'];exact h1
 ·have c':¬ kd=bZ:=fun z=>c (decide_eq_true (congrArg V.str z))
  refine⟨_,rfl,_,rfl,_,rfl,?_⟩;intro x dx nx ndx nex;have up:∀ b o,H b=some o->(upd (upd H dx (.own x)) x (.ins PL dx [])) b=some o:=fun b o z=>by rw[ar (aV z nx),ar (aV z ndx)];exact z
  refine⟨x,PL,dx,_,_,_,rfl,ae,TL,by omega,by omega,by omega,fun hne H' h1 h2=>⟨rfl,?_⟩,fun e H' s'=>ke (by omega) H' fun b o z=>s' _ _ (up _ _ z)⟩
  refine kk (by omega) x dx H' (fun b o z=>h2 b o (up _ _ z) (aV z nx)) ?_
  rw[decide_eq_false c'];exact h1
end
end KF
namespace KF
open PySem L2 PyProof.Rows
open K8 hiding Txt
theorem plO_bd{b:Str}{m:Nat}(h:plO b=some m):2<=m/\m<=40:=by
 unfold plO at h;split at h
 ·split at h
  ·cases h;assumption
  ·cases h
 ·cases h
theorem xp{BT BU BP NF:Addr}{H:Hp}{p C dx:Addr}{m:Nat}{es:En}{js:List (List Int)}{Q Q':Hp->Prop}{E:Value->Option Addr->Hp->Prop}(h:yM BT BU BP NF H p C dx m es js Q E)(k:∀ H',Q H'->Q' H'):yM BT BU BP NF H p C dx m es js Q' E:=by
 cases h with
 |ends a b=>exact .ends a b
 |turns a b c=>exact .turns a b c
 |parted ts j w n b=>exact .parted ts j w n b
 |web ts rg j g pt n q=>exact .web ts rg j g pt n fun e fs q' z H' a1 a2 a3 a4 a5 a6=>k H' (q e fs q' z H' a1 a2 a3 a4 a5 a6)
noncomputable abbrev esT(td:List Td):En:=td.map fun d=>(d.2.1,d.2.2.1)
structure RdP(bs:List Str)(m:Nat)(td:List Td):Prop where
 b0:∃ b,bs[0]?=some b/\plO b=some m
 t80:td.length<=80
 hd:∀ i d,td[i]?=some d->∃ b,bs[i+1]?=some b/\RowD b d
structure RdU(bs:List Str)(m:Nat)(td:List Td)(ts:List (List Nat)):Prop extends RdP bs m td where
 he:EndT bs td.length true
 tl:ts.length<=m
 hu:∀ i l,ts[i]?=some l->∃ b,bs[1+td.length+i]?=some b/\iq i b=some l
inductive RdW(WC BX BT BU BP NF:Addr)(H:Hp)(bs:List Str)(un:Str)(Q:V->Hp->Prop)(E:Value->Option Addr->Hp->Prop)(m:Nat)(td:List Td)(ts:List (List Nat)):Prop
 |more (h:1+td.length+m<bs.length∨un≠Str.empty) (k:Bad BX E H (((1+td.length+m:Nat):Int)+1))
 |web (l:bs.length<=1+td.length+m) (u:un=Str.empty) (ke:(∃ d∈td,d.2.1=d.2.2.1)->∀ H',Same H H'->E (.ref BT) none H')
   (k:(∀ d∈td,d.2.1≠d.2.2.1)->∀(x dx:Addr)(H1:Hp),Same H H1->H1 x=some (.ins WC dx [])->H x=none->yM BT BU BP NF H1 x WC dx m (esT td) (ts.map cI) (Q (.ref x)) E)
inductive RdX(WC BX BT BU BP NF:Addr)(H:Hp)(bs:List Str)(un:Str)(Q:V->Hp->Prop)(E:Value->Option Addr->Hp->Prop):Prop
 |first (h:∀ b,bs[0]?=some b->plO b=none) (k:Bad BX E H 1)
 |ties (m:Nat) (td:List Td) (p:RdP bs m td) (he:EndT bs td.length false) (k:Bad BX E H ((td.length:Int)+2))
 |turns (m:Nat) (td:List Td) (ts:List (List Nat)) (o:Option Int) (p:RdU bs m td ts) (e:EndU bs (1+td.length) m ts.length o) (k:∀ n,o=some n->Bad BX E H n) (w:o=none->RdW WC BX BT BU BP NF H bs un Q E m td ts)
noncomputable def yZ(WC BX BT BU BP NF:Addr):Sp:=fun vs H Q E=>∃(text:Str)(bs:List Str)(un:Str),vs = [.str text]/\text.length<=600000/\CC text nlS=bs++[un]/\(∀ b∈bs,Rw b)/\RdX WC BX BT BU BP NF H bs un Q E
theorem su{H:Hp}{zs:List V}{ts:List (List Nat)}(h:d7 H zs ts):ig H zs (ts.map cI):=⟨by rw[BC];exact h.1,fun i l e=>by
 rw[BJ]at e;obtain⟨l',hl,rfl⟩:=Cu.mp e;obtain⟨p,a,b⟩:=h.2 i l' hl;refine⟨p,a,?_⟩;rw[b];unfold cI;rw[Dj]
 rfl⟩
section
variable{P:Program}{w:World}{K:BD}{mg:Str->Option Value}{base:Heap}
theorem gJ:aJ ["text","rows","unended","many","told","turns","row_count"] ["text"] (ay uW):=by ac_nf
theorem AG{f f1 f2 f3 f4 f5 f6 fW PL PS WC BX BT BU BP NF g2:Addr}{fd d1 d2 d3 d4 d5 d6 dW e2:FuncData} (F:Fun K "read" "read" uW f fd) (T:Txt mg) (cw:CW K WC) (TL:CT K PL) (TS:CT K PS) (S_BadText:OwnI P w K mg base "BadText" BX g2 e2) (G_right:CalD P w K mg base 3 "right" ["told","at"] (jM BX) f1 d1) (G_row_at:CalD P w K mg base 3 "row_at" ["rows","number"] (lJ K BX) f2 d2) (G_places_told:Cal P w K mg base 3 "places_told" ["row"] qU f3 d3) (G_ties_told:CalD P w K mg base 4 "ties_told" ["rows"] (lz K BX) f4 d4) (G_turns_told:CalD P w K mg base 4 "turns_told" ["many","rows","ahead"] (qQ K BX) f5 d5) (G_made:CalD P w K mg base 3 "made" ["kind","one","two","strength"] (uM PL PS BT) f6 d6) (M_Web:MakD P w K mg base 5 "Web" ["self","many","ties","turns"] (o9 K BT BU BP NF) WC fW dW):FnOk P w K mg base (CXd P w) 7 f fd ["text"] (yZ WC BX BT BU BP NF):=by
 refine F.okD gJ (fun vs H Q E h=>?_) (fun cdv A outer s H vs Q E hr h=>?_)
 ·obtain⟨text,bs,un,rfl,_⟩:=h;rfl
 obtain⟨text,bs,un,rfl,hl,hsp,hR,kase⟩:=h
 refine⟨_,(af (av (i:=1) gJ.nd rfl (Or.inl rfl) (bP CB C3 DI gn (pv 0) (aa aE ag)))
   (af (av (i:=2) gJ.nd rfl (Or.inl rfl) (nL BS Ef Ee nS (pv 1)))
   (af (av (i:=3) gJ.nd rfl (Or.inl rfl) (cX G_right.ok (hr.mono (by decide)) rfl G_right.mg G_right.kp G_right.bn .nil bp rfl (aa (aI G_places_told.ok (hr.mono (by decide)) rfl G_places_told.mg G_places_told.kp G_places_told.bn .nil bA (aa (cX G_row_at.ok (hr.mono (by decide)) rfl G_row_at.mg G_row_at.kp G_row_at.bn .nil bp rfl (aa (pv 1) (aa ai ag))) ag)) (aa ai ag))))
   (af (av (i:=4) gJ.nd rfl (Or.inl rfl) (cX G_ties_told.ok (hr.mono (by decide)) rfl G_ties_told.mg G_ties_told.kp G_ties_told.bn .nil bp rfl (aa (pv 1) ag)))
   (af (av (i:=5) gJ.nd rfl (Or.inl rfl) (cX G_turns_told.ok (hr.mono (by decide)) rfl G_turns_told.mg G_turns_told.kp G_turns_told.bn .nil bp rfl (aa (pv 3) (aa (pv 1) (aa (aq aU ai (au ao (by rfl) T.n_len aN (aa (pv 4) ag))) ag)))))
   (af (av (i:=6) gJ.nd rfl (Or.inl rfl) (aq aU (aq aU ai (au ao (by rfl) T.n_len aN (aa (pv 4) ag))) (pv 3)))
   (af (bf (PW.pt (iA (ax nR (au ao (by rfl) T.n_len aN (aa (pv 1) ag)) (pv 6) (aA _)) (iz (ax jB (pv 2) aE (aA _))))) (ak (iB S_BadText.er S_BadText.fn S_BadText.ok S_BadText.bn (hr.mono (by decide)) S_BadText.mg rfl bp rfl rfl (aa (aq aU (pv 6) ai) ag))) aF)
   (ak (aG (l8 M_Web.mkc M_Web.ok (hr.mono (by decide)) rfl M_Web.mg M_Web.bn .nil (lF bp) (pG rfl) (aa (pv 3) (aa (nK zW rfl rfl rfl rfl (fr:=[]) (xs:=["kind","one","two","strength"]) (dA.of (by rfl) (by decide) (by rfl) (by decide) (fun p hp=>nomatch hp) (by decide) (fun p hp=>nomatch hp)) (cp (pv 4)) (fun C ex s H=>(Ax (n:=4) (K:=K) rfl rfl (cW (aQ (i:=0) (show(["kind","one","two","strength"]:List Str).Nodup from by decide) rfl (Or.inl rfl)) (cW (aQ (i:=1) (show(["kind","one","two","strength"]:List Str).Nodup from by decide) rfl (Or.inl rfl)) (cW (aQ (i:=2) (show(["kind","one","two","strength"]:List Str).Nodup from by decide) rfl (Or.inl rfl)) (cW (aQ (i:=3) (show(["kind","one","two","strength"]:List Str).Nodup from by decide) rfl (Or.inl rfl)) lZ)))))) (fun C ex s H=>cE) (fun C ex s H ps XE Wi hP ws=>(vw G_made.ok (hr.mono (by decide)) rfl G_made.mg G_made.kp G_made.bn .nil ws hP (aa (pv 0) (aa (pv 1) (aa (pv 2) (aa (pv 3) ag))))))) (aa (pv 5) ag))))))))))))),?_⟩
 rw[nl_eq,tK];have s64:(600000:Nat)<=sizeLine:=by decide
 refine⟨_,rfl,rfl,text,nlS,rfl,rfl,rfl,by omega,fun r hr'=>?_⟩
 have hbl:bs.length<=600001:=by
  have:=split_le text nlS;rw[hsp,BE,BM]at this;omega
 rw[hsp,Cn];have sr:=aj hr' (.lst (bs.map V.str++[un].map V.str));refine⟨_,rfl,.inl ⟨rfl,_,SqL.of ae⟩,r,_,V.str un,rfl,rfl,ae,by simp,?_⟩
 have ed:List.dropLast (bs.map V.str++[un].map V.str)=bs.map V.str:=by simp
 rw[ed];have sR:=a8 sr hr' (.lst (bs.map V.str));have gR:(upd (upd H r (.lst (bs.map V.str++[un].map V.str))) r (.lst (bs.map V.str))) r=some (.lst (bs.map V.str)):=ae;generalize upd (upd H r (.lst (bs.map V.str++[un].map V.str))) r (.lst (bs.map V.str))=H1 at sR gR;refine⟨_,rfl,r,_,0,rfl,SqL.of gR,fun x hx=>?_,fun hz=>?_⟩;rotate_left
 ·rw[BC]at hz;have e0:bs = []:=DX.mp (by omega)
  subst e0;have no:∀{m:Nat}{td:List Td},¬ RdP [] m td:=fun p=>by
   obtain⟨b,h,_⟩:=p.b0
   cases h
  cases kase with
  |first h k=>exact k.mono sR
  |ties m td p=>exact absurd p no
  |turns m td ts o p=>exact absurd p.toRdP no
 rw[BJ]at hx;obtain⟨b0,hb0,rfl⟩:=Cu.mp hx;refine⟨b0,rfl,hR b0 (BF hb0),fun H2 s2=>?_⟩;refine⟨_,1,rfl,fun hn=>?_,fun hn=>?_⟩;rotate_left
 ·have hn:plO b0=none:=by
   cases z:plO b0 with
   |none=>rfl
   |some m=>rw[z]at hn;cases hn
  have no:∀{m:Nat}{td:List Td},¬ RdP bs m td:=fun p=>by
   obtain⟨b,h,h'⟩:=p.b0;rw[hb0]at h
   cases h
   rw[hn]at h'
   cases h'
  cases kase with
  |first h k=>exact k.mono (sR.trans s2)
  |ties m td p=>exact absurd p no
  |turns m td ts o p=>exact absurd p.toRdP no
 obtain⟨m,hm⟩:∃ m,plO b0=some m:=by
  cases z:plO b0 with
  |none=>rw[z]at hn;exact absurd rfl hn
  |some m=>exact⟨m,rfl⟩
 rw[hm];obtain⟨m2,m40⟩:=plO_bd hm;have sM:∀{m':Nat}{td:List Td},RdP bs m' td->m'=m:=fun p=>by
  obtain⟨b,h,h'⟩:=p.b0;rw[hb0]at h
  cases h
  rw[hm]at h'
  cases h'
  rfl
 have gR2:=s2 _ _ gR
 cases kase with
 |first h k=>rw[h b0 hb0]at hm;cases hm
 |ties m' td p he k =>
  obtain rfl:=sM p;exact⟨_,rfl,r,bs,td,false,rfl,SqL.of gR2,hR,p.t80,p.hd,he,(fun z=>by cases z),fun _=>k.mono (sR.trans s2)⟩
 |turns m' td ts o p e k w =>
  obtain rfl:=sM p.toRdP;have t80:=p.t80;refine⟨_,rfl,r,bs,td,true,rfl,SqL.of gR2,hR,t80,p.hd,p.he,fun _ q zs H3 s3 hq tz=>?_,(fun z=>by cases z)⟩
  have zl:=tz.1;have gR3:=s3 _ _ gR2;refine⟨_,rfl,_,rfl,_,rfl,q,_,rfl,.inl (SqL.of hq),_,_,rfl,rfl,r,bs,ts,m',1+td.length,o,?_,SqL.of gR3,hR,p.tl,m40,p.hu,e,fun hk qt zt H4 s4 hqt rt=>?_,fun n hn=>(k n hn).mono (sR.trans (s2.trans s3))⟩
  ·rw[zl];rfl
  have tm:ts.length=m':=by
   cases e with
   |stop h=>exact h
   |short h=>cases hk
   |bad h=>cases hk
  have gR4:=s4 _ _ gR3;have hq4:=s4 _ _ hq;have tz4:TdAt H4 zs td:=tz.mono fun b xs e=>s4 _ _ e;have sA:=sR.trans (s2.trans (s3.trans s4));refine⟨_,rfl,q,_,rfl,.inl (SqL.of hq4),_,_,rfl,rfl,_,rfl,_,_,rfl,rfl,?_⟩;have rise:Bad BX E H (((1+td.length+m':Nat):Int)+1)->Bad BX E H4 (1+(zs.length:Int)+(m':Int)+1):=fun k=>by
   rw[show(1+(zs.length:Int)+(m':Int)+1)=(((1+td.length+m':Nat):Int)+1) by rw[zl];omega]
   exact k.mono sA
  refine⟨_,rfl,r,_,rfl,.inl (SqL.of gR4),_,rfl,_,_,rfl,rfl,_,rfl,?_⟩
  cases w hk with
  |more h k =>
   refine ite2 (fun _=>iteT ?_) (fun c=>?_)
   ·exact⟨_,rfl,_,_,rfl,rfl,(by decide:(1:Nat)<=sizeLine),fun x hx=>nO S_BadText.er (W:=fun d H'=>E (.ref BX) d H') (fun d H' s' hd=>rise k d H' s' hd) x hx⟩
   have c':¬ (1+(zs.length:Int)+(m':Int))<(((bs.map V.str).length:Nat):Int):=fun z=>c (decide_eq_true z);rw[BC,zl]at c';have hu:un≠Str.empty:=h.resolve_left (by omega)
   refine⟨_,rfl,rfl,_,rfl,ite2 (fun _=>?_) (fun c=>absurd (by rw[decide_eq_false (fun z=>hu (V.str.inj z))];rfl) c)⟩
   exact⟨_,rfl,_,_,rfl,rfl,(by decide:(1:Nat)<=sizeLine),fun x hx=>nO S_BadText.er (W:=fun d H'=>E (.ref BX) d H') (fun d H' s' hd=>rise k d H' s' hd) x hx⟩
  |web l u ke k =>
   refine ite2 (fun c=>absurd (of_decide_eq_true c) (by rw[BC,zl];omega)) (fun _=>?_)
   subst u;refine⟨_,rfl,rfl,_,rfl,ite2 (fun z=>absurd z (by simp)) (fun _=>?_)⟩
   refine⟨_,rfl,_,rfl,q,rfl,⟨_,SqL.of hq4⟩,lD (K:=K) (xs:=zs) (fun i us H5=>Same H4 H5/\cJ K H5 us ((esT td).take i)/\∀ d∈td.take i,d.2.1≠d.2.2.1) (by omega) ⟨fun _ _ z=>z,⟨rfl,fun i e z=>by simp at z⟩,fun d hd=>by simp at hd⟩ (fun i us H5 _ z=>SqL.of (z.1 _ _ hq4)) ?_ ?_ (fun i us H5 z=>by rw[z.2.1.1,BV,BC];omega)⟩
   ·rintro i x us H5 hx ⟨s5,tt,nd⟩;have hi:i<td.length:=by rw[← zl];exact(BB.mp hx).1
    have hdi:=BA hi;obtain⟨t,x1,x2⟩:=tz4.2 i td[i] hdi;rw[hx]at x1
    cases x1
    refine⟨t,_,rfl,SqT.of (s5 _ _ x2),rfl,_,_,rfl,_,_,rfl,_,_,rfl,_,_,rfl,rfl,rfl,yesT ?_⟩;refine⟨_,rfl,_,rfl,_,rfl,_,rfl,_,_,_,_,rfl,fun ne pp dx H6 s6 hp=>⟨s5.trans s6,?_,?_⟩,fun e H6 s6=>?_⟩
    ·rw[Cv,BJ,hdi];exact(tt.mono s6).snoc hp (by unfold cls;split;exact TS;exact TL)
    ·rw[Cv,hdi];intro d hd;rcases BN.mp hd with hd | hd
     ·exact nd d hd
     ·rw[BR.mp hd];exact ne
    ·intro D' ys' hD';exact ke ⟨_,CO hi,e⟩ _ (sA.trans (s5.trans (s6.trans (aj hD' _))))
   rintro us H5 ⟨s5,tt,nd⟩ D hD;rw[zl,CQ]at nd;rw[zl,Cc (by rw[BC];exact BI _)]at tt
   have sD:=aj hD (.lst us);have hDD:(upd H5 D (.lst us)) D=some (.lst us):=ae;have s4D:=s5.trans sD;have ttD:=tt.mono sD;generalize upd H5 D (.lst us)=HD at sD s4D hDD ttD;have hqtD:=s4D _ _ hqt;have rtD:=su (rt.mono s4D);refine⟨_,rfl,?_⟩;intro x dx nx ndx nex;have up:∀ b o,HD b=some o->(upd (upd HD dx (.own x)) x (.ins WC dx [])) b=some o:=fun b o z=>by rw[ar (aV z nx),ar (aV z ndx)];exact z
   have sAll:∀ b o,H b=some o->(upd (upd HD dx (.own x)) x (.ins WC dx [])) b=some o:=fun b o z=>up _ _ (s4D _ _ (sA _ _ z));refine⟨x,WC,dx,D,qt,m',us,zt,esT td,ts.map cI,rfl,ae,cw,up _ _ hDD,ttD.mono up,up _ _ hqtD,rtD.mono up,?_,by omega,by omega,by rw[BC];omega,by rw[BC];omega,?_⟩
   ·intro e he;obtain⟨d,hd,rfl⟩:=B9.mp he;exact nd d hd
   ·have hx0:H x=none:=by
     cases z:H x with
     |none=>rfl
     |some o=>rw[s4D _ _ (sA _ _ z)]at nx;cases nx
    exact xp (k nd x dx _ sAll ae hx0) fun H' z=>⟨rfl,z⟩
end
open K8 hiding Txt
noncomputable def Sg(d:Nat):Prop:=32<=d/\d<127/\¬ (48<=d/\d<=57)
noncomputable def uG:Sp:=fun vs H Q _=>∃ c:Int,vs = [.int c]/\∀ d,Sg d->Q (.str ⟨#[d]⟩) H
theorem xJ:∀ i,i<84->∃ d,((Str.ofString " !\"#$&'()*+,-./:;<=>?@ABCDEFGHIJKLMNOPQRSTUVWXYZ[\\]^_`abcdefghijklmnopqrstuvwxyz{|}~").cps.toList)[i]?=some d/\(decide (32<=d)&&decide (d<127)&&!(decide (48<=d)&&decide (d<=57)))=true:=by
 have h:∀ i∈Cz 84,(match((Str.ofString " !\"#$&'()*+,-./:;<=>?@ABCDEFGHIJKLMNOPQRSTUVWXYZ[\\]^_`abcdefghijklmnopqrstuvwxyz{|}~").cps.toList)[i]? with | some d=>(decide (32<=d)&&decide (d<127)&&!(decide (48<=d)&&decide (d<=57))) | none=>false)=true:=by decide
 intro i hi;have:=h i (Dt.mpr hi);split at this
 ·exact⟨_,by assumption,this⟩
 ·cases this
noncomputable def pcs(z:Str):List Str:=CC z spS
noncomputable def BadW(z:Str):Prop:=∃ p∈pcs z,nOf 31 p=none
theorem pM{z:Str}(h:32∉z.cps.toList):pcs z = [z]:=bX (c:=32) (ws:=[z]) (CL _ _) fun w hw=>by rw[BR.mp hw];exact h
theorem pL{a b:Str}(ha:32∉a.cps.toList)(hb:32∉b.cps.toList):pcs (a++spS++b) = [a,b]:=bX (c:=32) (ws:=[a,b]) (CL _ _) fun w hw=>by
 rcases BG.mp hw with rfl | hw
 ·exact ha
 ·rw[BR.mp hw];exact hb
theorem pP{k:Nat}{z:Str}{c:Nat}(h:c∈z.cps.toList)(n:¬ (48<=c/\c<=57)):nOf k z=none:=by
 unfold nOf;rw[if_pos];refine .inr (.inr ?_)
 cases e:dig z with
 |false=>rfl
 |true =>
  have:=DN.mp e c h;simp only[CZ,decide_eq_true_eq]at this;exact absurd this n
theorem kh{k:Nat}:nOf k Str.empty=none:=by
 unfold nOf;rw[if_pos (.inl rfl)]
theorem yj{k:Nat}{z:Str}(h:k<z.length):nOf k z=none:=by
 unfold nOf;rw[if_pos (.inr (.inl h))]
theorem yi{k:Nat}{z:Str}(h:z.cps.toList.head?=some 48)(l:z.length≠1):nOf k z=none:=by
 unfold nOf;split
 ·rfl
 ·rw[if_pos ⟨h,l⟩]
theorem jj{z:Str}(h:32∉z.cps.toList)(n:nOf 31 z=none):BadW z:=⟨z,by rw[pM h];exact BR.mpr rfl,n⟩
theorem nk(n:Nat):32∉(tx n).cps.toList:=fun z=>by have:=nu n _ z;omega
theorem nE(d:Nat):(⟨#[d]⟩:Str).cps.toList = [d]:=rfl
theorem m9{d n:Nat}(h:Sg d):BadW ((⟨#[d]⟩:Str)++tx n):=by
 by_cases e:d=32
 ·subst e;refine⟨Str.empty,?_,kh⟩;have:=pL (a:=Str.empty) (b:=tx n) (by intro z;cases z) (nk n)
  rw[show Str.empty++spS++tx n=(⟨#[32]⟩:Str)++tx n from rfl]at this;rw[this];exact BQ ..
 ·refine jj (fun z=>?_) (pP (c:=d) (by rw[ck,nE];exact BQ ..) h.2.2)
  rw[ck,nE]at z;rcases BG.mp z with z | z
  ·exact e z.symm
  ·exact nk n z
theorem xi{d n:Nat}(h:Sg d):BadW (tx n++(⟨#[d]⟩:Str)):=by
 by_cases e:d=32
 ·subst e;refine⟨Str.empty,?_,kh⟩;have:=pL (a:=tx n) (b:=Str.empty) (nk n) (by intro z;cases z)
  rw[Str.append_empty]at this;rw[show tx n++(⟨#[32]⟩:Str)=tx n++spS from rfl,this];exact BO _ (BR.mpr rfl)
 ·refine jj (fun z=>?_) (pP (c:=d) (by rw[ck,nE];exact B0 _ (BR.mpr rfl)) h.2.2)
  rw[ck,nE]at z;rcases BN.mp z with z | z
  ·exact nk n z
  ·exact e (BR.mp z).symm
noncomputable def Prn(z:Str):Prop:=∀ c∈z.cps.toList,32<=c/\c<127
theorem gz(n:Nat):Prn (tx n):=fun c h=>by have:=nu n c h;omega
theorem i7{a b:Str}(h:Prn a)(k:Prn b):Prn (a++b):=fun c hc=>by
 rw[ck]at hc;rcases BN.mp hc with z | z
 ·exact h c z
 ·exact k c z
theorem nJ{d:Nat}(h:Sg d):Prn ⟨#[d]⟩:=fun c hc=>by rw[BR.mp hc];exact⟨h.1,h.2.1⟩
noncomputable def yU:Sp:=fun vs H Q _=>∃(n:Nat)(r:Int),vs = [.str (tx n),.int r]/\n<10^31/\0<=r/\∀ z:Str,z.length<=40->Prn z->BadW z->Q (.str z) H
section
variable{P:Program}{w:World}{K:BD}{mg:Str->Option Value}{base:Heap}
theorem jZ:aJ ["cell","some"] ["cell"] (ay iW):=by ac_nf
theorem AE{f:Addr}{fd:FuncData} (F:Fun K "_law_sign" "_law_sign" iW f fd):FnOk P w K mg base CX0 1 f fd ["cell"] uG:=by
 refine F.ok jZ (fun vs H Q E h=>?_) (fun cdv A outer s H vs Q E hr h=>?_)
 ·obtain⟨c,rfl,_⟩:=h;rfl
 obtain⟨c,rfl,kk⟩:=h
 refine⟨_,(af (av (i:=1) jZ.nd rfl (Or.inl rfl) aE)
   (ak (aG (aL vX (pv 1) (aq aT (pv 0) ai) (fun _ _=>rfl))))),?_⟩
 have c0:=Df c (show(84:Int)≠0 by decide)
 have c1:=CU c (show(0:Int)<84 by decide)
 obtain⟨n,hn⟩:∃ n:Nat,c%84=(n:Int):=⟨(c%84).toNat,by omega⟩
 obtain⟨d,hd,hs⟩:=xJ n (by omega)
 refine⟨_,rfl,_,rfl,_,_,rfl,rfl,(by show(0:Int)<84;decide),_,c%84,d,rfl,rfl,by decide,?_,kk d ?_⟩
 ·rw[hn];exact aO hd
 ·simp only[CZ,DU,Bool.and_eq_false_iff,decide_eq_true_eq,decide_eq_false_iff_not]at hs;exact⟨hs.1.1,hs.1.2,by omega⟩
theorem jY:aJ ["word","rest","way"] ["word","rest"] (ay iT):=by ac_nf
theorem AA{f f1:Addr}{fd d1:FuncData} (F:Fun K "_law_word" "_law_word" iT f fd) (G_law_sign:Cal P w K mg base 1 "_law_sign" ["cell"] uG f1 d1):FnOk P w K mg base CX0 2 f fd ["word","rest"] yU:=by
 refine F.ok jY (fun vs H Q E h=>?_) (fun cdv A outer s H vs Q E hr h=>?_)
 ·obtain⟨z,r,rfl,_⟩:=h;rfl
 obtain⟨n,r,rfl,hn,r0,kk⟩:=h
 refine⟨_,(af (av (i:=2) jY.nd rfl (Or.inl rfl) (aq aT (pv 1) ai))
   (af (bf (ax bu (pv 2) ai (aA _)) (ak (aG (aq ba aE (pv 0)))) aF)
   (af (bf (ax bu (pv 2) ai (aA _)) (ak (aG (aq ba (pv 0) (aI G_law_sign.ok (hr.mono (by decide)) rfl G_law_sign.mg G_law_sign.kp G_law_sign.bn .nil bA (aa (aq a9 (pv 1) ai) ag))))) aF)
   (af (bf (ax bu (pv 2) ai (aA _)) (ak (aG (aq ba (aI G_law_sign.ok (hr.mono (by decide)) rfl G_law_sign.mg G_law_sign.kp G_law_sign.bn .nil bA (aa (aq a9 (pv 1) ai) ag)) (pv 0)))) aF)
   (af (bf (ax bu (pv 2) ai (aA _)) (ak (aG aE)) aF)
   (af (bf (ax bu (pv 2) ai (aA _)) (ak (aG (aq ba aE (aq sG aE ai)))) aF)
   (af (bf (ax bu (pv 2) ai (aA _)) (ak (aG (aq ba aE (pv 0)))) aF)
   (af (bf (ax bu (pv 2) ai (aA _)) (ak (aG aE)) aF)
   (ak (aG (aq ba aE (pv 0)))))))))))),?_⟩
 have s64:(400000:Nat)<=sizeLine:=by decide
 have ln:=bY (k:=30) hn;have l1:∀ d,(⟨#[d]⟩:Str).length=1:=fun _=>rfl;have e0:Str.ofString "0" = ⟨#[48]⟩:=by decide
 have ep:Str.ofString "+" = ⟨#[43]⟩:=by decide
 have em:Str.ofString "-" = ⟨#[45]⟩:=by decide
 have g48:Prn ⟨#[48]⟩:=fun c hc=>by rw[BR.mp hc];decide
 have e1:Str.ofString "1" = ⟨#[49]⟩:=by decide
 have z31:({ cps:=List.foldl (fun x1 x2=>x1++x2) #[] (Dz 31 (Str.ofString "0").cps) }:Str)=⟨#[48,48,48,48,48,48,48,48,48,48,48,48,48,48,48,48,48,48,48,48,48,48,48,48,48,48,48,48,48,48,48]⟩:=by decide
 refine⟨_,rfl,_,_,rfl,rfl,(by show(0:Int)<8;decide),?_⟩
 refine⟨_,rfl,rfl,_,rfl,ite2 (fun _=>?_) (fun _=>?_)⟩
 ·refine⟨_,rfl,_,_,rfl,rfl,by rw[e0,l1];omega,?_⟩
  rw[e0];refine kk _ (by rw[Str.length_append,l1];omega) (i7 g48 (gz n)) (jj (fun z=>?_) (yi (by rw[ck];rfl) ?_))
  ·rw[ck]at z;rcases BN.mp z with z | z
   ·exact absurd (BR.mp z) (by decide)
   ·exact nk n z
  ·have:0<(tx n).length:=by rw[jU];exact List.length_pos_iff.mpr (zY n)
   rw[Str.length_append,l1];omega
 refine⟨_,rfl,rfl,_,rfl,ite2 (fun _=>?_) (fun _=>?_)⟩
 ·refine⟨_,rfl,_,rfl,_,_,rfl,rfl,⟨by decide,by decide⟩,_,rfl,fun d hd=>?_⟩
  refine⟨_,_,rfl,rfl,by rw[l1];omega,kk _ (by rw[Str.length_append,l1];omega) (i7 (gz n) (nJ hd)) (xi hd)⟩
 refine⟨_,rfl,rfl,_,rfl,ite2 (fun _=>?_) (fun _=>?_)⟩
 ·refine⟨_,rfl,_,_,rfl,rfl,⟨by decide,by decide⟩,_,rfl,fun d hd=>?_⟩
  refine⟨_,rfl,_,_,rfl,rfl,by rw[l1];omega,kk _ (by rw[Str.length_append,l1];omega) (i7 (nJ hd) (gz n)) (m9 hd)⟩
 refine⟨_,rfl,rfl,_,rfl,ite2 (fun _=>?_) (fun _=>?_)⟩
 ·rw[show Str.ofString "" = Str.empty from tK];exact kk _ (by decide) (fun c hc=>by cases hc) (jj (by intro z;cases z) kh)
 refine⟨_,rfl,rfl,_,rfl,ite2 (fun _=>?_) (fun _=>?_)⟩
 ·refine⟨_,31,rfl,rfl,by decide,by decide,by decide,_,_,rfl,rfl,by rw[z31];decide,?_⟩
  rw[z31,e1];refine kk _ (by decide) (fun c hc=>?_) (jj ?_ (yj (by decide)))
  ·have:∀ c∈((⟨#[49]⟩:Str)++⟨#[48,48,48,48,48,48,48,48,48,48,48,48,48,48,48,48,48,48,48,48,48,48,48,48,48,48,48,48,48,48,48]⟩).cps.toList,32<=c/\c<127:=by decide
   exact this c hc
  ·decide
 refine⟨_,rfl,rfl,_,rfl,ite2 (fun _=>?_) (fun _=>?_)⟩
 ·refine⟨_,rfl,_,_,rfl,rfl,by rw[ep,l1];omega,?_⟩
  rw[ep];exact kk _ (by rw[Str.length_append,l1];omega) (i7 (nJ ⟨by decide,by decide,by decide⟩) (gz n)) (m9 ⟨by decide,by decide,by decide⟩)
 refine⟨_,rfl,rfl,_,rfl,ite2 (fun _=>?_) (fun _=>?_)⟩
 ·refine kk _ (by decide) (fun c hc=>?_) (jj (by decide) (pP (c:=95) (by decide) (by decide)))
  have:∀ c∈(Str.ofString "1_0").cps.toList,32<=c/\c<127:=by decide
  exact this c hc
 refine⟨_,rfl,_,_,rfl,rfl,by rw[em,l1];omega,?_⟩
 rw[em];exact kk _ (by rw[Str.length_append,l1];omega) (i7 (nJ ⟨by decide,by decide,by decide⟩) (gz n)) (m9 ⟨by decide,by decide,by decide⟩)
end
open K8 hiding Txt
theorem zZ{n d:Nat}(h:d<48∨57<d):d∉(tx n).cps.toList:=fun z=>by
 have:=nu n d z;omega
noncomputable def bare(ws:List Str):Str:=Str.join spS ws
theorem zB{c:Nat}:∀{a b:List (List Nat)},a≠[]->b≠[]->jn c (a++b)=jn c a++c::jn c b
 |[],_,h,_=>absurd rfl h
 |[x],b,_,hb=>vW c x hb
 |x::y::r,b,_,hb=>by
  show x++c::jn c (y::r++b)=x++c::jn c (y::r)++c::jn c b;rw[zB (CL y r) hb,Ca];rfl
theorem vV{c:Nat}:∀{P:List (List (List Nat))},(∀ p∈P,p≠[])->jn c (P.map (jn c))=jn c P.flatten
 |[],_=>rfl
 |[p],_=>by
  show jn c p=jn c (p++[]);rw[Dl]
 |p::q::r,h=>by
  have hf:(q::r).flatten≠[]:=fun z=>by
   have:=Gi.mp z q (BQ ..);exact h q (BO _ (BQ ..)) this
  rw[BW,vW c _ (by simp),vV (P:=q::r) fun x hx=>h x (BO _ hx)]
  exact(zB (h p (BQ ..)) hf).symm
theorem vx(z:Str):pcs z≠[]:=qP z 32
theorem rh{ws:List Str}(h:ws≠[]):pcs (bare ws)=(ws.map pcs).flatten:=by
 have e:bare ws=Str.join spS (ws.map pcs).flatten:=by
  refine jV ?_;have a1:=fA 32 ws;have a2:=fA 32 (ws.map pcs).flatten;show(Str.join ⟨#[32]⟩ ws).cps.toList=(Str.join ⟨#[32]⟩ (ws.map pcs).flatten).cps.toList;rw[a1,a2,List.map_flatten,Dj,← vV]
  ·rw[Dj];refine congrArg (jn 32) (Fp fun z _=>?_);have:=congrArg (fun s:Str=>s.cps.toList) (StrLaws.join_split z ⟨#[32]⟩);simp only[fA]at this;exact this.symm
  ·intro p hp;obtain⟨z,_,rfl⟩:=B9.mp hp;intro q;exact vx z (List.map_eq_nil_iff.mp q)
 unfold pcs;rw[e];refine bX (c:=32) (fun z=>?_) fun w hw=>?_
 ·obtain⟨a,r,rfl⟩:=DL h;exact vx a (Gi.mp z _ (B9.mpr ⟨a,BQ ..,rfl⟩))
 ·obtain⟨p,hp,hw⟩:=CN.mp hw;obtain⟨z,_,rfl⟩:=B9.mp hp;exact StrLaws.split_free _ 32 w hw
theorem nM{ws:List Str}(h:ws≠[])(f:∀ z∈ws,32∉z.cps.toList):pcs (bare ws)=ws:=bX (c:=32) h f
theorem Bw{first a:Str}{ws:List Str}{z:Str}(hz:z∈ws)(b:BadW z):bT first (bare (a::ws)) 31=none:=by
 have e:=rh (ws:=a::ws) (CL _ _);obtain⟨p,hp,hn⟩:=b;obtain⟨p0,pr,ep⟩:=DL (vx a);have e2:CC (bare (a::ws)) spS=p0::(pr++(ws.map pcs).flatten):=by
  show pcs (bare (a::ws))=_;rw[e,BW,CH,ep];rfl
 unfold bT;rw[e2];show(if _/\((pr++(ws.map pcs).flatten).map (nOf 31)).all DV=true then _ else none)=none;rw[if_neg];rintro⟨_,q⟩;have:=DN.mp q (nOf 31 p) (B9.mpr ⟨p,B0 _ (CN.mpr ⟨pcs z,B9.mpr ⟨z,hz,rfl⟩,hp⟩),rfl⟩);rw[hn]at this
 cases this
theorem iJ{first row:Str}{p0:Str}{pr:List Str}(e:pcs row=p0::pr)(n:p0≠first):bT first row 31=none:=by
 unfold bT;rw[show CC row spS=p0::pr from e];show(if p0=first/\_ then _ else none)=none;rw[if_neg fun z=>n z.1]
theorem iI{first:Str}{ns:List Nat}(hf:32∉first.cps.toList)(hn:∀ n∈ns,n<10^31):bT first (bare (first::ns.map tx)) 31=some ns:=by
 have hs:CC (bare (first::ns.map tx)) spS=first::ns.map tx:=bX (c:=32) (CL _ _) fun w hw=>by
  rcases BG.mp hw with rfl | hw
  ·exact hf
  ·obtain⟨n,_,rfl⟩:=B9.mp hw;exact zZ (.inl (by decide))
 unfold bT;rw[hs];have e1:(ns.map tx).map (nOf 31)=ns.map some:=by
  rw[Dj];exact Fp fun n h=>zu (k:=30) (hn n h)
 have e2:((ns.map tx).map fun z=>(nOf 31 z).getD 0)=ns:=by
  rw[Dj];conv=>rhs;rw[← List.map_id ns]
  exact Fp fun n h=>by
   show(nOf 31 (tx n)).getD 0=n;rw[zu (k:=30) (hn n h)];rfl
 have e3:(ns.map some).all DV=true:=by simp
 show(if first=first/\((ns.map tx).map (nOf 31)).all DV=true then some ((ns.map tx).map fun z=>(nOf 31 z).getD 0) else none)=_;rw[e1,e2,if_pos ⟨rfl,e3⟩]
theorem kG{z:Str}(hn:32∉z.cps.toList)(ws:List Str):fw (bare (z::ws))=z:=by
 cases ws with
 |nil=>exact xV (c:=32) hn
 |cons a r =>
  have e:(bare (z::a::r)).cps.toList=z.cps.toList++32::(Str.join spS (a::r)).cps.toList:=by
   show(z++spS++Str.join spS (a::r)).cps.toList=_;rw[ck,ck,Ca];rfl
  exact(xW (c:=32) hn e).trans (jV rfl)
theorem Av:32∉plW.cps.toList:=by decide
theorem yJ:32∉abW.cps.toList:=by decide
noncomputable def bN(d:Td):List Str:=[d.1,tx d.2.1,tx d.2.2.1,tx d.2.2.2]
noncomputable def abRW(i:Nat)(l:List Nat):List Str:=abW::tx i::l.map tx
noncomputable def aB(m:Nat)(td:List Td)(ts:List (List Nat)):List (List Str):=[plW,tx m]::(td.map bN++ts.mapIdx abRW)
noncomputable def kdS(k:Str):Prop:=k=cP∨k=bZ
theorem vT{k:Str}(h:kdS k):32∉k.cps.toList:=by
 rcases h with rfl | rfl<;>decide
structure Wf(m:Nat)(td:List Td)(ts:List (List Nat)):Prop where
 m2:2<=m
 m40:m<=40
 tl:ts.length=m
 t1:1<=td.length
 t82:td.length<=82
 kd:∀ d∈td,kdS d.1/\d.2.1<10^31/\d.2.2.1<10^31/\d.2.2.2<=10^30
 tn:∀ l∈ts,l.length<=90/\∀ n∈l,n<10^31
theorem bO{m:Nat}{td:List Td}{ts:List (List Nat)}:(aB m td ts).length=1+td.length+ts.length:=by
 unfold aB;rw[BK,BE,BC,List.length_mapIdx];omega
theorem iy{m:Nat}{td:List Td}{ts:List (List Nat)}{i:Nat}{d:Td}(h:td[i]?=some d):(aB m td ts)[i+1]?=some (bN d):=by
 have:=(BB.mp h).1;unfold aB;rw[Fc,BL (by rw[BC];exact this),BJ,h]
 rfl
theorem gk{m:Nat}{td:List Td}{ts:List (List Nat)}{i:Nat}{l:List Nat}(h:ts[i]?=some l):(aB m td ts)[1+td.length+i]?=some (abRW i l):=by
 unfold aB;rw[show 1+td.length+i=(td.length+i)+1 by omega,Fc,BH (by rw[BC];omega),BC,E9,List.getElem?_mapIdx,h]
 rfl
theorem Aw{m:Nat}(h2:2<=m)(h40:m<=40):plO (bare [plW,tx m])=some m:=by
 have e:bT plW (bare [plW,tx m]) 31=some [m]:=iI (ns:=[m]) Av fun n hn=>by
  rw[BR.mp hn];omega
 unfold plO;rw[e];exact if_pos ⟨h2,h40⟩
theorem qN{d:Td}(h:kdS d.1/\d.2.1<10^31/\d.2.2.1<10^31/\d.2.2.2<=10^30):RowD (bare (bN d)) d:=by
 obtain⟨k,a,b,s⟩:=h;have hf:fw (bare (bN d))=d.1:=kG (vT k) _;refine⟨hf,?_,by unfold isT;rw[hf];exact k⟩
 have e:bT (fw (bare (bN d))) (bare (bN d)) 31=some [d.2.1,d.2.2.1,d.2.2.2]:=by
  rw[hf];exact iI (ns:=[d.2.1,d.2.2.1,d.2.2.2]) (vT k) fun n hn=>by
   simp only[BG,Ct,or_false]at hn;have:(10:Nat)^30<10^31:=by decide
   rcases hn with rfl | rfl | rfl<;>omega
 unfold tieO;rw[e];exact if_pos s
theorem yK{r:List Str}:¬ isT (bare (abW::r)):=fun z=>by
 unfold isT at z;rw[kG yJ]at z;rcases z with z | z<;>exact absurd z (by decide)
theorem Bx{i:Nat}{l:List Nat}(hi:i<10^31)(h:∀ n∈l,n<10^31):iq i (bare (abRW i l))=some l:=by
 have e:bT abW (bare (abRW i l)) 31=some (i::l):=iI (ns:=i::l) yJ fun n hn=>by
  rcases BG.mp hn with rfl | hn
  ·exact hi
  ·exact h n hn
 unfold iq;rw[e];exact if_pos rfl
noncomputable def bdR(t N:Nat)(b:Str):Prop:=(N=0/\plO b=none)∨(1<=N/\N<=t/\((isT b/\tieO b=none)∨(¬ isT b/\iq 0 b=none)))∨(t<N/\¬ isT b/\iq (N-1-t) b=none)
section
variable{WC BX BT BU BP NF:Addr}{H:Hp}{Q:V->Hp->Prop}{E:Value->Option Addr->Hp->Prop}{m:Nat}{td:List Td}{ts:List (List Nat)}{bs:List Str}{un:Str}
theorem vc(w:Wf m td ts){N:Nat}(t80:N<=80)(hN:N<=td.length)(pre:∀ i,i<N+1->bs[i]?=((aB m td ts).map bare)[i]?):RdP bs m (td.take N):=by
 refine⟨⟨bare [plW,tx m],by rw[pre 0 (by omega)];rfl,Aw w.m2 w.m40⟩,by rw[BV];omega,fun i d hd=>?_⟩
 have hi:=(BB.mp hd).1;rw[BV]at hi;rw[Du,if_pos (by omega)]at hd
 refine⟨bare (bN d),by rw[pre (i+1) (by omega),BJ,iy hd];rfl,qN (w.kd d (BF hd))⟩
theorem zj(w:Wf m td ts){N:Nat}(t80:td.length<=80)(hN:N<=m)(pre:∀ i,i<1+td.length+N->bs[i]?=((aB m td ts).map bare)[i]?)(nt:∀ b,bs[td.length+1]?=some b->¬ isT b):RdU bs m td (ts.take N):=by
 have p:=vc (bs:=bs) w t80 (BI _) fun i hi=>pre i (by omega)
 rw[CQ]at p;refine⟨p,.stop nt,by rw[BV];omega,fun i l hl=>?_⟩
 have hi:=(BB.mp hl).1;rw[BV]at hi;rw[Du,if_pos (by omega)]at hl
 have m40:=w.m40;refine⟨bare (abRW i l),by rw[pre _ (by omega),BJ,gk hl];rfl,Bx (by omega) (w.tn l (BF hl)).2⟩
theorem Ao(w:Wf m td ts)(t80:td.length<=80){N:Nat}(hN:N<1+td.length+m)(pre:∀ i,i<N->bs[i]?=((aB m td ts).map bare)[i]?)(bad:∀ b,bs[N]?=some b->bdR td.length N b)(k:Bad BX E H ((N:Int)+1)):RdX WC BX BT BU BP NF H bs un Q E:=by
 have tl:=w.tl;have m2:=w.m2;have RL:=bO (m:=m) (td:=td) (ts:=ts);have ln:bs[N]?=none->bs.length=N:=fun z=>by
  have z:=List.getElem?_eq_none_iff.mp z;rcases Nat.eq_zero_or_pos N with e | e
  ·omega
  ·have:=pre (N-1) (by omega)
   rw[BJ,BA (show N-1<(aB m td ts).length by omega)]at this
   have:=(BB.mp this).1;omega
 by_cases n0:N=0
 ·subst n0;refine .first (fun b hb=>?_) k;rcases bad b hb with⟨_,z⟩ | ⟨z,_⟩ | ⟨z,_⟩
  ·exact z
  ·omega
  ·omega
 by_cases nt:N<=td.length
 ·have p:=vc (bs:=bs) (N:=N-1) w (by omega) (by omega) fun i hi=>pre i (by omega)
  have l1:(td.take (N-1)).length=N-1:=by rw[BV];omega
  cases hb:bs[N]? with
  |none =>
   have e:=ln hb;refine .turns m _ [] (some ((bs.length:Int)+1)) ⟨p,.stop (fun b z=>?_),C4 _,fun i l z=>by cases z⟩ (.short (by show 0<m;omega) (by rw[l1,DH];omega)) (fun n z=>?_) (fun z=>by cases z)
   ·rw[l1,show N-1+1=N by omega,hb]at z
    cases z
   ·cases z;rw[e];exact k
  |some b =>
   rcases bad b hb with⟨z,_⟩ | ⟨_,_,⟨z,y⟩ | ⟨z,y⟩⟩ | ⟨z,_⟩
   ·omega
   ·refine .ties m _ p (.bad b (by rw[l1,show N-1+1=N by omega];exact hb) z (.inr y)) ?_
    rw[l1,show(((N-1:Nat):Int)+2)=(N:Int)+1 by omega]
    exact k
   ·refine .turns m _ [] (some (((1+(td.take (N-1)).length+0:Nat):Int)+1)) ⟨p,.stop (fun b' z'=>?_),C4 _,fun i l z=>by cases z⟩ (.bad (by show 0<m;omega) b (by rw[l1,DH,show 1+(N-1)+0=N by omega];exact hb) y) (fun n z=>?_) (fun z=>by cases z)
    ·rw[l1,show N-1+1=N by omega,hb]at z'
     cases z'
     exact z
    ·cases z;rw[l1,show 1+(N-1)+0=N by omega]
     exact k
   ·omega
 ·obtain⟨j,rfl⟩:∃ j,N=1+td.length+j:=⟨N-1-td.length,by omega⟩
  have stop:∀ b,bs[td.length+1]?=some b->¬ isT b:=fun b hb=>by
   by_cases j0:j=0
   ·subst j0;rcases bad b (by rw[show 1+td.length+0=td.length+1 by omega];exact hb) with⟨z,_⟩ | ⟨_,z,_⟩ | ⟨_,z,_⟩
    ·omega
    ·omega
    ·exact z
   ·have h0:0<ts.length:=by omega
    rw[pre _ (by omega),BJ,show td.length+1=1+td.length+0 by omega,gk (BA h0)]at hb
    cases hb
    exact yK
  have u:=zj (bs:=bs) w t80 (N:=j) (by omega) pre stop
  have l1:(ts.take j).length=j:=by rw[BV];omega
  cases hb:bs[1+td.length+j]? with
  |none =>
   have e:=ln hb;refine .turns m td _ (some ((bs.length:Int)+1)) u (.short (by omega) (by rw[l1];exact e)) (fun n z=>?_) (fun z=>by cases z)
   cases z
   rw[e];exact k
  |some b =>
   rcases bad b hb with⟨z,_⟩ | ⟨_,z,_⟩ | ⟨_,_,z⟩
   ·omega
   ·omega
   ·rw[show 1+td.length+j-1-td.length=j by omega]at z
    refine .turns m td _ (some (((1+td.length+(ts.take j).length:Nat):Int)+1)) u (.bad (by omega) b (by rw[l1];exact hb) (by rw[l1];exact z)) (fun n z=>?_) (fun z=>by cases z)
    cases z
    rw[l1];exact k
theorem u9(w:Wf m td ts)(t80:td.length<=80)(pre:∀ i,i<1+td.length+m->bs[i]?=((aB m td ts).map bare)[i]?)(k:RdW WC BX BT BU BP NF H bs un Q E m td ts):RdX WC BX BT BU BP NF H bs un Q E:=by
 have m2:=w.m2;have u:=zj (bs:=bs) w t80 (BI m) pre fun b hb=>by
  have h0:0<ts.length:=by have:=w.tl;omega
  rw[pre _ (by omega),BJ,show td.length+1=1+td.length+0 by omega,gk (BA h0)]at hb
  cases hb
  exact yK
 rw[Cc (by rw[w.tl];exact BI _)]at u
 exact .turns m td ts none u (.stop w.tl) (fun n z=>by cases z) fun _=>k
theorem xQ(w:Wf m td ts)(t80:80<td.length)(pre:∀ i,i<82->bs[i]?=((aB m td ts).map bare)[i]?)(k:Bad BX E H 82):RdX WC BX BT BU BP NF H bs un Q E:=by
 have p:=vc (bs:=bs) (N:=80) w (BI _) (by omega) fun i hi=>pre i (by omega)
 have l1:(td.take 80).length=80:=by rw[BV];omega
 have hd:=BA t80;refine .ties m _ p (.bad (bare (bN td[80])) ?_ (qN (w.kd _ (CO _))).2.2 (.inl (by rw[l1];exact BI _))) ?_
 ·rw[l1,pre 81 (by omega),BJ,iy hd]
  rfl
 ·rw[l1];exact k
end
open K8 hiding Txt
theorem fw_pcs{row p0:Str}{pr:List Str}(e:pcs row=p0::pr):fw row=p0:=by
 have h:Str.join ⟨#[32]⟩ (CC row ⟨#[32]⟩)=row:=StrLaws.join_split row ⟨#[32]⟩;have e':CC row ⟨#[32]⟩=p0::pr:=e;rw[e']at h;rw[← h];exact kG (StrLaws.split_free row 32 p0 (by rw[e'];exact BQ ..)) pr
inductive RowK(m:Nat)(td:List Td)(ts:List (List Nat)):Nat->Str->List Nat->Prop
 |pl:RowK m td ts 0 plW [m]
 |tie (i:Nat) (d:Td) (h:td[i]?=some d):RowK m td ts (i+1) d.1 [d.2.1,d.2.2.1,d.2.2.2]
 |ab (i:Nat) (l:List Nat) (h:ts[i]?=some l):RowK m td ts (1+td.length+i) abW (i::l)
section
variable{m:Nat}{td:List Td}{ts:List (List Nat)}{N:Nat}{a:Str}{ns:List Nat}
theorem RowK.row(k:RowK m td ts N a ns):(aB m td ts)[N]?=some (a::ns.map tx):=by
 cases k with
 |pl=>rfl
 |tie i d h=>exact iy h
 |ab i l h=>exact gk h
theorem u5(w:Wf m td ts)(h:N<1+td.length+m):∃ a ns,RowK m td ts N a ns:=by
 by_cases n0:N=0
 ·subst n0;exact⟨_,_,.pl⟩
 by_cases nt:N<=td.length
 ·obtain⟨i,rfl⟩:∃ i,N=i+1:=⟨N-1,by omega⟩
  exact⟨_,_,.tie i _ (BA (by omega))⟩
 ·obtain⟨i,rfl⟩:∃ i,N=1+td.length+i:=⟨N-1-td.length,by omega⟩
  have:=w.tl;exact⟨_,_,.ab i _ (BA (by omega))⟩
theorem RowK.sp(w:Wf m td ts)(k:RowK m td ts N a ns):32∉a.cps.toList:=by
 cases k with
 |pl=>exact Av
 |tie i d h=>exact vT (w.kd d (BF h)).1
 |ab i l h=>exact yJ
theorem RowK.lt(w:Wf m td ts)(k:RowK m td ts N a ns):(∀ n∈ns,n<10^31)/\ns.length<=91/\1<=ns.length:=by
 have m40:=w.m40
 cases k with
 |pl=>exact⟨fun n hn=>by rw[BR.mp hn];omega,(by show 1<=91;decide),(by show 1<=1;decide)⟩
 |tie i d h =>
  obtain⟨_,x,y,z⟩:=w.kd d (BF h);refine⟨fun n hn=>?_,(by show 3<=91;decide),(by show 1<=3;decide)⟩
  simp only[BG,Ct,or_false]at hn;have:(10:Nat)^30<10^31:=by decide
  rcases hn with rfl | rfl | rfl<;>omega
 |ab i l h =>
  obtain⟨x,y⟩:=w.tn l (BF h);have hi:=(BB.mp h).1;have tl:=w.tl;refine⟨fun n hn=>?_,by rw[BK];omega,by rw[BK];omega⟩
  rcases BG.mp hn with rfl | hn
  ·omega
  ·exact y n hn
theorem RowK.none(w:Wf m td ts)(k:RowK m td ts N a ns){r:List Str}(h:bT a (bare (a::r)) 31=none):bdR td.length N (bare (a::r)):=by
 cases k with
 |pl=>exact .inl ⟨rfl,by unfold plO;rw[h]⟩
 |tie i d hd =>
  have ki:=(w.kd d (BF hd)).1;have hi:=(BB.mp hd).1;have hf:=kG (vT ki) r;refine .inr (.inl ⟨by omega,by omega,.inl ⟨by unfold isT;rw[hf];exact ki,?_⟩⟩)
  unfold tieO;rw[hf,h]
 |ab i l hl=>exact .inr (.inr ⟨by omega,yK,by unfold iq;rw[h]⟩)
theorem RowK.other(w:Wf m td ts)(k:RowK m td ts N a ns){ns':List Nat}(lt:∀ n∈ns',n<10^31)(h:N<=td.length->ns'.length≠ns.length∨(ns'.length=3/\1<=N/\10^30<ns'.getD 2 0))(h2:td.length<N->ns' = []∨ns'.head?≠some (N-1-td.length)):bdR td.length N (bare (a::ns'.map tx)):=by
 have hb:=iI (ns:=ns') (k.sp w) lt
 cases k with
 |pl =>
  refine .inl ⟨rfl,?_⟩;unfold plO;rw[hb];have q:=h (C4 _);rcases ns' with _ | ⟨x,_ | ⟨y,r⟩⟩
  ·rfl
  ·rcases q with q | q
   ·exact absurd rfl q
   ·omega
  ·rfl
 |tie i d hd =>
  have ki:=(w.kd d (BF hd)).1;have hi:=(BB.mp hd).1;have hf:=kG (vT ki) (ns'.map tx);refine .inr (.inl ⟨by omega,by omega,.inl ⟨by unfold isT;rw[hf];exact ki,?_⟩⟩)
  unfold tieO;rw[hf,hb];have q:=h (by omega)
  rcases ns' with _ | ⟨x,_ | ⟨y,_ | ⟨z,_ | ⟨u,r⟩⟩⟩⟩
  ·rfl
  ·rfl
  ·rfl
  ·rcases q with q | ⟨_,_,q⟩
   ·exact absurd rfl q
   ·exact if_neg (by have q:10^30<z:=q;omega)
  ·rfl
 |ab i l hl =>
  refine .inr (.inr ⟨by omega,yK,?_⟩)
  unfold iq;rw[hb];have q:=h2 (by omega)
  rw[show 1+td.length+i-1-td.length=i by omega]at q ⊢
  rcases ns' with _ | ⟨x,r⟩
  ·rfl
  ·rcases q with q | q
   ·cases q
   ·exact if_neg fun z=>q (by rw[z];rfl)
theorem RowK.first(w:Wf m td ts)(k:RowK m td ts N a ns){d:Nat}(hd:Sg d)(r:List Str):bdR td.length N (bare (((⟨#[d]⟩:Str)++a)::r)):=by
 have hsp:=k.sp w;obtain⟨p0,pr,ep,hp⟩:∃ p0 pr,pcs ((⟨#[d]⟩:Str)++a)=p0::pr/\(p0=Str.empty∨p0=(⟨#[d]⟩:Str)++a):=by
  by_cases e:d=32
  ·subst e;exact⟨Str.empty,[a],pL (a:=Str.empty) (b:=a) (by intro z;cases z) hsp,.inl rfl⟩
  ·refine⟨_,[],pM fun z=>?_,.inr rfl⟩;rw[ck,nE]at z;rcases BG.mp z with z | z
   ·exact e z.symm
   ·exact hsp z
 have e2:pcs (bare (((⟨#[d]⟩:Str)++a)::r))=p0::(pr++(r.map pcs).flatten):=by
  rw[rh (CL _ _),BW,CH,ep];rfl
 have hf:=fw_pcs e2;have cps:∀{z:Str}{l:List Nat},z.cps.toList=l->p0=z->l = []∨l=d::a.cps.toList:=fun{z l} hz e=>by
  rcases hp with q | q
  ·left;rw[← hz,← e,q];rfl
  ·right;rw[← hz,← e,q,ck];rfl
 have nT:a.cps.toList≠[117,108,108]->a.cps.toList≠[117,115,104]->¬ isT (bare (((⟨#[d]⟩:Str)++a)::r)):=fun q1 q2 z=>by
  unfold isT at z;rw[hf]at z;rcases z with z | z
  ·rcases cps (l:=[112,117,108,108]) (by decide) z with y | y
   ·cases y
   ·exact q1 (DZ y).2.symm
  ·rcases cps (l:=[112,117,115,104]) (by decide) z with y | y
   ·cases y
   ·exact q2 (DZ y).2.symm
 cases k with
 |pl =>
  refine .inl ⟨rfl,?_⟩;unfold plO;rw[iJ e2];intro z;rcases cps (l:=plW.cps.toList) rfl z with y | y
  ·exact absurd y (by decide)
  ·have:=congrArg EV y
   rw[BK]at this;omega
 |tie i t h =>
  have ki:=(w.kd t (BF h)).1;have hi:=(BB.mp h).1;refine .inr (.inl ⟨by omega,by omega,.inr ⟨nT ?_ ?_,?_⟩⟩)
  ·rcases ki with e | e<;>rw[e]<;>decide
  ·rcases ki with e | e<;>rw[e]<;>decide
  ·unfold iq;rw[iJ e2];intro z;rcases cps (l:=[97,98,111,117,116]) (by decide) z with y | y
   ·cases y
   ·have y:=(DZ y).2
    rcases ki with e | e<;>rw[e]at y<;>exact absurd y (by decide)
 |ab i l h =>
  refine .inr (.inr ⟨by omega,nT (by decide) (by decide),?_⟩)
  unfold iq;rw[iJ e2];intro z;rcases cps (l:=abW.cps.toList) rfl z with y | y
  ·exact absurd y (by decide)
  ·have:=congrArg EV y
   rw[BK]at this;omega
end
open K8 hiding Txt
noncomputable def y8(K:BD):Sp:=fun vs H Q _=>∃(r:Addr)(m:Nat)(td:List Td)(ts:List (List Nat))(way rest:Nat),vs = [.ref r,iV td.length,iV way,iV rest]/\H r=some (.lst (((aB m td ts).map bare).map V.str))/\Wf m td ts/\way<=5/\rest<=10^12 /\
 ∀(N:Nat)(b:Str)(H':Hp),N<1+td.length+m->bdR td.length N b->Prn b->b.length<=4000->(∀ q o,H q=some o->q≠r->H' q=some o)->H' r=some (.lst ((((aB m td ts).map bare).set N b).map V.str))->Q (iV (N+1)) H'
noncomputable def rowE:TS:=fun D σ H=>∃(r p:Addr)(v1 v2 v3 v6:Option V)(N:Nat)(bs ws:List Str),σ = [some (.ref r),v1,v2,v3,some (iV N),some (.ref p),v6]/\H r=some (.lst (bs.map V.str))/\H p=some (.lst (ws.map V.str))/\N<bs.length/\ws.length<=100/\(∀ z∈ws,z.length<=40)/\D.rt (iV (N+1)) (upd H r (.lst ((bs.set N (bare ws)).map V.str)))
noncomputable def RowG(r:Addr)(m:Nat)(td:List Td)(ts:List (List Nat))(H:Hp)(Q:V->Hp->Prop):Prop:=∀(N:Nat)(b:Str)(H':Hp),N<1+td.length+m->bdR td.length N b->Prn b->b.length<=4000->(∀ q o,H q=some o->q≠r->H' q=some o)->H' r=some (.lst ((((aB m td ts).map bare).set N b).map V.str))->Q (iV (N+1)) H'
noncomputable def rowB(K:BD):TS:=fun D σ H=>∃(r:Addr)(m:Nat)(td:List Td)(ts:List (List Nat))(way rest N:Nat)(v5 v6:Option V),σ = [some (.ref r),some (iV td.length),some (iV way),some (iV rest),some (iV N),v5,v6]/\H r=some (.lst (((aB m td ts).map bare).map V.str))/\Wf m td ts/\way<=5/\rest<=10^12/\N<1+td.length+m/\(2<=way->N<=td.length)/\RowG r m td ts H D.rt
theorem eu{ws:List Str}(h:ws.length<=97)(k:∀ z∈ws,z.length<=40):(bare ws).length<=4000:=by
 have a:=mC 32 ws;have b:=eZ k;have c:ws.length*40<=97*40:=Eo _ h;have e:(bare ws).length=(Str.join ⟨#[32]⟩ ws).length:=rfl;omega
theorem jP{ws:List Str}(h:∀ z∈ws,Prn z):Prn (bare ws):=fun c hc=>by
 have e:(bare ws).cps.toList=jn 32 (ws.map (·.cps.toList)):=fA 32 ws;rw[e]at hc;have:∀{P:List (List Nat)},c∈jn 32 P->c=32∨∃ p∈P,c∈p:=fun{P}=>by
  induction P with
  |nil=>intro z;cases z
  |cons a r ih =>
   intro z
   cases r with
   |nil=>exact .inr ⟨a,BQ ..,z⟩
   |cons b r =>
    rcases BN.mp (show c∈a++32::jn 32 (b::r) from z)with z | z
    ·exact .inr ⟨a,BQ ..,z⟩
    ·rcases BG.mp z with z | z
     ·exact .inl z
     ·rcases ih z with q | ⟨p,hp,q⟩
      ·exact .inl q
      ·exact .inr ⟨p,BO _ hp,q⟩
 rcases this hc with z | ⟨p,hp,z⟩
 ·rw[z];decide
 ·obtain⟨w,hw,rfl⟩:=B9.mp hp;exact h w hw c z
section
variable{P:Program}{w:World}{K:BD}{mg:Str->Option Value}{base:Heap}
theorem bI:aJ ["rows","ties","way","rest","at","words","k"] ["rows","ties","way","rest"] (ay j7):=by ac_nf
theorem AJ{f f1 f2:Addr}{fd d1 d2:FuncData} (F:Fun K "_law_row" "_law_row" j7 f fd) (T:Txt mg) (G_law_sign:Cal P w K mg base 1 "_law_sign" ["cell"] uG f1 d1) (G_law_word:Cal P w K mg base 2 "_law_word" ["word","rest"] yU f2 d2):FnOk P w K mg base CX0 3 f fd ["rows","ties","way","rest"] (y8 K):=by
 refine F.ok bI (fun vs H Q E h=>?_) (fun cdv A outer s H vs Q E hr h=>?_)
 ·obtain⟨r,m,td,ts,way,rest,rfl,_⟩:=h;rfl
 obtain⟨r,m,td,ts,way,rest,rfl,hr0,wf,w5,r12,kk⟩:=h
 refine⟨_,(af (av (i:=4) bI.nd rfl (Or.inl rfl) (aq aT (pv 3) (aq aU (pv 1) ai)))
   (af (bf (ax md (pv 2) ai (aA _)) (ak (av (i:=4) bI.nd rfl (Or.inl rfl) (aq aT (pv 3) (au ao (by rfl) T.n_len aN (aa (pv 0) ag))))) aF)
   (fq (t2:=(rowB K)) (af (av (i:=3) bI.nd rfl (Or.inl rfl) (aq a9 (pv 3) (au ao (by rfl) T.n_len aN (aa (pv 0) ag))))
   (af (av (i:=5) bI.nd rfl (Or.inl rfl) (bP CB C3 DI gn (aL aD (pv 0) (pv 4) (fun _ _=>rfl)) (aa aE ag)))
   (af (bf (ax bu (pv 2) ai (aA _)) (ak (dQ (aq ba (aI G_law_sign.ok (hr.mono (by decide)) rfl G_law_sign.mg G_law_sign.kp G_law_sign.bn .nil bA (aa (pv 3) ag)) (aL aD (pv 5) ai (fun _ _=>rfl))) (dR (pv 5) ai bL))) (ak (bf (ax bu (pv 2) ai (aA _)) (af (av (i:=6) bI.nd rfl (Or.inl rfl) (aq aU ai (aq aT (pv 3) (aq cM (au ao (by rfl) T.n_len aN (aa (pv 5) ag)) ai))))
   (ak (dQ (aI G_law_word.ok (hr.mono (by decide)) rfl G_law_word.mg G_law_word.kp G_law_word.bn .nil bA (aa (aL aD (pv 5) (pv 6) (fun _ _=>rfl)) (aa (aq a9 (pv 3) (au ao (by rfl) T.n_len aN (aa (pv 5) ag))) ag))) (dR (pv 5) (pv 6) bL)))) (ak (bf (ax bu (pv 2) ai (aA _)) (ak (aZ (bP BS Ce Cd bg (pv 5) (aa (aK aH (by rfl) T.n_str cg (aa (aq aT (pv 3) ai) ag)) ag)))) (ak (bf (ax bu (pv 2) ai (aA _)) (ak (aZ (nL BS Ef Ee nS (pv 5)))) (ak (bf (ax bu (pv 2) ai (aA _)) (af (av (i:=4) bI.nd rfl (Or.inl rfl) (aq aU (aq aU ai (pv 1)) (aq aT (pv 3) (aq cM (aq cM (au ao (by rfl) T.n_len aN (aa (pv 0) ag)) ai) (pv 1)))))
   (af (av (i:=5) bI.nd rfl (Or.inl rfl) (bP CB C3 DI gn (aL aD (pv 0) (pv 4) (fun _ _=>rfl)) (aa aE ag)))
   (af (dQ (aK aH (by rfl) T.n_str cg (aa (aq aU (aq aU (aK oG (by rfl) T.n_int oJ (aa (aL aD (pv 5) ai (fun _ _=>rfl)) ag)) ai) (aq aT (aq a9 (pv 3) ai) ai)) ag)) (dR (pv 5) ai bL))
   (ak (bf (ax bu (aq aT (aq a9 (pv 3) ai) ai) ai (aA _)) (ak (av (i:=5) bI.nd rfl (Or.inl rfl) (cF dJ (pv 5) ft (cQ ai)))) aF))))) (af (av (i:=4) bI.nd rfl (Or.inl rfl) (au (oE rfl) (by rfl) T.n_max zM (aa (pv 4) (aa ai ag))))
   (af (av (i:=5) bI.nd rfl (Or.inl rfl) (bP CB C3 DI gn (aL aD (pv 0) (pv 4) (fun _ _=>rfl)) (aa aE ag)))
   (ak (dQ (aK aH (by rfl) T.n_str cg (aa (aq aU (aq aU (aq kg ai ai) ai) (aq aT (aq cN (pv 3) (pv 3)) (aq kg ai ai))) ag)) (dR (pv 5) ai bL))))))))))))))
   (fq (t2:=rowE) (af (dQ (bP CB Dr DA hV aE (aa (pv 5) ag)) (dR (pv 0) (pv 4) bL))
   (ak (aG (aq aU (pv 4) ai)))) (fun D0 S0 H0 h0=>?restr))))) (fun D0 S0 H0 h0=>?restb)))),?_⟩
 case restr =>
  obtain⟨r,p,v1,v2,v3,v6,N,bs,ws,rfl,hr1,hp,hN,wl,zl,kk⟩:=h0;have sl:=eZ zl;have sc:ws.length*40<=100*40:=Eo _ wl;rw[jW];refine⟨rfl,_,rfl,spS,p,ws,rfl,rfl,SqL.of hp,?_,?_⟩
  ·show _+ws.length*1<=1000000;omega +splitDisjunctions
  refine⟨_,rfl,_,rfl,r,bs.map V.str,(N:Int),N,rfl,rfl,hr1,cq (by rw[BC];exact hN),?_⟩
  refine⟨_,rfl,_,_,rfl,rfl,?_⟩;rw[← DO];exact kk
 case restb =>
  obtain⟨r,m,td,ts,way,rest,N,v5,v6,rfl,hr0,wf,w5,r12,hN,hNt,kk⟩:=h0;have m2:=wf.m2;have m40:=wf.m40;have t82:=wf.t82;have t1:=wf.t1;have tl:=wf.tl;have RL:=bO (m:=m) (td:=td) (ts:=ts);have rl:(((aB m td ts).map bare).map V.str).length=1+td.length+m:=by rw[BC,BC,RL,tl]
  have wd:∀{N:Nat}{a:Str}{ns:List Nat},RowK m td ts N a ns->pcs (bare (a::ns.map tx))=a::ns.map tx:=fun{N a ns} k=>nM (CL _ _) fun z hz=>by
   rcases BG.mp hz with rfl | hz
   ·exact k.sp wf
   ·obtain⟨n,_,rfl⟩:=B9.mp hz;exact nk n
  have at_:∀{N:Nat}{a:Str}{ns:List Nat},RowK m td ts N a ns->(((aB m td ts).map bare).map V.str)[N]?=some (V.str (bare (a::ns.map tx))):=fun{N a ns} k=>by rw[BJ,BJ,k.row];rfl
  obtain⟨a,ns,rk⟩:=u5 wf hN;obtain⟨nlt,n91,n1⟩:=rk.lt wf;have hsp:=rk.sp wf;have s64:(400000:Nat)<=sizeLine:=by decide
  rw[jW];refine⟨_,rfl,_,rfl,r,_,rfl,.inl (SqL.of hr0),_,_,rfl,rfl,⟨(by show(0:Int)<_;rw[rl];omega +splitDisjunctions),(by show _<(1073741824:Int);rw[rl];omega +splitDisjunctions)⟩,?_⟩
  have al:a.length<=6:=by
   cases rk with
   |pl=>decide
   |tie i d h=>rcases(wf.kd d (BF h)).1 with e | e<;>rw[e]<;>decide
   |ab i l h=>decide
  have ap:Prn a:=by
   cases rk with
   |pl=>intro c hc;exact(show ∀ c∈plW.cps.toList,32<=c/\c<127 by decide) c hc
   |tie i d h=>
    rcases(wf.kd d (BF h)).1 with e | e<;>rw[e]<;>intro c hc
    ·exact(show ∀ c∈cP.cps.toList,32<=c/\c<127 by decide) c hc
    ·exact(show ∀ c∈bZ.cps.toList,32<=c/\c<127 by decide) c hc
   |ab i l h=>intro c hc;exact(show ∀ c∈abW.cps.toList,32<=c/\c<127 by decide) c hc
  have nl:∀ z∈ns.map tx,z.length<=31:=fun z hz=>by
   obtain⟨n,hn,rfl⟩:=B9.mp hz;exact bY (k:=30) (nlt n hn)
  have np:∀ z∈ns.map tx,Prn z:=fun z hz=>by
   obtain⟨n,hn,rfl⟩:=B9.mp hz;exact gz n
  have bl:(bare (a::ns.map tx)).length<=4000:=eu (by rw[BK,BC];omega +splitDisjunctions) fun z hz=>by
   rcases BG.mp hz with rfl | hz
   ·omega +splitDisjunctions
   ·have:=nl z hz;omega +splitDisjunctions
  refine⟨_,rfl,_,rfl,r,_,_,_,rfl,rfl,SqL.of hr0,aO (at_ rk),rfl,_,spS,rfl,rfl,rfl,by omega +splitDisjunctions,fun p hp=>?_⟩
  rw[show CC (bare (a::ns.map tx)) spS=a::ns.map tx from wd rk];have sp1:=aj hp (.lst ((a::ns.map tx).map V.str));have hr1:=sp1 _ _ hr0;have hp1:(upd H0 p (.lst ((a::ns.map tx).map V.str))) p=some (.lst ((a::ns.map tx).map V.str)):=ae;have pr:p≠r:=fun z=>by rw[z,hr0]at hp;cases hp
  have rq:((rest:Int)/(((((aB m td ts).map bare).map V.str).length:Nat):Int))=((rest/(1+td.length+m):Nat):Int):=by rw[rl];rfl
  have rq12:rest/(1+td.length+m)<=10^12:=Co (FX _ _) r12;have fin:∀{N':Nat}{ws:List Str}{H':Hp},N'<1+td.length+m->bdR td.length N' (bare ws)->(∀ z∈ws,Prn z/\z.length<=40)->ws.length<=97->(∀ q o,H0 q=some o->H' q=some o)->D0.rt (iV (N'+1)) (upd H' r (.lst ((((aB m td ts).map bare).set N' (bare ws)).map V.str))):=fun{N' ws H'} h1 h2 h3 h4 h5=>kk N' _ _ h1 h2 (jP fun z hz=>(h3 z hz).1) (eu h4 fun z hz=>(h3 z hz).2) (fun q o e n=>by rw[ar n];exact h5 _ _ e) ae
  have okW:∀ z∈a::ns.map tx,Prn z/\z.length<=40:=fun z hz=>by
   rcases BG.mp hz with rfl | hz
   ·exact⟨ap,by omega +splitDisjunctions⟩
   ·exact⟨np z hz,by have:=nl z hz;omega +splitDisjunctions⟩
  have rl':((aB m td ts).map bare).length=1+td.length+m:=by rw[BC,RL,tl]
  have put:∀{xs:List V}{b o},H0 b=some o->(upd (upd H0 p (.lst ((a::ns.map tx).map V.str))) p (.lst xs)) b=some o:=fun{xs b o} e=>by rw[ar (fun z=>by rw[z,hp]at e;cases e),ar (fun z=>by rw[z,hp]at e;cases e)];exact e
  show tSeq _ _ _ _ _;simp only[rq];generalize hq:rest/(1+td.length+m)=R at rq12;refine⟨_,rfl,rfl,_,rfl,ite2 (fun c=>?_) (fun c0=>?_)⟩
  ·refine⟨_,rfl,_,rfl,fun d hd=>?_⟩;refine⟨_,rfl,p,_,0,_,rfl,rfl,SqL.of hp1,oR,_,_,rfl,rfl,by show 1+_<=_;omega +splitDisjunctions,?_⟩
   refine⟨_,rfl,p,_,0,0,rfl,rfl,hp1,cq (j:=0) (by rw[BC,BK];omega +splitDisjunctions),?_⟩
   refine⟨r,p,_,_,_,_,N,_,((⟨#[d]⟩:Str)++a)::ns.map tx,rfl,put hr0,ae,by rw[rl'];exact hN,?_,?_,fin hN (rk.first wf hd _) ?_ ?_ fun _ _=>put⟩
   ·rw[BK,BC];omega +splitDisjunctions
   ·intro z hz;rcases BG.mp hz with rfl | hz
    ·rw[Str.length_append];show 1+_<=_;omega +splitDisjunctions
    ·have:=nl z hz;omega +splitDisjunctions
   ·intro z hz;rcases BG.mp hz with rfl | hz
    ·exact⟨i7 (nJ hd) ap,by rw[Str.length_append];show 1+_<=_;omega +splitDisjunctions⟩
    ·exact okW z (BO _ hz)
   ·rw[BK,BC];omega +splitDisjunctions
  have ll:(((a::ns.map tx).map V.str).length:Int)=(ns.length:Int)+1:=by rw[BC,BK,BC];rfl
  refine⟨_,rfl,rfl,_,rfl,ite2 (fun c=>?_) (fun c=>?_)⟩
  ·refine⟨_,rfl,_,rfl,p,_,rfl,.inl (SqL.of hp1),_,_,rfl,rfl,_,_,rfl,rfl,(by show(0:Int)<_;rw[ll];omega +splitDisjunctions),_,_,rfl,rfl,?_⟩
   have mlt:=Dh R (show 0<ns.length by omega +splitDisjunctions)
   have ek:(1+(R:Int)%((((a::ns.map tx).map V.str).length:Int)-1))=((1+R%ns.length:Nat):Int):=by
    rw[ll,show((ns.length:Int)+1-1)=(ns.length:Int) by omega +splitDisjunctions]
    omega +splitDisjunctions
   simp only[ek];have hn:=nlt (ns[R%ns.length]) (CO _);have hw:((a::ns.map tx).map V.str)[1+R%ns.length]?=some (V.str (tx ns[R%ns.length])):=by
    rw[show 1+R%ns.length=R%ns.length+1 by omega +splitDisjunctions,BW,Fc,BJ,BJ,BA mlt]
    rfl
   refine⟨_,rfl,_,rfl,p,_,_,_,rfl,rfl,SqL.of hp1,aO hw,_,rfl,_,rfl,p,_,rfl,.inl (SqL.of hp1),_,_,rfl,rfl,⟨(by show(0:Int)<_;rw[ll];omega +splitDisjunctions),(by show _<(1073741824:Int);rw[ll];omega +splitDisjunctions)⟩,_,_,rfl,hn,?_,fun z zl zp bz=>?_⟩
   ·rw[ll];exact Int.ediv_nonneg (by omega +splitDisjunctions) (by omega +splitDisjunctions)
   refine⟨_,rfl,_,rfl,p,_,_,1+R%ns.length,rfl,rfl,hp1,cq (by rw[BC,BK,BC];omega +splitDisjunctions),?_⟩
   have es:((a::ns.map tx).map V.str).set (1+R%ns.length) (V.str z)=(a::(ns.map tx).set (R%ns.length) z).map V.str:=by
    rw[show 1+R%ns.length=R%ns.length+1 by omega +splitDisjunctions,BW,Fv,BW,DO]
   rw[es];have inW:∀ y∈a::(ns.map tx).set (R%ns.length) z,Prn y/\y.length<=40:=fun y hy=>by
    rcases BG.mp hy with rfl | hy
    ·exact okW _ (BQ ..)
    ·rcases Dk hy with hy | rfl
     ·exact okW y (BO _ hy)
     ·exact⟨zp,zl⟩
   refine⟨r,p,_,_,_,_,N,_,a::(ns.map tx).set (R%ns.length) z,rfl,put hr0,ae,by rw[rl'];exact hN,?_,fun y hy=>(inW y hy).2,fin hN (rk.none wf (Bw (List.mem_set (by rw[BC];exact mlt) _) bz)) inW ?_ fun _ _=>put⟩
   ·rw[BK,BZ,BC];omega +splitDisjunctions
   ·rw[BK,BZ,BC];omega +splitDisjunctions
  have hw1:¬ way=1:=fun z=>c (decide_eq_true (congrArg V.int (show(way:Int)=1 by omega +splitDisjunctions)))
  have hw0:¬ way=0:=fun z=>c0 (decide_eq_true (congrArg V.int (show(way:Int)=0 by omega +splitDisjunctions)))
  have hNt:=hNt (by omega +splitDisjunctions)
  have np31:∀ x∈ns,x<10^31:=nlt;have txW:∀{n:Nat},n<10^31->Prn (tx n)/\(tx n).length<=40:=fun{n} h=>⟨gz n,by have:=bY (k:=30) h;omega +splitDisjunctions⟩
  have mapW:∀{l:List Nat},(∀ n∈l,n<10^31)->∀ z∈a::l.map tx,Prn z/\z.length<=40:=fun{l} h z hz=>by
   rcases BG.mp hz with rfl | hz
   ·exact okW _ (BQ ..)
   ·obtain⟨n,hn,rfl⟩:=B9.mp hz;exact txW (h n hn)
  refine⟨_,rfl,rfl,_,rfl,ite2 (fun c=>?_) (fun c2=>?_)⟩
  ·have r80:(R:Int)%80=((R%80:Nat):Int):=rfl
   have l80:=Dh R (show 0<80 by decide)
   refine⟨_,rfl,.inl ⟨rfl,_,SqL.of hp1⟩,_,rfl,_,_,rfl,rfl,(by show(0:Int)<80;decide),_,rfl,a7 (n:=R%80) (by omega +splitDisjunctions),p,_,_,rfl,rfl,hp1,?_,?_⟩
   ·rw[BC,BK,BC];omega +splitDisjunctions
   have es:(a::ns.map tx).map V.str++[V.str (Str.ofString (toString ((R:Int)%80)))]=(a::(ns++[R%80]).map tx).map V.str:=by
    rw[Cn,← Dg,Cn];rfl
   rw[es];have lt':∀ n∈ns++[R%80],n<10^31:=fun n hn=>by
    rcases BN.mp hn with hn | hn
    ·exact nlt n hn
    ·rw[BR.mp hn];omega +splitDisjunctions
   refine⟨r,p,_,_,_,_,N,_,a::(ns++[R%80]).map tx,rfl,put hr0,ae,by rw[rl'];exact hN,?_,fun y hy=>(mapW lt' y hy).2,fin hN (rk.other wf lt' (fun _=>.inl ?_) (fun z=>by omega +splitDisjunctions)) (mapW lt') ?_ fun _ _=>put⟩
   ·rw[BK,BC,BE,BM];omega +splitDisjunctions
   ·rw[BE,BM];omega +splitDisjunctions
   ·rw[BK,BC,BE,BM];omega +splitDisjunctions
  refine⟨_,rfl,rfl,_,rfl,ite2 (fun c=>?_) (fun c3=>?_)⟩
  ·have llN:((a::ns.map tx).map V.str).length=ns.length+1:=by rw[BC,BK,BC]
   refine⟨_,rfl,.inl ⟨rfl,_,SqL.of hp1⟩,p,_,_,rfl,rfl,hp1,BA (by rw[llN];omega +splitDisjunctions),?_⟩
   have nne:ns≠[]:=fun z=>by rw[z]at n1;exact absurd n1 (by decide)
   have es:((a::ns.map tx).map V.str).dropLast=(a::ns.dropLast.map tx).map V.str:=by
    rw[BW,List.dropLast_cons_of_ne_nil (by simpa using nne),← Ei,← Ei]
    rfl
   rw[es];have lt':∀ n∈ns.dropLast,n<10^31:=fun n hn=>nlt n ((List.dropLast_sublist ns).subset hn);refine⟨r,p,_,_,_,_,N,_,a::ns.dropLast.map tx,rfl,put hr0,ae,by rw[rl'];exact hN,?_,fun y hy=>(mapW lt' y hy).2,fin hN (rk.other wf lt' (fun _=>.inl ?_) (fun z=>by omega +splitDisjunctions)) (mapW lt') ?_ fun _ _=>put⟩
   ·rw[BK,BC,DR];omega +splitDisjunctions
   ·rw[DR];omega +splitDisjunctions
   ·rw[BK,BC,DR];omega +splitDisjunctions
  refine⟨_,rfl,rfl,_,rfl,ite2 (fun c=>?_) (fun c4=>?_)⟩
  ·-- at=1+ties+rest%(len(rows)-1-ties)
   have m0:0<m:=by omega +splitDisjunctions
   have hi:=Dh R m0;have e4:(1+(td.length:Int)+(R:Int)%((((((aB m td ts).map bare).map V.str).length:Nat):Int)-1-(td.length:Int)))=((1+td.length+R%m:Nat):Int):=by
    rw[rl,show(((1+td.length+m:Nat):Int)-1-(td.length:Int))=(m:Int) by omega +splitDisjunctions]
    omega +splitDisjunctions
   refine⟨_,rfl,_,_,rfl,rfl,_,rfl,_,rfl,r,_,rfl,.inl (SqL.of hr1),_,_,rfl,rfl,_,rfl,_,_,rfl,rfl,_,_,rfl,rfl,(by show(0:Int)<_;rw[rl];omega +splitDisjunctions),_,_,rfl,rfl,?_⟩
   simp only[e4];obtain⟨l,hl⟩:∃ l,ts[R%m]?=some l:=⟨_,BA (show R%m<ts.length by omega +splitDisjunctions)⟩
   have rk2:RowK m td ts (1+td.length+R%m) abW (R%m::l):=.ab _ _ hl;obtain⟨nlt2,n912,_⟩:=rk2.lt wf;have hN2:1+td.length+R%m<1+td.length+m:=by omega +splitDisjunctions
   have bl2:(bare (abW::(R%m::l).map tx)).length<=4000:=eu (by rw[BK,BC];omega +splitDisjunctions) fun z hz=>by
    rcases BG.mp hz with rfl | hz
    ·decide
    ·obtain⟨n,hn,rfl⟩:=B9.mp hz;have:=bY (k:=30) (nlt2 n hn);omega +splitDisjunctions
   refine⟨_,rfl,_,rfl,r,_,_,_,rfl,rfl,SqL.of hr1,aO (at_ rk2),rfl,_,spS,rfl,rfl,rfl,by omega +splitDisjunctions,fun p2 hp2=>?_⟩
   rw[show CC (bare (abW::(R%m::l).map tx)) spS=abW::(R%m::l).map tx from wd rk2];have sp2:=aj hp2 (.lst ((abW::(R%m::l).map tx).map V.str));have hp21:(upd (upd H0 p (.lst ((a::ns.map tx).map V.str))) p2 (.lst ((abW::(R%m::l).map tx).map V.str))) p2=some (.lst ((abW::(R%m::l).map tx).map V.str)):=ae;have s02:∀ b o,H0 b=some o->(upd (upd H0 p (.lst ((a::ns.map tx).map V.str))) p2 (.lst ((abW::(R%m::l).map tx).map V.str))) b=some o:=fun b o e=>sp2 _ _ (sp1 _ _ e);have x40:=Dh (R/40) (show 0<40 by decide)
   have ex:((R%m:Nat):Int)+1+(R:Int)/40%40=((R%m+1+R/40%40:Nat):Int):=rfl;refine⟨_,rfl,p2,_,1,V.str (tx (R%m)),rfl,rfl,SqL.of hp21,aO (j:=1) rfl,tx (R%m),((R%m:Nat):Int),rfl,?_,?_,?_⟩
   ·have:=intText_digits (x:=tx (R%m)) (nu _) (zY _) (by have:=bY (k:=30) (show R%m<10^31 by omega +splitDisjunctions);omega +splitDisjunctions)
    rw[yO]at this;exact this
   ·have:=bY (k:=30) (show R%m<10^31 by omega +splitDisjunctions)
    omega +splitDisjunctions
   generalize hX:R%m+1+R/40%40=X at ex;have xne:X≠R%m:=by omega +splitDisjunctions
   have x31:X<10^31:=by omega +splitDisjunctions
   refine⟨_,_,rfl,rfl,_,rfl,_,_,rfl,rfl,⟨by decide,by decide⟩,_,_,rfl,rfl,(by show(0:Int)<40;decide),_,_,rfl,rfl,_,rfl,?_,?_⟩
   ·rw[ex];exact a7 (n:=X) (by omega +splitDisjunctions)
   rw[ex];refine⟨_,rfl,p2,_,1,1,rfl,rfl,hp21,cq (j:=1) (by rw[BC,BK,BC,BK];omega +splitDisjunctions),?_⟩
   have es:((abW::(R%m::l).map tx).map V.str).set 1 (V.str (Str.ofString (toString ((X:Nat):Int))))=(abW::(X::l).map tx).map V.str:=rfl;rw[es];have lt':∀ n∈X::l,n<10^31:=fun n hn=>by
    rcases BG.mp hn with rfl | hn
    ·exact x31
    ·exact nlt2 n (BO _ hn)
   have abO:Prn abW/\abW.length<=40:=⟨fun c hc=>(show ∀ c∈abW.cps.toList,32<=c/\c<127 by decide) c hc,by decide⟩
   have mapA:∀{l:List Nat},(∀ n∈l,n<10^31)->∀ z∈abW::l.map tx,Prn z/\z.length<=40:=fun{l} h z hz=>by
    rcases BG.mp hz with rfl | hz
    ·exact abO
    ·obtain⟨n,hn,rfl⟩:=B9.mp hz;exact txW (h n hn)
   have p2r:p2≠r:=fun z=>by rw[z,hr1]at hp2;cases hp2
   have put2:∀{xs:List V}{b o},H0 b=some o->(upd (upd (upd H0 p (.lst ((a::ns.map tx).map V.str))) p2 (.lst ((abW::(R%m::l).map tx).map V.str))) p2 (.lst xs)) b=some o:=fun{xs b o} e=>by rw[ar (fun z=>by rw[z]at e;rw[sp1 _ _ e]at hp2;cases hp2)];exact s02 _ _ e
   have l91:(R%m::l).length=(X::l).length:=rfl;refine⟨_,rfl,_,_,rfl,rfl,⟨by decide,by decide⟩,_,_,rfl,rfl,(by show(0:Int)<4;decide),rfl,_,rfl,ite2 (fun c=>?_) (fun c=>?_)⟩
   ·refine⟨_,rfl,_,rfl,p2,_,rfl,SqL.of ae,fun p3 hp3=>?_⟩;have ec:cutV ((abW::(X::l).map tx).map V.str) none (some 1)=([abW]:List Str).map V.str:=(wW (c:=1) (by rw[BC,BK];omega +splitDisjunctions)).trans rfl
    rw[ec];have s3:=aj hp3 (.lst (([abW]:List Str).map V.str));refine⟨r,p3,_,_,_,_,1+td.length+R%m,_,[abW],rfl,s3 _ _ (put2 hr0),ae,by rw[rl'];exact hN2,by decide,fun y hy=>by rw[BR.mp hy];exact abO.2,fin hN2 (rk2.other wf (ns':=[]) (fun n hn=>by cases hn) (fun z=>by omega +splitDisjunctions) fun _=>.inl rfl) (fun y hy=>by rw[BR.mp hy];exact abO) (by decide) fun _ _ e=>s3 _ _ (put2 e)⟩
   ·refine⟨r,p2,_,_,_,_,1+td.length+R%m,_,abW::(X::l).map tx,rfl,put2 hr0,ae,by rw[rl'];exact hN2,?_,fun y hy=>(mapA lt' y hy).2,fin hN2 (rk2.other wf lt' (fun z=>by omega +splitDisjunctions) fun _=>.inr ?_) (mapA lt') ?_ fun _ _=>put2⟩
    ·rw[BK,BC,← l91];omega +splitDisjunctions
    ·rw[show 1+td.length+R%m-1-td.length=R%m by omega +splitDisjunctions]
     exact fun z=>xne (Ci z)
    ·rw[BK,BC,← l91];omega +splitDisjunctions
  have R64 : -(2^64:Int)<(R:Int)/\(R:Int)<2^64:=⟨Int.lt_of_lt_of_le (by decide) (EG R),Int.lt_of_le_of_lt (Int.ofNat_le.mpr rq12) (by decide)⟩
  have e5:(if(1:Int) > (N:Int) then 1 else(N:Int))=((max N 1:Nat):Int):=by split<;>omega +splitDisjunctions
  refine⟨_,rfl,_,_,rfl,?_⟩;simp only[e5];obtain⟨i,hi⟩:∃ i,max N 1=i+1:=⟨max N 1-1,by omega +splitDisjunctions⟩
  rw[hi];have ile:i+1<=td.length:=by omega +splitDisjunctions
  obtain⟨d,hd⟩:∃ d,td[i]?=some d:=⟨_,BA ile⟩;have rk2:RowK m td ts (i+1) d.1 [d.2.1,d.2.2.1,d.2.2.2]:=.tie i _ hd;obtain⟨kdd,b1,b2,b3⟩:=wf.kd d (BF hd);obtain⟨nlt2,_,_⟩:=rk2.lt wf;have hN2:i+1<1+td.length+m:=by omega +splitDisjunctions
  have kw:Prn d.1/\d.1.length<=40:=by
   rcases kdd with e | e<;>rw[e]
   ·exact⟨fun c hc=>(show ∀ c∈cP.cps.toList,32<=c/\c<127 by decide) c hc,by decide⟩
   ·exact⟨fun c hc=>(show ∀ c∈bZ.cps.toList,32<=c/\c<127 by decide) c hc,by decide⟩
  have mapK:∀{l:List Nat},(∀ n∈l,n<10^31)->∀ z∈d.1::l.map tx,Prn z/\z.length<=40:=fun{l} h z hz=>by
   rcases BG.mp hz with rfl | hz
   ·exact kw
   ·obtain⟨n,hn,rfl⟩:=B9.mp hz;exact txW (h n hn)
  have bl2:(bare (d.1::[d.2.1,d.2.2.1,d.2.2.2].map tx)).length<=4000:=eu (by rw[BK,BC];show 3+1<=97;decide) fun z hz=>(mapK nlt2 z hz).2
  refine⟨_,rfl,_,rfl,r,_,_,_,rfl,rfl,SqL.of hr1,aO (at_ rk2),rfl,_,spS,rfl,rfl,rfl,by omega +splitDisjunctions,fun p2 hp2=>?_⟩
  rw[show CC (bare (d.1::[d.2.1,d.2.2.1,d.2.2.2].map tx)) spS=d.1::[d.2.1,d.2.2.1,d.2.2.2].map tx from wd rk2];have sp2:=aj hp2 (.lst ((d.1::[d.2.1,d.2.2.1,d.2.2.2].map tx).map V.str));have hp21:(upd (upd H0 p (.lst ((a::ns.map tx).map V.str))) p2 (.lst ((d.1::[d.2.1,d.2.2.1,d.2.2.2].map tx).map V.str))) p2=some (.lst ((d.1::[d.2.1,d.2.2.1,d.2.2.2].map tx).map V.str)):=ae;have put2:∀{xs:List V}{b o},H0 b=some o->(upd (upd (upd H0 p (.lst ((a::ns.map tx).map V.str))) p2 (.lst ((d.1::[d.2.1,d.2.2.1,d.2.2.2].map tx).map V.str))) p2 (.lst xs)) b=some o:=fun{xs b o} e=>by rw[ar (fun z=>by rw[z]at e;rw[sp1 _ _ e]at hp2;cases hp2)];exact sp2 _ _ (sp1 _ _ e)
  have e30:(10:Int)^(30:Int).toNat=((10^30:Nat):Int):=by decide
  have exx:(10:Int)^(30:Int).toNat+1+(R:Int)*(R:Int)%(10:Int)^(30:Int).toNat=((10^30+1+R*R%10^30:Nat):Int):=by
   rw[e30];rfl
  have x30:=Dh (R*R) (show 0<10^30 by decide)
  obtain⟨X,hX⟩:∃ X,X=10^30+1+R*R%10^30:=⟨_,rfl⟩;have x31:X<10^31/\10^30<X:=by
   rw[hX];exact⟨Cb (Nat.add_lt_add_left x30 _) (by decide),Cb (Ex _) (Nat.le_add_right _ _)⟩
  rw[← hX]at exx;refine⟨_,_,rfl,rfl,⟨by decide,by decide,by decide⟩,_,_,rfl,rfl,_,rfl,_,rfl,_,_,rfl,rfl,.inl R64,_,_,rfl,rfl,⟨by decide,by decide,by decide⟩,_,_,rfl,rfl,(by rw[e30];exact Int.ofNat_lt.mpr (by decide)),_,_,rfl,rfl,_,rfl,?_,?_⟩
  ·rw[exx];exact a7 (n:=X) (Dw x31.1 (by decide))
  rw[exx];refine⟨_,rfl,p2,_,3,3,rfl,rfl,hp21,cq (j:=3) (by show 3<4;decide),?_⟩
  have es:((d.1::[d.2.1,d.2.2.1,d.2.2.2].map tx).map V.str).set 3 (V.str (Str.ofString (toString ((X:Nat):Int))))=(d.1::[d.2.1,d.2.2.1,X].map tx).map V.str:=rfl;rw[es];have lt':∀ n∈[d.2.1,d.2.2.1,X],n<10^31:=fun n hn=>by
   simp only[BG,Ct,or_false]at hn;rcases hn with rfl | rfl | rfl
   ·exact b1
   ·exact b2
   ·exact x31.1
  exact⟨r,p2,_,_,_,_,i+1,_,d.1::[d.2.1,d.2.2.1,X].map tx,rfl,put2 hr0,ae,by rw[rl'];exact hN2,by show 4<=100;decide,fun y hy=>(mapK lt' y hy).2,fin hN2 (rk2.other wf lt' (fun _=>.inr ⟨rfl,Nat.succ_pos i,x31.2⟩) fun z=>absurd z (Nat.not_lt.mpr ile)) (mapK lt') (by show 4<=97;decide) fun _ _=>put2⟩
 have m2:=wf.m2;have m40:=wf.m40;have t82:=wf.t82;have t1:=wf.t1;have tl:=wf.tl;have RL:=bO (m:=m) (td:=td) (ts:=ts);have rl:(((aB m td ts).map bare).map V.str).length=1+td.length+m:=by rw[BC,BC,RL,tl]
 refine⟨_,rfl,_,rfl,_,_,rfl,rfl,_,_,rfl,rfl,(by show(0:Int)<_;omega +splitDisjunctions),?_⟩
 refine⟨_,rfl,_,_,rfl,rfl,_,rfl,ite2 (fun c=>?_) (fun c=>?_)⟩
 ·refine⟨_,rfl,_,rfl,r,_,rfl,.inl (SqL.of hr0),_,_,rfl,rfl,(by show(0:Int)<_;rw[rl];omega +splitDisjunctions),?_⟩
  have c':(way:Int)<2:=of_decide_eq_true c;refine⟨r,m,td,ts,way,rest,rest%(1+td.length+m),none,none,?_,hr0,wf,w5,r12,Dh _ (by omega +splitDisjunctions),fun z=>by omega +splitDisjunctions,kk⟩
  rw[rl];rfl
 ·have c':¬ (way:Int)<2:=fun z=>c (decide_eq_true z)
  have:=Dh rest (show 0<td.length+1 by omega +splitDisjunctions)
  exact⟨r,m,td,ts,way,rest,rest%(td.length+1),none,none,rfl,hr0,wf,w5,r12,by omega +splitDisjunctions,fun _=>by omega +splitDisjunctions,kk⟩
end
open K8 hiding Txt
noncomputable abbrev Kw:=List (Str×Nat)
noncomputable def jr(H:Hp)(ws:List V)(ks:Kw):Prop:=ws.length=ks.length/\∀(i:Nat)(k:Str×Nat),ks[i]?=some k->kdS k.1/\k.2<=10^30/\∃ p,ws[i]?=some (.ref p)/\H p=some (.tup [.str k.1,iV k.2])
theorem jr.kp{H H':Hp}{ws:List V}{ks:Kw}(h:jr H ws ks)(s:∀ b xs,H b=some (.tup xs)->H' b=some (.tup xs)):jr H' ws ks:=⟨h.1,fun i k z=>by
 obtain⟨a,b,p,c,d⟩:=h.2 i k z
 exact⟨a,b,p,c,s _ _ d⟩⟩
theorem jr.mono{H H':Hp}{ws:List V}{ks:Kw}(h:jr H ws ks)(s:Same H H'):jr H' ws ks:=h.kp fun b xs e=>s _ _ e
theorem jr.snoc{H:Hp}{ws:List V}{ks:Kw}{k:Str×Nat}{p:Addr}(t:jr H ws ks)(h:H p=some (.tup [.str k.1,iV k.2]))(h1:kdS k.1)(h2:k.2<=10^30):jr H (ws++[.ref p]) (ks++[k]):=by
 refine⟨by rw[BE,BE,t.1];rfl,fun j x ej=>?_⟩
 by_cases hj:j<ks.length
 ·rw[BL hj]at ej;obtain⟨u,v,p,a1,a2⟩:=t.2 j x ej;exact⟨u,v,p,by rw[BL (by rw[t.1];exact hj)];exact a1,a2⟩
 ·have hj2:j=ks.length:=by
   have:=(BB.mp ej).1;rw[BE,BM]at this;omega
  subst hj2;rw[BH (BI _),Ck]at ej
  cases ej
  exact⟨h1,h2,p,by rw[← t.1,BH (BI _),Ck];rfl,h⟩
noncomputable def qV(K:BD):Sp:=fun vs H Q _=>∃(a:Addr)(n:Nat)(ns:List Int),vs = [.ref a,iV n]/\SqL K H a (ns.map V.int)/\ns.length<=100/\n<=90/\∀(q:Addr)(ws:List V)(ks:Kw)(H':Hp),Same H H'->H' q=some (.lst ws)->jr H' ws ks->ks.length=n->Q (.ref q) H'
noncomputable def tdZ(es:En)(ks:Kw):List Td:=(es.zip ks).map fun p=>(p.2.1,p.1.1,p.1.2,p.2.2)
noncomputable def qR:Sp:=fun vs H Q _=>∃(pe pt pk:Addr)(ys xs ws:List V)(es:En)(ks:Kw)(ts:List (List Nat)),vs = [.ref pe,.ref pt,.ref pk]/\H pe=some (.lst ys)/\dB H ys es/\H pt=some (.lst xs)/\d7 H xs ts/\H pk=some (.lst ws)/\jr H ws ks/\ks.length=es.length/\ts.length<=40/\es.length<=80/\(∀ e∈es,e.1<100/\e.2<100)/\(∀ l∈ts,l.length<=90/\∀ t∈l,t<100) /\
 ∀(q:Addr)(H':Hp),Same H H'->H q=none->H' q=some (.lst (((aB ts.length (tdZ es ks) ts).map bare).map V.str))->Q (.ref q) H'
section
variable{P:Program}{w:World}{K:BD}{mg:Str->Option Value}{base:Heap}
theorem eg:aJ ["script","many","kinds","k","cell"] ["script","many"] (ay gS):=by ac_nf
theorem ye{f f1:Addr}{fd d1:FuncData} (F:Fun K "_law_kinds" "_law_kinds" gS f fd) (T:Txt mg) (G_law_cell:Cal P w K mg base 1 "_law_cell" ["script","k"] (qX K) f1 d1):FnOk P w K mg base CX0 2 f fd ["script","many"] (qV K):=by
 refine F.ok eg (fun vs H Q E h=>?_) (fun cdv A outer s H vs Q E hr h=>?_)
 ·obtain⟨a,n,ns,rfl,_⟩:=h;rfl
 obtain⟨a,n,ns,rfl,hS,h63,n63,kk⟩:=h
 refine⟨_,(af (av (i:=2) eg.nd rfl (Or.inl rfl) (bh ag))
   (af (cL PassesOwn.never rfl (bw rfl T.n_range (aa (pv 1) ag)) (aQ (i:=3) eg.nd rfl (Or.inl rfl)) (af (av (i:=4) eg.nd rfl (Or.inl rfl) (aI G_law_cell.ok (hr.mono (by decide)) rfl G_law_cell.mg G_law_cell.kp G_law_cell.bn .nil bA (aa (pv 0) (aa (pv 3) ag))))
   (ak (aZ (bP BS Ce Cd bg (pv 2) (aa (bG (aa (aL aD (bh (aa aE (aa aE ag))) (aq aT (aq aU (pv 4) (pv 3)) ai) (fun _ _=>rfl)) (aa (aq aT (aq a9 (aq cN (pv 4) ai) ai) (aq aU (aq kg ai ai) ai)) ag))) ag))))))
   (ak (aG (pv 2))))),?_⟩
 refine⟨(by show 0<=sizeLine;decide),fun q hq=>?_⟩
 have s1:=aj hq (.lst []);refine⟨_,rfl,_,rfl,by omega,by omega,cb (n:=n) (fun i σ H2=>∃(v3 v4:Option V)(ws:List V)(ks:Kw),σ = [some (.ref a),some (iV n),some (.ref q),v3,v4]/\Same H H2/\H2 q=some (.lst ws)/\jr H2 ws ks/\ks.length=i) ⟨_,_,[],[],rfl,s1,ae,⟨rfl,fun i k e=>by simp at e⟩,rfl⟩ ?_ ?_⟩
 ·rintro i σ H2 hi ⟨v3,v4,ws,ks,rfl,s2,hq2,tk,kl⟩;rw[DE];refine⟨_,rfl,_,rfl,a,i,ns,rfl,s2.seq hS,?_⟩;generalize lr ns i=c;refine⟨_,rfl,.inl ⟨rfl,_,SqL.of hq2⟩,(by show 2<=sizeLine;decide),fun l2 hl2=>?_⟩
  have s3:=aj hl2 (.lst [.str cP,.str bZ]);obtain⟨b,hb,b01⟩:∃ b:Nat,(c+(i:Int))%2=(b:Int)/\(b=0∨b=1):=⟨((c+(i:Int))%2).toNat,by omega,by omega⟩
  obtain⟨z,hz,kz⟩:∃ z:Str,atI [V.str cP,V.str bZ] ((c+(i:Int))%2)=some (.str z)/\kdS z:=by
   rw[hb];rcases b01 with rfl | rfl
   ·exact⟨cP,rfl,.inl rfl⟩
   ·exact⟨bZ,rfl,.inr rfl⟩
  have e30:(10:Int)^(30:Int).toNat=10^30:=by decide
  have w0:=Df (c*48271/7) (show(10:Int)^(30:Int).toNat+1≠0 by decide)
  have w1:=CU (c*48271/7) (show(0:Int)<(10:Int)^(30:Int).toNat+1 by decide)
  obtain⟨st,hst⟩:∃ st:Nat,c*48271/7%((10:Int)^(30:Int).toNat+1)=(st:Int):=⟨_,(Ea w0).symm⟩;have st30:st<=10^30:=by
   rw[hst,e30]at w1;omega
  refine⟨_,rfl,_,rfl,_,_,rfl,rfl,_,_,rfl,rfl,(by show(0:Int)<2;decide),l2,_,_,_,rfl,rfl,SqL.of ae,hz,_,rfl,_,_,rfl,rfl,.inr ⟨by decide,by decide⟩,_,_,rfl,rfl,⟨by decide,by decide⟩,_,_,rfl,rfl,⟨by decide,by decide,by decide⟩,_,_,rfl,rfl,_,_,rfl,rfl,(by show(0:Int)<10^(30:Int).toNat+1;decide),(by show 2<=sizeLine;decide),fun t ht=>?_⟩
  have s4:=s3.trans (aj ht (.tup [.str z,.int (c*48271/7%((10:Int)^(30:Int).toNat+1))]));refine⟨q,ws,_,rfl,rfl,s4 _ _ hq2,aC (by rw[tk.1];omega),_,_,ws++[.ref t],ks++[(z,st)],rfl,a8 (s2.trans s4) hq _,ae,?_,by rw[BE,kl];rfl⟩
  have tq:t≠q:=fun e=>by
   have h:=s3 _ _ hq2;rw[e]at ht;rw[show(upd H2 l2 (.lst [.str cP,.str bZ])) q=none from ht]at h
   cases h
  refine jr.snoc (tk.kp fun b' xs e=>?_) ?_ kz st30
  ·rw[ar (fun y=>by rw[y,hq2]at e;cases e)]
   exact s4 _ _ e
  ·rw[ar tq,ae];show some (HO.tup [V.str z,V.int (c*48271/7%(10^Int.toNat 30+1))])=_;rw[hst];rfl
 ·rintro σ H2 ⟨v3,v4,ws,ks,rfl,s2,hq2,tk,kl⟩;exact⟨_,rfl,kk q ws ks H2 s2 hq2 tk kl⟩
theorem dG:aJ ["ends","turns","kinds","rows","k","place"] ["ends","turns","kinds"] (ay fM):=by ac_nf
theorem vD{f:Addr}{fd:FuncData} (F:Fun K "_law_texted" "_law_texted" fM f fd) (T:Txt mg):FnOk P w K mg base CX0 1 f fd ["ends","turns","kinds"] qR:=by
 refine F.ok dG (fun vs H Q E h=>?_) (fun cdv A outer s H vs Q E hr h=>?_)
 ·obtain⟨pe,pt,pk,ys,xs,ws,es,ks,ts,rfl,_⟩:=h;rfl
 obtain⟨pe,pt,pk,ys,xs,ws,es,ks,ts,rfl,hpe,hE,hpt,hR,hpk,tk,kl,m40,e80,ee,rr,kk⟩:=h
 refine⟨_,(af (av (i:=3) dG.nd rfl (Or.inl rfl) (bh (aa (aq ba aE (aK aH (by rfl) T.n_str cg (aa (au ao (by rfl) T.n_len aN (aa (pv 1) ag)) ag))) ag)))
   (af (cL PassesOwn.never rfl (bw rfl T.n_range (aa (au ao (by rfl) T.n_len aN (aa (pv 0) ag)) ag)) (aQ (i:=4) dG.nd rfl (Or.inl rfl)) (ak (aZ (bP BS Ce Cd bg (pv 3) (aa (bP CB Dr DA hV aE (aa (bh (aa (aL br (aL aD (pv 2) (pv 4) (fun _ _=>rfl)) ai (fun _ _=>rfl)) (aa (aK aH (by rfl) T.n_str cg (aa (aL br (aL aD (pv 0) (pv 4) (fun _ _=>rfl)) ai (fun _ _=>rfl)) ag)) (aa (aK aH (by rfl) T.n_str cg (aa (aL br (aL aD (pv 0) (pv 4) (fun _ _=>rfl)) ai (fun _ _=>rfl)) ag)) (aa (aK aH (by rfl) T.n_str cg (aa (aL br (aL aD (pv 2) (pv 4) (fun _ _=>rfl)) ai (fun _ _=>rfl)) ag)) ag))))) ag)) ag)))))
   (af (cL PassesOwn.never rfl (bw rfl T.n_range (aa (au ao (by rfl) T.n_len aN (aa (pv 1) ag)) ag)) (aQ (i:=5) dG.nd rfl (Or.inl rfl)) (ak (aZ (bP BS Ce Cd bg (pv 3) (aa (bP CB Dr DA hV aE (aa (aq dS (bh (aa aE (aa (aK aH (by rfl) T.n_str cg (aa (pv 5) ag)) ag))) (cG rfl rfl rfl rfl (fr:=[]) (xs:=["tie"]) (dA.of (by rfl) (by decide) (by rfl) (by decide) (fun p hp=>nomatch hp) (by decide) (fun p hp=>nomatch hp)) (cp (aL aD (pv 1) (pv 5) (fun _ _=>rfl))) (fun C ex s H=>(aQ (i:=0) (show(["tie"]:List Str).Nodup from by decide) rfl (Or.inl rfl))) (fun C ex s H=>cE) (fun C ex s H ps XE=>(aK aH (by rfl) T.n_str cg (aa (pv 0) ag))))) ag)) ag)))))
   (ak (aG (pv 3)))))),?_⟩
 have yl:ys.length=es.length:=hE.1;have xl:xs.length=ts.length:=hR.1;have s64:(400000:Nat)<=sizeLine:=by decide
 have l7:(("places " : String):Str).length=7:=by decide
 have lm:=bY (k:=1) (n:=ts.length) (by omega)
 refine⟨_,rfl,pt,_,rfl,.inl (SqL.of hpt),_,rfl,a7 (n:=xs.length) (by omega),_,_,rfl,rfl,?_,?_⟩
 ·rw[l7];show 7+(tx xs.length).length<=_;rw[xl];omega
 have ep:V.str ((("places " : String):Str)++((toString ((xs.length:Nat):Int):String):Str))=V.str (bare [plW,tx ts.length]):=by
  have e:(("places " : String):Str)=plW++spS:=by decide
  rw[xl,e];rfl
 rw[ep];refine⟨(by show 1<=sizeLine;decide),fun q hq=>?_⟩
 have s1:=aj hq (.lst [V.str (bare [plW,tx ts.length])]);have tdl:(tdZ es ks).length=es.length:=by unfold tdZ;rw[BC,List.length_zip];omega
 have tdi:∀{i:Nat}{e:Nat×Nat}{k:Str×Nat},es[i]?=some e->ks[i]?=some k->(tdZ es ks)[i]?=some (k.1,e.1,e.2,k.2):=fun{i e k} h1 h2=>by
  unfold tdZ;rw[BJ,(F6 (z:=(e,k))).mpr ⟨h1,h2⟩];rfl
 refine⟨_,rfl,pe,ys,rfl,.inl (SqL.of (s1 _ _ hpe)),_,rfl,by omega,by omega,cb (n:=(ys.length:Int).toNat) (fun i σ H2=>∃(v4 v5:Option V),σ = [some (.ref pe),some (.ref pt),some (.ref pk),some (.ref q),v4,v5]/\Same H H2/\H2 q=some (.lst ((([plW,tx ts.length]::((tdZ es ks).take i).map bN).map bare).map V.str))) ⟨_,_,rfl,s1,ae⟩ ?_ ?_⟩
 ·rintro i σ H2 hi ⟨v4,v5,rfl,s2,hq2⟩;rw[Cg,yl]at hi;rw[DE];obtain⟨e,he⟩:∃ e,es[i]?=some e:=⟨_,BA hi⟩;obtain⟨k,hk⟩:∃ k,ks[i]?=some k:=⟨_,BA (by omega)⟩
  obtain⟨pp,x1,x2⟩:=(hE.mono s2).2 i e he;obtain⟨k1,k2,pk',y1,y2⟩:=(tk.mono s2).2 i k hk;have e':=ee e (BF he);refine⟨_,rfl,.inl ⟨rfl,_,SqL.of hq2⟩,rfl,_,rfl,_,rfl,pk,ws,_,_,rfl,rfl,SqL.of (s2 _ _ hpk),aO y1,pk',_,0,_,rfl,rfl,SqT.of y2,rfl,_,rfl,_,rfl,pe,ys,_,_,rfl,rfl,SqL.of (s2 _ _ hpe),aO x1,pp,_,0,_,rfl,rfl,SqT.of x2,rfl,_,rfl,a7 (n:=e.1) (by omega),_,rfl,_,rfl,pe,ys,_,_,rfl,rfl,SqL.of (s2 _ _ hpe),aO x1,pp,_,1,_,rfl,rfl,SqT.of x2,rfl,_,rfl,a7 (n:=e.2) (by omega),_,rfl,_,rfl,pk,ws,_,_,rfl,rfl,SqL.of (s2 _ _ hpk),aO y1,pk',_,1,_,rfl,rfl,SqT.of y2,rfl,_,rfl,a7 (n:=k.2) (by omega),(by show 4<=sizeLine;decide),fun a ha=>?_⟩
  have ew : [V.str k.1,V.str ((toString ((e.1:Nat):Int):String):Str),V.str ((toString ((e.2:Nat):Int):String):Str),V.str ((toString ((k.2:Nat):Int):String):Str)]=(bN (k.1,e.1,e.2,k.2)).map V.str:=rfl;have hw:∀ z∈bN (k.1,e.1,e.2,k.2),z.length<=31:=fun z hz=>by
   unfold bN at hz;simp only[BG,Ct,or_false]at hz;rcases hz with rfl | rfl | rfl | rfl
   ·rcases k1 with q | q<;>rw[q]<;>decide
   ·have:=bY (k:=1) (n:=e.1) (by omega);omega
   ·have:=bY (k:=1) (n:=e.2) (by omega);omega
   ·exact bY (k:=30) (EZ k2 (by decide))
  have sl:=eZ hw;have sa:=aj ha (.lst ((bN (k.1,e.1,e.2,k.2)).map V.str));refine⟨((" " : String):Str),a,bN (k.1,e.1,e.2,k.2),rfl,rfl,SqL.of ae,?_,?_⟩
  ·have:(bN (k.1,e.1,e.2,k.2)).length=4:=rfl
   rw[jW];show _+_*1<=_;omega
  rw[jW];refine⟨q,_,_,rfl,rfl,sa _ _ hq2,aC ?_,_,_,rfl,a8 (s2.trans sa) hq _,?_⟩
  ·rw[BC,BC,BK,BC,BV];omega
  rw[ae,Cv,tdi he hk,Cn,← Dg,Cn,Cn];rfl
 rintro σ H2 ⟨v4,v5,rfl,s2,hq2⟩;rw[Cg,yl,Cc (by omega)]at hq2
 refine⟨_,rfl,pt,xs,rfl,.inl (SqL.of (s2 _ _ hpt)),_,rfl,by omega,by omega,cb (n:=(xs.length:Int).toNat) (fun i σ H3=>∃(v4 v5:Option V),σ = [some (.ref pe),some (.ref pt),some (.ref pk),some (.ref q),v4,v5]/\Same H H3/\H3 q=some (.lst ((([plW,tx ts.length]::((tdZ es ks).map bN++(ts.take i).mapIdx abRW)).map bare).map V.str))) ⟨_,_,rfl,s2,by rw[hq2,F4,List.mapIdx_nil,Dl]⟩ ?_ ?_⟩
 ·rintro i σ H3 hi ⟨v4,v5,rfl,s3,hq3⟩;rw[Cg,xl]at hi;rw[DE];obtain⟨l,hl⟩:∃ l,ts[i]?=some l:=⟨_,BA hi⟩;obtain⟨pr,x1,x2⟩:=(hR.mono s3).2 i l hl;obtain⟨l90,l100⟩:=rr l (BF hl);have hw:∀ z∈abRW i l,z.length<=5:=fun z hz=>by
   unfold abRW at hz;rcases BG.mp hz with rfl | hz
   ·decide
   rcases BG.mp hz with rfl | hz
   ·have:=bY (k:=1) (n:=i) (by omega);omega
   ·obtain⟨t,ht,rfl⟩:=B9.mp hz;have:=l100 t ht;have:=bY (k:=1) (n:=t) (by omega)
    omega
  have sl:=eZ hw;have al:(abRW i l).length=l.length+2:=by unfold abRW;rw[BK,BK,BC]
  refine⟨_,rfl,.inl ⟨rfl,_,SqL.of hq3⟩,rfl,_,rfl,_,rfl,a7 (n:=i) (by omega),(by show 2<=sizeLine;decide),fun b hb=>?_⟩
  have sb:=aj hb (.lst [V.str abW,V.str (tx i)]);have gb:(upd H3 b (.lst [V.str abW,V.str (tx i)])) b=some (.lst [V.str abW,V.str (tx i)]):=ae;have eb:(upd H3 b (.lst [V.str (("about" : String):Str),V.str ((toString ((i:Nat):Int):String):Str)]))=upd H3 b (.lst [V.str abW,V.str (tx i)]):=rfl;rw[eb];generalize upd H3 b (.lst [V.str abW,V.str (tx i)])=H4 at sb gb;refine⟨_,rfl,_,rfl,pt,xs,_,_,rfl,rfl,SqL.of (sb _ _ (s3 _ _ hpt)),aO x1,pr,rfl,⟨_,SqL.of (sb _ _ x2)⟩,cU (K:=K) (xs:=l.map iV) (fun j zs H5=>zs=(l.take j).map (fun t=>V.str (tx t))/\H5=H4) (by rw[BC];omega) ⟨rfl,rfl⟩ (fun j zs H5 _ z=>by rw[z.2];exact SqL.of (sb _ _ x2)) ?_ ?_⟩
  ·rintro j x zs H5 hx ⟨rfl,rfl⟩;rw[BJ]at hx;obtain⟨t,ht,rfl⟩:=Cu.mp hx;have:=l100 t (BF ht);refine⟨_,rfl,_,rfl,a7 (n:=t) (by omega),?_,rfl⟩
   rw[Cv,ht,Cn];rfl
  rintro zs H5 _ ⟨rfl,rfl⟩ D hD;rw[BC,CQ];have sD:=aj hD (.lst (l.map fun t=>V.str (tx t)));refine⟨b,D,_,_,rfl,rfl,SqL.of (sD _ _ gb),SqL.of ae,by rw[BC];show 2+_<=_;omega,fun c hc=>?_⟩
  have ec : [V.str abW,V.str (tx i)]++l.map (fun t=>V.str (tx t))=(abRW i l).map V.str:=by
   unfold abRW;rw[BW,BW,Dj];rfl
  rw[ec];have sc:=aj hc (.lst ((abRW i l).map V.str));have s6:=sb.trans (sD.trans sc);refine⟨((" " : String):Str),c,abRW i l,rfl,rfl,SqL.of ae,?_,?_⟩
  ·rw[jW];show _+_*1<=_;omega
  rw[jW];refine⟨q,_,_,rfl,rfl,s6 _ _ hq3,aC ?_,_,_,rfl,a8 (s3.trans s6) hq _,?_⟩
  ·rw[BC,BC,BK,BE,BC,List.length_mapIdx,BV];omega
  have ti:(ts.take i).length=i:=by rw[BV];omega
  rw[ae,Cv,hl];show _=some (HO.lst ((([plW,tx ts.length]::((tdZ es ks).map bN++(ts.take i++[l]).mapIdx abRW)).map bare).map V.str));rw[List.mapIdx_concat,ti];simp only[Cn,BW,Fl,Dg,Ca];rfl
 rintro σ H3 ⟨v4,v5,rfl,s3,hq3⟩;rw[Cg,xl,CQ]at hq3;exact⟨_,rfl,kk q H3 s3 hq hq3⟩
end
open K8 hiding Txt
structure KdF(K:BD)(c FE BT BU BP NF BX:Addr)(due:Nat):Prop where
 er:ErC K c
 k0:CK K (.ref c) (.ref FE)=some true
 kv:CK K (.ref c) (.type "ValueError")=some true
 k1:CK K (.ref c) (.ref BT)=some (decide (due=1))
 k2:CK K (.ref c) (.ref BU)=some (decide (due=2))
 k3:CK K (.ref c) (.ref BP)=some (decide (due=3))
 k4:CK K (.ref c) (.ref NF)=some (decide (due=4))
 k5:CK K (.ref c) (.ref BX)=some (decide (due=5))
structure TxtH(mg:Str->Option Value)(BT BU BP NF FE BX:Addr):Prop extends TxtG mg BT BU BP NF where
 n_ValueError:mg "ValueError" = none
 g_FloorError:mg "FloorError" = some (.ref FE)
 g_BadText:mg "BadText" = some (.ref BX)
theorem m8:bootBuiltins "ValueError" = some (.type "ValueError"):=by decide
theorem zN{K:BD}{H:Hp}{a:Addr}{x y z u v:Bool}(h:H a=some (.lst [.bl x,.bl y,.bl z,.bl u,.bl v])):RdD K H (.ref a) (.list [.bool x,.bool y,.bool z,.bool u,.bool v]):=by
 refine RdD.lst (SqL.of h) rfl fun j v d q1 q2=>?_;match j with
 |0=>cases q1;cases q2;exact .bl _
 |1=>cases q1;cases q2;exact .bl _
 |2=>cases q1;cases q2;exact .bl _
 |3=>cases q1;cases q2;exact .bl _
 |4=>cases q1;cases q2;exact .bl _
 |j+5=>cases q1
theorem uf(x y z u v:Bool):SeqAt.shaped (.list [.bool x,.bool y,.bool z,.bool u,.bool v])=true:=by
 simp[SeqAt.shaped,PyData.canLay0,PyData.canLayAll0,PyData.depth,PyData.depthAll]
theorem kit_iI(K:BD):CK K (.type "int") (.type "int")=some true:=by with_unfolding_all rfl
theorem kit_iB(K:BD):CK K (.type "int") (.type "bool")=some false:=by with_unfolding_all rfl
noncomputable def yY(K:BD)(FE BT BU BP NF BX fI:Addr):Sp:=fun vs H Q _=>∃(x c:Addr)(dx:Option Addr)(due at':Nat),vs = [.ref x,iV due,iV at']/\H x=some (excD x c dx)/\KdF K c FE BT BU BP NF BX due/\due<=5/\0<due/\(due=5->c=BX/\ErS K BX fI "at"/\∃ d,dx=some d/\H d=some (.xd [("at",iV at')]))/\∀ H',Q (.bl true) H'
section
variable{P:Program}{w:World}{K:BD}{mg:Str->Option Value}{base:Heap}
theorem eF:aJ ["error","due","at","kinds"] ["error","due","at"] (ay fm):=by ac_nf
theorem AF{f BT BU BP NF FE BX fI:Addr}{fd:FuncData} (F:Fun K "_law_refused" "_law_refused" fm f fd) (T:TxtH mg BT BU BP NF FE BX):FnOk P w K mg base CX0 1 f fd ["error","due","at"] (yY K FE BT BU BP NF BX fI):=by
 refine F.ok eF (fun vs H Q E h=>?_) (fun cdv A outer s H vs Q E hr h=>?_)
 ·obtain⟨x,c,dx,due,a,rfl,_⟩:=h;rfl
 obtain⟨x,c,dx,due,a,rfl,hx,kd,d5,d0,hat,kk⟩:=h;have hu64:=hr.units
 refine⟨_,(af (bf (PW.pt (iA (vg (vf (au eU (by rfl) T.n_isinstance bq (aa (pv 0) (aa (gX (v:=.ref _) rfl T.g_FloorError rfl) ag))))) (iz (vg (vf (au uc (by rfl) T.n_isinstance bq (aa (pv 0) (aa (pK (v:=.ty "ValueError") rfl T.n_ValueError m8 rfl) ag)))))))) (ak (aG i9)) aF)
   (af (av (i:=3) eF.nd rfl (Or.inl rfl) (bh (aa (au eU (by rfl) T.n_isinstance bq (aa (pv 0) (aa (gX (v:=.ref _) rfl T.g_BadTie rfl) ag))) (aa (au eU (by rfl) T.n_isinstance bq (aa (pv 0) (aa (gX (v:=.ref _) rfl T.g_BadTurns rfl) ag))) (aa (au eU (by rfl) T.n_isinstance bq (aa (pv 0) (aa (gX (v:=.ref _) rfl T.g_Parted rfl) ag))) ag)))))
   (af (av (i:=3) eF.nd rfl (Or.inl rfl) (aq dS (pv 3) (bh (aa (au eU (by rfl) T.n_isinstance bq (aa (pv 0) (aa (gX (v:=.ref _) rfl T.g_NotFlat rfl) ag))) (aa (au eU (by rfl) T.n_isinstance bq (aa (pv 0) (aa (gX (v:=.ref _) rfl T.g_BadText rfl) ag))) ag)))))
   (af (bf (ax (op_neD hu64) (pv 3) (bh (aa (cR bu (pv 1) ai (aA _)) (aa (cR bu (pv 1) ai (aA _)) (aa (cR bu (pv 1) ai (aA _)) (aa (cR bu (pv 1) ai (aA _)) (aa (cR bu (pv 1) ai (aA _)) ag)))))) (aA _)) (ak (aG i9)) aF)
   (af (bf (ax md (pv 1) ai (aA _)) (ak (aG i9)) aF)
   (ak (aG (rf (au rT (by rfl) T.n_isinstance bq (aa (pJ (pv 0) rfl) (aa (pK (v:=.ty "int") rfl T.n_int oJ rfl) ag))) (rf (pe_not (au rT (by rfl) T.n_isinstance bq (aa (pJ (pv 0) rfl) (aa (pK (v:=.ty "bool") rfl T.n_bool Bv rfl) ag)))) (vp (cR bu (pJ (pv 0) rfl) (pv 2) (aA _)))))))))))),?_⟩
 refine⟨_,rfl,x,c,dx,FE,_,rfl,hx,kd.er,kd.k0,_,rfl,iteF ?_⟩;refine⟨_,rfl,x,c,dx,"ValueError",_,rfl,hx,kd.er,kd.kv,_,rfl,iteF ?_⟩;refine⟨_,rfl,x,c,dx,BT,_,rfl,hx,kd.er,kd.k1,_,rfl,x,c,dx,BU,_,rfl,hx,kd.er,kd.k2,_,rfl,x,c,dx,BP,_,rfl,hx,kd.er,kd.k3,(by show 3<=sizeLine;decide),fun l1 h1=>?_⟩
 have s1:=aj h1 (.lst [.bl (decide (due=1)),.bl (decide (due=2)),.bl (decide (due=3))]);refine⟨_,rfl,_,rfl,x,c,dx,NF,_,rfl,s1 _ _ hx,kd.er,kd.k4,_,rfl,x,c,dx,BX,_,rfl,s1 _ _ hx,kd.er,kd.k5,(by show 2<=sizeLine;decide),fun l2 h2=>?_⟩
 have s2:=aj h2 (.lst [.bl (decide (due=4)),.bl (decide (due=5))]);refine⟨l1,l2,_,_,rfl,rfl,SqL.of (s2 _ _ ae),SqL.of ae,(by show 5<=sizeLine;decide),fun l3 h3=>?_⟩
 have s3:=aj h3 (.lst ([.bl (decide (due=1)),.bl (decide (due=2)),.bl (decide (due=3))]++[.bl (decide (due=4)),.bl (decide (due=5))]));refine⟨_,rfl,_,rfl,rfl,_,rfl,rfl,_,rfl,rfl,_,rfl,rfl,_,rfl,rfl,(by show 5<=sizeLine;decide),fun l4 h4=>?_⟩
 have s4:=aj h4 (.lst [.bl (decide (V.int (due:Int)=V.int 1)),.bl (decide (V.int (due:Int)=V.int 2)),.bl (decide (V.int (due:Int)=V.int 3)),.bl (decide (V.int (due:Int)=V.int 4)),.bl (decide (V.int (due:Int)=V.int 5))]);have dd:∀ k:Nat,decide (V.int (due:Int)=V.int (k:Int))=decide (due=k):=fun k=>by
  by_cases z:due=k
  ·rw[decide_eq_true z,z,decide_eq_true rfl]
  ·rw[decide_eq_false z,decide_eq_false (fun y=>z (by have:=V.int.inj y;omega))]
 have sAll:=s1.trans (s2.trans (s3.trans s4));have e4:(upd (upd (upd (upd H l1 (.lst [.bl (decide (due=1)),.bl (decide (due=2)),.bl (decide (due=3))])) l2 (.lst [.bl (decide (due=4)),.bl (decide (due=5))])) l3 (.lst ([.bl (decide (due=1)),.bl (decide (due=2)),.bl (decide (due=3))]++[.bl (decide (due=4)),.bl (decide (due=5))]))) l4 (.lst [.bl (decide (V.int (due:Int)=V.int 1)),.bl (decide (V.int (due:Int)=V.int 2)),.bl (decide (V.int (due:Int)=V.int 3)),.bl (decide (V.int (due:Int)=V.int 4)),.bl (decide (V.int (due:Int)=V.int 5))])) l4=some (.lst [.bl (decide (due=1)),.bl (decide (due=2)),.bl (decide (due=3)),.bl (decide (due=4)),.bl (decide (due=5))]):=by
  rw[ae,← dd 1,← dd 2,← dd 3,← dd 4,← dd 5];rfl
 refine⟨_,zN (s4 _ _ ae),zN e4,uf _ _ _ _ _,_,rfl,iteF ?_⟩;refine⟨_,rfl,_,_,rfl,rfl,_,rfl,ite2 (fun _=>kk _) (fun c=>?_)⟩;have c':¬ ((due:Int)<5):=fun z=>c (decide_eq_true z);obtain⟨ec,es,d,ed,hd⟩:=hat (by omega)
 subst ec;subst ed;refine⟨_,rfl,x,_,d,_,_,rfl,sAll _ _ hx,kd.er,es.na,sAll _ _ hd,rfl,?_⟩;refine⟨_,_,_,_,_,rfl,.int _,.inl ⟨_,rfl,rfl⟩,kit_iI K,_,rfl,iteT ?_⟩;refine⟨_,rfl,x,_,d,_,_,rfl,sAll _ _ hx,kd.er,es.na,sAll _ _ hd,rfl,?_⟩;refine⟨_,_,_,_,_,rfl,.int _,.inl ⟨_,rfl,rfl⟩,kit_iB K,_,rfl,?_⟩;refine⟨_,rfl,iteT ?_⟩;refine⟨_,rfl,x,_,d,_,_,rfl,sAll _ _ hx,kd.er,es.na,sAll _ _ hd,rfl,_,rfl,rfl,?_⟩;rw[decide_eq_true rfl];exact kk _
end
open K8 hiding Txt
noncomputable def cA(n:Nat):List Td:=(Cz n).map fun k=>(bZ,1,0,k)
noncomputable def jf(n:Nat):List (List Nat):=[Cz n,(Cz n).map fun k=>n-1-k]
noncomputable def y6:Sp:=fun vs H Q _=>∃ rest:Nat,vs = [iV rest]/\∀(t q:Addr)(n:Nat)(H':Hp),n=79+rest%4->Same H H'->H q=none->H' t=some (.tup [.ref q,iV n])->H' q=some (.lst (((aB 2 (cA n) (jf n)).map bare).map V.str))->Q (.ref t) H'
theorem rW(a b:Str)(r:List Str):bare ((a++spS++b)::r)=bare (a::b::r):=by
 cases r with
 |nil=>rfl
 |cons c r =>
  show a++spS++b++spS++Str.join spS (c::r)=a++spS++(b++spS++Str.join spS (c::r));simp only[Str.append_assoc]
section
variable{P:Program}{w:World}{K:BD}{mg:Str->Option Value}{base:Heap}
theorem gK:aJ ["rest","many","rows"] ["rest"] (ay iX):=by ac_nf
theorem AH{f:Addr}{fd:FuncData} (F:Fun K "_law_many" "_law_many" iX f fd) (T:Txt mg):FnOk P w K mg base CX0 1 f fd ["rest"] y6:=by
 refine F.ok gK (fun vs H Q E h=>?_) (fun cdv A outer s H vs Q E hr h=>?_)
 ·obtain⟨rest,rfl,_⟩:=h;rfl
 obtain⟨rest,rfl,kk⟩:=h
 refine⟨_,(af (av (i:=1) gK.nd rfl (Or.inr rfl) (aq aU ai (aq aT (pv 0) ai)))
   (af (av (i:=2) gK.nd rfl (Or.inl rfl) (aq dS (bh (aa aE ag)) (cG rfl rfl rfl rfl (fr:=[]) (xs:=["k"]) (dA.of (by rfl) (by decide) (by rfl) (by decide) (fun p hp=>nomatch hp) (by decide) (fun p hp=>nomatch hp)) (bw rfl T.n_range (aa (pv 1) ag)) (fun C ex s H=>(aQ (i:=0) (show(["k"]:List Str).Nodup from by decide) rfl (Or.inl rfl))) (fun C ex s H=>cE) (fun C ex s H ps XE=>(aq ba aE (aK aH (by rfl) T.n_str cg (aa (pv 0) ag)))))))
   (af (aZ (bP BS Ce Cd bg (pv 2) (aa (bP CB Dr DA hV aE (aa (aq dS (bh (aa aE ag)) (cG rfl rfl rfl rfl (fr:=[]) (xs:=["k"]) (dA.of (by rfl) (by decide) (by rfl) (by decide) (fun p hp=>nomatch hp) (by decide) (fun p hp=>nomatch hp)) (bw rfl T.n_range (aa (pv 1) ag)) (fun C ex s H=>(aQ (i:=0) (show(["k"]:List Str).Nodup from by decide) rfl (Or.inl rfl))) (fun C ex s H=>cE) (fun C ex s H ps XE=>(aK aH (by rfl) T.n_str cg (aa (pv 0) ag))))) ag)) ag)))
   (af (aZ (bP BS Ce Cd bg (pv 2) (aa (bP CB Dr DA hV aE (aa (aq dS (bh (aa aE ag)) (cG rfl rfl rfl rfl (fr:=[("many",1)]) (xs:=["k"]) (dA.of (by rfl) (by decide) (by rfl) (by decide) (by intro p hp;simp only[BG,Ct,or_false]at hp;rcases hp with rfl<;>exact⟨rfl,rfl⟩) (by decide) (by intro p hp;simp only[BG,Ct,or_false]at hp;rcases hp with rfl<;>rfl)) (bw rfl T.n_range (aa (pv 1) ag)) (fun C ex s H=>(aQ (i:=0) (show(["k","many"]:List Str).Nodup from by decide) rfl (Or.inl rfl))) (fun C ex s H=>cE) (fun C ex s H ps XE=>(aK aH (by rfl) T.n_str cg (aa (aq cM (aq cM (pv 1) ai) (pv 0)) ag))))) ag)) ag)))
   (ak (aG (bG (aa (pv 2) (aa (pv 1) ag))))))))),?_⟩
 have r4:=Dh rest (show 0<4 by decide)
 obtain⟨n,hn⟩:∃ n,n=79+rest%4:=⟨_,rfl⟩;have e1:(79:Int)+(rest:Int)%4=(n:Int):=by rw[hn];rfl
 refine⟨_,rfl,_,_,rfl,rfl,(by show(0:Int)<4;decide),_,_,rfl,rfl,?_⟩
 simp only[e1];refine⟨(by show 1<=sizeLine;decide),fun l1 h1=>?_⟩
 have s1:=aj h1 (.lst [V.str (Str.ofString "places 2")]);have s40:400000<=sizeLine:=by decide
 have n82:n<=82:=by omega
 have n0:0<n:=by omega
 have nN:(n:Int).toNat=n:=Cg n;have p2:Str.ofString "places 2" = bare [plW,tx 2]:=by decide
 have pu:Str.ofString "push 1 0 " = bZ++spS++tx 1++spS++tx 0++spS:=by decide
 have lpu:(Str.ofString "push 1 0 ").length=9:=by decide
 have tk:∀ k:Nat,k<100->(tx k).length<=2:=fun k hk=>bY (k:=1) hk;have ep:∀ k:Nat,Str.ofString "push 1 0 "++tx k=bare (bN (bZ,1,0,k)):=fun k=>by
  rw[pu];show _=bZ++spS++(tx 1++spS++(tx 0++spS++tx k));simp only[Str.append_assoc]
 refine⟨_,rfl,_,rfl,by omega,by omega,dZ (n:=(n:Int).toNat) (fun j zs H5=>zs=(Cz j).map (fun k=>V.str (bare (bN (bZ,1,0,k))))/\H5=upd H l1 (.lst [V.str (Str.ofString "places 2")])) (by rw[nN];omega) ⟨rfl,rfl⟩ ?_ ?_⟩
 ·rintro j zs H5 hj ⟨rfl,rfl⟩;rw[nN]at hj;rw[DE];refine⟨_,rfl,_,rfl,a7 (n:=j) (by omega),_,_,rfl,rfl,?_,?_,rfl⟩
  ·rw[lpu];have:(tx j).length<=2:=tk j (by omega)
   have e:(Str.ofString (toString ((j:Nat):Int))).length=(tx j).length:=rfl;omega
  ·rw[FY,Cn];exact congrArg (fun z=>_++[V.str z]) (ep j)
 rintro zs H5 _ ⟨rfl,rfl⟩ D hD;rw[nN];have sD:=aj hD (.lst ((Cz n).map fun k=>V.str (bare (bN (bZ,1,0,k)))));refine⟨l1,D,_,_,rfl,rfl,SqL.of (sD _ _ ae),SqL.of ae,by rw[BC,CS];show 1+_<=_;omega,fun q hq=>?_⟩
 have eR : [V.str (Str.ofString "places 2")]++(Cz n).map (fun k=>V.str (bare (bN (bZ,1,0,k))))=(([plW,tx 2]::(cA n).map bN).map bare).map V.str:=by
  unfold cA;rw[p2,BW,BW,Dj,Dj,Dj];rfl
 rw[eR];have sq:=aj hq (.lst ((([plW,tx 2]::(cA n).map bN).map bare).map V.str));have sA:=s1.trans (sD.trans sq);have hqn:H q=none:=by
  cases z:H q with
  |none=>rfl
  |some o=>rw[sD _ _ (s1 _ _ z)]at hq;cases hq
 have gq:(upd (upd (upd H l1 (.lst [V.str (Str.ofString "places 2")])) D (.lst ((Cz n).map fun k=>V.str (bare (bN (bZ,1,0,k)))))) q (.lst ((([plW,tx 2]::(cA n).map bN).map bare).map V.str))) q=some (.lst ((([plW,tx 2]::(cA n).map bN).map bare).map V.str)):=ae;generalize upd (upd (upd H l1 (.lst [V.str (Str.ofString "places 2")])) D (.lst ((Cz n).map fun k=>V.str (bare (bN (bZ,1,0,k)))))) q (.lst ((([plW,tx 2]::(cA n).map bN).map bare).map V.str))=HA at sA gq;have fl:(cA n).length=n:=by unfold cA;rw[BC,CS]
 have wl:∀{a:Str}{l:List Nat},a.length=7->l.length=n->(∀ k∈l,k<100)->((a::l.map tx).map (·.length)).sum+(a::l.map tx).length*(1:Nat)<=1000000:=fun{a l} h1 h2 h3=>by
  have sl:=eZ (ws:=a::l.map tx) (k:=7) fun z hz=>by
   rcases BG.mp hz with rfl | hz
   ·omega
   ·obtain⟨k,hk,rfl⟩:=B9.mp hz;have:=tk k (h3 k hk);omega
  have:(a::l.map tx).length=n+1:=by rw[BK,BC,h2]
  rw[this]at sl ⊢;omega
 have a0:Str.ofString "about 0" = abW++spS++tx 0:=by decide
 have a1:Str.ofString "about 1" = abW++spS++tx 1:=by decide
 have la0:(Str.ofString "about 0").length=7:=by decide
 have la1:(Str.ofString "about 1").length=7:=by decide
 refine⟨_,rfl,.inl ⟨rfl,_,SqL.of gq⟩,rfl,(by show 1<=sizeLine;decide),fun b hb=>?_⟩
 have sb:=aj hb (.lst [V.str (Str.ofString "about 0")]);have gb:(upd HA b (.lst [V.str (Str.ofString "about 0")])) b=some (.lst [V.str (Str.ofString "about 0")]):=ae;generalize upd HA b (.lst [V.str (Str.ofString "about 0")])=HB at sb gb;refine⟨_,rfl,_,rfl,by omega,by omega,dZ (n:=(n:Int).toNat) (fun j zs H5=>zs=(Cz j).map (fun k=>V.str (tx k))/\H5=HB) (by rw[nN];omega) ⟨rfl,rfl⟩ ?_ ?_⟩
 ·rintro j zs H5 hj ⟨rfl,rfl⟩;rw[nN]at hj;rw[DE];refine⟨_,rfl,_,rfl,a7 (n:=j) (by omega),?_,rfl⟩
  rw[FY,Cn];rfl
 rintro zs H5 _ ⟨rfl,rfl⟩ D2 hD2;rw[nN];have sD2:=aj hD2 (.lst ((Cz n).map fun k=>V.str (tx k)));refine⟨b,D2,_,_,rfl,rfl,SqL.of (sD2 _ _ gb),SqL.of ae,by rw[BC,CS];show 1+_<=_;omega,fun c hc=>?_⟩
 have ec : [V.str (Str.ofString "about 0")]++(Cz n).map (fun k=>V.str (tx k))=(Str.ofString "about 0"::(Cz n).map tx).map V.str:=by
  rw[BW,Dj];rfl
 rw[ec];have sc:=aj hc (.lst ((Str.ofString "about 0"::(Cz n).map tx).map V.str));rw[jW];refine⟨spS,c,Str.ofString "about 0"::(Cz n).map tx,rfl,rfl,SqL.of ae,wl la0 CS (fun k hk=>by have:=Dt.mp hk;omega),?_⟩
 have eb0:Str.join spS (Str.ofString "about 0"::(Cz n).map tx)=bare (abRW 0 (Cz n)):=by rw[a0];exact rW abW (tx 0) _
 rw[eb0];have sB:=sb.trans (sD2.trans sc);refine⟨q,_,_,rfl,rfl,sB _ _ gq,aC (by rw[BC,BC,BK,BC,fl];omega),?_⟩
 have sC:=a8 (sA.trans sB) hqn (.lst ((([plW,tx 2]::(cA n).map bN).map bare).map V.str++[V.str (bare (abRW 0 (Cz n)))]));generalize hHC:upd (upd (upd H5 D2 (.lst ((Cz n).map fun k=>V.str (tx k)))) c (.lst ((Str.ofString "about 0"::(Cz n).map tx).map V.str))) q (.lst ((([plW,tx 2]::(cA n).map bN).map bare).map V.str++[V.str (bare (abRW 0 (Cz n)))]))=HC at sC;have gC:HC q=some (.lst ((([plW,tx 2]::(cA n).map bN).map bare).map V.str++[V.str (bare (abRW 0 (Cz n)))])):=by rw[← hHC,ae]
 clear hHC;refine⟨_,rfl,.inl ⟨rfl,_,SqL.of gC⟩,rfl,(by show 1<=sizeLine;decide),fun b2 hb2=>?_⟩
 have sb2:=aj hb2 (.lst [V.str (Str.ofString "about 1")]);have gb2:(upd HC b2 (.lst [V.str (Str.ofString "about 1")])) b2=some (.lst [V.str (Str.ofString "about 1")]):=ae;generalize upd HC b2 (.lst [V.str (Str.ofString "about 1")])=HE at sb2 gb2;refine⟨_,rfl,_,rfl,by omega,by omega,dZ (n:=(n:Int).toNat) (fun j zs H6=>zs=(Cz j).map (fun k=>V.str (tx (n-1-k)))/\H6=HE) (by rw[nN];omega) ⟨rfl,rfl⟩ ?_ ?_⟩
 ·rintro j zs H6 hj ⟨rfl,rfl⟩;rw[nN]at hj;rw[DE];have ej:(n:Int)-1-(j:Int)=((n-1-j:Nat):Int):=by omega
  refine⟨_,rfl,_,_,rfl,rfl,_,rfl,_,_,rfl,rfl,_,rfl,?_,?_,rfl⟩
  ·rw[ej];exact a7 (n:=n-1-j) (by omega)
  ·rw[ej,FY,Cn];rfl
 rintro zs H6 _ ⟨rfl,rfl⟩ D3 hD3;rw[nN];have sD3:=aj hD3 (.lst ((Cz n).map fun k=>V.str (tx (n-1-k))));refine⟨b2,D3,_,_,rfl,rfl,SqL.of (sD3 _ _ gb2),SqL.of ae,by rw[BC,CS];show 1+_<=_;omega,fun c2 hc2=>?_⟩
 have ec2 : [V.str (Str.ofString "about 1")]++(Cz n).map (fun k=>V.str (tx (n-1-k)))=(Str.ofString "about 1"::((Cz n).map fun k=>n-1-k).map tx).map V.str:=by
  rw[BW,Dj,Dj];rfl
 rw[ec2];have sc2:=aj hc2 (.lst ((Str.ofString "about 1"::((Cz n).map fun k=>n-1-k).map tx).map V.str));refine⟨spS,c2,Str.ofString "about 1"::((Cz n).map fun k=>n-1-k).map tx,rfl,rfl,SqL.of ae,wl la1 (by rw[BC,CS]) (fun k hk=>?_),?_⟩
 ·obtain⟨x,_,rfl⟩:=B9.mp hk;omega
 have eb1:Str.join spS (Str.ofString "about 1"::((Cz n).map fun k=>n-1-k).map tx)=bare (abRW 1 ((Cz n).map fun k=>n-1-k)):=by rw[a1];exact rW abW (tx 1) _
 rw[eb1];have sE:=sb2.trans (sD3.trans sc2);refine⟨q,_,_,rfl,rfl,sE _ _ gC,aC (by rw[BE,BC,BC,BK,BC,fl,BM];omega),?_⟩
 refine⟨_,rfl,_,rfl,(by show 2<=sizeLine;decide),fun t ht=>?_⟩
 have sF:=a8 (sC.trans sE) hqn (.lst ((([plW,tx 2]::(cA n).map bN).map bare).map V.str++[V.str (bare (abRW 0 (Cz n)))]++[V.str (bare (abRW 1 ((Cz n).map fun k=>n-1-k)))]));refine kk t q n _ hn (sF.trans (aj ht _)) hqn ae ?_;have tq:q≠t:=fun z=>by rw[← z,ae]at ht;cases ht
 rw[ar tq,ae];unfold aB jf;simp only[Cn,BW,Fl,Dg,Ca,List.mapIdx_cons,List.mapIdx_nil,Fj]
end
open K8 hiding Txt
noncomputable def seen(bs:List Str)(fl:Bool):List Str×Str:=if fl=true then(if bs = [] then[Str.empty] else bs,Str.empty) else(bs.dropLast,bs.getLastD Str.empty)
inductive Spo(m:Nat)(td:List Td)(ts:List (List Nat))(bs:List Str)(fl:Bool):Nat->Prop
 |same (h:bs=(aB m td ts).map bare) (f:fl=true):Spo m td ts bs fl 0
 |bad (N:Nat) (h:N<1+td.length+m) (pre:∀ i,i<N->(seen bs fl).1[i]?=((aB m td ts).map bare)[i]?) (b:∀ b,(seen bs fl).1[N]?=some b->bdR td.length N b):Spo m td ts bs fl (N+1)
 |more (pre:∀ i,i<1+td.length+m->(seen bs fl).1[i]?=((aB m td ts).map bare)[i]?) (h:1+td.length+m<(seen bs fl).1.length∨(seen bs fl).2≠Str.empty):Spo m td ts bs fl (1+td.length+m+1)
theorem vm:plO Str.empty=none:=by
 unfold plO;rw[iJ (p0:=Str.empty) (pr:=[]) (pM (by intro z;cases z)) (by decide)]
theorem dM{bs:List Str}(h:bs≠[]):seen bs true=(bs,Str.empty):=by
 unfold seen;rw[if_pos rfl,if_neg h]
theorem iP{bs:List Str}:seen bs false=(bs.dropLast,bs.getLastD Str.empty):=rfl
section
variable{m:Nat}{td:List Td}{ts:List (List Nat)}{bs:List Str}{N:Nat}
theorem jL(h:N<1+td.length+m)(pre:∀ i,i<N->bs[i]?=((aB m td ts).map bare)[i]?)(b:∀ b,bs[N]?=some b->bdR td.length N b)(h0:bs = []->N=0):Spo m td ts bs true (N+1):=by
 by_cases e:bs = []
 ·have n0:=h0 e
  subst n0;subst e;refine .bad 0 h (fun i hi=>by omega) fun b hb=>?_
  have hb:([Str.empty]:List Str)[0]?=some b:=hb
  cases hb
  exact .inl ⟨rfl,vm⟩
 ·refine .bad N h (fun i hi=>?_) fun x hx=>?_
  ·rw[dM e];exact pre i hi
  ·rw[dM e]at hx;exact b x hx
theorem o8{b:Str}(wf:Wf m td ts)(h:N<1+td.length+m)(hb:bdR td.length N b):Spo m td ts (((aB m td ts).map bare).set N b) true (N+1):=by
 have RL:=bO (m:=m) (td:=td) (ts:=ts);have tl:=wf.tl;refine jL h (fun i hi=>C2 (by omega)) (fun x hx=>?_) fun e=>?_
 ·rw[CG (by rw[BC,RL,tl];exact h)]at hx
  cases hx
  exact hb
 ·have:=congrArg EV e
  rw[BZ,BC,RL,DH]at this;omega
theorem nz(hl:bs.length=1+td.length+m)(h:N<1+td.length+m)(pre:∀ i,i<N->bs[i]?=((aB m td ts).map bare)[i]?)(b:N+1<1+td.length+m->∀ b,bs[N]?=some b->bdR td.length N b):Spo m td ts bs false (N+1):=by
 have dl:∀ i,i<bs.length-1->bs.dropLast[i]?=bs[i]?:=fun i hi=>by rw[List.getElem?_dropLast,if_pos hi]
 refine .bad N h (fun i hi=>?_) fun x hx=>?_
 ·rw[iP];show bs.dropLast[i]?=_;rw[dl i (by omega)]
  exact pre i hi
 ·rw[iP]at hx;have hx:bs.dropLast[N]?=some x:=hx;have hN:=(BB.mp hx).1;rw[DR]at hN;rw[dl N (by omega)]at hx
  exact b (by omega) x hx
theorem xG(wf:Wf m td ts){x:Str}{fl:Bool}(h:fl=false->x≠Str.empty):Spo m td ts ((aB m td ts).map bare++[x]) fl (1+td.length+m+1):=by
 have RL:=bO (m:=m) (td:=td) (ts:=ts);have tl:=wf.tl;have rl:((aB m td ts).map bare).length=1+td.length+m:=by rw[BC,RL,tl]
 cases fl with
 |true =>
  have e:=dM (bs:=(aB m td ts).map bare++[x]) (by simp)
  refine .more (fun i hi=>?_) (.inl ?_)
  ·rw[e];exact BL (by rw[rl];exact hi)
  ·rw[e,BE,rl];exact Ex _
 |false =>
  have e1:(seen ((aB m td ts).map bare++[x]) false).1=(aB m td ts).map bare:=List.dropLast_concat;have e2:(seen ((aB m td ts).map bare++[x]) false).2=x:=by
   show((aB m td ts).map bare++[x]).getLastD Str.empty=x;rw[List.getLastD_concat]
  exact .more (fun i hi=>by rw[e1]) (.inr (by rw[e2];exact h rfl))
end
open K8 hiding Txt
noncomputable def nA(K:BD):Sp:=fun vs H Q _=>∃(r:Addr)(m:Nat)(td:List Td)(ts:List (List Nat))(way rest:Nat),vs = [.ref r,iV td.length,iV way,iV rest]/\H r=some (.lst (((aB m td ts).map bare).map V.str))/\Wf m td ts/\td.length<=80/\way<16/\rest<=10^10 /\
 ∀(q:Addr)(bs:List Str)(fl:Bool)(at':Nat)(H':Hp),Spo m td ts bs fl at'->(∀ b∈bs,Prn b/\b.length<=4000)->bs.length<=130->(∀ p o,H p=some o->p≠r->H' p=some o)->H' r=some (.lst (bs.map V.str))->H' q=some (.tup [iV at',.bl fl])->Q (.ref q) H'
theorem lU{m:Nat}{td:List Td}{ts:List (List Nat)}(wf:Wf m td ts):∀ b∈(aB m td ts).map bare,Prn b/\b.length<=4000:=fun b hb=>by
 obtain⟨N,hN⟩:=Cr.mp hb;have lt:=(BB.mp hN).1;have tl:=wf.tl;rw[BC,bO]at lt;obtain⟨a,ns,rk⟩:=u5 wf (show N<1+td.length+m by omega)
 rw[BJ,rk.row]at hN
 cases hN
 obtain⟨nlt,n91,_⟩:=rk.lt wf;have okA:Prn a/\a.length<=40:=by
  cases rk with
  |pl=>exact⟨fun c hc=>(show ∀ c∈plW.cps.toList,32<=c/\c<127 by decide) c hc,by decide⟩
  |tie i d h =>
   rcases(wf.kd d (BF h)).1 with e | e<;>rw[e]
   ·exact⟨fun c hc=>(show ∀ c∈cP.cps.toList,32<=c/\c<127 by decide) c hc,by decide⟩
   ·exact⟨fun c hc=>(show ∀ c∈bZ.cps.toList,32<=c/\c<127 by decide) c hc,by decide⟩
  |ab i l h=>exact⟨fun c hc=>(show ∀ c∈abW.cps.toList,32<=c/\c<127 by decide) c hc,by decide⟩
 have okW:∀ z∈a::ns.map tx,Prn z/\z.length<=40:=fun z hz=>by
  rcases BG.mp hz with rfl | hz
  ·exact okA
  ·obtain⟨n,hn,rfl⟩:=B9.mp hz;exact⟨gz n,by have:=bY (k:=30) (nlt n hn);omega⟩
 exact⟨jP fun z hz=>(okW z hz).1,eu (by rw[BK,BC];omega) fun z hz=>(okW z hz).2⟩
section
variable{P:Program}{w:World}{K:BD}{mg:Str->Option Value}{base:Heap}
theorem bF:aJ ["rows","ties","way","rest","k","other","one","two"] ["rows","ties","way","rest"] (ay fk):=by ac_nf
theorem sH{f f1:Addr}{fd d1:FuncData} (F:Fun K "_law_spoiled" "_law_spoiled" fk f fd) (T:Txt mg) (G_law_row:Cal P w K mg base 3 "_law_row" ["rows","ties","way","rest"] (y8 K) f1 d1):FnOk P w K mg base CX0 4 f fd ["rows","ties","way","rest"] (nA K):=by
 refine F.ok bF (fun vs H Q E h=>?_) (fun cdv A outer s H vs Q E hr h=>?_)
 ·obtain⟨r,m,td,ts,way,rest,rfl,_⟩:=h;rfl
 obtain⟨r,m,td,ts,way,rest,rfl,hr0,wf,t80,w16,r10,kk⟩:=h
 refine⟨_,(af (bf (ax md (pv 2) ai (aA _)) (ak (aG (bG (aa (aI G_law_row.ok (hr.mono (by decide)) rfl G_law_row.mg G_law_row.kp G_law_row.bn .nil bA (aa (pv 0) (aa (pv 1) (aa (pv 2) (aa (pv 3) ag))))) (aa i9 ag))))) aF)
   (af (bf (ax bu (pv 2) ai (aA _)) (af (dQ (aq ba aE (aL aD (bh (aa (aK aH (by rfl) T.n_str cg (aa (aq aT (pv 3) ai) ag)) (aa aE (aa (aK aH (by rfl) T.n_str cg (aa (aq aU ai (aq cN (pv 3) (pv 3))) ag)) ag)))) (aq aT (pv 3) ai) (fun _ _=>rfl))) (dR (pv 0) ai bL))
   (ak (aG (bG (aa ai (aa i9 ag)))))) aF)
   (af (bf (ax bu (pv 2) ai (aA _)) (af (cL PassesOwn.never rfl (bw rfl T.n_range (aa (aq aU ai (aq cN (aq aT (aq a9 (pv 3) ai) (au ao (by rfl) T.n_len aN (aa (pv 0) ag))) (aq aT (pv 3) ai))) ag)) (aQ (i:=4) bF.nd rfl (Or.inl rfl)) (ak (aZ (nL BS Ef Ee nS (pv 0)))))
   (ak (aG (bG (aa (aq aU (au ao (by rfl) T.n_len aN (aa (pv 0) ag)) ai) (aa i9 ag)))))) aF)
   (af (bf (ax bu (pv 2) ai (aA _)) (ak (aG (bG (aa (au ao (by rfl) T.n_len aN (aa (pv 0) ag)) (aa i9 ag))))) aF)
   (af (bf (ax bu (pv 2) ai (aA _)) (af (aZ (bP BS Ce Cd bg (pv 0) (aa (aL aD (bh (aa aE (aa aE (aa (aq ba aE (aK aH (by rfl) T.n_str cg (aa (au ao (by rfl) T.n_len aN (aa (pv 0) ag)) ag))) (aa aE (aa (aL aD (pv 0) (Ay ur ai) (fun _ _=>rfl)) (aa aE ag))))))) (aq aT (pv 3) ai) (fun _ _=>rfl)) ag)))
   (ak (aG (bG (aa (au ao (by rfl) T.n_len aN (aa (pv 0) ag)) (aa (pe_or (cR bu (aL aD (pv 0) (Ay ur ai) (fun _ _=>rfl)) aE (aA _)) (vp (cR bu (aq aT (aq a9 (pv 3) ai) ai) ai (aA _)))) ag)))))) aF)
   (af (bf (ax bu (pv 2) ai (aA _)) (af (av (i:=5) bF.nd rfl (Or.inl rfl) (aK df (by rfl) T.n_list kQ (aa (pv 0) ag)))
   (af (av (i:=6) bF.nd rfl (Or.inl rfl) (aI G_law_row.ok (hr.mono (by decide)) rfl G_law_row.mg G_law_row.kp G_law_row.bn .nil bA (aa (pv 0) (aa (pv 1) (aa (aq aT (pv 3) ai) (aa (aq a9 (pv 3) ai) ag))))))
   (af (av (i:=7) bF.nd rfl (Or.inl rfl) (aI G_law_row.ok (hr.mono (by decide)) rfl G_law_row.mg G_law_row.kp G_law_row.bn .nil bA (aa (pv 5) (aa (pv 1) (aa (aq aT (aq a9 (pv 3) ai) ai) (aa (aq a9 (pv 3) ai) ag))))))
   (af (bf (ax jB (pv 6) (pv 7) (aA _)) (ak (dQ (aL aD (pv 5) (aq cM (pv 7) ai) (fun _ _=>rfl)) (dR (pv 0) (aq cM (pv 7) ai) bL))) aF)
   (ak (aG (bG (aa (au (oB rfl) (by rfl) T.n_min zL (aa (pv 6) (aa (pv 7) ag))) (aa i9 ag))))))))) aF)
   (af (bf (ax bu (pv 2) ai (aA _)) (ak (aG (bG (aa (aI G_law_row.ok (hr.mono (by decide)) rfl G_law_row.mg G_law_row.kp G_law_row.bn .nil bA (aa (pv 0) (aa (pv 1) (aa (aq aT (pv 3) ai) (aa (aq a9 (pv 3) ai) ag))))) (aa i9 ag))))) aF)
   (af (bf (ax bu (pv 2) ai (aA _)) (af (av (i:=6) bF.nd rfl (Or.inl rfl) (aI G_law_row.ok (hr.mono (by decide)) rfl G_law_row.mg G_law_row.kp G_law_row.bn .nil bA (aa (pv 0) (aa (pv 1) (aa (aq aT (pv 3) ai) (aa (aq a9 (pv 3) ai) ag))))))
   (af (cL PassesOwn.never rfl (bw rfl T.n_range (aa (aq aU ai (aq aT (aq a9 (pv 3) ai) (au ao (by rfl) T.n_len aN (aa (pv 0) ag)))) ag)) (aQ (i:=4) bF.nd rfl (Or.inl rfl)) (ak (aZ (nL BS Ef Ee nS (pv 0)))))
   (ak (aG (bG (aa (au (oB rfl) (by rfl) T.n_min zL (aa (pv 6) (aa (aq aU (au ao (by rfl) T.n_len aN (aa (pv 0) ag)) ai) ag))) (aa i9 ag))))))) aF)
   (ak (aG (bG (aa ai (aa i9 ag))))))))))))),?_⟩
 have m2:=wf.m2;have m40:=wf.m40;have t1:=wf.t1;have tl:=wf.tl;have RL:=bO (m:=m) (td:=td) (ts:=ts);have rl':((aB m td ts).map bare).length=1+td.length+m:=by rw[BC,RL,tl]
 have rl:(((aB m td ts).map bare).map V.str).length=1+td.length+m:=by rw[BC,rl']
 have two:2<=sizeLine:=by decide
 have okR:=lU wf;have okS:∀{N:Nat}{b:Str},Prn b->b.length<=4000->∀ z∈((aB m td ts).map bare).set N b,Prn z/\z.length<=4000:=fun{N b} h1 h2 z hz=>by
  rcases Dk hz with hz | rfl
  ·exact okR z hz
  ·exact⟨h1,h2⟩
 have wd:∀{n:Nat},¬ decide (V.int (way:Int)=V.int (n:Int))=true->way≠n:=fun{n} h e=>h (decide_eq_true (congrArg V.int (by rw[e])))
 refine⟨_,rfl,_,_,rfl,rfl,_,rfl,ite2 (fun c=>?_) (fun c0=>?_)⟩
 ·have c':(way:Int)<6:=of_decide_eq_true c
  refine⟨_,rfl,_,rfl,_,rfl,_,rfl,r,m,td,ts,way,rest,rfl,hr0,wf,by omega,by omega,fun N b H1 hN bd pb lb keep gr=>?_⟩
  refine⟨two,fun t ht=>kk t _ true (N+1) _ (o8 wf hN bd) (okS pb lb) (by rw[BZ,rl'];omega) (fun p o e n=>aj ht _ _ _ (keep p o e n)) (aj ht _ _ _ gr) ae⟩
 have c0':¬ (way:Int)<6:=fun z=>c0 (decide_eq_true z);refine⟨_,rfl,rfl,_,rfl,ite2 (fun c=>?_) (fun c6=>?_)⟩
 ·have R64 : -(2^64:Int)<(rest:Int)/\(rest:Int)<2^64:=⟨Int.lt_of_lt_of_le (by decide) (EG rest),Int.lt_of_le_of_lt (Int.ofNat_le.mpr r10) (by decide)⟩
  have rr:rest*rest<=10^20:=Co (Nat.mul_le_mul r10 r10) (by decide)
  have e42:(42:Int)+(rest:Int)*(rest:Int)=((42+rest*rest:Nat):Int):=rfl;have x2:=Dh rest (show 0<2 by decide)
  have x3:=Dh rest (show 0<3 by decide)
  have e41:Str.ofString "41" = tx 41:=by decide
  have b42:42+rest*rest<10^31:=EZ (Nat.add_le_add_left rr 42) (by decide)
  obtain⟨y,hy,yb,y31⟩:∃ y:Nat,atI [V.str (tx (rest%2)),V.str (tx 41),V.str (tx (42+rest*rest))] ((rest%3:Nat):Int)=some (V.str (tx y))/\(y<2∨40<y)/\y<10^31:=by
   rcases(by omega:rest%3=0∨rest%3=1∨rest%3=2)with e | e | e<;>rw[e]
   ·exact⟨rest%2,rfl,.inl x2,Dw x2 (by decide)⟩
   ·exact⟨41,rfl,.inr (by decide),by decide⟩
   ·exact⟨42+rest*rest,rfl,.inr (Cb (by decide) (Nat.le_add_right _ _)),b42⟩
  have l7:(Str.ofString "places ").length=7:=by decide
  have ly:=bY (k:=30) y31;refine⟨_,rfl,_,_,rfl,rfl,(by show(0:Int)<2;decide),_,rfl,a7 (n:=rest%2) (Dw x2 (by decide)),_,rfl,_,rfl,_,_,rfl,rfl,.inl R64,_,_,rfl,rfl,_,rfl,a7 (n:=42+rest*rest) (Dw b42 (by decide)),(by show 3<=sizeLine;decide),fun l hl=>?_⟩
  have sl:=aj hl (.lst [V.str (tx (rest%2)),V.str (tx 41),V.str (tx (42+rest*rest))]);refine⟨_,rfl,_,_,rfl,rfl,(by show(0:Int)<3;decide),l,_,_,V.str (tx y),rfl,rfl,SqL.of ae,?_,_,_,rfl,rfl,?_,?_⟩
  ·rw[e41];exact hy
  ·rw[l7];have:(400000:Nat)<=sizeLine:=by decide
   omega
  have eb:Str.ofString "places "++tx y=bare [plW,tx y]:=by
   rw[show Str.ofString "places " = plW++spS by decide]
   rfl
  rw[eb];have hrl:(upd H l (.lst [V.str (tx (rest%2)),V.str (tx 41),V.str (tx (42+rest*rest))])) r=some (.lst (((aB m td ts).map bare).map V.str)):=sl _ _ hr0;refine⟨_,rfl,r,_,0,0,rfl,rfl,hrl,cq (j:=0) (by rw[rl];omega),?_⟩
  rw[← DO]
  have bd:bdR td.length 0 (bare [plW,tx y]):=.inl ⟨rfl,by
   have e:bT plW (bare [plW,tx y]) 31=some [y]:=iI (ns:=[y]) Av fun n hn=>by rw[BR.mp hn];exact y31
   unfold plO;rw[e]
   exact if_neg (by omega)⟩
  have pz:∀ z∈[plW,tx y],Prn z/\z.length<=40:=fun z hz=>by
   rcases BG.mp hz with rfl | hz
   ·exact⟨fun c hc=>(show ∀ c∈plW.cps.toList,32<=c/\c<127 by decide) c hc,by decide⟩
   ·rw[BR.mp hz];exact⟨gz y,by omega⟩
  refine⟨two,fun t ht=>kk t _ true 1 _ (o8 wf (by omega) bd) (okS (jP fun z hz=>(pz z hz).1) (eu (by show 2<=97;decide) fun z hz=>(pz z hz).2)) (by rw[BZ,rl'];omega) (fun p o e n=>aj ht _ _ _ (by rw[ar n];exact sl _ _ e)) (aj ht _ _ _ ae) ae⟩
 refine⟨_,rfl,rfl,_,rfl,ite2 (fun c=>?_) (fun c7=>?_)⟩
 ·have x2:=Dh rest (show 0<2 by decide)
  have xl:=Dh (rest/2) (show 0<1+td.length+m by omega)
  obtain⟨n,hn⟩:∃ n,n=1+rest/2%(1+td.length+m)*(rest%2):=⟨_,rfl⟩;have nb:1<=n/\n<=1+td.length+m:=by
   have:rest/2%(1+td.length+m)*(rest%2)<=rest/2%(1+td.length+m)*1:=Nat.mul_le_mul_left _ (by omega)
   omega
  have en:(1:Int)+(rest:Int)/2%(((((aB m td ts).map bare).map V.str).length:Nat):Int)*((rest:Int)%2)=(n:Int):=by rw[rl,hn];rfl
  refine⟨_,rfl,_,_,rfl,rfl,⟨by decide,by decide⟩,_,rfl,r,_,rfl,.inl (SqL.of hr0),_,_,rfl,rfl,(by show(0:Int)<_;rw[rl];omega),_,rfl,_,_,rfl,rfl,(by show(0:Int)<2;decide),_,_,rfl,rfl,?_,_,_,rfl,rfl,?_⟩
  ·exact .inr ⟨by show -(2^64:Int)<(rest:Int)%2;omega,by show(rest:Int)%2<(2^64:Int);omega⟩
  have tkl:∀ i,i<=1+td.length+m->(((aB m td ts).map bare).take i).length=i:=fun i hi=>by rw[BV,rl'];omega
  refine⟨(n:Int),congrArg (fun i:Int=>[V.int i]) en,by omega,by omega,cb (n:=(n:Int).toNat) (fun i σ H2=>∃ v4:Option V,σ = [some (.ref r),some (iV td.length),some (iV way),some (iV rest),v4,none,none,none]/\H2 r=some (.lst ((((aB m td ts).map bare).take (1+td.length+m-i)).map V.str))/\∀ p o,H p=some o->p≠r->H2 p=some o) ⟨_,rfl,?_,fun p o e _=>e⟩ ?_ ?_⟩
  ·rw[hr0,FI,Cc (by rw[rl'];exact BI _)]
  ·rintro i σ H2 hi ⟨v4,rfl,h2,keep⟩;rw[Cg]at hi;have ll:=tkl (1+td.length+m-i) (by omega)
   refine⟨_,rfl,.inl ⟨rfl,_,SqL.of h2⟩,r,_,_,rfl,rfl,h2,BA (by rw[BC,ll];omega),_,rfl,?_,fun p o e n=>by rw[ar n];exact keep p o e n⟩
   rw[ae,← Ei,List.dropLast_eq_take,ll,Es];exact congrArg (fun k=>some (HO.lst ((((aB m td ts).map bare).take k).map V.str))) (by omega)
  ·rintro σ H2 ⟨v4,rfl,h2,keep⟩;rw[Cg]at h2;have ll:=tkl (1+td.length+m-n) (by omega)
   refine⟨_,rfl,r,_,rfl,.inl (SqL.of h2),_,_,rfl,rfl,two,fun t ht=>?_⟩
   have sp:Spo m td ts (((aB m td ts).map bare).take (1+td.length+m-n)) true (1+td.length+m-n+1):=jL (by omega) (fun i hi=>by rw[Du,if_pos hi]) (fun b hb=>by
    have:=(BB.mp hb).1
    omega) fun e=>by
    rw[e]at ll;exact ll.symm
   refine kk t _ true (1+td.length+m-n+1) _ sp (fun b hb=>okR b (CM hb)) (by omega) (fun p o e n=>aj ht _ _ _ (keep p o e n)) (aj ht _ _ _ h2) ?_
   rw[ae,BC,ll];rfl
 refine⟨_,rfl,rfl,_,rfl,ite2 (fun c=>?_) (fun c8=>?_)⟩
 ·refine⟨_,rfl,r,_,rfl,.inl (SqL.of hr0),two,fun t ht=>?_⟩;rw[rl];have sp:=nz (m:=m) (td:=td) (ts:=ts) (bs:=(aB m td ts).map bare) (N:=td.length+m) rl' (by omega) (fun i hi=>rfl) (fun z=>by omega)
  refine kk t _ false (td.length+m+1) _ sp okR (by rw[rl'];omega) (fun p o e n=>aj ht _ _ _ e) (aj ht _ _ _ hr0) ?_
  rw[ae];exact congrArg (fun n:Nat=>some (HO.tup [V.int (n:Int),.bl false])) (by omega)
 refine⟨_,rfl,rfl,_,rfl,ite2 (fun c=>?_) (fun c9=>?_)⟩
 ·obtain⟨z,hz⟩:∃ z,((aB m td ts).map bare)[td.length+m]?=some z:=⟨_,BA (by rw[rl'];omega)⟩
  have okz:=okR z (BF hz);have at_l:∀{xs:List V}{v:V}{k:Nat},xs.length=k+1->xs[k]?=some v->atI xs (-1)=some v:=fun{xs v k} h1 h2=>by
   unfold atI ixN;rw[if_neg (by decide),if_pos (by omega),h1,show((-1:Int)+((k+1:Nat):Int)).toNat=k by omega]
   exact h2
  have hlast:atI (((aB m td ts).map bare).map V.str) (-1)=some (V.str z):=at_l (k:=td.length+m) (by rw[rl];omega) (by rw[BJ,hz];rfl)
  have l6:(Str.ofString "about ").length=6:=by decide
  have lL:=bY (k:=2) (n:=1+td.length+m) (by omega)
  have s40:(400000:Nat)<=sizeLine:=by decide
  refine⟨_,rfl,.inl ⟨rfl,_,SqL.of hr0⟩,_,rfl,r,_,rfl,.inl (SqL.of hr0),_,rfl,a7 (n:=(((aB m td ts).map bare).map V.str).length) (by rw[rl];omega),_,_,rfl,rfl,?_,_,rfl,_,rfl,r,_,_,_,rfl,rfl,SqL.of hr0,hlast,(by show 6<=sizeLine;decide),fun l hl=>?_⟩
  ·rw[l6,rl];show 6+(tx (1+td.length+m)).length<=_;omega
  rw[rl];have ea:Str.ofString "about "++Str.ofString (toString (((1+td.length+m:Nat)):Int))=bare [abW,tx (1+td.length+m)]:=by
   rw[show Str.ofString "about " = abW++spS by decide]
   rfl
  rw[ea];have x6:=Dh rest (show 0<6 by decide)
  have abO:Prn abW/\abW.length<=40:=⟨fun c hc=>(show ∀ c∈abW.cps.toList,32<=c/\c<127 by decide) c hc,by decide⟩
  have kc:∀{z:Str},(∀ c∈z.cps.toList,32<=c/\c<127)->z.length<=4000->Prn z/\z.length<=4000:=fun h1 h2=>⟨h1,h2⟩;obtain⟨x,hx,okx⟩:∃ x:Str,atI [V.str (Str.ofString ""),V.str (Str.ofString " "),V.str (bare [abW,tx (1+td.length+m)]),V.str (Str.ofString "pull 0 1 2"),V.str z,V.str (Str.ofString "places 2")] ((rest%6:Nat):Int)=some (V.str x)/\Prn x/\x.length<=4000:=by
   rcases(by omega:rest%6=0∨rest%6=1∨rest%6=2∨rest%6=3∨rest%6=4∨rest%6=5)with e | e | e | e | e | e<;>rw[e]
   ·exact⟨_,rfl,fun c hc=>(show ∀ c∈(Str.ofString "").cps.toList,32<=c/\c<127 by decide) c hc,by decide⟩
   ·exact⟨_,rfl,fun c hc=>(show ∀ c∈(Str.ofString " ").cps.toList,32<=c/\c<127 by decide) c hc,by decide⟩
   ·refine⟨_,rfl,jP fun y hy=>?_,eu (by show 2<=97;decide) fun y hy=>?_⟩
    ·rcases BG.mp hy with rfl | hy
     ·exact abO.1
     ·rw[BR.mp hy];exact gz _
    ·rcases BG.mp hy with rfl | hy
     ·exact abO.2
     ·rw[BR.mp hy];omega
   ·exact⟨_,rfl,fun c hc=>(show ∀ c∈(Str.ofString "pull 0 1 2").cps.toList,32<=c/\c<127 by decide) c hc,by decide⟩
   ·exact⟨_,rfl,okz⟩
   ·exact⟨_,rfl,fun c hc=>(show ∀ c∈(Str.ofString "places 2").cps.toList,32<=c/\c<127 by decide) c hc,by decide⟩
  have sl:=aj hl (.lst [V.str (Str.ofString ""),V.str (Str.ofString " "),V.str (bare [abW,tx (1+td.length+m)]),V.str (Str.ofString "pull 0 1 2"),V.str z,V.str (Str.ofString "places 2")]);refine⟨_,rfl,_,_,rfl,rfl,(by show(0:Int)<6;decide),l,_,_,V.str x,rfl,rfl,SqL.of ae,hx,?_⟩
  refine⟨r,_,_,rfl,rfl,sl _ _ hr0,aC (by rw[rl];omega),?_⟩
  have es:((aB m td ts).map bare).map V.str++[V.str x]=((aB m td ts).map bare++[x]).map V.str:=by rw[Cn];rfl
  rw[es];have ln:(((aB m td ts).map bare++[x]).map V.str).length=1+td.length+m+1:=by rw[BC,BE,rl'];rfl
  have hl2:atI (((aB m td ts).map bare++[x]).map V.str) (-1)=some (V.str x):=at_l (k:=1+td.length+m) ln (by rw[BJ,BH (by rw[rl'];exact BI _),rl',Ck];rfl)
  have ok9:∀ b∈(aB m td ts).map bare++[x],Prn b/\b.length<=4000:=fun b hb=>by
   rcases BN.mp hb with hb | hb
   ·exact okR b hb
   ·rw[BR.mp hb];exact okx
  have put:∀{p o},H p=some o->p≠r->(upd (upd H l (.lst [V.str (Str.ofString ""),V.str (Str.ofString " "),V.str (bare [abW,tx (1+td.length+m)]),V.str (Str.ofString "pull 0 1 2"),V.str z,V.str (Str.ofString "places 2")])) r (.lst (((aB m td ts).map bare++[x]).map V.str))) p=some o:=fun e n=>by rw[ar n];exact sl _ _ e
  refine⟨_,rfl,r,_,rfl,.inl (SqL.of ae),_,rfl,_,rfl,r,_,_,_,rfl,rfl,SqL.of ae,hl2,?_⟩;rw[ln];have fin:∀(fl:Bool),(fl=false->x≠Str.empty)->∀ t,(upd (upd H l (.lst [V.str (Str.ofString ""),V.str (Str.ofString " "),V.str (bare [abW,tx (1+td.length+m)]),V.str (Str.ofString "pull 0 1 2"),V.str z,V.str (Str.ofString "places 2")])) r (.lst (((aB m td ts).map bare++[x]).map V.str))) t=none->Q (.ref t) (upd (upd (upd H l (.lst [V.str (Str.ofString ""),V.str (Str.ofString " "),V.str (bare [abW,tx (1+td.length+m)]),V.str (Str.ofString "pull 0 1 2"),V.str z,V.str (Str.ofString "places 2")])) r (.lst (((aB m td ts).map bare++[x]).map V.str))) t (.tup [V.int ((1+td.length+m+1:Nat):Int),.bl fl])):=fun fl hf t ht=>kk t _ fl (1+td.length+m+1) _ (xG wf hf) ok9 (by rw[BE,rl',BM];omega) (fun p o e n=>aj ht _ _ _ (put e n)) (aj ht _ _ _ ae) ae
  refine⟨rfl,_,rfl,ite2 (fun c=>?_) (fun c=>?_)⟩
  ·exact⟨two,fun t ht=>fin true (fun z=>by cases z) t ht⟩
  ·have xne:x≠Str.empty:=fun e=>c (by rw[e];exact decide_eq_true (congrArg V.str tK.symm))
   refine⟨_,rfl,_,_,rfl,rfl,⟨by decide,by decide⟩,_,_,rfl,rfl,(by show(0:Int)<2;decide),rfl,two,fun t ht=>fin _ (fun _=>xne) t ht⟩
 refine⟨_,rfl,rfl,_,rfl,ite2 (fun c=>?_) (fun c10=>?_)⟩
 ·have m6:=Dh rest (show 0<6 by decide)
  have m62:=Dh (rest/2) (show 0<6 by decide)
  have r11:rest/11<=rest:=FX _ _;have r6:rest/6<=rest:=FX _ _;refine⟨_,rfl,r,_,rfl,.inl (SqL.of hr0),fun o ho=>?_⟩;have so:=aj ho (.lst (((aB m td ts).map bare).map V.str));have go:(upd H o (.lst (((aB m td ts).map bare).map V.str))) o=some (.lst (((aB m td ts).map bare).map V.str)):=ae;have orr:o≠r:=fun z=>by rw[z,hr0]at ho;cases ho
  have hr1:=so _ _ hr0;refine⟨_,rfl,_,rfl,_,rfl,_,_,rfl,rfl,(by show(0:Int)<6;decide),_,rfl,_,_,rfl,rfl,⟨by decide,by decide⟩,r,m,td,ts,rest%6,rest/6,rfl,hr1,wf,by omega,by omega,fun N b H1 hN bd pb lb keep1 gr=>?_⟩
  have go1:=keep1 _ _ go orr;refine⟨_,rfl,_,rfl,_,rfl,_,_,rfl,rfl,⟨by decide,by decide⟩,_,_,rfl,rfl,(by show(0:Int)<6;decide),_,rfl,_,_,rfl,rfl,⟨by decide,by decide⟩,o,m,td,ts,rest/2%6,rest/11,rfl,go1,wf,by omega,by omega,fun N2 b2 H2 hN2 bd2 pb2 lb2 keep2 gr2=>?_⟩
  have gr':=keep2 _ _ gr orr.symm;have keepA:∀ p x,H p=some x->p≠r->H2 p=some x:=fun p x e n=>by
   have po:p≠o:=fun z=>by rw[z,ho]at e;cases e
   exact keep2 _ _ (keep1 _ _ (so _ _ e) n) po
  have e2:((N2+1:Nat):Int)-1=(N2:Int):=by omega
  have emin:(if((N2+1:Nat):Int)<((N+1:Nat):Int) then((N2+1:Nat):Int) else((N+1:Nat):Int))=((min N N2+1:Nat):Int):=by split<;>omega
  refine⟨_,rfl,_,rfl,rfl,_,rfl,ite2 (fun c=>?_) (fun c=>?_)⟩
  ·have ne:N≠N2:=fun z=>by
    rw[z,decide_eq_true rfl]at c
    cases c
   have s2:((((aB m td ts).map bare).set N2 b2).map V.str)[N2]?=some (V.str b2):=by rw[BJ,CG (by rw[rl'];exact hN2)];rfl
   refine⟨_,rfl,_,rfl,_,_,rfl,rfl,o,_,_,_,rfl,rfl,SqL.of gr2,(by show atI _ (((N2+1:Nat):Int)-1)=some (V.str b2);rw[e2];exact aO s2),?_⟩
   refine⟨_,rfl,_,rfl,_,_,rfl,rfl,r,_,_,N2,rfl,rfl,gr',(by show ixN _ (((N2+1:Nat):Int)-1)=some N2;rw[e2];exact cq (by rw[BC,BZ,rl'];exact hN2)),?_⟩
   rw[← DO]
   have sp:Spo m td ts ((((aB m td ts).map bare).set N b).set N2 b2) true (min N N2+1):=jL (by omega) (fun i hi=>by rw[C2 (by omega),C2 (by omega)]) (fun x hx=>by
    rcases Nat.lt_or_ge N N2 with lt | ge
    ·rw[De (by omega)]at hx ⊢
     rw[C2 (by omega),CG (by rw[rl'];exact hN)]at hx
     cases hx
     exact bd
    ·rw[Nat.min_eq_right ge]at hx ⊢;rw[CG (by rw[BZ,rl'];exact hN2)]at hx
     cases hx
     exact bd2) fun e=>by
    have:=congrArg EV e;rw[BZ,BZ,rl',DH]at this;omega
   have ok2:∀ z∈(((aB m td ts).map bare).set N b).set N2 b2,Prn z/\z.length<=4000:=fun z hz=>by
    rcases Dk hz with hz | rfl
    ·exact okS pb lb z hz
    ·exact⟨pb2,lb2⟩
   refine⟨_,rfl,_,rfl,_,_,rfl,two,fun t ht=>?_⟩;refine kk t _ true (min N N2+1) _ sp ok2 (by rw[BZ,BZ,rl'];omega) (fun p x e n=>aj ht _ _ _ (by rw[ar n];exact keepA p x e n)) (aj ht _ _ _ ae) ?_
   rw[ae];exact congrArg (fun i:Int=>some (HO.tup [V.int i,.bl true])) emin
  ·have eq:N=N2:=by
    by_cases z:N=N2
    ·exact z
    ·exact absurd (by rw[decide_eq_false (fun y=>z (by have:=V.int.inj y;omega))];rfl) c
   refine⟨_,rfl,_,rfl,_,_,rfl,two,fun t ht=>?_⟩;refine kk t _ true (N+1) _ (o8 wf hN bd) (okS pb lb) (by rw[BZ,rl'];omega) (fun p x e n=>aj ht _ _ _ (keepA p x e n)) (aj ht _ _ _ gr') ?_
   rw[ae];refine congrArg (fun i:Int=>some (HO.tup [V.int i,.bl true])) (emin.trans ?_);rw[← eq,Nat.min_self]
 refine⟨_,rfl,rfl,_,rfl,ite2 (fun c=>?_) (fun c11=>?_)⟩
 ·have m6:=Dh rest (show 0<6 by decide)
  refine⟨_,rfl,_,rfl,_,rfl,_,_,rfl,rfl,(by show(0:Int)<6;decide),_,rfl,_,_,rfl,rfl,⟨by decide,by decide⟩,r,m,td,ts,rest%6,rest/6,rfl,hr0,wf,by omega,by omega,fun N b H1 hN bd pb lb keep gr=>?_⟩
  have sp:=nz (m:=m) (td:=td) (ts:=ts) (bs:=((aB m td ts).map bare).set N b) (N:=N) (by rw[BZ,rl']) hN (fun i hi=>C2 (by omega)) (fun _ x hx=>by
   rw[CG (by rw[rl'];exact hN)]at hx
   cases hx
   exact bd)
  exact⟨two,fun t ht=>kk t _ false (N+1) _ sp (okS pb lb) (by rw[BZ,rl'];omega) (fun p o e n=>aj ht _ _ _ (keep p o e n)) (aj ht _ _ _ gr) ae⟩
 refine⟨_,rfl,rfl,_,rfl,ite2 (fun c=>?_) (fun c13=>?_)⟩
 ·have m6:=Dh rest (show 0<6 by decide)
  have xl:=Dh (rest/2) (show 0<1+td.length+m by omega)
  obtain⟨n,hn⟩:∃ n,n=1+rest/2%(1+td.length+m):=⟨_,rfl⟩;refine⟨_,rfl,_,rfl,_,rfl,_,_,rfl,rfl,(by show(0:Int)<6;decide),_,rfl,_,_,rfl,rfl,⟨by decide,by decide⟩,r,m,td,ts,rest%6,rest/6,rfl,hr0,wf,by omega,by omega,fun N b H1 hN bd pb lb keep1 gr=>?_⟩
  have sL':(((aB m td ts).map bare).set N b).length=1+td.length+m:=by rw[BZ,rl']
  have sL:((((aB m td ts).map bare).set N b).map V.str).length=1+td.length+m:=by rw[BC,sL']
  have en:(1:Int)+(rest:Int)/2%((((((aB m td ts).map bare).set N b).map V.str).length:Nat):Int)=(n:Int):=by rw[sL,hn];rfl
  have tkl:∀ i,i<=1+td.length+m->((((aB m td ts).map bare).set N b).take i).length=i:=fun i hi=>by rw[BV,sL'];omega
  have okB:=okS pb lb (N:=N);have atN:(((aB m td ts).map bare).set N b)[N]?=some b:=CG (by rw[rl'];exact hN)
  have atO:∀ i,i<N->(((aB m td ts).map bare).set N b)[i]?=((aB m td ts).map bare)[i]?:=fun i hi=>C2 (by omega)
  generalize ((aB m td ts).map bare).set N b=S at sL' sL en tkl okB atN atO gr;refine⟨_,rfl,_,_,rfl,rfl,⟨by decide,by decide⟩,_,rfl,r,_,rfl,.inl (SqL.of gr),_,_,rfl,rfl,(by show(0:Int)<_;rw[sL];omega),_,_,rfl,rfl,?_⟩
  refine⟨(n:Int),congrArg (fun i:Int=>[V.int i]) en,by omega,by omega,cb (n:=(n:Int).toNat) (fun i σ H2=>∃ v4:Option V,σ = [some (.ref r),some (iV td.length),some (iV way),some (iV rest),v4,none,some (iV (N+1)),none]/\H2 r=some (.lst ((S.take (1+td.length+m-i)).map V.str))/\∀ p o,H p=some o->p≠r->H2 p=some o) ⟨_,rfl,?_,keep1⟩ ?_ ?_⟩
  ·rw[gr,FI,Cc (by rw[sL'];exact BI _)]
  ·rintro i σ H2 hi ⟨v4,rfl,h2,keep⟩;rw[Cg]at hi;have ll:=tkl (1+td.length+m-i) (by omega)
   refine⟨_,rfl,.inl ⟨rfl,_,SqL.of h2⟩,r,_,_,rfl,rfl,h2,BA (by rw[BC,ll];omega),_,rfl,?_,fun p o e n=>by rw[ar n];exact keep p o e n⟩
   rw[ae,← Ei,List.dropLast_eq_take,ll,Es];exact congrArg (fun k=>some (HO.lst ((S.take k).map V.str))) (by omega)
  ·rintro σ H2 ⟨v4,rfl,h2,keep⟩;rw[Cg]at h2;have ll:=tkl (1+td.length+m-n) (by omega)
   obtain⟨J,hJ⟩:∃ J,J=1+td.length+m-n:=⟨_,rfl⟩;rw[← hJ]at h2 ll
   have sp:Spo m td ts (S.take J) true (min N J+1):=jL (by omega) (fun i hi=>by rw[Du,if_pos (by omega)];exact atO i (by omega)) (fun x hx=>by
    have lt:=(BB.mp hx).1;rw[ll]at lt;have e:min N J=N:=by omega
    rw[e]at hx ⊢;rw[Du,if_pos (by omega),atN]at hx
    cases hx
    exact bd) fun e=>by
    rw[e]at ll;have:J=0:=ll.symm;omega
   refine⟨_,rfl,_,rfl,r,_,rfl,.inl (SqL.of h2),_,_,rfl,rfl,_,_,rfl,two,fun t ht=>?_⟩;refine kk t _ true (min N J+1) _ sp (fun b hb=>okB b (CM hb)) (by rw[ll];omega) (fun p o e n=>aj ht _ _ _ (keep p o e n)) (aj ht _ _ _ h2) ?_
   rw[ae,BC,ll];refine congrArg (fun i:Int=>some (HO.tup [V.int i,.bl true])) ?_;split<;>omega
 exact⟨two,fun t ht=>kk t _ true 0 _ (.same rfl rfl) okR (by rw[rl'];omega) (fun p o e n=>aj ht _ _ _ e) (aj ht _ _ _ hr0) ae⟩
end
open K8 hiding Txt
theorem zm{z:Str}(h:Prn z):10∉z.cps.toList:=fun c=>by have:=h _ c;omega
theorem uw{bs:List Str}(h:∀ b∈bs,Prn b){fl:Bool}(h0:fl=false->bs≠[]):CC (Str.join nlS bs++(if fl=true then nlS else Str.empty)) nlS=(seen bs fl).1++[(seen bs fl).2]:=by
 have em:10∉Str.empty.cps.toList:=by intro z;cases z
 cases fl with
 |true =>
  rw[if_pos rfl];by_cases e:bs = []
  ·subst e;have:=bX (c:=10) (ws:=[Str.empty,Str.empty]) (CL _ _) fun w hw=>by
    rcases BG.mp hw with rfl | hw
    ·exact em
    ·rw[BR.mp hw];exact em
   exact this
  ·rw[dM e];have ej:Str.join nlS bs++nlS=Str.join nlS (bs++[Str.empty]):=by rw[nZ nlS Str.empty e,Str.append_empty]
   rw[ej];refine bX (c:=10) (by simp) fun w hw=>?_
   rcases BN.mp hw with hw | hw
   ·exact zm (h w hw)
   ·rw[BR.mp hw];exact em
 |false =>
  have ne:=h0 rfl;rw[if_neg (by decide),Str.append_empty,iP]
  have e:CC (Str.join nlS bs) nlS=bs:=bX (c:=10) ne fun w hw=>zm (h w hw);rw[e];show bs=bs.dropLast++[bs.getLastD Str.empty];rw[List.getLastD_eq_getLast?,EN ne];exact(FQ ne).symm
theorem xF{bs:List Str}(h:∀ b∈bs,b.length<=4000)(l:bs.length<=130){fl:Bool}:(Str.join nlS bs++(if fl=true then nlS else Str.empty)).length<=600000:=by
 have a:=mC 10 bs;have b:=eZ h;have c:bs.length*4000<=130*4000:=Eo _ l;have d:(if fl=true then nlS else Str.empty).length<=1:=by split<;>decide
 rw[Str.length_append];have e:(Str.join nlS bs).length=(Str.join ⟨#[10]⟩ bs).length:=rfl;omega
theorem xq{z:Str}(h:Prn z):Asc z:=by
 unfold Asc;rw[← Array.all_toList,DN];intro c hc;have:=h c hc;exact decide_eq_true (by omega)
theorem Ak{bs:List Str}(h:∀ b∈bs,Prn b/\b.length<=4000)(fl:Bool):∀ b∈(seen bs fl).1,Rw b:=fun b hb=>by
 have go:b∈bs->Rw b:=fun z=>⟨Co (h b z).2 (by decide),xq (h b z).1⟩
 cases fl with
 |true =>
  by_cases e:bs = []
  ·subst e;have hb:b∈([Str.empty]:List Str):=hb;rw[BR.mp hb];exact⟨by decide,xq fun c hc=>by cases hc⟩
  ·rw[dM e]at hb;exact go hb
 |false=>exact go (List.dropLast_subset _ hb)
open K8 hiding Txt
theorem pC{m:Nat}{es:En}{ts:List (List Nat)}(w:bC m es ts)(h1:1<=m):rX (m+1) es :=
 ⟨fun p=>p<m,fun e he=>by obtain⟨a,b,_⟩:=w.ends e he;exact⟨fun _=>b,fun _=>a⟩,0,m,by omega,by omega,h1,Dy m⟩
theorem u6{m:Nat}{es:En}{ts:List (List Nat)}(w:bC m es ts):bC (m+1) es (ts++[[]]):=by
 have tl:=w.len;refine⟨by rw[BE,tl];rfl,fun e he=>by obtain⟨a,b,c⟩:=w.ends e he;exact⟨by omega,by omega,c⟩,fun p l h=>?_,fun p l h t=>?_⟩
 ·by_cases z:p<m
  ·rw[BL (by omega)]at h
   exact w.nd p l h
  ·rw[BH (by omega)]at h
   have:l = []:=by simpa using BF h
   rw[this];exact Et
 ·by_cases z:p<m
  ·rw[BL (by omega)]at h
   exact w.mem p l h t
  ·rw[BH (by omega)]at h
   have:l = []:=by simpa using BF h
   subst this;have pl:=(BB.mp h).1;rw[BM]at pl;refine⟨fun y=>absurd y Ct,fun⟨e,he,y⟩=>?_⟩;obtain⟨a,b,_⟩:=w.ends e (BF he);omega
theorem sO{m:Nat}{es:En}{ts:List (List Nat)}{js:List (List Int)}(w:bC m es ts){i:Nat}{l:List Int}{r:List Nat}(h1:js[i]?=some l)(h2:ts[i]?=some r)(n:l.length≠r.length):¬ Mt m es js:=fun h=>by
 obtain⟨rows,w2,ln,pm⟩:=h;have il:=(BB.mp h1).1;obtain⟨q,hq⟩:∃ q,rows[i]?=some q:=⟨_,BA (by omega)⟩
 have a:=(pm i l q h1 hq).length_eq;have b:q.Perm r:=(F1 (w2.nd _ _ hq) (w.nd _ _ h2)).mpr fun t=>(w2.mem _ _ hq t).trans (w.mem _ _ h2 t).symm;have c:=b.length_eq;unfold cI at a;rw[BC]at a;omega
theorem gr_row{m:Nat}{es:En}{ts:List (List Nat)}(g:Gr m es ts)(m2:2<=m){p:Nat}{l:List Nat}(h:ts[p]?=some l):l≠[]:=by
 rintro rfl;have hp:p<m:=by rw[← g.w.len];exact(BB.mp h).1
 have no:∀ e∈es,¬ (e.1=p∨e.2=p):=fun e he z=>by
  obtain⟨t,ht⟩:=Cr.mp he;exact Ct ((g.w.mem p [] h t).mpr ⟨e,ht,z⟩)
 obtain⟨q,hq,hn⟩:∃ q,q<m/\q≠p:=by
  by_cases z:p=0
  ·exact⟨1,by omega,by omega⟩
  ·exact⟨0,by omega,fun y=>z y.symm⟩
 exact hn (g.conn (fun x=>x=p) (fun e he=>⟨fun z=>(no e he (.inl z)).elim,fun z=>(no e he (.inr z)).elim⟩) p q hp hq rfl)
inductive SrcT(m:Nat)(td:List Td)(ts:List (List Nat))(due:Nat):Prop
 |ends (h:(∃ d∈td,d.2.1=d.2.2.1)∨¬ ∀ e∈esT td,e.1<m/\e.2<m) (d:due=1)
 |bad (lt:∀ e∈esT td,e.1<m/\e.2<m/\e.1≠e.2) (n:¬ Mt m (esT td) (ts.map cI)) (d:due=2)
 |parted (w:bC m (esT td) ts) (p:rX m (esT td)) (d:due=3)
 |web (rg:List (List Nat)) (g:Gr m (esT td) ts) (pt:Part (fol (esT td) ts) (2*(esT td).length) rg) (d:due=if m+rg.length=td.length+2 then 0 else 4)
theorem Bm{es:En}{ks:Kw}(h:ks.length=es.length):esT (tdZ es ks)=es:=by
 unfold esT tdZ;rw[Dj];show(es.zip ks).map (fun p=>p.1)=es;exact List.map_fst_zip (by omega)
theorem z4{es:En}{ks:Kw}(h:ks.length=es.length):(tdZ es ks).length=es.length:=by
 unfold tdZ;rw[BC,List.length_zip];omega
theorem esT_at{td:List Td}{i:Nat}{d:Td}(h:td[i]?=some d):(esT td)[i]?=some (d.2.1,d.2.2.1):=by
 unfold esT;rw[BJ,h];rfl
noncomputable abbrev okT(d:Td):Prop:=kdS d.1/\d.2.1<10^31/\d.2.2.1<10^31/\d.2.2.2<=10^30
theorem Wf.setTd{m:Nat}{td:List Td}{ts:List (List Nat)}(w:Wf m td ts)(i:Nat){d:Td}(h:okT d):Wf m (td.set i d) ts :=
 ⟨w.m2,w.m40,w.tl,by rw[BZ];exact w.t1,by rw[BZ];exact w.t82,fun x hx=>by
  rcases Dk hx with z | z
  ·exact w.kd x z
  ·rw[z];exact h,w.tn⟩
theorem Wf.setTs{m:Nat}{td:List Td}{ts:List (List Nat)}(w:Wf m td ts)(i:Nat){l:List Nat}(h:l.length<=90/\∀ n∈l,n<10^31):Wf m td (ts.set i l) :=
 ⟨w.m2,w.m40,by rw[BZ];exact w.tl,w.t1,w.t82,w.kd,fun x hx=>by
  rcases Dk hx with z | z
  ·exact w.tn x z
  ·rw[z];exact h⟩
theorem Wf.room{m:Nat}{td:List Td}{ts:List (List Nat)}(w:Wf m td ts)(h:m<=39):Wf (m+1) td (ts++[[]]) :=
 ⟨by have:=w.m2;omega,by omega,by rw[BE,w.tl];rfl,w.t1,w.t82,w.kd,fun x hx=>by
  rcases BN.mp hx with z | z
  ·exact w.tn x z
  ·rw[BR.mp z];exact⟨C4 _,fun n hn=>absurd hn Ct⟩⟩
theorem qY{m:Nat}{td:List Td}{ts:List (List Nat)}{i:Nat}(h:i<td.length)(d:Td):((aB m td ts).map bare).set (i+1) (bare (bN d))=(aB m (td.set i d) ts).map bare:=by
 rw[← DO];unfold aB;rw[Fv,EO _ _ (by rw[BC];exact h),← DO]
theorem An{m:Nat}{td:List Td}{ts:List (List Nat)}{i:Nat}(l:List Nat):((aB m td ts).map bare).set (1+td.length+i) (bare (abRW i l))=(aB m td (ts.set i l)).map bare:=by
 rw[← DO];unfold aB;rw[show 1+td.length+i=(td.length+i)+1 by omega,Fv,EL _ _ (by rw[BC];omega),BC,E9,List.mapIdx_set]
theorem u4{m:Nat}{td:List Td}{ts:List (List Nat)}(h:ts.length=m):((aB m td ts).map bare).set 0 (bare [plW,tx (m+1)])++[bare (abRW m [])]=(aB (m+1) td (ts++[[]])).map bare:=by
 unfold aB;rw[List.mapIdx_concat,h,BW,List.set_cons_zero,BW,Cn,Cn,Cn];simp only[Dg,Ca,BW,Fl]
noncomputable def twTd:List Td:=[(cP,0,1,5),(bZ,1,0,0),(cP,0,1,10^30)]
noncomputable def twTs:List (List Nat):=[[0,1,2],[0,1,2]]
theorem tw_wf:Wf 2 twTd twTs:=by
 refine⟨by decide,by decide,rfl,by decide,by decide,fun d hd=>?_,fun l hl=>?_⟩
 ·have:d=(cP,0,1,5)∨d=(bZ,1,0,0)∨d=(cP,0,1,10^30):=by simpa[twTd] using hd
  rcases this with rfl | rfl | rfl
  ·exact⟨.inl rfl,by decide,by decide,by decide⟩
  ·exact⟨.inr rfl,by decide,by decide,by decide⟩
  ·exact⟨.inl rfl,by decide,by decide,BI _⟩
 ·have:l = [0,1,2]:=by simpa[twTs] using hl
  subst this
  exact⟨by decide,fun n hn=>by have:n=0∨n=1∨n=2:=by simpa using hn
                               rcases this with rfl | rfl | rfl<;>decide⟩
theorem yQ{es:En}{l l':List Nat}(h0:0<es.length)(he:∀ e∈es,e=(0,1)∨e=(1,0))(n1:l.Nodup)(n2:l'.Nodup)(m1:∀ t,t∈l↔t<es.length)(m2:∀ t,t∈l'↔t<es.length):Gr 2 es [l,l']:=by
 have ends:∀ e∈es,e.1<2/\e.2<2/\e.1≠e.2:=fun e z=>by
  rcases he e z with rfl | rfl<;>decide
 have mem:∀ p,p<2->∀ t,t<es.length↔∃ e,es[t]?=some e/\(e.1=p∨e.2=p):=fun p hp t=>by
  constructor
  ·intro z;refine⟨_,BA z,?_⟩;have a:=ends _ (CO z);omega
  ·rintro⟨e,a,_⟩;exact(BB.mp a).1
 refine⟨⟨rfl,ends,fun p q h=>?_,fun p q h t=>?_⟩,fun S hS p q hp hq sp=>?_,by omega⟩
 ·match p,h with
  |0,h=>cases h;exact n1
  |1,h=>cases h;exact n2
  |p+2,h=>cases h
 ·match p,h with
  |0,h=>cases h;exact(m1 t).trans (mem 0 (by decide) t)
  |1,h=>cases h;exact(m2 t).trans (mem 1 (by decide) t)
  |p+2,h=>cases h
 ·have h01:S 0↔S 1:=by
   have a:=hS es[0] (CO h0);rcases he _ (CO h0)with z | z
   ·rw[z]at a;exact a
   ·rw[z]at a;exact a.symm
  have hp':p=0∨p=1:=by omega
  have hq':q=0∨q=1:=by omega
  rcases hp' with rfl | rfl<;>rcases hq' with rfl | rfl
  ·exact sp
  ·exact h01.mp sp
  ·exact h01.mpr sp
  ·exact sp
noncomputable def twRg:List (List Nat):=[[0,2,4,1,3,5]]
theorem tw_src:SrcT 2 twTd twTs 4:=by
 refine .web twRg (yQ (by decide) (by decide) (by decide) (by decide) (fun t=>?_) (fun t=>?_)) ⟨fun r hr=>?_,by decide,by decide⟩ (by decide)
 ·show t∈[0,1,2]↔t<3;simp only[BG,Ct,or_false];omega
 ·show t∈[0,1,2]↔t<3;simp only[BG,Ct,or_false];omega
 ·have:r = [0,2,4,1,3,5]:=by simpa[twRg] using hr
  subst this;exact⟨⟨0,[2,4,1,3,5],rfl,by decide,by decide,by decide,by decide,by decide,(by show fol (esT twTd) twTs 5=0;decide)⟩,by decide,by decide⟩
noncomputable def Be(n:Nat):List (List Nat):=(Cz n).map fun k=>[2*k,2*((k+1)%n)+1]
theorem Bd{n:Nat}(h:n=79∨n=80):SrcT 2 (cA n) (jf n) 0:=by
 have el:(esT (cA n)).length=n:=by unfold esT cA;rw[BC,BC,CS]
 have g:Gr 2 (esT (cA n)) (jf n):=by
  refine yQ (by rw[el];omega) (fun e he=>?_) List.nodup_range ?_ (fun t=>by rw[el];exact Dt) (fun t=>?_)
  ·obtain⟨d,hd,rfl⟩:=B9.mp he;obtain⟨k,_,rfl⟩:=B9.mp hd;exact .inr rfl
  ·rcases h with rfl | rfl<;>decide
  ·rw[el,B9];constructor
   ·rintro⟨k,hk,rfl⟩;have:=Dt.mp hk;omega
   ·intro z;exact⟨n-1-t,Dt.mpr (by omega),by omega⟩
 have fo:∀ k,k<n->fol (esT (cA n)) (jf n) (2*k)=2*((k+1)%n)+1/\fol (esT (cA n)) (jf n) (2*((k+1)%n)+1)=2*k:=by
  rcases h with rfl | rfl<;>decide
 refine .web (Be n) g ⟨fun r hr=>?_,?_,fun d hd=>?_⟩ ?_
 ·obtain⟨k,hk,rfl⟩:=B9.mp hr;have hk:=Dt.mp hk;obtain⟨f1,f2⟩:=fo k hk;have ml:=Dh (k+1) (show 0<n by omega)
  refine⟨⟨2*k,[2*((k+1)%n)+1],rfl,f1,f2⟩,fun d hd=>?_,?_⟩
  ·rw[el];simp only[BG,Ct,or_false]at hd;omega
  ·simp only[B7,BG,Ct,or_false,not_false_eq_true,Et,and_true];omega
 ·rcases h with rfl | rfl<;>decide
 ·rw[el]at hd;have:∀ d,d<2*n->d∈(Be n).flatten:=by rcases h with rfl | rfl<;>decide
  exact this d hd
 ·rw[if_pos];unfold Be cA;rw[BC,BC,CS];omega
open K8 hiding Txt
noncomputable def ze(K:BD):Sp:=fun vs H Q _=>∃(a:Addr)(ns:List Int)(way:Nat),vs = [.ref a,iV way]/\SqL K H a (ns.map V.int)/\ns.length<=63 /\
 ∀(t r:Addr)(m:Nat)(td:List Td)(ts:List (List Nat))(due:Nat)(H':Hp),Same H H'->H' t=some (.tup [.ref r,iV due])->H' r=some (.lst (((aB m td ts).map bare).map V.str))->Wf m td ts->td.length<=80->SrcT m td ts due->Q (.ref t) H'
theorem wX(ns:List Int)(lo hi:Nat):∃ cs:List Int,cutV (ns.map V.int) (some (lo:Int)) (some (hi:Int))=cs.map V.int/\cs.length<=ns.length-lo:=by
 unfold cutV;have q1:=HT.sIx_nat (ns.map V.int).length 0 lo;have q2:=HT.sIx_nat (ns.map V.int).length (ns.map V.int).length hi;rw[q1,q2,← Ej,← Eh];refine⟨_,rfl,?_⟩;rw[BV,Cq,BC];refine Nat.le_trans (Nat.min_le_right _ _) ?_
 rcases Nat.le_total lo ns.length with h | h
 ·rw[Nat.min_eq_left h];exact Nat.le_refl _
 ·rw[Nat.min_eq_right h,Nat.sub_self];exact Nat.zero_le _
theorem Az{f:Nat->Nat}{N:Nat}{rg:List (List Nat)}(p:Part f N rg)(h:N<=200):rg.length<=200/\∀ r∈rg,r.length<=200/\∀ d∈r,d<N:=⟨by have:=ma p;omega,fun r hr=>⟨by have:=eQ (p.cr r hr).nd (p.cr r hr).lt;omega,(p.cr r hr).lt⟩⟩
noncomputable def rbJ:TS:=fun D σ H=>∃(r p:Addr)(v0 v1 v3 v4 v7:Option V)(N:Nat)(bs ws:List Str),σ = [v0,v1,some (.ref r),v3,v4,some (iV N),some (.ref p),v7]/\H r=some (.lst (bs.map V.str))/\H p=some (.lst (ws.map V.str))/\N<bs.length/\ws.length<=100/\(∀ z∈ws,z.length<=40)/\∀ t,(upd H r (.lst ((bs.set N (bare ws)).map V.str))) t=none->D.rt (.ref t) (upd (upd H r (.lst ((bs.set N (bare ws)).map V.str))) t (.tup [.ref r,iV 2]))
section
variable{P:Program}{w:World}{K:BD}{mg:Str->Option Value}{base:Heap}
theorem bR:aJ ["script","way","rows","grown","cell","at","words","more"] ["script","way"] (ay i4):=by ac_nf
theorem AN{f f1 f2 f3 f4 f5:Addr}{fd d1 d2 d3 d4 d5:FuncData} (F:Fun K "_law_base" "_law_base" i4 f fd) (T:Txt mg) (G_law_cell:Cal P w K mg base 1 "_law_cell" ["script","k"] (qX K) f1 d1) (G_law_grown:Cal P w K mg base 3 "_law_grown" ["cells","places"] (qW K) f2 d2) (G_law_renumbered:Cal P w K mg base 2 "_law_renumbered" ["grown","cell"] yX f3 d3) (G_law_kinds:Cal P w K mg base 2 "_law_kinds" ["script","many"] (qV K) f4 d4) (G_law_texted:Cal P w K mg base 1 "_law_texted" ["ends","turns","kinds"] qR f5 d5):FnOk P w K mg base CX0 4 f fd ["script","way"] (ze K):=by
 refine F.ok bR (fun vs H Q E h=>?_) (fun cdv A outer s H vs Q E hr h=>?_)
 ·obtain⟨a,ns,way,rfl,_⟩:=h;rfl
 obtain⟨a,ns,way,rfl,hS,h63,kk⟩:=h
 refine⟨_,(af (bf (ax bu (pv 1) ai (aA _)) (af (av (i:=2) bR.nd rfl (Or.inl rfl) (bh (aa aE (aa aE (aa aE (aa (aq ba aE (aK aH (by rfl) T.n_str cg (aa (aq kg ai ai) ag))) ag))))))
   (ak (aG (bG (aa (aq dS (pv 2) (bh (aa aE (aa aE ag)))) (aa ai ag)))))) aF)
   (af (av (i:=3) bR.nd rfl (Or.inl rfl) (aI G_law_renumbered.ok (hr.mono (by decide)) rfl G_law_renumbered.mg G_law_renumbered.kp G_law_renumbered.bn .nil bA (aa (aI G_law_grown.ok (hr.mono (by decide)) rfl G_law_grown.mg G_law_grown.kp G_law_grown.bn .nil bA (aa (cF dJ (pv 0) (cQ ai) (cQ ai)) (aa ai ag))) (aa (aI G_law_cell.ok (hr.mono (by decide)) rfl G_law_cell.mg G_law_cell.kp G_law_cell.bn .nil bA (aa (pv 0) (aa ai ag))) ag))))
   (af (av (i:=2) bR.nd rfl (Or.inl rfl) (aI G_law_texted.ok (hr.mono (by decide)) rfl G_law_texted.mg G_law_texted.kp G_law_texted.bn .nil bA (aa (aL br (pv 3) ai (fun _ _=>rfl)) (aa (aL br (pv 3) ai (fun _ _=>rfl)) (aa (aI G_law_kinds.ok (hr.mono (by decide)) rfl G_law_kinds.mg G_law_kinds.kp G_law_kinds.bn .nil bA (aa (pv 0) (aa (au ao (by rfl) T.n_len aN (aa (aL br (pv 3) ai (fun _ _=>rfl)) ag)) ag))) ag)))))
   (af (bf (ax bu (pv 1) ai (aA _)) (af (dQ aE (dR (pv 2) ai bL))
   (ak (aG (bG (aa (pv 2) (aa ai ag)))))) aF)
   (af (bf (ax bu (pv 1) ai (aA _)) (af (dQ (aq ba (aq ba aE (aK aH (by rfl) T.n_str cg (aa (aq cM (aq kg ai ai) ai) ag))) aE) (dR (pv 2) (au ao (by rfl) T.n_len aN (aa (aL br (pv 3) ai (fun _ _=>rfl)) ag)) bL))
   (ak (aG (bG (aa (pv 2) (aa ai ag)))))) aF)
   (af (bf (ax bu (pv 1) ai (aA _)) (af (av (i:=4) bR.nd rfl (Or.inl rfl) (aq a9 (aI G_law_cell.ok (hr.mono (by decide)) rfl G_law_cell.mg G_law_cell.kp G_law_cell.bn .nil bA (aa (pv 0) (aa ai ag))) ai))
   (af (av (i:=5) bR.nd rfl (Or.inl rfl) (aq aU (aq aU ai (au ao (by rfl) T.n_len aN (aa (aL br (pv 3) ai (fun _ _=>rfl)) ag))) (aq aT (pv 4) (au ao (by rfl) T.n_len aN (aa (aL br (pv 3) ai (fun _ _=>rfl)) ag)))))
   (af (av (i:=6) bR.nd rfl (Or.inl rfl) (bP CB C3 DI gn (aL aD (pv 2) (pv 5) (fun _ _=>rfl)) (aa aE ag)))
   (af (av (i:=7) bR.nd rfl (Or.inl rfl) (aL aD (bh (aa aE (aa (aL aD (pv 6) (Ay ur ai) (fun _ _=>rfl)) (aa (aK aH (by rfl) T.n_str cg (aa (aq aT (pv 4) (aq aU (au ao (by rfl) T.n_len aN (aa (aL br (pv 3) ai (fun _ _=>rfl)) ag)) ai)) ag)) (aa (aK aH (by rfl) T.n_str cg (aa (aq cM (aq kg ai ai) ai) ag)) ag))))) (aq aT (aq a9 (pv 4) ai) ai) (fun _ _=>rfl)))
   (af (bf (ax bu (pv 7) aE (aA _)) (ak (aZ (nL BS Ef Ee nS (pv 6)))) (ak (aZ (bP BS E3 E2 kj (pv 6) (aa (aq aU ai (aq aT (aq a9 (pv 4) ai) (aq cM (au ao (by rfl) T.n_len aN (aa (pv 6) ag)) ai))) (aa (pv 7) ag))))))
   (fq (t2:=rbJ) (af (dQ (bP CB Dr DA hV aE (aa (pv 6) ag)) (dR (pv 2) (pv 5) bL))
   (ak (aG (bG (aa (pv 2) (aa ai ag)))))) (fun D0 S0 H0 h0=>?restj))))))) aF)
   (af (bf (ax bu (pv 1) ai (aA _)) (af (dQ (aq ba aE (aK aH (by rfl) T.n_str cg (aa (aq aU (au ao (by rfl) T.n_len aN (aa (aL br (pv 3) ai (fun _ _=>rfl)) ag)) ai) ag))) (dR (pv 2) ai bL))
   (af (aZ (bP BS Ce Cd bg (pv 2) (aa (aq ba aE (aK aH (by rfl) T.n_str cg (aa (au ao (by rfl) T.n_len aN (aa (aL br (pv 3) ai (fun _ _=>rfl)) ag)) ag))) ag)))
   (ak (aG (bG (aa (pv 2) (aa ai ag))))))) aF)
   (ak (aG (bG (aa (pv 2) (aa ai ag)))))))))))),?_⟩
 case restj =>
  obtain⟨r,p,v0,v1,v3,v4,v7,N,bs,ws,rfl,hr1,hp,hN,wl,zl,kk⟩:=h0;have sl:=eZ zl;have sc:ws.length*40<=100*40:=Eo _ wl;rw[jW];refine⟨rfl,_,rfl,spS,p,ws,rfl,rfl,SqL.of hp,?_,?_⟩
  ·show _+ws.length*1<=1000000;omega
  refine⟨_,rfl,_,rfl,r,bs.map V.str,(N:Int),N,rfl,rfl,hr1,cq (by rw[BC];exact hN),?_⟩
  refine⟨_,rfl,(by show 2<=sizeLine;decide),fun t ht=>?_⟩
  rw[← DO]at ht ⊢;exact kk t ht
 have s64:(400000:Nat)<=sizeLine:=by decide
 have e30:(10:Int)^(30:Int).toNat=((10^30:Nat):Int):=by decide
 have e31:(10:Int)^(31:Int).toNat-1=((10^31-1:Nat):Int):=by decide
 have l30:(tx (10^30)).length<=31:=bY (k:=30) (by decide)
 have l31:(tx (10^31-1)).length<=31:=bY (k:=30) (by decide)
 refine⟨_,rfl,rfl,_,rfl,ite2 (fun c=>?_) (fun c5=>?_)⟩
 ·refine⟨_,_,rfl,rfl,⟨by decide,by decide,by decide⟩,_,rfl,?_,_,_,rfl,rfl,?_,(by show 4<=sizeLine;decide),fun l1 h1=>?_⟩
  ·rw[e30];exact a7 (n:=10^30) (by decide)
  ·rw[e30,show(Str.ofString "pull 0 1 ").length=9 by decide]
   show 9+(tx (10^30)).length<=_;omega
  rw[e30];have s1:=aj h1 (.lst [V.str (Str.ofString "places 2"),V.str (Str.ofString "pull 0 1 5"),V.str (Str.ofString "push 1 0 0"),V.str (Str.ofString "pull 0 1 "++tx (10^30))]);refine⟨_,rfl,(by show 2<=sizeLine;decide),fun l2 h2=>?_⟩
  have s2:=aj h2 (.lst [V.str (Str.ofString "about 0 0 1 2"),V.str (Str.ofString "about 1 0 1 2")]);refine⟨l1,l2,_,_,rfl,rfl,SqL.of (s2 _ _ ae),SqL.of ae,(by show 6<=sizeLine;decide),fun q hq=>?_⟩
  have s3:=aj hq (.lst ([V.str (Str.ofString "places 2"),V.str (Str.ofString "pull 0 1 5"),V.str (Str.ofString "push 1 0 0"),V.str (Str.ofString "pull 0 1 "++tx (10^30))]++[V.str (Str.ofString "about 0 0 1 2"),V.str (Str.ofString "about 1 0 1 2")]));refine⟨(by show 2<=sizeLine;decide),fun t ht=>?_⟩
  have s4:=aj ht (.tup [.ref q,iV 4]);refine kk t q 2 twTd twTs 4 _ (s1.trans (s2.trans (s3.trans s4))) ae ?_ tw_wf (by decide) tw_src
  refine(s4 _ _ ae).trans ?_;have p0:Str.ofString "places 2" = bare [plW,tx 2]:=by decide
  have p1:Str.ofString "pull 0 1 5" = bare (bN (cP,0,1,5)):=by decide
  have p2:Str.ofString "push 1 0 0" = bare (bN (bZ,1,0,0)):=by decide
  have p3:Str.ofString "pull 0 1 "++Str.ofString (toString ((10^30:Nat):Int))=bare (bN (cP,0,1,10^30)):=by
   rw[show Str.ofString "pull 0 1 " = cP++spS++tx 0++spS++tx 1++spS by decide]
   show _=cP++spS++(tx 0++spS++(tx 1++spS++tx (10^30)));simp only[Str.append_assoc];rfl
  have p4:Str.ofString "about 0 0 1 2" = bare (abRW 0 [0,1,2]):=by decide
  have p5:Str.ofString "about 1 0 1 2" = bare (abRW 1 [0,1,2]):=by decide
  rw[p0,p1,p2,p3,p4,p5];rfl
 obtain⟨cs,hcs,csl⟩:=wX ns 2 78;refine⟨_,rfl,_,rfl,_,rfl,a,_,rfl,hS,fun b hb=>?_⟩;have sb:=aj hb (.lst (cs.map V.int));rw[show cutV (ns.map V.int) (some 2) (some 78)=cs.map V.int from hcs];refine⟨b,39,cs,rfl,SqL.of ae,by omega,by decide,fun t pe pt pr m es ts rg H1 s1 ht ⟨⟨ys,xs,zs,C⟩,g,part,cnt⟩ e0 el mP=>?_⟩
 have s01:=sb.trans s1;have bd:=Az part (by omega)
 refine⟨_,rfl,a,1,ns,rfl,s01.seq hS,t,pe,pt,pr,_,m,es,ts,rg,rfl,ht,⟨⟨ys,C.he,C.en⟩,⟨xs,C.ht,C.rx.off⟩,g.w⟩,⟨zs,C.hr,C.rz.off⟩,bd.1,bd.2,by omega,by omega,fun t' pe' pt' pr' es' ts' π σ' H2 s2 ht' wp R=>?_⟩
 have s02:=s01.trans s2;have wo:=g.w;have l1:=R.l1;have g':=R.gr g;have part':=xO R wo part;obtain⟨⟨ys',hpe',hE'⟩,⟨xs',hpt',hR'⟩,w'⟩:=id wp;have yl':ys'.length=es'.length:=hE'.1;have tl':ts'.length=m:=w'.len;have xm:xs'.length=m:=by rw[hR'.1,tl']
 have m2:2<=m:=by
  obtain⟨e,he⟩:∃ e,es'[0]?=some e:=⟨_,BA (by omega)⟩
  obtain⟨a1,a2,a3⟩:=w'.ends e (BF he);omega
 refine⟨_,rfl,t',_,0,_,rfl,rfl,SqT.of ht',at30,_,rfl,t',_,1,_,rfl,rfl,SqT.of ht',at31,_,rfl,_,rfl,t',_,0,_,rfl,rfl,SqT.of ht',at30,pe',ys',rfl,.inl (SqL.of hpe'),a,ys'.length,ns,rfl,s02.seq hS,by omega,by omega,fun pk ws ks H3 s3 hpk tk kl=>?_⟩
 have tS:∀ l∈ts',l.length<=90/\∀ t∈l,t<100:=fun l hl=>by
  obtain⟨i,hi⟩:=Cr.mp hl;obtain⟨q1,q2⟩:=eM (N:=70) w' (by omega) hi
  exact⟨by omega,fun t ht=>by have:=q1 t ht;omega⟩
 refine⟨pe',pt',pk,ys',xs',ws,es',ks,ts',rfl,s3 _ _ hpe',hE'.mono s3,s3 _ _ hpt',hR'.mono s3,hpk,tk,by omega,by omega,by omega,fun e he=>(by obtain⟨q1,q2,_⟩:=w'.ends e he;omega),tS,fun r H4 s4 hr0 hrr=>?_⟩
 have s04:=s02.trans (s3.trans s4);have kl':ks.length=es'.length:=by omega
 have hrn:H r=none:=none_of (s02.trans s3) hr0;obtain⟨td,htd⟩:∃ td,td=tdZ es' ks:=⟨_,rfl⟩;have eT:esT td=es':=by rw[htd];exact Bm kl'
 have tdl:td.length=es'.length:=by rw[htd];exact z4 kl'
 have wf:Wf m td ts':=by
  refine⟨m2,by omega,tl',by omega,by omega,fun d hd=>?_,fun l hl=>⟨(tS l hl).1,fun n hn=>Dw ((tS l hl).2 n hn) (by decide)⟩⟩
  obtain⟨i,hi⟩:=Cr.mp hd;have il:=(BB.mp hi).1;obtain⟨e,he⟩:∃ e,es'[i]?=some e:=⟨_,BA (by omega)⟩
  obtain⟨k,hk⟩:∃ k,ks[i]?=some k:=⟨_,BA (by omega)⟩
  rw[htd]at hi;unfold tdZ at hi;rw[BJ,(F6 (z:=(e,k))).mpr ⟨he,hk⟩]at hi
  cases hi
  obtain⟨q1,q2,_⟩:=w'.ends e (BF he);obtain⟨q3,q4,_⟩:=tk.2 i k hk;exact⟨q3,Dw (Cb q1 (show m<=40 by omega)) (by decide),Dw (Cb q2 (show m<=40 by omega)) (by decide),q4⟩
 rw[tl',← htd]at hrr;have t1:=wf.t1;have RL:=bO (m:=m) (td:=td) (ts:=ts');have rl':((aB m td ts').map bare).length=1+td.length+m:=by rw[BC,RL,tl']
 have rl:(((aB m td ts').map bare).map V.str).length=1+td.length+m:=by rw[BC,rl']
 have ht4:=s4 _ _ (s3 _ _ ht');have hpe4:=s4 _ _ (s3 _ _ hpe');have hpt4:=s4 _ _ (s3 _ _ hpt');have fin:∀{H5:Hp}{td2:List Td}{ts2:List (List Nat)}{m' due:Nat},Same H H5->H5 r=some (.lst (((aB m' td2 ts2).map bare).map V.str))->Wf m' td2 ts2->td2.length<=80->SrcT m' td2 ts2 due->∀ t,H5 t=none->Q (.ref t) (upd H5 t (.tup [.ref r,iV due])):=fun{H5 td2 ts2 m' due} q1 q2 q3 q4 q5 t ht=>by
  have sn:=aj ht (.tup [.ref r,iV due]);exact kk t r m' td2 ts2 due _ (q1.trans sn) ae (sn _ _ q2) q3 q4 q5
 have two:(2:Nat)<=sizeLine:=by decide
 refine⟨_,rfl,rfl,_,rfl,ite2 (fun c=>?_) (fun c1=>?_)⟩
 ·refine⟨_,rfl,r,_,1,1,rfl,rfl,hrr,cq (j:=1) (by rw[rl];omega),?_⟩
  refine⟨_,rfl,two,fin (a8 s04 hrn _) ?_ (wf.setTd 0 (d:=(bZ,0,0,3)) ⟨.inr rfl,by decide,by decide,by decide⟩) (by rw[BZ];omega) (.ends (.inl ⟨(bZ,0,0,3),Cr.mpr ⟨0,CG (by omega)⟩,rfl⟩) rfl)⟩
  rw[ae,← qY (by omega),DO]
  exact congrArg (fun z=>some (HO.lst ((((aB m td ts').map bare).map V.str).set 1 (V.str z)))) (by decide)
 refine⟨_,rfl,rfl,_,rfl,ite2 (fun c=>?_) (fun c2=>?_)⟩
 ·refine⟨_,_,rfl,rfl,⟨by decide,by decide,by decide⟩,_,_,rfl,rfl,_,rfl,?_,_,_,rfl,rfl,?_,_,_,rfl,rfl,?_,?_⟩
  ·rw[e31];exact a7 (n:=10^31-1) (by decide)
  ·rw[e31,show(Str.ofString "pull 0 ").length=7 by decide]
   show 7+(tx (10^31-1)).length<=_;omega
  ·rw[e31,Str.length_append,show(Str.ofString "pull 0 ").length=7 by decide,show(Str.ofString " 0").length=2 by decide]
   show 7+(tx (10^31-1)).length+2<=_;omega
  rw[e31];refine⟨_,rfl,_,rfl,t',_,0,_,rfl,rfl,SqT.of ht4,at30,pe',ys',rfl,.inl (SqL.of hpe4),r,_,_,td.length,rfl,rfl,hrr,(by show ixN _ ((ys'.length:Nat):Int)=_;rw[yl',← tdl];exact cq (by rw[rl];omega)),?_⟩
  refine⟨_,rfl,two,fin (a8 s04 hrn _) ?_ (wf.setTd (td.length-1) (d:=(cP,0,10^31-1,0)) ⟨.inl rfl,by decide,by decide,by decide⟩) (by rw[BZ];omega) (.ends (.inr fun z=>?_) rfl)⟩
  ·have e2:td.length=(td.length-1)+1:=by omega
   rw[ae,← qY (by omega),DO,← e2]
   refine congrArg (fun z=>some (HO.lst ((((aB m td ts').map bare).map V.str).set td.length (V.str z)))) ?_;rw[show Str.ofString "pull 0 " = cP++spS++tx 0++spS by decide,show Str.ofString " 0" = spS++tx 0 by decide]
   show _=cP++spS++(tx 0++spS++(tx (10^31-1)++spS++tx 0));simp only[Str.append_assoc];rfl
  ·have:=(z (0,10^31-1) (Cr.mpr ⟨td.length-1,esT_at (CG (by omega))⟩)).2
   exact absurd this (Nat.not_lt.mpr (Co (show m<=40 by omega) (by decide)))
 refine⟨_,rfl,rfl,_,rfl,ite2 (fun c=>?_) (fun c3=>?_)⟩
 ·refine⟨_,rfl,a,0,ns,rfl,s04.seq hS,_,_,rfl,rfl,⟨by decide,by decide⟩,?_⟩
  change kE 4 (V.int (lr ns 0/144)) _ _ _;generalize lr ns 0/144=c0;refine⟨_,rfl,t',_,0,_,rfl,rfl,SqT.of ht4,at30,pe',ys',rfl,.inl (SqL.of hpe4),_,_,rfl,rfl,_,rfl,_,rfl,t',_,1,_,rfl,rfl,SqT.of ht4,at31,pt',xs',rfl,.inl (SqL.of hpt4),_,_,rfl,rfl,(by show(0:Int)<((xs'.length:Nat):Int);omega),_,_,rfl,rfl,?_⟩
  obtain⟨i,hi,im⟩:∃ i:Nat,c0%((xs'.length:Nat):Int)=(i:Int)/\i<m:=by
   have h1:=Df c0 (show((xs'.length:Nat):Int)≠0 by omega)
   have h2:=CU c0 (show(0:Int)<((xs'.length:Nat):Int) by omega)
   exact⟨(c0%((xs'.length:Nat):Int)).toNat,by omega,by omega⟩
  have eat:(1:Int)+((ys'.length:Nat):Int)+c0%((xs'.length:Nat):Int)=((1+td.length+i:Nat):Int):=by rw[hi,yl',← tdl];omega
  change kE 5 (V.int (1+((ys'.length:Nat):Int)+c0%((xs'.length:Nat):Int))) _ _ _;rw[eat];obtain⟨l,hl⟩:∃ l,ts'[i]?=some l:=⟨_,BA (by omega)⟩
  obtain⟨l90,l100⟩:=tS l (BF hl);have lne:=gr_row g' m2 hl;have wne:∀ z∈abRW i l,32∉z.cps.toList:=fun z hz=>by
   unfold abRW at hz;rcases BG.mp hz with rfl | hz
   ·exact yJ
   rcases BG.mp hz with rfl | hz
   ·exact nk i
   ·obtain⟨n,_,rfl⟩:=B9.mp hz;exact nk n
  have al:(abRW i l).length=l.length+2:=by unfold abRW;rw[BK,BK,BC]
  have l40:∀{n:Nat},n<10^31->(tx n).length<=40:=fun{n} h=>Co (bY (k:=30) h) (by decide)
  have w40:∀{l':List Nat},(∀ n∈l',n<10^31)->∀ z∈abRW i l',z.length<=40:=fun{l'} h z hz=>by
   unfold abRW at hz;rcases BG.mp hz with rfl | hz
   ·decide
   rcases BG.mp hz with rfl | hz
   ·exact l40 (Dw (Cb im (show m<=40 by omega)) (by decide))
   ·obtain⟨n,hn,rfl⟩:=B9.mp hz;exact l40 (h n hn)
  have l31':∀ n∈l,n<10^31:=fun n hn=>Dw (l100 n hn) (by decide)
  have bl:(bare (abRW i l)).length<=4000:=eu (by omega) (w40 l31')
  have hat:(((aB m td ts').map bare).map V.str)[1+td.length+i]?=some (V.str (bare (abRW i l))):=by rw[BJ,BJ,gk hl];rfl
  rw[jW];refine⟨_,rfl,_,rfl,r,_,_,_,rfl,rfl,SqL.of hrr,aO hat,rfl,_,spS,rfl,rfl,rfl,by omega,fun p hp=>?_⟩
  rw[show CC (bare (abRW i l)) spS=abRW i l from nM (CL _ _) wne];have sp1:=aj hp (.lst ((abRW i l).map V.str));have pr':p≠r:=fun z=>by rw[z,hrr]at hp;cases hp
  have gp:(upd H4 p (.lst ((abRW i l).map V.str))) p=some (.lst ((abRW i l).map V.str)):=ae;have s05:=s04.trans sp1;have hrr5:=sp1 _ _ hrr;have ht5:=sp1 _ _ ht4;have hpe5:=sp1 _ _ hpe4;have hpn:H p=none:=none_of s04 hp;generalize upd H4 p (.lst ((abRW i l).map V.str))=H5 at sp1 gp s05 hrr5 ht5 hpe5;obtain⟨k,hk⟩:∃ k,l.getLast?=some k:=⟨_,EN lne⟩;have hk31:k<10^31:=l31' k (List.mem_of_getLast? hk);have hlast:atI ((abRW i l).map V.str) (-1)=some (V.str (tx k)):=by
   obtain⟨l0,rfl⟩:∃ l0,l=l0++[k]:=⟨l.dropLast,by rw[EN lne]at hk;cases hk;exact(FQ lne).symm⟩
   have:(abRW i (l0++[k])).map V.str=((abRW i l0).map V.str)++[V.str (tx k)]:=by
    unfold abRW;rw[Cn,BW,BW,Cn];rfl
   rw[this];exact yI _ _
  obtain⟨y,hy,y31⟩:∃ y:Nat,c0%(((ys'.length:Nat):Int)+2)=(y:Int)/\y<10^31:=by
   have h1:=Df c0 (show((ys'.length:Nat):Int)+2≠0 by omega)
   have h2:=CU c0 (show(0:Int)<((ys'.length:Nat):Int)+2 by omega)
   exact⟨(c0%(((ys'.length:Nat):Int)+2)).toNat,by omega,Dw (show _<100 by omega) (by decide)⟩
  refine⟨_,rfl,_,rfl,p,_,_,_,rfl,rfl,SqL.of gp,hlast,_,rfl,_,rfl,t',_,0,_,rfl,rfl,SqT.of ht5,at30,pe',ys',rfl,.inl (SqL.of hpe5),_,_,rfl,rfl,_,_,rfl,rfl,(by show(0:Int)<((ys'.length:Nat):Int)+2;omega),_,rfl,(by rw[hy];exact a7 (n:=y) (Dw y31 (by decide))),_,_,rfl,rfl,⟨by decide,by decide,by decide⟩,_,_,rfl,rfl,_,rfl,(by rw[e31];exact a7 (n:=10^31-1) (by decide)),(by show 4<=sizeLine;decide),fun q hq=>?_⟩
  obtain⟨mo,hmo,okm⟩:∃ mo,atI [V.str (Str.ofString ""),V.str (tx k),V.str (Str.ofString (toString (c0%(((ys'.length:Nat):Int)+2)))),V.str (Str.ofString (toString ((10:Int)^(31:Int).toNat-1)))] (c0/40%4)=some (V.str mo)/\(mo=Str.ofString ""∨∃ n,n<10^31/\mo=tx n):=by
   rw[hy,e31];obtain⟨x,hx,x4⟩:∃ x:Nat,c0/40%4=(x:Int)/\x<4:=⟨(c0/40%4).toNat,by omega,by omega⟩
   rw[hx];rcases(by omega:x=0∨x=1∨x=2∨x=3)with e | e | e | e<;>rw[e]
   ·exact⟨_,rfl,.inl rfl⟩
   ·exact⟨_,rfl,.inr ⟨k,hk31,rfl⟩⟩
   ·exact⟨_,rfl,.inr ⟨y,y31,rfl⟩⟩
   ·exact⟨_,rfl,.inr ⟨10^31-1,by decide,rfl⟩⟩
  have sq:=aj hq (.lst [V.str (Str.ofString ""),V.str (tx k),V.str (Str.ofString (toString (c0%(((ys'.length:Nat):Int)+2)))),V.str (Str.ofString (toString ((10:Int)^(31:Int).toNat-1)))]);refine⟨_,rfl,_,_,rfl,rfl,⟨by decide,by decide⟩,_,_,rfl,rfl,(by show(0:Int)<4;decide),q,_,_,V.str mo,rfl,rfl,SqL.of ae,hmo,?_⟩
  have s06:=s05.trans sq;have gp6:=sq _ _ gp;have hrr6:=sq _ _ hrr5;change kE 7 _ _ (upd H5 q (.lst [V.str (Str.ofString ""),V.str (tx k),V.str (Str.ofString (toString (c0%(((ys'.length:Nat):Int)+2)))),V.str (Str.ofString (toString ((10:Int)^(31:Int).toNat-1)))])) _;generalize upd H5 q (.lst [V.str (Str.ofString ""),V.str (tx k),V.str (Str.ofString (toString (c0%(((ys'.length:Nat):Int)+2)))),V.str (Str.ofString (toString ((10:Int)^(31:Int).toNat-1)))])=H6 at sq s06 gp6 hrr6;have l64:l.length<=70:=(eM (N:=70) w' (by omega) hl).2
  have endT:∀{l':List Nat}{H7:Hp},Same H H7->l'.length<=90->l'.length≠l.length->(∀ n∈l',n<10^31)->∀ t,(upd H7 r (.lst ((((aB m td ts').map bare).set (1+td.length+i) (bare (abRW i l'))).map V.str))) t=none->Q (.ref t) (upd (upd H7 r (.lst ((((aB m td ts').map bare).set (1+td.length+i) (bare (abRW i l'))).map V.str))) t (.tup [.ref r,iV 2])):=fun{l' H7} q1 q2 q3 q4 t ht=>by
   refine fin (m':=m) (td2:=td) (ts2:=ts'.set i l') (a8 q1 hrn _) (by rw[ae,An]) (wf.setTs i ⟨q2,q4⟩) (by omega) (.bad (by rw[eT];exact w'.ends) ?_ rfl) t ht
   rw[eT];refine sO w' (i:=i) (l:=cI l') (r:=l) ?_ hl ?_
   ·rw[BJ,CG (by omega)]
    rfl
   ·unfold cI;rw[BC];exact q3
  refine⟨_,rfl,rfl,_,rfl,ite2 (fun cm=>?_) (fun cm=>?_)⟩
  ·have wl:((abRW i l).map V.str).length=l.length+2:=by rw[BC,al]
   refine⟨_,rfl,.inl ⟨rfl,_,SqL.of gp6⟩,p,_,_,rfl,rfl,gp6,BA (by rw[wl];omega),?_⟩
   have es:((abRW i l).map V.str).dropLast=(abRW i l.dropLast).map V.str:=by
    have:(abRW i l).dropLast=abRW i l.dropLast:=by
     obtain⟨x,l0,rfl⟩:=DL lne;unfold abRW;rw[Ei];rfl
    rw[← this,Ei]
   rw[es];have ld:∀ n∈l.dropLast,n<10^31:=fun n hn=>l31' n ((List.dropLast_sublist l).subset hn);have lp:0<l.length:=List.length_pos_iff.mpr lne;have ll:l.dropLast.length=l.length-1:=DR;exact⟨r,p,_,_,_,_,_,1+td.length+i,_,abRW i l.dropLast,rfl,(by rw[ar (Ne.symm pr')];exact hrr6),ae,by rw[rl'];omega,(by unfold abRW;rw[BK,BK,BC];omega),w40 ld,endT (a8 s06 hpn _) (by omega) (by omega) ld⟩
  ·obtain⟨n,n31,rfl⟩:=okm.resolve_left fun z=>cm (decide_eq_true (by rw[z]))
   have wl:((abRW i l).map V.str).length=l.length+2:=by rw[BC,al]
   obtain⟨j,hj,jl⟩:∃ j:Nat,c0/160%(((((abRW i l).map V.str).length:Nat):Int)-1)=(j:Int)/\j<=l.length:=by
    have h1:=Df (c0/160) (show((((abRW i l).map V.str).length:Nat):Int)-1≠0 by rw[wl];omega)
    have h2:=CU (c0/160) (show(0:Int)<((((abRW i l).map V.str).length:Nat):Int)-1 by rw[wl];omega)
    exact⟨(c0/160%(((((abRW i l).map V.str).length:Nat):Int)-1)).toNat,by omega,by omega⟩
   have ek:(2:Int)+c0/160%(((((abRW i l).map V.str).length:Nat):Int)-1)=((2+j:Nat):Int):=by rw[hj];omega
   refine⟨_,rfl,.inl ⟨rfl,_,SqL.of gp6⟩,_,rfl,_,_,rfl,rfl,⟨by decide,by decide⟩,_,rfl,p,_,rfl,.inl (SqL.of gp6),_,_,rfl,rfl,_,_,rfl,rfl,(by show(0:Int)<((((abRW i l).map V.str).length:Nat):Int)-1;rw[wl];omega),_,_,rfl,rfl,_,rfl,p,_,((2+j:Nat):Int),_,rfl,(by show[V.int (2+c0/160%(((((abRW i l).map V.str).length:Nat):Int)-1)),_]=_;rw[ek]),gp6,EG _,(by rw[wl];omega),aC (by rw[wl];omega),?_⟩
   have es:((abRW i l).map V.str).take ((2+j:Nat):Int).toNat++V.str (tx n)::((abRW i l).map V.str).drop ((2+j:Nat):Int).toNat=(abRW i (l.take j++n::l.drop j)).map V.str:=by
    rw[Cg,← Eh,← Ej,Nat.add_comm 2 j];unfold abRW;rw[List.take_succ_cons,List.take_succ_cons,List.drop_succ_cons,List.drop_succ_cons];simp only[BW,Cn,Dg,Eh,Ej]
   rw[es];have ld:∀ x∈l.take j++n::l.drop j,x<10^31:=fun x hx=>by
    rcases BN.mp hx with hx | hx
    ·exact l31' x (CM hx)
    rcases BG.mp hx with rfl | hx
    ·exact n31
    ·exact l31' x (CV hx)
   have ll:(l.take j++n::l.drop j).length=l.length+1:=by
    rw[BE,BK,BV,Cq];omega
   exact⟨r,p,_,_,_,_,_,1+td.length+i,_,abRW i (l.take j++n::l.drop j),rfl,(by rw[ar (Ne.symm pr')];exact hrr6),ae,by rw[rl'];omega,(by unfold abRW;rw[BK,BK,BC];omega),w40 ld,endT (a8 s06 hpn _) (by omega) (by omega) ld⟩
 refine⟨_,rfl,rfl,_,rfl,ite2 (fun c=>?_) (fun c4=>?_)⟩
 ·refine⟨_,rfl,t',_,1,_,rfl,rfl,SqT.of ht4,at31,pt',xs',rfl,.inl (SqL.of hpt4),_,_,rfl,rfl,_,rfl,a7 (n:=xs'.length+1) (by omega),_,_,rfl,rfl,?_,?_⟩
  ·rw[show(Str.ofString "places ").length=7 by decide]
   have:=bY (k:=1) (n:=xs'.length+1) (by omega)
   show 7+(tx (xs'.length+1)).length<=_;omega
  refine⟨_,rfl,r,_,0,0,rfl,rfl,hrr,cq (j:=0) (by rw[rl];omega),?_⟩
  have e0:(((aB m td ts').map bare).map V.str).set 0 (V.str (Str.ofString "places "++Str.ofString (toString (((xs'.length+1:Nat)):Int))))=(((aB m td ts').map bare).set 0 (bare [plW,tx (m+1)])).map V.str:=by
   rw[DO,xm,show Str.ofString "places " = plW++spS by decide]
   rfl
  change tSeq _ _ _ _ (upd H4 r (.lst ((((aB m td ts').map bare).map V.str).set 0 (V.str (Str.ofString "places "++Str.ofString (toString (((xs'.length+1:Nat)):Int)))))));rw[e0];have s05:=a8 s04 hrn (.lst ((((aB m td ts').map bare).set 0 (bare [plW,tx (m+1)])).map V.str));have gr5:(upd H4 r (.lst ((((aB m td ts').map bare).set 0 (bare [plW,tx (m+1)])).map V.str))) r=some (.lst ((((aB m td ts').map bare).set 0 (bare [plW,tx (m+1)])).map V.str)):=ae;have ht5:(upd H4 r (.lst ((((aB m td ts').map bare).set 0 (bare [plW,tx (m+1)])).map V.str))) t'=some (.tup [.ref pe',.ref pt',.ref pr']):=by rw[ar (fun z=>by rw[z,hrr]at ht4;cases ht4)];exact ht4
  have nrp:pt'≠r:=fun z=>by have:=s3 _ _ hpt';rw[z,hr0]at this;cases this
  have hpt5:(upd H4 r (.lst ((((aB m td ts').map bare).set 0 (bare [plW,tx (m+1)])).map V.str))) pt'=some (.lst xs'):=by rw[ar nrp];exact hpt4
  generalize upd H4 r (.lst ((((aB m td ts').map bare).set 0 (bare [plW,tx (m+1)])).map V.str))=H5 at s05 gr5 ht5 hpt5;refine⟨_,rfl,.inl ⟨rfl,_,SqL.of gr5⟩,_,rfl,t',_,1,_,rfl,rfl,SqT.of ht5,at31,pt',xs',rfl,.inl (SqL.of hpt5),_,rfl,a7 (n:=xs'.length) (by omega),_,_,rfl,rfl,?_,r,_,_,rfl,rfl,gr5,aC (by rw[BC,BZ,rl'];omega),?_⟩
  ·rw[show(Str.ofString "about ").length=6 by decide]
   have:=bY (k:=1) (n:=xs'.length) (by omega)
   show 6+(tx xs'.length).length<=_;omega
  refine⟨_,rfl,two,fin (a8 s05 hrn _) ?_ (wf.room (by omega)) (by omega) (.parted (by rw[eT];exact u6 w') (by rw[eT];exact pC w' (by omega)) rfl)⟩
  rw[ae,← u4 tl',Cn];refine congrArg (fun z=>some (HO.lst ((((aB m td ts').map bare).set 0 (bare [plW,tx (m+1)])).map V.str++[V.str z]))) ?_;rw[xm,show Str.ofString "about " = abW++spS by decide]
  rfl
 refine⟨_,rfl,two,fin s04 hrr wf (by omega) (.web _ (by rw[eT];exact g') (by rw[eT];exact part') ?_)⟩
 rw[if_pos];rw[BC];omega
end
open K8 hiding Txt
theorem yk{X:Cx}{K:BD}(h:X.K=K):MtM X "str.join" (rJoin K):=h▸hV
structure TxtL(mg:Str->Option Value)(FE:Addr):Prop extends Txt mg where
 g_FloorError:mg "FloorError" = some (.ref FE)
noncomputable def lK(K:BD):Sp:=fun vs H Q _=>∃(a:Addr)(ns:List Int),vs = [.ref a]/\SqL K H a (ns.map V.int)/\ns.length<=63/\∀ H',Q (.bl true) H'
theorem r8{bs:List Str}(h:∀ b∈bs,Prn b){fl:Bool}:CC (Str.join nlS bs++(if fl=true then nlS else Str.empty)) nlS=(seen bs fl).1++[(seen bs fl).2]:=by
 by_cases h0:fl=false/\bs = []
 ·obtain⟨rfl,rfl⟩:=h0;rw[if_neg (by decide),Str.append_empty]
  exact bX (c:=10) (ws:=[Str.empty]) (CL _ _) fun w hw=>by
   rw[BR.mp hw];intro z
   cases z
 ·exact uw h fun z y=>h0 ⟨z,y⟩
inductive Vd(bs:List Str)(fl:Bool)(at' d0 pl ti:Nat):Prop
 |sp (td:List Td) (ts:List (List Nat)) (wf:Wf pl td ts) (t80:td.length<=80) (tl:td.length=ti) (src:SrcT pl td ts d0) (h:Spo pl td ts bs fl at')
 |many (n:Nat) (h80:80<n) (h82:n<=82) (hb:bs=(aB 2 (cA n) (jf n)).map bare) (f:fl=true) (a:at'=82)
structure OkB(bs:List Str):Prop where
 ok:∀ b∈bs,Prn b/\b.length<=4000
 few:bs.length<=130
theorem zF{n:Nat}(h1:1<=n)(h2:n<=82):Wf 2 (cA n) (jf n):=by
 refine⟨by decide,by decide,rfl,by unfold cA;rw[BC,CS];exact h1,by unfold cA;rw[BC,CS];exact h2,fun d hd=>?_,fun l hl=>?_⟩
 ·obtain⟨k,hk,rfl⟩:=B9.mp hd;have:=Dt.mp hk;exact⟨.inr rfl,(by show 1<10^31;decide),(by show 0<10^31;decide),Co (show k<=82 by omega) (by decide)⟩
 ·have:l=Cz n∨l=(Cz n).map fun k=>n-1-k:=by simpa[jf] using hl
  rcases this with rfl | rfl
  ·refine⟨by rw[CS];omega,fun k hk=>Dw (show k<90 by have:=Dt.mp hk;omega) (by decide)⟩
  ·refine⟨by rw[BC,CS];omega,fun k hk=>?_⟩
   obtain⟨x,_,rfl⟩:=B9.mp hk;exact Dw (show n-1-x<90 by omega) (by decide)
theorem mH(n:Nat):(cA n).length=n:=by unfold cA;rw[BC,CS]
theorem xP{WC BX BT BU BP NF:Addr}{H:Hp}{Q:V->Hp->Prop}{E:Value->Option Addr->Hp->Prop}{bs:List Str}{fl:Bool}{at' d0 pl ti:Nat}(vd:Vd bs fl at' d0 pl ti)(bad:0<at'->Bad BX E H ((at':Nat):Int))(e1:at'=0->d0=1->∀ H',Same H H'->E (.ref BT) none H')(e2:at'=0->d0=2->∀ H',Same H H'->E (.ref BU) none H')(e3:at'=0->d0=3->∀ H',Same H H'->E (.ref BP) none H')(e4:at'=0->d0=4->∀ H',Same H H'->E (.ref NF) none H')
  (w:at'=0->d0=0->∀(p dx:Addr)(fs:List (Str×V))(qq:Addr)(z:List V)(H':Hp),Same H H'->H' p=some (.ins WC dx fs)->fs.lookup ("many" : Str)=some (iV pl)->fs.lookup ("ties" : Str)=some (.ref qq)->H' qq=some (.lst z)->z.length=ti->Q (.ref p) H'):RdX WC BX BT BU BP NF H (seen bs fl).1 (seen bs fl).2 Q E:=by
 cases vd with
 |many n h80 h82 hb f a =>
  subst hb f a;have e:=dM (bs:=(aB 2 (cA n) (jf n)).map bare) (by unfold aB;exact CL _ _)
  rw[e];exact xQ (zF (by omega) h82) (by rw[mH];exact h80) (fun i _=>rfl) (bad (by decide))
 |sp td ts wf t80 tl src h =>
  have el:(esT td).length=td.length:=BC _
  cases h with
  |same hb f =>
   subst hb f;have e:=dM (bs:=(aB pl td ts).map bare) (by unfold aB;exact CL _ _)
   rw[e];have okE:∀ d∈td,(d.2.1,d.2.2.1)∈esT td:=fun d hd=>B9.mpr ⟨d,hd,rfl⟩;refine u9 wf t80 (fun i _=>rfl) (.web (by rw[BC,bO,wf.tl];exact BI _) rfl (fun⟨d,hd,eq⟩=>?_) fun nd x dx H1 s1 hx hn=>?_)
   ·cases src with
    |ends h d=>exact e1 rfl d
    |bad lt n d=>exact absurd eq (lt _ (okE _ hd)).2.2
    |parted w' p d=>exact absurd eq (w'.ends _ (okE _ hd)).2.2
    |web rg g pt d=>exact absurd eq (g.w.ends _ (okE _ hd)).2.2
   ·cases src with
    |ends h d =>
     refine .ends (h.resolve_left fun⟨y,hy,eq⟩=>nd y hy eq) fun H' s'=>e1 rfl d H' (s1.trans s')
    |bad lt n d=>exact .turns (fun e he=>⟨(lt e he).1,(lt e he).2.1⟩) n fun H' s'=>e2 rfl d H' (s1.trans s')
    |parted w' p d=>exact .parted ts rfl w' p fun H' s'=>e3 rfl d H' (s1.trans s')
    |web rg g pt d =>
     refine .web ts rg rfl g pt (fun nf H' s'=>e4 rfl (by rw[d,if_neg (by rw[← el];exact nf)]) H' (s1.trans s')) fun cn fs qq z H' hp lm lt hq zl kp=>?_
     exact w rfl (by rw[d,if_pos (by rw[← el];exact cn)]) x dx fs qq z H' (fun b o y=>kp b o (s1 _ _ y) fun e=>by rw[e,hn]at y;cases y) hp lm lt hq (by rw[zl,el,tl])
  |bad N hN pre b=>exact Ao wf t80 hN pre b (bad (Nat.succ_pos N))
  |more pre h=>exact u9 wf t80 pre (.more h (bad (Nat.succ_pos _)))
theorem xh(a:Str)(r:List Str):∃ t,(bare (a::r)).cps.toList=a.cps.toList++t:=by
 cases r with
 |nil=>exact⟨[],(Dl _).symm⟩
 |cons b r =>
  refine⟨32::(Str.join spS (b::r)).cps.toList,?_⟩;show(a++spS++Str.join spS (b::r)).cps.toList=_;rw[ck,ck,Ca];rfl
theorem xN{m:Nat}{td:List Td}{ts:List (List Nat)}(wf:Wf m td ts){i:Nat}{b:Str}(h:((aB m td ts).map bare)[i]?=some b):∃ t,b.cps.toList=(if i<=td.length then 112 else 97)::t:=by
 have tl:=wf.tl;have lt:=(BB.mp h).1;rw[BC,bO,tl]at lt;have go:∀{a:Str}{r:List Str}{x:Nat}{u:List Nat},b=bare (a::r)->a.cps.toList=x::u->∃ t,b.cps.toList=x::t:=fun{a r x u} e1 e2=>by
  obtain⟨t,ht⟩:=xh a r;exact⟨u++t,by rw[e1,ht,e2];rfl⟩
 by_cases i0:i=0
 ·subst i0;rw[if_pos (C4 _)];refine go (a:=plW) (r:=[tx m]) (u:=[108,97,99,101,115]) ?_ (by decide)
  have h:some (bare [plW,tx m])=some b:=h
  cases h
  rfl
 by_cases it:i<=td.length
 ·rw[if_pos it];obtain⟨j,rfl⟩:∃ j,i=j+1:=⟨i-1,by omega⟩
  obtain⟨d,hd⟩:∃ d,td[j]?=some d:=⟨_,BA (by omega)⟩
  rw[BJ,iy hd]at h
  cases h
  rcases(wf.kd d (BF hd)).1 with e | e
  ·exact go (a:=cP) (u:=[117,108,108]) (by unfold bN;rw[e]) (by decide)
  ·exact go (a:=bZ) (u:=[117,115,104]) (by unfold bN;rw[e]) (by decide)
 ·rw[if_neg it];obtain⟨j,rfl⟩:∃ j,i=1+td.length+j:=⟨i-1-td.length,by omega⟩
  obtain⟨l,hl⟩:∃ l,ts[j]?=some l:=⟨_,BA (by omega)⟩
  rw[BJ,gk hl]at h
  cases h
  exact go (a:=abW) (u:=[98,111,117,116]) rfl (by decide)
noncomputable def rLM:TS:=fun D σ H=>∃(r q:Addr)(c:Int)(v0 v2:Option V)(bs:List Str)(fl:Bool)(at' d0 pl ti R:Nat),σ = [v0,some (.int c),v2,some (.ref r),some (iV d0),some (iV ti),some (iV pl),some (iV R),some (.ref q),none,none,none,none]/\H r=some (.lst (bs.map V.str))/\H q=some (.tup [iV at',.bl fl])/\Vd bs fl at' d0 pl ti/\OkB bs/\∀ H',D.rt (.bl true) H'
noncomputable def rLN:TS:=fun D σ H=>∃(r q:Addr)(v0 v1 v2 v7 v9:Option V)(bs:List Str)(fl:Bool)(at' d0 pl ti:Nat),σ = [v0,v1,v2,some (.ref r),some (iV d0),some (iV ti),some (iV pl),v7,some (.ref q),v9,none,none,none]/\H r=some (.lst (bs.map V.str))/\H q=some (.tup [iV at',.bl fl])/\Vd bs fl at' d0 pl ti/\OkB bs/\∀ H',D.rt (.bl true) H'
noncomputable def rLF:TS:=fun D σ H=>∃(r q:Addr)(v0 v1 v2 v7 v9:Option V)(bs:List Str)(fl:Bool)(at' d0 du pl ti:Nat),σ = [v0,v1,v2,some (.ref r),some (iV du),some (iV ti),some (iV pl),v7,some (.ref q),v9,none,none,none]/\H r=some (.lst (bs.map V.str))/\H q=some (.tup [iV at',.bl fl])/\Vd bs fl at' d0 pl ti/\OkB bs/\(du=if 0<at' then 5 else d0)/\∀ H',D.rt (.bl true) H'
noncomputable def rLC(K:BD)(FE BT BU BP NF BX fI WC:Addr):TS:=fun D σ H=>∃(q:Addr)(v0 v1 v2 v3 v7 v9 fo we v12:Option V)(fl:Bool)(at' du pl ti:Nat),σ = [v0,v1,v2,v3,some (iV du),some (iV ti),some (iV pl),v7,some (.ref q),v9,fo,we,v12]/\H q=some (.tup [iV at',.bl fl]) /\
 ((∃ x c dx,fo=some (.ref x)/\H x=some (excD x c dx)/\KdF K c FE BT BU BP NF BX du/\0<du/\du<=5/\(du=5->c=BX/\ErS K BX fI "at"/\∃ d,dx=some d/\H d=some (.xd [("at",iV at')]))) ∨
  (fo=some .non/\du=0/\∃ p dx fs qq z,we=some (.ref p)/\H p=some (.ins WC dx fs)/\fs.lookup ("many" : Str)=some (iV pl)/\fs.lookup ("ties" : Str)=some (.ref qq)/\H qq=some (.lst z)/\z.length=ti))/\∀ H',D.rt (.bl true) H'
section
variable{P:Program}{w:World}{K:BD}{mg:Str->Option Value}{base:Heap}
theorem b9:aJ ["script","cell","based","rows","due","ties","places","rest","spoiled","made_v","found","web","e"] ["script"] (ay lS):=by ac_nf
theorem ok_law{f f1 f2 f3 f4 f5 f6 BT BU BP NF FE BX fI WC:Addr}{fd d1 d2 d3 d4 d5 d6:FuncData} (F:Fun K "law" "law" lS f fd) (T:TxtL mg FE) (ecF:ExC K FE) (uT:Dc K BT (.ref FE)=some true) (uU:Dc K BU (.ref FE)=some true) (uP:Dc K BP (.ref FE)=some true) (uN:Dc K NF (.ref FE)=some true) (uX:Dc K BX (.ref FE)=some true) (kT:KdF K BT FE BT BU BP NF BX 1) (kU:KdF K BU FE BT BU BP NF BX 2) (kP:KdF K BP FE BT BU BP NF BX 3) (kN:KdF K NF FE BT BU BP NF BX 4) (kX:KdF K BX FE BT BU BP NF BX 5) (eX:ErS K BX fI "at") (cw:CW K WC) (G_law_cell:Cal P w K mg base 1 "_law_cell" ["script","k"] (qX K) f1 d1) (G_law_base:Cal P w K mg base 4 "_law_base" ["script","way"] (ze K) f2 d2) (G_law_spoiled:Cal P w K mg base 4 "_law_spoiled" ["rows","ties","way","rest"] (nA K) f3 d3) (G_law_many:Cal P w K mg base 1 "_law_many" ["rest"] y6 f4 d4) (G_law_refused:Cal P w K mg base 1 "_law_refused" ["error","due","at"] (yY K FE BT BU BP NF BX fI) f5 d5) (G_read:CalD P w K mg base 7 "read" ["text"] (yZ WC BX BT BU BP NF) f6 d6):FnOk P w K mg base CX0 8 f fd ["script"] (lK K):=by
 have hCs:∀ x,(x=BT∨x=BU∨x=BP∨x=NF∨x=BX)->Dc K x (.ref FE)=some true:=fun x e=>by
  rcases e with e | e | e | e | e<;>subst e<;>assumption
 refine F.ok b9 (fun vs H Q E h=>?_) (fun cdv A outer s H vs Q E hr h=>?_)
 ·obtain⟨a,ns,rfl,_⟩:=h;rfl
 obtain⟨a,ns,rfl,hS,h63,kq⟩:=h;have hu64:=hr.units
 refine⟨_,(af (av (i:=1) b9.nd rfl (Or.inl rfl) (aI G_law_cell.ok (hr.mono (by decide)) rfl G_law_cell.mg G_law_cell.kp G_law_cell.bn .nil bA (aa (pv 0) (aa ai ag))))
   (af (av (i:=2) b9.nd rfl (Or.inl rfl) (aI G_law_base.ok (hr.mono (by decide)) rfl G_law_base.mg G_law_base.kp G_law_base.bn .nil bA (aa (pv 0) (aa (aq aT (pv 1) ai) ag))))
   (af (av (i:=3) b9.nd rfl (Or.inl rfl) (aL br (pv 2) ai (fun _ _=>rfl)))
   (af (av (i:=4) b9.nd rfl (Or.inl rfl) (aL br (pv 2) ai (fun _ _=>rfl)))
   (af (av (i:=5) b9.nd rfl (Or.inl rfl) (aq cM (au ao (by rfl) T.n_len aN (aa (cG rfl rfl rfl rfl (fr:=[]) (xs:=["row"]) (dA.of (by rfl) (by decide) (by rfl) (by decide) (fun p hp=>nomatch hp) (by decide) (fun p hp=>nomatch hp)) (cp (pv 3)) (fun C ex s H=>(aQ (i:=0) (show(["row"]:List Str).Nodup from by decide) rfl (Or.inl rfl))) (fun C ex s H=>(Ar (ax bu (aL vX (pv 0) ai (fun _ _=>rfl)) aE (aA _)))) (fun C ex s H ps XE=>(pv 0))) ag)) ai))
   (af (av (i:=6) b9.nd rfl (Or.inl rfl) (aq cM (aq cM (au ao (by rfl) T.n_len aN (aa (pv 3) ag)) ai) (pv 5)))
   (af (av (i:=7) b9.nd rfl (Or.inl rfl) (aq aT (aq cN (aq aT (aI G_law_cell.ok (hr.mono (by decide)) rfl G_law_cell.mg G_law_cell.kp G_law_cell.bn .nil bA (aa (pv 0) (aa ai ag))) ai) ai) ai))
   (af (av (i:=8) b9.nd rfl (Or.inl rfl) (aI G_law_spoiled.ok (hr.mono (by decide)) rfl G_law_spoiled.mg G_law_spoiled.kp G_law_spoiled.bn .nil bA (aa (pv 3) (aa (pv 5) (aa (aq aT (aq a9 (pv 1) ai) ai) (aa (pv 7) ag))))))
   (fq (t2:=rLM) (af (bf (ax bu (aq aT (aq a9 (pv 1) ai) ai) ai (aA _)) (af (av (i:=9) b9.nd rfl (Or.inl rfl) (aI G_law_many.ok (hr.mono (by decide)) rfl G_law_many.mg G_law_many.kp G_law_many.bn .nil bA (aa (pv 7) ag)))
   (af (av (i:=3) b9.nd rfl (Or.inl rfl) (aL br (pv 9) ai (fun _ _=>rfl)))
   (af (av (i:=6) b9.nd rfl (Or.inl rfl) ai)
   (af (av (i:=5) b9.nd rfl (Or.inl rfl) (aL br (pv 9) ai (fun _ _=>rfl)))
   (af (av (i:=4) b9.nd rfl (Or.inl rfl) ai)
   (ak (av (i:=8) b9.nd rfl (Or.inl rfl) (bG (aa (aq cN ai (aK oH (by rfl) T.n_int oJ (aa (cR nR (pv 5) ai (aA _)) ag))) (aa i9 ag)))))))))) aF)
   (fq (t2:=rLN) (af (bf (ax nR (aL br (pv 8) ai (fun _ _=>rfl)) ai (aA _)) (ak (av (i:=4) b9.nd rfl (Or.inl rfl) ai)) aF)
   (fq (t2:=rLF) (af (av (i:=10) b9.nd rfl (Or.inl rfl) eh)
   (af (av (i:=11) b9.nd rfl (Or.inl rfl) eh)
   (af (vh (ie:=12) (Cs:=(fun c=>c=BT∨c=BU∨c=BP∨c=NF∨c=BX)) rfl rfl rfl b9.nd rfl rfl rfl T.g_FloorError ecF hCs (fun pins XE W ws=>(ak (av (i:=11) b9.nd rfl (Or.inl rfl) (vv G_read.ok (hr.mono (by decide)) rfl G_read.mg G_read.kp G_read.bn .nil ws rfl (aa (aq ba (pe_bmK (K:=K) rfl CB Dr DA (yk (K:=K) rfl) aE (aa (pv 3) ag)) (aL (mD (K:=K) rfl) (bh (aa aE (aa aE ag))) (aK oH (by rfl) T.n_int oJ (aa (aL (A0 (K:=K) rfl) (pv 8) ai (fun _ _=>rfl)) ag)) (fun _ _=>rfl))) ag))))) (fun v=>(ak (av (i:=10) b9.nd rfl (Or.inl rfl) (pv 12)))))
   (fq (t2:=rLC K FE BT BU BP NF BX fI WC) (af (bf (ax nR (pv 4) ai (aA _)) (ak (aG (aI G_law_refused.ok (hr.mono (by decide)) rfl G_law_refused.mg G_law_refused.kp G_law_refused.bn .nil bA (aa (pv 10) (aa (pv 4) (aa (aL br (pv 8) ai (fun _ _=>rfl)) ag)))))) aF)
   (ak (aG (rf (cR nP (pv 10) eh (aA _)) (rf (cR bu (gA (pv 11) rfl) (pv 6) (aA _)) (vp (cR bu (au ao (by rfl) T.n_len aN (aa (gA (pv 11) rfl) ag)) (pv 5) (aA _)))))))) (fun D0 S0 H0 h0=>?restC))))) (fun D0 S0 H0 h0=>?restF))) (fun D0 S0 H0 h0=>?restN))) (fun D0 S0 H0 h0=>?restM)))))))))),?_⟩
 case restM =>
  obtain⟨r,q,c,v0,v2,bs,fl,at',d0,pl,ti,R,rfl,hr0,hq,vd,ok,kq⟩:=h0;refine⟨_,rfl,_,_,rfl,rfl,⟨by decide,by decide⟩,_,_,rfl,rfl,(by decide:(0:Int)<16),rfl,_,rfl,ite2 (fun z=>?_) (fun z=>?_)⟩
  rotate_left
  ·exact⟨r,q,_,_,_,_,_,bs,fl,at',d0,pl,ti,rfl,hr0,hq,vd,ok,kq⟩
  refine⟨_,rfl,R,rfl,fun t q2 n H1 hn s1 _ ht hq2=>?_⟩;have n82:n<=82:=by omega
  have n79:79<=n:=by omega
  refine⟨_,rfl,t,_,0,_,rfl,rfl,SqT.of ht,at0,?_⟩;refine⟨_,rfl,t,_,1,_,rfl,rfl,SqT.of ht,at1,?_⟩;refine⟨_,rfl,_,_,rfl,rfl,.inr ⟨_,rfl,_,_,rfl,rfl,.inl ⟨by decide,by decide⟩,(by show 2<=sizeLine;decide),fun t2 ht2=>?_⟩⟩
  have wf:=zF (n:=n) (by omega) n82
  have okB:OkB ((aB 2 (cA n) (jf n)).map bare):=⟨lU wf,by rw[BC,bO,mH];show 1+n+2<=130;omega⟩
  have ea:(82:Int)*(if decide ((80:Int)<((n:Nat):Int))=true then 1 else 0)=((if 80<n then 82 else 0:Nat):Int):=by
   by_cases y:80<n
   ·rw[if_pos y,if_pos (decide_eq_true (by omega))];rfl
   ·rw[if_neg y,if_neg (fun x=>y (by have:=of_decide_eq_true x;omega))];rfl
  refine⟨q2,t2,_,_,_,_,_,(aB 2 (cA n) (jf n)).map bare,true,if 80<n then 82 else 0,0,2,n,rfl,aj ht2 _ _ _ hq2,?_,?_,okB,kq⟩
  ·rw[ae];exact congrArg (fun x=>some (HO.tup [V.int x,.bl true])) ea
  ·by_cases y:80<n
   ·rw[if_pos y];exact .many n y n82 rfl rfl rfl
   ·rw[if_neg y];exact .sp (cA n) (jf n) wf (by rw[mH];omega) (mH n) (Bd (by omega)) (.same rfl rfl)
 case restN =>
  obtain⟨r,q,v0,v1,v2,v7,v9,bs,fl,at',d0,pl,ti,rfl,hr0,hq,vd,ok,kq⟩:=h0;refine⟨_,rfl,q,_,0,_,rfl,rfl,SqT.of hq,at0,_,_,rfl,rfl,_,rfl,ite2 (fun z=>?_) (fun z=>?_)⟩
  ·have z':(0:Int)<((at':Nat):Int):=of_decide_eq_true z
   exact⟨r,q,_,_,_,_,_,bs,fl,at',d0,5,pl,ti,rfl,hr0,hq,vd,ok,(by rw[if_pos (by omega)]),kq⟩
  ·have z':¬ (0:Int)<((at':Nat):Int):=fun y=>z (decide_eq_true y)
   exact⟨r,q,_,_,_,_,_,bs,fl,at',d0,d0,pl,ti,rfl,hr0,hq,vd,ok,(by rw[if_neg (by omega)]),kq⟩
 case restF =>
  obtain⟨r,q,v0,v1,v2,v7,v9,bs,fl,at',d0,du,pl,ti,rfl,hr0,hq,vd,ok,ed,kq⟩:=h0;rw[nl_eq,tK];have sl:=eZ fun b hb=>(ok.ok b hb).2;have sc:bs.length*4000<=130*4000:=Eo _ ok.few;have hpn:∀ b∈bs,Prn b:=fun b hb=>(ok.ok b hb).1;refine⟨rfl,_,rfl,nlS,r,bs,rfl,rfl,SqL.of hr0,?_,?_⟩
  ·show _+bs.length*1<=1000000;have:=ok.few;omega
  refine⟨(by show 2<=sizeLine;decide),fun l hl=>?_⟩
  have sl':=aj hl (.lst [V.str Str.empty,V.str nlS]);have tlen:=xF (fl:=fl) (fun b hb=>(ok.ok b hb).2) ok.few;refine⟨_,rfl,q,_,1,_,rfl,rfl,SqT.of (sl' _ _ hq),at1,.inr ⟨fl,rfl,l,_,_,V.str (if fl=true then nlS else Str.empty),rfl,rfl,SqL.of ae,?_,_,_,rfl,rfl,?_,?_⟩⟩
  ·cases fl<;>rfl
  ·rw[Str.length_append]at tlen;have:(600000:Nat)<=sizeLine:=by decide
   omega
  refine⟨_,(seen bs fl).1,(seen bs fl).2,rfl,tlen,r8 hpn,Ak ok.ok fl,?_⟩;have hq1:=sl' _ _ hq;generalize upd H0 l (.lst [V.str Str.empty,V.str nlS])=H1 at sl' hq1;refine xP vd (fun z d H2 s2 hd=>?_) (fun z0 z1 H2 s2=>?_) (fun z0 z1 H2 s2=>?_) (fun z0 z1 H2 s2=>?_) (fun z0 z1 H2 s2=>?_) (fun z0 z1 p dx fs qq z H2 s2 hp lm lt hqq zl=>?_)
  ·rw[if_pos z]at ed;subst ed;refine⟨BX,rfl,.inr (.inr (.inr (.inr rfl))),fun x hx=>⟨_,rfl,?_⟩⟩;have sx:=aj hx (excD x BX (some d));exact⟨q,_,_,_,_,_,_,_,_,_,fl,at',5,pl,ti,rfl,sx _ _ (s2 _ _ hq1),.inl ⟨x,BX,some d,rfl,ae,kX,by decide,BI _,fun _=>⟨rfl,eX,d,rfl,sx _ _ hd⟩⟩,kq⟩
  ·rw[if_neg (by omega),z1]at ed
   subst ed;refine⟨BT,rfl,.inl rfl,fun x hx=>⟨_,rfl,?_⟩⟩;have sx:=aj hx (excD x BT none);exact⟨q,_,_,_,_,_,_,_,_,_,fl,at',1,pl,ti,rfl,sx _ _ (s2 _ _ hq1),.inl ⟨x,BT,none,rfl,ae,kT,by decide,by decide,fun y=>by cases y⟩,kq⟩
  ·rw[if_neg (by omega),z1]at ed
   subst ed;refine⟨BU,rfl,.inr (.inl rfl),fun x hx=>⟨_,rfl,?_⟩⟩;have sx:=aj hx (excD x BU none);exact⟨q,_,_,_,_,_,_,_,_,_,fl,at',2,pl,ti,rfl,sx _ _ (s2 _ _ hq1),.inl ⟨x,BU,none,rfl,ae,kU,by decide,by decide,fun y=>by cases y⟩,kq⟩
  ·rw[if_neg (by omega),z1]at ed
   subst ed;refine⟨BP,rfl,.inr (.inr (.inl rfl)),fun x hx=>⟨_,rfl,?_⟩⟩;have sx:=aj hx (excD x BP none);exact⟨q,_,_,_,_,_,_,_,_,_,fl,at',3,pl,ti,rfl,sx _ _ (s2 _ _ hq1),.inl ⟨x,BP,none,rfl,ae,kP,by decide,by decide,fun y=>by cases y⟩,kq⟩
  ·rw[if_neg (by omega),z1]at ed
   subst ed;refine⟨NF,rfl,.inr (.inr (.inr (.inl rfl))),fun x hx=>⟨_,rfl,?_⟩⟩;have sx:=aj hx (excD x NF none);exact⟨q,_,_,_,_,_,_,_,_,_,fl,at',4,pl,ti,rfl,sx _ _ (s2 _ _ hq1),.inl ⟨x,NF,none,rfl,ae,kN,by decide,by decide,fun y=>by cases y⟩,kq⟩
  ·rw[if_neg (by omega),z1]at ed
   subst ed;exact⟨q,_,_,_,_,_,_,_,_,_,fl,at',0,pl,ti,rfl,s2 _ _ hq1,.inr ⟨rfl,rfl,p,dx,fs,qq,z,rfl,hp,lm,lt,hqq,zl⟩,kq⟩
 case restC =>
  obtain⟨q,v0,v1,v2,v3,v7,v9,fo,we,v12,fl,at',du,pl,ti,rfl,hq,cs,kq⟩:=h0;refine⟨_,rfl,_,_,rfl,rfl,_,rfl,ite2 (fun z=>?_) (fun z=>?_)⟩
  ·rcases cs with⟨x,c,dx,rfl,hx,kd,d0,d5,hat⟩ | ⟨_,d0,_⟩
   ·exact⟨_,rfl,_,rfl,_,rfl,q,_,0,_,rfl,rfl,SqT.of hq,at0,x,c,dx,du,at',rfl,hx,kd,d5,d0,hat,fun H'=>kq H'⟩
   ·have:=of_decide_eq_true z
    omega
  ·rcases cs with⟨x,c,dx,rfl,hx,kd,d0,d5,hat⟩ | ⟨rfl,d0,p,dx,fs,qq,z',rfl,hp,lm,lt,hqq,zl⟩
   ·exact absurd (decide_eq_true (by omega)) z
   ·refine⟨_,rfl,rfl,_,rfl,ite2 (fun _=>?_) (fun z=>absurd (decide_eq_true rfl) z)⟩;refine⟨_,rfl,p,WC,dx,fs,_,rfl,hp,cw.cl,cw.n1,lm,_,rfl,rfl,_,rfl,ite2 (fun _=>?_) (fun z=>absurd (decide_eq_true rfl) z)⟩;refine⟨_,rfl,p,WC,dx,fs,_,rfl,hp,cw.cl,cw.n2,lt,qq,z',rfl,.inl (SqL.of hqq),_,rfl,rfl,?_⟩;rw[zl];show D0.rt (V.bl (decide (V.int ((ti:Nat):Int)=V.int ((ti:Nat):Int)))) _;rw[decide_eq_true rfl];exact kq _
 refine⟨_,rfl,a,0,ns,rfl,hS,?_⟩;generalize lr ns 0=c;obtain⟨wy,hwy⟩:∃ wy:Nat,c%9=(wy:Int):=⟨(c%9).toNat,by omega⟩
 refine⟨_,rfl,_,rfl,_,_,rfl,rfl,(by decide:(0:Int)<9),a,ns,wy,(by show[V.ref a,V.int (c%9)]=_;rw[hwy];rfl),hS,h63,fun t r m td ts due H1 s1 ht hr1 wf t80 src=>?_⟩
 refine⟨_,rfl,t,_,0,_,rfl,rfl,SqT.of ht,at0,?_⟩;refine⟨_,rfl,t,_,1,_,rfl,rfl,SqT.of ht,at1,?_⟩;have RL:=bO (m:=m) (td:=td) (ts:=ts);have tl:=wf.tl;have m2:=wf.m2;have m40:=wf.m40;have rl':((aB m td ts).map bare).length=1+td.length+m:=by rw[BC,RL,tl]
 have rl:(((aB m td ts).map bare).map V.str).length=1+td.length+m:=by rw[BC,rl']
 have okR:=lU wf;have s64:(400000:Nat)<=sizeLine:=by decide
 refine⟨_,rfl,r,rfl,⟨_,SqL.of hr1⟩,lD (K:=K) (xs:=((aB m td ts).map bare).map V.str) (fun i zs H2=>zs.length=min i (1+td.length)/\H2=H1) (by rw[rl];omega) ⟨by rw[Nat.zero_min];rfl,rfl⟩ (fun i zs H2 _ z=>by rw[z.2];exact SqL.of hr1) ?_ ?_ (fun i zs H2 z=>by rw[z.1];exact Nat.min_le_left _ _)⟩
 ·rintro i x zs H2 hx ⟨zl,rfl⟩;rw[BJ]at hx;obtain⟨b,hb,rfl⟩:=Cu.mp hx;obtain⟨u,hu⟩:=xN wf hb;have bl:=(okR b (BF hb)).2;refine⟨rfl,_,rfl,b,0,(if i<=td.length then 112 else 97),rfl,rfl,by omega,by rw[hu];exact oR,rfl,_,rfl,ite2 (fun z=>?_) (fun z=>?_)⟩
  ·have it:i<=td.length:=by
    by_cases it:i<=td.length
    ·exact it
    ·rw[if_neg it]at z;exact absurd (V.str.inj (of_decide_eq_true z)) (by decide)
   exact⟨_,rfl,by rw[BE,BM,zl];omega,rfl⟩
  ·have it:¬ i<=td.length:=fun it=>by
    rw[if_pos it]at z;exact z (decide_eq_true (congrArg V.str (by decide)))
   exact⟨by rw[zl];omega,rfl⟩
 rintro zs H2 ⟨zl,rfl⟩ D hD;rw[rl]at zl;have zl:zs.length=td.length+1:=by omega
 have sD:=aj hD (.lst zs);refine⟨D,zs,rfl,.inl (SqL.of ae),_,_,rfl,rfl,?_⟩;change kE 5 (V.int (((zs.length:Nat):Int)-1)) _ _ _;rw[zl,show(((td.length+1:Nat):Int)-1)=((td.length:Nat):Int) by omega]
 refine⟨_,rfl,r,_,rfl,.inl (SqL.of (sD _ _ hr1)),_,_,rfl,rfl,_,rfl,_,_,rfl,rfl,?_⟩;change kE 6 (V.int ((((((aB m td ts).map bare).map V.str).length:Nat):Int)-1-((td.length:Nat):Int))) _ _ _;rw[rl,show(((1+td.length+m:Nat):Int)-1-((td.length:Nat):Int))=((m:Nat):Int) by omega]
 generalize hc1:lr ns 1=c1;have b1:(0:Int)<=c1%1000000007/\c1%1000000007<1000000007:=⟨Df _ (by decide),CU _ (by decide)⟩
 obtain⟨R,hR,R10⟩:∃ R:Nat,c1%1000000007*48271%2147483647=(R:Int)/\R<=10^10:=⟨(c1%1000000007*48271%2147483647).toNat,by omega,by omega⟩
 refine⟨_,rfl,a,1,ns,rfl,(s1.trans sD).seq hS,_,_,rfl,rfl,(by decide:(0:Int)<1000000007),_,_,rfl,rfl,.inr ⟨by decide,by decide⟩,_,_,rfl,rfl,(by decide:(0:Int)<2147483647),?_⟩
 rw[hc1];change kE 7 (V.int (c1%1000000007*48271%2147483647)) _ _ _;rw[hR];obtain⟨wy2,hw2,w16⟩:∃ x:Nat,c/9%16=(x:Int)/\x<16:=⟨(c/9%16).toNat,by omega,by omega⟩
 refine⟨_,rfl,_,rfl,_,rfl,_,_,rfl,rfl,⟨by decide,by decide⟩,_,_,rfl,rfl,(by decide:(0:Int)<16),_,rfl,r,m,td,ts,wy2,R,(by show[_,_,V.int (c/9%16),_]=_;rw[hw2];rfl),sD _ _ hr1,wf,t80,w16,R10,fun q bs fl at' H3 spo ok few keep hr3 hq3=>?_⟩
 exact⟨r,q,c,_,_,bs,fl,at',due,m,td.length,R,rfl,hr3,hq3,.sp td ts wf t80 rfl src spo,⟨ok,few⟩,kq⟩
end
open K8 hiding Txt
noncomputable def ercB(K:BD)(D:Addr):Bool:=B8 K (.ref D) "__getattribute__" == some (some (.builtin "BaseException.__getattribute__"))&&B8 K (.ref D) "__getattr__" == some none&&Dc K D (.type "BaseException") == some true&&Dp K D
 && B8 K (.ref D) "__class__" == some (some (.builtin "object.__class__"))&&Fz K (.builtin "object.__class__") "__get__" == some (some (.builtin "getset_descriptor.__get__"))&&FR K (.builtin "object.__class__") == some true&&Dc K D (.type "object") == some true
theorem erc_of{K:BD}{D:Addr}(h:ercB K D=true):ErC K D:=by
 unfold ercB at h;simp only[CZ,beq_iff_eq]at h;obtain⟨⟨⟨⟨⟨⟨⟨a,b⟩,c⟩,d⟩,e⟩,f⟩,g⟩,i⟩:=h;exact⟨a,b,c,d,e,f,g,i⟩
noncomputable def ersB(K:BD)(C fI:Addr):Bool:=oo K C fI&&B8 K (.ref C) "__setattr__" == some (some (.builtin "object.__setattr__"))&&B8 K (.ref C) "at" == some none&&Dp K C
theorem zG{K:BD}{C fI:Addr}(h:ersB K C fI=true):ErS K C fI "at":=by
 unfold ersB at h;simp only[CZ,beq_iff_eq]at h;obtain⟨⟨⟨a,b⟩,c⟩,d⟩:=h;exact⟨a,b,c,d⟩
noncomputable def kdB(K:BD)(c FE BT BU BP NF BX:Addr)(due:Nat):Bool:=ercB K c&&CK K (.ref c) (.ref FE) == some true&&CK K (.ref c) (.type "ValueError") == some true&&CK K (.ref c) (.ref BT) == some (decide (due=1))&&CK K (.ref c) (.ref BU) == some (decide (due=2))&&CK K (.ref c) (.ref BP) == some (decide (due=3))&&CK K (.ref c) (.ref NF) == some (decide (due=4))&&CK K (.ref c) (.ref BX) == some (decide (due=5))&&Dc K c (.ref FE) == some true
theorem k9{K:BD}{c FE BT BU BP NF BX:Addr}{due:Nat}(h:kdB K c FE BT BU BP NF BX due=true):KdF K c FE BT BU BP NF BX due/\Dc K c (.ref FE)=some true:=by
 unfold kdB at h;simp only[CZ,beq_iff_eq]at h;obtain⟨⟨⟨⟨⟨⟨⟨⟨a,b⟩,c⟩,d⟩,e⟩,f⟩,g⟩,i⟩,j⟩:=h;exact⟨⟨erc_of a,b,c,d,e,f,g,i⟩,j⟩
structure GF(K:BD)(x:Str)(st:Stmt)(f:Addr)(fd:FuncData):Prop where
 a:Cy K mainGlobals x=some (some (.ref f))
 F:Fun K x x st f fd
structure Wr(P:Program)(w:World)(K:BD)(mg:Str->Option Value)(base:Heap):Prop where
 g:∀{x:Str}{v:Value},Cy K mainGlobals x=some (some v)->mg x=some v
section
variable{P:Program}{w:World}{K:BD}{mg:Str->Option Value}{base:Heap}{x p p2 p3 p4 p5:Str}{ps:List Str}{st:Stmt}{f:Addr}{fd:FuncData}{k:Nat}{sp:Sp}
noncomputable def Bn(x:Str)(st:Stmt)(us:List Value)(r:List (Str×Value)):Prop:=∀ kV doc pm an cdv ct,bindArgs (DD x x (eK st) (dy st) (ay st) .none kV doc pm an cdv ct) ⟨us,[]⟩=pure r
theorem GF.b(g:GF K x st f fd)(h:∀ us:List Value,us.length=ps.length->Bn x st us (ps.zip us)):d8 K fd ps []:=g.F.binds fun kV doc pm an cdv ct us hl=>h us hl kV doc pm an cdv ct
theorem Wr.c(W:Wr P w K mg base)(g:GF K x st f fd)(b:d8 K fd ps [])(o:FnOk P w K mg base CX0 k f fd ps sp):Cal P w K mg base k x ps sp f fd:=⟨o,b,W.g g.a,g.F.kp⟩
theorem GF.b1(g:GF K x st f fd)(h:∀ u,Bn x st [u] [(p,u)]):d8 K fd [p] []:=g.b fun us l=>by obtain⟨_,rfl⟩:=len_1 l;exact h _
theorem GF.b2(g:GF K x st f fd)(h:∀ u v,Bn x st [u,v] [(p,u),(p2,v)]):d8 K fd [p,p2] []:=g.b fun us l=>by obtain⟨_,_,rfl⟩:=len_2 l;exact h _ _
theorem GF.b3(g:GF K x st f fd)(h:∀ u v y,Bn x st [u,v,y] [(p,u),(p2,v),(p3,y)]):d8 K fd [p,p2,p3] []:=g.b fun us l=>by obtain⟨_,_,_,rfl⟩:=len_3 l;exact h _ _ _
theorem GF.b4(g:GF K x st f fd)(h:∀ u v y z,Bn x st [u,v,y,z] [(p,u),(p2,v),(p3,y),(p4,z)]):d8 K fd [p,p2,p3,p4] []:=g.b fun us l=>by obtain⟨_,_,_,_,rfl⟩:=AW l;exact h _ _ _ _
theorem GF.b5(g:GF K x st f fd)(h:∀ u v y z t,Bn x st [u,v,y,z,t] [(p,u),(p2,v),(p3,y),(p4,z),(p5,t)]):d8 K fd [p,p2,p3,p4,p5] []:=g.b fun us l=>by obtain⟨_,_,_,_,_,rfl⟩:=len_5 l;exact h _ _ _ _ _
theorem Wr.c1(W:Wr P w K mg base)(g:GF K x st f fd)(o:FnOk P w K mg base CX0 k f fd [p] sp)(h:∀ u,Bn x st [u] [(p,u)]:=by intros _ _ _ _ _ _ _;rfl):Cal P w K mg base k x [p] sp f fd:=W.c g (g.b1 h) o
theorem Wr.c2(W:Wr P w K mg base)(g:GF K x st f fd)(o:FnOk P w K mg base CX0 k f fd [p,p2] sp)(h:∀ u v,Bn x st [u,v] [(p,u),(p2,v)]:=by intros _ _ _ _ _ _ _ _;rfl):Cal P w K mg base k x [p,p2] sp f fd:=W.c g (g.b2 h) o
theorem Wr.c3(W:Wr P w K mg base)(g:GF K x st f fd)(o:FnOk P w K mg base CX0 k f fd [p,p2,p3] sp)(h:∀ u v y,Bn x st [u,v,y] [(p,u),(p2,v),(p3,y)]:=by intros _ _ _ _ _ _ _ _ _;rfl):Cal P w K mg base k x [p,p2,p3] sp f fd:=W.c g (g.b3 h) o
theorem Wr.c4(W:Wr P w K mg base)(g:GF K x st f fd)(o:FnOk P w K mg base CX0 k f fd [p,p2,p3,p4] sp)(h:∀ u v y z,Bn x st [u,v,y,z] [(p,u),(p2,v),(p3,y),(p4,z)]:=by intros _ _ _ _ _ _ _ _ _ _;rfl):Cal P w K mg base k x [p,p2,p3,p4] sp f fd:=W.c g (g.b4 h) o
theorem Wr.c5(W:Wr P w K mg base)(g:GF K x st f fd)(o:FnOk P w K mg base CX0 k f fd [p,p2,p3,p4,p5] sp)(h:∀ u v y z t,Bn x st [u,v,y,z,t] [(p,u),(p2,v),(p3,y),(p4,z),(p5,t)]:=by intros _ _ _ _ _ _ _ _ _ _ _;rfl):Cal P w K mg base k x [p,p2,p3,p4,p5] sp f fd:=W.c g (g.b5 h) o
theorem Wr.d1(W:Wr P w K mg base)(g:GF K x st f fd)(o:FnOk P w K mg base (CXd P w) k f fd [p] sp)(h:∀ u,Bn x st [u] [(p,u)]:=by intros _ _ _ _ _ _ _;rfl):CalD P w K mg base k x [p] sp f fd:=⟨o,g.b1 h,W.g g.a,g.F.kp⟩
theorem Wr.d2(W:Wr P w K mg base)(g:GF K x st f fd)(o:FnOk P w K mg base (CXd P w) k f fd [p,p2] sp)(h:∀ u v,Bn x st [u,v] [(p,u),(p2,v)]:=by intros _ _ _ _ _ _ _ _;rfl):CalD P w K mg base k x [p,p2] sp f fd:=⟨o,g.b2 h,W.g g.a,g.F.kp⟩
theorem Wr.d3(W:Wr P w K mg base)(g:GF K x st f fd)(o:FnOk P w K mg base (CXd P w) k f fd [p,p2,p3] sp)(h:∀ u v y,Bn x st [u,v,y] [(p,u),(p2,v),(p3,y)]:=by intros _ _ _ _ _ _ _ _ _;rfl):CalD P w K mg base k x [p,p2,p3] sp f fd:=⟨o,g.b3 h,W.g g.a,g.F.kp⟩
theorem Wr.d4(W:Wr P w K mg base)(g:GF K x st f fd)(o:FnOk P w K mg base (CXd P w) k f fd [p,p2,p3,p4] sp)(h:∀ u v y z,Bn x st [u,v,y,z] [(p,u),(p2,v),(p3,y),(p4,z)]:=by intros _ _ _ _ _ _ _ _ _ _;rfl):CalD P w K mg base k x [p,p2,p3,p4] sp f fd:=⟨o,g.b4 h,W.g g.a,g.F.kp⟩
end
theorem all_mk{l:FU}{w:World}{K:BD}{h:Heap}{mg:Str->Option Value}{fa bE bQ bJ cK bV bW eW eV ij bo bK f_head wA tI oi qj sZ wz mI lg kH de qk om jC mJ sY qg Bf yx qi oh f_made f_read tF wC tw qo ql jD tG qm oj tD tH tj wB mK mL tE Bg:Addr}(X:K.In h)(G:h.Ns mainGlobals mg) (hfa:mg "law" = some (.ref fa))
  {jb jm mh nh me ng od_law zO:Option Addr} {iO lO lN sl_law:Array (Option Value)} {jd je jh i8 eS ji mq mB mU lY iH m7 mm mz mT lX iG mZ oc_law zw zJ zo xc zK:Value}
  {ti_gF ti_gL:Tok}
  {d_head wO tW ou qx tM wN mV lq kL qy ox jE mW tL qv Bq yE qw ot d_made d_read tR wR tO qB qz jF tU qA ow tP tV tN wQ mX mY tQ:FuncData}
  (fD:Cy K mainGlobals "FloorError" = some (some (.ref bE)))
  (kY:Cy K mainGlobals "BadTie" = some (some (.ref bQ)))
  (ic:Cy K mainGlobals "BadTurns" = some (some (.ref bJ)))
  (kW:Cy K mainGlobals "Parted" = some (some (.ref cK)))
  (jo:Cy K mainGlobals "NotFlat" = some (some (.ref bV)))
  (jq:Cy K mainGlobals "BadText" = some (some (.ref bW)))
  (qH:Cy K mainGlobals "Pull" = some (some (.ref eW)))
  (qG:Cy K mainGlobals "Push" = some (some (.ref eV)))
  (xr:Cy K mainGlobals "Web" = some (some (.ref ij)))
  (fT:B8 K (.ref bW) "__init__" = some (some (.ref bo)))
  (fS:B8 K (.ref eW) "__init__" = some (some (.ref bK)))
  (fQ:B8 K (.ref eV) "__init__" = some (some (.ref bK)))
  (hZ:B8 K (.ref ij) "__init__" = some (some (.ref de)))
  (g_head:GF K "head" uZ f_head d_head)
  (g_leaving:GF K "leaving" j6 wA wO)
  (g_follower:GF K "follower" i5 tI tW)
  (g_round_from:GF K "round_from" fK oi ou)
  (g_rounds_of:GF K "rounds_of" gO qj qx)
  (g_sides_of:GF K "sides_of" iS sZ tM)
  (g_reached:GF K "reached" j4 wz wN)
  (g_refuse_ends:GF K "refuse_ends" fi mI mV)
  (g_refuse_turns:GF K "refuse_turns" eG lg lq)
  (g_refuse_parted:GF K "refuse_parted" dO kH kL)
  (g_number_of:GF K "number_of" gP qk qy)
  (g_first_word:GF K "first_word" fN om ox)
  (g_numbers_behind:GF K "numbers_behind" dg jC jE)
  (g_places_told:GF K "places_told" fj mJ mW)
  (g_tie_told:GF K "tie_told" iR sY tL)
  (g_turn_told:GF K "turn_told" gM qg qv)
  (g_right:GF K "right" pB Bf Bq)
  (g_row_at:GF K "row_at" lR yx yE)
  (g_ties_told:GF K "ties_told" gN qi qw)
  (g_turns_told:GF K "turns_told" fJ oh ot)
  (g_made:GF K "made" uY f_made d_made)
  (g_read:GF K "read" uW f_read d_read)
  (g_law_head:GF K "_law_head" iY tF tR)
  (g_law_put:GF K "_law_put" j8 wC wR)
  (g_law_step:GF K "_law_step" iU tw tO)
  (g_law_grown:GF K "_law_grown" gT qo qB)
  (g_law_order:GF K "_law_order" gQ ql qz)
  (g_law_renumbered:GF K "_law_renumbered" dj jD jF)
  (g_law_cell:GF K "_law_cell" iZ tG tU)
  (g_law_kinds:GF K "_law_kinds" gS qm qA)
  (g_law_texted:GF K "_law_texted" fM oj ow)
  (g_law_sign:GF K "_law_sign" iW tD tP)
  (g_law_base:GF K "_law_base" i4 tH tV)
  (g_law_word:GF K "_law_word" iT tj tN)
  (g_law_row:GF K "_law_row" j7 wB wQ)
  (g_law_spoiled:GF K "_law_spoiled" fk mK mX)
  (g_law_refused:GF K "_law_refused" fm mL mY)
  (g_law_many:GF K "_law_many" iX tE tQ)
  (dt:K.lookup bo=some ⟨jd,jb,.func (DD "__init__" "BadText.__init__" (eK bD) (dy bD) (ay bD) .none je jh i8 jm eS ji),iO⟩)
  (dz:Er K eS "BadText.__init__" = true)
  (dv:CY K (.ref bo)=true)
  (dw:EY K (.ref bo)=true)
  (fX:K.lookup bK=some ⟨mq,mh,.func (DD "__init__" "Tie.__init__" (eK cy) (dy cy) (ay cy) .none mB mU lY nh iH m7),lO⟩)
  (gf:Er K iH "Tie.__init__" = true)
  (fZ:CY K (.ref bK)=true)
  (et:EY K (.ref bK)=true)
  (fV:K.lookup de=some ⟨mm,me,.func (DD "__init__" "Web.__init__" (eK cx) (dy cx) (ay cx) .none mz mT lX ng iG mZ),lN⟩)
  (gd:Er K iG "Web.__init__" = true)
  (fY:CY K (.ref de)=true)
  (f7:EY K (.ref de)=true)
  (yL:Cy K mainGlobals "law" = some (some (.ref Bg)))
  (AX:K.lookup Bg=some ⟨oc_law,od_law,.func (DD "law" "law" (eK lS) (dy lS) (ay lS) .none zw zJ zo zO xc zK),sl_law⟩)
  (Bu:Er K xc "law" = true)
  (AZ:CY K (.ref Bg)=true)
  (eY:ED K bE veM "ValueError.__new__" = true)
  (ik:ED K bQ veM "ValueError.__new__" = true)
  (gG:ED K bJ veM "ValueError.__new__" = true)
  (jR:ED K cK veM "ValueError.__new__" = true)
  (iK:ED K bV veM "ValueError.__new__" = true)
  (pI:Ew K eW Str.empty=true)
  (qc:Dp K eW=true)
  (pF:EH K eW=true)
  (pA:B8 K (.ref eW) "__setattr__" = some (some (.builtin "object.__setattr__")))
  (pR:ES K eW=true)
  (pW:CY K (.ref eW)=true)
  (hU:B8 K (.ref eW) "one" = some none)
  (hG:B8 K (.ref eW) "two" = some none)
  (dq:B8 K (.ref eW) "strength" = some none)
  (pH:Ew K eV Str.empty=true)
  (qb:Dp K eV=true)
  (pE:EH K eV=true)
  (pj:B8 K (.ref eV) "__setattr__" = some (some (.builtin "object.__setattr__")))
  (pQ:ES K eV=true)
  (pV:CY K (.ref eV)=true)
  (g9:B8 K (.ref eV) "one" = some none)
  (g8:B8 K (.ref eV) "two" = some none)
  (dm:B8 K (.ref eV) "strength" = some none)
  (vo:Ew K ij Str.empty=true)
  (wq:Dp K ij=true)
  (vk:EH K ij=true)
  (uV:B8 K (.ref ij) "__setattr__" = some (some (.builtin "object.__setattr__")))
  (vM:ES K ij=true)
  (vU:CY K (.ref ij)=true)
  (g7:B8 K (.ref ij) "many" = some none)
  (gZ:B8 K (.ref ij) "ties" = some none)
  (fO:B8 K (.ref ij) "turns" = some none)
  (fu:B8 K (.ref ij) "rounds" = some none)
  (fP:B8 K (.ref ij) "sides" = some none)
  (gi_gF:Cy K mainGlobals "MOST_FIGURES" = some (some (.int 31 ti_gF)))
  (gi_gL:Cy K mainGlobals "MOST_TIES" = some (some (.int 80 ti_gL)))
  (kd1_:kdB K bQ bE bQ bJ cK bV bW 1=true)
  (kd2_:kdB K bJ bE bQ bJ cK bV bW 2=true)
  (kd3_:kdB K cK bE bQ bJ cK bV bW 3=true)
  (kd4_:kdB K bV bE bQ bJ cK bV bW 4=true)
  (kd5_:kdB K bW bE bQ bJ cK bV bW 5=true)
  (es2_:ersB K bW bo=true)
  (zT:Cy K mainGlobals "len" = some none)
  (zU:Cy K mainGlobals "int" = some none)
  (zQ:Cy K mainGlobals "str" = some none)
  (uh:Cy K mainGlobals "bool" = some none)
  (ug:Cy K mainGlobals "list" = some none)
  (oU:Cy K mainGlobals "tuple" = some none)
  (oW:Cy K mainGlobals "range" = some none)
  (zV:Cy K mainGlobals "all" = some none)
  (gE:Cy K mainGlobals "enumerate" = some none)
  (fG:Cy K mainGlobals "isinstance" = some none)
  (zR:Cy K mainGlobals "min" = some none)
  (zP:Cy K mainGlobals "sum" = some none)
  (lE:Cy K mainGlobals "sorted" = some none)
  (zS:Cy K mainGlobals "max" = some none)
  (fH:Cy K mainGlobals "ValueError" = some none)
  : ∃ fd:FuncData,(∀(s:Shared)(v:Value),BindsTo s fd ⟨[v],[]⟩ [("script",v)])/\∀ base:Heap,K.In base->base.Ns mainGlobals mg->FnOk l.prog w K mg base CX0 8 fa fd ["script"] (lK K):=by
 have e:=hfa.symm.trans (Dm X G yL)
 cases e
 have fE:=fun_mk (st:=bD) dt dz dv;have jG:=fE.binds (ps:=["self","at"]) fun _ _ _ _ _ _ us hl=>by obtain⟨x0,x1,rfl⟩:=len_2 hl;rfl
 have jz:=fun_mk (st:=cy) fX gf fZ;have jx:=jz.binds (ps:=["self","one","two","strength"]) fun _ _ _ _ _ _ us hl=>by obtain⟨x0,x1,x2,x3,rfl⟩:=AW hl;rfl
 have jy:=fun_mk (st:=cx) fV gd fY;have oQ:=jy.binds (ps:=["self","many","ties","turns"]) fun _ _ _ _ _ _ us hl=>by obtain⟨x0,x1,x2,x3,rfl⟩:=AW hl;rfl
 have F_law:=fun_mk (st:=lS) AX Bu AZ;refine⟨DD "law" "law" (eK lS) (dy lS) (ay lS) .none zw zJ zo zO xc zK,fun s v=>.of_eq rfl,fun base _ _=>?_⟩;have m_law:=Dm X G yL;have jv:=Dm X G fD;have yo:=Dm X G kY;have sU:=Dm X G ic;have yn:=Dm X G kW;have vQ:=Dm X G jo;have nV:=Dm X G jq;have m_Pull:=Dm X G qH;have m_Push:=Dm X G qG;have m_Web:=Dm X G xr;have gF:=Dm X G gi_gF;have gL:=Dm X G gi_gL;have n_len:=CI X G zT;have n_int:=CI X G zU;have n_str:=CI X G zQ;have n_bool:=CI X G uh;have n_list:=CI X G ug;have n_tuple:=CI X G oU;have n_range:=CI X G oW;have n_all:=CI X G zV;have n_enumerate:=CI X G gE;have n_isinstance:=CI X G fG;have n_min:=CI X G zR;have n_sum:=CI X G zP;have n_sorted:=CI X G lE;have n_max:=CI X G zS;have n_ValueError:=CI X G fH;have W:Wr l.prog w K mg base:=⟨fun e=>Dm X G e⟩;have TL:CT K eW:=⟨⟨pI,qc,pF,pA⟩,hU,hG,dq⟩;have TS:CT K eV:=⟨⟨pH,qb,pE,pj⟩,g9,g8,dm⟩;have cw:CW K ij:=⟨⟨vo,wq,vk,uV⟩,g7,gZ,fO,fu,fP⟩;have T:K8.Txt mg:=⟨n_len,n_int,n_bool,n_list,n_tuple,n_range,n_enumerate,n_isinstance,n_min,n_sum,n_sorted⟩;have Gh:=W.c2 g_head (AK g_head.F);have Gl:=W.c3 g_leaving (sJ g_leaving.F);have Gf:=W.c3 g_follower (pO g_follower.F T Gh Gl);have Gr:=W.c3 g_round_from (AL g_round_from.F Gf);have GR:=W.c2 g_rounds_of (vG g_rounds_of.F T Gr);have GS:=W.c2 g_sides_of (x8 g_sides_of.F T);have Ga:=W.c2 g_reached (sI g_reached.F);have Gc:=W.c2 g_law_cell (AM g_law_cell.F T);have L1:=W.c2 g_law_head (yd g_law_head.F);have L5:=W.c2 g_law_order (yc g_law_order.F T);have TM:TxtM mg:={ T with n_max:=n_max };have N1:=W.c4 g_law_put (ok_put g_law_put.F);have N2:=W.c5 g_law_step (AD g_law_step.F T L1 N1);have N3:=W.c2 g_law_grown (yg g_law_grown.F N2);have N4:=W.c2 g_law_renumbered (ok_ren g_law_renumbered.F TM L5);have TG:TxtG mg bQ bJ cK bV:={ T with g_BadTie:=yo,g_BadTurns:=sU,g_Parted:=yn,g_NotFlat:=vQ };have R1:=W.d2 g_refuse_ends (ya g_refuse_ends.F TG ik);have R2:=W.d3 g_refuse_turns (vE g_refuse_turns.F TG gG);have R3:=W.d2 g_refuse_parted (x9 g_refuse_parted.F TG jR Ga);have MW:MakD l.prog w K mg base 5 "Web" _ (o9 K bQ bJ cK bV) ij de _:=⟨⟨vM,hZ,f7,vU⟩,xY jy TG iK R1 R2 R3 GR GS,oQ,m_Web⟩;have TT:KF.Txt mg:=⟨n_max,n_min,n_len,n_int,n_str,n_bool,n_list,n_tuple,n_range,n_all,n_enumerate,n_isinstance,⟨_,gF⟩,⟨_,gL⟩⟩;have TH:TxtH mg bQ bJ cK bV bE bW:={ TG with n_ValueError:=n_ValueError,g_FloorError:=jv,g_BadText:=nV };have TQ:TxtL mg bE:={ TT with g_FloorError:=jv };have SN:OwnI l.prog w K mg base "BadText" bW bo _:=⟨zG es2_,dw,ok_bti fE,jG,nV⟩;have GI:FnOk l.prog w K mg base (CXd l.prog w) 1 bK _ _ (iN K bQ):=yf jz TG ik;have ML:MakD l.prog w K mg base 1 "Pull" _ (iN K bQ) eW bK _:=⟨⟨pR,fS,et,pW⟩,GI,jx,m_Pull⟩;have MS:MakD l.prog w K mg base 1 "Push" _ (iN K bQ) eV bK _:=⟨⟨pQ,fQ,et,pV⟩,GI,jx,m_Push⟩;have A4:=W.c2 g_number_of (KF.ok_num g_number_of.F TT);have A5:=W.c1 g_first_word (ok_fw g_first_word.F);have A6:=W.c3 g_numbers_behind (ok_beh g_numbers_behind.F A4);have A7:=W.c1 g_places_told (vI g_places_told.F TT A6);have A8:=W.c1 g_tie_told (AB g_tie_told.F TT A5 A6);have A9:=W.c2 g_turn_told (xZ g_turn_told.F TT A6);have B1:=W.d2 g_right (vH g_right.F SN);have B2:=W.d2 g_row_at (vF g_row_at.F TT SN);have B3:=W.d1 g_ties_told (pN g_ties_told.F TT SN A5 A8 B1);have B4:=W.d3 g_turns_told (vC g_turns_told.F TT B2 A9 B1);have B5:=W.d4 g_made (AI g_made.F ML MS TL TS);have B6:=W.d1 g_read (AG g_read.F TT cw TL TS SN B1 B2 A7 B3 B4 B5 MW);have D1:=W.c1 g_law_sign (AE g_law_sign.F);have D2:=W.c2 g_law_word (AA g_law_word.F D1);have D3:=W.c4 g_law_row (AJ g_law_row.F TT D1 D2);have D4:=W.c4 g_law_spoiled (sH g_law_spoiled.F TT D3);have D5:=W.c2 g_law_kinds (ye g_law_kinds.F TT Gc);have D6:=W.c3 g_law_texted (vD g_law_texted.F TT);have D7:=W.c2 g_law_base (AN g_law_base.F TT Gc N3 N4 D5 D6);have D8:=W.c1 g_law_many (AH g_law_many.F TT);have D9:=W.c3 g_law_refused (AF (fI:=bo) g_law_refused.F TH);exact KF.ok_law F_law TQ eY (k9 kd1_).2 (k9 kd2_).2 (k9 kd3_).2 (k9 kd4_).2 (k9 kd5_).2 (k9 kd1_).1 (k9 kd2_).1 (k9 kd3_).1 (k9 kd4_).1 (k9 kd5_).1 (zG es2_) cw Gc D7 D4 D8 D9 B6
theorem walk{l:FU}{q:Program}{loose:List Str}{XP:(Str->Option Value)->Heap->Prop}{YP:World->Heap->Prop}{d:DefRec}{K:Params->BD}(hn:l.most=some 63)(hdf:d.params.defaults = [])
  (hY:∀(w:World)(h:Heap),YP w h->(K w.params).In h)
  (F:∀(w:World)(mg:Str->Option Value)(fa:Addr)(h:Heap),(K w.params).In h->h.Ns mainGlobals mg->mg d.name=some (.ref fa) ->
   ∃ fd:FuncData,(∀(s:Shared)(u:Value),BindsTo s fd ⟨[u],[]⟩ [("script",u)])/\∀ base:Heap,(K w.params).In base->base.Ns mainGlobals mg->FnOk l.prog w (K w.params) mg base CX0 8 fa fd ["script"] (lK (K w.params))) :
  PySem.W.WalkO q loose XP YP l.row.toRowW d [] (fun f vs=>PySem.call f vs) :=
 L2.walk_of (n:=63) (k:=8) (x:="script") (CX:=fun _=>CX0) (sp:=fun w=>lK (K w.params)) hn (by decide) hdf ⟨rfl,by decide,by decide⟩ hY F (fun _ _ a ns hl _ hS=>⟨a,ns,rfl,hS,hl,fun _=>rfl⟩) fun _ _ _ _ _ z=>z
end KF
def PySem.W.Fast.tw12976412752212327009:Nat:=0
def PySem.W.Fast.tw1429373541392865474:Nat:=0
def PySem.W.Fast.tw13901773159764891330:Nat:=0
def PySem.W.Fast.tw8601440464262650500:Nat:=0
def PySem.W.Fast.tw13315010765167411302:Nat:=0
def PySem.W.Fast.tw6327369609900974087:Nat:=0
def PySem.W.Fast.tw8901911736791716938:Nat:=0
def PySem.W.Fast.tw12253026906698022635:Nat:=0
def PySem.W.Fast.tw2100022473445834700:Nat:=0
def PySem.W.Fast.tw18190016534874094637:Nat:=0
def PySem.W.Fast.tw16156198145076877454:Nat:=0
def PySem.W.Fast.tw11652758084935667505:Nat:=0
def PySem.W.Fast.tw4029122378479094709:Nat:=0
def PySem.W.Fast.tw14887183707038605047:Nat:=0
def PySem.W.Fast.tw10863086448466811354:Nat:=0
def PySem.W.Fast.tw10130421741344344923:Nat:=0
def PySem.W.Fast.tw14457606088514769599:Nat:=0
namespace PySem.W.Fast
def tw5140247863351384064:=Nat
def tw9947346968399255616:=Nat
def tw212127312354238528:=Nat
def tw3275488893653364832:=Nat
def tw11835397165101017248:=Nat
def tw10907900653883423904:=Nat
def tw8933594463258769856:=Nat
def tw13122036467581323744:=Nat
def tw12496998385023319584:=Nat
def tw1184173932851961440:=Nat
def tw7561357149945394848:=Nat
def tw10282452833798013632:=Nat
def tw1334277621314590656:=Nat
def tw6730315182585486304:=Nat
def tw13785284833241553313:=Nat
def tw1630411614290281985:=Nat
def tw13799601436777184001:=Nat
def tw9505005994524586881:=Nat
def tw8426714213063989153:=Nat
def tw13049812751261341698:=Nat
def tw7153548757326057474:=Nat
def tw6434060735580358818:=Nat
def tw670210995501476034:=Nat
def tw11476985443504610498:=Nat
def tw3204023050375786690:=Nat
def tw6510948754809534754:=Nat
def tw12650321920892474722:=Nat
def tw11441499851066665410:=Nat
def tw9001531638024801954:=Nat
def tw795357907866619586:=Nat
def tw17305961829361036994:=Nat
def tw5934174471008662306:=Nat
def tw6513213009707872066:=Nat
def tw4937240827059983170:=Nat
def tw9776816185105219394:=Nat
def tw5745693851291604834:=Nat
def tw3299994708519998370:=Nat
def tw14343822321873676291:=Nat
def tw214182138280860707:=Nat
def tw16442217649792382083:=Nat
def tw9463991639410092323:=Nat
def tw4636789524583479651:=Nat
def tw1538025830304484739:=Nat
def tw12856880936610801059:=Nat
def tw16135973362683626915:=Nat
def tw7704533619855974883:=Nat
def tw17538702184542759427:=Nat
def tw8176799528010199971:=Nat
def tw9886356943699552260:=Nat
def tw6191168836107247780:=Nat
def tw4051938458118370564:=Nat
def tw2091574432461720964:=Nat
def tw7150659107978924516:=Nat
def tw11994680804744359492:=Nat
def tw2576424661619569284:=Nat
def tw2309717720973704836:=Nat
def tw865282228566875812:=Nat
def tw2260356295783256197:=Nat
def tw7788964754576629893:=Nat
def tw14387100613854741669:=Nat
def tw18035686620633440421:=Nat
def tw10517637372555302149:=Nat
def tw10550594949901767973:=Nat
def tw444264487052687749:=Nat
def tw6391254864064823749:=Nat
def tw3438392058745562949:=Nat
def tw16218173354102327237:=Nat
def tw2221709187695319013:=Nat
def tw16880571610090982406:=Nat
def tw7518952624779603014:=Nat
def tw18162155152451429478:=Nat
def tw11343217127432928582:=Nat
def tw11797120655191362886:=Nat
def tw14657442343251722854:=Nat
def tw7994100985651922598:=Nat
def tw17981075325593559814:=Nat
def tw15694667012118520678:=Nat
def tw18348824882192446310:=Nat
def tw17843159041540652167:=Nat
def tw13977839441777083527:=Nat
def tw7241817665573321927:=Nat
def tw8932597839200537895:=Nat
def tw17126423219802160455:=Nat
def tw4455224241455876583:=Nat
def tw17099251061940506119:=Nat
def tw16047783150764422759:=Nat
def tw5807857718737716903:=Nat
def tw17927518227630840519:=Nat
def tw17139385522811473639:=Nat
def tw5028902584972858119:=Nat
def tw11269711226881722151:=Nat
def tw887656843440062311:=Nat
def tw15885098230508531655:=Nat
def tw1402432095852280775:=Nat
def tw18289729946845751271:=Nat
def tw3780860839318122471:=Nat
def tw1668321824526081032:=Nat
def tw18216798367711684648:=Nat
def tw7374050208670683304:=Nat
def tw8854110031264560328:=Nat
def tw5317883551810013448:=Nat
def tw18369834026870440264:=Nat
def tw13310493769841696136:=Nat
def tw8683937982201268680:=Nat
def tw7062333279863844424:=Nat
def tw7602885405980922504:=Nat
def tw13832460388985638536:=Nat
def tw10531491995358723784:=Nat
def tw8006647455090727752:=Nat
def tw5759251816473381704:=Nat
def tw17964947418932576136:=Nat
def tw9277310185482641417:=Nat
def tw9720944316073680937:=Nat
def tw14029603628704755817:=Nat
def tw14546491697386014057:=Nat
def tw11230172820805195145:=Nat
def tw11582215696322059689:=Nat
def tw12614806152768875049:=Nat
def tw2012420792878937641:=Nat
def tw12705629308732191337:=Nat
def tw3538281054737241705:=Nat
def tw10003704359151936137:=Nat
def tw5541579189266482857:=Nat
def tw1200940940015493961:=Nat
def tw15595370226368203018:=Nat
def tw12299006700686822666:=Nat
def tw4029910572938297642:=Nat
def tw2663312215801525738:=Nat
def tw9064469766693917258:=Nat
def tw17563611365689282250:=Nat
def tw15378043801353239402:=Nat
def tw9986216615486012394:=Nat
def tw5540223952629720107:=Nat
def tw9316747713822722123:=Nat
def tw15341265775665408139:=Nat
def tw1464883247958846635:=Nat
def tw11462873770835052779:=Nat
def tw14980896607219129579:=Nat
def tw101650151692232971:=Nat
def tw10985381383265859851:=Nat
def tw14765171201347466539:=Nat
def tw718063394056648043:=Nat
def tw1252670708248166763:=Nat
def tw13966143765250135435:=Nat
def tw11056576522899204683:=Nat
def tw17806488910865594987:=Nat
def tw15555465196874342091:=Nat
def tw6981723464153670411:=Nat
def tw9198827802233179915:=Nat
def tw16939926914843762507:=Nat
def tw12354583204193845163:=Nat
def tw13712504744885973228:=Nat
def tw9067367918717008140:=Nat
def tw16545290281030161772:=Nat
def tw9833711513252182444:=Nat
def tw11720262539741043244:=Nat
def tw4947733841659206220:=Nat
def tw18364036582885141292:=Nat
def tw14626310272187735884:=Nat
def tw896853858874205004:=Nat
def tw11633548721000489997:=Nat
def tw1448773543789915149:=Nat
def tw13194689112459043885:=Nat
def tw4431229684755543181:=Nat
def tw4955958846100808877:=Nat
def tw7138983952471710893:=Nat
def tw9562638317888290029:=Nat
def tw14352543267521878253:=Nat
def tw9763367601029600525:=Nat
def tw4707172919786041709:=Nat
def tw7044789227692617165:=Nat
def tw5611537380514211373:=Nat
def tw11727659335508324941:=Nat
def tw5770840412368265869:=Nat
def tw17709400560204522157:=Nat
def tw13951737499454456589:=Nat
def tw9890841462615722829:=Nat
def tw5796532273472349037:=Nat
def tw12062503604657945646:=Nat
def tw12261900397230438446:=Nat
def tw17777137026710207598:=Nat
def tw5019892048349701326:=Nat
def tw9846333961272577262:=Nat
def tw6218060474535738606:=Nat
def tw1506343361339750734:=Nat
def tw15284789478249244078:=Nat
def tw906947569274919374:=Nat
def tw3096759601298073166:=Nat
def tw3176296639863023214:=Nat
def tw4102882337185777390:=Nat
def tw17036692669861977870:=Nat
def tw10655376873550785326:=Nat
def tw12678939800508745550:=Nat
def tw12669347865572874126:=Nat
def tw6708241741729012783:=Nat
def tw3935425964998768719:=Nat
def tw14020425368831572079:=Nat
def tw12955489977436734671:=Nat
def tw2933483350750276879:=Nat
def tw17135495946722213167:=Nat
def tw16800700397741370735:=Nat
def tw7228928795362399727:=Nat
def tw1143908469442312751:=Nat
def tw5157512713046056591:=Nat
def tw4810703313622843055:=Nat
def tw6759616359277430479:=Nat
def tw8010173567408379631:=Nat
def tw3102009187175264047:=Nat
def tw14522365359889064783:=Nat
def tw7018241097934829455:=Nat
def tw7657223554881208239:=Nat
def tw14403946621039914000:=Nat
def tw4036449719727161424:=Nat
def tw4776348558625352912:=Nat
def tw15232112043596614896:=Nat
def tw5785186255631684848:=Nat
def tw7718569845034222864:=Nat
def tw11463610941860674864:=Nat
def tw16535004329272377872:=Nat
def tw4057797077392009072:=Nat
def tw12306877807661470672:=Nat
def tw3124743037351119856:=Nat
def tw8038682070405930992:=Nat
def tw9337773791916885105:=Nat
def tw12188699161507149937:=Nat
def tw14244060797755587857:=Nat
def tw6211053785997947217:=Nat
def tw17677798522804191569:=Nat
def tw7927234456781359537:=Nat
def tw12630739734009027025:=Nat
def tw10870717164219741681:=Nat
def tw3938128958998119953:=Nat
def tw8929817712058480241:=Nat
def tw8702202328180404977:=Nat
def tw3220221527489710897:=Nat
def tw9615608282878545713:=Nat
def tw17158219683758924850:=Nat
def tw3148306071705863250:=Nat
def tw17087420826125212850:=Nat
def tw7575994647171329298:=Nat
def tw11161986796256076658:=Nat
def tw9984635830870605746:=Nat
def tw2237735117595551859:=Nat
def tw15581680365675873555:=Nat
def tw8001366355440424243:=Nat
def tw414899403267544435:=Nat
def tw14674723328510313939:=Nat
def tw15874249704368491987:=Nat
def tw6826007652517960211:=Nat
def tw7194332776147348019:=Nat
def tw12379729878354851539:=Nat
def tw10145268756827808563:=Nat
def tw13803358173174780787:=Nat
def tw14877255967558141972:=Nat
def tw8244687098455405588:=Nat
def tw1875929924266320980:=Nat
def tw10176109572652822644:=Nat
def tw5291708448415015060:=Nat
def tw1078723556738844852:=Nat
def tw13842359330679111028:=Nat
def tw4481931476481125780:=Nat
def tw6527002179873287636:=Nat
def tw10361325378195460692:=Nat
def tw12556764258149045044:=Nat
def tw10741906768018247636:=Nat
def tw11363310489445374932:=Nat
def tw6133745640662743028:=Nat
def tw12048587155493545972:=Nat
def tw9994776159254646805:=Nat
def tw17602118268846041365:=Nat
def tw8816343817048929589:=Nat
def tw3552735430661900757:=Nat
def tw12445653828236695189:=Nat
def tw5586255899813803733:=Nat
def tw13453573492151648981:=Nat
def tw4553295615448319733:=Nat
def tw16792340378414623541:=Nat
def tw14729024594825175861:=Nat
def tw5103956260872484725:=Nat
def tw811408683851651989:=Nat
def tw14967483592072358998:=Nat
def tw10626480765336674422:=Nat
def tw14938586623973619894:=Nat
def tw10860609334858487990:=Nat
def tw18089440018548487478:=Nat
def tw7521538890750498166:=Nat
def tw5918708059287698870:=Nat
def tw8925509464864370134:=Nat
def tw16318395379899799126:=Nat
def tw14690837652799401558:=Nat
def tw6350741775759420182:=Nat
def tw4930364744091641654:=Nat
def tw2607885032263799638:=Nat
def tw1850041009186821974:=Nat
def tw2322928426744393590:=Nat
def tw753955660193589110:=Nat
def tw6406709536892058486:=Nat
def tw694921802452020118:=Nat
def tw3469701428545568662:=Nat
def tw10602723529553994710:=Nat
def tw6472754270225463254:=Nat
def tw11201440720423745494:=Nat
def tw3938488692123352054:=Nat
def tw9291412316550008887:=Nat
def tw11279550824620695607:=Nat
def tw11579565286116554871:=Nat
def tw15841949438023144599:=Nat
def tw3734643487628630327:=Nat
def tw5048570983662231863:=Nat
def tw460411043833401879:=Nat
def tw5566165558221906487:=Nat
def tw17858497609131524759:=Nat
def tw16578163791100566295:=Nat
def tw4984460399588589335:=Nat
def tw5188387028854295351:=Nat
def tw14711516392320953143:=Nat
def tw8379270280366843831:=Nat
def tw7764764515440764887:=Nat
def tw515121122610423864:=Nat
def tw14886812529795656760:=Nat
def tw4105446933601888472:=Nat
def tw13441152493302323544:=Nat
def tw11107521850044257624:=Nat
def tw317026811479838104:=Nat
def tw12707950817768330744:=Nat
def tw10281377530236435032:=Nat
def tw2196039670130842392:=Nat
def tw16347142729877390136:=Nat
def tw1554410019171798936:=Nat
def tw14518383453429233592:=Nat
def tw2220167626266286040:=Nat
def tw6207611420825659449:=Nat
def tw16608271742616357945:=Nat
def tw7655112591197632665:=Nat
def tw9191226987845604537:=Nat
def tw494678825160321273:=Nat
def tw12431649696322468153:=Nat
def tw7336727472644162233:=Nat
def tw12631591419905128121:=Nat
def tw7425675961118247641:=Nat
def tw6850006416642954969:=Nat
def tw5966893730866480953:=Nat
def tw3957835661565276121:=Nat
def tw14670483553770711066:=Nat
def tw17821948241712235578:=Nat
def tw14719888315641422042:=Nat
def tw4527313939811755354:=Nat
def tw12861060317786624378:=Nat
def tw2871462919400001946:=Nat
def tw5821923778094205498:=Nat
def tw556755786665127770:=Nat
def tw12876572364399667194:=Nat
def tw15191154749628922907:=Nat
def tw4217004776095478939:=Nat
def tw13628772436909359355:=Nat
def tw2528159763528488219:=Nat
def tw16917865731373146395:=Nat
def tw16572167611797754139:=Nat
def tw3690621983657978171:=Nat
def tw15553086955411912027:=Nat
def tw18312643593002259835:=Nat
def tw16608735879567448443:=Nat
def tw5433779279001340283:=Nat
def tw7625310965318961755:=Nat
def tw1018493036811947611:=Nat
def tw7564848698944035451:=Nat
def tw4281669175258852027:=Nat
def tw14328771223609015995:=Nat
def tw2603730853105364891:=Nat
def tw6228693000919807995:=Nat
def tw17859574184823268412:=Nat
def tw396621633708754172:=Nat
def tw10841194685726733756:=Nat
def tw10027723298316084860:=Nat
def tw7949303654210622108:=Nat
def tw12919264236400899868:=Nat
def tw584240678128608124:=Nat
def tw8864049528455024604:=Nat
def tw2452021595442660541:=Nat
def tw1783663130523730141:=Nat
def tw18292913747724350717:=Nat
def tw848128742062317981:=Nat
def tw3899996487373330877:=Nat
def tw16632830667730279869:=Nat
def tw7514706758738319837:=Nat
def tw245508779682671069:=Nat
def tw3944544371893068541:=Nat
def tw15815818124948824829:=Nat
def tw16263035220252096413:=Nat
def tw3379614623287591901:=Nat
def tw4651145172212092958:=Nat
def tw2133835621004785694:=Nat
def tw12576499235757143166:=Nat
def tw596577019490618526:=Nat
def tw5071585610700899518:=Nat
def tw9768821562180656350:=Nat
def tw8063094297461509470:=Nat
def tw1205170226541102526:=Nat
def tw15865974143254129118:=Nat
def tw7675448833944731230:=Nat
def tw5434590290363446878:=Nat
def tw8628692496973205182:=Nat
def tw15855164547871570686:=Nat
def tw12574333273001120542:=Nat
def tw4413129655741993822:=Nat
def tw7305909414169944926:=Nat
def tw6155982200224000063:=Nat
def tw14669443130433213535:=Nat
def tw18220105165302050911:=Nat
def tw2424838464530477183:=Nat
def tw11933929307114584191:=Nat
def tw9373712350804011167:=Nat
def tw2329126321089146079:=Nat
def tw3945646911623411967:=Nat
def tw15983414411483273599:=Nat
def tw7875838071694252511:=Nat
def tw9965472866271747583:=Nat
def tw9148104287268270623:=Nat
def tw2748213965172182655:=Nat
def tw14473582960713634431:=Nat
def tw2192725582307995263:=Nat
def tw18017150936379743999:=Nat
def tw14066211969383464735:=Nat
def tw3242773114564922446:=Nat
end PySem.W.Fast
open PySem PySem.W PyProof.Rows
set_option maxRecDepth 100000 in
set_option maxHeartbeats 0 in
theorem PySem.Challenge.cw_spinfloor_k12_texts_refused_holds : PySem.Challenge.rw_spinfloor_k12_texts_refused.Holds := by
 w_on;o_law;k_head;(case hw=>w_witness2);k_fill;refine KF.walk (l:=PySem.Challenge.rw_spinfloor_k12_texts_refused) rfl rfl (fun w h Y=>PySem.W.kIn_of Y) ?F
 case F =>
  intro w mg fa h KX G hmg;refine' KF.all_mk KX G hmg ?fD ?kY ?ic ?kW ?jo ?jq ?qH ?qG ?xr ?fT ?fS ?fQ ?hZ ?g_head ?g_leaving ?g_follower ?g_round_from ?g_rounds_of ?g_sides_of ?g_reached ?g_refuse_ends ?g_refuse_turns ?g_refuse_parted ?g_number_of ?g_first_word ?g_numbers_behind ?g_places_told ?g_tie_told ?g_turn_told ?g_right ?g_row_at ?g_ties_told ?g_turns_told ?g_made ?g_read ?g_law_head ?g_law_put ?g_law_step ?g_law_grown ?g_law_order ?g_law_renumbered ?g_law_cell ?g_law_kinds ?g_law_texted ?g_law_sign ?g_law_base ?g_law_word ?g_law_row ?g_law_spoiled ?g_law_refused ?g_law_many ?dt ?dz ?dv ?dw ?fX ?gf ?fZ ?et ?fV ?gd ?fY ?f7 ?yL ?AX ?Bu ?AZ ?eY ?ik ?gG ?jR ?iK ?pI ?qc ?pF ?pA ?pR ?pW ?hU ?hG ?dq ?pH ?qb ?pE ?pj ?pQ ?pV ?g9 ?g8 ?dm ?vo ?wq ?vk ?uV ?vM ?vU ?g7 ?gZ ?fO ?fu ?fP ?gi_gF ?gi_gL ?kd1_ ?kd2_ ?kd3_ ?kd4_ ?kd5_ ?es2_ ?zT ?zU ?zQ ?uh ?ug ?oU ?oW ?zV ?gE ?fG ?zR ?zP ?lE ?zS ?fH;(case fD|kY|ic|kW|jo|jq|qH|qG|xr|fT|fS|fQ|hZ=>k_is)
  (case g_head=>refine' ⟨?ja,L2.fun_mk ?jl ?jc ?jk⟩;(case ja=>k_is);(case jl=>k_is);(case jc=>k_is);(case jk=>k_is));(case g_leaving=>refine' ⟨?ja,L2.fun_mk ?jl ?jc ?jk⟩;(case ja=>k_is);(case jl=>k_is);(case jc=>k_is);(case jk=>k_is));(case g_follower=>refine' ⟨?ja,L2.fun_mk ?jl ?jc ?jk⟩;(case ja=>k_is);(case jl=>k_is);(case jc=>k_is);(case jk=>k_is));(case g_round_from=>refine' ⟨?ja,L2.fun_mk ?jl ?jc ?jk⟩;(case ja=>k_is);(case jl=>k_is);(case jc=>k_is);(case jk=>k_is));(case g_rounds_of=>refine' ⟨?ja,L2.fun_mk ?jl ?jc ?jk⟩;(case ja=>k_is);(case jl=>k_is);(case jc=>k_is);(case jk=>k_is));(case g_sides_of=>refine' ⟨?ja,L2.fun_mk ?jl ?jc ?jk⟩;(case ja=>k_is);(case jl=>k_is);(case jc=>k_is);(case jk=>k_is));(case g_reached=>refine' ⟨?ja,L2.fun_mk ?jl ?jc ?jk⟩;(case ja=>k_is);(case jl=>k_is);(case jc=>k_is);(case jk=>k_is));(case g_refuse_ends=>refine' ⟨?ja,L2.fun_mk ?jl ?jc ?jk⟩;(case ja=>k_is);(case jl=>k_is);(case jc=>k_is);(case jk=>k_is));(case g_refuse_turns=>refine' ⟨?ja,L2.fun_mk ?jl ?jc ?jk⟩;(case ja=>k_is);(case jl=>k_is);(case jc=>k_is);(case jk=>k_is));(case g_refuse_parted=>refine' ⟨?ja,L2.fun_mk ?jl ?jc ?jk⟩;(case ja=>k_is);(case jl=>k_is);(case jc=>k_is);(case jk=>k_is));(case g_number_of=>refine' ⟨?ja,L2.fun_mk ?jl ?jc ?jk⟩;(case ja=>k_is);(case jl=>k_is);(case jc=>k_is);(case jk=>k_is));(case g_first_word=>refine' ⟨?ja,L2.fun_mk ?jl ?jc ?jk⟩;(case ja=>k_is);(case jl=>k_is);(case jc=>k_is);(case jk=>k_is));(case g_numbers_behind=>refine' ⟨?ja,L2.fun_mk ?jl ?jc ?jk⟩;(case ja=>k_is);(case jl=>k_is);(case jc=>k_is);(case jk=>k_is));(case g_places_told=>refine' ⟨?ja,L2.fun_mk ?jl ?jc ?jk⟩;(case ja=>k_is);(case jl=>k_is);(case jc=>k_is);(case jk=>k_is));(case g_tie_told=>refine' ⟨?ja,L2.fun_mk ?jl ?jc ?jk⟩;(case ja=>k_is);(case jl=>k_is);(case jc=>k_is);(case jk=>k_is));(case g_turn_told=>refine' ⟨?ja,L2.fun_mk ?jl ?jc ?jk⟩;(case ja=>k_is);(case jl=>k_is);(case jc=>k_is);(case jk=>k_is));(case g_right=>refine' ⟨?ja,L2.fun_mk ?jl ?jc ?jk⟩;(case ja=>k_is);(case jl=>k_is);(case jc=>k_is);(case jk=>k_is));(case g_row_at=>refine' ⟨?ja,L2.fun_mk ?jl ?jc ?jk⟩;(case ja=>k_is);(case jl=>k_is);(case jc=>k_is);(case jk=>k_is));(case g_ties_told=>refine' ⟨?ja,L2.fun_mk ?jl ?jc ?jk⟩;(case ja=>k_is);(case jl=>k_is);(case jc=>k_is);(case jk=>k_is));(case g_turns_told=>refine' ⟨?ja,L2.fun_mk ?jl ?jc ?jk⟩;(case ja=>k_is);(case jl=>k_is);(case jc=>k_is);(case jk=>k_is));(case g_made=>refine' ⟨?ja,L2.fun_mk ?jl ?jc ?jk⟩;(case ja=>k_is);(case jl=>k_is);(case jc=>k_is);(case jk=>k_is));(case g_read=>refine' ⟨?ja,L2.fun_mk ?jl ?jc ?jk⟩;(case ja=>k_is);(case jl=>k_is);(case jc=>k_is);(case jk=>k_is));(case g_law_head=>refine' ⟨?ja,L2.fun_mk ?jl ?jc ?jk⟩;(case ja=>k_is);(case jl=>k_is);(case jc=>k_is);(case jk=>k_is));(case g_law_put=>refine' ⟨?ja,L2.fun_mk ?jl ?jc ?jk⟩;(case ja=>k_is);(case jl=>k_is);(case jc=>k_is);(case jk=>k_is));(case g_law_step=>refine' ⟨?ja,L2.fun_mk ?jl ?jc ?jk⟩;(case ja=>k_is);(case jl=>k_is);(case jc=>k_is);(case jk=>k_is));(case g_law_grown=>refine' ⟨?ja,L2.fun_mk ?jl ?jc ?jk⟩;(case ja=>k_is);(case jl=>k_is);(case jc=>k_is);(case jk=>k_is));(case g_law_order=>refine' ⟨?ja,L2.fun_mk ?jl ?jc ?jk⟩;(case ja=>k_is);(case jl=>k_is);(case jc=>k_is);(case jk=>k_is));(case g_law_renumbered=>refine' ⟨?ja,L2.fun_mk ?jl ?jc ?jk⟩;(case ja=>k_is);(case jl=>k_is);(case jc=>k_is);(case jk=>k_is));(case g_law_cell=>refine' ⟨?ja,L2.fun_mk ?jl ?jc ?jk⟩;(case ja=>k_is);(case jl=>k_is);(case jc=>k_is);(case jk=>k_is));(case g_law_kinds=>refine' ⟨?ja,L2.fun_mk ?jl ?jc ?jk⟩;(case ja=>k_is);(case jl=>k_is);(case jc=>k_is);(case jk=>k_is));(case g_law_texted=>refine' ⟨?ja,L2.fun_mk ?jl ?jc ?jk⟩;(case ja=>k_is);(case jl=>k_is);(case jc=>k_is);(case jk=>k_is));(case g_law_sign=>refine' ⟨?ja,L2.fun_mk ?jl ?jc ?jk⟩;(case ja=>k_is);(case jl=>k_is);(case jc=>k_is);(case jk=>k_is));(case g_law_base=>refine' ⟨?ja,L2.fun_mk ?jl ?jc ?jk⟩;(case ja=>k_is);(case jl=>k_is);(case jc=>k_is);(case jk=>k_is));(case g_law_word=>refine' ⟨?ja,L2.fun_mk ?jl ?jc ?jk⟩;(case ja=>k_is);(case jl=>k_is);(case jc=>k_is);(case jk=>k_is));(case g_law_row=>refine' ⟨?ja,L2.fun_mk ?jl ?jc ?jk⟩;(case ja=>k_is);(case jl=>k_is);(case jc=>k_is);(case jk=>k_is));(case g_law_spoiled=>refine' ⟨?ja,L2.fun_mk ?jl ?jc ?jk⟩;(case ja=>k_is);(case jl=>k_is);(case jc=>k_is);(case jk=>k_is));(case g_law_refused=>refine' ⟨?ja,L2.fun_mk ?jl ?jc ?jk⟩;(case ja=>k_is);(case jl=>k_is);(case jc=>k_is);(case jk=>k_is));(case g_law_many=>refine' ⟨?ja,L2.fun_mk ?jl ?jc ?jk⟩;(case ja=>k_is);(case jl=>k_is);(case jc=>k_is);(case jk=>k_is));(case dt|dz|dv|dw|fX|gf|fZ|et|fV|gd|fY|f7|yL|AX|Bu|AZ=>k_is)
  (case eY|ik|gG|jR|iK=>k_exc)
  (case pI|qc|pF|pA|pR|pW|hU|hG|dq|pH|qb|pE|pj|pQ|pV|g9|g8|dm|vo|wq|vk|uV|vM|vU|g7|gZ|fO|fu|fP|gi_gF|gi_gL=>k_is)
  (case kd1_|kd2_|kd3_|kd4_|kd5_|es2_=>kernel_rfl)
  (case zT|zU|zQ|uh|ug|oU|oW|zV|gE|fG|zR|zP|lE|zS|fH=>k_is)
