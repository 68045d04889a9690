import PyProof.Rows.All
import Wide.All
import OpenK.AllK
import Wide.FinOn
import Lean
import PyProof.EqAt
import PyProof.EqKinds
import PyProof.TupleCall
import PySem.Challenge.RW_spinfloor_k24_joinings_refused
open Array renaming length_toList → DX, toList_append → Ef, getElem?_toList → Et, getElem?_eq_getElem → EI, toList_push → E8, perm_iff_toList_perm → FF, toList_reverse → FG, getElem?_eq_none → FU, toList_extract → F6, getD → F9, getD_eq_getD_getElem? → Gb, getElem?_eq_some_iff → Gd, toList_setIfInBounds → Hi, size_setIfInBounds → Ho
open Bool renaming false_ne_true → DW, false_eq_true → Ed, not_eq_true' → FX, not_true → Gm, eq_iff_iff → GB, false_and → GH, and_eq_true → G9, or_false → HC
open Classical renaming choose_spec → GA
open Int renaming toNat_natCast → DV, le_refl → EL, emod_nonneg → ES, le_of_lt → Fd, emod_lt_of_pos → Fe, zero_add → FO, natCast_nonneg → GS, fdiv_eq_ediv_of_nonneg → Hh
open List renaming getElem?_eq_getElem → DB, getElem?_eq_some_iff → DC, getD_eq_getElem?_getD → DD, length_map → DG, mem_of_getElem? → DH, mem_cons → DI, replicate → DJ, getElem?_map → DK, length_append → DL, mem_cons_of_mem → DM, mem_append → DN, mem_singleton → DP, mem_append_right → DQ, size_toArray → DT, mem_cons_self → DU, length_take → DY, length_cons → DZ, getElem?_append_right → D5, map_cons → D6, not_mem_nil → D7, take_append_drop → D8, append_assoc → D9, getElem?_append_left → Eh, length_drop → Ek, nodup_cons → Eo, take_of_length_le → Er, getElem_mem → Ew, map_append → Ex, take_add_one → Ez, range → EA, pairwise_append → EB, mem_append_left → EC, mem_map → ED, take_length → EG, length_range → EH, mem_of_mem_drop → EK, getElem_of_mem → EN, mem_of_mem_take → ER, perm_append_comm → EY, mem_range → E2, length_replicate → Fc, eq_nil_of_length_eq_zero → Ff, erase_cons_head → Fg, length_singleton → Fl, getElem?_drop → Fm, drop_eq_getElem_cons → Fn, getElem?_replicate → Fq, nodup_nil → Fu, getElem?_take → Fv, length_set → Fx, length_nil → Fy, append_nil → Fz, sum_cons → FC, perm_ext_iff_of_nodup → FD, pairwise_iff_getElem → FJ, extract_eq_drop_take → FK, drop_drop → FL, map_map → FN, length_eq_zero_iff → FR, find?_cons → FT, getElem_take → FV, drop_zero → FY, drop_take → FZ, getElem?_eq_none → F1, replicate_succ' → F4, perm_cons_erase → F5, take_add → F8, map_congr_left → Ga, take_take → Gf, filter_cons → Gp, length_pos_of_mem → Gq, getElem?_set_self → Gr, drop_eq_nil_of_le → Gs, mem_of_mem_erase → Gx, mem_filter → Gy, foldl_cons → Gz, getElem?_set_ne → GF, take_zero → GG, length_reverse → GJ, length → GK, filterMap_cons → GN, mem_replicate → GQ, mem_filterMap → GR, length_erase → GV, getElem_drop → GW, getElem?_set → GX, foldl_append → GY, ext_getElem? → GZ, take_append_of_le_length → G4, mem_reverse → G5, isEmpty_nil → G6, ext_getElem → G7, drop_append → G8, of_mem_zip → He, count_cons → Hf, length_eraseIdx_of_lt → Hg, length_erase_of_mem → Hm, pairwise_singleton → Hx, filter_cons_of_pos → Hy, filter_cons_of_neg → Hz, any_cons → HB
open List.Nodup renaming not_mem_erase → Hn
open List.Pairwise renaming nil → FW
open List.Perm renaming append_left → EZ
open Nat renaming le_refl → DF, ne_of_lt → DO, lt_of_lt_of_le → Ei, le_of_lt → Ej, testBit_two_pow → Em, zero_le → Eu, lt_irrefl → Ey, eq_of_testBit_eq → EE, lt_succ_self → EF, ne_of_gt → EJ, pow_lt_pow_right → EO, xor_assoc → ET, lt_succ_of_lt → EX, testBit_xor → E3, pow_le_pow_right → E4, zero_testBit → E5, sub_self → E6, le_trans → E7, two_pow_pos → Fb, not_lt_zero → Fh, lt_trans → Fj, min_eq_left → Fo, le_succ → Fp, testBit_or → Ft, testBit_two_pow_sub_one → Fw, xor_lt_two_pow → FP, testBit_and → FQ, xor_self → F0, not_lt_of_le → F2, le_add_right → F3, xor_comm → Ge, or_lt_two_pow → Gh, le_succ_of_le → Gi, le_of_not_lt → Gn, mul_le_mul_right → GD, xor_zero → G0, testBit → Hd
open Nat.succ renaming inj → G3
open Option renaming map_eq_some_iff → Ec, map_some → Gw, isSome_iff_exists → Hl
open Option.some renaming inj → El
open PySem renaming Spec → DR, mem_of_lookup → EU
open PySem.F renaming plain_min_loop → Ep, plainAttrs_list → Es, type_list_append → EV, slot_list_append → EW, plain_extend_loop → E9, entry_min_loop → Fi, slot_list_count → Gj, plainAttrs_dict → Gk, slot_dict_get → Gv, args_list_init_2 → Hk, type_list_count → Hr, typeCall_list_1 → Hs, slot_list_index → Ht, slot_dict_items → Hu, entry_list_init → Hv, args_dict_get_3 → Hw
open PySem.W renaming Frag → DE, nsIn → DS, keepIn → D4, mg_of → Ea, codeIn → Eb, fnOf → Ee, kitOne → Eg, mg_none_of → En, mroIn → EM, findIn → E1, CodeHd → Fs, tabIn → FA, excIn → F7, hasDictIn → Gg, kla_obj → Gu, looks_findIn → GC, hideAll_get → GI, callWith_K → GO, Looks → GP, methodObj → GU, OpenLaw → Hc, tabObj → Hj, clsIn → Hq
set_option Elab.async false
set_option linter.all false
set_option maxRecDepth 100000
local macro_rules | `(tactic| omega) => `(tactic| first | assumption | lia | omega +splitDisjunctions)
namespace L2
open PySem PySem.Spec PyProof.Rows
abbrev Key:=Sum Int Str
def nF:Key->Value->Bool
 |.inl k,v=>Value.isInt k v
 |.inr x,v=>Value.isStrOf x v
def keyH(w:World):Key->Int
 |.inl k=>hashInt k
 |.inr x=>hashStr w x
theorem aO:∀{k:Key}{v:Value},nF k v=true->(∃ i t,k=Sum.inl i/\v=Value.int i t)∨(∃ x t,k=Sum.inr x/\v=Value.str x t)
 |.inl i,v,h=>by
  obtain⟨t,e⟩:=Value.isInt_shape (k:=i) (v:=v) h
  exact .inl ⟨i,t,rfl,e⟩
 |.inr x,v,h=>by
  obtain⟨t,e⟩:=Value.isStrOf_shape (x:=x) (v:=v) h
  exact .inr ⟨x,t,rfl,e⟩
theorem xA(i:Int)(t:Tok):nF (.inl i) (.int i t)=true:=by simp[nF,Value.isInt]
theorem xy(x:Str)(t:Tok):nF (.inr x) (.str x t)=true:=by simp[nF,Value.isStrOf]
theorem key_ll(a b:Int):decide ((Sum.inl a:Key)=Sum.inl b)=(a == b):=by
 by_cases e:a=b
 ·subst e;simp
 ·have h:¬ (Sum.inl a:Key)=Sum.inl b:=fun q=>e (Sum.inl.inj q)
  rw[decide_eq_false h]
  exact(beq_eq_false_iff_ne.mpr e).symm
theorem key_rr(a b:Str):decide ((Sum.inr a:Key)=Sum.inr b)=decide (a=b):=by
 by_cases e:a=b
 ·subst e;simp
 ·have h:¬ (Sum.inr a:Key)=Sum.inr b:=fun q=>e (Sum.inr.inj q)
  rw[decide_eq_false h,decide_eq_false e]
theorem key_lr(a:Int)(b:Str):decide ((Sum.inl a:Key)=Sum.inr b)=false:=decide_eq_false (fun q=>nomatch q)
theorem key_rl(a:Str)(b:Int):decide ((Sum.inr a:Key)=Sum.inl b)=false:=decide_eq_false (fun q=>nomatch q)
def bg(prog:Program)(w:World):PySem.KeyKind prog w Key where
 is:=nF
 hash:=keyH w
 inj:=fun v a b ha hb=>by
  rcases aO ha with⟨i,t,rfl,rfl⟩ | ⟨x,t,rfl,rfl⟩
  ·rcases aO hb with⟨j,u,rfl,e⟩ | ⟨y,u,rfl,e⟩
   ·injection e with e1 _;rw[e1]
   ·exact nomatch e
  ·rcases aO hb with⟨j,u,rfl,e⟩ | ⟨y,u,rfl,e⟩
   ·exact nomatch e
   ·injection e with e1 _;rw[e1]
 byValue:=fun k v h=>by
  rcases aO h with⟨i,t,rfl,rfl⟩ | ⟨x,t,rfl,rfl⟩<;>rfl
 pyHash:=fun hv h=>by
  rcases aO hv with⟨i,t,rfl,rfl⟩ | ⟨x,t,rfl,rfl⟩
  ·exact wpAny_pyHash_int h
  ·exact wpAny_pyHash_str h
 eqBool:=fun hu hv h=>by
  rcases aO hu with⟨i,t,rfl,rfl⟩ | ⟨x,t,rfl,rfl⟩
  ·rcases aO hv with⟨j,u,rfl,rfl⟩ | ⟨y,u,rfl,rfl⟩
   ·rw[key_ll]at h;exact wpAny_eqBool_int h
   ·rw[key_lr]at h;exact SeqAt.EqAt.int_str i t y u _ _ _ _ h
  ·rcases aO hv with⟨j,u,rfl,rfl⟩ | ⟨y,u,rfl,rfl⟩
   ·rw[key_rl]at h;exact SeqAt.EqAt.str_int x t j u _ _ _ _ h
   ·rw[key_rr]at h;exact wpAny_eqBool_str h
 «strs»:=fun k x t v h=>by
  rcases aO h with⟨i,u,rfl,e⟩ | ⟨y,u,rfl,e⟩
  ·exact nomatch e
  ·injection e with e1 _
   subst e1
   cases v<;>rfl
theorem qP(prog:Program)(w:World)(i:Int)(t:Tok):(bg prog w).is (.inl i) (.int i t)=true:=xA i t
theorem qO(prog:Program)(w:World)(x:Str)(t:Tok):(bg prog w).is (.inr x) (.str x t)=true:=xy x t
end L2
namespace L2
open PySem PySem.Spec PyProof.Rows
inductive V where
 |non | bl (b:Bool) | int (i:Int) | str (x:Str) | byt (b:Array UInt8) | flt (b:UInt64) | ref (a:Addr) | ty (n:String)
 deriving DecidableEq
def RelV:V->Value->Prop
 |.non,u=>u=Value.none
 |.bl b,u=>u=Value.bool b
 |.int i,u=>∃ t,u=Value.int i t
 |.str x,u=>∃ t,u=Value.str x t
 |.byt b,u=>∃ t,u=Value.bytes b t
 |.flt b,u=>∃ t,u=Value.float b t
 |.ref a,u=>u=Value.ref a
 |.ty n,u=>u=Value.type n
abbrev Vals:List V->List Value->Prop:=Paired RelV
theorem Vals.length{xs:List V}{us:List Value}(r:Vals xs us):xs.length=us.length:=Paired.length r
theorem Vals.get:∀{xs:List V}{us:List Value}{i:Nat}{x:V},Vals xs us->xs[i]?=some x->∃ u,us[i]?=some u/\RelV x u
 |_,_,_,_,.nil,e=>by simp at e
 |_,_,0,_,.cons r _,e=>by simp at e;subst e;exact⟨_,rfl,r⟩
 |_,_,i+1,x,.cons _ t,e=>by
  obtain⟨u,h1,h2⟩:=Vals.get (i:=i) (x:=x) t (by simpa using e)
  exact⟨u,by simpa using h1,h2⟩
theorem Vals.set{x:V}{u:Value}(r:RelV x u):∀{xs:List V}{us:List Value}(i:Nat),Vals xs us->Vals (xs.set i x) (us.set i u)
 |_,_,_,.nil=>.nil
 |_,_,0,.cons _ t=>.cons r t
 |_,_,i+1,.cons q t=>.cons q (Vals.set r i t)
theorem Vals.append:∀{xs ys:List V}{us ws:List Value},Vals xs us->Vals ys ws->Vals (xs++ys) (us++ws)
 |_,_,_,_,.nil,s=>s
 |_,_,_,_,.cons r t,s=>.cons r (Vals.append t s)
theorem Vals.take:∀{xs:List V}{us:List Value}(n:Nat),Vals xs us->Vals (xs.take n) (us.take n)
 |_,_,0,_=>.nil
 |_,_,_+1,.nil=>.nil
 |_,_,n+1,.cons r t=>.cons r (Vals.take n t)
theorem Vals.drop:∀{xs:List V}{us:List Value}(n:Nat),Vals xs us->Vals (xs.drop n) (us.drop n)
 |_,_,0,r=>r
 |_,_,_+1,.nil=>.nil
 |_,_,n+1,.cons _ t=>Vals.drop n t
def RelO:Option V->Option Value->Prop
 |some v,some u=>RelV v u
 |none,none=>True
 |_,_=>False
def KV{κ:Type}:List (κ×V)->List (κ×Value)->Prop:=Paired fun(p:κ×V) (q:κ×Value)=>p.1=q.1/\RelV p.2 q.2
def kV:Key->V
 |.inl i=>.int i
 |.inr x=>.str x
inductive HO where
  |lst (xs:List V)
  |tup (xs:List V)
  |dK (kvs:List (Key×V)) | dT (kvs:List (List Key×V))
  |set (S:Int->Bool) (n:Nat)
  |ins (C dx:Addr) (fs:List (Str×V))
  |own (x:Addr)
  |xd (fs:List (Str×V))
  |met (f x:Addr)
  |rng (lo hi:Int)
  |frz (o:Obj) (u:HO)
  |tbl (ps:Array Value)
  |ext (φ:Heap->Prop)
abbrev Hp:=Addr->Option HO
def upd(H:Hp)(a:Addr)(o:HO):Hp:=fun b=>if b=a then some o else H b
theorem ag{H:Hp}{a:Addr}{o:HO}:upd H a o a=some o:=by unfold upd;rw[if_pos rfl]
theorem aj{H:Hp}{a b:Addr}{o:HO}(h:b≠a):upd H a o b=H b:=by unfold upd;rw[if_neg h]
theorem ne_of{H:Hp}{a b:Addr}{o u:HO}(h:H a=some o)(h':H b=some u)(d:o≠u):a≠b:=by
 intro e;subst e;rw[h]at h';exact d (El h')
theorem br{H:Hp}{a b:Addr}{o:HO}(h:H a=some o)(h':H b=none):a≠b:=by
 intro e;subst e;rw[h]at h';cases h'
section
variable(P:Program)(w:World)
def bD(H:Hp)(h:Heap)(a:Addr):HO->Prop
 |.lst xs=>xs.length<=sizeLine/\∃(its:List Value)(n:Nat),Vals xs its/\h.get? a=some { cls:=.type "list",data:=.seq its.toArray n }
 |.tup xs=>xs.length<=sizeLine/\∃ its:List Value,Vals xs its/\IsTup h a its.toArray
 |.dK kvs=>kvs.length<=sizeLine/\(a == sysModules)=false/\∃ vs,KV kvs vs/\h.DictOf (bg P w) a vs
 |.dT kvs=>kvs.length<=sizeLine/\(a == sysModules)=false/\∃ xs:List (List Key×Addr×Value),
   Paired (fun(p:List Key×V) (q:List Key×Addr×Value)=>p.1=q.1/\H q.2.1=some (.tup (p.1.map kV))/\RelV p.2 q.2.2) kvs xs /\
   ∃ o es ep,h.get? a=some o/\o.ExactDict/\o.data=.dict es ep/\es.toList=xs.map (entryOfKey (tupleKind (bg P w)))/\(xs.map (·.1)).Nodup
 |.set S n=>h.SetOf (intKind P w) a S n
 |.ins C dx fs=>H dx=some (.own a)/\fs.length<=1000/\dx≠a/\h.get? a=some (PySem.W.instObj C dx) /\
   ∃ mA,h.Ns1 dx mA/\(∀ f,RelO (fs.lookup f) (mA f))/\PySem.Within mA (fs.map (·.1))
 |.own _=>∃ o,h.get? a=some o
 |.xd fs=>∃ mA,h.Ns1 a mA/\∀ f,RelO (fs.lookup f) (mA f)
 |.rng lo hi=>∃ t u v,h.get? a=some { cls:=.type "range",data:=.fields #[.int lo t,.int hi u,.int 1 v] }
 |.frz o u=>h.get? a=some o/\bD H h a u
 |.tbl ps=>h.get? a=some { cls:=.none,data:=.fields ps }
 |.met f x=>h.get? a=some (GU (.ref f) (.ref x))
 |.ext φ=>φ h/\(∃ o,h.get? a=some o)/\∀ h1 h2:Heap,φ h1->(∀ o,h1.get? a=some o->h2.get? a=some o)->φ h2
def HOk(H:Hp)(h:Heap):Prop:=∀ a o,H a=some o->bD P w H h a o
end
section
variable{P:Program}{w:World}{H H':Hp}{h h':Heap}{a:Addr}{o:HO}
theorem bD.lt(x:bD P w H h a o):a<h.objs.size:=by
 cases o with
 |lst xs=>obtain⟨_,_,_,_,e⟩:=x;exact Heap.lt_size e
 |tup xs=>obtain⟨_,_,_,p⟩:=x;exact p.lt
 |dK kvs=>obtain⟨_,_,_,_,o,_,_,e,_⟩:=x;exact Heap.lt_size e
 |dT kvs=>obtain⟨_,_,_,_,o,_,_,e,_⟩:=x;exact Heap.lt_size e
 |set S n=>obtain⟨o,_,_,_,e,_⟩:=x;exact Heap.lt_size e
 |ins C dx fs=>obtain⟨_,_,_,e,_⟩:=x;exact Heap.lt_size e
 |own y=>obtain⟨_,e⟩:=x;exact Heap.lt_size e
 |xd fs=>obtain⟨_,⟨_,_,_,e,_⟩,_⟩:=x;exact Heap.lt_size e
 |rng lo hi=>obtain⟨_,_,_,e⟩:=x;exact Heap.lt_size e
 |frz ob u=>obtain⟨e,_⟩:=x;exact Heap.lt_size e
 |tbl ps=>exact Heap.lt_size (show h.get? a=some _ from x)
 |met f y=>exact Heap.lt_size (show h.get? a=some _ from x)
 |ext φ=>obtain⟨_,⟨_,e⟩,_⟩:=x;exact Heap.lt_size e
theorem Paired.mapP{α β:Type}{F G:α->β->Prop}:∀{l₁:List α}{l₂:List β},Paired F l₁ l₂->(∀ a b,F a b->G a b)->Paired G l₁ l₂
 |_,_,.nil,_=>.nil
 |_,_,.cons r t,f=>.cons (f _ _ r) (Paired.mapP t f)
theorem bD.stay(x:bD P w H h a o)(k:∀ b u,(b=a∨H b=some (.own a))->h.get? b=some u->h'.get? b=some u)
  (ho:∀ b,H b=some (.own a)->H' b=some (.own a)) (ht:∀ b xs,H b=some (.tup xs)->H' b=some (.tup xs)):bD P w H' h' a o:=by
 induction o with
 |lst xs=>obtain⟨z,its,n,r,e⟩:=x;exact⟨z,its,n,r,k _ _ (.inl rfl) e⟩
 |tup xs=>obtain⟨z,its,r,ob,e,c⟩:=x;exact⟨z,its,r,ob,k _ _ (.inl rfl) e,c⟩
 |dK kvs=>obtain⟨z,y,vs,r,ob,es,ep,e,c⟩:=x;exact⟨z,y,vs,r,ob,es,ep,k _ _ (.inl rfl) e,c⟩
 |dT kvs =>
  obtain⟨z,y,xs,r,ob,es,ep,e,c⟩:=x
  exact⟨z,y,xs,Paired.mapP r fun p q z=>⟨z.1,ht _ _ z.2.1,z.2.2⟩,ob,es,ep,k _ _ (.inl rfl) e,c⟩
 |set S n=>obtain⟨ob,es,ep,t,e,c⟩:=x;exact⟨ob,es,ep,t,k _ _ (.inl rfl) e,c⟩
 |ins C dx fs =>
  obtain⟨d,z,ne,e,mA,⟨od,es,ep,e2,c⟩,r⟩:=x
  exact⟨ho _ d,z,ne,k _ _ (.inl rfl) e,mA,⟨od,es,ep,k _ _ (.inr d) e2,c⟩,r⟩
 |own y=>obtain⟨ob,e⟩:=x;exact⟨ob,k _ _ (.inl rfl) e⟩
 |xd fs=>obtain⟨mA,⟨od,es,ep,e,c⟩,r⟩:=x;exact⟨mA,⟨od,es,ep,k _ _ (.inl rfl) e,c⟩,r⟩
 |rng lo hi=>obtain⟨t,u,v,e⟩:=x;exact⟨t,u,v,k _ _ (.inl rfl) e⟩
 |frz ob u ih=>obtain⟨e,q⟩:=x;exact⟨k _ _ (.inl rfl) e,ih q⟩
 |tbl ps =>
  have e:h.get? a=some { cls:=.none,data:=.fields ps }:=x
  show h'.get? a=some { cls:=.none,data:=.fields ps }
  exact k a _ (.inl rfl) e
 |met f y =>
  have e:h.get? a=some (GU (.ref f) (.ref y)):=x
  show h'.get? a=some (GU (.ref f) (.ref y))
  exact k a _ (.inl rfl) e
 |ext φ=>obtain⟨p,⟨o,e⟩,st⟩:=x;exact⟨st _ _ p fun o q=>k _ _ (.inl rfl) q,⟨o,k _ _ (.inl rfl) e⟩,st⟩
theorem HOk.lt(x:HOk P w H h)(e:H a=some o):a<h.objs.size:=(x a o e).lt
theorem HOk.fresh(x:HOk P w H h)(e:h.objs.size<=a):H a=none:=by
 cases q:H a with
 |none=>rfl
 |some u=>exact absurd (Ei (x.lt q) e) (Ey _)
theorem HOk.kept(x:HOk P w H h)(k:∀ b u,h.get? b=some u->h'.get? b=some u):HOk P w H h':=fun a o e =>
 (x a o e).stay (fun b u _ q=>k b u q) (fun _ q=>q) fun _ _ q=>q
theorem HOk.laid(x:HOk P w H h)(k:∀ b u,h.get? b=some u->h'.get? b=some u)(hp:h.objs.size<=a)(new:bD P w (upd H a o) h' a o):HOk P w (upd H a o) h':=fun b u e=>by
 have hn:=x.fresh hp
 by_cases hb:b=a
 ·subst hb;rw[ag]at e;cases e;exact new
 ·rw[aj hb]at e
  exact(x b u e).stay (fun c v _ q=>k c v q) (fun c q=>by rw[aj (br q hn)];exact q) fun c xs q=>by rw[aj (br q hn)];exact q
end
def Rd(H:Hp)(a:Addr)(u:HO):Prop:=H a=some u∨∃ o,H a=some (.frz o u)
theorem Rd.ok{P:Program}{w:World}{H:Hp}{h:Heap}{a:Addr}{u:HO}(r:Rd H a u)(x:HOk P w H h):bD P w H h a u:=by
 rcases r with r | ⟨o,r⟩
 ·exact x a u r
 ·obtain⟨_,q⟩:=x a _ r
  exact q
def Mut:Option HO->Prop
 |some (.lst _)=>True
 |some (.dK _)=>True
 |some (.dT _)=>True
 |some (.set _ _)=>True
 |some (.ins _ _ _)=>True
 |some (.ext _)=>True
 |_=>False
section
variable{P:Program}{w:World}{H:Hp}{h h':Heap}{x e:Addr}{o':HO}
theorem HOk.write(ok:HOk P w H h)(mu:Mut (H x))(he:e=x∨H e=some (.own x))(k:∀ b u,b≠e->h.get? b=some u->h'.get? b=some u)(heo:∃ u,h'.get? e=some u)
  (new:bD P w (upd H x o') h' x o'):HOk P w (upd H x o') h':=fun b u q=>by
 have nown:∀ c y,H c=some (.own y)->c≠x:=fun c y r z=>by subst z;rw[r]at mu;exact mu
 have ntup:∀ c xs,H c=some (.tup xs)->c≠x:=fun c xs r z=>by subst z;rw[r]at mu;exact mu
 by_cases hb:b=x
 ·subst hb;rw[ag]at q;cases q;exact new
 ·rw[aj hb]at q
  by_cases hbe:b=e
  ·have q':H b=some (.own x):=by
    rcases he with z | z
    ·exact absurd (hbe.trans z) hb
    ·rw[hbe];exact z
   rw[q]at q';cases q'
   obtain⟨v,hv⟩:=heo
   exact⟨v,by rw[hbe];exact hv⟩
  ·refine(ok b u q).stay (fun c v hc r=>k c v ?_ r) (fun c r=>by rw[aj (nown c b r)];exact r) fun c xs r=>by rw[aj (ntup c xs r)];exact r
   rcases hc with rfl | hc
   ·exact hbe
   ·rintro rfl
    rcases he with z | z
    ·exact nown c b hc z
    ·rw[hc]at z;cases z;exact hb rfl
end
structure Un(fs ex:List Addr)(H H':Hp)(h h':Heap):Prop where
 keep:∀ b o,h.get? b=some o->H b=none->b∉fs->b∉ex->h'.get? b=some o
 slot:∀ b o,h.get? b=some o->H b=none->b∈fs->b∉ex->∃ sl,h'.get? b=some { o with slots:=sl }
 free:∀ b o,h.get? b=some o->H b=none->b∉ex->H' b=none
 there:∀ b o,h.get? b=some o->b∉ex->∃ o',h'.get? b=some o'
 tups:∀ b xs,H b=some (.tup xs)->H' b=some (.tup xs)
 frzs:∀ b o u,H b=some (.frz o u)->H' b=some (.frz o u)
 tbls:∀ b ps,H b=some (.tbl ps)->∃ more,H' b=some (.tbl (ps++more))
section
variable{fs fs' ex ex':List Addr}{H H1 H2:Hp}{h h1 h2 h':Heap}{a x e:Addr}{o:HO}
theorem Un.any(u:Un fs ex H H1 h h1){b:Addr}{ob:Obj}(q:h.get? b=some ob)(n:H b=none)(hx:b∉ex):∃ sl,h1.get? b=some { ob with slots:=sl }:=by
 by_cases hb:b∈fs
 ·exact u.slot b ob q n hb hx
 ·exact⟨ob.slots,u.keep b ob q n hb hx⟩
theorem Un.kept(k:∀ b u,h.get? b=some u->h'.get? b=some u):Un fs ex H H h h' :=
 ⟨fun b ob q _ _ _=>k b ob q,fun b ob q _ _ _=>⟨ob.slots,k b ob q⟩,fun _ _ _ n _=>n,fun b ob q _=>⟨ob,k b ob q⟩,fun _ _ q=>q,fun _ _ _ q=>q,fun _ ps q=>⟨#[],by rw[q];simp⟩⟩
theorem Un.refl:Un fs ex H H h h:=Un.kept fun _ _ q=>q
theorem Un.laid(k:∀ b u,h.get? b=some u->h'.get? b=some u)(hp:h.objs.size<=a)(hn:H a=none):Un fs ex H (upd H a o) h h' where
 keep:=fun b u q _ _ _=>k b u q
 slot:=fun b u q _ _ _=>⟨u.slots,k b u q⟩
 free:=fun b u q n _=>by rw[aj (DO (Ei (Heap.lt_size q) hp))];exact n
 there:=fun b u q _=>⟨u,k b u q⟩
 tups:=fun b xs q=>by rw[aj (br q hn)];exact q
 frzs:=fun b u xs q=>by rw[aj (br q hn)];exact q
 tbls:=fun b ps q=>⟨#[],by rw[aj (br q hn),q];simp⟩
theorem Un.write(mu:Mut (H x))(he:e=x∨H e=some (.own x))(k:∀ b u,b≠e->h.get? b=some u->h'.get? b=some u)(heo:∃ u,h'.get? e=some u):Un fs ex H (upd H x o) h h':=by
 have hx:∀ b,H b=none->b≠x:=fun b n z=>by subst z;rw[n]at mu;exact mu
 have hb:∀ b,H b=none->b≠e:=fun b n z=>by
  subst z
  rcases he with r | r
  ·exact hx b n r
  ·rw[n]at r;cases r
 have hm:∀ b u,H b=some u->¬ Mut (some u)->b≠x:=fun b u q nm z=>by subst z;rw[q]at mu;exact nm mu
 refine⟨fun b u q n _ _=>k b u (hb b n) q,fun b u q n _ _=>⟨u.slots,k b u (hb b n) q⟩,fun b u q n _=>by rw[aj (hx b n)];exact n,fun b u q _=>?_,
  fun b xs q=>by rw[aj (hm b _ q fun z=>z)];exact q,fun b u xs q=>by rw[aj (hm b _ q fun z=>z)];exact q,fun b ps q=>⟨#[],by rw[aj (hm b _ q fun z=>z),q];simp⟩⟩
 by_cases hbe:b=e
 ·subst hbe;exact heo
 ·exact⟨u,k b u hbe q⟩
end
def trk(h:Heap)(H:Hp):List Addr:=(EA h.objs.size).filter fun a=>(H a).isSome
def hidT(h:Heap)(H:Hp):Heap:=PySem.W.hideAll h (trk h H)
theorem xN(h:Heap)(H:Hp):(hidT h H).objs.size=h.objs.size:=PySem.W.hideAll_size _ _
theorem jn{h:Heap}{H:Hp}{b:Addr}{o:Obj}(e:h.get? b=some o)(n:H b=none):(hidT h H).get? b=some o :=
 GI _ e fun hm=>by
  have q:(H b).isSome=true:=(Gy.mp hm).2
  rw[n]at q;simp at q
theorem Cy{h:Heap}{H:Hp}{b:Addr}{o:Obj}(e:(hidT h H).get? b=some o):h.get? b=some o/\H b=none:=by
 have e':h.get? b=some o:=PySem.W.of_hideAll (trk h H) e
 refine⟨e',?_⟩
 cases q:H b with
 |none=>rfl
 |some x =>
  have hm:b∈trk h H:=Gy.mpr ⟨E2.mpr (Heap.lt_size e'),by simp[q]⟩
  have z:(hidT h H).get? b=none:=PySem.W.hideAll_none (trk h H) hm
  rw[z]at e;cases e
end L2
namespace L2
open PySem PySem.Spec PyProof.Rows
structure Mod(K:DE)(mg:Str->Option Value)(base:Heap):Prop where
 kin:K.In base
 glob:base.Ns mainGlobals mg
 blt:∃ mb,base.Ns builtinsNs mb/\∀ x:Str,x≠"__name__"->mb x=bootBuiltins x
 nolimit:base.NoLimit
structure Cx where
 prog:Program
 w:World
 K:DE
 mg:Str->Option Value
 base:Heap
 A:Around
 N:List Str
 s₀:Shared
 H₀:Hp
 env:Env
 outer:List Env
 stack:List Env
 ex:List Addr
 fn:Str->Bool
 calm:Bool
 pn:List (Addr×Obj)
 xe:Value->Shared->Prop
def frs(l:List Env):List Addr:=l.filterMap (·.frame)
abbrev Cx.fs(X:Cx):List Addr:=frs X.outer
def Vis(sc:Scope)(x:Str):Prop:=sc.names.lookup x=some .local∨sc.names.lookup x=some .cell∨sc.names.lookup x=some .free
def Loc(sc:Scope)(x:Str):Prop:=sc.names.lookup x=some .local∨sc.names.lookup x=some .cell
def Look(env:Env)(h:Heap)(m:Str->Option Value)(x:Str)(u:Value):Prop :=
 (env.kindOf x=some .local/\m x=some u)∨((env.kindOf x=some .cell∨env.kindOf x=some .free)/\∃ c,env.cells.lookup x=some c/\h.IsCell c (some u))
structure Cx.Ok(X:Cx):Prop where
 mod:Mod X.K X.mg X.base
 kind:X.env.scope.kind=.function
 glob:X.env.globals=mainGlobals
 blt:X.env.builtins=builtinsNs
 above:X.s₀.heap.objs.size<=X.env.locals
 inj:∀ x y c,X.env.cells.lookup x=some c->X.env.cells.lookup y=some c->x=y
 has:∀ x,(X.env.kindOf x=some .cell∨X.env.kindOf x=some .free)->∃ c,X.env.cells.lookup x=some c
 cab:∀ x c,X.fn x=true->X.env.cells.lookup x=some c->X.s₀.heap.objs.size<=c
 hd:X.calm=true->X.A.handled=none
 frames:X.A.frames=some X.stack
 stk:X.stack=X.outer∨(X.stack=X.env::X.outer/\X.env.frame=some X.env.locals)
 exf:∀ b∈X.ex,b≠X.env.locals/\∀ x c,X.env.cells.lookup x=some c->c≠b
 bs:∀ b o,X.base.get? b=some o->X.s₀.heap.get? b=some o/\X.H₀ b=none
 bsz:X.base.objs.size<=X.s₀.heap.objs.size
 noex:∀ b o,X.base.get? b=some o->b∉X.ex
 exfs:∀ b∈X.ex,b∉X.fs
 funs:X.s₀.heap.FunFrames X.base X.outer
 frf:∀ b∈X.fs,X.H₀ b=none
structure Inv(X:Cx)(pins:List (Addr×Obj))(σ:List (Option V))(H:Hp)(s:Shared):Prop where
 ok:X.Ok
 os:s.os=X.s₀.os
 bare:AllBare s.gens
 base:Un X.fs X.ex X.H₀ H X.s₀.heap s.heap
 loc:∃ m,s.heap.Ns X.env.locals m/\∀(i:Nat)(x:Str)(v:V),X.N[i]?=some x->σ[i]?=some (some v)->Vis X.env.scope x->∃ u,RelV v u/\Look X.env s.heap m x u
 cell:∀ x c,X.env.cells.lookup x=some c->∃ v,s.heap.IsCell c v
 free:H X.env.locals=none
 freeC:∀ x c,X.env.cells.lookup x=some c->H c=none
 pin:∀ p∈X.pn++pins,s.heap.get? p.1=some p.2/\H p.1=none/\p.1≠X.env.locals/\p.1∉X.fs/\∀ v,p.2.data≠.cell v
 hok:HOk X.prog X.w H s.heap
 len:σ.length=X.N.length
section
variable{X:Cx}{pins:List (Addr×Obj)}{σ:List (Option V)}{H H':Hp}{s:Shared}{h':Heap}
theorem Cx.Ok.nofr(ok:X.Ok){b:Addr}{o:Obj}(e:X.base.get? b=some o):b∉X.fs:=fun hb=>by
 have:=(ok.funs.mem hb).1
 rw[e]at this;cases this
theorem Inv.bs(I:Inv X pins σ H s):∀ b o,X.base.get? b=some o->s.heap.get? b=some o/\H b=none:=fun b o e =>
 ⟨I.base.keep b o (I.ok.bs b o e).1 (I.ok.bs b o e).2 (I.ok.nofr e) (I.ok.noex b o e),I.base.free b o (I.ok.bs b o e).1 (I.ok.bs b o e).2 (I.ok.noex b o e)⟩
theorem Inv.bk(I:Inv X pins σ H s):∀ b o,X.base.get? b=some o->s.heap.get? b=some o:=fun b o e=>(I.bs b o e).1
theorem Inv.mod(I:Inv X pins σ H s):Mod X.K X.mg X.base:=I.ok.mod
theorem Inv.kIn(I:Inv X pins σ H s):X.K.In s.heap:=I.ok.mod.kin.keeps I.bk
theorem Inv.nolimit(I:Inv X pins σ H s):s.heap.NoLimit:=I.ok.mod.nolimit.keeps I.bk
theorem Inv.lt(I:Inv X pins σ H s):X.env.locals<s.heap.objs.size:=let ⟨_,hn,_⟩:=I.loc;hn.lt
theorem Inv.sz(I:Inv X pins σ H s):X.s₀.heap.objs.size<=s.heap.objs.size:=E7 I.ok.above (Ej I.lt)
theorem Inv.nofs(I:Inv X pins σ H s){a:Addr}(h:s.heap.objs.size<=a):a∉X.fs:=fun hb=>by
 obtain⟨_,o,ho,_⟩:=I.ok.funs.mem hb
 exact absurd (Ei (Heap.lt_size ho) (E7 I.sz h)) (Ey _)
theorem Inv.cne(I:Inv X pins σ H s):∀ x c,X.env.cells.lookup x=some c->c≠X.env.locals:=fun x c e z=>by
 obtain⟨v,o,ho,hd⟩:=I.cell x c e
 obtain⟨m,⟨o',es,ep,ho',hd',_⟩,_⟩:=I.loc
 rw[z,ho']at ho;cases ho;rw[hd']at hd;cases hd
theorem Inv.funs(I:Inv X pins σ H s):s.heap.FunFrames X.base X.outer:=by
 have all:∀(l:List Env),(∀ b∈frs l,b∈X.fs)->X.s₀.heap.FunFrames X.base l->s.heap.FunFrames X.base l:=by
  intro l
  induction l with
  |nil=>intro _ _;trivial
  |cons env r ih =>
   intro hs hl
   obtain⟨hk,⟨L,o,hf,hn,ho,hd⟩,hr⟩:=hl
   have hL:L∈X.fs:=hs L (by unfold frs;rw[GN,hf];exact DU)
   obtain⟨sl,e⟩:=I.base.slot L o ho (I.ok.frf L hL) hL fun z=>I.ok.exfs L z hL
   exact⟨hk,⟨L,_,hf,hn,e,hd⟩,ih (fun b hb=>hs b (by unfold frs;rw[GN,hf];exact DM _ hb)) hr⟩
 exact all X.outer (fun _ hb=>hb) I.ok.funs
theorem Inv.stack(I:Inv X pins σ H s):s.heap.FunFrames X.base X.stack:=by
 rcases I.ok.stk with e | ⟨e,hf⟩
 ·rw[e];exact I.funs
 ·rw[e]
  obtain⟨m,hn,_⟩:=I.loc
  refine .cons (by rw[I.ok.kind];decide) hf hn ?_ I.funs
  exact Heap.get?_none_of_le (E7 I.ok.bsz I.ok.above)
theorem Inv.stkSub(I:Inv X pins σ H s):∀ b∈frs X.stack,b∈X.env.locals::X.fs:=fun b hb=>by
 rcases I.ok.stk with e | ⟨e,hf⟩
 ·rw[e]at hb;exact DM _ hb
 ·rw[e]at hb
  unfold frs at hb
  rw[GN,hf]at hb
  exact hb
theorem Inv.stkFree(I:Inv X pins σ H s):∀ b∈frs X.stack,H b=none:=fun b hb=>by
 rcases DI.mp (I.stkSub b hb)with e | hb
 ·rw[e];exact I.free
 ·obtain⟨_,o,ho,_⟩:=I.ok.funs.mem hb
  exact I.base.free b o ho (I.ok.frf b hb) fun z=>I.ok.exfs b z hb
theorem Inv.step{g':Array GenState}{t':Nat}{d':Drawn}{ch:List Addr}(I:Inv X pins σ H s)
  (hch:∀ b∈ch,(b∈X.ex∨X.s₀.heap.objs.size<=b)/\b≠X.env.locals/\(∀ x c,X.env.cells.lookup x=some c->c≠b)/\∀ p∈X.pn++pins,p.1≠b)
  (keep:∀ b o,b≠X.env.locals->b∉X.fs->b∉ch->s.heap.get? b=some o->H b=none->h'.get? b=some o)
  (slot:∀ b o,b≠X.env.locals->b∈X.fs->b∉ch->s.heap.get? b=some o->H b=none->∃ sl,h'.get? b=some { o with slots:=sl }) (free:∀ b o,b∉ch->s.heap.get? b=some o->H b=none->H' b=none)
  (there:∀ b o,b∉ch->s.heap.get? b=some o->∃ o',h'.get? b=some o')
  (tups:∀ b xs,H b=some (.tup xs)->H' b=some (.tup xs)) (frzs:∀ b o u,H b=some (.frz o u)->H' b=some (.frz o u)) (tbls:∀ b ps,H b=some (.tbl ps)->∃ more,H' b=some (.tbl (ps++more)))
  (ns:∀ m,s.heap.Ns X.env.locals m->h'.Ns X.env.locals m) (hok:HOk X.prog X.w H' h') (hg:AllBare g') :
  Inv X pins σ H' { s with heap:=h',gens:=g',drawn:=d',toks:=t' }:=by
 have neL:∀ b o,X.s₀.heap.get? b=some o->b≠X.env.locals:=fun b o e=>DO (Ei (Heap.lt_size e) I.ok.above)
 have neC:∀ b o,X.s₀.heap.get? b=some o->b∉X.ex->b∉ch:=fun b o e hx hb=>by
  rcases(hch b hb).1 with z | z
  ·exact hx z
  ·exact absurd (Ei (Heap.lt_size e) z) (Ey _)
 have cellK:∀ x c,X.env.cells.lookup x=some c->∀ v,s.heap.IsCell c v->h'.IsCell c v:=fun x c e v ⟨o,ho,hd⟩=>by
  have nch:c∉ch:=fun z=>(hch c z).2.2.1 x c e rfl
  by_cases hc:c∈X.fs
  ·obtain⟨sl,q⟩:=slot c o (I.cne x c e) hc nch ho (I.freeC x c e)
   exact⟨_,q,hd⟩
  ·exact⟨o,keep c o (I.cne x c e) hc nch ho (I.freeC x c e),hd⟩
 refine⟨I.ok,I.os,hg,⟨fun b o e n hb hx=>?_,fun b o e n hb hx=>?_,fun b o e n hx=>?_,fun b o e hx=>?_,fun b xs e=>tups b xs (I.base.tups b xs e),fun b o xs e=>frzs b o xs (I.base.frzs b o xs e),fun b ps e=>?_⟩,?_,fun x c e=>?_,?_,fun x c e=>?_,fun p hp=>?_,hok,I.len⟩
 ·exact keep b o (neL b o e) hb (neC b o e hx) (I.base.keep b o e n hb hx) (I.base.free b o e n hx)
 ·obtain⟨sl,e1⟩:=I.base.slot b o e n hb hx
  obtain⟨sl',e2⟩:=slot b _ (neL b o e) hb (neC b o e hx) e1 (I.base.free b o e n hx)
  exact⟨sl',e2⟩
 ·obtain⟨o',e1⟩:=I.base.there b o e hx
  exact free b o' (neC b o e hx) e1 (I.base.free b o e n hx)
 ·obtain⟨o',e1⟩:=I.base.there b o e hx
  exact there b o' (neC b o e hx) e1
 ·obtain⟨m1,e1⟩:=I.base.tbls b ps e
  obtain⟨m2,e2⟩:=tbls b _ e1
  exact⟨m1++m2,by rw[e2,Array.append_assoc]⟩
 ·obtain⟨m,hn,hl⟩:=I.loc
  refine⟨m,ns m hn,fun i x v e1 e2 e3=>?_⟩
  obtain⟨u,r,l⟩:=hl i x v e1 e2 e3
  refine⟨u,r,?_⟩
  rcases l with l | ⟨k,c,e,z⟩
  ·exact .inl l
  ·exact .inr ⟨k,c,e,cellK x c e _ z⟩
 ·obtain⟨v,z⟩:=I.cell x c e
  exact⟨v,cellK x c e v z⟩
 ·obtain⟨m,⟨o,_,_,ho,_⟩,_⟩:=I.loc
  exact free _ o (fun z=>(hch _ z).2.1 rfl) ho I.free
 ·obtain⟨v,o,ho,hd⟩:=I.cell x c e
  exact free c o (fun z=>(hch c z).2.2.1 x c e rfl) ho (I.freeC x c e)
 ·obtain⟨e,n,ne,nf,d⟩:=I.pin p hp
  have nch:p.1∉ch:=fun z=>(hch p.1 z).2.2.2 p hp rfl
  exact⟨keep p.1 p.2 ne nf nch e n,free p.1 p.2 nch e n,ne,nf,d⟩
theorem Inv.un{t':Nat}(I:Inv X pins σ H s)(u:Un X.fs [] H H' s.heap h')(hok:HOk X.prog X.w H' h'):Inv X pins σ H' { s with heap:=h',toks:=t' }:=by
 obtain⟨m,⟨o,es,ep,ho,r⟩,_⟩:=id I.loc
 obtain⟨sl,hL⟩:=u.any ho I.free (by simp)
 exact I.step (g':=s.gens) (d':=s.drawn) (ch:=[]) (fun _ z=>nomatch z) (fun b o _ hb _ e n=>u.keep b o e n hb (by simp)) (fun b o _ hb _ e n=>u.slot b o e n hb (by simp)) (fun b o _ e n=>u.free b o e n (by simp)) (fun b o _ e=>u.there b o e (by simp)) u.tups u.frzs u.tbls (fun m' hm=>by
  obtain⟨o',es',ep',ho',r'⟩:=hm
  rw[ho]at ho';cases ho'
  exact⟨_,es',ep',hL,r'⟩) hok I.bare
theorem Inv.call{g':Array GenState}{t':Nat}{d':Drawn}{ch:List Addr}(I:Inv X pins σ H s)(u:Un (frs X.stack) ch H H' s.heap h')(hok:HOk X.prog X.w H' h')(hg:AllBare g')
  (hch:∀ b∈ch,(b∈X.ex∨X.s₀.heap.objs.size<=b)/\b≠X.env.locals/\(∀ x c,X.env.cells.lookup x=some c->c≠b)/\∀ p∈X.pn++pins,p.1≠b) :
  Inv X pins σ H' { s with heap:=h',gens:=g',drawn:=d',toks:=t' }:=by
 obtain⟨m,⟨o,es,ep,ho,r⟩,_⟩:=id I.loc
 obtain⟨sl,hL⟩:=u.any ho I.free fun z=>(hch _ z).2.1 rfl
 exact I.step (ch:=ch) hch (fun b o hL hb hc e n=>u.keep b o e n (fun z=>(DI.mp (I.stkSub b z)).elim hL hb) hc) (fun b o _ _ hc e n=>u.any e n hc) (fun b o hc e n=>u.free b o e n hc) (fun b o hc e=>u.there b o e hc) u.tups u.frzs u.tbls (fun m' hm=>by
  obtain⟨o',es',ep',ho',r'⟩:=hm
  rw[ho]at ho';cases ho'
  exact⟨_,es',ep',hL,r'⟩) hok hg
theorem Inv.turned{t':Nat}{it:Addr}(I:Inv X pins σ H s)(k:∀ b o,b≠it->s.heap.get? b=some o->h'.get? b=some o)(hn:H it=none)(hL:it≠X.env.locals)
  (h1:it∈X.ex∨X.s₀.heap.objs.size<=it) (h2:∀ x c,X.env.cells.lookup x=some c->c≠it) (h3:∀ p∈X.pn++pins,p.1≠it):Inv X pins σ H { s with heap:=h',toks:=t' }:=by
 have nit:∀ b u,H b=some u->b≠it:=fun b u e z=>by rw[z,hn]at e;cases e
 refine I.step (g':=s.gens) (d':=s.drawn) (ch:=[it]) (fun b hb=>?_) (fun b o _ _ hc e _=>k b o (fun z=>hc (by simp[z])) e) (fun b o _ _ hc e _=>⟨o.slots,k b o (fun z=>hc (by simp[z])) e⟩) (fun _ _ _ _ n=>n)
  (fun b o hc e=>⟨o,k b o (fun z=>hc (by simp[z])) e⟩) (fun _ _ e=>e) (fun _ _ _ e=>e) (fun b ps e=>⟨#[],by rw[e];simp⟩) (fun m hm=>?_) (fun b u e=>?_) I.bare
 ·have e:b=it:=by simpa using hb
  subst e
  exact⟨h1,hL,h2,h3⟩
 ·obtain⟨o,es,ep,ho,r⟩:=hm
  exact⟨o,es,ep,k _ o (Ne.symm hL) ho,r⟩
 ·refine(I.hok b u e).stay (fun c v hc q=>k c v ?_ q) (fun _ q=>q) fun _ _ q=>q
  rcases hc with z | z
  ·rw[z];exact nit b u e
  ·exact nit c _ z
theorem Inv.tok(I:Inv X pins σ H s)(t:Nat):Inv X pins σ H { s with toks:=t }:=I.un (h':=s.heap) (t':=t) Un.refl I.hok
theorem Inv.kept{t':Nat}(I:Inv X pins σ H s)(k:∀ b u,s.heap.get? b=some u->h'.get? b=some u):Inv X pins σ H { s with heap:=h',toks:=t' }:=I.un (Un.kept k) (I.hok.kept k)
theorem Inv.laid{a:Addr}{o:HO}{t':Nat}(I:Inv X pins σ H s)(k:∀ b u,s.heap.get? b=some u->h'.get? b=some u)(hp:s.heap.objs.size<=a)(new:bD X.prog X.w (upd H a o) h' a o) :
  Inv X pins σ (upd H a o) { s with heap:=h',toks:=t' }:=I.un (Un.laid k hp (I.hok.fresh hp)) (I.hok.laid k hp new)
theorem Inv.write{x e:Addr}{o:HO}{t':Nat}(I:Inv X pins σ H s)(mu:Mut (H x))(he:e=x∨H e=some (.own x))(k:∀ b u,b≠e->s.heap.get? b=some u->h'.get? b=some u)(heo:∃ u,h'.get? e=some u)
  (new:bD X.prog X.w (upd H x o) h' x o):Inv X pins σ (upd H x o) { s with heap:=h',toks:=t' }:=I.un (Un.write mu he k heo) (I.hok.write mu he k heo new)
theorem Inv.weak{σ':List (Option V)}(I:Inv X pins σ H s)(hl:σ'.length=σ.length)(w:∀ (i:Nat) v,σ'[i]?=some (some v)->σ[i]?=some (some v)):Inv X pins σ' H s :=
 ⟨I.ok,I.os,I.bare,I.base,let ⟨m,hn,hl'⟩:=I.loc;⟨m,hn,fun i x v e1 e2 e3=>hl' i x v e1 (w i v e2) e3⟩,I.cell,I.free,I.freeC,I.pin,I.hok,hl.trans I.len⟩
theorem Inv.pins_of{pins':List (Addr×Obj)}(I:Inv X pins σ H s)(h:∀ p∈pins',s.heap.get? p.1=some p.2/\H p.1=none/\p.1≠X.env.locals/\p.1∉X.fs/\∀ v,p.2.data≠.cell v):Inv X pins' σ H s :=
 ⟨I.ok,I.os,I.bare,I.base,I.loc,I.cell,I.free,I.freeC,fun p hp=>(DN.mp hp).elim (fun z=>I.pin p (EC _ z)) (h p),I.hok,I.len⟩
theorem ni{N:List Str}(hN:N.Nodup){i j:Nat}{x:Str}(a:N[i]?=some x)(b:N[j]?=some x):i=j:=by
 obtain⟨h1,e1⟩:=DC.mp a
 obtain⟨h2,e2⟩:=DC.mp b
 exact(List.getElem_inj hN).mp (e1.trans e2.symm)
theorem vR{M:Model}{A:Around}{E:Value->Shared->Prop}{i:Nat}{x:Str}{v:V}{u:Value}{Q:Unit->Shared->Prop}(I:Inv X pins σ H s)(hN:X.N.Nodup)(hi:X.N[i]?=some x)(hx:Loc X.env.scope x)(r:RelV v u)
  (h:∀ s',Inv X pins (σ.set i (some v)) H s'->(∃ a,Heap.SameBut a s.heap s'.heap/\(a=X.env.locals∨X.env.cells.lookup x=some a))->Q () s') (hf:X.fn x=true∨X.env.scope.names.lookup x=some .local:=by first | exact .inl rfl | exact .inr rfl | assumption):wpAny M A (storeName X.env x u) Q E s:=by
 obtain⟨m,hn,hl⟩:=id I.loc
 have hcls:(X.env.scope.kind == .class||(X.env.scope.kind == .module&&X.env.locals != X.env.globals))=false:=by rw[I.ok.kind];rfl
 have hiσ:i<σ.length:=by rw[I.len];exact(DC.mp hi).1
 have cne:=I.cne
 have tracked:∀{a:Addr}{h':Heap},(∃ o,s.heap.get? a=some o/\H a=none)->Heap.SameBut a s.heap h'->HOk X.prog X.w H h':=fun{a h'} ha hs b ob e=>by
  obtain⟨_,_,hfree⟩:=ha
  refine(I.hok b ob e).stay (fun c w' hc q=>(hs.2 c ?_).trans q) (fun _ q=>q) fun _ _ q=>q
  rintro rfl
  rcases hc with rfl | hc
  ·rw[hfree]at e;cases e
  ·rw[hfree]at hc;cases hc
 rcases hx with hk | hk
 ·refine wpAny_storeName_local hk hn (fun h' hn' hs=>?_) hcls
  obtain⟨oL,_,_,hoL,_⟩:=id hn
  refine h _ ⟨I.ok,I.os,I.bare,⟨fun b o e n hb hx=>?_,fun b o e n hb hx=>?_,I.base.free,fun b o e hx=>?_,I.base.tups,I.base.frzs,I.base.tbls⟩,⟨_,hn',fun j y v' e1 e2 e3=>?_⟩,fun y c e=>?_,I.free,I.freeC,fun p hp=>?_,tracked ⟨oL,hoL,I.free⟩ hs,by simpa using I.len⟩ ⟨_,hs,.inl rfl⟩
  ·exact(hs.2 b (DO (Ei (Heap.lt_size e) I.ok.above))).trans (I.base.keep b o e n hb hx)
  ·obtain⟨sl,e1⟩:=I.base.slot b o e n hb hx
   exact⟨sl,(hs.2 b (DO (Ei (Heap.lt_size e) I.ok.above))).trans e1⟩
  ·obtain⟨o',e1⟩:=I.base.there b o e hx
   exact⟨o',(hs.2 b (DO (Ei (Heap.lt_size e) I.ok.above))).trans e1⟩
  ·by_cases hj:j=i
   ·subst hj
    rw[hi]at e1;cases e1
    rw[Gr hiσ]at e2
    cases e2
    exact⟨u,r,.inl ⟨hk,by simp⟩⟩
   ·rw[GF (Ne.symm hj)]at e2
    obtain⟨u',r',q⟩:=hl j y v' e1 e2 e3
    refine⟨u',r',?_⟩
    rcases q with⟨k,e⟩ | ⟨k,c,e,z⟩
    ·refine .inl ⟨k,?_⟩
     have:y≠x:=fun e=>hj (ni hN e1 (e▸hi))
     simp[this,e]
    ·exact .inr ⟨k,c,e,z.sameBut hs (cne y c e)⟩
  ·obtain⟨w',z⟩:=I.cell y c e
   exact⟨w',z.sameBut hs (cne y c e)⟩
  ·obtain⟨e,n,ne,nf,d⟩:=I.pin p hp
   exact⟨(hs.2 p.1 ne).trans e,n,ne,nf,d⟩
 ·have hfn:X.fn x=true:=by
   rcases hf with z | z
   ·exact z
   ·rw[z]at hk;cases hk
  obtain⟨c,hc⟩:=I.ok.has x (.inl hk)
  obtain⟨w',z⟩:=I.cell x c hc
  refine wpAny_storeName_cell I.ok.kind hk hc z (fun h' hc' hs=>?_)
  obtain⟨oc,hoc,hocd⟩:=id z
  refine h { s with heap:=h' } ⟨I.ok,I.os,I.bare,⟨fun b o e n hb hx=>?_,fun b o e n hb hx=>?_,I.base.free,fun b o e hx=>?_,I.base.tups,I.base.frzs,I.base.tbls⟩,⟨m,hn.sameBut hs (Ne.symm (cne x c hc)),fun j y v' e1 e2 e3=>?_⟩,fun y c' e=>?_,I.free,I.freeC,fun p hp=>?_,tracked ⟨oc,hoc,I.freeC x c hc⟩ hs,by simpa using I.len⟩ ⟨c,hs,.inr hc⟩
  ·exact(hs.2 b (DO (Ei (Heap.lt_size e) (I.ok.cab x c hfn hc)))).trans (I.base.keep b o e n hb hx)
  ·obtain⟨sl,e1⟩:=I.base.slot b o e n hb hx
   exact⟨sl,(hs.2 b (DO (Ei (Heap.lt_size e) (I.ok.cab x c hfn hc)))).trans e1⟩
  ·obtain⟨o',e1⟩:=I.base.there b o e hx
   exact⟨o',(hs.2 b (DO (Ei (Heap.lt_size e) (I.ok.cab x c hfn hc)))).trans e1⟩
  ·by_cases hj:j=i
   ·subst hj
    rw[hi]at e1;cases e1
    rw[Gr hiσ]at e2
    cases e2
    exact⟨u,r,.inr ⟨.inl hk,c,hc,hc'⟩⟩
   ·rw[GF (Ne.symm hj)]at e2
    obtain⟨u',r',q⟩:=hl j y v' e1 e2 e3
    refine⟨u',r',?_⟩
    rcases q with q | ⟨k,c',e,z'⟩
    ·exact .inl q
    ·refine .inr ⟨k,c',e,z'.sameBut hs ?_⟩
     rintro rfl
     exact hj (ni hN e1 (I.ok.inj _ _ _ e hc▸hi))
  ·by_cases hcc:c'=c
   ·subst hcc;exact⟨_,hc'⟩
   ·obtain⟨w2,z2⟩:=I.cell y c' e
    exact⟨w2,z2.sameBut hs hcc⟩
  ·obtain⟨e,n,ne,nf,d⟩:=I.pin p hp
   refine⟨(hs.2 p.1 ?_).trans e,n,ne,nf,d⟩
   intro q
   rw[q,hoc]at e
   have q':oc=p.2:=El e
   exact d w' (by rw[← q'];exact hocd)
theorem dX{M:Model}{A:Around}{E:Value->Shared->Prop}{i:Nat}{x:Str}{v:V}{u:Value}{Q:Unit->Shared->Prop}(I:Inv X pins σ H s)(hN:X.N.Nodup)(hi:X.N[i]?=some x)(hx:Loc X.env.scope x)(r:RelV v u)
  (h:∀ s',Inv X pins (σ.set i (some v)) H s'->Q () s') (hf:X.fn x=true∨X.env.scope.names.lookup x=some .local:=by first | exact .inl rfl | exact .inr rfl | assumption):wpAny M A (storeName X.env x u) Q E s :=
 vR I hN hi hx r (fun s' I' _=>h s' I') hf
theorem Inv.call'{s':Shared}{ch:List Addr}(I:Inv X pins σ H s)(ho:s'.os=s.os)(u:Un (frs X.stack) ch H H' s.heap s'.heap)(hok:HOk X.prog X.w H' s'.heap)(hg:AllBare s'.gens)
  (hch:∀ b∈ch,(b∈X.ex∨X.s₀.heap.objs.size<=b)/\b≠X.env.locals/\(∀ x c,X.env.cells.lookup x=some c->c≠b)/\∀ p∈X.pn++pins,p.1≠b):Inv X pins σ H' s':=by
 obtain⟨h',g',d',t',o'⟩:=s'
 have e:o'=s.os:=ho
 subst e
 exact I.call (g':=g') (t':=t') (d':=d') u hok hg hch
end
abbrev XK:=Value->Option Addr->Hp->Prop
abbrev St:=List (Option V)
abbrev VK:=V->Hp->Prop
abbrev TE:=St->Hp->VK->Prop
abbrev TT:=St->Hp->(Bool->Hp->Prop)->Prop
abbrev TA:=St->Hp->(List V->Hp->Prop)->Prop
structure Ends where
 nx:St->Hp->Prop
 rt:VK
 bk:St->Hp->Prop:=fun _ _=>False
 ct:St->Hp->Prop:=fun _ _=>False
abbrev TS:=Ends->St->Hp->Prop
def EP(X:Cx)(pins:List (Addr×Obj))(σ:St)(Q:VK)(u:Value)(s':Shared):Prop:=∃ v H',Inv X pins σ H' s'/\RelV v u/\Q v H'
def TP(X:Cx)(pins:List (Addr×Obj))(σ:St)(Q:Bool->Hp->Prop)(b:Bool)(s':Shared):Prop:=∃ H',Inv X pins σ H' s'/\Q b H'
def AP(X:Cx)(pins:List (Addr×Obj))(σ:St)(Q:List V->Hp->Prop)(us:List Value)(s':Shared):Prop:=∃ vs H',Inv X pins σ H' s'/\Vals vs us/\Q vs H'
def SP(X:Cx)(pins:List (Addr×Obj))(D:Ends)(f:Flow)(s':Shared):Prop :=
 match f with
 |.next=>∃ σ' H',Inv X pins σ' H' s'/\D.nx σ' H'
 |.brk=>∃ σ' H',Inv X pins σ' H' s'/\D.bk σ' H'
 |.cont=>∃ σ' H',Inv X pins σ' H' s'/\D.ct σ' H'
 |.ret u=>∃ v σ' H',Inv X pins σ' H' s'/\RelV v u/\D.rt v H'
def PE(X:Cx)(e:Expr)(t:TE):Prop :=
 ∀(pins:List (Addr×Obj))(s:Shared)(σ:St)(H:Hp)(Q:VK),Inv X pins σ H s->t σ H Q->wpAny (model X.prog X.w) X.A (eval e X.env) (EP X pins σ Q) X.xe s
def PT(X:Cx)(e:Expr)(t:TT):Prop :=
 ∀(pins:List (Addr×Obj))(s:Shared)(σ:St)(H:Hp)(Q:Bool->Hp->Prop),Inv X pins σ H s->t σ H Q->wpAny (model X.prog X.w) X.A (isTrue e X.env (eval e X.env)) (TP X pins σ Q) X.xe s
def PW(X:Cx)(e:Expr)(t:TT):Prop :=
 ∀(whole:Sem Value)(pins:List (Addr×Obj))(s:Shared)(σ:St)(H:Hp)(Q:Bool->Hp->Prop),Inv X pins σ H s->t σ H Q->wpAny (model X.prog X.w) X.A (isTrue e X.env whole) (TP X pins σ Q) X.xe s
theorem PW.pt{X:Cx}{e:Expr}{t:TT}(h:PW X e t):PT X e t:=h _
def PA(X:Cx)(es:List Expr)(t:TA):Prop :=
 ∀(pos:Pos)(pins:List (Addr×Obj))(s:Shared)(σ:St)(H:Hp)(Q:List V->Hp->Prop),Inv X pins σ H s->t σ H Q->wpAny (model X.prog X.w) X.A (spliced (backTo pos (starEach es X.env))) (AP X pins σ Q) X.xe s
def PS(X:Cx)(st:Stmt)(t:TS):Prop :=
 ∀(pins:List (Addr×Obj))(s:Shared)(σ:St)(H:Hp)(D:Ends),Inv X pins σ H s->t D σ H->wpAny (model X.prog X.w) X.A (exec st X.env) (SP X pins D) X.xe s
def PSs(X:Cx)(st:List Stmt)(t:TS):Prop :=
 ∀(pins:List (Addr×Obj))(s:Shared)(σ:St)(H:Hp)(D:Ends),Inv X pins σ H s->t D σ H->wpAny (model X.prog X.w) X.A (execs st X.env) (SP X pins D) X.xe s
theorem thn{α:Type}{t:Sem α}{Q Q':α->Shared->Prop}{M:Model}{A:Around}{E:Value->Shared->Prop}{s:Shared}(h:wpAny M A t Q E s)(hQ:∀ a s,Q a s->Q' a s):wpAny M A t Q' E s:=wpAny_mono h hQ fun _ _ x=>x
end L2
namespace L2
open PySem PySem.Spec PyProof.Rows
section
variable{X:Cx}
def tVar(i:Nat):TE:=fun σ H Q=>∃ v,σ[i]?=some (some v)/\Q v H
def tC(v:V):TE:=fun _ H Q=>Q v H
theorem pe_var{i:Nat}{x:Str}{pos:Pos}(hN:X.N[i]?=some x)(hv:Vis X.env.scope x) (hd:(x == ("__debug__" : Str))=false:=by decide) (hcd:(x == ("__classdict__" : Str))=false:=by decide):PE X (.Name x pos) (tVar i):=by
 intro pins s σ H Q I h
 obtain⟨v,e,h⟩:=h
 obtain⟨m,hn,hl⟩:=I.loc
 obtain⟨u,r,l⟩:=hl i x v hN e hv
 have fin:EP X pins σ Q u s:=⟨v,H,I,r,h⟩
 rcases l with⟨hk,hm⟩ | ⟨hk,c,hc,hcell⟩
 ·exact wpAny_Name (wpAny_loadName_local I.ok.kind hk hn hm fin) hd
 ·rcases hk with hk | hk
  ·exact wpAny_Name (wpAny_loadName_cell I.ok.kind hk hc hcell fin) hd
  ·exact wpAny_Name (wpAny_loadName_free I.ok.kind hk hc hcell fin hcd) hd
theorem ah{i j pos}:PE X (.Constant (.int i) j pos) (tC (.int i)):=fun _ _ _ H _ I h=>wpAny_Constant_int ⟨.int i,H,I.tok _,⟨_,rfl⟩,h⟩
theorem ur{b j pos}:PE X (.Constant (.bool b) j pos) (tC (.bl b)):=fun _ _ _ H _ I h=>Constant_bool ⟨.bl b,H,I,rfl,h⟩
theorem iN{j pos}:PE X (.Constant .none j pos) (tC .non):=fun _ _ _ H _ I h=>Constant_none ⟨.non,H,I,rfl,h⟩
theorem cG{x j pos}:PE X (.Constant (.str x) j pos) (tC (.str x)):=fun _ _ _ H _ I h=>Calls.Constant_str ⟨.str x,H,I.tok _,⟨_,rfl⟩,h⟩
def Gl(X:Cx)(x:Str):Prop:=X.env.kindOf x=some .globalImplicit
theorem iD{E:Value->Shared->Prop}{pins:List (Addr×Obj)}{s:Shared}{σ:St}{H:Hp}{x:Str}{u:Value}{pos:Pos}{Q:Value->Shared->Prop}(I:Inv X pins σ H s)(hg:Gl X x)(hm:X.mg x=some u)(h:Q u s)
  (hd:(x == ("__debug__" : Str))=false:=by decide):wpAny (model X.prog X.w) X.A (eval (.Name x pos) X.env) Q E s :=
 Calls.Name_function_global I.ok.kind hg (Calls.loadGlobal_global (by rw[I.ok.glob];exact I.mod.glob.keeps I.bk) hm h) hd
theorem fj{E:Value->Shared->Prop}{pins:List (Addr×Obj)}{s:Shared}{σ:St}{H:Hp}{x:Str}{u:Value}{pos:Pos}{Q:Value->Shared->Prop}(I:Inv X pins σ H s)(hg:Gl X x)(hm:X.mg x=none)(hv:bootBuiltins x=some u)(h:Q u s)
  (hn:x≠"__name__":=by decide) (hd:(x == ("__debug__" : Str))=false:=by decide):wpAny (model X.prog X.w) X.A (eval (.Name x pos) X.env) Q E s:=by
 obtain⟨mb,h1,h2⟩:=I.mod.blt
 exact Calls.Name_function_global I.ok.kind hg (Calls.loadGlobal_builtin (by rw[I.ok.glob];exact I.mod.glob.keeps I.bk) hm (by rw[I.ok.blt];exact h1.keeps I.bk) ((h2 x hn).trans hv) h) hd
theorem m7{x:Str}{v:V}{u:Value}{pos:Pos}(hg:Gl X x)(hm:X.mg x=some u)(r:RelV v u) (hd:(x == ("__debug__" : Str))=false:=by decide):PE X (.Name x pos) (tC v) :=
 fun _ _ _ H _ I h=>iD I hg hm ⟨v,H,I,r,h⟩ hd
theorem Ci{x:Str}{v:V}{u:Value}{pos:Pos}(hg:Gl X x)(hm:X.mg x=none)(hv:bootBuiltins x=some u)(r:RelV v u) (hn:x≠"__name__":=by decide) (hd:(x == ("__debug__" : Str))=false:=by decide):PE X (.Name x pos) (tC v) :=
 fun _ _ _ H _ I h=>fj I hg hm hv ⟨v,H,I,r,h⟩ hn hd
variable{a b:Expr}{ta tb:TE}{pos:Pos}
def PC(X:Cx)(op:CmpOp)(a b:Expr)(t:TE):Prop :=
 ∀(pins:List (Addr×Obj))(s:Shared)(σ:St)(H:Hp)(Q:VK),Inv X pins σ H s->t σ H Q ->
  wpAny (model X.prog X.w) X.A (eval a X.env) (fun v s₁=>wpAny (model X.prog X.w) X.A (eval b X.env) (fun u s₂=>wpAny (model X.prog X.w) X.A (compareOp op v u) (EP X pins σ Q) X.xe s₂) X.xe s₁) X.xe s
def tB(t:TE):TT:=fun σ H Q=>t σ H fun x H1=>∃ c,x=.bl c/\Q c H1
theorem pt_cmp{op:CmpOp}{t:TE}(h:PC X op a b t)(h1:behindInMarks op b=false:=by first | exact nobehind _ (by decide) (by decide) | rfl):PT X (.Compare a [op] [b] pos) (tB t):=by
 intro pins s σ H Q I hw
 refine wpAny_isTrue_Compare1 (thn (h pins s σ H _ I hw) fun v s1 h1=>thn h1 fun u s2 h2=>thn h2 fun c s3 ⟨x,H1,I1,r1,q1⟩=>?_) h1
 obtain⟨d,rfl,q⟩:=q1
 cases r1
 exact wpAny_truthy_bool ⟨H1,I1,q⟩
theorem wm{e:Expr}{t:TE}(h:PE X e t)(he:∀ whole,isTrue e X.env whole=(do let v ← whole;standAt e.pos;holding [v] (truthy v)):=by intro _;rfl):PT X e (tB t):=by
 intro pins s σ H Q I hw
 refine isTrue_plain (thn (h pins s σ H _ I hw) fun v s1 ⟨x,H1,I1,r1,q1⟩=>?_) (he _)
 obtain⟨d,rfl,q⟩:=q1
 cases r1
 exact wpAny_truthy_bool ⟨H1,I1,q⟩
variable{tA tB':TT}{rest:List Expr}
def tAnd(t u:TT):TT:=fun σ H Q=>t σ H fun c H1=>if c=true then u σ H1 Q else Q false H1
def tOr(t u:TT):TT:=fun σ H Q=>t σ H fun c H1=>if c=true then Q true H1 else u σ H1 Q
def tNot(t:TT):TT:=fun σ H Q=>t σ H fun c H1=>Q (!c) H1
theorem Cc(ha:PT X a tA):PW X (.BoolOp .And [a] pos) tA:=by
 intro wh pins s σ H Q I h
 refine isTrue_and (thn (ha pins s σ H Q I h) fun c s1 e=>?_)
 cases c with
 |true=>exact isTrue_and_nil e
 |false=>exact e
theorem wj(ha:PT X a tA):PW X (.BoolOp .Or [a] pos) tA:=by
 intro wh pins s σ H Q I h
 refine isTrue_or (thn (ha pins s σ H Q I h) fun c s1 e=>?_)
 cases c with
 |false=>exact isTrue_or_nil e
 |true=>exact e
theorem Bb(ha:PT X a tA)(hb:PW X (.BoolOp .And (b::rest) pos) tB'):PW X (.BoolOp .And (a::b::rest) pos) (tAnd tA tB'):=by
 intro wh pins s σ H Q I h
 refine isTrue_and (thn (ha pins s σ H _ I h) fun c s1 ⟨H1,I1,q1⟩=>?_)
 cases c with
 |true=>exact hb wh pins s1 σ H1 Q I1 q1
 |false=>exact⟨H1,I1,q1⟩
theorem Cb(ha:PT X a tA)(hb:PW X (.BoolOp .Or (b::rest) pos) tB'):PW X (.BoolOp .Or (a::b::rest) pos) (tOr tA tB'):=by
 intro wh pins s σ H Q I h
 refine isTrue_or (thn (ha pins s σ H _ I h) fun c s1 ⟨H1,I1,q1⟩=>?_)
 cases c with
 |true=>exact⟨H1,I1,q1⟩
 |false=>exact hb wh pins s1 σ H1 Q I1 q1
theorem wo(ha:PT X a tA):PT X (.UnaryOp .Not a pos) (tNot tA):=by
 intro pins s σ H Q I h
 exact isTrue_not (ha pins s σ H (fun c H1=>Q (!c) H1) I h)
def tIf(t:TT)(ta tb:TE):TE:=fun σ H Q=>t σ H fun c H1=>if c=true then ta σ H1 Q else tb σ H1 Q
theorem je{c:Expr}(hc:PT X c tA)(ha:PE X a ta)(hb:PE X b tb):PE X (.IfExp c a b pos) (tIf tA ta tb):=by
 intro pins s σ H Q I h
 refine wpAny_IfExp (thn (hc pins s σ H _ I h) fun d s1 ⟨H1,I1,q1⟩=>?_)
 cases d with
 |true=>exact ha pins s1 σ H1 Q I1 q1
 |false=>exact hb pins s1 σ H1 Q I1 q1
end
end L2
namespace L2
open PySem PySem.Spec PyProof.Rows
def SqL(K:DE)(H:Hp)(a:Addr)(xs:List V):Prop :=
 Rd H a (.lst xs) ∨
  ∃(o:Obj)(its:Array Value)(n:Nat),K.lookup a=some o/\o.cls=.type "list"/\o.dict=none/\o.data=.seq its n/\its.size<=sizeLine/\Vals xs its.toList
def SqT(K:DE)(H:Hp)(a:Addr)(xs:List V):Prop :=
 Rd H a (.tup xs) ∨
  ∃(o:Obj)(its:Array Value)(n:Nat),K.lookup a=some o/\o.cls=.type "tuple"/\o.data=.seq its n/\its.size<=sizeLine/\Vals xs its.toList
def absV:Value->Option V
 |.none=>some .non
 |.bool b=>some (.bl b)
 |.int i _=>some (.int i)
 |.str x _=>some (.str x)
 |.bytes b _=>some (.byt b)
 |.float b _=>some (.flt b)
 |.ref a=>some (.ref a)
 |.type n=>some (.ty n)
 |_=>none
theorem RelV.abs{x:V}{u:Value}(r:RelV x u):absV u=some x:=by
 cases x with
 |non=>cases r;rfl
 |bl _=>cases r;rfl
 |int _=>obtain⟨t,rfl⟩:=r;rfl
 |str _=>obtain⟨t,rfl⟩:=r;rfl
 |byt _=>obtain⟨t,rfl⟩:=r;rfl
 |flt _=>obtain⟨t,rfl⟩:=r;rfl
 |ref _=>cases r;rfl
 |ty _=>cases r;rfl
theorem RelV.inj{x y:V}{u:Value}(r:RelV x u)(q:RelV y u):x=y:=El (r.abs.symm.trans q.abs)
theorem Vals.inj:∀{xs ys:List V}{us:List Value},Vals xs us->Vals ys us->xs=ys
 |_,_,_,.nil,.nil=>rfl
 |_,_,_,.cons r t,.cons r' t'=>by rw[r.inj r',Vals.inj t t']
section
variable{X:Cx}{pins:List (Addr×Obj)}{σ:St}{H:Hp}{s:Shared}{a:Addr}{xs ys:List V}
theorem SqL.of{K:DE}(h:H a=some (.lst xs)):SqL K H a xs:=.inl (.inl h)
theorem SqT.of{K:DE}(h:H a=some (.tup xs)):SqT K H a xs:=.inl (.inl h)
theorem Inv.list(I:Inv X pins σ H s)(h:SqL X.K H a xs):∃ its:List Value,Vals xs its/\PlainL s.heap a its.toArray/\xs.length<=sizeLine:=by
 rcases h with h | ⟨o,its,n,hk,hc,hd,hs,hz,r⟩
 ·obtain⟨z,its,n,r,e⟩:=h.ok I.hok
  exact⟨its,r,⟨_,n,e,rfl,rfl,rfl⟩,z⟩
 ·refine⟨its.toList,r,⟨o,n,I.kIn a o hk,hc,hd,by simpa using hs⟩,?_⟩
  have e:=r.length
  simp only[DX]at e
  omega
theorem Inv.tuple(I:Inv X pins σ H s)(h:SqT X.K H a xs):∃ its:List Value,Vals xs its/\IsTup s.heap a its.toArray/\xs.length<=sizeLine:=by
 rcases h with h | ⟨o,its,n,hk,hc,hs,hz,r⟩
 ·obtain⟨z,its,r,p⟩:=h.ok I.hok
  exact⟨its,r,p,z⟩
 ·refine⟨its.toList,r,⟨o,I.kIn a o hk,hc,n,by simpa using hs⟩,?_⟩
  have e:=r.length
  simp only[DX]at e
  omega
theorem Inv.list_inj(I:Inv X pins σ H s)(h:SqL X.K H a xs)(h':SqL X.K H a ys):xs=ys:=by
 obtain⟨its,r,⟨o,n,e,_,_,d⟩,_⟩:=I.list h
 obtain⟨its',r',⟨o',n',e',_,_,d'⟩,_⟩:=I.list h'
 rw[e]at e';cases e'
 rw[d]at d'
 injection d' with d1 _
 have:its=its':=by simpa using congrArg Array.toList d1
 subst this
 exact r.inj r'
end
abbrev Cx.wish(X:Cx)(E:Value->Shared->Prop):Cx:={ X with xe:=E }
abbrev Cx.nox(X:Cx):Cx:=X.wish fun _ _=>False
theorem Cx.Ok.wish{X:Cx}(ok:X.Ok)(E:Value->Shared->Prop):(X.wish E).Ok :=
 ⟨ok.mod,ok.kind,ok.glob,ok.blt,ok.above,ok.inj,ok.has,ok.cab,ok.hd,ok.frames,ok.stk,ok.exf,ok.bs,ok.bsz,ok.noex,ok.exfs,ok.funs,ok.frf⟩
theorem Cx.Ok.unwish{X:Cx}{E:Value->Shared->Prop}(ok:(X.wish E).Ok):X.Ok :=
 ⟨ok.mod,ok.kind,ok.glob,ok.blt,ok.above,ok.inj,ok.has,ok.cab,ok.hd,ok.frames,ok.stk,ok.exf,ok.bs,ok.bsz,ok.noex,ok.exfs,ok.funs,ok.frf⟩
section
variable{X:Cx}{pins:List (Addr×Obj)}{σ:St}{H:Hp}{s:Shared}{E:Value->Shared->Prop}
theorem Inv.wish(I:Inv X pins σ H s)(E:Value->Shared->Prop):Inv (X.wish E) pins σ H s:=⟨I.ok.wish E,I.os,I.bare,I.base,I.loc,I.cell,I.free,I.freeC,I.pin,I.hok,I.len⟩
theorem Inv.unwish(I:Inv (X.wish E) pins σ H s):Inv X pins σ H s:=⟨I.ok.unwish,I.os,I.bare,I.base,I.loc,I.cell,I.free,I.freeC,I.pin,I.hok,I.len⟩
theorem SP.unwish{D:Ends}{f:Flow}{s':Shared}(h:SP (X.wish E) pins D f s'):SP X pins D f s':=by
 cases f with
 |next=>obtain⟨σ',H',I,q⟩:=h;exact⟨σ',H',I.unwish,q⟩
 |brk=>obtain⟨σ',H',I,q⟩:=h;exact⟨σ',H',I.unwish,q⟩
 |cont=>obtain⟨σ',H',I,q⟩:=h;exact⟨σ',H',I.unwish,q⟩
 |ret u=>obtain⟨v,σ',H',I,r,q⟩:=h;exact⟨v,σ',H',I.unwish,r,q⟩
theorem PSs.nox{st:List Stmt}{t:TS}(h:PSs X.nox st t):PSs X st t:=fun pins s σ H D I hw =>
 wpAny_mono (h pins s σ H D (I.wish _) hw) (fun _ _ q=>q.unwish) fun _ _ z=>False.elim z
end
section
variable{X:Cx}{st:Stmt}{rest:List Stmt}{t u:TS}{e:Expr}{te:TE}{pos:Pos}
def tNext:TS:=fun D σ H=>D.nx σ H
def tSeq(t u:TS):TS:=fun D σ H=>t { D with nx:=u D } σ H
theorem bf:PSs X [] tNext:=fun _ _ σ H _ I h=>wpAny_execs_nil ⟨σ,H,I,h⟩
theorem af(h1:PS X st t)(h2:PSs X rest u):PSs X (st::rest) (tSeq t u):=by
 intro pins s σ H D I h
 refine wpAny_execs_cons (thn (h1 pins s σ H { D with nx:=u D } I h) fun f s1 q=>?_)
 cases f with
 |next =>
  obtain⟨σ',H',I',q⟩:=q
  exact h2 pins s1 σ' H' D I' q
 |ret v=>exact q
 |brk=>exact q
 |cont=>exact q
theorem aq(h1:PS X st t):PSs X [st] t:=by
 intro pins s σ H D I h
 refine wpAny_execs_cons (thn (h1 pins s σ H D I h) fun f s1 q=>?_)
 cases f with
 |next=>exact wpAny_execs_nil q
 |ret v=>exact q
 |brk=>exact q
 |cont=>exact q
theorem Inv.quiet{pins:List (Addr×Obj)}{σ:St}{H:Hp}{s:Shared}(I:Inv X pins σ H s):interactive X.env=false:=by simp[interactive,I.ok.kind]
def tDrop(te:TE):TS:=fun D σ H=>te σ H fun _ H1=>D.nx σ H1
theorem bM(he:PE X e te)(hs:swapsWith e none pos.line X.env=pure false:=by rfl):PS X (.Expr e pos) (tDrop te):=by
 intro pins s σ H D I h
 exact wpAny_Expr_any (thn (he pins s σ H _ I h) fun v s1 ⟨x,H1,I1,r1,q1⟩=>⟨σ,H1,I1,q1⟩) I.quiet hs
def tRet(te:TE):TS:=fun D σ H=>te σ H D.rt
theorem aV(he:PE X e te):PS X (.Return (some e) pos) (tRet te):=by
 intro pins s σ H D I h
 exact wpAny_Return_some (thn (he pins s σ H _ I h) fun v s1 ⟨x,H1,I1,r1,q1⟩=>⟨x,σ,H1,I1,r1,q1⟩)
def tIfS(c:TT)(t u:TS):TS:=fun D σ H=>c σ H fun b H1=>if b=true then t D σ H1 else u D σ H1
theorem di{c:Expr}{a b:List Stmt}{tc:TT}(hc:PT X c tc)(ha:PSs X a t)(hb:PSs X b u):PS X (.If c a b pos) (tIfS tc t u):=by
 intro pins s σ H D I h
 refine wpAny_If (thn (hc pins s σ H _ I h) fun d s1 ⟨H1,I1,q1⟩=>?_)
 cases d with
 |true=>exact ha pins s1 σ H1 D I1 q1
 |false=>exact hb pins s1 σ H1 D I1 q1
end
abbrev TG:=V->St->Hp->(St->Hp->Prop)->Prop
abbrev TGs:=List V->St->Hp->(St->Hp->Prop)->Prop
def PG(X:Cx)(target:Expr)(t:TG):Prop :=
 ∀(pins:List (Addr×Obj))(s:Shared)(σ:St)(H:Hp)(v:V)(u:Value)(Q:St->Hp->Prop),Inv X pins σ H s->RelV v u->t v σ H Q ->
  wpAny (model X.prog X.w) X.A (assign target X.env u) (fun _ s'=>∃ σ' H',Inv X pins σ' H' s'/\Q σ' H') X.xe s
def PGs(X:Cx)(ts:List Expr)(t:TGs):Prop :=
 ∀(pins:List (Addr×Obj))(s:Shared)(σ:St)(H:Hp)(vs:List V)(us:List Value)(Q:St->Hp->Prop),Inv X pins σ H s->Vals vs us->t vs σ H Q ->
  wpAny (model X.prog X.w) X.A (assignInOrder ((assignEach ts X.env).map (·.2)) us) (fun _ s'=>∃ σ' H',Inv X pins σ' H' s'/\Q σ' H') X.xe s
abbrev TSet:=V->V->V->Hp->(Hp->Prop)->Prop
def PSet(X:Cx)(t:TSet):Prop :=
 ∀(pins:List (Addr×Obj))(s:Shared)(σ:St)(H:Hp)(o i v:V)(ov iv u:Value)(Q:Hp->Prop),Inv X pins σ H s->RelV o ov->RelV i iv->RelV v u->t o i v H Q ->
  wpAny (model X.prog X.w) X.A (setItem ov iv u) (fun _ s'=>∃ H',Inv X pins σ H' s'/\Q H') X.xe s
section
variable{X:Cx}{pos:Pos}
def gName(i:Nat):TG:=fun v σ H Q=>Q (σ.set i (some v)) H
theorem aC{i:Nat}{x:Str}(hN:X.N.Nodup)(hi:X.N[i]?=some x)(hx:Loc X.env.scope x)(hf:X.fn x=true∨X.env.scope.names.lookup x=some .local:=by first | exact .inl rfl | exact .inr rfl | assumption):PG X (.Name x pos) (gName i):=by
 intro pins s σ H v u Q I r h
 exact wpAny_assign_Name (dX I hN hi hx r (fun s' I'=>⟨_,H,I',h⟩) hf)
def gNil:TGs:=fun vs σ H Q=>vs = []/\Q σ H
def gCons(t:TG)(u:TGs):TGs:=fun vs σ H Q=>∃ v r,vs=v::r/\t v σ H fun σ' H'=>u r σ' H' Q
theorem eZ:PGs X [] gNil:=by
 intro pins s σ H vs us Q I r h
 obtain⟨e,h⟩:=h
 subst e
 cases r
 exact assignInOrder_nil ⟨σ,H,I,h⟩
theorem aW{e:Expr}{es:List Expr}{t:TG}{u:TGs}(h1:PG X e t)(h2:PGs X es u)
  (hs:(assignEach (e::es) X.env).map (·.2)=assign e X.env::(assignEach es X.env).map (·.2):=by rfl):PGs X (e::es) (gCons t u):=by
 intro pins s σ H vs us Q I r h
 obtain⟨v,vr,e1,h⟩:=h
 subst e1
 cases r with
 |cons r rr =>
  rw[hs]
  refine assignInOrder_cons (thn (h1 pins s σ H _ _ _ I r h) fun _ s1 ⟨σ1,H1,I1,q1⟩=>?_)
  exact h2 pins s1 σ1 H1 _ _ Q I1 rr q1
def gTup(K:DE)(n:Nat)(t:TGs):TG:=fun v σ H Q=>∃ a xs,v=.ref a/\SqT K H a xs/\xs.length=n/\t xs σ H Q
theorem sM{es:List Expr}{k:Nat}{t:TGs}{n:Nat}(hc:X.calm=true)(h:PGs X es t)
  (hn:(assignEach es X.env).length=n:=by rfl) (hst:(assignEach es X.env).findIdx? (·.1)=none:=by rfl):PG X (.Tuple es k pos) (gTup X.K n t):=by
 intro pins s σ H v u Q I r hw
 obtain⟨a,xs,e1,hq,hl,hw⟩:=hw
 subst e1
 cases r
 obtain⟨its,rv,ht,hz⟩:=I.tuple hq
 refine assign_Tuple_tuple (I.ok.hd hc) ht (by simp[hn,← hl,rv.length]) hst fun h' hx=>?_
 have I1:Inv X pins σ H { s with heap:=h' }:=I.kept (t':=s.toks) fun b o e=>hx b o (DO (Heap.lt_size e)) e
 exact h pins _ σ H xs _ Q I1 (by simpa using rv) hw
def gSub(to ti:TE)(t:TSet):TG:=fun v σ H Q=>to σ H fun o H1=>ti σ H1 fun i H2=>t o i v H2 fun H3=>Q σ H3
theorem wD{o i:Expr}{to ti:TE}{t:TSet}(ho:PE X o to)(hi:PE X i ti)(hs:PSet X t)
  (ha:∀ v,assign (.Subscript o i pos) X.env v=(do
   let ov ← holding [v] (eval o X.env)
   let iv ← holding [v,ov] (eval i X.env)
   standAt pos
   holding [v,ov,iv] (setItem ov iv v)
   release [v,ov,iv] []):=by intro _;rfl):PG X (.Subscript o i pos) (gSub to ti t):=by
 intro pins s σ H v u Q I r h
 rw[ha]
 refine wpAny_bind (wpAny_holding (thn (ho pins s σ H _ I h) fun ov s1 ⟨x,H1,I1,r1,q1⟩=>?_))
 refine wpAny_bind (wpAny_holding (thn (hi pins s1 σ H1 _ I1 q1) fun iv s2 ⟨y,H2,I2,r2,q2⟩=>?_))
 refine wpAny_bind (wpAny_standAt (wpAny_bind (wpAny_holding (thn (hs pins s2 σ H2 x y v ov iv u _ I2 r1 r2 r q2) fun _ s3 ⟨H3,I3,q3⟩=>?_))))
 exact wpAny_release ⟨σ,H3,I3,q3⟩
def tAsg(te:TE)(g:TG):TS:=fun D σ H=>te σ H fun x H1=>g x σ H1 D.nx
theorem wq{tg e:Expr}{te:TE}{g:TG}(he:PE X e te)(hg:PG X tg g)(hs:swapsWithSole [tg] e pos.line X.env=pure false:=by rfl)(hw:swappedStores [tg] e X.env=pure none:=by rfl)
  (h1:(assignEach [tg] X.env).map (·.2) = [assign tg X.env]:=by rfl):PS X (.Assign [tg] e pos) (tAsg te g):=by
 intro pins s σ H D I h
 refine wpAny_Assign_stores (thn (he pins s σ H _ I h) fun v s1 ⟨x,H1,I1,r1,q1⟩=>?_) hs hw
 rw[h1]
 exact thn (hg pins s1 σ H1 x v _ I1 r1 q1) fun _ s2 q=>q
theorem ar{i:Nat}{x:Str}{e:Expr}{te:TE}{pos':Pos}(hN:X.N.Nodup)(hi:X.N[i]?=some x)(hx:Loc X.env.scope x)(he:PE X e te)(hs:swapsWith e (some (.Name x pos')) pos.line X.env=pure false:=by rfl)(hf:X.fn x=true∨X.env.scope.names.lookup x=some .local:=by first | exact .inl rfl | exact .inr rfl | assumption) :
  PS X (.Assign [.Name x pos'] e pos) (tAsg te (gName i)):=by
 intro pins s σ H D I h
 refine wpAny_Assign_Name (thn (he pins s σ H _ I h) fun v s1 ⟨y,H1,I1,r1,q1⟩=>?_) hs
 exact dX I1 hN hi hx r1 (fun s2 I2=>⟨_,H1,I2,q1⟩) hf
def tPar(i j:Nat)(ta:TA):TS:=fun D σ H=>ta σ H fun vs H1=>∃ v w,vs = [v,w]/\D.nx ((σ.set i (some v)).set j (some w)) H1
theorem ps_par{i j:Nat}{x y:Str}{a b:Expr}{ta:TA}{px py pt:Pos}{kt k2 pt2}(hc:X.calm=true)(hN:X.N.Nodup)(hi:X.N[i]?=some x)(hj:X.N[j]?=some y)(hij:i≠j)
  (hx:X.env.scope.names.lookup x=some .local) (hy:X.env.scope.names.lookup y=some .local) (ha:PA X [a,b] ta)
  (hw:swappedStores [.Tuple [.Name x px,.Name y py] kt pt] (.Tuple [a,b] k2 pt2) X.env=pure (some [x,y]))
  (hs:swapsWithSole [.Tuple [.Name x px,.Name y py] kt pt] (.Tuple [a,b] k2 pt2) pos.line X.env=pure false:=by rfl) :
  PS X (.Assign [.Tuple [.Name x px,.Name y py] kt pt] (.Tuple [a,b] k2 pt2) pos) (tPar i j ta):=by
 intro pins s σ H D I h
 rw[exec_Assign_arm]
 refine wpAny_bind (wpAny_standAt ?_)
 rw[hs]
 refine wpAny_bind (wpAny_pure ?_)
 rw[if_neg (by decide)]
 refine wpAny_bind (Tuple_ (thn (ha _ pins s σ H _ I h) fun us s1 ⟨vs,H1,I1,r1,q1⟩=>?_))
 obtain⟨v,w,e1,q1⟩:=q1
 subst e1
 obtain⟨u1,u2,rfl,rv,rw'⟩:∃ u1 u2,us = [u1,u2]/\RelV v u1/\RelV w u2:=by
  cases r1 with
  |cons p q =>
   cases q with
   |cons p' q' =>
    cases q'
    exact⟨_,_,rfl,p,p'⟩
 refine wpAny_newObj_type ?_ (by show 2<=sizeLine;decide)
 have I2:Inv X pins σ H1 { s1 with heap:=s1.heap.push { cls:=.type "tuple",data:=.seq [u1,u2].toArray } }:=I1.kept (t':=s1.toks) fun b o e=>Heap.get?_push_of_some _ e
 rw[hw]
 refine wpAny_bind (wpAny_pure ?_)
 show wpAny (model X.prog X.w) X.A (do rule "assign.swapped-stores";let items ← unpackItems (.ref s1.heap.objs.size) 2 none;assignInOrder [fun v=>bindName X.env y v,fun v=>bindName X.env x v] items.reverse;pure Flow.next) _ _ _
 refine wpAny_bind (wpAny_rule (wpAny_bind (unpackItems_tuple (items:=#[u1,u2]) (I.ok.hd hc) (IsTup.new s1.heap _) fun h' hx'=>?_)))
 have I3:=I2.kept (h':=h') (t':=s1.toks) fun b o e=>hx' b o (DO (Heap.lt_size e)) e
 show wpAny _ _ (assignInOrder [fun v=>bindName X.env y v,fun v=>bindName X.env x v] [u2,u1] >>= fun _=>pure Flow.next) _ _ _
 refine wpAny_bind (assignInOrder_cons (wpAny_bindName (dX I3 hN hj (.inl hy) rw' (fun s2 I4=>?_) (.inr hy))))
 refine assignInOrder_cons (wpAny_bindName (dX I4 hN hi (.inl hx) rv (fun s3 I5=>assignInOrder_nil (wpAny_pure ?_)) (.inr hx)))
 rw[List.set_comm _ _ (Ne.symm hij)]at I5
 exact⟨_,H1,I5,q1⟩
end
section
variable{X:Cx}{pos:Pos}
def AW(c:TT)(tb:TS):TS:=fun D σ H=>∃ W:Nat->St->Hp->Prop,(∃ m,W m σ H)/\∀ m σ H,W m σ H ->
 c σ H fun b H1=>if b=true then ∃ N:St->Hp->Prop,(∀ σ' H',N σ' H'->∃ m',m'<m/\W m' σ' H')/\tb { D with nx:=N,ct:=N,bk:=D.nx } σ H1 else D.nx σ H1
theorem gP{c:Expr}{body:List Stmt}{tc:TT}{tb:TS}(hp:PassesOwn (model X.prog X.w) X.A X.env X.xe)(hc:PT X c tc)(hb:PSs X body tb):PS X (.While c body [] pos) (AW tc tb):=by
 intro pins s σ H D I h
 obtain⟨W,⟨m0,w0⟩,turn⟩:=h
 refine wpAny_While (codeAny_whileLoop (fun n s'=>∃ σ' H',Inv X pins σ' H' s'/\W n σ' H') ?_ m0 ⟨σ,H,I,w0⟩)
 rintro n s1 ⟨σ1,H1,I1,w1⟩
 refine wpAny_passesOwn hp (thn (hc pins s1 σ1 H1 _ I1 (turn n σ1 H1 w1)) fun b s2 ⟨H2,I2,q2⟩=>?_)
 cases b with
 |true =>
  obtain⟨N,hN,q2⟩:=q2
  rw[if_pos rfl]
  refine wpAny_passesOwn hp (thn (hb pins s2 σ1 H2 _ I2 q2) fun f s3 q3=>?_)
  cases f with
  |next =>
   obtain⟨σ3,H3,I3,n3⟩:=q3
   obtain⟨m',hm,w3⟩:=hN σ3 H3 n3
   exact⟨m',hm,σ3,H3,I3,w3⟩
  |cont =>
   obtain⟨σ3,H3,I3,n3⟩:=q3
   obtain⟨m',hm,w3⟩:=hN σ3 H3 n3
   exact⟨m',hm,σ3,H3,I3,w3⟩
  |brk=>exact q3
  |ret v=>exact q3
 |false =>
  rw[if_neg DW]
  exact wpAny_execs_nil ⟨σ1,H2,I2,q2⟩
end
structure It where
 go:Nat->Hp->Prop
 yld:Nat->Hp->V->Hp->Prop
 stop:Nat->Hp->Prop
def FpOk(X:Cx)(pins:List (Addr×Obj))(H:Hp)(b:Addr):Prop :=
 H b=none/\b≠X.env.locals/\b∉X.fs/\(b∈X.ex∨X.s₀.heap.objs.size<=b)/\(∀ x c,X.env.cells.lookup x=some c->c≠b)/\∀ p∈X.pn++pins,p.1≠b
theorem Inv.fpOk{X:Cx}{pins:List (Addr×Obj)}{σ:St}{H H':Hp}{s:Shared}{b:Addr}(I:Inv X pins σ H s)(hb:s.heap.objs.size<=b)(hn:H' b=none):FpOk X pins H' b:=by
 refine⟨hn,EJ (Ei I.lt hb),I.nofs hb,.inr (E7 I.sz hb),fun x c e z=>?_,fun p hp z=>?_⟩
 ·obtain⟨v,q⟩:=I.cell x c e
  exact absurd (Ei q.lt (by rw[z];exact hb)) (Ey _)
 ·exact absurd (Ei (Heap.lt_size (I.pin p hp).1) (by rw[z];exact hb)) (Ey _)
structure Turn(P:Program)(w:World)(K:DE)(tg:Expr)(J:It)(fp:List Addr)(it:Addr)(tn:Nat->Heap->Prop):Prop where
 mem:it∈fp
 obj:∀ i h,tn i h->∀ b∈fp,∃ o,h.get? b=some o/\∀ v,o.data≠.cell v
 keep:∀ i h h',tn i h->(∀ b∈fp,∀ o,h.get? b=some o->h'.get? b=some o)->tn i h'
 item:∀(X:Cx),X.prog=P->X.w=w->X.K=K->X.calm=true->∀(i:Nat)(pins:List (Addr×Obj))(s:Shared)(σ:St)(H:Hp)(E:Value->Shared->Prop),Inv X pins σ H s->(∀ b∈fp,FpOk X pins H b)->tn i s.heap->J.go i H ->
  wpAny (model P w) X.A (pyNext (.ref it)) (fun r s1=>∃ u,r=some u /\
   wpAny (model P w) X.A (letOwnedTupleGo tg (.ref it) u) (fun _ s2=>∃ x H',Inv X pins σ H' s2/\RelV x u/\J.yld i H x H'/\tn (i+1) s2.heap/\∀ b∈fp,H' b=none) E s1) E s
 done:∀(X:Cx),X.prog=P->X.w=w->X.K=K->X.calm=true->∀(i:Nat)(pins:List (Addr×Obj))(s:Shared)(σ:St)(H:Hp)(E:Value->Shared->Prop),Inv X pins σ H s->(∀ b∈fp,FpOk X pins H b)->tn i s.heap->J.stop i H ->
  wpAny (model P w) X.A (pyNext (.ref it)) (fun r s1=>r=none/\Inv X pins σ H s1) E s
 self:∀(A:Around)(i:Nat)(s:Shared)(Q:Value->Shared->Prop)(E:Value->Shared->Prop),tn i s.heap->Q (.ref it) s->wpAny (model P w) A (pyIter (.ref it)) Q E s
abbrev TI:=St->Hp->(It->Hp->Prop)->Prop
def PIE(X:Cx)(pins:List (Addr×Obj))(σ:St)(tg:Expr)(R:It->Hp->Prop)(itv:Value)(s2:Shared):Prop :=
 ∃(it:Addr)(fp:List Addr)(tn:Nat->Heap->Prop)(J:It)(H':Hp),itv=.ref it/\Inv X pins σ H' s2/\Turn X.prog X.w X.K tg J fp it tn/\tn 0 s2.heap/\(∀ b∈fp,FpOk X pins H' b)/\R J H'
def PI(X:Cx)(tg iter:Expr)(wi:TI):Prop :=
 ∀(pins:List (Addr×Obj))(s:Shared)(σ:St)(H:Hp)(R:It->Hp->Prop),Inv X pins σ H s->wi σ H R ->
  wpAny (model X.prog X.w) X.A (eval iter X.env) (fun v s1=>wpAny (model X.prog X.w) X.A (pyIter v) (PIE X pins σ tg R) X.xe s1) X.xe s
theorem go_of{M:Model}{A:Around}{E:Value->Shared->Prop}{s:Shared}{tg:Expr}{it:Addr}{u:Value}{o:Obj}{n:String}{vs:Array Value}{Q:Unit->Shared->Prop}(ho:s.heap.get? it=some o)(hc:o.cls=.type n)(hd:o.data=.fields vs)
  (hn : ["enumerate","zip","dict_itemiterator","dict_reverseitemiterator","odict_iterator","itertools.zip_longest","itertools.pairwise"].contains n=false) (hQ:Q () s):wpAny M A (letOwnedTupleGo tg (.ref it) u) Q E s:=by
 unfold letOwnedTupleGo
 cases tg<;>first
  |exact wpAny_pure hQ
  | (cases u<;>first
    |exact wpAny_pure hQ
    | (refine wpAny_bind (wpAny_load ho ?_)
       rw[hc,hd]
       show wpAny M A (if(["enumerate","zip","dict_itemiterator","dict_reverseitemiterator","odict_iterator","itertools.zip_longest","itertools.pairwise"].contains n&&vs[0]? == some (rawInt _))=true then _ else _) Q E s
       rw[if_neg (by intro h;rw[hn,GH]at h;cases h)]
       exact wpAny_pure hQ))
def Itl(K:DE)(a:Addr):It :=
 ⟨fun i H=>∃ xs x,SqL K H a xs/\xs[i]?=some x,fun i H x H'=>H'=H/\∀ xs,SqL K H a xs->xs[i]?=some x,fun i H=>∃ xs,SqL K H a xs/\xs.length<=i⟩
def Itr(lo:Int)(n:Nat):It:=⟨fun i _=>i<n,fun i H x H'=>H'=H/\x=.int (lo+i),fun i _=>n<=i⟩
theorem vN{P:Program}{w:World}{K:DE}{tg:Expr}(a it:Addr):Turn P w K tg (Itl K a) [it] it (fun i h=>h.IsListIter it a i) where
 mem:=by simp
 obj:=fun i h st b hb=>by
  have e:b=it:=by simpa using hb
  subst e
  obtain⟨o,e,c,d⟩:=st
  exact⟨o,e,fun v z=>by rw[d]at z;cases z⟩
 keep:=fun i h h' st k=>st.at fun o e=>k it (by simp) o e
 item:=by
  intro X hP hw hK hc i pins s σ H E I hf st hg
  subst hP hw hK
  obtain⟨xs,x,hq,hx⟩:=hg
  obtain⟨its,rv,p,hz⟩:=I.list hq
  obtain⟨u,hu,ru⟩:=rv.get hx
  obtain⟨f0,f1,f2,f3,f4,f5⟩:=hf it (by simp)
  refine wpAny_pyNext_list_item st p.isList (x:=u) (by simpa using hu) fun h' st' sb=>?_
  have I1:Inv X pins σ H { s with heap:=h' }:=I.turned (t':=s.toks) (fun b o hb e=>(sb.2 b hb).trans e) f0 f1 f3 f4 f5
  obtain⟨o,e,c,d⟩:=id st'
  exact⟨u,rfl,go_of (s:={ s with heap:=h' }) e c d (by decide) ⟨x,H,I1,ru,⟨rfl,fun ys hy=>by rw[I.list_inj hy hq];exact hx⟩,st',fun b hb=>(hf b hb).1⟩⟩
 done:=by
  intro X hP hw hK hc i pins s σ H E I hf st hg
  subst hP hw hK
  obtain⟨xs,hq,hx⟩:=hg
  obtain⟨its,rv,p,hz⟩:=I.list hq
  obtain⟨f0,f1,f2,f3,f4,f5⟩:=hf it (by simp)
  have hl:=rv.length
  exact wpAny_pyNext_list_end (I.ok.hd hc) st p.isList (by simp;omega) fun h' eb=>⟨rfl,I.turned (t':=s.toks) (fun b o hb e=>eb b o hb e) f0 f1 f3 f4 f5⟩
 self:=fun _ _ _ _ _ st h=>wpAny_pyIter_listiter st h
theorem t5{P:Program}{w:World}{K:DE}{tg:Expr}(it:Addr)(lo:Int)(n:Nat):Turn P w K tg (Itr lo n) [it] it (fun i h=>IsRangeIter h it (lo+(i:Nat)*1) ((n:Int)-(i:Nat)) 1) where
 mem:=by simp
 obj:=fun i h st b hb=>by
  have e:b=it:=by simpa using hb
  subst e
  exact⟨_,st,fun v z=>by
   have z':Data.fields _=Data.cell v:=z
   cases z'⟩
 keep:=fun i h h' st k=>k it (by simp) _ st
 item:=by
  intro X hP hw hK hc i pins s σ H E I hf st hg
  subst hP hw hK
  obtain⟨f0,f1,f2,f3,f4,f5⟩:=hf it (by simp)
  have W:=Walks.range (prog:=X.prog) (w:=X.w) (I.ok.hd hc) it lo 1 n
  refine W.item i s _ _ hg st fun v h' tk hv st' kk=>?_
  obtain⟨t,rfl⟩:=hv
  have I1:Inv X pins σ H { s with heap:=h',toks:=tk }:=I.turned (fun b o hb e=>kk b o (by simpa using hb) e) f0 f1 f3 f4 f5
  refine⟨_,rfl,go_of (s:={ s with heap:=h',toks:=tk }) (n:="range_iterator") st' rfl rfl (by decide) ⟨.int (lo+i),H,I1,⟨t,?_⟩,⟨rfl,rfl⟩,st',fun b hb=>(hf b hb).1⟩⟩
  rw[Int.mul_one]
 done:=by
  intro X hP hw hK hc i pins s σ H E I hf st hg
  subst hP hw hK
  obtain⟨f0,f1,f2,f3,f4,f5⟩:=hf it (by simp)
  exact wpAny_pyNext_range_end (I.ok.hd hc) st (by have:n<=i:=hg;omega) fun h' eb=>⟨rfl,I.turned (t':=s.toks) (fun b o hb e=>eb b o hb e) f0 f1 f3 f4 f5⟩
 self:=fun _ _ _ _ _ st h=>wpAny_pyIter_rangeiter st h
end L2
namespace L2
open PySem PySem.Spec PyProof.Rows
section
variable{X:Cx}{tg:Expr}
def iList(K:DE)(tl:TE):TI:=fun σ H R=>tl σ H fun x H1=>∃ a,x=.ref a/\(∃ xs,SqL K H1 a xs)/\R (Itl K a) H1
theorem bu{l:Expr}{tl:TE}(hl:PE X l tl):PI X tg l (iList X.K tl):=by
 intro pins s σ H R I h
 refine thn (hl pins s σ H _ I h) fun v s1 ⟨x,H1,I1,r1,q1⟩=>?_
 obtain⟨a,e,⟨xs,hq⟩,q⟩:=q1
 subst e
 cases r1
 obtain⟨its,rv,p,hz⟩:=I1.list hq
 refine wpAny_pyIter_list p.isList ?_
 refine⟨s1.heap.objs.size,[s1.heap.objs.size],_,_,H1,rfl,I1.kept (t':=s1.toks) fun b o e=>Heap.get?_push_of_some _ e,vN a _,⟨_,Heap.get?_push_size _ rfl,rfl,rfl⟩,fun b hb=>?_,q⟩
 have e:b=s1.heap.objs.size:=by simpa using hb
 subst e
 exact I1.fpOk (DF _) (I1.hok.fresh (DF _))
theorem zv{pins:List (Addr×Obj)}{σ:St}{H:Hp}{s:Shared}{R:It->Hp->Prop}{E:Value->Shared->Prop}{lo hi:Int}{t u v:Tok}{tk:Nat}(I:Inv X pins σ H s)(h1 : -(2^62)<=lo)(h2:lo<2^62)(h3 : -(2^62)<=hi)(h4:hi<2^62)
  (q:R (Itr lo (hi-lo).toNat) H):wpAny (model X.prog X.w) X.A (pyIter (.ref s.heap.objs.size)) (PIE X pins σ tg R) E { s with heap:=s.heap.push { cls:=.type "range",data:=.fields #[.int lo t,.int hi u,.int 1 v] },toks:=tk }:=by
 refine wpAny_pyIter_range (IsRange.new ..) (small_one h1 h2 h3 h4) ?_
 have I1:Inv X pins σ H { s with heap:=s.heap.push { cls:=.type "range",data:=.fields #[.int lo t,.int hi u,.int 1 v] },toks:=tk }:=I.kept fun b o e=>Heap.get?_push_of_some _ e
 refine⟨(s.heap.push { cls:=.type "range",data:=.fields #[.int lo t,.int hi u,.int 1 v] }).objs.size,[(s.heap.push { cls:=.type "range",data:=.fields #[.int lo t,.int hi u,.int 1 v] }).objs.size],_,_,H,rfl,
  I1.kept (t':=tk) fun b o e=>Heap.get?_push_of_some _ e,t5 _ lo (hi-lo).toNat,?_,fun b hb=>?_,q⟩
 ·have e1:lo+((0:Nat):Int)*1=lo:=by simp
  have e2:(((hi-lo).toNat:Nat):Int)-((0:Nat):Int)=Builtin.Range.rangeSize lo hi 1:=by rw[rangeSize_one];split<;>omega +splitDisjunctions
  show IsRangeIter _ _ (lo+((0:Nat):Int)*1) ((((hi-lo).toNat:Nat):Int)-((0:Nat):Int)) 1
  rw[e1,e2]
  exact Heap.get?_push_size _ rfl
 ·have e:b=(s.heap.push { cls:=.type "range",data:=.fields #[.int lo t,.int hi u,.int 1 v] }).objs.size:=by simpa using hb
  subst e
  exact I1.fpOk (DF _) (I1.hok.fresh (DF _))
def iRng1(ta:TA):TI:=fun σ H R=>ta σ H fun vs H1=>∃ j:Int,vs = [.int j]/\-(2^62)<=j/\j<2^62/\R (Itr 0 j.toNat) H1
theorem bV{a:Expr}{ta:TA}{p pos:Pos} (hg:Gl X "range") (hm:X.mg "range" = none) (ha:PA X [a] ta) (hs:starEach [a] X.env = [(false,eval a X.env)]:=by rfl):PI X tg (.Call (.Name "range" p) [a] [] pos) (iRng1 ta):=by
 intro pins s σ H R I h
 refine Call_ (fj I hg hm boot_range (PyProof.Rows.callWith_type1 (thn (ha pos pins s σ H _ I h) fun us s1 ⟨vs,H1,I1,r1,q1⟩=>?_) hs rfl))
 obtain⟨j,e,q1,q2,q⟩:=q1
 subst e
 cases r1 with
 |cons r rr =>
  cases rr
  obtain⟨t,rfl⟩:=r
  exact call_range_1 (zv I1 (by omega) (by omega) q1 q2 (by simpa using q))
def tFor(wi:TI)(g:TG)(tb:TS):TS:=fun D σ H=>wi σ H fun J H1=>∃ W:Nat->Nat->St->Hp->Prop,(∃ m,W 0 m σ H1)/\∀ i m σ H,W i m σ H ->
 (J.stop i H/\D.nx σ H)∨(J.go i H/\∃ N:St->Hp->Prop,(∀ σ' H',N σ' H'->∃ m',m'<m/\W (i+1) m' σ' H')/\∀ x H',J.yld i H x H'->g x σ H' fun σ2 H2=>tb { D with nx:=N,ct:=N,bk:=D.nx } σ2 H2)
def oQ(fp:List Addr)(h:Heap):List (Addr×Obj):=fp.filterMap fun b=>(h.get? b).map fun o=>(b,o)
theorem dN{fp:List Addr}{h:Heap}{b:Addr}{o:Obj}(hb:b∈fp)(e:h.get? b=some o):(b,o)∈oQ fp h:=GR.mpr ⟨b,hb,by rw[e];rfl⟩
theorem wO{fp:List Addr}{h:Heap}{p:Addr×Obj}(hp:p∈oQ fp h):p.1∈fp/\h.get? p.1=some p.2:=by
 obtain⟨b,hb,e⟩:=GR.mp hp
 cases q:h.get? b with
 |none=>rw[q]at e;cases e
 |some o =>
  rw[q]at e
  have e':(b,o)=p:=El e
  subst e'
  exact⟨hb,q⟩
theorem Inv.pinned{pins:List (Addr×Obj)}{σ:St}{H:Hp}{s:Shared}{fp:List Addr}(I:Inv X pins σ H s)(hf:∀ b∈fp,FpOk X pins H b)(ho:∀ b∈fp,∃ o,s.heap.get? b=some o/\∀ v,o.data≠.cell v):Inv X (pins++oQ fp s.heap) σ H s :=
 I.pins_of fun p hp=>(DN.mp hp).elim (fun z=>I.pin p (DQ _ z)) fun z=>by
  obtain⟨hb,e⟩:=wO z
  obtain⟨f0,f1,f2,_⟩:=hf p.1 hb
  obtain⟨o,e',d⟩:=ho p.1 hb
  rw[e]at e';cases e'
  exact⟨e,f0,f1,f2,d⟩
theorem Inv.unpinned{pins pl:List (Addr×Obj)}{σ:St}{H:Hp}{s:Shared}(I:Inv X (pins++pl) σ H s):Inv X pins σ H s:=I.pins_of fun p hp=>I.pin p (DQ _ (EC _ hp))
theorem dM{iter:Expr}{body:List Stmt}{wi:TI}{g:TG}{tb:TS}{pos:Pos}(hp:PassesOwn (model X.prog X.w) X.A X.env X.xe)(hc:X.calm=true)(hi:PI X tg iter wi)(hg:PG X tg g)(hb:PSs X body tb)
  (hs:∀ x,foldedSetIterable iter X.env x=pure x:=by intro _;rfl):PS X (.For tg iter body [] pos) (tFor wi g tb):=by
 intro pins s σ H D I h
 refine wpAny_For (thn (hi pins s σ H _ I h) fun v s1 h1=>thn h1 fun itv s2 h2=>?_) hs
 obtain⟨it,fp,tn,J,H2,e,I2,T,st2,f2,W,⟨m0,w0⟩,turn⟩:=h2
 subst e
 have stat:∀{H':Hp},(∀ b∈fp,H' b=none)->∀ b∈fp,FpOk X pins H' b:=fun hn b hb=>⟨hn b hb,(f2 b hb).2⟩
 refine codeAny_forLoop_any (fun n s'=>∃ i σ' H',Inv X pins σ' H' s'/\tn i s'.heap/\(∀ b∈fp,H' b=none)/\W i n σ' H') ?_ m0 ⟨0,σ,H2,I2,st2,fun b hb=>(f2 b hb).1,w0⟩
 rintro n s3 ⟨i,σ3,H3,I3,st3,fr3,w3⟩
 rcases turn i n σ3 H3 w3 with⟨stop,qn⟩ | ⟨go,N,hN,step⟩
 ·refine wpAny_passesOwn hp (thn (T.done X rfl rfl rfl hc i pins s3 σ3 H3 X.xe I3 (stat fr3) st3 stop) fun r s4 ⟨hr,I4⟩=>?_)
  subst hr
  exact wpAny_execs_nil ⟨σ3,H3,I4,qn⟩
 ·refine wpAny_passesOwn hp (thn (T.item X rfl rfl rfl hc i pins s3 σ3 H3 X.xe I3 (stat fr3) st3 go) fun r s4 ⟨u,hr,h4⟩=>?_)
  subst hr
  refine wpAny_passesOwn hp (thn h4 fun _ s5 ⟨x,H5,I5,r5,y5,st5,fr5⟩=>?_)
  have I5':=I5.pinned (stat fr5) (T.obj _ _ st5)
  refine wpAny_passesOwn hp (thn (hg _ s5 σ3 H5 x u _ I5' r5 (step x H5 y5)) fun _ s6 ⟨σ6,H6,I6,q6⟩=>?_)
  refine wpAny_passesOwn hp (thn (hb _ s6 σ6 H6 _ I6 q6) fun f s7 q7=>?_)
  have again:∀{σ7:St}{H7:Hp},Inv X (pins++oQ fp s5.heap) σ7 H7 s7->N σ7 H7->∃ m,m<n/\∃ i σ' H',Inv X pins σ' H' s7/\tn i s7.heap/\(∀ b∈fp,H' b=none)/\W i m σ' H':=fun{σ7 H7} I7 n7=>by
   obtain⟨m',hm,w7⟩:=hN σ7 H7 n7
   refine⟨m',hm,i+1,σ7,H7,I7.unpinned,T.keep _ _ _ st5 fun b hb o e=>(I7.pin (b,o) (DQ _ (DQ _ (dN hb e)))).1,fun b hb=>?_,w7⟩
   obtain⟨o,e,d⟩:=T.obj _ _ st5 b hb
   exact(I7.pin (b,o) (DQ _ (DQ _ (dN hb e)))).2.1
  cases f with
  |next=>obtain⟨σ7,H7,I7,n7⟩:=q7;exact again I7 n7
  |cont=>obtain⟨σ7,H7,I7,n7⟩:=q7;exact again I7 n7
  |brk=>obtain⟨σ7,H7,I7,q7⟩:=q7;exact⟨σ7,H7,I7.unpinned,q7⟩
  |ret v=>obtain⟨x7,σ7,H7,I7,r7,q7⟩:=q7;exact⟨x7,σ7,H7,I7.unpinned,r7,q7⟩
end
theorem c9{K:DE}{a:Addr}{xs:List V}{g:TG}{tb:TS}{D:Ends}{σ:St}{H:Hp}(Pv:Nat->St->Hp->Prop)(h0:Pv 0 σ H)(hl:∀ i σ H,i<=xs.length->Pv i σ H->SqL K H a xs)
  (hs:∀ i x σ H,xs[i]?=some x->Pv i σ H->g x σ H fun σ2 H2=>tb { D with nx:=Pv (i+1),ct:=Pv (i+1),bk:=D.nx } σ2 H2) (hd:∀ σ H,Pv xs.length σ H->D.nx σ H) :
  ∃ W:Nat->Nat->St->Hp->Prop,(∃ m,W 0 m σ H)/\∀ i m σ H,W i m σ H ->
   ((Itl K a).stop i H/\D.nx σ H)∨((Itl K a).go i H/\∃ N:St->Hp->Prop,(∀ σ' H',N σ' H'->∃ m',m'<m/\W (i+1) m' σ' H')/\∀ x H',(Itl K a).yld i H x H'->g x σ H' fun σ2 H2=>tb { D with nx:=N,ct:=N,bk:=D.nx } σ2 H2):=by
 refine⟨fun i m σ H=>m=xs.length-i/\i<=xs.length/\Pv i σ H,⟨xs.length,by simp,Eu _,h0⟩,?_⟩
 rintro i m σ H ⟨rfl,hi,p⟩
 have q:=hl i σ H hi p
 by_cases hlt:i<xs.length
 ·refine .inr ⟨⟨xs,xs[i],q,by simp[hlt]⟩,Pv (i+1),fun σ' H' p'=>⟨xs.length-(i+1),by omega,rfl,hlt,p'⟩,fun x H' y=>?_⟩
  obtain⟨e,y⟩:=y
  subst e
  exact hs i x σ _ (y xs q) p
 ·have e:i=xs.length:=by omega
  subst e
  exact .inl ⟨⟨xs,q,DF _⟩,hd σ H p⟩
theorem kj{lo:Int}{n:Nat}{g:TG}{tb:TS}{D:Ends}{σ:St}{H:Hp}(Pv:Nat->St->Hp->Prop)(h0:Pv 0 σ H)
  (hs:∀ i σ H,i<n->Pv i σ H->g (.int (lo+i)) σ H fun σ2 H2=>tb { D with nx:=Pv (i+1),ct:=Pv (i+1),bk:=D.nx } σ2 H2) (hd:∀ σ H,Pv n σ H->D.nx σ H) :
  ∃ W:Nat->Nat->St->Hp->Prop,(∃ m,W 0 m σ H)/\∀ i m σ H,W i m σ H ->
   ((Itr lo n).stop i H/\D.nx σ H)∨((Itr lo n).go i H/\∃ N:St->Hp->Prop,(∀ σ' H',N σ' H'->∃ m',m'<m/\W (i+1) m' σ' H')/\∀ x H',(Itr lo n).yld i H x H'->g x σ H' fun σ2 H2=>tb { D with nx:=N,ct:=N,bk:=D.nx } σ2 H2):=by
 refine⟨fun i m σ H=>m=n-i/\i<=n/\Pv i σ H,⟨n,by simp,Eu _,h0⟩,?_⟩
 rintro i m σ H ⟨rfl,hi,p⟩
 by_cases hlt:i<n
 ·refine .inr ⟨hlt,Pv (i+1),fun σ' H' p'=>⟨n-(i+1),by omega,rfl,hlt,p'⟩,fun x H' y=>?_⟩
  obtain⟨e,y⟩:=y
  subst e y
  exact hs i σ _ hlt p
 ·have e:i=n:=by omega
  subst e
  exact .inl ⟨DF _,hd σ H p⟩
theorem gK{c:TT}{tb:TS}{D:Ends}{σ:St}{H:Hp}(Pv:St->Hp->Prop)(μ:St->Hp->Nat)(h0:Pv σ H)
  (hs:∀ σ H,Pv σ H->c σ H fun b H1=>if b=true then tb { D with nx:=fun σ' H'=>Pv σ' H'/\μ σ' H'<μ σ H,ct:=fun σ' H'=>Pv σ' H'/\μ σ' H'<μ σ H,bk:=D.nx } σ H1 else D.nx σ H1)
  (mono:∀ σ H Q Q',(∀ b H1,Q b H1->Q' b H1)->c σ H Q->c σ H Q'):AW c tb D σ H:=by
 refine⟨fun m σ H=>m=μ σ H/\Pv σ H,⟨_,rfl,h0⟩,?_⟩
 rintro m σ H ⟨rfl,p⟩
 refine mono σ H _ _ (fun b H1 q=>?_) (hs σ H p)
 cases b with
 |true=>exact⟨_,fun σ' H' ⟨p',l⟩=>⟨_,l,rfl,p'⟩,q⟩
 |false=>exact q
end L2
namespace L2
open PySem PySem.Spec PyProof.Rows
abbrev R2:=V->V->Hp->VK->Prop
def OpR(X:Cx)(f:Value->Value->Sem Value)(r:R2):Prop :=
 ∀(pins:List (Addr×Obj))(s:Shared)(σ:St)(H:Hp)(x y:V)(v u:Value)(Q:VK),Inv X pins σ H s->RelV x v->RelV y u->r x y H Q ->
  wpAny (model X.prog X.w) X.A (f v u) (EP X pins σ Q) X.xe s
def gG(X:Cx)(f:Value)(r:List V->Hp->VK->Prop):Prop :=
 ∀(pins:List (Addr×Obj))(s:Shared)(σ:St)(H:Hp)(xs:List V)(us:List Value)(Q:VK),Inv X pins σ H s->Vals xs us->r xs H Q ->
  wpAny (model X.prog X.w) X.A (call f us) (EP X pins σ Q) X.xe s
def tOp(r:R2)(ta tb:TE):TE:=fun σ H Q=>ta σ H fun x H1=>tb σ H1 fun y H2=>r x y H2 Q
def rI(C:Int->Int->Prop)(g:Int->Int->V):R2:=fun x y H Q=>∃ i j,x=.int i/\y=.int j/\C i j/\Q (g i j) H
def rI0(g:Int->Int->V):R2:=fun x y H Q=>∃ i j,x=.int i/\y=.int j/\Q (g i j) H
section
variable{X:Cx}{a b c:Expr}{ta tb tc:TE}{pos:Pos}
theorem binT(ha:PE X a ta)(hb:PE X b tb){pins:List (Addr×Obj)}{s:Shared}{σ:St}{H:Hp}{R:V->V->Hp->Prop}(I:Inv X pins σ H s)
  (h:ta σ H fun x H1=>tb σ H1 fun y H2=>R x y H2) {Q:Value->Shared->Prop} {f:Value->Value->Sem Value}
  (hf:∀ v u s2 x y H2,Inv X pins σ H2 s2->RelV x v->RelV y u->R x y H2->wpAny (model X.prog X.w) X.A (f v u) Q X.xe s2) :
  wpAny (model X.prog X.w) X.A (eval a X.env) (fun v s₁=>wpAny (model X.prog X.w) X.A (eval b X.env) (fun u s₂=>wpAny (model X.prog X.w) X.A (f v u) Q X.xe s₂) X.xe s₁) X.xe s:=by
 refine thn (ha pins s σ H _ I h) fun v s1 ⟨x,H1,I1,r1,q1⟩=>?_
 refine thn (hb pins s1 σ H1 _ I1 q1) fun u s2 ⟨y,H2,I2,r2,q2⟩=>?_
 exact hf v u s2 x y H2 I2 r1 r2 q2
theorem au{op:Operator}{r:R2}(ho:OpR X (binaryOp op) r)(ha:PE X a ta)(hb:PE X b tb):PE X (.BinOp a op b pos) (tOp r ta tb):=by
 intro pins s σ H Q I h
 exact wpAny_BinOp (binT ha hb I h fun v u s2 x y H2 I2 rx ry q=>ho pins s2 σ H2 x y v u Q I2 rx ry q)
theorem opI{f:Value->Value->Sem Value}{C:Int->Int->Prop}{g:Int->Int->Int}
  (rule:∀(i j:Int)(t u:Tok)(s:Shared)(Q:Value->Shared->Prop)(E:Value->Shared->Prop),C i j->Q (.int (g i j) s.toks) { s with toks:=s.toks+1 }->wpAny (model X.prog X.w) X.A (f (.int i t) (.int j u)) Q E s) :
  OpR X f (rI C fun i j=>.int (g i j)):=by
 intro pins s σ H x y v u Q I rx ry h
 obtain⟨i,j,rfl,rfl,hc,q⟩:=h
 obtain⟨t,rfl⟩:=rx
 obtain⟨t',rfl⟩:=ry
 exact rule i j t t' s _ _ hc ⟨.int (g i j),H,I.tok _,⟨_,rfl⟩,q⟩
theorem opI0{f:Value->Value->Sem Value}{g:Int->Int->Int}
  (rule:∀(i j:Int)(t u:Tok)(s:Shared)(Q:Value->Shared->Prop)(E:Value->Shared->Prop),Q (.int (g i j) s.toks) { s with toks:=s.toks+1 }->wpAny (model X.prog X.w) X.A (f (.int i t) (.int j u)) Q E s) :
  OpR X f (rI0 fun i j=>.int (g i j)):=by
 intro pins s σ H x y v u Q I rx ry h
 obtain⟨i,j,rfl,rfl,q⟩:=h
 obtain⟨t,rfl⟩:=rx
 obtain⟨t',rfl⟩:=ry
 exact rule i j t t' s _ _ ⟨.int (g i j),H,I.tok _,⟨_,rfl⟩,q⟩
theorem opB0{f:Value->Value->Sem Value}{g:Int->Int->Bool}
  (rule:∀(i j:Int)(t u:Tok)(s:Shared)(Q:Value->Shared->Prop)(E:Value->Shared->Prop),Q (.bool (g i j)) s->wpAny (model X.prog X.w) X.A (f (.int i t) (.int j u)) Q E s) :
  OpR X f (rI0 fun i j=>.bl (g i j)):=by
 intro pins s σ H x y v u Q I rx ry h
 obtain⟨i,j,rfl,rfl,q⟩:=h
 obtain⟨t,rfl⟩:=rx
 obtain⟨t',rfl⟩:=ry
 exact rule i j t t' s _ _ ⟨.bl (g i j),H,I,rfl,q⟩
def CDiv(i j:Int):Prop:=0<j/\j<1073741824
def CPow(i j:Int):Prop:=0<=j/\j<=1000000/\i.natAbs<2^64
def CMul(i j:Int):Prop:=(-(2^64)<i/\i<2^64)∨(-(2^64)<j/\j<2^64)
theorem CMul.ok{i j:Int}(h:CMul i j):IntMulOk i j:=by
 rcases h with⟨h1,h2⟩ | ⟨h1,h2⟩
 ·exact .of_left (intBits_le_64 h1 h2)
 ·exact .of_right (intBits_le_64 h1 h2)
theorem tZ(k:Nat):(0:Int)<=2^k:=by
 rw[two_pow_cast]
 exact GS _
theorem cH:OpR X (binaryOp .Add) (rI0 fun i j=>.int (i+j)):=opI0 fun _ _ _ _ _ _ _ q=>add_int q
theorem fO:OpR X (binaryOp .Sub) (rI0 fun i j=>.int (i-j)):=opI0 fun _ _ _ _ _ _ _ q=>sub_int q
theorem jO:OpR X (binaryOp .Mult) (rI CMul fun i j=>.int (i*j)):=opI fun _ _ _ _ _ _ _ hc q=>mul_int q hc.ok
theorem iC:OpR X (binaryOp .FloorDiv) (rI CDiv fun i j=>.int (i/j)):=opI fun i j _ _ _ _ _ hc q=>by
 have h1:(0:Int)<j:=hc.1
 have h2:j<1073741824:=hc.2
 exact floordiv_int (by omega) (by rw[Hh i (by omega)];exact q) (.inl (PyProof.noPylong_small (by omega)))
theorem bP:OpR X (binaryOp .Mod) (rI (fun _ j=>0<j) fun i j=>.int (i%j)):=opI fun i j _ _ _ _ _ hc q=>by
 have h1:(0:Int)<j:=hc
 exact mod_int' (by omega) (by rw[Int.fmod_eq_emod_of_nonneg i (by omega)];exact q)
theorem op_pow:OpR X (binaryOp .Pow) (rI CPow fun i j=>.int (i^j.toNat)):=opI fun _ _ _ _ _ _ _ hc q=>pow_int_small hc.1 hc.2.1 hc.2.2 q
theorem bW:OpR X (binaryOp .LShift) (rI CPow fun i j=>.int (i*2^j.toNat)):=opI fun _ _ _ _ _ _ _ hc q=>lshift_int_small hc.1 hc.2.1 hc.2.2 q
theorem oW:OpR X (binaryOp .RShift) (rI (fun _ j=>0<=j) fun i j=>.int (i/2^j.toNat)):=opI fun i j _ _ _ _ _ hc q =>
 rshift_int hc (by rw[Hh i (tZ _)];exact q)
theorem oX:OpR X (binaryOp .BitAnd) (rI0 fun i j=>.int (Builtin.bitAnd i j)):=opI0 fun _ _ _ _ _ _ _ q=>and_int q
theorem wI:OpR X (binaryOp .BitOr) (rI0 fun i j=>.int (Builtin.bitOr i j)):=opI0 fun _ _ _ _ _ _ _ q=>or_int q
theorem iP:OpR X (binaryOp .BitXor) (rI0 fun i j=>.int (Builtin.bitXor i j)):=opI0 fun _ _ _ _ _ _ _ q=>xor_int q
end
def scal:V->V->Bool
 |.non,.non=>true | .non,.int _=>true | .int _,.non=>true | .non,.bl _=>true | .bl _,.non=>true | .non,.str _=>true | .str _,.non=>true
 |.int _,.int _=>true | .bl _,.bl _=>true | .str _,.str _=>true | .byt _,.byt _=>true
 |.int _,.str _=>true | .str _,.int _=>true | .bl _,.str _=>true | .str _,.bl _=>true
 |_,_=>false
def rEq:R2:=fun x y H Q=>scal x y=true/\Q (.bl (decide (x=y))) H
def rNe:R2:=fun x y H Q=>scal x y=true/\Q (.bl (!decide (x=y))) H
theorem x9{i j:Int}:decide (V.int i=V.int j)=(i == j):=by
 rw[GB]
 simp
theorem Bp{i j:Bool}:decide (V.bl i=V.bl j)=(i == j):=by
 rw[GB]
 simp
theorem x8{i j:Str}:decide (V.str i=V.str j)=(i == j):=by
 rw[GB]
 simp
theorem ya{i j:Array UInt8}:decide (V.byt i=V.byt j)=(i.toList == j.toList):=by
 rw[GB]
 cases i
 cases j
 simp
section
variable{X:Cx}{a b c:Expr}{ta tb tc:TE}{pos:Pos}
theorem aQ{pins:List (Addr×Obj)}{σ:St}{H:Hp}{s:Shared}{Q:VK}{k k':Bool}(I:Inv X pins σ H s)(q:Q (.bl k) H)(e:k=k'):EP X pins σ Q (.bool k') s:=by
 subst e
 exact⟨.bl k,H,I,rfl,q⟩
theorem f9:OpR X (compareOp .Eq) rEq:=by
 intro pins s σ H x y v u Q I rx ry h
 obtain⟨hs,q⟩:=h
 cases x with
 |non =>
  cases rx
  cases y with
  |non=>cases ry;exact PySem.EqNone.eq_none_none (aQ I q (by simp))
  |bl j=>cases ry;exact PySem.EqNone.eq_none_bool (aQ I q (by simp))
  |int j=>obtain⟨t',rfl⟩:=ry;exact PySem.EqNone.eq_none_int (aQ I q (by simp))
  |str j=>obtain⟨t',rfl⟩:=ry;exact PySem.EqNone.eq_none_str (aQ I q (by simp))
  |_=>exact absurd (show false=true from hs) DW
 |bl i =>
  cases rx
  cases y with
  |non=>cases ry;exact PySem.EqNone.eq_bool_none (aQ I q (by simp))
  |bl j=>cases ry;exact eq_bool (aQ I q Bp)
  |str j=>obtain⟨t',rfl⟩:=ry;exact PySem.EqMixed.eq_bool_str (aQ I q (by simp))
  |_=>exact absurd (show false=true from hs) DW
 |int i =>
  obtain⟨t,rfl⟩:=rx
  cases y with
  |non=>cases ry;exact PySem.EqNone.eq_int_none (aQ I q (by simp))
  |int j=>obtain⟨t',rfl⟩:=ry;exact eq_int (aQ I q x9)
  |str j=>obtain⟨t',rfl⟩:=ry;exact PySem.EqMixed.eq_int_str (aQ I q (by simp))
  |_=>exact absurd (show false=true from hs) DW
 |str i =>
  obtain⟨t,rfl⟩:=rx
  cases y with
  |non=>cases ry;exact PySem.EqNone.eq_str_none (aQ I q (by simp))
  |bl j=>cases ry;exact PySem.EqMixed.eq_str_bool (aQ I q (by simp))
  |int j=>obtain⟨t',rfl⟩:=ry;exact PySem.EqMixed.eq_str_int (aQ I q (by simp))
  |str j=>obtain⟨t',rfl⟩:=ry;exact eq_str (aQ I q x8)
  |_=>exact absurd (show false=true from hs) DW
 |byt i =>
  obtain⟨t,rfl⟩:=rx
  cases y with
  |byt j=>obtain⟨t',rfl⟩:=ry;exact PySem.W.eq_bytes (aQ I q ya)
  |_=>exact absurd (show false=true from hs) DW
 |_=>cases y<;>exact absurd (show false=true from hs) DW
theorem qG:OpR X (compareOp .NotEq) rNe:=by
 intro pins s σ H x y v u Q I rx ry h
 obtain⟨hs,q⟩:=h
 cases x with
 |non =>
  cases rx
  cases y with
  |non=>cases ry;exact PySem.EqNone.ne_none_none (aQ I q (by simp))
  |bl j=>cases ry;exact PySem.EqNone.ne_none_bool (aQ I q (by simp))
  |int j=>obtain⟨t',rfl⟩:=ry;exact PySem.EqNone.ne_none_int (aQ I q (by simp))
  |str j=>obtain⟨t',rfl⟩:=ry;exact PySem.EqNone.ne_none_str (aQ I q (by simp))
  |_=>exact absurd (show false=true from hs) DW
 |bl i =>
  cases rx
  cases y with
  |non=>cases ry;exact PySem.EqNone.ne_bool_none (aQ I q (by simp))
  |bl j=>cases ry;exact ne_bool (aQ I q (congrArg not Bp))
  |str j=>obtain⟨t',rfl⟩:=ry;exact PySem.EqMixed.ne_bool_str (aQ I q (by simp))
  |_=>exact absurd (show false=true from hs) DW
 |int i =>
  obtain⟨t,rfl⟩:=rx
  cases y with
  |non=>cases ry;exact PySem.EqNone.ne_int_none (aQ I q (by simp))
  |int j=>obtain⟨t',rfl⟩:=ry;exact ne_int (aQ I q (congrArg not x9))
  |str j=>obtain⟨t',rfl⟩:=ry;exact PySem.EqMixed.ne_int_str (aQ I q (by simp))
  |_=>exact absurd (show false=true from hs) DW
 |str i =>
  obtain⟨t,rfl⟩:=rx
  cases y with
  |non=>cases ry;exact PySem.EqNone.ne_str_none (aQ I q (by simp))
  |bl j=>cases ry;exact PySem.EqMixed.ne_str_bool (aQ I q (by simp))
  |int j=>obtain⟨t',rfl⟩:=ry;exact PySem.EqMixed.ne_str_int (aQ I q (by simp))
  |str j=>obtain⟨t',rfl⟩:=ry;exact ne_str (aQ I q (congrArg not x8))
  |_=>exact absurd (show false=true from hs) DW
 |byt i =>
  obtain⟨t,rfl⟩:=rx
  cases y with
  |byt j=>obtain⟨t',rfl⟩:=ry;exact PySem.W.ne_bytes (aQ I q (congrArg not ya))
  |_=>exact absurd (show false=true from hs) DW
 |_=>cases y<;>exact absurd (show false=true from hs) DW
theorem Ck:OpR X (compareOp .Lt) (rI0 fun i j=>.bl (decide (i<j))):=opB0 fun _ _ _ _ _ _ _ q=>lt_int q
theorem zH:OpR X (compareOp .Gt) (rI0 fun i j=>.bl (decide (j<i))):=opB0 fun _ _ _ _ _ _ _ q=>gt_int q
theorem Be:OpR X (compareOp .Is) (fun x y H Q=>y=.non/\Q (.bl (decide (x=.non))) H):=by
 intro pins s σ H x y v u Q I rx ry h
 obtain⟨rfl,q⟩:=h
 cases ry
 refine is_none_gen (aQ I q ?_)
 cases x<;>first
  | (cases rx;rfl)
  | (obtain⟨t,rfl⟩:=rx;rfl)
theorem Cj:OpR X (compareOp .IsNot) (fun x y H Q=>y=.non/\Q (.bl (!decide (x=.non))) H):=by
 intro pins s σ H x y v u Q I rx ry h
 obtain⟨rfl,q⟩:=h
 cases ry
 refine isnot_none_gen (aQ I q ?_)
 cases x<;>first
  | (cases rx;rfl)
  | (obtain⟨t,rfl⟩:=rx;rfl)
theorem aN(b:Expr){op:CmpOp}(h:op≠.In:=by decide)(h2:op≠.NotIn:=by decide):behindInMarks op b=false:=by
 have e1:(op == CmpOp.In)=false:=by cases op<;>first | rfl | exact absurd rfl h
 have e2:(op == CmpOp.NotIn)=false:=by cases op<;>first | rfl | exact absurd rfl h2
 cases b<;>simp[behindInMarks,e1,e2]
theorem wG{op:CmpOp}{r:R2}(ho:OpR X (compareOp op) r)(ha:PE X a ta)(hb:PE X b tb)(hm:behindInMarks op b=false):PE X (.Compare a [op] [b] pos) (tOp r ta tb):=by
 intro pins s σ H Q I h
 exact wpAny_Compare1 (binT ha hb I h fun v u s2 x y H2 I2 rx ry q=>ho pins s2 σ H2 x y v u Q I2 rx ry q) hm
def tTest(t:TE):TT:=fun σ H Q=>t σ H fun x H'=>∃ k,x=.bl k/\Q k H'
theorem aF{op:CmpOp}{r:R2}(ho:OpR X (compareOp op) r)(ha:PE X a ta)(hb:PE X b tb)(hm:behindInMarks op b=false):PT X (.Compare a [op] [b] pos) (tTest (tOp r ta tb)):=by
 intro pins s σ H Q I h
 refine wpAny_isTrue_Compare1 (thn (ha pins s σ H _ I h) fun v s1 ⟨x,H1,I1,r1,q1⟩=>thn (hb pins s1 σ H1 _ I1 q1) fun u s2 ⟨y,H2,I2,r2,q2⟩ =>
  thn (ho pins s2 σ H2 x y v u _ I2 r1 r2 q2) fun c s3 ⟨z,H3,I3,r3,k,e,q3⟩=>?_) hm
 subst e
 cases r3
 exact wpAny_truthy_bool ⟨H3,I3,q3⟩
theorem mj:(sizeLine:Nat)<2^63:=by rw[sizeLine_eq];decide
theorem jy{x:V}{us:List Value}(r:Vals [x] us):∃ u,us = [u]/\RelV x u:=by
 cases r with
 |cons r1 r2=>cases r2;exact⟨_,rfl,r1⟩
theorem tY{x y:V}{us:List Value}(r:Vals [x,y] us):∃ u w',us = [u,w']/\RelV x u/\RelV y w':=by
 cases r with
 |cons r1 r2 =>
  cases r2 with
  |cons r3 r4=>cases r4;exact⟨_,_,rfl,r1,r3⟩
theorem pS(hc:X.calm=true):gG X (.builtin "max") (fun xs H Q=>∃ i j,xs = [.int i,.int j]/\Q (.int (if j > i then j else i)) H):=by
 intro pins s σ H xs us Q I r h
 obtain⟨i,j,rfl,q⟩:=h
 obtain⟨u,w',rfl,⟨t,rfl⟩,⟨t',rfl⟩⟩:=tY r
 refine max_two_ints (I.ok.hd hc) fun h' tk k=>⟨_,H,I.kept k,?_,q⟩
 by_cases hj:j > i
 ·rw[if_pos hj,if_pos hj];exact⟨_,rfl⟩
 ·rw[if_neg hj,if_neg hj];exact⟨_,rfl⟩
theorem yz(hc:X.calm=true):gG X (.builtin "min") (fun xs H Q=>∃ i j,xs = [.int i,.int j]/\Q (.int (if j<i then j else i)) H):=by
 intro pins s σ H xs us Q I r h
 obtain⟨i,j,rfl,q⟩:=h
 obtain⟨u,w',rfl,⟨t,rfl⟩,⟨t',rfl⟩⟩:=tY r
 refine min_two_ints (I.ok.hd hc) fun h' tk k=>⟨_,H,I.kept k,?_,q⟩
 by_cases hj:j<i
 ·rw[if_pos hj,if_pos hj];exact⟨_,rfl⟩
 ·rw[if_neg hj,if_neg hj];exact⟨_,rfl⟩
end
end L2
namespace L2
open PySem PySem.Spec PyProof.Rows
section
variable{prog:Program}{w:World}{A:Around}{E:Value->Shared->Prop}{s:Shared}{K:DE}{x dx C f:Addr}{mA:Str->Option Value}{name:Str}{v:Value}
end
theorem RelO.some_of{v:V}{o:Option Value}(r:RelO (some v) o):∃ u,o=some u/\RelV v u:=by
 cases o with
 |none=>exact(show False from r).elim
 |some u=>exact⟨u,rfl,r⟩
section
variable{P:Program}{w:World}{H H':Hp}{h h':Heap}{a C dx:Addr}{fs fs':List (Str×V)}
end
section
variable{X:Cx}{pins:List (Addr×Obj)}{σ:St}{H:Hp}{s:Shared}{a C dx:Addr}{fs:List (Str×V)}{f:Str}{v:V}{A:Around}{E:Value->Shared->Prop}
end
section
variable{X:Cx}{o e value:Expr}{f:Str}{pos pos' tpos:Pos}{ta tv:TE}
end
section
variable{X:Cx}{pins:List (Addr×Obj)}{σ:St}{H:Hp}{s:Shared}{A:Around}{E:Value->Shared->Prop}{Q:Value->Shared->Prop}{c:Value}{b:Bool}
end
end L2
namespace L2
open PySem PySem.Spec PyProof.Rows
structure Room(k:Nat)(A:Around):Prop where
 hd:A.handled=none
 dp:A.depth+3*k+5<recursionLimit
 un:A.units+16*k+200<cLine
theorem Room.mono{j k:Nat}{A:Around}(r:Room k A)(h:j<=k):Room j A:=⟨r.hd,by have:=r.dp;omega,by have:=r.un;omega⟩
theorem Room.deeper{k:Nat}{A:Around}(r:Room (k+1) A)(env:Env):Room k (A.deeper env) :=
 ⟨r.hd,by have:=r.dp;show A.depth+1+3*k+5<_;omega,by have:=r.un;show A.units+3+16*k+200<_;omega⟩
theorem Room.depth{k:Nat}{A:Around}(r:Room k A):A.depth<recursionLimit:=by have:=r.dp;omega
theorem Room.units{k:Nat}{A:Around}(r:Room k A):A.units+64<cLine:=by have:=r.un;omega
def tNil:TA:=fun _ H Q=>Q [] H
def tCons(ta:TE)(tr:TA):TA:=fun σ H Q=>ta σ H fun x H1=>tr σ H1 fun xs H2=>Q (x::xs) H2
section
variable{X:Cx}{e:Expr}{es:List Expr}{te:TE}{t:TA}{pos:Pos}
theorem ai:PA X [] tNil:=fun _ _ _ _ H Q I h=>Calls.spliced_nil ⟨[],H,I,.nil,h⟩
theorem ae(ha:PE X e te)(hr:PA X es t)(hs:starEach (e::es) X.env=(false,eval e X.env)::starEach es X.env:=by rfl):PA X (e::es) (tCons te t):=by
 intro pos pins s σ H Q I h
 rw[hs]
 show wpAny _ _ (spliced ((false,eval e X.env)::backTo pos (starEach es X.env))) _ _ s
 refine Calls.spliced_cons (thn (ha pins s σ H _ I h) fun u s1 ⟨x,H1,I1,r1,q1⟩=>?_)
 exact thn (hr pos pins s1 σ H1 _ I1 q1) fun us s2 ⟨xs,H2,I2,r2,q2⟩=>⟨x::xs,H2,I2,.cons r1 r2,q2⟩
def tTup(t:TA):TE:=fun σ H Q=>t σ H fun xs H1=>xs.length<=sizeLine/\∀ p,H1 p=none->Q (.ref p) (upd H1 p (.tup xs))
def tLst(t:TA):TE:=fun σ H Q=>t σ H fun xs H1=>xs.length<=sizeLine/\∀ p,H1 p=none->Q (.ref p) (upd H1 p (.lst xs))
theorem iM{x1}(h:PA X es t):PE X (.Tuple es x1 pos) (tTup t):=by
 intro pins s σ H Q I hq
 refine wpAny_Tuple_spliced (thn (h pos pins s σ H _ I hq) fun us s1 ⟨xs,H1,I1,r,z,q⟩=>⟨by rw[← r.length];exact z,?_⟩)
 have hf:H1 s1.heap.objs.size=none:=I1.hok.fresh (DF _)
 refine⟨.ref s1.heap.objs.size,upd H1 s1.heap.objs.size (.tup xs),I1.laid (t':=s1.toks) (fun b u e=>Heap.get?_push_of_some _ e) (DF _) ?_,rfl,q _ hf⟩
 exact⟨z,us,r,⟨_,Heap.get?_push_size _ rfl,rfl,_,rfl⟩⟩
theorem fN(h:PA X es t):PE X (.List es pos) (tLst t):=by
 intro pins s σ H Q I hq
 refine wpAny_List_spliced (thn (h pos pins s σ H _ I hq) fun us s1 ⟨xs,H1,I1,r,z,q⟩=>⟨by rw[← r.length];exact z,?_⟩)
 have hf:H1 s1.heap.objs.size=none:=I1.hok.fresh (DF _)
 refine⟨.ref s1.heap.objs.size,upd H1 s1.heap.objs.size (.lst xs),I1.laid (t':=s1.toks) (fun b u e=>Heap.get?_push_of_some _ e) (DF _) ?_,rfl,q _ hf⟩
 exact⟨z,us,0,r,Heap.get?_push_size _ rfl⟩
end
abbrev Sp:=List V->Hp->VK->XK->Prop
abbrev CXT:=List Env->Hp->Shared->XK->Value->Shared->Prop
structure Env0(P:Program)(w:World)(K:DE)(mg:Str->Option Value)(base:Heap)(A:Around)(outer:List Env)(s:Shared)(H:Hp):Prop where
 frames:A.frames=some outer
 mod:Mod K mg base
 bs:∀ b o,base.get? b=some o->s.heap.get? b=some o/\H b=none
 bsz:base.objs.size<=s.heap.objs.size
 funs:s.heap.FunFrames base outer
 frf:∀ b∈frs outer,H b=none
 hok:HOk P w H s.heap
 bare:AllBare s.gens
def CE(outer:List Env)(P:Program)(w:World)(H:Hp)(s:Shared)(Q:VK)(u:Value)(s':Shared):Prop :=
 ∃ v H',s'.os=s.os/\AllBare s'.gens/\Un (frs outer) [] H H' s.heap s'.heap/\HOk P w H' s'.heap/\RelV v u/\Q v H'
def CR(CX:CXT)(outer:List Env)(P:Program)(w:World)(H:Hp)(s:Shared)(Q:VK)(E:XK)(r:Result)(s':Shared):Prop :=
 match r with
 |.ok (.ret u)=>CE outer P w H s Q u s'
 |.ok _=>False
 |.error e=>CX outer H s E e s'
structure FnOk(P:Program)(w:World)(K:DE)(mg:Str->Option Value)(base:Heap)(CX:CXT)(k:Nat)(f:Addr)(fd:FuncData)(ps:List Str)(sp:Sp):Prop where
 len:∀ vs H Q E,sp vs H Q E->vs.length=ps.length
 run:∀(A:Around)(outer:List Env)(s:Shared)(H:Hp)(args:Args)(us:List Value)(vs:List V)(Q:VK)(E:XK),Room k A->Env0 P w K mg base A outer s H->BindsTo s fd args (ps.zip us)->Vals vs us->sp vs H Q E ->
  codeAny (model P w) A (.call (.ref f) args) (CR CX outer P w H s Q E) s
section
variable{X:Cx}{pins:List (Addr×Obj)}{σ:St}{H:Hp}{s s':Shared}
theorem Inv.env0(I:Inv X pins σ H s):Env0 X.prog X.w X.K X.mg X.base X.A X.stack s H :=
 ⟨I.ok.frames,I.ok.mod,I.bs,E7 I.ok.bsz I.sz,I.stack,I.stkFree,I.hok,I.bare⟩
theorem Inv.after{Q:VK}{u:Value}(I:Inv X pins σ H s)(h:CE X.stack X.prog X.w H s Q u s'):EP X pins σ Q u s':=by
 obtain⟨v,H',os,bare,un,hok,r,q⟩:=h
 obtain⟨hh,g,d,t,os'⟩:=s'
 obtain rfl:os'=s.os:=os
 exact⟨v,H',I.call (h':=hh) (g':=g) (d':=d) (t':=t) (ch:=[]) un hok bare (fun b z=>absurd z (by simp)),r,q⟩
end
def tCall(sp:Sp)(dvs:List V)(E:XK)(t:TA):TE:=fun σ H Q=>t σ H fun vs H1=>sp (vs++dvs) H1 Q E
def i9(K:DE)(fd:FuncData)(ps:List Str)(ds:List Value):Prop :=
 ∀(s:Shared)(us:List Value),K.In s.heap->(us++ds).length=ps.length->BindsTo s fd ⟨us,[]⟩ (ps.zip (us++ds))
theorem i9.all{K:DE}{fd:FuncData}{ps:List Str}(h:∀ us:List Value,us.length=ps.length->bindArgs fd ⟨us,[]⟩=pure (ps.zip us)):i9 K fd ps []:=fun s us _ hl=>by
 rw[Fz]at hl ⊢
 exact .of_eq (h us hl)
def tR(CX:CXT)(X:Cx)(E:XK):Prop:=∀(pins:List (Addr×Obj))(σ:St)(H:Hp)(s:Shared)(e:Value)(s':Shared),Inv X pins σ H s->CX X.stack H s E e s'->X.xe e s'
section
variable{X:Cx}{CX:CXT}{k:Nat}{f C:Addr}{fd:FuncData}{ps:List Str}{sp:Sp}{dvs:List V}{ds:List Value}{E:XK}{x m:Str}{p pos apos:Pos}{e o:Expr}{es:List Expr}{ta:TE}{t:TA}
theorem Ba{pins:List (Addr×Obj)}{σ:St}{H:Hp}{s:Shared}{Q:VK}{us:List Value}{vs:List V}(F:FnOk X.prog X.w X.K X.mg X.base CX k f fd ps sp)(hr:Room k X.A)(hb:i9 X.K fd ps ds)(hd:Vals dvs ds)(hx:tR CX X E)
  (I:Inv X pins σ H s) (r:Vals vs us) (h:sp (vs++dvs) H Q E):wpAny (model X.prog X.w) X.A (call (.ref f) us) (EP X pins σ Q) X.xe s:=by
 have r2:Vals (vs++dvs) (us++ds):=r.append hd
 have hl:(us++ds).length=ps.length:=by rw[← r2.length];exact F.len _ _ _ _ h
 refine wpAny_call (codeAny_mono (F.run X.A X.stack s H ⟨us,[]⟩ (us++ds) (vs++dvs) Q E hr I.env0 (hb s us I.kIn hl) r2 h) fun r s' hq=>?_)
 cases r with
 |error e=>exact hx pins σ H s e s' I hq
 |ok fl =>
  cases fl with
  |ret u=>exact I.after hq
  |next=>exact False.elim hq
  |brk=>exact False.elim hq
  |cont=>exact False.elim hq
theorem ay(F:FnOk X.prog X.w X.K X.mg X.base CX k f fd ps sp)(hr:Room k X.A)(hg:Gl X x)(hm:X.mg x=some (.ref f))(hk:D4 X.K (.ref f)=true)(hb:i9 X.K fd ps ds)(hd:Vals dvs ds)(hx:tR CX X E)
  (ha:PA X (e::es) t) (hdb:(x == ("__debug__" : Str))=false:=by decide) (he:starEach (e::es) X.env=(false,eval e X.env)::starEach es X.env:=by rfl) (hpl:(backTo pos (starEach es X.env)).any (·.1)=false:=by rfl) :
  PE X (.Call (.Name x p) (e::es) [] pos) (tCall sp dvs E t):=by
 intro pins s σ H Q I h
 refine wpAny_Call_Name_kw (iD I hg hm ?_ hdb)
 refine GO (h₀:=X.base) I.ok.mod.kin hk (thn (ha pos pins s σ H _ I h) fun us s1 ⟨vs,H1,I1,r,q⟩=>⟨I1.kIn,?_⟩) he hpl
 exact Ba F hr hb hd hx I1 r q
theorem sO(F:FnOk X.prog X.w X.K X.mg X.base CX k f fd ps sp)(hr:Room k X.A)(hg:Gl X x)(hm:X.mg x=some (.ref f))(hk:D4 X.K (.ref f)=true)(hb:i9 X.K fd ps ds)(hd:Vals dvs ds)(hx:tR CX X E)
  (hdb:(x == ("__debug__" : Str))=false:=by decide):PE X (.Call (.Name x p) [] [] pos) (tCall sp dvs E tNil):=by
 intro pins s σ H Q I h
 refine wpAny_Call_Name_kw (iD I hg hm ?_ hdb)
 exact PySem.W.callWith_K0 I.kIn hk (Ba (us:=[]) F hr hb hd hx I .nil h)
end
section
variable{X:Cx}{CX:CXT}{k:Nat}{f C:Addr}{fd:FuncData}{ps ks:List Str}{sp:Sp}{E:XK}{x m:Str}{p pos apos kpos:Pos}{e o:Expr}{es:List Expr}{kws:List Keyword}{te ta:TE}{t tk:TA}{nm:Option Str}
variable{g:List Value->List Value->List Value}{gV:List V->List V->List V}
end
structure aJ(N P:List Str)(sc:Scope):Prop where
 kind:sc.kind=.function
 co:sc.isCoroutine=false
 gen:sc.isGenerator=false
 nd:N.Nodup
 pre:N.take P.length=P
 par:∀ x∈P,sc.names.lookup x=some .local∨sc.names.lookup x=some .cell
 nofree:∀ y∈sc.names,y.2≠.free
theorem pW{kindOf:Str->Option NameKind}{x:Str}:∀{binds:List (Str×Value)}{m:Str->Option Value},(∀ v,(x,v)∉binds)->bindL kindOf binds m x=m x
 |[],_,_=>rfl
 | (n,v)::r,m,h=>by
  unfold bindL
  rw[pW fun w hw=>h w (DM _ hw)]
  split
  ·have:x≠n:=by rintro rfl;exact h v DU
   simp[this]
  ·rfl
theorem pY{kindOf:Str->Option NameKind}{x:Str}:∀{binds:List (Str×Value)}{m:Str->Option Value},(∀ v,(x,v)∉binds)->bindC kindOf binds m x=m x
 |[],_,_=>rfl
 | (n,v)::r,m,h=>by
  unfold bindC
  rw[pY fun w hw=>h w (DM _ hw)]
  split
  ·rfl
  ·have:x≠n:=by rintro rfl;exact h v DU
   simp[this]
theorem pX{kindOf:Str->Option NameKind}{x:Str}{v:Value}:∀{P:List Str}{vs:List Value}{i:Nat}{m:Str->Option Value},P.Nodup->P[i]?=some x->vs[i]?=some v->kindOf x=some .local ->
  bindL kindOf (P.zip vs) m x=some v
 |[],_,_,_,_,h,_,_=>by simp at h
 |_::_,[],_,_,_,_,h,_=>by simp at h
 |p::P,w::vs,0,m,nd,h1,h2,hk=>by
  simp at h1 h2;subst h1;subst h2
  show bindL kindOf ((p,w)::P.zip vs) m p=_
  unfold bindL
  rw[pW fun v hv=>(Eo.mp nd).1 (He hv).1,if_pos hk]
  simp
 |p::P,w::vs,i+1,m,nd,h1,h2,hk=>by
  show bindL kindOf ((p,w)::P.zip vs) m x=_
  unfold bindL
  exact pX (i:=i) (Eo.mp nd).2 (by simpa using h1) (by simpa using h2) hk
theorem pZ{kindOf:Str->Option NameKind}{x:Str}{v:Value}:∀{P:List Str}{vs:List Value}{i:Nat}{m:Str->Option Value},P.Nodup->P[i]?=some x->vs[i]?=some v->kindOf x≠some .local ->
  bindC kindOf (P.zip vs) m x=some v
 |[],_,_,_,_,h,_,_=>by simp at h
 |_::_,[],_,_,_,_,h,_=>by simp at h
 |p::P,w::vs,0,m,nd,h1,h2,hk=>by
  simp at h1 h2;subst h1;subst h2
  show bindC kindOf ((p,w)::P.zip vs) m p=_
  unfold bindC
  rw[pY fun v hv=>(Eo.mp nd).1 (He hv).1,if_neg hk]
  simp
 |p::P,w::vs,i+1,m,nd,h1,h2,hk=>by
  show bindC kindOf ((p,w)::P.zip vs) m x=_
  unfold bindC
  exact pZ (i:=i) (Eo.mp nd).2 (by simpa using h1) (by simpa using h2) hk
def lB(N:List Str)(vs:List V):St:=vs.map some++DJ (N.length-vs.length) none
def cxOf(CX:CXT)(P:Program)(w:World)(K:DE)(mg:Str->Option Value)(base:Heap)(N:List Str)(qual:Str)(scope:Scope)(f:Addr)(cd:Value)(A:Around)(outer:List Env)(s:Shared)(H:Hp)(E:XK):Cx where
 prog:=P
 w:=w
 K:=K
 mg:=mg
 base:=base
 A:=A.deeper (envOfC qual scope s.heap.objs.size f cd)
 N:=N
 s₀:=s
 H₀:=H
 env:=envOfC qual scope s.heap.objs.size f cd
 outer:=outer
 stack:=envOfC qual scope s.heap.objs.size f cd::outer
 ex:=[]
 calm:=true
 fn:=fun _=>true
 pn:=[]
 xe:=fun e s'=>wpAny (model P w) (A.deeper (envOfC qual scope s.heap.objs.size f cd)) (leaving (envOfC qual scope s.heap.objs.size f cd) e) (fun _ s''=>CX outer H s E e s'') (fun e' s''=>CX outer H s E e' s'') s'
theorem tM{sc:Scope}{n:Nat}{x:Str}(h:sc.names.lookup x=some .cell):∃ c,(cellsFrom n sc.names []).lookup x=some c:=by
 have q:=PySem.W.cellsFrom_some sc.names n [] (.inl h)
 exact Hl.mp q
theorem xI{CX:CXT}{P:Program}{w:World}{K:DE}{mg:Str->Option Value}{base:Heap}{N ps:List Str}{qual:Str}{scope:Scope}{f:Addr}{cd:Value}{A:Around}{outer:List Env}{s s1:Shared}{H:Hp}{E:XK}{us:List Value}{vs:List V}
  (S:aJ N ps scope) (hd:A.handled=none) (e0:Env0 P w K mg base A outer s H) (hl:vs.length=ps.length) (r:Vals vs us)
  (x:InCallC s s.heap.objs.size (bindL (envOfC qual scope s.heap.objs.size f cd).kindOf (ps.zip us) fun _=>none) (cellsFrom (s.heap.objs.size+1) scope.names []) (bindC (envOfC qual scope s.heap.objs.size f cd).kindOf (ps.zip us) fun _=>none) s1) :
  Inv (cxOf CX P w K mg base N qual scope f cd A outer s H E) [] (lB N vs) H s1:=by
 have hpl:ps.length<=N.length:=by have:=congrArg GK S.pre;rw[DY]at this;omega
 obtain⟨h1,tk,rfl,hk⟩:=x.done
 have noA:∀ b:Addr,b∉(cxOf CX P w K mg base N qual scope f cd A outer s H E).ex:=fun b z=>absurd (show b∈([]:List Addr) from z) (by simp)
 refine⟨⟨e0.mod,S.kind,rfl,rfl,DF _,fun y z c h1 h2=>?_,fun y hy=>?_,fun y c _ h=>?_,fun _=>hd,Around.frames_deeper e0.frames,.inr ⟨rfl,rfl⟩,fun b z=>absurd z (noA b),e0.bs,e0.bsz,fun b _ _=>noA b,fun b z=>absurd z (noA b),e0.funs,e0.frf⟩,
  rfl,e0.bare,Un.kept hk,⟨_,x.toInCall.ns,fun i y v h1 h2 h3=>?_⟩,fun y c h=>⟨_,x.cell y c h⟩,e0.hok.fresh (DF _),fun y c h=>?_,fun p hp=>absurd (show p∈([]:List (Addr×Obj)) from hp) (by simp),e0.hok.kept hk,?_⟩
 ·exact name_of_addr x.apart (EU h1) (EU h2)
 ·have hy:scope.names.lookup y=some .cell∨scope.names.lookup y=some .free:=hy
  rcases hy with hy | hy
  ·exact tM hy
  ·exact absurd rfl (S.nofree _ (EU hy))
 ·exact Ej (x.above y c (EU h))
 ·have hi:i<vs.length:=by
   unfold lB at h2
   by_cases hi:i<vs.length
   ·exact hi
   ·rw[D5 (by simpa using hi)]at h2
    rw[Fq]at h2
    split at h2<;>cases h2
  have ha:vs[i]?=some v:=by
   unfold lB at h2
   rw[Eh (by simpa using hi),DK]at h2
   cases e:vs[i]? with
   |none=>rw[e]at h2;cases h2
   |some a=>rw[e]at h2;cases h2;rfl
  obtain⟨u,hu,rv⟩:=r.get ha
  have hp:ps[i]?=some y:=by
   rw[← S.pre,List.getElem?_take_of_lt (by omega)];exact h1
  have ndP:ps.Nodup:=by rw[← S.pre];exact S.nd.sublist (List.take_sublist _ _)
  refine⟨u,rv,?_⟩
  rcases S.par y (DH hp)with k | k
  ·exact .inl ⟨k,pX ndP hp hu k⟩
  ·obtain⟨c,e⟩:=tM (n:=s.heap.objs.size+1) k
   refine .inr ⟨.inl k,c,e,?_⟩
   have q:=x.cell y c e
   rw[pZ ndP hp hu (by show scope.names.lookup y≠_;rw[k];decide)]at q
   exact q
 ·exact e0.hok.fresh (Ej (x.above y c (EU h)))
 ·unfold lB
  show _=N.length
  rw[DL,DG,Fc]
  omega
theorem CZ{CX:CXT}{P:Program}{w:World}{K:DE}{mg:Str->Option Value}{base:Heap}{k:Nat}{f:Addr}{name qual:Str}{params:Arguments}{body:List Stmt}{scope:Scope}{dV kV doc pm cdv ct oc:Value}{an od:Option Addr}
  {osl:Array (Option Value)} {N ps:List Str} {sp:Sp} (lk:K.lookup f=some ⟨oc,od,.func (Ee name qual params body scope dV kV doc pm an cdv ct),osl⟩) (hcd:Eb K cdv qual=true) (S:aJ N ps scope)
  (len:∀ vs H Q E,sp vs H Q E->vs.length=ps.length)
  (hbody:∀(A:Around)(outer:List Env)(s:Shared)(H:Hp)(vs:List V)(Q:VK)(E:XK),Room k (A.deeper (envOfC qual scope s.heap.objs.size f cdv))->sp vs H Q E ->
   ∃ t,PSs (cxOf CX P w K mg base N qual scope f cdv A outer s H E) body t/\t { nx:=fun _ H'=>Q .non H',rt:=Q } (lB N vs) H) :
  FnOk P w K mg base CX (k+1) f (Ee name qual params body scope dV kV doc pm an cdv ct) ps sp:=by
 refine⟨len,fun A outer s H args us vs Q E hr e0 hb r hsp=>?_⟩
 have hl:=len _ _ _ _ hsp
 have KX:K.In s.heap:=e0.mod.kin.keeps fun b o e=>(e0.bs b o e).1
 have lim:s.heap.NoLimit:=e0.mod.nolimit.keeps fun b o e=>(e0.bs b o e).1
 have hkind:∀ y∈ps.zip us,scope.names.lookup y.1=some .local∨(scope.names.lookup y.1=some .cell/\((cellsFrom (s.heap.objs.size+1) scope.names []).lookup y.1).isSome=true):=fun⟨n,v⟩ hy=>by
  rcases S.par n (He hy).1 with q | q
  ·exact .inl q
  ·exact .inr ⟨q,PySem.W.cellsFrom_some _ _ _ (.inl q)⟩
 refine codeAny_call_function hr.depth (KX _ _ lk) rfl S.co S.gen rfl (PySem.W.codeRec_of KX hcd) (hb _ _ _ _ ?_)
 refine wpAny_newFunctionEnv_cells S.kind hkind fun env he s1 x=>?_
 subst he
 refine⟨lim.keeps x.toInCall.keep,codeAny_func ?_⟩
 obtain⟨t,ht,hq⟩:=hbody A outer s H vs Q E (hr.deeper _) hsp
 have I:Inv (cxOf CX P w K mg base N qual scope f cdv A outer s H E) [] (lB N vs) H s1:=xI S hr.hd e0 hl r x
 refine wpAny_mono (ht [] s1 (lB N vs) H _ I hq) (fun fl s' hs=>?_) fun e s' hs=>hs
 have fin:∀{σ':St}{H':Hp}{v:V}{u:Value},Inv (cxOf CX P w K mg base N qual scope f cdv A outer s H E) [] σ' H' s'->RelV v u->Q v H'->CE outer P w H s Q u s' :=
  fun{σ' H' v u} J rv q=>⟨v,H',J.os,J.bare,J.base,J.hok,rv,q⟩
 cases fl with
 |ret u =>
  obtain⟨v,σ',H',J,rv,q⟩:=hs
  exact fin J rv q
 |next =>
  obtain⟨σ',H',J,q⟩:=hs
  exact fin (v:=V.non) (u:=Value.none) J rfl q
 |brk =>
  obtain⟨_,_,_,q⟩:=hs
  exact False.elim q
 |cont =>
  obtain⟨_,_,_,q⟩:=hs
  exact False.elim q
end L2
namespace L2
open PySem PySem.Spec PyProof.Rows
section
variable{X:Cx}{x:Str}{p pos:Pos}{e:Expr}{es:List Expr}{t:TA}{id T:String}{r:List V->Hp->VK->Prop}
def tCB(r:List V->Hp->VK->Prop)(t:TA):TE:=fun σ H Q=>t σ H fun vs H1=>r vs H1 Q
theorem aP(hc:gG X (.builtin id) r)(hg:Gl X x)(hm:X.mg x=none)(hv:bootBuiltins x=some (.builtin id))(ha:PA X (e::es) t) (hn:x≠"__name__":=by decide) (hdb:(x == ("__debug__" : Str))=false:=by decide)
  (he:starEach (e::es) X.env=(false,eval e X.env)::starEach es X.env:=by rfl) (hpl:(backTo pos (starEach es X.env)).any (·.1)=false:=by rfl):PE X (.Call (.Name x p) (e::es) [] pos) (tCB r t):=by
 intro pins s σ H Q I h
 refine wpAny_Call_Name_kw (fj I hg hm hv ?_ hn hdb)
 exact PyProof.Rows.callWith_builtin1 (thn (ha pos pins s σ H _ I h) fun us s1 ⟨vs,H1,I1,r1,q1⟩=>hc pins s1 σ H1 vs us Q I1 r1 q1) he hpl
theorem jN(hc:gG X (.type T) r)(hg:Gl X x)(hm:X.mg x=none)(hv:bootBuiltins x=some (.type T))(ha:PA X (e::es) t) (hn:x≠"__name__":=by decide) (hdb:(x == ("__debug__" : Str))=false:=by decide)
  (he:starEach (e::es) X.env=(false,eval e X.env)::starEach es X.env:=by rfl) (hpl:(backTo pos (starEach es X.env)).any (·.1)=false:=by rfl):PE X (.Call (.Name x p) (e::es) [] pos) (tCB r t):=by
 intro pins s σ H Q I h
 refine wpAny_Call_Name_kw (fj I hg hm hv ?_ hn hdb)
 exact PyProof.Rows.callWith_type1 (thn (ha pos pins s σ H _ I h) fun us s1 ⟨vs,H1,I1,r1,q1⟩=>hc pins s1 σ H1 vs us Q I1 r1 q1) he hpl
end
end L2
namespace HT
open PySem PyProof.Rows
section
open PySem.SeqAt
open PySem.AutoSeq1 (wpAny_loadPart')
open PySem.MeetsSeq PySem.MeetsSeq2 PySem.MeetsSeq3
end
section
variable{prog:Program}{w:World}{A:Around}{E:Value->Shared->Prop}{s:Shared}
def sIx(n d:Nat):Option Int->Nat
 |none=>d
 |some v=>if v<0 then(v+(n:Int)).toNat else min v.toNat n
theorem sIx_none(n d:Nat):sIx n d none=d:=rfl
theorem sIx_nat(n d k:Nat):sIx n d (some (k:Int))=min k n:=by
 show(if(k:Int)<0 then((k:Int)+(n:Int)).toNat else min (k:Int).toNat n)=min k n
 rw[if_neg (by omega),DV]
end
end HT
namespace L2
open PySem PySem.Spec PyProof.Rows
abbrev TO:=St->Hp->(Option Int->Hp->Prop)->Prop
def PO(X:Cx)(e:Option Expr)(t:TO):Prop :=
 ∀(pins:List (Addr×Obj))(s:Shared)(σ:St)(H:Hp)(Q:Option Int->Hp->Prop),Inv X pins σ H s->t σ H Q ->
  wpAny (model X.prog X.w) X.A (evalPart e X.env) (fun u s'=>∃ o H',Inv X pins σ H' s'/\IsPart u o/\Q o H') X.xe s
def BL:TO:=fun _ H Q=>Q none H
def tPart(t:TE):TO:=fun σ H Q=>t σ H fun x H1=>∃ i,x=.int i/\Q (some i) H1
section
variable{X:Cx}{e:Expr}{te:TE}{lo hi:Option Expr}{tl th:TO}{pos p2:Pos}
theorem m6:PO X none BL:=by
 intro pins s σ H Q I h
 rw[evalPart_none]
 exact wpAny_pure ⟨none,H,I,.none,h⟩
theorem m5(h:PE X e te):PO X (some e) (tPart te):=by
 intro pins s σ H Q I hw
 rw[evalPart_some]
 refine thn (h pins s σ H _ I hw) fun u s1 ⟨x,H1,I1,r1,q1⟩=>?_
 obtain⟨i,rfl,q⟩:=q1
 obtain⟨t,rfl⟩:=r1
 exact⟨some i,H1,I1,.int i t,q⟩
def SlR(X:Cx)(r:V->Option Int->Option Int->Hp->VK->Prop):Prop :=
 ∀(pins:List (Addr×Obj))(s:Shared)(σ:St)(H:Hp)(x:V)(v vl vu:Value)(lo hi:Option Int)(sl:Addr)(Q:VK),Inv X pins σ H s->RelV x v->s.heap.IsSliceOf sl vl vu .none->IsPart vl lo->IsPart vu hi->r x lo hi H Q ->
  ∃ T id,typeLookup (.type T) "__getitem__" = pure (some (.builtin id))/\s.TypeIs v T/\wpAny (model X.prog X.w) X.A (getItem v (.ref sl)) (EP X pins σ Q) X.xe s
def tSl(r:V->Option Int->Option Int->Hp->VK->Prop)(te:TE)(tl th:TO):TE:=fun σ H Q=>te σ H fun x H1=>tl σ H1 fun l H2=>th σ H2 fun u H3=>r x l u H3 Q
theorem jd{r:V->Option Int->Option Int->Hp->VK->Prop}(hr:SlR X r)(he:PE X e te)(hl:PO X lo tl)(hu:PO X hi th):PE X (.Subscript e (.Slice lo hi none p2) pos) (tSl r te tl th):=by
 intro pins s σ H Q I h
 refine Subscript_ (thn (he pins s σ H _ I h) fun v s1 ⟨x,H1,I1,r1,q1⟩=>?_)
 refine wpAny_Slice (thn (hl pins s1 σ H1 _ I1 q1) fun vl s2 ⟨l,H2,I2,pl,q2⟩=>thn (hu pins s2 σ H2 _ I2 q2) fun vu s3 ⟨u,H3,I3,pu,q3⟩=>?_)
 rw[evalPart_none]
 refine wpAny_pure ?_
 have I4:Inv X pins σ H3 { s3 with heap:=s3.heap.push { cls:=.type "slice",data:=.fields #[vl,vu,.none] } }:=I3.kept (t':=s3.toks) fun b ob q=>Heap.get?_push_of_some _ q
 obtain⟨T,id,hT,ht,hg⟩:=hr pins { s3 with heap:=s3.heap.push { cls:=.type "slice",data:=.fields #[vl,vu,.none] } } σ H3 x v vl vu l u s3.heap.objs.size Q I4 r1 (Heap.IsSliceOf.new ..) pl pu q3
 show wpAny (model X.prog X.w) X.A (subscriptTail e (.Slice lo hi none p2) v (.ref s3.heap.objs.size)) (EP X pins σ Q) X.xe { s3 with heap:=s3.heap.push { cls:=.type "slice",data:=.fields #[vl,vu,.none] } }
 exact tail_any (ops:=[.ref s3.heap.objs.size,v]) ht hT hg (by with_unfolding_all rfl)
def cutV(xs:List V)(lo hi:Option Int):List V:=(xs.drop (HT.sIx xs.length 0 lo)).take (HT.sIx xs.length xs.length hi-HT.sIx xs.length 0 lo)
theorem rF(xs:List V)(lo hi:Option Int):(cutV xs lo hi).length<=xs.length:=by
 unfold cutV
 rw[DY,Ek]
 omega
end
end L2
namespace L2
open PySem PySem.Spec PyProof.Rows
def ixN(n:Nat)(i:Int):Option Nat:=if 0<=i then(if i<n then some i.toNat else none) else if -(n:Int)<=i then some (i+n).toNat else none
def atI{α:Type}(xs:List α)(i:Int):Option α:=(ixN xs.length i).bind fun j=>xs[j]?
theorem xF{n:Nat}{i:Int}{j:Nat}(h:ixN n i=some j):seqIndex? i n=some j/\j<n/\-(n:Int)<=i/\i<n:=by
 unfold ixN at h
 by_cases h0:0<=i
 ·rw[if_pos h0]at h
  by_cases h1:i<n
  ·rw[if_pos h1]at h
   have e:i.toNat=j:=El h
   exact⟨by rw[seqIndex_of h0 h1,e],by omega,by omega,h1⟩
  ·rw[if_neg h1]at h;cases h
 ·rw[if_neg h0]at h
  by_cases h1 : -(n:Int)<=i
  ·rw[if_pos h1]at h
   have e:(i+n).toNat=j:=El h
   exact⟨by rw[seqIndex_neg (by omega) h1,e],by omega,h1,by omega⟩
  ·rw[if_neg h1]at h;cases h
theorem yL{α:Type}{xs:List α}{i:Int}{v:α}(h:atI xs i=some v):∃ j,seqIndex? i xs.length=some j/\xs[j]?=some v/\j<xs.length/\-(xs.length:Int)<=i/\i<xs.length:=by
 unfold atI at h
 cases e:ixN xs.length i with
 |none=>rw[e]at h;cases h
 |some j =>
  rw[e]at h
  obtain⟨h1,h2,h3,h4⟩:=xF e
  exact⟨j,h1,h,h2,h3,h4⟩
theorem aH{α:Type}{xs:List α}{j:Nat}{v:α}(h:xs[j]?=some v):atI xs (j:Int)=some v:=by
 have hj:j<xs.length:=(DC.mp h).1
 have e:ixN xs.length (j:Int)=some j:=by
  unfold ixN
  rw[if_pos (by omega),if_pos (by omega)];simp
 unfold atI;rw[e];exact h
def DA(b:Expr):Prop:=∀ o i,subscripted b false o i=operate [o,i] (getItem o i)
def IxR(X:Cx)(r:R2):Prop :=
 ∀(value slice:Expr)(pins:List (Addr×Obj))(s:Shared)(σ:St)(H:Hp)(x y:V)(v u:Value)(Q:VK),Inv X pins σ H s->RelV x v->RelV y u->r x y H Q ->
  subscripted slice false v u=operate [v,u] (getItem v u)->wpAny (model X.prog X.w) X.A (subscriptTail value slice v u) (EP X pins σ Q) X.xe s
def MtR(X:Cx)(id:String)(r:V->List V->Hp->VK->Prop):Prop :=
 ∀(pins:List (Addr×Obj))(s:Shared)(σ:St)(H:Hp)(x:V)(xs:List V)(v:Value)(us:List Value)(Q:VK),Inv X pins σ H s->RelV x v->Vals xs us->r x xs H Q ->
  wpAny (model X.prog X.w) X.A (call (.builtin id) (v::us)) (EP X pins σ Q) X.xe s
section
variable{X:Cx}{a b:Expr}{ta tb:TE}{pos:Pos}
theorem aM{r:R2}(hr:IxR X r)(ha:PE X a ta)(hb:PE X b tb)(hs:DA b):PE X (.Subscript a b pos) (tOp r ta tb):=by
 intro pins s σ H Q I h
 exact Subscript_ (binT ha hb I h fun v u s2 x y H2 I2 rx ry q=>hr a b pins s2 σ H2 x y v u Q I2 rx ry q (hs _ _))
def rIxL(K:DE):R2:=fun x y H Q=>∃ p xs i v,x=.ref p/\y=.int i/\SqL K H p xs/\atI xs i=some v/\Q v H
def rIxT(K:DE):R2:=fun x y H Q=>∃ p xs i v,x=.ref p/\y=.int i/\SqT K H p xs/\atI xs i=some v/\Q v H
theorem aL:IxR X (rIxL X.K):=by
 intro value slice pins s σ H x y v u Q I rx ry h hs
 obtain⟨p,xs,i,z,rfl,rfl,hq,he,q⟩:=h
 cases rx
 obtain⟨t,rfl⟩:=ry
 obtain⟨its,r,pl,hz⟩:=I.list hq
 obtain⟨j,h1,h2,h3,h4,h5⟩:=yL he
 obtain⟨w,ew,rw'⟩:=r.get h2
 have hl:=r.length
 have hn:=mj
 have fin:EP X pins σ Q w s:=⟨z,H,I,rw',q⟩
 by_cases h0:0<=i
 ·have hj:i.toNat=j:=by
   rw[seqIndex_of h0 h5]at h1
   exact El h1
  exact item_listR pl.isList h0 (by omega) (by rw[hj];simpa using ew) fin hs
 ·have hj:(i+(its.toArray.size:Int)).toNat=j:=by
   rw[seqIndex_neg (by omega) h4]at h1
   rw[DT,← hl]
   exact El h1
  exact subscriptTail_builtinR (x:=w) pl.isList.typeIs slot_list_getitem.lookup
   (wpAny_getItem_list_neg (Q:=fun r s'=>r=w/\EP X pins σ Q r s') pl.isList (by omega) (by rw[DT]<;>omega) (by omega) (by rw[hj];simpa using ew) ⟨rfl,fin⟩) hs
theorem cI:IxR X (rIxT X.K):=by
 intro value slice pins s σ H x y v u Q I rx ry h hs
 obtain⟨p,xs,i,z,rfl,rfl,hq,he,q⟩:=h
 cases rx
 obtain⟨t,rfl⟩:=ry
 obtain⟨its,r,pl,hz⟩:=I.tuple hq
 obtain⟨j,h1,h2,h3,h4,h5⟩:=yL he
 obtain⟨w,ew,rw'⟩:=r.get h2
 have hl:=r.length
 have hn:=mj
 have fin:EP X pins σ Q w s:=⟨z,H,I,rw',q⟩
 exact subscriptTail_builtinR (x:=w) pl.typeIs slot_tuple_getitem.lookup
  (getItem_tuple (j:=j) (Q:=fun r s'=>r=w/\EP X pins σ Q r s') pl (by omega) (by omega) (by rw[DT,← hl];exact h1) (by simpa using ew) ⟨rfl,fin⟩) hs
theorem uH(its:List Value)(n j:Nat)(u:Value):Obj.mapSeq (·.setIfInBounds j u) { cls:=.type "list",data:=.seq its.toArray n }={ cls:=.type "list",data:=.seq (its.set j u).toArray n }:=by
 simp[Obj.mapSeq]
theorem Inv.lst{pins:List (Addr×Obj)}{σ:St}{H:Hp}{s:Shared}{p:Addr}{xs:List V}(I:Inv X pins σ H s)(h:H p=some (.lst xs)) :
  ∃(its:List Value)(n:Nat),Vals xs its/\s.heap.get? p=some { cls:=.type "list",data:=.seq its.toArray n }/\xs.length<=sizeLine:=by
 obtain⟨z,its,n,r,e⟩:=I.hok p _ h
 exact⟨its,n,r,e,z⟩
theorem Inv.lstUpd{pins:List (Addr×Obj)}{σ:St}{H:Hp}{s:Shared}{p:Addr}{xs ys:List V}{its its':List Value}{n n':Nat}{f:Obj->Obj}(I:Inv X pins σ H s)(h:H p=some (.lst xs))
  (ho:s.heap.get? p=some { cls:=.type "list",data:=.seq its.toArray n }) (hf:f { cls:=.type "list",data:=.seq its.toArray n }={ cls:=.type "list",data:=.seq its'.toArray n' }) (r:Vals ys its') (hz:ys.length<=sizeLine) (t:Nat) :
  Inv X pins σ (upd H p (.lst ys)) { s with heap:=s.heap.update p f,toks:=t }:=by
 have e:(s.heap.update p f).get? p=some { cls:=.type "list",data:=.seq its'.toArray n' }:=by
  rw[Heap.get?_update_self f ho (by rw[hf]<;>rfl),hf]
 refine I.write (x:=p) (e:=p) (by rw[h];trivial) (.inl rfl) (fun b u hb q=>(Heap.get?_update_other _ _ (Ne.symm hb)).trans q) ⟨_,e⟩ ?_
 exact⟨hz,its',n',r,e⟩
def rSetL:V->V->V->Hp->(Hp->Prop)->Prop:=fun o i v H Q=>∃ p xs k j,o=.ref p/\i=.int k/\H p=some (.lst xs)/\ixN xs.length k=some j/\Q (upd H p (.lst (xs.set j v)))
theorem mU:PSet X rSetL:=by
 intro pins s σ H o i v ov iv u Q I ro ri rv h
 obtain⟨p,xs,k,j,rfl,rfl,hp,hj,q⟩:=h
 cases ro
 obtain⟨t,rfl⟩:=ri
 obtain⟨its,n,r,ho,hz⟩:=I.lst hp
 obtain⟨h1,h2,h3,h4⟩:=xF hj
 have hl:=r.length
 have hn:=mj
 have I':Inv X pins σ (upd H p (.lst (xs.set j v))) { s with heap:=s.heap.update p (Obj.mapSeq (·.setIfInBounds j u)) } :=
  I.lstUpd hp ho (uH its n j u) (r.set rv j) (by rw[Fx];exact hz) s.toks
 by_cases h0:0<=k
 ·have hk:k.toNat=j:=by
   rw[seqIndex_of h0 h4]at h1
   exact El h1
  exact PySem.W.ki_setAt ho h0 (by omega) (by rw[DT,← hl];exact h4) (by rw[hk];exact⟨_,I',q⟩)
 ·have hk:(k+(its.toArray.size:Int)).toNat=j:=by
   rw[seqIndex_neg (by omega) h3]at h1
   rw[DT,← hl]
   exact El h1
  exact PySem.W.ki_setBack ho (by omega) (by rw[DT,← hl];exact h3) (by omega) (by rw[hk];exact⟨_,I',q⟩)
theorem oD(lo hi:Option Int)(n:Nat):(sliceBounds lo hi none n).1=((HT.sIx n 0 lo:Nat):Int)/\(sliceBounds lo hi none n).2.1=((HT.sIx n n hi:Nat):Int)/\(sliceBounds lo hi none n).2.2=1:=by
 refine⟨?_,?_,rfl⟩
 ·cases lo with
  |none=>simp[sliceBounds,HT.sIx]
  |some i =>
   simp only[sliceBounds,HT.sIx,Option.getD_none,show(1:Int) > 0 by decide,if_true]
   by_cases h:i<0
   ·simp only[h,if_true]<;>omega
   ·simp only[h,if_false]<;>omega
 ·cases hi with
  |none=>simp[sliceBounds,HT.sIx]
  |some i =>
   simp only[sliceBounds,HT.sIx,Option.getD_none,show(1:Int) > 0 by decide,if_true]
   by_cases h:i<0
   ·simp only[h,if_true]<;>omega
   ·simp only[h,if_false]<;>omega
theorem mS(its:List Value)(lo hi:Option Int):slicePick its.toArray lo hi none=((its.drop (HT.sIx its.length 0 lo)).take (HT.sIx its.length its.length hi-HT.sIx its.length 0 lo)).toArray:=by
 obtain⟨h1,h2,h3⟩:=oD lo hi its.toArray.size
 unfold slicePick
 rw[h1,h2,h3]
 simp only[sliceRange_one,pick_run,DT]<;>rfl
def rSlL(K:DE):V->Option Int->Option Int->Hp->VK->Prop:=fun x lo hi H Q=>∃ a xs,x=.ref a/\SqL K H a xs/\∀ p,H p=none->Q (.ref p) (upd H p (.lst (cutV xs lo hi)))
theorem mT:SlR X (rSlL X.K):=by
 intro pins s σ H x v vl vu lo hi sl Q I rx hs pl pu h
 obtain⟨a,xs,rfl,hx,q⟩:=h
 cases rx
 obtain⟨its,r,ht,hz⟩:=I.list hx
 have hlen:=r.length
 refine⟨"list",_,slot_list_getitem.lookup,ht.isList.typeIs,?_⟩
 refine wpAny_getItem_list_slice ht.isList hs pl pu .none (by simp) ?_ (by rw[DT]<;>omega)
 rw[mS,← hlen]
 refine⟨.ref s.heap.objs.size,_,I.laid (t':=s.toks) (o:=.lst (cutV xs lo hi)) (fun b ob q=>Heap.get?_push_of_some _ q) (DF _) ?_,rfl,q _ (I.hok.fresh (DF _))⟩
 exact⟨E7 (rF xs lo hi) hz,_,0,(r.drop (HT.sIx xs.length 0 lo)).take (HT.sIx xs.length xs.length hi-HT.sIx xs.length 0 lo),Heap.get?_push_size _ rfl⟩
theorem bC:gG X (.builtin "len") (fun xs H Q=>∃ p ys,xs = [.ref p]/\(SqL X.K H p ys∨SqT X.K H p ys)/\Q (.int ys.length) H):=by
 intro pins s σ H xs us Q I r h
 obtain⟨p,ys,rfl,hq,q⟩:=h
 obtain⟨u,rfl,rx⟩:=jy r
 cases rx
 have hn:=mj
 rcases hq with hq | hq
 ·obtain⟨its,r',pl,hz⟩:=I.list hq
  have hlen:=r'.length
  exact Calls.call_len_list pl.isList (by simp only[DT]<;>omega) ⟨.int ys.length,H,I.tok _,⟨s.toks+1,by rw[DT,hlen]⟩,q⟩
 ·obtain⟨its,r',pl,hz⟩:=I.tuple hq
  have hlen:=r'.length
  exact len_tuple pl (by simp only[DT]<;>omega) ⟨.int ys.length,H,I.tok _,⟨s.toks+1,by rw[DT,hlen]⟩,q⟩
theorem pT:gG X (.type "list") (fun xs H Q=>∃ p ys,xs = [.ref p]/\(SqL X.K H p ys∨SqT X.K H p ys)/\∀ l,H l=none->Q (.ref l) (upd H l (.lst ys))):=by
 intro pins s σ H xs us Q I r h
 obtain⟨p,ys,rfl,hq,q⟩:=h
 obtain⟨u,rfl,rx⟩:=jy r
 cases rx
 have fin:∀(its:List Value),Vals ys its->ys.length<=sizeLine->∀(h':Heap)(c':Nat),(∀ b o',s.heap.get? b=some o'->h'.get? b=some o') ->
   h'.get? s.heap.objs.size=some { cls:=.type "list",dict:=none,data:=.seq its.toArray c',slots:=#[] }->EP X pins σ Q (.ref s.heap.objs.size) { s with heap:=h' }:=fun its r' hz h' c' kp e =>
  ⟨.ref s.heap.objs.size,_,I.laid (t':=s.toks) kp (DF _) (show bD X.prog X.w _ h' _ (.lst ys) from⟨hz,its,c',r',e⟩),rfl,q _ (I.hok.fresh (DF _))⟩
 rcases hq with hq | hq
 ·obtain⟨its,r',pl,hz⟩:=I.list hq
  have hlen:=r'.length
  obtain⟨o,ho,hc,n,hd⟩:=pl.isList
  exact call_list_seq p (.inl rfl) ho hc hd (fun h' c' kp e=>fin its r' hz h' c' kp e) (by simp only[DT]<;>omega)
 ·obtain⟨its,r',pl,hz⟩:=I.tuple hq
  have hlen:=r'.length
  obtain⟨o,ho,hc,n,hd⟩:=pl
  exact call_list_seq p (.inr rfl) ho hc hd (fun h' c' kp e=>fin its r' hz h' c' kp e) (by simp only[DT]<;>omega)
def tyV(K:DE)(T:String)(x:V)(H:Hp):Prop:=match x with
 |.str _=>T = "str"
 |.int _=>T = "int"
 |.ref p=>(T = "list"/\∃ xs,SqL K H p xs)∨(T = "tuple"/\∃ o,K.lookup p=some o/\o.cls=.type "tuple"/\o.dict=none) ∨
   (T = "dict"/\((∃ kvs,H p=some (.dK kvs))∨∃ kvs,H p=some (.dT kvs)))∨(T = "set"/\∃ S n,H p=some (.set S n))
 |_=>False
theorem AU{pins:List (Addr×Obj)}{σ:St}{H:Hp}{s:Shared}{T:String}{x:V}{v:Value}(I:Inv X pins σ H s)(r:RelV x v)(ty:tyV X.K T x H) :
  s.TypeIs v T/\∀ a,v=.ref a->∃ ob,s.heap.get? a=some ob/\ob.dict=none:=by
 cases x with
 |str z =>
  obtain⟨t,rfl⟩:=r
  cases (show T = "str" from ty)
  exact⟨typeIs_str s z t,fun _ e=>nomatch e⟩
 |int i =>
  obtain⟨t,rfl⟩:=r
  cases (show T = "int" from ty)
  exact⟨typeIs_int s i t,fun _ e=>nomatch e⟩
 |ref p =>
  cases r
  rcases ty with⟨rfl,xs,hq⟩ | ⟨rfl,o,hk,hc,hd⟩ | ⟨rfl,hk⟩ | ⟨rfl,S,n,hk⟩
  ·obtain⟨its,_,pl,_⟩:=I.list hq
   refine⟨pl.isList.typeIs,fun a e=>?_⟩
   cases e
   obtain⟨o,n,e,c,hd,_⟩:=pl
   exact⟨o,e,hd⟩
  ·refine⟨⟨o,I.kIn p o hk,hc⟩,fun a e=>?_⟩
   cases e
   exact⟨o,I.kIn _ o hk,hd⟩
  ·have z:∃ o,s.heap.get? p=some o/\o.ExactDict:=by
    rcases hk with⟨kvs,hk⟩ | ⟨kvs,hk⟩
    ·obtain⟨_,_,_,_,o,_,_,e,ex,_⟩:=I.hok p _ hk
     exact⟨o,e,ex⟩
    ·obtain⟨_,_,_,_,o,_,_,e,ex,_⟩:=I.hok p _ hk
     exact⟨o,e,ex⟩
   obtain⟨o,e,ex⟩:=z
   refine⟨⟨o,e,ex.1⟩,fun a e2=>?_⟩
   cases e2
   exact⟨o,e,ex.2.1⟩
  ·obtain⟨o,_,_,_,e,ex,_⟩:=I.hok p _ hk
   refine⟨⟨o,e,ex.1⟩,fun a e2=>?_⟩
   cases e2
   exact⟨o,e,ex.2.1⟩
 |_=>exact False.elim ty
def tBM0(K:DE)(T:String)(r:V->List V->Hp->VK->Prop)(to:TE):TE:=fun σ H Q=>to σ H fun x H1=>tyV K T x H1/\r x [] H1 Q
def tBM(K:DE)(T:String)(r:V->List V->Hp->VK->Prop)(to:TE)(t:TA):TE:=fun σ H Q=>to σ H fun x H1=>tyV K T x H1/\t σ H1 fun xs H2=>r x xs H2 Q
variable{o e:Expr}{es:List Expr}{to:TE}{t:TA}{name:Str}{apos cpos:Pos}{T id:String}{r:V->List V->Hp->VK->Prop}
theorem pe_bm0(pa:PlainAttrs T)(slot:Slot T name id) (hty:typeOf (.builtin id)=pure (.type "method_descriptor")) (hm:MtR X id r) (ho:PE X o to)
  (hbase:attributeBase o name X.env (eval o X.env)=eval o X.env:=by rfl) (hline:(apos.endLine == cpos.line)=true:=by rfl):PE X (.Call (.Attribute o name apos) [] [] cpos) (tBM0 X.K T r to):=by
 intro pins s σ H Q I h
 refine wpAny_Call_method0_late hbase hline (thn (ho pins s σ H _ I h) fun v s1 ⟨x,H1,I1,r1,ty,q1⟩=>?_)
 obtain⟨h1,h2⟩:=AU I1 r1 ty
 exact⟨T,id,pa,slot,hty,h1,h2,Calls.callWith_builtin rfl (PySem.evalArgs_none (hm pins s1 σ H1 x [] v [] Q I1 r1 .nil q1))⟩
theorem iY(pa:PlainAttrs T)(slot:Slot T name id) (hty:typeOf (.builtin id)=pure (.type "method_descriptor")) (hm:MtR X id r) (ho:PE X o to) (ha:PA X (e::es) t)
  (hbase:attributeBase o name X.env (eval o X.env)=eval o X.env:=by rfl)
  (hfew:((backTo cpos (starEach (e::es) X.env)).all (fun x=>!x.1)&&(backToKw cpos (keywordEach [] X.env)).all (fun x=>x.1.isSome)
   && decide ((e::es).length+([]:List Keyword).length+(if([]:List Keyword).isEmpty then 0 else 1)<30))=true:=by rfl)
  (hline:(apos.endLine == cpos.line)=true:=by rfl) (hs:starEach (e::es) X.env=(false,eval e X.env)::starEach es X.env:=by rfl) (hplain:(backTo cpos (starEach es X.env)).any (·.1)=false:=by rfl) :
  PE X (.Call (.Attribute o name apos) (e::es) [] cpos) (tBM X.K T r to t):=by
 intro pins s σ H Q I h
 refine wpAny_Call_method_late hbase hfew hline rfl (thn (ho pins s σ H _ I h) fun v s1 ⟨x,H1,I1,r1,ty,q1⟩=>?_)
 obtain⟨h1,h2⟩:=AU I1 r1 ty
 refine⟨T,id,pa,slot,hty,h1,h2,?_⟩
 have hA:=ha cpos pins s1 σ H1 _ I1 q1
 rw[hs]at hA ⊢
 refine Calls.callWith_builtin (by show(false||(backTo cpos (starEach es X.env)).any (·.1))=false;rw[hplain]<;>rfl) (Calls.evalArgs_plain ?_)
 exact thn hA fun us s2 ⟨vs,H2,I2,r2,q2⟩=>hm pins s2 σ H2 x vs v us Q I2 r1 r2 q2
end
end L2
namespace L2
open PySem PySem.Spec PyProof.Rows
def MtM(X:Cx)(id:String)(r:V->List V->Hp->VK->Prop):Prop :=
 ∀(pins:List (Addr×Obj))(s:Shared)(σ:St)(H:Hp)(x:V)(xs:List V)(v:Value)(us:List Value)(Q:VK),Inv X pins σ H s->RelV x v->Vals xs us->r x xs H Q ->
  wpAny (model X.prog X.w) X.A (call (.builtin id) (v::us)) (EP X pins σ Q) X.xe s
theorem Vals.one:∀{x:V}{us:List Value},Vals [x] us->∃ u,us = [u]/\RelV x u
 |_,_,.cons r .nil=>⟨_,rfl,r⟩
theorem Vals.two:∀{x y:V}{us:List Value},Vals [x,y] us->∃ u v,us = [u,v]/\RelV x u/\RelV y v
 |_,_,_,.cons r (.cons q .nil)=>⟨_,_,rfl,r,q⟩
theorem Vals.zero:∀{us:List Value},Vals [] us->us = []
 |_,.nil=>rfl
theorem Vals.reverse{xs:List V}{us:List Value}(h:Vals xs us):Vals xs.reverse us.reverse:=by
 induction h with
 |nil=>exact .nil
 |cons r t ih=>rw[List.reverse_cons,List.reverse_cons];exact Vals.append ih (.cons r .nil)
section
variable{X:Cx}{pins:List (Addr×Obj)}{σ:St}{H:Hp}{s:Shared}{l b:Addr}{xs ys zs:List V}
theorem Inv.lset{its its':List Value}{n:Nat}{f:Array Value->Array Value}{t':Nat}(I:Inv X pins σ H s)(hH:H l=some (.lst xs))
  (e:s.heap.get? l=some { cls:=.type "list",data:=.seq its.toArray n }) (hf:f its.toArray=its'.toArray) (hv:Vals ys its') (hz:ys.length<=sizeLine) :
  Inv X pins σ (upd H l (.lst ys)) { s with heap:=s.heap.update l (Obj.mapSeq f),toks:=t' }:=by
 have q:=PySem.IsL.update e f
 rw[hf]at q
 refine I.write (x:=l) (e:=l) (by rw[hH];exact trivial) (.inl rfl) (fun b' u hb hu=>(Heap.get?_update_other s.heap (Obj.mapSeq f) (Ne.symm hb)).trans hu) ⟨_,q⟩ ?_
 exact⟨hz,its',_,hv,q⟩
theorem Inv.lnew{its:List Value}{t':Nat}(I:Inv X pins σ H s)(hv:Vals ys its)(hz:ys.length<=sizeLine) :
  Inv X pins σ (upd H s.heap.objs.size (.lst ys)) { s with heap:=s.heap.push { cls:=.type "list",data:=.seq its.toArray },toks:=t' } :=
 I.laid (fun _ _ q=>Heap.get?_push_of_some _ q) (DF _) ⟨hz,its,0,hv,Heap.get?_push_size _ rfl⟩
theorem Inv.fresh(I:Inv X pins σ H s):H s.heap.objs.size=none:=I.hok.fresh (DF _)
theorem Inv.lstM(I:Inv X pins σ H s)(hH:H l=some (.lst xs)):xs.length<=sizeLine/\∃(its:List Value)(n:Nat),Vals xs its/\xs.length=its.length/\s.heap.get? l=some { cls:=.type "list",data:=.seq its.toArray n }:=by
 obtain⟨z,its,n,r,e⟩:=I.hok l _ hH
 exact⟨z,its,n,r,r.length,e⟩
theorem zU{n:Nat}(h:n<=sizeLine):Builtin.List.listTooLong n=false:=by
 unfold Builtin.List.listTooLong
 exact decide_eq_false (by omega)
end
section
variable{X:Cx}
def Ca:V->List V->Hp->VK->Prop:=fun x vs H Q=>∃ l xs y,x=.ref l/\vs = [y]/\H l=some (.lst xs)/\xs.length<sizeLine/\Q .non (upd H l (.lst (xs++[y])))
theorem cW:MtM X "list.append" Ca:=by
 intro pins s σ H x vs v us Q I rx rv h
 obtain⟨l,xs,y,rfl,rfl,hH,hz,q⟩:=h
 cases rx
 obtain⟨u,rfl,ru⟩:=rv.one
 obtain⟨z,its,n,r,hl,e⟩:=I.lstM hH
 refine call_meets F.slot_list_append ⟨_,e,rfl⟩ F.entry_list_append (F.args_list_append_2 _ _) (PySem.list_append l its.toArray n u (by rw[DT];omega)) ⟨e,?_⟩
 refine⟨.non,_,I.lset (its':=its++[u]) hH e (by simp) (r.append (.cons ru .nil)) ?_,rfl,q⟩
 rw[DL,Fl]
 omega
def B8:V->List V->Hp->VK->Prop:=fun x vs H Q=>∃ l b xs zs,x=.ref l/\vs = [.ref b]/\H l=some (.lst xs)/\H b=some (.lst zs)/\xs.length+zs.length<=sizeLine/\Q .non (upd H l (.lst (xs++zs)))
theorem w6:MtM X "list.extend" B8:=by
 intro pins s σ H x vs v us Q I rx rv h
 obtain⟨l,b,xs,zs,rfl,rfl,hH,hB,hz,q⟩:=h
 cases rx
 obtain⟨u,rfl,ru⟩:=rv.one
 cases ru
 obtain⟨z,its,n,r,hl,e⟩:=I.lstM hH
 obtain⟨z2,its2,n2,r2,hl2,e2⟩:=I.lstM hB
 have hsz:its.toArray.size+its2.toArray.size<=sizeLine:=by rw[DT,DT];omega
 have hlong:¬ (!its.toArray.isEmpty&&Builtin.List.listTooLong (its.toArray.size+its2.toArray.size))=true:=by
  rw[zU hsz,Bool.and_false]
  exact DW
 refine call_meets F.slot_list_extend ⟨_,e,rfl⟩ F.entry_list_extend (F.args_list_extend_2 _ _)
  (AutoSeq1.list_extend_list_list_0 l its.toArray n b its2.toArray n2 hlong (by rw[DT];omega) (by omega)) ⟨e,e2,?_⟩
 refine⟨.non,_,I.lset (its':=its++its2) hH e (by simp) (r.append r2) ?_,rfl,q⟩
 rw[DL]
 omega
end
section
variable{prog:Program}{w:World}{A:Around}{E:Value->Shared->Prop}{s:Shared}
end
section
variable{X:Cx}
end
end L2
namespace Att
open PySem PySem.W PySem.Calls PyProof.Rows
theorem kd{P:Params}{h:Heap}:∀(ns:List Int)(vs:List Value),WellAll P h vs (ns.map WData.int)->IntsAre vs ns:=by
 intro ns
 induction ns with
 |nil =>
  intro vs w
  rw[List.map_nil]at w
  cases w
  exact .nil
 |cons n ns ih =>
  intro vs w
  rw[D6]at w
  cases w with
  |cons a b =>
   cases a
   exact .cons _ _ (ih _ b)
theorem wc{l:OpenLaw}{n:Nat}(hn:l.most=some n){P:Params}{h:Heap}{args:List WData}{vals:List Value}
  (hpre:l.row.toRowW.claim.pre args=true) (hwl:WellAll P h vals args) :
  ∃ a vs ns,vals = [Value.ref a]/\args = [WData.list (ns.map WData.int)]/\h.get? a=some { cls:=.type "list",data:=.seq vs.toArray }/\IntsAre vs ns/\ns.length<=n:=by
 have hsh:WShape.hasAll [] args [.list .int]=true:=(pre_splitW hpre).1
 have hc:l.pre.holds [] { args:=args }=true:=(pre_splitW hpre).2
 obtain⟨d,r,rfl,h1,h2⟩:=hasAllW_cons hsh
 obtain rfl:=hasAllW_nil h2
 obtain⟨xs,rfl,h3⟩:=hasW_list h1
 obtain⟨ns,rfl⟩:=items_int h3
 have hlen:ns.length<=n:=by
  unfold OpenLaw.pre at hc
  have h4:(WTm.not (.lt (.lit (.int (n:Int))) (.len (.arg 0)))).holds [] { args:=[.list (ns.map .int)] }=true:=by
   have h4:=(holds_andW hc).1
   rw[hn]at h4
   exact h4
  have h5:=condW_of h4 (w_not (w_lt w_lit (w_len_list (w_arg rfl))))
  rw[DG]at h5
  refine Gn fun q=>?_
  have q':(n:Int)<((ns.length:Nat):Int):=by omega
  first
   | (rw[decide_eq_true q']at h5;exact absurd h5 (by decide))
   | (simp at h5;omega)
 cases hwl with
 |cons w1 w2 =>
  cases w2
  cases w1 with
  |list ho hall=>exact⟨_,_,ns,rfl,rfl,ho,kd ns _ hall,hlen⟩
theorem wu(l:OpenLaw)(args:List WData):l.row.toRowW.claim.post args (.bool true) args=true :=
 postW_of (r:=l.row.toRowW) (X:=(true == true))
  (show WShape.has [] (.bool true) .bool=true by first | rfl | decide | simp[WShape.has,WShape.arms,WShape.armsAll])
  (show(WTm.eq .res (.lit (.bool true))).value [] { args:=args,res:=some (.bool true),after:=args }=some (.bool (true == true)) from w_eq_bool (w_res rfl) w_lit) rfl
theorem attach_call{l:OpenLaw}{n:Nat}{q:Program}{loose:List Str}{XP:(Str->Option Value)->Heap->Prop}{YP:World->Heap->Prop}{d:DefRec}
  (hn:l.most=some n) (hdf:d.params.defaults = [])
  (call:∀(w:World)(s₀ s₁:Shared)(mg mb:Str->Option Value)(fa:Addr)(o:Obj)(pm cd doc:Value)(a:Addr)(vs:List Value)(ns:List Int),
   Ground q loose [] XP w s₀ mg mb s₁.heap->YP w s₁.heap ->
   s₁.heap.get? fa=some o->o.data=.func (docDef d.name d.params d.body d.scope pm cd doc)->s₁.heap.CodeRec cd d.name->mg d.name=some (.ref fa) ->
   s₁.heap.get? a=some { cls:=.type "list",data:=.seq vs.toArray }->IntsAre vs ns->ns.length<=n->s₁.gens=#[] ->
   codeAny (model l.prog w) callerA (.call (.ref fa) ⟨[.ref a],[]⟩) (fun r s'=>r=.ok (.ret (.bool true))/\OldK s₁.heap s'.heap/\s'.os=s₁.os/\AllBare s'.gens) s₁) :
  WalkO q loose XP YP l.row.toRowW d [] (fun f vs=>PySem.call f vs):=by
 intro w s₀ s₁ mg mb G Y fa o pm cd doc dV kV ho hd hcd hD hmg hg args vals as hpre hlay hrd hwl hlo
 obtain rfl:dV=.none:=Dflts.none hD hdf
 obtain rfl:kV=.none:=Dflts.noKw hD
 obtain⟨a,vs,ns,rfl,rfl,hobj,hints,hlen⟩:=wc hn hpre hwl
 refine enter_call (codeAny_mono (call w s₀ s₁ mg mb fa o pm cd doc a vs ns G Y ho (fd_plain hd) hcd hmg hobj hints hlen hg) fun r s' hq=>?_)
 obtain⟨rfl,h2,h3,h4⟩:=hq
 exact⟨.inl ⟨.bool true,.bool true,[],rfl,fun _=>rfl,.bool true,wu l _,fun _=>⟨FW,fun _ hm=>(nomatch hm)⟩⟩,h2,h3,h4⟩
section
variable{prog:Program}{w:World}{A:Around}{E:Value->Shared->Prop}{s:Shared}{K:Frag}
end
end Att
namespace L2
open PySem PySem.Spec PyProof.Rows
theorem ox:∀{vs:List Value}{ns:List Int},IntsAre vs ns->Vals (ns.map V.int) vs
 |_,_,.nil=>.nil
 |_,_,.cons n t h=>.cons ⟨t,rfl⟩ (ox h)
end L2
namespace L2
open PySem PySem.Spec PyProof.Rows
end L2
namespace L2
open PySem PySem.Spec PyProof.Rows
def aG(s:Stmt):Arguments:=match s with
 |.FunctionDef _ a _ _ _ _ _ _ _ _=>a
 |_=>{ posonlyargs:=[],args:=[],vararg:=none,kwonlyargs:=[],kw_defaults:=[],kwarg:=none,defaults:=[] }
def aD(s:Stmt):List Stmt:=match s with
 |.FunctionDef _ _ b _ _ _ _ _ _ _=>b
 |_=>[]
def ak(s:Stmt):Scope:=match s with
 |.FunctionDef _ _ _ _ _ _ sc _ _ _=>sc
 |_=>{ kind:=.function,names:=[],isGenerator:=false,isCoroutine:=false }
abbrev CX0:CXT:=fun _ _ _ _ _ _=>False
abbrev E0:XK:=fun _ _ _=>False
theorem aX{X:Cx}:tR CX0 X E0:=fun _ _ _ _ _ _ _ h=>h.elim
structure Fun(K:DE)(x qual:Str)(st:Stmt)(f:Addr)(fd:FuncData):Prop where
 ex:∃(oc:Value)(od:Option Addr)(kV doc pm:Value)(an:Option Addr)(cdv ct:Value)(osl:Array (Option Value)),
  fd=Ee x qual (aG st) (aD st) (ak st) .none kV doc pm an cdv ct/\K.lookup f=some ⟨oc,od,.func fd,osl⟩/\Eb K cdv qual=true
 kp:D4 K (.ref f)=true
section
variable{P:Program}{w:World}{K:DE}{mg:Str->Option Value}{base:Heap}
theorem Fun.ok{x qual:Str}{st:Stmt}{f:Addr}{fd:FuncData}{N ps:List Str}{k:Nat}{sp:Sp}(F:Fun K x qual st f fd)(S:aJ N ps (ak st))(len:∀ vs H Q E,sp vs H Q E->vs.length=ps.length)
  (hbody:∀(cdv:Value)(A:Around)(outer:List Env)(s:Shared)(H:Hp)(vs:List V)(Q:VK)(E:XK),Room k (A.deeper (envOfC qual (ak st) s.heap.objs.size f cdv))->sp vs H Q E ->
   ∃ t,PSs (cxOf CX0 P w K mg base N qual (ak st) f cdv A outer s H E).nox (aD st) t/\t { nx:=fun _ H'=>Q .non H',rt:=Q } (lB N vs) H):FnOk P w K mg base CX0 (k+1) f fd ps sp:=by
 obtain⟨oc,od,kV,doc,pm,an,cdv,ct,osl,rfl,lk,hcd⟩:=F.ex
 refine CZ lk hcd S len fun A outer s H vs Q E hr hsp=>?_
 obtain⟨t,h,q⟩:=hbody cdv A outer s H vs Q E hr hsp
 exact⟨t,h.nox,q⟩
theorem Fun.binds{x qual:Str}{st:Stmt}{f:Addr}{fd:FuncData}{ps:List Str}(F:Fun K x qual st f fd)
  (h:∀(kV doc pm:Value)(an:Option Addr)(cdv ct:Value)(us:List Value),us.length=ps.length->bindArgs (Ee x qual (aG st) (aD st) (ak st) .none kV doc pm an cdv ct) ⟨us,[]⟩=pure (ps.zip us)):i9 K fd ps []:=by
 obtain⟨oc,od,kV,doc,pm,an,cdv,ct,osl,rfl,lk,hcd⟩:=F.ex
 exact .all (h kV doc pm an cdv ct)
theorem a8{x qual:Str}{st:Stmt}{f:Addr}{oc:Value}{od an:Option Addr}{osl:Array (Option Value)}{kV doc pm cdv ct:Value}(l:K.lookup f=some ⟨oc,od,.func (Ee x qual (aG st) (aD st) (ak st) .none kV doc pm an cdv ct),osl⟩)
  (c:Eb K cdv qual=true) (k:D4 K (.ref f)=true):Fun K x qual st f (Ee x qual (aG st) (aD st) (ak st) .none kV doc pm an cdv ct):=⟨⟨oc,od,kV,doc,pm,an,cdv,ct,osl,rfl,l,c⟩,k⟩
end
theorem uU{A:Around}{k:Nat}(hr:Room k A):A.units+1<cLine:=Nat.lt_of_le_of_lt (Nat.add_le_add_left (by decide:1<=64) _) hr.units
theorem av{n:Nat}(h:n<=1000):n<sizeLine:=Nat.lt_of_le_of_lt h (by decide)
section
variable{X:Cx}
theorem pv(i:Nat){x:Str}{pos:Pos}(hN:X.N[i]?=some x:=by rfl)(hv:Vis X.env.scope x:=by first | exact Or.inl rfl | exact Or.inr (Or.inl rfl) | exact Or.inr (Or.inr rfl)) (hd:(x == ("__debug__" : Str))=false:=by decide)
  (hcd:(x == ("__classdict__" : Str))=false:=by decide):PE X (.Name x pos) (tVar i):=pe_var hN hv hd hcd
end
theorem iteF{A B:Prop}(h:B):if false=true then A else B:=by
 rw[if_neg DW]
 exact h
theorem iteT{A B:Prop}(h:A):if true=true then A else B:=by
 rw[if_pos rfl]
 exact h
theorem ite2{c A B:Prop} [Decidable c] (h1:c->A) (h2:¬ c->B):if c then A else B:=by
 by_cases h:c
 ·rw[if_pos h]
  exact h1 h
 ·rw[if_neg h]
  exact h2 h
theorem uT{c A B:Prop} [Decidable c] (hc:c) (h:B):if(!decide c)=true then A else B:=by
 rw[decide_eq_true hc]
 exact iteF h
def Same(H H':Hp):Prop:=∀ b o,H b=some o->H' b=some o
theorem Same.trans{H H1 H2:Hp}(a:Same H H1)(b:Same H1 H2):Same H H2:=fun c o h=>b c o (a c o h)
theorem Same.seq{K:DE}{H H':Hp}{a:Addr}{xs:List V}(e:Same H H')(h:SqL K H a xs):SqL K H' a xs:=by
 rcases h with(h | ⟨o,h⟩) | h
 ·exact .inl (.inl (e _ _ h))
 ·exact .inl (.inr ⟨o,e _ _ h⟩)
 ·exact .inr h
end L2
set_option maxRecDepth 100000
set_option maxHeartbeats 4000000
namespace L2
open PySem PySem.Spec PyProof.Rows
end L2
namespace L2
open PySem PySem.Spec PyProof.Rows
section
variable(P:Program)(w:World)
end
section
variable{P:Program}{w:World}{H H':Hp}{h h':Heap}{a:Addr}{o:HO}
end
section
variable{P:Program}{w:World}{H:Hp}{h h':Heap}{x e:Addr}{o':HO}
end
section
variable{fs fs' ex ex':List Addr}{H H1 H2:Hp}{h h1 h2 h':Heap}{a x e:Addr}{o:HO}
end
end L2
namespace L2
open PySem PySem.Spec PyProof.Rows
section
variable{X:Cx}{pins:List (Addr×Obj)}{σ:List (Option V)}{H H':Hp}{s:Shared}{h':Heap}
end
end L2
namespace L2
open PySem PySem.Spec PyProof.Rows
section
variable{X:Cx}
variable{a b:Expr}{ta tb:TE}{pos:Pos}
variable{tA tB':TT}{rest:List Expr}
end
end L2
namespace L2
open PySem PySem.Spec PyProof.Rows
section
variable{X:Cx}{pins:List (Addr×Obj)}{σ:St}{H:Hp}{s:Shared}{a:Addr}{xs ys:List V}
end
section
variable{X:Cx}{pins:List (Addr×Obj)}{σ:St}{H:Hp}{s:Shared}{E:Value->Shared->Prop}
end
section
variable{X:Cx}{st:Stmt}{rest:List Stmt}{t u:TS}{e:Expr}{te:TE}{pos:Pos}
end
section
variable{X:Cx}{pos:Pos}
end
section
variable{X:Cx}{pos:Pos}
end
end L2
namespace L2
open PySem PySem.Spec PyProof.Rows
section
variable{X:Cx}{tg:Expr}
end
end L2
namespace L2
open PySem PySem.Spec PyProof.Rows
section
variable{X:Cx}{a b c:Expr}{ta tb tc:TE}{pos:Pos}
end
section
variable{X:Cx}{a b c:Expr}{ta tb tc:TE}{pos:Pos}
end
end L2
namespace L2
open PySem PySem.Spec PyProof.Rows
section
variable{prog:Program}{w:World}{A:Around}{E:Value->Shared->Prop}{s:Shared}{K:DE}{x dx C f:Addr}{mA:Str->Option Value}{name:Str}{v:Value}
end
section
variable{P:Program}{w:World}{H H':Hp}{h h':Heap}{a C dx:Addr}{fs fs':List (Str×V)}
end
section
variable{X:Cx}{pins:List (Addr×Obj)}{σ:St}{H:Hp}{s:Shared}{a C dx:Addr}{fs:List (Str×V)}{f:Str}{v:V}{A:Around}{E:Value->Shared->Prop}
end
section
variable{X:Cx}{o e value:Expr}{f:Str}{pos pos' tpos:Pos}{ta tv:TE}
end
section
variable{X:Cx}{pins:List (Addr×Obj)}{σ:St}{H:Hp}{s:Shared}{A:Around}{E:Value->Shared->Prop}{Q:Value->Shared->Prop}{c:Value}{b:Bool}
end
end L2
namespace L2
open PySem PySem.Spec PyProof.Rows
section
variable{X:Cx}{e:Expr}{es:List Expr}{te:TE}{t:TA}{pos:Pos}
end
section
variable{X:Cx}{pins:List (Addr×Obj)}{σ:St}{H:Hp}{s s':Shared}
end
section
variable{X:Cx}{CX:CXT}{k:Nat}{f C:Addr}{fd:FuncData}{ps:List Str}{sp:Sp}{dvs:List V}{ds:List Value}{E:XK}{x m:Str}{p pos apos:Pos}{e o:Expr}{es:List Expr}{ta:TE}{t:TA}
end
section
variable{X:Cx}{CX:CXT}{k:Nat}{f C:Addr}{fd:FuncData}{ps ks:List Str}{sp:Sp}{E:XK}{x m:Str}{p pos apos kpos:Pos}{e o:Expr}{es:List Expr}{kws:List Keyword}{te ta:TE}{t tk:TA}{nm:Option Str}
variable{g:List Value->List Value->List Value}{gV:List V->List V->List V}
end
end L2
namespace L2
open PySem PySem.Spec PyProof.Rows
section
variable{X:Cx}{x:Str}{p pos:Pos}{e:Expr}{es:List Expr}{t:TA}{id T:String}{r:List V->Hp->VK->Prop}
end
end L2
namespace L2
open PySem PySem.Spec PyProof.Rows
section
variable{κ:Type} [DecidableEq κ]
def valV(kvs:List (κ×V))(k:κ):Option V:=(kvs.find? fun kv=>decide (kv.1=k)).map (·.2)
def putK(kvs:List (κ×V))(k:κ)(v:V):List (κ×V) :=
 if(kvs.any fun kv=>decide (kv.1=k))=true then kvs.map (fun kv=>if kv.1=k then(kv.1,v) else kv) else kvs++[(k,v)]
def i5(kvs:List (κ×V))(k:κ):List (κ×V):=kvs.filter fun kv=>decide (kv.1≠k)
theorem aY{p:κ×V}{r:List (κ×V)}{k:κ}(e:p.1=k):valV (p::r) k=some p.2:=by simp[valV,FT,e]
theorem a9{p:κ×V}{r:List (κ×V)}{k:κ}(e:¬ p.1=k):valV (p::r) k=valV r k:=by simp[valV,FT,e]
theorem dW(k:κ):∀ kvs:List (κ×V),(kvs.any fun kv=>decide (kv.1=k))=(valV kvs k).isSome
 |[]=>rfl
 |p::r=>by
  rw[HB]
  by_cases e:p.1=k
  ·simp only[aY e,decide_eq_true e,Bool.true_or,Option.isSome_some]
  ·rw[a9 e,decide_eq_false e,Bool.false_or];exact dW k r
theorem r9(k j:κ)(y:V):∀ kvs:List (κ×V),valV (kvs.map fun kv=>if kv.1=k then(kv.1,y) else kv) j=(valV kvs j).map fun x=>if j=k then y else x
 |[]=>rfl
 |p::r=>by
  have ih:=r9 k j y r
  rw[D6]
  by_cases h:p.1=k
  ·rw[if_pos h]
   by_cases e:p.1=j
   ·rw[aY (p:=(p.1,y)) e,aY e,Gw,if_pos (e.symm.trans h)]
   ·rw[a9 (p:=(p.1,y)) e,a9 e,ih]
  ·rw[if_neg h]
   by_cases e:p.1=j
   ·rw[aY (p:=p) e,aY e,Gw,if_neg (fun z=>h (e.trans z))]
   ·rw[a9 (p:=p) e,a9 e,ih]
theorem oy(k j:κ)(y:V):∀ kvs:List (κ×V),valV kvs k=none->valV (kvs++[(k,y)]) j=if j=k then some y else valV kvs j
 |[],_=>by
  by_cases e:k=j
  ·rw[if_pos e.symm];exact aY (p:=(k,y)) e
  ·rw[if_neg (fun z=>e z.symm)];exact a9 (p:=(k,y)) e
 |p::r,hn=>by
  rw[List.cons_append]
  have hk:¬ p.1=k:=fun z=>by rw[aY z]at hn;cases hn
  rw[a9 hk]at hn
  have ih:=oy k j y r hn
  by_cases e:p.1=j
  ·rw[aY e,aY e,if_neg (fun z=>hk (e.trans z))]
  ·rw[a9 e,a9 e,ih]
theorem gL(kvs:List (κ×V))(k j:κ)(y:V):valV (putK kvs k y) j=if j=k then some y else valV kvs j:=by
 unfold putK
 by_cases a:(kvs.any fun kv=>decide (kv.1=k))=true
 ·rw[if_pos a,r9]
  rw[dW]at a
  by_cases e:j=k
  ·obtain⟨x,hx⟩:=Hl.mp a
   rw[if_pos e,e,hx,Gw,if_pos rfl]
  ·rw[if_neg e]
   cases valV kvs j with
   |none=>rfl
   |some x=>rw[Gw,if_neg e]
 ·rw[if_neg a]
  refine oy k j y kvs ?_
  rw[dW]at a
  cases q:valV kvs k with
  |none=>rfl
  |some x=>rw[q]at a;exact(a rfl).elim
theorem d5(kvs:List (κ×V))(k:κ)(v:V):(putK kvs k v).length<=kvs.length+1:=by
 unfold putK
 split
 ·rw[DG];omega
 ·rw[DL,DZ,Fy];omega
theorem sG{kvs:List (κ×V)}{k:κ}(v:V)(h:valV kvs k=none):putK kvs k v=kvs++[(k,v)]:=by
 unfold putK
 rw[dW,h]
 exact if_neg (by decide)
theorem RelO.isSome_eq{o:Option V}{u:Option Value}(r:RelO o u):o.isSome=u.isSome:=by
 cases o with
 |none=>cases u with
  |none=>rfl
  |some _=>exact(show False from r).elim
 |some _=>cases u with
  |none=>exact(show False from r).elim
  |some _=>rfl
theorem RelO.getD{o:Option V}{u:Option Value}{d:V}{d':Value}(r:RelO o u)(rd:RelV d d'):RelV (o.getD d) (u.getD d'):=by
 cases o with
 |none=>cases u with
  |none=>exact rd
  |some _=>exact(show False from r).elim
 |some _=>cases u with
  |none=>exact(show False from r).elim
  |some _=>exact r
theorem KV.val{kvs:List (κ×V)}{vs:List (κ×Value)}(r:KV kvs vs)(k:κ):RelO (valV kvs k) (valueAt vs k):=by
 unfold KV at r
 induction r with
 |nil=>exact True.intro
 | @cons p q ps qs h t ih =>
  obtain⟨h1,h2⟩:=h
  by_cases e:p.1=k
  ·have e':q.1=k:=h1.symm.trans e
   have b:valueAt (q::qs) k=some q.2:=by simp[valueAt,FT,e']
   rw[aY e,b];exact h2
  ·have e':¬ q.1=k:=fun z=>e (h1.trans z)
   have b:valueAt (q::qs) k=valueAt qs k:=by simp[valueAt,FT,e']
   rw[a9 e,b];exact ih
theorem KV.any{kvs:List (κ×V)}{vs:List (κ×Value)}(r:KV kvs vs)(k:κ):(kvs.any fun kv=>decide (kv.1=k))=vs.any fun kv=>decide (kv.1=k):=by
 unfold KV at r
 induction r with
 |nil=>rfl
 |cons h t ih=>rw[HB,HB,ih,h.1]
theorem KV.repl{kvs:List (κ×V)}{vs:List (κ×Value)}(r:KV kvs vs)(k:κ){y:V}{u:Value}(ry:RelV y u) :
  KV (kvs.map fun kv=>if kv.1=k then(kv.1,y) else kv) (vs.map fun kv=>if kv.1=k then(kv.1,u) else kv):=by
 unfold KV at r ⊢
 induction r with
 |nil=>exact .nil
 | @cons p q ps qs h t ih =>
  rw[D6,D6]
  refine .cons ?_ ih
  obtain⟨h1,h2⟩:=h
  by_cases e:p.1=k
  ·rw[if_pos e,if_pos (h1.symm.trans e)];exact⟨h1,ry⟩
  ·rw[if_neg e,if_neg (fun z=>e (h1.trans z))];exact⟨h1,h2⟩
theorem KV.put{kvs:List (κ×V)}{vs:List (κ×Value)}(r:KV kvs vs)(k:κ){y:V}{u:Value}(ry:RelV y u):KV (putK kvs k y) (stored vs k u):=by
 unfold putK stored
 rw[r.any k]
 by_cases e:(vs.any fun kv=>decide (kv.1=k))=true
 ·rw[if_pos e,if_pos e];exact r.repl k ry
 ·rw[if_neg e,if_neg e];exact Paired.snoc r ⟨rfl,ry⟩
theorem KV.drop{kvs:List (κ×V)}{vs:List (κ×Value)}(r:KV kvs vs)(k:κ):KV (i5 kvs k) (without vs k):=by
 unfold KV at r ⊢
 unfold i5 without
 induction r with
 |nil=>exact .nil
 | @cons p q ps qs h t ih =>
  obtain⟨h1,h2⟩:=h
  rw[Gp,Gp]
  by_cases e:p.1=k
  ·have a:¬ decide (p.1≠k)=true:=by simp[e]
   have b:¬ decide (q.1≠k)=true:=by simp[h1.symm.trans e]
   rw[if_neg a,if_neg b];exact ih
  ·have e':¬ q.1=k:=fun z=>e (h1.trans z)
   have a:decide (p.1≠k)=true:=by simp[e]
   have b:decide (q.1≠k)=true:=by simp[e']
   rw[if_pos a,if_pos b];exact .cons ⟨h1,h2⟩ ih
theorem KV.length{kvs:List (κ×V)}{vs:List (κ×Value)}(r:KV kvs vs):kvs.length=vs.length:=Paired.length r
theorem Aw(kvs:List (κ×V))(k:κ):(i5 kvs k).length<=kvs.length:=List.length_filter_le _ _
end
theorem q8{P:Program}{w:World}{k:Key}{u:Value}(r:RelV (kV k) u):(bg P w).is k u=true:=by
 cases k with
 |inl i=>obtain⟨t,e⟩:=(show ∃ t,u=Value.int i t from r);subst e;exact qP P w i t
 |inr x=>obtain⟨t,e⟩:=(show ∃ t,u=Value.str x t from r);subst e;exact qO P w x t
theorem pA{P:Program}{w:World}:∀{ks:List Key}{us:List Value},Vals (ks.map kV) us->ItemsAre (bg P w) ks us
 |[],_,r=>by rw[List.map_nil]at r;cases r;exact .nil
 |k::ks,_,r=>by
  rw[D6]at r
  cases r with
  |cons h t=>exact .cons (q8 h) (pA t)
abbrev KT(H:Hp):List (List Key×V)->List (List Key×Addr×Value)->Prop:=Paired fun p q=>p.1=q.1/\H q.2.1=some (.tup (p.1.map kV))/\RelV p.2 q.2.2
theorem KT.val{H:Hp}{kvs:List (List Key×V)}{xs:List (List Key×Addr×Value)}(r:KT H kvs xs)(k:List Key):RelO (valV kvs k) ((atKey xs k).map (·.2)):=by
 induction r with
 |nil=>exact True.intro
 | @cons p q ps qs h t ih =>
  obtain⟨h1,_,h2⟩:=h
  by_cases e:p.1=k
  ·have e':q.1=k:=h1.symm.trans e
   have b:atKey (q::qs) k=some q.2:=by simp[atKey,FT,e']
   rw[aY e,b];exact h2
  ·have e':¬ q.1=k:=fun z=>e (h1.trans z)
   have b:atKey (q::qs) k=atKey qs k:=by simp[atKey,FT,e']
   rw[a9 e,b];exact ih
theorem KT.repl{H:Hp}{kvs:List (List Key×V)}{xs:List (List Key×Addr×Value)}(r:KT H kvs xs)(k:List Key){y:V}{u:Value}(ry:RelV y u) :
  KT H (kvs.map fun kv=>if kv.1=k then(kv.1,y) else kv) (xs.map (putAt k u)):=by
 induction r with
 |nil=>exact .nil
 | @cons p q ps qs h t ih =>
  rw[D6,D6]
  refine .cons ?_ ih
  obtain⟨h1,h2,h3⟩:=h
  unfold putAt
  by_cases e:p.1=k
  ·rw[if_pos e,if_pos (h1.symm.trans e)];exact⟨h1,h2,ry⟩
  ·rw[if_neg e,if_neg (fun z=>e (h1.trans z))];exact⟨h1,h2,h3⟩
theorem KT.put{H:Hp}{kvs:List (List Key×V)}{xs:List (List Key×Addr×Value)}(r:KT H kvs xs)(k:List Key){b:Addr}{y:V}{u:Value}(hb:H b=some (.tup (k.map kV)))(ry:RelV y u) :
  KT H (putK kvs k y) (storedH xs k b u):=by
 have e:(kvs.any fun kv=>decide (kv.1=k))=(atKey xs k).isSome:=by
  rw[dW,(r.val k).isSome_eq,Option.isSome_map]
 unfold putK storedH
 rw[e]
 by_cases q:(atKey xs k).isSome=true
 ·rw[if_pos q,if_pos q];exact r.repl k ry
 ·rw[if_neg q,if_neg q];exact Paired.snoc r ⟨rfl,hb,ry⟩
theorem KT.keeps{H H':Hp}{kvs:List (List Key×V)}{xs:List (List Key×Addr×Value)}(r:KT H kvs xs)(ht:∀ b ys,H b=some (.tup ys)->H' b=some (.tup ys)):KT H' kvs xs :=
 Paired.mapP r fun _ _ z=>⟨z.1,ht _ _ z.2.1,z.2.2⟩
section
variable{P:Program}{w:World}{H:Hp}{h:Heap}{a:Addr}
theorem rd_of{u:HO}(ok:HOk P w H h)(e:Rd H a u):bD P w H h a u:=e.ok ok
theorem u0{kvs:List (Key×V)}(ok:HOk P w H h)(e:Rd H a (.dK kvs)):kvs.length<=sizeLine/\(a == sysModules)=false/\∃ vs,KV kvs vs/\h.DictOf (bg P w) a vs :=
 show bD P w H h a (.dK kvs) from rd_of ok e
theorem u3{kvs:List (Key×V)}(ok:HOk P w H h)(e:H a=some (.dK kvs)):kvs.length<=sizeLine/\(a == sysModules)=false/\∃ vs,KV kvs vs/\h.DictOf (bg P w) a vs:=u0 ok (.inl e)
theorem ph{ks:List Key}(ok:HOk P w H h)(e:H a=some (.tup (ks.map kV))):(tupleKind (bg P w)).is h ks a:=by
 obtain⟨_,its,r,o,h1,h2,n,h3⟩:=(show bD P w H h a (.tup (ks.map kV)) from ok a _ e)
 exact⟨o,its.toArray,n,h1,h2,h3,by simpa using pA r⟩
theorem uZ{kvs:List (List Key×V)}(ok:HOk P w H h)(e:Rd H a (.dT kvs)):kvs.length<=sizeLine/\(a == sysModules)=false /\
  ∃ xs,KT H kvs xs/\h.DictOfH (tupleKind (bg P w)) a xs:=by
 obtain⟨z,y,xs,r,o,es,ep,h1,h2,h3,h4,h5⟩:=(show bD P w H h a (.dT kvs) from rd_of ok e)
 refine⟨z,y,xs,r,o,es,ep,h1,h2,h3,h4,fun x hx=>?_,h5⟩
 have all:∀{l:List (List Key×V)}{m:List (List Key×Addr×Value)},KT H l m->∀ x∈m,(tupleKind (bg P w)).is h x.1 x.2.1:=by
  intro l m q
  induction q with
  |nil=>intro x hx;exact nomatch hx
  | @cons p q ps qs hq t ih =>
   intro x hx
   rcases DI.mp hx with e | hx
   ·subst e
    exact ph ok (by rw[← hq.1];exact hq.2.1)
   ·exact ih x hx
 exact all r x hx
theorem dt_of{kvs:List (List Key×V)}(ok:HOk P w H h)(e:H a=some (.dT kvs)):kvs.length<=sizeLine/\(a == sysModules)=false /\
  ∃ xs,KT H kvs xs/\h.DictOfH (tupleKind (bg P w)) a xs:=uZ ok (.inl e)
end
def DGet(H:Hp)(a:Addr)(y:V)(r:Option V):Prop :=
 (∃ kvs k,Rd H a (.dK kvs)/\y=kV k/\r=valV kvs k)∨∃ kvs k b,Rd H a (.dT kvs)/\y=.ref b/\H b=some (.tup (k.map kV))/\r=valV kvs k
def DPut(H:Hp)(a:Addr)(y v:V)(H':Hp):Prop :=
 (∃ kvs k,H a=some (.dK kvs)/\y=kV k/\kvs.length<sizeLine/\H'=upd H a (.dK (putK kvs k v))) ∨
 ∃ kvs k b,H a=some (.dT kvs)/\y=.ref b/\H b=some (.tup (k.map kV))/\kvs.length<sizeLine/\H'=upd H a (.dT (putK kvs k v))
theorem DGet.k{H:Hp}{a:Addr}{kvs:List (Key×V)}{k:Key}(e:H a=some (.dK kvs)):DGet H a (kV k) (valV kvs k):=.inl ⟨kvs,k,.inl e,rfl,rfl⟩
theorem DPut.k{H:Hp}{a:Addr}{kvs:List (Key×V)}{k:Key}{v:V}(e:H a=some (.dK kvs))(hl:kvs.length<sizeLine):DPut H a (kV k) v (upd H a (.dK (putK kvs k v))):=.inl ⟨kvs,k,e,rfl,hl,rfl⟩
section
variable{X:Cx}{pins:List (Addr×Obj)}{σ:St}{H:Hp}{s:Shared}{a:Addr}{y v:V}{u r:Value}{o:Option V}{A:Around}{E:Value->Shared->Prop}
theorem Inv.big(I:Inv X pins σ H s):sysModules<s.heap.objs.size:=by
 have h:mainGlobals<s.heap.objs.size:=(I.mod.glob.keeps I.bk).lt
 exact Fj (by decide) h
theorem yg{Q:Value->Shared->Prop}(hu:A.units+1<cLine)(I:Inv X pins σ H s)(g:DGet H a y (some v))(ry:RelV y u)(h:∀ w' s',Inv X pins σ H s'->RelV v w'->Q w' s') :
  wpAny (model X.prog X.w) A (getItem (.ref a) u) Q E s:=by
 rcases g with⟨kvs,k,e,ey,l⟩ | ⟨kvs,k,b,e,ey,eb,l⟩
 ·subst ey
  obtain⟨z,hd,vs,rel,dd⟩:=u0 I.hok e
  obtain⟨w',hw,rw'⟩:=RelO.some_of (v:=v) (o:=valueAt vs k) (by rw[l];exact rel.val k)
  exact wpAny_getItem_of (q8 ry) dd.mapOf hw (h w' _ (I.tok _) rw')
 ·subst ey
  cases (show u=Value.ref b from ry)
  obtain⟨z,hd,xs,rel,dd⟩:=uZ I.hok e
  obtain⟨w',hw,rw'⟩:=RelO.some_of (v:=v) (o:=(atKey xs k).map (·.2)) (by rw[l];exact rel.val k)
  obtain⟨p,hp,hp2⟩:=Ec.mp hw
  refine wpAny_getItem_heap (tupleKind_room_in1 hu) (ph I.hok eb) dd hp ?_
  rw[hp2]
  exact h w' _ (I.tok _) rw'
theorem Di{Q:Value->Shared->Prop}(hu:A.units+1<cLine)(I:Inv X pins σ H s)(g:DGet H a y o)(ry:RelV y u)(h:∀ s',Inv X pins σ H s'->Q (.bool (!o.isSome)) s') :
  wpAny (model X.prog X.w) A (compareOp .NotIn u (.ref a)) Q E s:=by
 rcases g with⟨kvs,k,e,ey,l⟩ | ⟨kvs,k,b,e,ey,eb,l⟩
 ·subst ey
  obtain⟨z,hd,vs,rel,dd⟩:=u0 I.hok e
  refine wpAny_notIn_of (q8 ry) hd dd.mapOf ?_
  rw[← (rel.val k).isSome_eq,← l]
  exact h _ (I.tok _)
 ·subst ey
  cases (show u=Value.ref b from ry)
  obtain⟨z,hd,xs,rel,dd⟩:=uZ I.hok e
  refine wpAny_notIn_heap (tupleKind_room_in1 hu) (ph I.hok eb) hd dd ?_
  have q:=(rel.val k).isSome_eq
  rw[Option.isSome_map]at q
  rw[← q,← l]
  exact h _ (I.tok _)
theorem nP{h':Heap}{t':Nat}{ob:HO}(I:Inv X pins σ H s)(mu:Mut (H a))(hs:Heap.SameBut a s.heap h')(he:∃ q,h'.get? a=some q)(new:bD X.prog X.w (upd H a ob) h' a ob) :
  Inv X pins σ (upd H a ob) { s with heap:=h',toks:=t' } :=
 I.write (x:=a) (e:=a) mu (.inl rfl) (fun b q hb z=>(hs.2 b hb).trans z) he new
theorem xY{P:Program}{w:World}{H':Hp}{h':Heap}{kvs:List (Key×V)}{vs:List (Key×Value)}(z:kvs.length<=sizeLine)(hd:(a == sysModules)=false)(rel:KV kvs vs)(dd:h'.DictOf (bg P w) a vs) :
  bD P w H' h' a (.dK kvs):=⟨z,hd,vs,rel,dd⟩
theorem yf{H':Hp}{Q:Unit->Shared->Prop}(hu:A.units+1<cLine)(I:Inv X pins σ H s)(g:DPut H a y v H')(ry:RelV y u)(rv:RelV v r)(h:∀ s',Inv X pins σ H' s'->Q () s') :
  wpAny (model X.prog X.w) A (setItem (.ref a) u r) Q E s:=by
 rcases g with⟨kvs,k,e,ey,l,eH⟩ | ⟨kvs,k,b,e,ey,eb,l,eH⟩
 ·subst ey eH
  obtain⟨z,hd,vs,rel,dd⟩:=u3 I.hok e
  have hz:vs.length<=sizeLine:=by rw[← rel.length];exact z
  have hl:(putK kvs k v).length<=sizeLine:=by have:=d5 kvs k v;omega
  refine wpAny_setItem_pairs (hsz:=hz) (q8 ry) dd fun h' dd' hs=>h _ ?_
  have he:∃ q,h'.get? a=some q:=let ⟨q,_,_,hq,_⟩:=dd';⟨q,hq⟩
  exact nP I (by rw[e];exact True.intro) hs he (xY hl hd (rel.put k rv) dd')
 ·subst ey eH
  cases (show u=Value.ref b from ry)
  obtain⟨z,hd,xs,rel,dd⟩:=dt_of I.hok e
  have hz:xs.length<=sizeLine:=by rw[← Paired.length rel];exact z
  have hl:(putK kvs k v).length<=sizeLine:=by have:=d5 kvs k v;omega
  refine wpAny_setItem_heap (hsz:=hz) (tupleKind_room_in1 hu) (ph I.hok eb) dd fun h' dd' hs=>h _ ?_
  obtain⟨q,es,ep,hq,h2,h3,h4,_,h5⟩:=dd'
  refine nP I (by rw[e];exact True.intro) hs ⟨q,hq⟩ ⟨hl,hd,_,(rel.put k eb rv).keeps fun c ys ec=>?_,q,es,ep,hq,h2,h3,h4,h5⟩
  rw[aj (ne_of ec e (fun z=>nomatch z))]
  exact ec
end
section
variable{X:Cx}{pins:List (Addr×Obj)}{σ:St}{H:Hp}{s:Shared}{a:Addr}{kvs:List (Key×V)}{k:Key}{u:Value}{A:Around}{E:Value->Shared->Prop}
theorem d_pop{v:V}{more:List Value}{Q:Value->Shared->Prop}(I:Inv X pins σ H s)(e:H a=some (.dK kvs))(ry:RelV (kV k) u)(l:valV kvs k=some v)(hm:more = []∨∃ x,more = [x])
  (h:∀ w' s',Inv X pins σ (upd H a (.dK (i5 kvs k))) s'->RelV v w'->Q w' s'):wpAny (model X.prog X.w) A (call (.builtin "dict.pop") (.ref a::u::more)) Q E s:=by
 obtain⟨z,hd,vs,rel,dd⟩:=u3 I.hok e
 obtain⟨w',hw,rw'⟩:=RelO.some_of (v:=v) (o:=valueAt vs k) (by rw[← l];exact rel.val k)
 have hp:(keyPart u).isSome=true:=by
  cases k with
  |inl i=>obtain⟨t,q⟩:=(show ∃ t,u=Value.int i t from ry);subst q;rfl
  |inr x=>obtain⟨t,q⟩:=(show ∃ t,u=Value.str x t from ry);subst q;rfl
 have ha:argsOk "dict.pop" ⟨.ref a::u::more,[]⟩:=by
  rcases hm with q | ⟨x,q⟩
  ·subst q;exact PySem.F.args_dict_pop_2 _ _
  ·subst q;exact PySem.F.args_dict_pop_3 _ _ _
 refine call_meetsIn PySem.F.slot_dict_pop dd.typeIs PySem.F.entry_dict_pop ha (meets_dict_pop_there (bg X.prog X.w) a (q8 ry) more hm hp)
  ⟨vs,w',dd,by rw[← rel.length];exact z,hw,fun h' dd' hs=>h w' _ ?_ rw'⟩
 have he:∃ q,h'.get? a=some q:=let ⟨q,_,_,hq,_⟩:=dd';⟨q,hq⟩
 exact nP I (by rw[e];exact True.intro) hs he (xY (E7 (Aw kvs k) z) hd (rel.drop k) dd')
end
def NoSl(i:Expr):Prop:=∀ ov iv,subscripted i false ov iv=operate [ov,iv] (getItem ov iv)
theorem BN{prog:Program}{w:World}{A:Around}{E:Value->Shared->Prop}{s:Shared}{env:Env}{value slice:Expr}{pos:Pos}{T id:String}{Q:Value->Shared->Prop}
  (hl:typeLookup (.type T) "__getitem__" = pure (some (.builtin id))) (hs:NoSl slice)
  (h:wpAny (model prog w) A (eval value env) (fun o s₁=>wpAny (model prog w) A (eval slice env) (fun i s₂=>s₂.TypeIs o T/\wpAny (model prog w) A (getItem o i) Q E s₂) E s₁) E s) :
  wpAny (model prog w) A (eval (.Subscript value slice pos) env) Q E s:=by
 refine Subscript_ (wpAny_mono h (fun o s₁ h₁=>wpAny_mono h₁ (fun i s₂ h₂=>?_) fun _ _ x=>x) fun _ _ x=>x)
 obtain⟨hT,h₂⟩:=h₂
 unfold subscriptTail
 refine wpAny_bind ?_
 rw[getitemInPython_of_ne hT.not_modules]
 refine wpAny_bind (wpAny_specialOf hT hl ?_)
 have fin:wpAny (model prog w) A (subscripted slice false o i) (fun r s₃=>wpAny (model prog w) A (letTemporaryGo value o r >>= fun _=>pure r) Q E s₃) E s₂:=by
  rw[hs o i]
  exact wpAny_operating (wpAny_mono h₂ (fun r s₃ h₃=>wpAny_bind (wpAny_letTemporaryGo (wpAny_pure h₃))) fun _ _ x=>x)
 first
  |exact wpAny_pure (wpAny_bind fin)
  |exact wpAny_bind (wpAny_pure (wpAny_bind fin))
  |exact wpAny_bind fin
theorem rC{X:Cx}{pins:List (Addr×Obj)}{σ:St}{H:Hp}{s:Shared}{a:Addr}{y:V}{o:Option V}(I:Inv X pins σ H s)(g:DGet H a y o):s.TypeIs (.ref a) "dict":=by
 rcases g with⟨kvs,k,e,_,_⟩ | ⟨kvs,k,b,e,_,_,_⟩
 ·obtain⟨_,_,vs,_,dd⟩:=u0 I.hok e
  exact dd.typeIs
 ·obtain⟨_,_,xs,_,dd⟩:=uZ I.hok e
  exact dd.typeIs
def tDGet(td ty:TE):TE:=fun σ H Q=>td σ H fun x H1=>ty σ H1 fun y H2=>∃ a v,x=.ref a/\DGet H2 a y (some v)/\Q v H2
def BM(ty td:TE):TE:=fun σ H Q=>ty σ H fun y H1=>td σ H1 fun x H2=>∃ a o,x=.ref a/\DGet H2 a y o/\Q (.bl (!o.isSome)) H2
def sDPut(td ty tv:TE):TS:=fun D σ H=>tv σ H fun v H1=>td σ H1 fun x H2=>ty σ H2 fun y H3=>∃ a H4,x=.ref a/\DPut H3 a y v H4/\D.nx σ H4
section
variable{X:Cx}{o i e value:Expr}{pos pos' tpos:Pos}{td ty tv:TE}
theorem qF(hu:X.A.units+1<cLine)(ho:PE X o td)(hi:PE X i ty)(hs:NoSl i):PE X (.Subscript o i pos) (tDGet td ty):=by
 intro pins s σ H Q I h
 refine BN PySem.F.slot_dict_getitem.lookup hs (thn (ho pins s σ H _ I h) fun u s1 ⟨x,H1,I1,rx,q1⟩=>thn (hi pins s1 σ H1 _ I1 q1) fun iv s2 ⟨y,H2,I2,ry,a,v,ex,g,q2⟩=>?_)
 subst ex
 obtain rfl:u=Value.ref a:=rx
 exact⟨rC I2 g,yg hu I2 g ry fun w' s3 I3 rw'=>⟨v,H2,I3,rw',q2⟩⟩
theorem wH(hu:X.A.units+1<cLine)(hi:PE X i ty)(ho:PE X o td):PC X .NotIn i o (BM ty td):=by
 intro pins s σ H Q I h
 refine thn (hi pins s σ H _ I h) fun iv s1 ⟨y,H1,I1,ry,q1⟩=>thn (ho pins s1 σ H1 _ I1 q1) fun u s2 ⟨x,H2,I2,rx,a,ov,ex,g,q2⟩=>?_
 subst ex
 obtain rfl:u=Value.ref a:=rx
 exact Di hu I2 g ry fun s3 I3=>⟨.bl (!ov.isSome),H2,I3,rfl,q2⟩
theorem qB(hu:X.A.units+1<cLine)(ho:PE X o td)(hi:PE X i ty)(hv:PE X value tv)(hs:swapsWith value (some (.Subscript o i pos')) pos.line X.env=pure false) :
  PS X (.Assign [.Subscript o i pos'] value pos) (sDPut td ty tv):=by
 intro pins s σ H D I h
 refine wpAny_Assign_Subscript (thn (hv pins s σ H _ I h) fun r s1 ⟨v,H1,I1,rv,q1⟩=>thn (ho pins s1 σ H1 _ I1 q1) fun u s2 ⟨x,H2,I2,rx,q2⟩=>thn (hi pins s2 σ H2 _ I2 q2) fun iv s3 ⟨y,H3,I3,ry,a,H4,ex,g,q3⟩=>?_) hs
 subst ex
 obtain rfl:u=Value.ref a:=rx
 exact yf hu I3 g ry rv fun s4 I4=>⟨σ,H4,I4,q3⟩
end
theorem tK{P:Program}{w:World}{H:Hp}(h:Heap)(hb:sysModules<h.objs.size):bD P w H (h.push { cls:=.type "dict",data:=.dict #[] }) h.objs.size (.dK []) :=
 ⟨Eu _,beq_eq_false_iff_ne.mpr (Ne.symm (DO hb)),[],.nil,Heap.DictOf.new h⟩
def tDNewK:TE:=fun _ H Q=>∀ p,H p=none->Q (.ref p) (upd H p (.dK []))
section
variable{X:Cx}{pos:Pos}
theorem sN:PE X (.Dict [] [] pos) tDNewK:=fun pins s σ H Q I h =>
 wpAny_Dict_empty ⟨.ref s.heap.objs.size,_,I.laid (a:=s.heap.objs.size) (o:=.dK []) (t':=s.toks) (fun _ _ q=>Heap.get?_push_of_some _ q) (DF _) (tK s.heap I.big),rfl,h _ (I.hok.fresh (DF _))⟩
end
def vP:List (TE×TE)->St->Hp->(List (V×V)->Hp->Prop)->Prop
 |[],_,H,Q=>Q [] H
 | (tk,tv)::r,σ,H,Q=>tk σ H fun x H1=>tv σ H1 fun y H2=>vP r σ H2 fun ps H3=>Q ((x,y)::ps) H3
abbrev VV:List (V×V)->List (Value×Value)->Prop:=Paired fun p q=>RelV p.1 q.1/\RelV p.2 q.2
def PPs(X:Cx)(pos:Pos)(keys:List (Option Expr))(values:List Expr)(trs:List (TE×TE)):Prop :=
 ∀(pins:List (Addr×Obj))(s:Shared)(σ:St)(H:Hp)(Q:List (V×V)->Hp->Prop),Inv X pins σ H s->vP trs σ H Q ->
  wpAny (model X.prog X.w) X.A (evalPairs (pairTrees keys values X.env pos)) (fun vs s'=>∃ ps H',Inv X pins σ H' s'/\VV ps vs/\Q ps H') X.xe s
theorem wt{X:Cx}{pos:Pos}:PPs X pos [] [] []:=fun pins s σ H Q I h=>pairTrees_nil_walk ⟨[],H,I,.nil,h⟩
theorem sL{X:Cx}{pos:Pos}{k v:Expr}{ks:List (Option Expr)}{vs:List Expr}{tk tv:TE}{trs:List (TE×TE)}(hk:PE X k tk)(hv:PE X v tv)(hr:PPs X pos ks vs trs) :
  PPs X pos (some k::ks) (v::vs) ((tk,tv)::trs):=fun pins s σ H Q I h =>
 pairTrees_cons_walk (thn (hk pins s σ H _ I h) fun u s1 ⟨x,H1,I1,rx,q1⟩=>thn (hv pins s1 σ H1 _ I1 q1) fun w2 s2 ⟨y,H2,I2,ry,q2⟩ =>
  thn (hr pins s2 σ H2 _ I2 q2) fun ws s3 ⟨ps,H3,I3,rel,q3⟩=>⟨(x,y)::ps,H3,I3,.cons ⟨rx,ry⟩ rel,q3⟩)
def fP(kvs more:List (Key×V)):List (Key×V):=more.foldl (fun acc kv=>putK acc kv.1 kv.2) kvs
theorem KV.merge:∀{more:List (Key×V)}{rs:List (Key×Value)}{kvs:List (Key×V)}{vs:List (Key×Value)},KV more rs->KV kvs vs->KV (fP kvs more) (merged vs rs):=by
 intro more rs kvs vs r
 unfold KV at r
 induction r generalizing kvs vs with
 |nil=>intro q;exact q
 | @cons p q ps qs h t ih =>
  intro r0
  have e:KV (putK kvs p.1 p.2) (stored vs q.1 q.2):=by
   have:=r0.put p.1 h.2
   rw[← h.1];exact this
  exact ih e
theorem gQ:∀(more kvs:List (Key×V)),(fP kvs more).length<=kvs.length+more.length
 |[],kvs=>by show kvs.length<=kvs.length+0;omega
 |p::r,kvs=>by
  have h1:=gQ r (putK kvs p.1 p.2)
  have h2:=d5 kvs p.1 p.2
  show(fP (putK kvs p.1 p.2) r).length<=_
  rw[DZ];omega
theorem mF{P:Program}{w:World}:∀{kvs:List (Key×V)}{ws:List (Value×Value)},VV (kvs.map fun kv=>(kV kv.1,kv.2)) ws->∃ rs,Carries (bg P w) ws rs/\KV kvs rs
 |[],_,r=>by rw[List.map_nil]at r;cases r;exact⟨[],True.intro,.nil⟩
 |p::kvs,_,r=>by
  rw[D6]at r
  cases r with
  | @cons a b as bs h t =>
   obtain⟨rs,c,q⟩:=mF (P:=P) (w:=w) t
   obtain⟨b1,b2⟩:=b
   exact⟨(p.1,b2)::rs,⟨q8 h.1,rfl,c⟩,.cons ⟨rfl,h.2⟩ q⟩
def tDisp(trs:List (TE×TE)):TE:=fun σ H Q=>∀ p,H p=none->vP trs σ (upd H p (.dK [])) fun ps H2=>H2 p=some (.dK [])/\∃ kvs:List (Key×V),ps=kvs.map (fun kv=>(kV kv.1,kv.2))/\kvs.length<=15/\Q (.ref p) (upd H2 p (.dK (fP [] kvs)))
theorem wF{X:Cx}{pos:Pos}{keys:List (Option Expr)}{values:List Expr}{trs:List (TE×TE)}(h:PPs X pos keys values trs)(hall:keys.all (·.isSome)=true)(hl:keys.length=values.length)(h0:keys≠[])
  (h15:keys.length<=15):PE X (.Dict keys values pos) (tDisp trs):=by
 intro pins s σ H Q I q
 have hn:=I.hok.fresh (DF s.heap.objs.size)
 have I1:=I.laid (a:=s.heap.objs.size) (o:=.dK []) (h':=s.heap.push { cls:=.type "dict",data:=.dict #[] }) (t':=s.toks) (fun _ _ q=>Heap.get?_push_of_some _ q) (DF _) (tK s.heap I.big)
 refine wpAny_Dict_walk (knd:=bg X.prog X.w) hall hl h0 h15 (thn (h pins _ σ _ _ I1 (q _ hn)) fun ws s2 ⟨ps,H2,I2,rel,e,kvs,ep,lk,q2⟩=>?_)
 subst ep
 obtain⟨rs,c,rk⟩:=mF (P:=X.prog) (w:=X.w) rel
 obtain⟨z,hd,vs0,r0,dd⟩:=u3 I2.hok e
 cases r0
 refine⟨rs,c,dd,fun h' dd' hs=>⟨.ref s.heap.objs.size,_,?_,rfl,q2⟩⟩
 have hz:(fP [] kvs).length<=sizeLine:=by
  have h1:=gQ kvs []
  rw[Fy]at h1
  rw[sizeLine_eq];omega
 have he:∃ q,h'.get? s.heap.objs.size=some q:=let ⟨q,_,_,hq,_⟩:=dd';⟨q,hq⟩
 exact nP I2 (by rw[e];exact True.intro) hs he (xY hz hd (rk.merge .nil) dd')
structure M1(X:Cx)(o:Expr)(m:Str)(apos:Pos)(e:Expr)(cpos:Pos):Prop where
 base:attributeBase o m X.env (eval o X.env)=eval o X.env
 few:((backTo cpos (starEach [e] X.env)).all (fun x=>!x.1)&&(backToKw cpos (keywordEach [] X.env)).all (fun x=>x.1.isSome)
  && decide (([e]:List Expr).length+([]:List Keyword).length+(if([]:List Keyword).isEmpty then 0 else 1)<30))=true
 line:(apos.endLine == cpos.line)=true
 trees:backTo cpos (starEach [e] X.env) = [(false,eval e X.env)]
structure M2(X:Cx)(o:Expr)(m:Str)(apos:Pos)(e f:Expr)(cpos:Pos):Prop where
 base:attributeBase o m X.env (eval o X.env)=eval o X.env
 few:((backTo cpos (starEach [e,f] X.env)).all (fun x=>!x.1)&&(backToKw cpos (keywordEach [] X.env)).all (fun x=>x.1.isSome)
  && decide (([e,f]:List Expr).length+([]:List Keyword).length+(if([]:List Keyword).isEmpty then 0 else 1)<30))=true
 line:(apos.endLine == cpos.line)=true
 trees:backTo cpos (starEach [e,f] X.env) = [(false,eval e X.env),(false,eval f X.env)]
def IsD(H:Hp)(a:Addr):Prop:=(∃ kvs,Rd H a (.dK kvs))∨∃ kvs,Rd H a (.dT kvs)
theorem Bn{X:Cx}{pins:List (Addr×Obj)}{σ:St}{H:Hp}{s:Shared}{a:Addr}(I:Inv X pins σ H s)(d:IsD H a) :
  s.TypeIs (.ref a) "dict"/\(∀ b,Value.ref a=.ref b->∃ ob,s.heap.get? b=some ob/\ob.dict=none)/\(a == sysModules)=false:=by
 rcases d with⟨kvs,e⟩ | ⟨kvs,e⟩
 ·obtain⟨_,hd,vs,_,dd⟩:=u0 I.hok e
  refine⟨dd.typeIs,fun b q=>?_,hd⟩
  cases q
  obtain⟨ob,_,_,h1,h2,_⟩:=dd
  exact⟨ob,h1,h2.2.1⟩
 ·obtain⟨_,hd,xs,_,dd⟩:=uZ I.hok e
  refine⟨dd.typeIs,fun b q=>?_,hd⟩
  cases q
  obtain⟨ob,_,_,h1,h2,_⟩:=dd
  exact⟨ob,h1,h2.2.1⟩
section
variable{X:Cx}{pins:List (Addr×Obj)}{σ:St}{H:Hp}{s:Shared}{a:Addr}{y d:V}{u r:Value}{o:Option V}{A:Around}{E:Value->Shared->Prop}
theorem d_get2{Q:Value->Shared->Prop}(hu:A.units+1<cLine)(I:Inv X pins σ H s)(g:DGet H a y o)(ry:RelV y u)(rd:RelV d r)(h:∀ w' s',Inv X pins σ H s'->RelV (o.getD d) w'->Q w' s') :
  wpAny (model X.prog X.w) A (call (.builtin "dict.get") [.ref a,u,r]) Q E s:=by
 rcases g with⟨kvs,k,e,ey,l⟩ | ⟨kvs,k,b,e,ey,eb,l⟩
 ·subst ey
  obtain⟨z,hd,vs,rel,dd⟩:=u0 I.hok e
  refine call_meetsIn Gv dd.typeIs PySem.F.entry_dict_get (Hw _ _ _) (meets_dict_get_default (bg X.prog X.w) a (q8 ry) hd r) ⟨_,dd.mapOf,h _ _ (I.tok _) ?_⟩
  rw[l]
  exact(rel.val k).getD rd
 ·subst ey
  cases (show u=Value.ref b from ry)
  obtain⟨z,hd,xs,rel,dd⟩:=uZ I.hok e
  refine call_meetsIn Gv dd.typeIs PySem.F.entry_dict_get (Hw _ _ _) (meetsH_dict_get_default (tupleKind (bg X.prog X.w)) a b hd r) ⟨tupleKind_room_in1 hu,k,xs,ph I.hok eb,dd,h _ _ (I.tok _) ?_⟩
  rw[l]
  exact(rel.val k).getD rd
end
def tDGet2(td ty tx:TE):TE:=fun σ H Q=>td σ H fun x H1=>∃ a,x=.ref a/\IsD H1 a/\ty σ H1 fun y H2=>tx σ H2 fun z H3=>∃ o,DGet H3 a y o/\Q (o.getD z) H3
def tDPop1(td ty:TE):TE:=fun σ H Q=>td σ H fun x H1=>∃ a,x=.ref a/\IsD H1 a/\ty σ H1 fun y H2=>∃ kvs k v,H2 a=some (.dK kvs)/\y=kV k/\valV kvs k=some v/\Q v (upd H2 a (.dK (i5 kvs k)))
section
variable{X:Cx}{o e f:Expr}{apos cpos:Pos}{td ty tx:TE}
theorem zG(hu:X.A.units+1<cLine)(ho:PE X o td)(he:PE X e ty)(hf:PE X f tx) (m:M2 X o "get" apos e f cpos):PE X (.Call (.Attribute o "get" apos) [e,f] [] cpos) (tDGet2 td ty tx):=by
 intro pins s σ H Q I h
 refine wpAny_Call_method m.base m.few m.line Gk Gv PySem.F.type_dict_get (thn (ho pins s σ H _ I h) fun u s1 ⟨x,H1,I1,rx,a,ex,d,q1⟩=>?_)
 subst ex
 obtain rfl:u=Value.ref a:=rx
 obtain⟨t1,t2,_⟩:=Bn I1 d
 refine⟨t1,t2,?_⟩
 rw[m.trees]
 refine Calls.callWith_builtin rfl (Calls.evalArgs_plain (Calls.spliced_cons (thn (he pins s1 σ H1 _ I1 q1) fun iv s2 ⟨y,H2,I2,ry,q2⟩ =>
  Calls.spliced_cons (thn (hf pins s2 σ H2 _ I2 q2) fun fv s3 ⟨z,H3,I3,rz,ov,g,q3⟩=>Calls.spliced_nil ?_))))
 exact d_get2 hu I3 g ry rz fun w' s4 I4 rw'=>⟨_,H3,I4,rw',q3⟩
theorem zF(ho:PE X o td)(he:PE X e ty) (m:M1 X o "pop" apos e cpos):PE X (.Call (.Attribute o "pop" apos) [e] [] cpos) (tDPop1 td ty):=by
 intro pins s σ H Q I h
 refine wpAny_Call_method m.base m.few m.line Gk PySem.F.slot_dict_pop PySem.F.type_dict_pop (thn (ho pins s σ H _ I h) fun u s1 ⟨x,H1,I1,rx,a,ex,d,q1⟩=>?_)
 subst ex
 obtain rfl:u=Value.ref a:=rx
 obtain⟨t1,t2,_⟩:=Bn I1 d
 refine⟨t1,t2,?_⟩
 rw[m.trees]
 refine Calls.callWith_builtin rfl (Calls.evalArgs_plain (Calls.spliced_cons (thn (he pins s1 σ H1 _ I1 q1) fun iv s2 ⟨y,H2,I2,ry,kvs,k,v,ea,ey,l,q2⟩=>Calls.spliced_nil ?_)))
 subst ey
 exact d_pop I2 ea ry l (.inl rfl) fun w' s3 I3 rw'=>⟨v,_,I3,rw',q2⟩
end
section
variable{X:Cx}{pins:List (Addr×Obj)}{σ:St}{H:Hp}{s:Shared}{a:Addr}{kvs:List (Key×V)}{A:Around}{E:Value->Shared->Prop}
end
section
variable{X:Cx}{pins:List (Addr×Obj)}{σ:St}{H:Hp}{s:Shared}{a:Addr}{y:V}{u:Value}{A:Around}{E:Value->Shared->Prop}
end
end L2
namespace Att
open PySem PySem.W PySem.Calls PyProof.Rows
section
variable{prog:Program}{w:World}{A:Around}{E:Value->Shared->Prop}{s:Shared}{K:Frag}
end
end Att
namespace L2
open PySem PySem.Spec PyProof.Rows
end L2
namespace L2
open PySem PySem.Spec PyProof.Rows
end L2
namespace L2
open PySem PySem.Spec PyProof.Rows
section
variable{P:Program}{w:World}{K:DE}{mg:Str->Option Value}{base:Heap}
end
section
variable{X:Cx}
end
section
variable{κ:Type} [DecidableEq κ]
theorem r8{kvs:List (κ×V)}{k:κ}(h:valV kvs k=none):¬ k∈kvs.map (·.1):=by
 intro m
 obtain⟨p,hp,e⟩:=ED.mp m
 have q:(kvs.any fun kv=>decide (kv.1=k))=true:=List.any_eq_true.mpr ⟨p,hp,decide_eq_true e⟩
 rw[dW,h]at q
 exact absurd q (by simp)
theorem qN:∀{l:List κ}{k:κ},l.Nodup->¬ k∈l->(l++[k]).Nodup
 |[],k,_,_=>by simp
 |a::r,k,h,hk=>by
  obtain⟨h1,h2⟩:=Eo.mp h
  show(a::(r++[k])).Nodup
  refine Eo.mpr ⟨fun m=>?_,qN h2 fun m=>hk (DI.mpr (Or.inr m))⟩
  rcases DN.mp m with q | q
  ·exact h1 q
  ·exact hk (DI.mpr (Or.inl (DP.mp q).symm))
theorem CD{kvs:List (κ×V)}{k:κ}(v:V)(hn:(kvs.map (·.1)).Nodup)(h:valV kvs k=none):((putK kvs k v).map (·.1)).Nodup:=by
 rw[sG v h,Ex]
 exact qN hn (r8 h)
theorem xW{p:κ×V}{r:List (κ×V)}{k:κ}(e:p.1=k):i5 (p::r) k=i5 r k:=by
 unfold i5
 rw[Gp,if_neg (by simp[e])]
theorem xX{p:κ×V}{r:List (κ×V)}{k:κ}(e:¬ p.1=k):i5 (p::r) k=p::i5 r k:=by
 unfold i5
 rw[Gp,if_pos (by simp[e])]
end
end L2
namespace L2
open PySem PySem.Spec PyProof.Rows
def clOf(env:Env)(fr:List (Str×Nat)):List (Str×Addr):=fr.map fun p=>(p.1,(env.cells.lookup p.1).getD 0)
def frOf(fr:List (Str×Nat))(σ:St):St:=fr.map fun p=>(σ[p.2]?).join
def cN(X:Cx)(scope:Scope)(fr:List (Str×Nat))(x:Str)(C:Addr)(ex:List Addr)(s:Shared)(H:Hp):Cx where
 prog:=X.prog
 w:=X.w
 K:=X.K
 mg:=X.mg
 base:=X.base
 A:=X.A
 N:=x::fr.map (·.1)
 s₀:=s
 H₀:=H
 env:=compEnvC scope (clOf X.env fr) C X.env
 outer:=X.stack
 stack:=X.stack
 ex:=ex
 fn:=fun _=>false
 calm:=X.calm
 pn:=[]
 xe:=fun _ _=>False
structure cf(X:Cx)(scope:Scope)(fr:List (Str×Nat))(x:Str):Prop where
 clos:closureFor scope X.env=pure (clOf X.env fr)
 cell:∀ y∈scope.names,y.2≠.cell
 kind:scope.kind=.function
 names:∀ y∈scope.names,y.2=.local->scope.names.lookup y.1=some .local
 xl:scope.names.lookup x=some .local
 nd:(x::fr.map (·.1)).Nodup
 slot:∀ p∈fr,X.N[p.2]?=some p.1/\X.env.kindOf p.1=some .cell
 has:∀ y∈(relabel scope X.env).names,(y.2=.cell∨y.2=.free)->y.1∈fr.map (·.1)
 frk:∀ p∈fr,(relabel scope X.env).names.lookup p.1=some .cell
theorem cf.plain{X:Cx}{scope:Scope}{x:Str}(clos:closureFor scope X.env=pure [])(cell:∀ y∈scope.names,y.2≠.cell)(kind:scope.kind=.function)(names:∀ y∈scope.names,y.2=.local->scope.names.lookup y.1=some .local)
  (hx:scope.names.lookup x=some .local) (nf:∀ y∈scope.names,y.2≠.free):cf X scope [] x where
 clos:=clos
 cell:=cell
 kind:=kind
 names:=names
 xl:=hx
 nd:=by simp
 slot:=fun p hp=>nomatch hp
 has:=fun y hy hk=>by
  obtain⟨⟨n,k⟩,hz,e⟩:=ED.mp (show y∈scope.names.map _ from hy)
  have h1:=nf _ hz
  have h2:=cell _ hz
  dsimp only at e h1 h2
  have hf:(k == NameKind.free)=false:=by simpa using h1
  rw[hf]at e
  simp only[GH,Ed,if_false]at e
  subst e
  exact(hk.elim h2 h1).elim
 frk:=fun p hp=>nomatch hp
theorem cf.one{X:Cx}{scope:Scope}{x y:Str}{j:Nat}(clos:closureFor scope X.env=pure (clOf X.env [(y,j)]))(cell:∀ y∈scope.names,y.2≠.cell)(kind:scope.kind=.function)(names:∀ y∈scope.names,y.2=.local->scope.names.lookup y.1=some .local)
  (hx:scope.names.lookup x=some .local) (nd:([x,y]:List Str).Nodup) (hN:X.N[j]?=some y) (hk:X.env.kindOf y=some .cell) (nf:∀ z∈scope.names,z.2=.free->z.1=y) (hr:(relabel scope X.env).names.lookup y=some .cell):cf X scope [(y,j)] x where
 clos:=clos
 cell:=cell
 kind:=kind
 names:=names
 xl:=hx
 nd:=nd
 slot:=fun p hp=>by
  have e:p=(y,j):=by simpa using hp
  subst e
  exact⟨hN,hk⟩
 has:=fun z hz hk=>by
  obtain⟨⟨n,k⟩,hm,e⟩:=ED.mp (show z∈scope.names.map _ from hz)
  have h2:=cell _ hm
  dsimp only at e h2
  have hn:z.1=n:=by rw[← e];split<;>rfl
  have hf:k=.free:=by
   by_cases q:k=.free
   ·exact q
   ·have hb:(k == NameKind.free)=false:=by simpa using q
    rw[hb]at e
    simp only[GH,Ed,if_false]at e
    subst e
    exact(hk.elim h2 q).elim
  have:=nf _ hm hf
  rw[hn]
  simp[← this]
 frk:=fun p hp=>by
  have e:p=(y,j):=by simpa using hp
  subst e
  exact hr
theorem dj{env:Env}:∀{fr:List (Str×Nat)}{y:Str}{c:Addr},(clOf env fr).lookup y=some c->y∈fr.map (·.1)/\c=(env.cells.lookup y).getD 0
 |[],_,_,h=>by cases h
 |p::r,y,c,h=>by
  unfold clOf at h
  rw[D6,List.lookup_cons]at h
  cases e:y == p.1 with
  |true =>
   rw[e]at h
   have ey:y=p.1:=eq_of_beq e
   cases h
   exact⟨by rw[ey];exact DU,by rw[ey]⟩
  |false =>
   rw[e]at h
   obtain⟨a,b⟩:=dj (env:=env) (fr:=r) h
   exact⟨DM _ a,b⟩
theorem bz{env:Env}:∀{fr:List (Str×Nat)}{y:Str},y∈fr.map (·.1)->(clOf env fr).lookup y=some ((env.cells.lookup y).getD 0)
 |[],_,h=>by cases h
 |p::r,y,h=>by
  unfold clOf
  rw[D6,List.lookup_cons]
  cases e:y == p.1 with
  |true =>
   have ey:y=p.1:=eq_of_beq e
   rw[ey]
  |false =>
   have ny:y≠p.1:=fun z=>by rw[z]at e;simp at e
   rcases DI.mp h with z | z
   ·exact absurd z ny
   ·exact bz (env:=env) (fr:=r) z
section
variable{X:Cx}{pins:List (Addr×Obj)}{σ:St}{H:Hp}{s:Shared}{scope:Scope}{fr:List (Str×Nat)}{x:Str}
theorem cf.cells(O:cf X scope fr x)(I:Inv X pins σ H s){y:Str}{c:Addr}(h:(clOf X.env fr).lookup y=some c):X.env.cells.lookup y=some c:=by
 obtain⟨hm,e⟩:=dj h
 obtain⟨p,hp,ep⟩:=ED.mp hm
 have k:=(O.slot p hp).2
 rw[ep]at k
 obtain⟨c',e'⟩:=I.ok.has y (.inl k)
 rw[e']at e
 rw[e',e]
 rfl
theorem Ak{fp:List Addr}(O:cf X scope fr x)(I:Inv X pins σ H s)(hf:∀ b∈fp,FpOk X pins H b)(hfs:∀ b∈fp,b<s.heap.objs.size){g h':Heap}{tk:Nat}(hg:g=s.heap.push (LCg.lst []))
  (hk:∀ b o,g.get? b=some o->h'.get? b=some o) (hC:h'.Ns g.objs.size fun _=>none) :
  Inv (cN X scope fr x g.objs.size (s.heap.objs.size::fp) { s with heap:=g } H) (X.pn++pins++[(s.heap.objs.size,LCg.lst [])]) (none::frOf fr σ) H { s with heap:=h',toks:=tk }:=by
 have hsz:g.objs.size=s.heap.objs.size+1:=by rw[hg,Heap.size_push]
 have kp:∀ b o,s.heap.get? b=some o->g.get? b=some o:=fun b o e=>by rw[hg];exact Heap.get?_push_of_some _ e
 have hk0:∀ b o,s.heap.get? b=some o->h'.get? b=some o:=fun b o e=>hk b o (kp b o e)
 have hDo:h'.get? s.heap.objs.size=some (LCg.lst []):=hk _ _ (by rw[hg];exact Heap.get?_push_size _ rfl)
 have neC:∀ b,b<s.heap.objs.size->b≠g.objs.size:=fun b e=>by rw[hsz];exact DO (EX e)
 have hDC:s.heap.objs.size≠g.objs.size:=by rw[hsz];exact DO (EF _)
 have hfr:H g.objs.size=none:=I.hok.fresh (by rw[hsz];exact Fp _)
 have hfD:H s.heap.objs.size=none:=I.hok.fresh (DF _)
 have cne:∀ y c,X.env.cells.lookup y=some c->c<s.heap.objs.size:=fun y c e=>by
  obtain⟨v,q⟩:=I.cell y c e
  exact q.lt
 have nst:∀ b,b≠X.env.locals->b∉X.fs->b∉frs X.stack:=fun b h1 h2 z=>(DI.mp (I.stkSub b z)).elim h1 h2
 have nstD:s.heap.objs.size∉frs X.stack:=nst _ (EJ I.lt) (I.nofs (DF _))
 refine⟨⟨I.ok.mod,O.kind,I.ok.glob,I.ok.blt,DF _,?_,?_,fun _ _ z _=>(by cases z),I.ok.hd,I.ok.frames,.inl rfl,?_,?_,?_,?_,?_,?_,I.stkFree⟩,rfl,I.bare,Un.kept hk,?_,?_,hfr,?_,?_,I.hok.kept hk0,?_⟩
 ·intro y z c h1 h2
  exact I.ok.inj y z c (O.cells I h1) (O.cells I h2)
 ·intro y hy
  have hm:y∈fr.map (·.1):=by
   rcases hy with hy | hy
   ·exact O.has (y,_) (EU hy) (.inl rfl)
   ·exact O.has (y,_) (EU hy) (.inr rfl)
  exact⟨_,bz hm⟩
 ·intro b hb
  rcases DI.mp hb with rfl | hb
  ·exact⟨hDC,fun y c e=>DO (cne y c (O.cells I e))⟩
  ·exact⟨neC b (hfs b hb),fun y c e=>(hf b hb).2.2.2.2.1 y c (O.cells I e)⟩
 ·intro b o e
  exact⟨kp b o (I.bs b o e).1,(I.bs b o e).2⟩
 ·show X.base.objs.size<=g.objs.size
  rw[hsz]
  exact Gi (E7 I.ok.bsz I.sz)
 ·intro b o e hb
  rcases DI.mp hb with z | hb
  ·have:=Heap.lt_size (I.bs b o e).1
   rw[z]at this
   exact Ey _ this
  ·rcases(hf b hb).2.2.2.1 with z | z
   ·exact I.ok.noex b o e z
   ·exact absurd (Ei (Heap.lt_size (I.ok.bs b o e).1) z) (Ey _)
 ·intro b hb
  rcases DI.mp hb with z | hb
  ·rw[z];exact nstD
  ·exact nst b (hf b hb).2.1 (hf b hb).2.2.1
 ·exact(I.kept (h':=g) (t':=s.toks) kp).stack
 ·refine⟨_,hC,fun i y v e1 e2 e3=>?_⟩
  cases i with
  |zero=>cases e2
  |succ k =>
   have e1':(fr.map (·.1))[k]?=some y:=e1
   have e2':(frOf fr σ)[k]?=some (some v):=e2
   unfold frOf at e2'
   rw[DK]at e1' e2'
   cases q:fr[k]? with
   |none=>rw[q]at e1';cases e1'
   |some p =>
    rw[q]at e1' e2'
    have ey:p.1=y:=El e1'
    have ev:(σ[p.2]?).join=some v:=El e2'
    have hp:p∈fr:=DH q
    obtain⟨hN,hK⟩:=O.slot p hp
    have hkk:=O.frk p hp
    rw[ey]at hN hK hkk
    have ev':σ[p.2]?=some (some v):=by
     cases q2:σ[p.2]? with
     |none=>rw[q2]at ev;cases ev
     |some w=>rw[q2]at ev;exact congrArg some ev
    obtain⟨m,hn,hl⟩:=I.loc
    obtain⟨u,r,l⟩:=hl p.2 y v hN ev' (.inr (.inl hK))
    refine⟨u,r,?_⟩
    rcases l with⟨k1,_⟩ | ⟨_,c,ec,z⟩
    ·rw[hK]at k1;cases k1
    ·have hm:y∈fr.map (·.1):=by rw[← ey];exact ED.mpr ⟨p,hp,rfl⟩
     have el:=bz (env:=X.env) hm
     rw[ec]at el
     exact .inr ⟨.inl hkk,c,el,by obtain⟨o,ho,hd⟩:=z;exact⟨o,hk0 _ _ ho,hd⟩⟩
 ·intro y c e
  obtain⟨v,o,ho,hd⟩:=I.cell y c (O.cells I e)
  exact⟨v,o,hk0 _ _ ho,hd⟩
 ·intro y c e
  exact I.freeC y c (O.cells I e)
 ·intro p hp
  rcases DN.mp hp with hp | hp
  ·cases hp
  ·rcases DN.mp hp with hp | hp
   ·obtain⟨e,n,ne,nf,d⟩:=I.pin p hp
    exact⟨hk0 _ _ e,n,neC _ (Heap.lt_size e),nst _ ne nf,d⟩
   ·have ep:p=(s.heap.objs.size,LCg.lst []):=by simpa using hp
    subst ep
    exact⟨hDo,hfD,hDC,nstD,fun v z=>by cases z⟩
 ·show(none::frOf fr σ).length=(x::fr.map (·.1)).length
  unfold frOf
  simp
theorem pB{fp:List Addr}{g:Heap}{s':Shared}{H':Hp}{σ':St}{ys:List V}{us:List Value}(I:Inv X pins σ H s)(hf:∀ b∈fp,FpOk X pins H b)(hg:g=s.heap.push (LCg.lst []))
  (J:Inv (cN X scope fr x g.objs.size (s.heap.objs.size::fp) { s with heap:=g } H) (X.pn++pins++[(s.heap.objs.size,LCg.lst us)]) σ' H' s') (hv:Vals ys us) (hl:ys.length<=sizeLine) :
  Inv X pins σ (upd H' s.heap.objs.size (.lst ys)) s'/\H' s.heap.objs.size=none/\FpOk X pins (upd H' s.heap.objs.size (.lst ys)) g.objs.size/\∃ m,s'.heap.Ns g.objs.size m:=by
 have hsz:g.objs.size=s.heap.objs.size+1:=by rw[hg,Heap.size_push]
 have kp:∀ b o,s.heap.get? b=some o->g.get? b=some o:=fun b o e=>by rw[hg];exact Heap.get?_push_of_some _ e
 obtain⟨eD,nD,_,_,_⟩:=J.pin (s.heap.objs.size,LCg.lst us) (by simp)
 have hDC:g.objs.size≠s.heap.objs.size:=by rw[hsz];exact EJ (EF _)
 have nD':∀ b u,H' b=some u->b≠s.heap.objs.size:=fun b u e z=>by rw[z]at e;rw[e]at nD;cases nD
 have hx:∀ b o,s.heap.get? b=some o->b∉fp->b∉s.heap.objs.size::fp:=fun b o e hb z=>by
  rcases DI.mp z with z | z
  ·have:=Heap.lt_size e
   rw[z]at this
   exact Ey _ this
  ·exact hb z
 have bU:Un (frs X.stack) (s.heap.objs.size::fp) H H' g s'.heap:=J.base
 have ltD:∀ b o,s.heap.get? b=some o->b≠s.heap.objs.size:=fun b o e=>DO (Heap.lt_size e)
 have un:Un (frs X.stack) fp H (upd H' s.heap.objs.size (.lst ys)) s.heap s'.heap:=by
  refine⟨fun b o e n hb he=>bU.keep b o (kp b o e) n hb (hx b o e he),fun b o e n hb he=>bU.slot b o (kp b o e) n hb (hx b o e he),fun b o e n he=>?_,fun b o e he=>bU.there b o (kp b o e) (hx b o e he),fun b xs e=>?_,fun b o u e=>?_,fun b ps e=>?_⟩
  ·rw[aj (ltD b o e)];exact bU.free b o (kp b o e) n (hx b o e he)
  ·have q:=bU.tups b xs e
   rw[aj (nD' b _ q)];exact q
  ·have q:=bU.frzs b o u e
   rw[aj (nD' b _ q)];exact q
  ·obtain⟨more,q⟩:=bU.tbls b ps e
   exact⟨more,by rw[aj (nD' b _ q)];exact q⟩
 have hok:HOk X.prog X.w (upd H' s.heap.objs.size (.lst ys)) s'.heap:=fun b u e=>by
  by_cases hb:b=s.heap.objs.size
  ·rw[hb,ag]at e
   cases e
   rw[hb]
   exact⟨hl,us,us.length,hv,eD⟩
  ·rw[aj hb]at e
   exact(J.hok b u e).stay (fun c v _ q=>q) (fun c q=>by rw[aj (nD' c _ q)];exact q) fun c xs q=>by rw[aj (nD' c _ q)];exact q
 have os:s'.os=s.os:=J.os
 refine⟨I.call' os un hok J.bare fun b hb=>⟨(hf b hb).2.2.2.1,(hf b hb).2.1,(hf b hb).2.2.2.2⟩,nD,?_,?_⟩
 ·refine I.fpOk (H':=upd H' s.heap.objs.size (.lst ys)) (b:=g.objs.size) (by rw[hsz];exact Fp _) ?_
  rw[aj hDC]
  exact J.free
 ·obtain⟨m,hn,_⟩:=J.loc
  exact⟨m,hn⟩
end
def oz(te:TE)(fv:St)(J:It)(H1:Hp)(QQ:List V->Hp->Prop):Prop :=
 ∃ W:Nat->Nat->List V->Hp->Prop,(∃ m,W 0 m [] H1)/\∀ i m ys H,W i m ys H->ys.length<=sizeLine /\
  ((J.stop i H/\QQ ys H)∨(J.go i H/\∃ N:V->Hp->Prop,(∀ y H2,N y H2->∃ m',m'<m/\W (i+1) m' (ys++[y]) H2)/\∀ x H',J.yld i H x H'->te (some x::fv) H' N))
section
variable{X:Cx}{scope:Scope}{fr:List (Str×Nat)}{x:Str}{elt iter:Expr}{px pos:Pos}{te:TE}{wi:TI}
theorem pN{pins:List (Addr×Obj)}{σ:St}{H:Hp}{s:Shared}{E:Value->Shared->Prop}{it:Addr}{fp:List Addr}{tn:Nat->Heap->Prop}{J:It}{RR:Value->Addr->Result->Shared->Prop}{QQ:List V->Hp->Prop}(hc:X.calm=true)(O:cf X scope fr x)
  (he:∀ C ex s H,PE (cN X scope fr x C ex s H) elt te) (I:Inv X pins σ H s) (T:Turn X.prog X.w X.K (.Name x px) J fp it tn) (st:tn 0 s.heap) (hf:∀ b∈fp,FpOk X pins H b) (hq:oz te (frOf fr σ) J H QQ)
  (fin:∀ D C H4 ys s4 m,Inv X pins σ (upd H4 D (.lst ys)) s4->H4 D=none->FpOk X pins (upd H4 D (.lst ys)) C->s4.heap.Ns C m->QQ ys H4->RR (.ref D) C (.ok .next) s4) :
  wpAny (model X.prog X.w) X.A (newList []) (fun acc s₃=>wpAny (model X.prog X.w) X.A (newFunctionEnv scope X.env.globals (clOf X.env fr) [] X.env.qual none .none (some X.env)) (fun cenv s₄ =>
   codeAny (model X.prog X.w) X.A (.compStart (.ListComp elt [⟨.Name x px,iter,[],0⟩] scope pos) 0 (.ref it) acc { cenv with scope:=relabel scope X.env }) (RR acc cenv.locals) s₄) E s₃) E s:=by
 obtain⟨W,⟨m0,w0⟩,turn⟩:=hq
 have hfs:∀ b∈fp,b<s.heap.objs.size:=fun b hb=>by
  obtain⟨o,e,_⟩:=T.obj 0 s.heap st b hb
  exact Heap.lt_size e
 refine wpAny_newObj_type (wpAny_newFunctionEnv O.cell (by intro y hy;simp at hy) (fun h₁ hns₁ hsb₁=>?_) O.kind)
 dsimp only at hns₁ hsb₁ ⊢
 generalize hH2:s.heap.push { cls:=.type "list",dict:=none,data:=.seq ([]:List Value).toArray }=g at hns₁ hsb₁ ⊢
 have hg:g=s.heap.push (LCg.lst []):=hH2.symm
 have hsz:g.objs.size=s.heap.objs.size+1:=by rw[hg,Heap.size_push]
 have hk:∀ b o,g.get? b=some o->h₁.get? b=some o:=fun b o e=>hsb₁.extBut b o (DO (Heap.lt_size e)) (Heap.get?_push_of_some _ e)
 have kp:∀ b o,s.heap.get? b=some o->h₁.get? b=some o:=fun b o e=>hk b o (by rw[hg];exact Heap.get?_push_of_some _ e)
 have J0:=Ak (h':=h₁) (tk:=s.toks+([]:List (Str×Value)).length) O I hf hfs hg hk hns₁
 have stat:∀{H':Hp}{us:List Value},(∀ b∈fp,H' b=none)->∀ b∈fp,FpOk (cN X scope fr x g.objs.size (s.heap.objs.size::fp) { s with heap:=g } H) (X.pn++pins++[(s.heap.objs.size,LCg.lst us)]) H' b:=fun{H' us} hn b hb=>by
  obtain⟨_,f1,f2,f3,f4,f5⟩:=hf b hb
  refine⟨hn b hb,?_,fun z=>(DI.mp (I.stkSub b z)).elim f1 f2,.inl (DM _ hb),fun y c e=>f4 y c (O.cells I e),fun p hp=>?_⟩
  ·show b≠g.objs.size
   rw[hsz];exact DO (EX (hfs b hb))
  ·rcases DN.mp hp with hp | hp
   ·cases hp
   ·rcases DN.mp hp with hp | hp
    ·exact f5 p hp
    ·have ep:p=(s.heap.objs.size,LCg.lst us):=by simpa using hp
     rw[ep]
     exact EJ (hfs b hb)
 have loop:codeAny (model X.prog X.w) X.A (.compLoop (.ListComp elt [⟨.Name x px,iter,[],0⟩] scope pos) 0 (.ref it) (.ref s.heap.objs.size) (compEnvC scope (clOf X.env fr) g.objs.size X.env))
   (RR (.ref s.heap.objs.size) g.objs.size) { s with heap:=h₁,toks:=s.toks+([]:List (Str×Value)).length }:=by
  refine codeAny_compLoop_tests (fun n s'=>∃ i ys us H',Inv (cN X scope fr x g.objs.size (s.heap.objs.size::fp) { s with heap:=g } H) (X.pn++pins++[(s.heap.objs.size,LCg.lst us)]) (none::frOf fr σ) H' s'/\Vals ys us/\tn i s'.heap/\(∀ b∈fp,H' b=none)/\W i n ys H') ?_ m0
   ⟨0,[],[],H,J0,.nil,T.keep 0 s.heap h₁ st fun b _ o e=>kp b o e,fun b hb=>(hf b hb).1,w0⟩
  rintro n s3 ⟨i,ys,us,H3,J3,hv,st3,fr3,w3⟩
  obtain⟨hlen,hh⟩:=turn i n ys H3 w3
  have none_err:∀{α:Type}{t:Sem α}{Q:α->Shared->Prop}{E':Value->Shared->Prop}{s:Shared},wpAny (model X.prog X.w) X.A t Q (fun _ _=>False) s->wpAny (model X.prog X.w) X.A t Q E' s:=fun h=>wpAny_mono h (fun _ _ q=>q) fun _ _ z=>z.elim
  rcases hh with⟨stop,qn⟩ | ⟨go,N,hN,step⟩
  ·refine none_err (thn (T.done (cN X scope fr x g.objs.size (s.heap.objs.size::fp) { s with heap:=g } H) rfl rfl rfl hc i _ s3 _ H3 _ J3 (stat fr3) st3 stop) fun r s4 ⟨hr,J4⟩=>?_)
   subst hr
   obtain⟨I4,nD,fC,m,hn⟩:=pB I hf hg J4 hv hlen
   exact fin _ _ H3 ys s4 m I4 nD fC hn qn
  ·refine none_err (thn (T.item (cN X scope fr x g.objs.size (s.heap.objs.size::fp) { s with heap:=g } H) rfl rfl rfl hc i _ s3 _ H3 _ J3 (stat fr3) st3 go) fun r s4 ⟨u,hr,h4⟩=>?_)
   subst hr
   have h4':=wpAny_bind (f:=fun _=>assign (.Name x px) (compEnvC scope (clOf X.env fr) g.objs.size X.env) u) (thn h4 (Q':=fun _ s5=>wpAny (model X.prog X.w) X.A (assign (.Name x px) (compEnvC scope (clOf X.env fr) g.objs.size X.env) u) (fun _ s6=>∃(σ6:St)(H6:Hp)(v:V)(s5':Shared)(H5:Hp),Inv (cN X scope fr x g.objs.size (s.heap.objs.size::fp) { s with heap:=g } H) (X.pn++pins++[(s.heap.objs.size,LCg.lst us)]++oQ fp s5'.heap) σ6 H6 s6/\σ6=some v::frOf fr σ/\H6=H5/\J.yld i H3 v H5/\tn (i+1) s5'.heap) (fun _ _=>False) s5) fun _ s5 ⟨v,H5,J5,r5,y5,st5,fr5⟩=>by
    have J5':=J5.pinned (stat fr5) (T.obj _ _ st5)
    have hNd:(cN X scope fr x g.objs.size (s.heap.objs.size::fp) { s with heap:=g } H).N.Nodup:=O.nd
    have hxl:(cN X scope fr x g.objs.size (s.heap.objs.size::fp) { s with heap:=g } H).env.scope.names.lookup x=some .local:=lookup_relabel_local O.xl
    exact thn (aC (X:=cN X scope fr x g.objs.size (s.heap.objs.size::fp) { s with heap:=g } H) (i:=0) hNd rfl (.inl hxl) (.inr hxl) _ s5 _ H5 v u (fun σ6 H6=>σ6=some v::frOf fr σ/\H6=H5) J5' r5 ⟨rfl,rfl⟩) fun _ s6 ⟨σ6,H6,J6,e6,e7⟩=>⟨σ6,H6,v,s5,H5,J6,e6,e7,y5,st5⟩)
   refine none_err (thn h4' fun _ s6 ⟨σ6,H6,v,s5,H5,J6,e6,e7,y5,st5⟩=>?_)
   subst e6 e7
   refine wpAny_tests_nil ?_
   rw[if_pos rfl]
   refine none_err (thn (he _ _ _ _ _ s6 _ H6 _ J6 (step v H6 y5)) fun u7 s7 ⟨v7,H7,J7,r7,q7⟩=>?_)
   obtain⟨m',hm,w7⟩:=hN v7 H7 q7
   obtain⟨eD,nD,dC,dF,dd⟩:=J7.pin (s.heap.objs.size,LCg.lst us) (DQ _ (EC _ (DQ _ (by simp))))
   have hvl:=hv.length
   refine append_at (hsz:=by show us.toArray.size<=sizeLine;rw[DT,← hvl];exact hlen) eD fun h8 hs8 hD8=>?_
   have pinD:∀ p∈X.pn++pins,p.1≠s.heap.objs.size:=fun p hp z=>by
    have:=Heap.lt_size (I.pin p hp).1
    rw[z]at this
    exact Ey _ this
   have J7a:Inv (cN X scope fr x g.objs.size (s.heap.objs.size::fp) { s with heap:=g } H) (X.pn++pins) _ H7 s7:=J7.pins_of fun p hp=>J7.pin p (DQ _ (EC _ (EC _ hp)))
   have J8:Inv (cN X scope fr x g.objs.size (s.heap.objs.size::fp) { s with heap:=g } H) (X.pn++pins) _ H7 { s7 with heap:=h8 }:=J7a.turned (t':=s7.toks) (fun b o hb e=>(hs8.2 b hb).trans e) nD dC (.inl DU) (fun y c e z=>by
    obtain⟨w',q⟩:=I.cell y c (O.cells I e)
    have:=q.lt
    rw[z]at this
    exact Ey _ this) (fun p hp=>(DN.mp hp).elim (fun z=>by cases z) (pinD p))
   have J9:Inv (cN X scope fr x g.objs.size (s.heap.objs.size::fp) { s with heap:=g } H) (X.pn++pins++[(s.heap.objs.size,LCg.lst (us++[u7]))]) _ H7 { s7 with heap:=h8 }:=J8.pins_of fun p hp=>by
    rcases DN.mp hp with hp | hp
    ·exact J8.pin p (DQ _ hp)
    ·have ep:p=(s.heap.objs.size,LCg.lst (us++[u7])):=by simpa using hp
     subst ep
     exact⟨hD8.trans (congrArg some (LCg.lst_snoc us u7)),nD,dC,dF,fun v z=>by cases z⟩
   have J10:=J9.weak (σ':=none::frOf fr σ) rfl fun i v e=>by
    cases i with
    |zero=>cases e
    |succ k=>exact e
   have pinF:∀ b∈fp,∀ o,s5.heap.get? b=some o->s7.heap.get? b=some o/\H7 b=none:=fun b hb o e=>by
    obtain⟨q1,q2,_⟩:=J7.pin (b,o) (DQ _ (DQ _ (dN hb e)))
    exact⟨q1,q2⟩
   refine⟨m',hm,i+1,ys++[v7],us++[u7],H7,J10,hv.append (.cons r7 .nil),T.keep _ _ _ st5 fun b hb o e=>(hs8.2 b (DO (hfs b hb))).trans (pinF b hb o e).1,fun b hb=>?_,w7⟩
   obtain⟨o,e,_⟩:=T.obj _ _ st5 b hb
   exact(pinF b hb o e).2
 exact codeAny_compStart_list loop (T.self X.A 0 _ _ _ (T.keep 0 s.heap h₁ st fun b _ o e=>kp b o e) loop)
def tComp(wi:TI)(te:TE)(fr:List (Str×Nat)):TE:=fun σ H Q=>wi σ H fun J H1=>oz te (frOf fr σ) J H1 fun ys H2=>∀ D,H2 D=none->Q (.ref D) (upd H2 D (.lst ys))
theorem jM(hc:X.calm=true)(O:cf X scope fr x)(hi:PI X (.Name x px) iter wi)(he:∀ C ex s H,PE (cN X scope fr x C ex s H) elt te)(hs:∀ x,foldedSetIterable iter X.env x=pure x:=by intro _;rfl) :
  PE X (.ListComp elt [⟨.Name x px,iter,[],0⟩] scope pos) (tComp wi te fr):=by
 intro pins s σ H Q I h
 rw[eval_ListComp]
 refine wpAny_comprehension_free (use:=none) rfl hs O.clos O.kind O.names (thn (hi pins s σ H _ I h) fun xv s1 h1=>thn h1 fun itv s2 h2=>?_)
 obtain⟨it,fp,tn,J,H2,e,I2,T,st2,f2,q2⟩:=h2
 subst e
 refine pN (RR:=fun acc C=>compPost (model X.prog X.w) X.A X.xe none (EP X pins σ Q) acc C) hc O he I2 T st2 f2 q2 ?_
 intro D C H4 ys s4 m I4 nD fC hn q4
 refine⟨m,hn,fun h' hs'=>?_⟩
 obtain⟨g0,g1,g2,g3,g4,g5⟩:=fC
 exact⟨.ref D,_,I4.turned (t':=s4.toks) (fun b o hb e=>(hs'.2 b hb).trans e) g0 g1 g3 g4 g5,rfl,q4 D nD⟩
def zd(i:Nat)(wi:TI)(te:TE)(fr:List (Str×Nat)):TS:=fun D σ H=>wi σ H fun J H1=>oz te (frOf fr σ) J H1 fun ys H2=>∀ a,H2 a=none->D.nx (σ.set i (some (.ref a))) (upd H2 a (.lst ys))
theorem iB{i:Nat}{y:Str}{py spos:Pos}(hc:X.calm=true)(hN:X.N.Nodup)(hi':X.N[i]?=some y)(hy:X.env.scope.names.lookup y=some .local)(O:cf X scope fr x)(hi:PI X (.Name x px) iter wi)(he:∀ C ex s H,PE (cN X scope fr x C ex s H) elt te)
  (hsw:swapsWith (.ListComp elt [⟨.Name x px,iter,[],0⟩] scope pos) (some (.Name y py)) spos.line X.env=pure true:=by rfl) (hs:∀ x,foldedSetIterable iter X.env x=pure x:=by intro _;rfl) :
  PS X (.Assign [.Name y py] (.ListComp elt [⟨.Name x px,iter,[],0⟩] scope pos) spos) (zd i wi te fr):=by
 intro pins s σ H D I h
 rw[exec_Assign_Name_used _ _ _ _ hsw]
 refine wpAny_bind (wpAny_standAt (wpAny_bind ?_))
 show wpAny _ X.A (do let _ ← comprehension (.ListComp elt [⟨.Name x px,iter,[],0⟩] scope pos) scope X.env _ (newList []) false (eval iter X.env) (some (assign (.Name y py) X.env))) _ _ s
 refine wpAny_bind (thn (wpAny_comprehension_free (use:=some (assign (.Name y py) X.env)) (Q:=fun _ s'=>SP X pins D .next s') rfl hs O.clos O.kind O.names (thn (hi pins s σ H _ I h) fun xv s1 h1=>thn h1 fun itv s2 h2=>?_)) fun _ s' hq=>wpAny_pure (wpAny_pure hq))
 obtain⟨it,fp,tn,J,H2,e,I2,T,st2,f2,q2⟩:=h2
 subst e
 refine pN (RR:=fun acc C=>compPost (model X.prog X.w) X.A X.xe (some (assign (.Name y py) X.env)) (fun _ s'=>SP X pins D .next s') acc C) hc O he I2 T st2 f2 q2 ?_
 intro a C H4 ys s4 m I4 nD fC hn q4
 obtain⟨g0,g1,g2,g3,g4,g5⟩:=fC
 obtain⟨oC,eC,hoC⟩:=LCg.ns_obj hn
 have I5:Inv X (pins++[(C,oC)]) σ (upd H4 a (.lst ys)) s4:=I4.pins_of fun p hp=>by
  rcases DN.mp hp with hp | hp
  ·exact I4.pin p (DQ _ hp)
  ·have ep:p=(C,oC):=by simpa using hp
   subst ep
   obtain⟨es,epp,hd,_⟩:=hoC
   exact⟨eC,g0,g1,g2,fun v z=>by rw[hd]at z;cases z⟩
 show wpAny _ X.A (assign (.Name y py) X.env (.ref a)) _ _ _
 refine wpAny_assign_Name (dX I5 hN hi' (.inl hy) (v:=.ref a) rfl (fun s6 I6=>?_) (.inr hy))
 obtain⟨e6,_⟩:=I6.pin (C,oC) (DQ _ (DQ _ (by simp)))
 refine⟨m,hoC.ns e6,fun h' hs'=>?_⟩
 exact⟨_,_,I6.unpinned.turned (t':=s6.toks) (fun b o hb e=>(hs'.2 b hb).trans e) g0 g1 g3 g4 g5,q4 a nD⟩
end
theorem kG{K:DE}{a:Addr}{xs:List V}{te:TE}{fv:St}{H1:Hp}{QQ:List V->Hp->Prop}(Pv:Nat->List V->Hp->Prop)(hz:xs.length<=sizeLine)(h0:Pv 0 [] H1)(hl:∀ i ys H,i<=xs.length->Pv i ys H->SqL K H a xs)
  (hs:∀ i x ys H,xs[i]?=some x->Pv i ys H->te (some x::fv) H fun y H2=>Pv (i+1) (ys++[y]) H2) (hd:∀ ys H,ys.length=xs.length->Pv xs.length ys H->QQ ys H)
  : oz te fv (Itl K a) H1 QQ:=by
 refine⟨fun i m ys H=>m=xs.length-i/\i<=xs.length/\ys.length=i/\Pv i ys H,⟨xs.length,by simp,Eu _,rfl,h0⟩,?_⟩
 rintro i m ys H ⟨rfl,hi,hy,p⟩
 have q:=hl i ys H hi p
 refine⟨by omega,?_⟩
 by_cases hlt:i<xs.length
 ·refine .inr ⟨⟨xs,xs[i],q,by simp[hlt]⟩,fun y H2=>Pv (i+1) (ys++[y]) H2,fun y H2 p2=>⟨xs.length-(i+1),by omega,rfl,hlt,by rw[DL,hy];rfl,p2⟩,fun x H' y=>?_⟩
  obtain⟨e,y⟩:=y
  subst e
  exact hs i x ys _ (y xs q) p
 ·have e:i=xs.length:=by omega
  subst e
  exact .inl ⟨⟨xs,q,DF _⟩,hd ys H hy p⟩
theorem dP{lo:Int}{n:Nat}{te:TE}{fv:St}{H1:Hp}{QQ:List V->Hp->Prop}(Pv:Nat->List V->Hp->Prop)(hz:n<=sizeLine)(h0:Pv 0 [] H1)
  (hs:∀ i ys H,i<n->Pv i ys H->te (some (.int (lo+i))::fv) H fun y H2=>Pv (i+1) (ys++[y]) H2) (hd:∀ ys H,ys.length=n->Pv n ys H->QQ ys H)
  : oz te fv (Itr lo n) H1 QQ:=by
 refine⟨fun i m ys H=>m=n-i/\i<=n/\ys.length=i/\Pv i ys H,⟨n,by simp,Eu _,rfl,h0⟩,?_⟩
 rintro i m ys H ⟨rfl,hi,hy,p⟩
 refine⟨by omega,?_⟩
 by_cases hlt:i<n
 ·refine .inr ⟨hlt,fun y H2=>Pv (i+1) (ys++[y]) H2,fun y H2 p2=>⟨n-(i+1),by omega,rfl,hlt,by rw[DL,hy];rfl,p2⟩,fun x H' y=>?_⟩
  obtain⟨e,y⟩:=y
  subst e y
  exact hs i ys _ hlt p
 ·have e:i=n:=by omega
  subst e
  exact .inl ⟨DF _,hd ys H hy p⟩
end L2
namespace L2
open PySem PySem.Spec PyProof.Rows
theorem nY:bootBuiltins "list" = some (.type "list"):=by decide +kernel
theorem kR:bootBuiltins "len" = some (.builtin "len"):=by decide +kernel
theorem cR:bootBuiltins "isinstance" = some (.builtin "isinstance"):=by decide +kernel
theorem pU:bootBuiltins "sorted" = some (.builtin "sorted"):=by decide +kernel
theorem rP:bootBuiltins "reversed" = some (.type "reversed"):=by decide +kernel
theorem pV:bootBuiltins "enumerate" = some (.type "enumerate"):=by decide +kernel
structure Cal(P:Program)(w:World)(K:DE)(mg:Str->Option Value)(base:Heap)(k:Nat)(x:Str)(ps:List Str)(sp:Sp)(f:Addr)(fd:FuncData):Prop where
 ok:FnOk P w K mg base CX0 k f fd ps sp
 bn:i9 K fd ps []
 mg:mg x=some (.ref f)
 kp:D4 K (.ref f)=true
theorem dh{X:Cx}{sts:List Stmt}{t t2:TS}(h:PSs X sts t)(i:∀ D σ H,t2 D σ H->t D σ H):PSs X sts t2:=fun pins s σ H D I q=>h pins s σ H D I (i D σ H q)
section
variable{X:Cx}
end
inductive RdD(K:DE)(H:Hp):V->PyData->Prop where
 |non:RdD K H .non .none
 |bl (b:Bool):RdD K H (.bl b) (.bool b)
 |int (i:Int):RdD K H (.int i) (.int i)
 |lst {a:Addr} {xs:List V} {ds:List PyData} (h:SqL K H a xs) (hl:xs.length=ds.length) (r:∀(i:Nat)(x:V)(d:PyData),xs[i]?=some x->ds[i]?=some d->RdD K H x d):RdD K H (.ref a) (.list ds)
 |tup {a:Addr} {xs:List V} {ds:List PyData} (h:SqT K H a xs) (hl:xs.length=ds.length) (r:∀(i:Nat)(x:V)(d:PyData),xs[i]?=some x->ds[i]?=some d->RdD K H x d):RdD K H (.ref a) (.tuple ds)
theorem fZ{h:Heap}:∀{xs:List V}{us:List Value}{ds:List PyData},Vals xs us->xs.length=ds.length->(∀(i:Nat) x d,xs[i]?=some x->ds[i]?=some d->∀ u,RelV x u->∃ as,Reads h u d as)->∃ as,ReadsAll h us ds as
 |_,_,[],.nil,_,_=>⟨_,.nil⟩
 |_,_,_::_,.nil,e,_=>by cases e
 |_,_,[],.cons _ _,e,_=>by cases e
 |_,_,d::ds,.cons r rr,e,k=>by
  obtain⟨a1,q1⟩:=k 0 _ d rfl rfl _ r
  obtain⟨a2,q2⟩:=fZ rr (G3 e) fun i x d' e1 e2=>k (i+1) x d' e1 e2
  exact⟨_,.cons q1 q2⟩
section
variable{X:Cx}
theorem RdD.reads{pins:List (Addr×Obj)}{σ:St}{H:Hp}{s:Shared}(I:Inv X pins σ H s){x:V}{d:PyData}(r:RdD X.K H x d):∀ u,RelV x u->∃ as,Reads s.heap u d as:=by
 induction r with
 |non=>intro u hu;cases hu;exact⟨_,.none⟩
 |bl b=>intro u hu;cases hu;exact⟨_,.bool b⟩
 |int i=>intro u hu;obtain⟨t,rfl⟩:=hu;exact⟨_,.int i t⟩
 |lst h hl r ih =>
  intro u hu
  cases hu
  obtain⟨its,rv,p,_⟩:=I.list h
  obtain⟨as,q⟩:=fZ (h:=s.heap) rv hl ih
  obtain⟨o,n,e,c,_,d⟩:=p
  exact⟨_,.list e c d (by simpa using q)⟩
 |tup h hl r ih =>
  intro u hu
  cases hu
  obtain⟨its,rv,p,_⟩:=I.tuple h
  obtain⟨as,q⟩:=fZ (h:=s.heap) rv hl ih
  obtain⟨o,e,c,n,d⟩:=p
  exact⟨_,.tuple e c d (by simpa using q)⟩
def rSame(b:Bool)(K:DE):R2:=fun x y H Q=>∃ d,RdD K H x d/\RdD K H y d/\SeqAt.shaped d=true/\Q (.bl b) H
theorem op_neD(hu:X.A.units+64<cLine):OpR X (compareOp .NotEq) (rSame false X.K):=by
 intro pins s σ H x y v u Q I rx ry h
 obtain⟨d,r1,r2,hs,q⟩:=h
 obtain⟨as,q1⟩:=r1.reads I v rx
 obtain⟨bs,q2⟩:=r2.reads I u ry
 refine ne_dataH q1 q2 hs hs hu ?_
 rw[SeqAt.eqv_refl d (SeqAt.canLay_of_shaped hs)]
 exact⟨.bl false,H,I,rfl,q⟩
end
section
variable{X:Cx}{tg:Expr}
end
end L2
namespace L2
open PySem PySem.Spec PyProof.Rows
section
variable{P:Program}{w:World}{H:Hp}{h:Heap}{a:Addr}{o:HO}
theorem bD.get(x:bD P w H h a o):∃ ob,h.get? a=some ob:=by
 cases o with
 |lst xs=>obtain⟨_,_,_,_,e⟩:=x;exact⟨_,e⟩
 |tup xs=>obtain⟨_,_,_,ob,e,_⟩:=x;exact⟨_,e⟩
 |dK kvs=>obtain⟨_,_,_,_,o,_,_,e,_⟩:=x;exact⟨_,e⟩
 |dT kvs=>obtain⟨_,_,_,_,o,_,_,e,_⟩:=x;exact⟨_,e⟩
 |set S n=>obtain⟨o,_,_,_,e,_⟩:=x;exact⟨_,e⟩
 |ins C dx fs=>obtain⟨_,_,_,e,_⟩:=x;exact⟨_,e⟩
 |own y=>exact x
 |xd fs=>obtain⟨_,⟨_,_,_,e,_⟩,_⟩:=x;exact⟨_,e⟩
 |rng lo hi=>obtain⟨_,_,_,e⟩:=x;exact⟨_,e⟩
 |frz ob u=>exact⟨_,x.1⟩
 |tbl ps=>exact⟨_,(show h.get? a=some _ from x)⟩
 |met f y=>exact⟨_,(show h.get? a=some _ from x)⟩
 |ext φ=>exact x.2.1
theorem HOk.none_of(x:HOk P w H h)(e:h.get? a=none):H a=none:=by
 cases q:H a with
 |none=>rfl
 |some u =>
  obtain⟨ob,z⟩:=(x a u q).get
  rw[e]at z
  cases z
end
structure XOk(X:Cx)(pins:List (Addr×Obj))(H:Hp)(b:Addr):Prop where
 old:X.s₀.heap.get? b=none
 trk:H b=none
 nl:b≠X.env.locals
 nc:∀ x c,X.env.cells.lookup x=some c->c≠b
 np:∀ p∈X.pn++pins,p.1≠b
section
variable{X:Cx}{pins:List (Addr×Obj)}{σ:St}{H H':Hp}{s s':Shared}{b:Addr}
theorem Inv.xok(I:Inv X pins σ H s)(hx:X.ex = [])(e:s.heap.get? b=none)(n:H' b=none):XOk X pins H' b:=by
 refine⟨?_,n,fun z=>?_,fun x c q z=>?_,fun p hp z=>?_⟩
 ·cases q:X.s₀.heap.get? b with
  |none=>rfl
  |some o =>
   obtain⟨o',e'⟩:=I.base.there b o q (by rw[hx];simp)
   rw[e]at e'
   cases e'
 ·obtain⟨m,⟨o,_,_,ho,_⟩,_⟩:=I.loc
  rw[z,ho]at e
  cases e
 ·obtain⟨v,o,ho,_⟩:=I.cell x c q
  rw[z,e]at ho
  cases ho
 ·have:=(I.pin p hp).1
  rw[z,e]at this
  cases this
theorem Inv.xstep{h':Heap}{ch:List Addr}(I:Inv X pins σ H s)(hch:∀ b∈ch,XOk X pins H b)
  (keep:∀ b o,s.heap.get? b=some o->b∉ch->b∉frs X.stack->h'.get? b=some o)
  (slot:∀ b o,s.heap.get? b=some o->b∉ch->b∈frs X.stack->∃ sl,h'.get? b=some { o with slots:=sl }):Inv X pins σ H { s with heap:=h' }:=by
 have any:∀ b o,s.heap.get? b=some o->b∉ch->∃ sl,h'.get? b=some { o with slots:=sl }:=fun b o e hc=>by
  by_cases hb:b∈frs X.stack
  ·exact slot b o e hc hb
  ·exact⟨o.slots,keep b o e hc hb⟩
 have fsub:∀ b,b∈frs X.stack->b≠X.env.locals->b∈X.fs:=fun b hb n=>(DI.mp (I.stkSub b hb)).elim (fun z=>absurd z n) fun z=>z
 have neL:∀ b o,X.s₀.heap.get? b=some o->b≠X.env.locals:=fun b o e=>DO (Ei (Heap.lt_size e) I.ok.above)
 have neC:∀ b o,X.s₀.heap.get? b=some o->b∉ch:=fun b o e hb=>by
  have:=(hch b hb).old
  rw[e]at this
  cases this
 have cellK:∀ x c,X.env.cells.lookup x=some c->∀ v,s.heap.IsCell c v->h'.IsCell c v:=fun x c e v ⟨o,ho,hd⟩=>by
  obtain⟨sl,q⟩:=any c o ho fun z=>(hch c z).nc x c e rfl
  exact⟨_,q,hd⟩
 refine⟨I.ok,I.os,I.bare,⟨fun b o e n hb hx=>?_,fun b o e n hb hx=>?_,I.base.free,fun b o e hx=>?_,I.base.tups,I.base.frzs,I.base.tbls⟩,?_,fun x c e=>?_,I.free,I.freeC,fun p hp=>?_,fun b u e=>?_,I.len⟩
 ·exact keep b o (I.base.keep b o e n hb hx) (neC b o e) fun z=>hb (fsub b z (neL b o e))
 ·obtain⟨sl,e1⟩:=I.base.slot b o e n hb hx
  obtain⟨sl',e2⟩:=any b _ e1 (neC b o e)
  exact⟨sl',e2⟩
 ·obtain⟨o',e1⟩:=I.base.there b o e hx
  obtain⟨sl,e2⟩:=any b _ e1 (neC b o e)
  exact⟨_,e2⟩
 ·obtain⟨m,⟨o,es,ep,ho,r⟩,hl⟩:=I.loc
  obtain⟨sl,e2⟩:=any _ o ho fun z=>(hch _ z).nl rfl
  refine⟨m,⟨_,es,ep,e2,r⟩,fun i x v e1 e2 e3=>?_⟩
  obtain⟨u,r,l⟩:=hl i x v e1 e2 e3
  refine⟨u,r,?_⟩
  rcases l with l | ⟨k,c,e,z⟩
  ·exact .inl l
  ·exact .inr ⟨k,c,e,cellK x c e _ z⟩
 ·obtain⟨v,z⟩:=I.cell x c e
  exact⟨v,cellK x c e v z⟩
 ·obtain⟨e,n,ne,nf,d⟩:=I.pin p hp
  exact⟨keep p.1 p.2 e (fun z=>(hch p.1 z).np p hp rfl) fun z=>nf (fsub p.1 z ne),n,ne,nf,d⟩
 ·have nof:∀ c u',H c=some u'->c∉ch/\c∉frs X.stack:=fun c u' q=>⟨fun z=>(by rw[(hch c z).trk]at q;exact nomatch q),fun z=>(by rw[I.stkFree c z]at q;exact nomatch q)⟩
  refine(I.hok b u e).stay (fun c v hc q=>?_) (fun _ q=>q) fun _ _ q=>q
  rcases hc with z | z
  ·rw[z]at q ⊢
   exact keep b v q (nof b u e).1 (nof b u e).2
  ·exact keep c v q (nof c _ z).1 (nof c _ z).2
theorem Inv.xtrack{a:Addr}{o:HO}(I:Inv X pins σ H s)(f:XOk X pins H a)(new:bD X.prog X.w (upd H a o) s.heap a o):Inv X pins σ (upd H a o) s:=by
 have ne:∀ b u,H b=some u->b≠a:=fun b u e=>br e f.trk
 have nb:∀ b u,s.heap.get? b=some u->b≠a->H b=none->upd H a o b=none:=fun b u _ n q=>by rw[aj n];exact q
 refine⟨I.ok,I.os,I.bare,⟨I.base.keep,I.base.slot,fun b ob e n hx=>?_,I.base.there,fun b xs e=>?_,fun b ob xs e=>?_,fun b ps e=>?_⟩,I.loc,I.cell,?_,fun x c e=>?_,fun p hp=>?_,fun b u e=>?_,I.len⟩
 ·rw[aj (fun z=>by rw[z,f.old]at e;cases e)]
  exact I.base.free b ob e n hx
 ·have:=I.base.tups b xs e
  rw[aj (ne _ _ this)]
  exact this
 ·have:=I.base.frzs b ob xs e
  rw[aj (ne _ _ this)]
  exact this
 ·obtain⟨m,q⟩:=I.base.tbls b ps e
  exact⟨m,by rw[aj (ne _ _ q)];exact q⟩
 ·rw[aj (Ne.symm f.nl)]
  exact I.free
 ·rw[aj (f.nc x c e)]
  exact I.freeC x c e
 ·obtain⟨e,n,r⟩:=I.pin p hp
  exact⟨e,by rw[aj (f.np p hp)];exact n,r⟩
 ·by_cases hb:b=a
  ·rw[hb,ag]at e
   cases e
   rw[hb]
   exact new
  ·rw[aj hb]at e
   exact(I.hok b u e).stay (fun c v _ q=>q) (fun c q=>by rw[aj (ne c _ q)];exact q) fun c xs q=>by rw[aj (ne c _ q)];exact q
end
def Trc(h:Heap)(x:Addr)(C:Value)(T:Addr):Prop :=
 ∃ oe vs a0 oT ts,h.get? x=some oe/\oe.cls=C/\vs[0]?=some a0/\oe.data=.fields vs/\vs[1]?=some (.ref T)/\T≠x/\h.get? T=some oT/\oT.data=.fields ts/\ts[3]?=some .none
def Xnw(h:Heap)(x:Addr)(C:Value):Prop:=∃ oe vs a0,h.get? x=some oe/\oe.cls=C/\oe.data=.fields vs/\vs[0]?=some a0/\vs[1]?=some .none
def XA(X:Cx)(pins:List (Addr×Obj))(H:Hp)(s:Shared)(x:Addr)(C:Value):Prop:=XOk X pins H x/\(Xnw s.heap x C∨∃ T,XOk X pins H T/\Trc s.heap x C T)
def CXr(P:Program)(w:World):CXT:=fun outer H s E e s'=>∃(x:Addr)(C:Value)(T:Addr)(H':Hp),e=.ref x/\s'.os=s.os/\AllBare s'.gens/\Un (frs outer) [] H H' s.heap s'.heap/\HOk P w H' s'.heap /\
 s.heap.get? x=none/\s.heap.get? T=none/\H' x=none/\H' T=none/\Trc s'.heap x C T/\E C none H'
section
variable{X:Cx}{pins:List (Addr×Obj)}{σ:St}{H:Hp}{s:Shared}{x:Addr}{C:Value}{E:Value->Shared->Prop}
abbrev hidX(X:Cx)(h:Heap)(ch:List Addr):Heap:=PySem.W.hideAll h (ch++frs X.stack)
theorem Inv.hidF(I:Inv X pins σ H s)(ch:List Addr):s.heap.FunFrames (hidX X s.heap ch) X.stack :=
 PySem.W.funFrames_hide I.stack fun env he a hf=>DQ _ (GR.mpr ⟨env,he,hf⟩)
theorem xM(ch:List Addr)(h:Heap):(hidX X h ch).StaysIn h:=fun _ _ e=>PySem.W.of_hideAll _ e
theorem g8{ch:List Addr}{h:Heap}{b:Addr}(hb:b∈ch):(hidX X h ch).get? b=none:=PySem.W.hideAll_none _ (EC _ hb)
theorem Inv.left{h':Heap}{ch:List Addr}{a0:Value}(I:Inv X pins σ H s)(hx:X.ex = [])(hch:∀ b∈ch,XOk X pins H b)(k:(hidX X s.heap ch).StaysIn h')(t:h'.TracedW (hidX X s.heap ch) x C a0)(u:s.heap.UpToSlots h') :
  Inv X pins σ H { s with heap:=h' }/\∃ T,XOk X pins H T/\Trc h' x C T:=by
 have fr:∀ b o,s.heap.get? b=some o->b∈frs X.stack->∃ sl,h'.get? b=some { o with slots:=sl }:=fun b o e hb=>by
  obtain⟨_,o',ho,hd⟩:=I.stack.mem hb
  rw[e]at ho
  cases ho
  exact u b o e hd
 refine⟨I.xstep hch (fun b o e n1 n2=>k b o (GI _ e fun z=>(DN.mp z).elim n1 n2)) fun b o e _ hb=>fr b o e hb,?_⟩
 obtain⟨oe,vs,T,oT,ts,he,⟨hcls,h0⟩,hd,h1,hnT,hTe,hT,hdT,h3⟩:=t
 refine⟨T,?_,oe,vs,a0,oT,ts,he,hcls,h0,hd,h1,hTe,hT,hdT,h3⟩
 cases q:s.heap.get? T with
 |none=>exact I.xok hx q (I.hok.none_of q)
 |some o =>
  by_cases z:T∈ch
  ·exact hch T z
  ·by_cases z2:T∈frs X.stack
   ·obtain⟨_,o',ho,hd'⟩:=I.stack.mem z2
    obtain⟨sl,e⟩:=fr T o q z2
    rw[hT]at e
    cases e
    rw[q]at ho
    cases ho
    exact absurd hdT (hd' ts)
   ·have:=GI (ch++frs X.stack) q fun z3=>(DN.mp z3).elim z z2
    rw[hnT]at this
    cases this
theorem Inv.leave{Q:Unit->Shared->Prop}(I:Inv X pins σ H s)(hx:X.ex = [])(hst:X.stack=X.env::X.outer)(hfr:X.env.frame=some X.env.locals)(xa:XA X pins H s x C)
  (h:∀ h' T,Inv X pins σ H { s with heap:=h' }->XOk X pins H x->XOk X pins H T->Trc h' x C T->Q () { s with heap:=h' }):wpAny (model X.prog X.w) X.A (leaving X.env (.ref x)) Q E s:=by
 obtain⟨x1,x2⟩:=xa
 have frm:X.A.frames=some (X.env::X.outer):=by rw[← hst];exact I.ok.frames
 rcases x2 with⟨oe,vs,a0,he,hc,hd,h0,h1⟩ | ⟨T,xT,oe,vs,a0,oT,ts,he,hc,h0,hd,h1,hTe,hT,hdT,h3⟩
 ·have hch:∀ b∈[x],XOk X pins H b:=fun b hb=>by
   have e:b=x:=by simpa using hb
   rw[e]
   exact x1
  refine wpAny_leaving_firstW (base:=hidX X s.heap [x]) frm (hst▸I.hidF [x]) hfr he (xM _ _) (g8 (by simp)) hd h1 h0 fun h' L=>?_
  obtain⟨k1,_,k3,k4⟩:=L
  obtain⟨I',T,xT,tr⟩:=I.left hx hch k1 k3 k4
  rw[hc]at tr
  exact h h' T I' x1 xT tr
 ·have hch:∀ b∈[x,T],XOk X pins H b:=fun b hb=>by
   rcases DI.mp hb with e | hb
   ·rw[e]
    exact x1
   ·have e:b=T:=by simpa using hb
    rw[e]
    exact xT
  refine wpAny_leaving_nextW (base:=hidX X s.heap [x,T]) frm (hst▸I.hidF [x,T]) hfr ⟨oe,vs,T,oT,ts,he,⟨hc,h0⟩,hd,h1,g8 (by simp),hTe,hT,hdT,h3⟩ (xM _ _) (g8 (by simp)) fun h' L=>?_
  obtain⟨k1,_,k3,k4⟩:=L
  obtain⟨I',T',xT',tr⟩:=I.left hx hch k1 k3 k4
  exact h h' T' I' x1 xT' tr
end
abbrev WK:=Value->St->Hp->Prop
def Wsh(X:Cx)(W:WK):Prop:=∀(pins:List (Addr×Obj))(σ:St)(H:Hp)(s:Shared)(x:Addr)(C:Value),Inv X pins σ H s->XA X pins H s x C->W C σ H->X.xe (.ref x) s
theorem lX{P:Program}{w:World}{K:DE}{mg:Str->Option Value}{base:Heap}{N:List Str}{qual:Str}{scope:Scope}{f:Addr}{cd:Value}{A:Around}{outer:List Env}{s₀:Shared}{H₀:Hp}{E:XK} :
  Wsh (cxOf (CXr P w) P w K mg base N qual scope f cd A outer s₀ H₀ E) (fun C _ H=>E C none H):=fun pins σ H s x C I xa hE=>by
 show wpAny (model P w) (A.deeper (envOfC qual scope s₀.heap.objs.size f cd)) (leaving (envOfC qual scope s₀.heap.objs.size f cd) (.ref x)) _ _ s
 refine Inv.leave I rfl rfl rfl xa fun h' T I' x1 xT tr=>?_
 exact⟨x,C,T,H,rfl,I'.os,I'.bare,I'.base,I'.hok,x1.old,xT.old,x1.trk,xT.trk,tr,hE⟩
section
variable{X:Cx}{k:Nat}{f C:Addr}{fd:FuncData}{ps:List Str}{sp:Sp}{dvs:List V}{ds:List Value}{W:WK}{x m:Str}{p pos apos:Pos}{e o:Expr}{es:List Expr}{ta:TE}{t:TA}
theorem Wsh.of{pins:List (Addr×Obj)}{σ:St}{H:Hp}{s s':Shared}{v:Value}(ws:Wsh X W)(hx:X.ex = [])(I:Inv X pins σ H s)(h:CXr X.prog X.w X.stack H s (fun C _ H'=>W C σ H') v s'):X.xe v s':=by
 obtain⟨x,C,T,H',rfl,os,bare,un,hok,nx,nT,tx,tT,tr,q⟩:=h
 have I':Inv X pins σ H' s':=I.call' os un hok bare fun b z=>absurd z (by simp)
 exact ws pins σ H' s' x C I' ⟨I.xok hx nx tx,.inr ⟨T,I.xok hx nT tT,tr⟩⟩ q
theorem BZ{pins:List (Addr×Obj)}{σ:St}{H:Hp}{s:Shared}{Q:VK}{us:List Value}{vs:List V}(F:FnOk X.prog X.w X.K X.mg X.base (CXr X.prog X.w) k f fd ps sp)(hr:Room k X.A)(hb:i9 X.K fd ps ds)(hd:Vals dvs ds)(ws:Wsh X W)(hx:X.ex = [])
  (I:Inv X pins σ H s) (r:Vals vs us) (h:sp (vs++dvs) H Q (fun C _ H'=>W C σ H')):wpAny (model X.prog X.w) X.A (call (.ref f) us) (EP X pins σ Q) X.xe s:=by
 have r2:Vals (vs++dvs) (us++ds):=r.append hd
 have hl:(us++ds).length=ps.length:=by rw[← r2.length];exact F.len _ _ _ _ h
 refine wpAny_call (codeAny_mono (F.run X.A X.stack s H ⟨us,[]⟩ (us++ds) (vs++dvs) Q _ hr I.env0 (hb s us I.kIn hl) r2 h) fun r s' hq=>?_)
 cases r with
 |error e=>exact ws.of hx I hq
 |ok fl =>
  cases fl with
  |ret u=>exact I.after hq
  |next=>exact False.elim hq
  |brk=>exact False.elim hq
  |cont=>exact False.elim hq
def AX(sp:Sp)(dvs:List V)(W:WK)(t:TA):TE:=fun σ H Q=>t σ H fun vs H1=>sp (vs++dvs) H1 Q fun C _ H'=>W C σ H'
theorem m8(F:FnOk X.prog X.w X.K X.mg X.base (CXr X.prog X.w) k f fd ps sp)(hr:Room k X.A)(hg:Gl X x)(hm:X.mg x=some (.ref f))(hk:D4 X.K (.ref f)=true)(hb:i9 X.K fd ps ds)(hd:Vals dvs ds)(ws:Wsh X W)(hx:X.ex = [])
  (ha:PA X (e::es) t) (hdb:(x == ("__debug__" : Str))=false:=by decide) (he:starEach (e::es) X.env=(false,eval e X.env)::starEach es X.env:=by rfl) (hpl:(backTo pos (starEach es X.env)).any (·.1)=false:=by rfl) :
  PE X (.Call (.Name x p) (e::es) [] pos) (AX sp dvs W t):=by
 intro pins s σ H Q I h
 refine wpAny_Call_Name_kw (iD I hg hm ?_ hdb)
 refine GO (h₀:=X.base) I.ok.mod.kin hk (thn (ha pos pins s σ H _ I h) fun us s1 ⟨vs,H1,I1,r,q⟩=>⟨I1.kIn,?_⟩) he hpl
 exact BZ F hr hb hd ws hx I1 r q
end
end L2
namespace L2
open PySem PySem.Spec PyProof.Rows
structure CalX(P:Program)(w:World)(K:DE)(mg:Str->Option Value)(base:Heap)(k:Nat)(x:Str)(ps:List Str)(sp:Sp)(f:Addr)(fd:FuncData):Prop where
 ok:FnOk P w K mg base (CXr P w) k f fd ps sp
 bn:i9 K fd ps []
 mg:mg x=some (.ref f)
 kp:D4 K (.ref f)=true
theorem Fun.okX{P:Program}{w:World}{K:DE}{mg:Str->Option Value}{base:Heap}{x qual:Str}{st:Stmt}{f:Addr}{fd:FuncData}{N ps:List Str}{k:Nat}{sp:Sp}(F:Fun K x qual st f fd)(S:aJ N ps (ak st))(len:∀ vs H Q E,sp vs H Q E->vs.length=ps.length)
  (hbody:∀(cdv:Value)(A:Around)(outer:List Env)(s:Shared)(H:Hp)(vs:List V)(Q:VK)(E:XK),Room k (A.deeper (envOfC qual (ak st) s.heap.objs.size f cdv))->sp vs H Q E ->
   ∃ t,PSs (cxOf (CXr P w) P w K mg base N qual (ak st) f cdv A outer s H E) (aD st) t/\t { nx:=fun _ H'=>Q .non H',rt:=Q } (lB N vs) H):FnOk P w K mg base (CXr P w) (k+1) f fd ps sp:=by
 obtain⟨oc,od,kV,doc,pm,an,cdv,ct,osl,rfl,lk,hcd⟩:=F.ex
 exact CZ lk hcd S len fun A outer s H vs Q E hr hsp=>hbody cdv A outer s H vs Q E hr hsp
abbrev veM:List Value:=[.type "ValueError",.type "Exception",.type "BaseException",.type "object"]
abbrev ExC(K:DE)(C:Addr):Prop:=F7 K C veM "ValueError.__new__" = true
theorem rj{K:DE}{C:Addr}{h:Heap}(e:ExC K C)(X:K.In h):∃ bm N nm qn bs hdct sn sub ab col dd k0 k1 k2 k3 k5 mN,h.get? C=some (excClassObj nm qn C N bs bm hdct sn sub ab col dd k0 k1 k2 k3 k5 "ValueError.__new__")/\h.Ns N mN/\mN "__init__" = none/\OwnTail h veM bm/\∀ B b,EM K C B=some b->(Value.ref C::bm).contains B=b:=by
 have z:=e
 unfold ExC F7 at z
 split at z
 ·rename_i ddx cdx slx hobj
  split at z
  ·rename_i Cx bmx y0 y1 y2 y3 nx y5 hmro hslots
   have zz:=z
   simp only[G9,beq_iff_eq,FX]at zz
   obtain⟨⟨⟨⟨⟨eC,eN⟩,edel⟩,etail⟩,ens⟩,einit⟩:=zz
   subst eC
   subst eN
   obtain⟨l⟩:=slx
   have hl:l = [y0,y1,y2,y3,some (.builtin "ValueError.__new__"),y5]:=hslots
   subst hl
   obtain⟨nm,bs,mro,ns,qn,hd,sn,sub,ab,col,del⟩:=cdx
   have hmro':mro=.ref Cx::bmx:=hmro
   have hdel':del=false:=edel
   subst hmro' hdel'
   refine⟨bmx,ns,nm,qn,bs,hd,sn,sub,ab,col,ddx,y0,y1,y2,y3,y5,_,X _ _ hobj,.of_isNs (PySem.W.isNs_of_in X ens),PySem.W.nsMap_none_of_in X ens einit,PySem.W.tail_of_in X etail,fun B b hB=>?_⟩
   unfold EM Hq at hB
   rw[hobj]at hB
   simpa using hB
  ·cases z
 ·cases z
def tRaise(C:Addr)(W:WK)(t:TA):TS:=fun _ σ H=>t σ H fun vs H1=>vs.length<=sizeLine/\W (.ref C) σ H1
theorem jH{X:Cx}{x:Str}{C:Addr}{e:Expr}{es:List Expr}{t:TA}{W:WK}{np cpos pos:Pos}(ec:ExC X.K C)(hm:X.mg x=some (.ref C))(hg:Gl X x)(ws:Wsh X W)(hx:X.ex = [])(hc:X.calm=true)(ha:PA X (e::es) t)
  (he:starEach (e::es) X.env=(false,eval e X.env)::starEach es X.env:=by rfl) (hpl:(backTo cpos (starEach es X.env)).any (·.1)=false:=by rfl) (hdb:(x == ("__debug__" : Str))=false:=by decide) :
  PS X (.Raise (some (.Call (.Name x np) (e::es) [] cpos)) none pos) (tRaise C W t):=by
 intro pins s σ H D I h
 obtain⟨tl,N,nm,qn,bs,hdct,sn,sub,ab,col,dd,k0,k1,k2,k3,k5,mN,hC,hN,hni,T,_⟩:=rj ec I.ok.mod.kin
 have hpl2:(backTo cpos (starEach (e::es) X.env)).any (·.1)=false:=by
  rw[he]
  show(false||(backTo cpos (starEach es X.env)).any (·.1))=false
  rw[hpl];rfl
 refine wpAny_Raise_call_subT (C:=C) (nm:=nm) (q:=qn) (N:=N) (bs:=bs) (bm:=tl) (hdct:=hdct) (sn:=sn) (sub:=sub) (ab:=ab) (col:=col) (dd:=dd) (k0:=k0) (k1:=k1) (k2:=k2) (k3:=k3) (k5:=k5) PySem.F.excBase_ValueError (mN:=mN) (T.hasType PySem.F.excBase_ValueError.hasBase) (I.ok.hd hc) hpl2 hni (iD I hg hm ⟨rfl,?_⟩ hdb)
 have z:=ha cpos pins s σ H _ I h
 rw[he]at z ⊢
 refine Calls.evalArgs_plain (wpAny_mono z (fun us s2 zz=>?_) fun _ _ y=>y)
 obtain⟨vs,H1,I2,r,hz,q⟩:=zz
 refine⟨rfl,by rw[← r.length];exact hz,I2.bk _ _ hC,hN.keeps I2.bk,T.keeps I2.bk,fun h' e' hme=>?_⟩
 obtain⟨t0,ht0,_,_⟩:=hme.there
 have I3:Inv X pins σ H1 { s2 with heap:=h' }:=I2.kept (t':=s2.toks) hme.keeps
 exact ws pins σ H1 _ e' (.ref C) I3 ⟨I2.xok hx hme.new (I2.hok.none_of hme.new),.inl ⟨_,_,_,ht0,rfl,rfl,rfl,rfl⟩⟩ q
def excO(x C:Addr):HO:=.ext fun h=>∃ o,h.get? x=some o/\o.cls=.ref C
section
variable{X:Cx}{pins:List (Addr×Obj)}{σ:St}{H:Hp}{s:Shared}{x:Addr}{C:Value}
def Cx.marked(X:Cx)(v:Value):Cx:={ X with A:=X.A.mark (some v),calm:=false,xe:=fun _ _=>False }
theorem Inv.marked(I:Inv X pins σ H s)(v:Value):Inv (X.marked v) pins σ H s :=
 ⟨⟨I.ok.mod,I.ok.kind,I.ok.glob,I.ok.blt,I.ok.above,I.ok.inj,I.ok.has,I.ok.cab,fun z=>(by cases z),I.ok.frames,I.ok.stk,I.ok.exf,I.ok.bs,I.ok.bsz,I.ok.noex,I.ok.exfs,I.ok.funs,I.ok.frf⟩,I.os,I.bare,I.base,I.loc,I.cell,I.free,I.freeC,I.pin,I.hok,I.len⟩
theorem Inv.unmarked{hd:X.calm=true->X.A.handled=none}{fr:X.A.frames=some X.stack}{v:Value}(I:Inv (X.marked v) pins σ H s):Inv X pins σ H s :=
 ⟨⟨I.ok.mod,I.ok.kind,I.ok.glob,I.ok.blt,I.ok.above,I.ok.inj,I.ok.has,I.ok.cab,hd,fr,I.ok.stk,I.ok.exf,I.ok.bs,I.ok.bsz,I.ok.noex,I.ok.exfs,I.ok.funs,I.ok.frf⟩,I.os,I.bare,I.base,I.loc,I.cell,I.free,I.freeC,I.pin,I.hok,I.len⟩
theorem Inv.gone{i:Nat}{n:Str}{h':Heap}{tk:Nat}{m:Str->Option Value}{v:Option Value}(I:Inv X pins σ H s)(hN:X.N.Nodup)(hi:X.N[i]?=some n)(hm:s.heap.Ns X.env.locals m/\∀ (i:Nat) (x:Str) (v:V),X.N[i]?=some x->σ[i]?=some (some v)->Vis X.env.scope x->∃ u,RelV v u/\Look X.env s.heap m x u)
  (hn:h'.Ns X.env.locals (fun y=>if y=n then v else m y)) (hs:Heap.SameBut X.env.locals s.heap h'):Inv X pins (σ.set i none) H { s with heap:=h',toks:=tk }:=by
 have lo:∀ b o,X.s₀.heap.get? b=some o->b≠X.env.locals:=fun b o e=>DO (Ei (Heap.lt_size e) I.ok.above)
 obtain⟨oL,_,_,hoL,_⟩:=id hm.1
 refine⟨I.ok,I.os,I.bare,⟨fun b o e n1 hb hx=>(hs.2 b (lo b o e)).trans (I.base.keep b o e n1 hb hx),fun b o e n1 hb hx=>?_,I.base.free,fun b o e hx=>?_,I.base.tups,I.base.frzs,I.base.tbls⟩,⟨_,hn,fun j y w' e1 e2 e3=>?_⟩,fun y c e=>?_,I.free,I.freeC,fun p hp=>?_,fun b u e=>?_,by simpa using I.len⟩
 ·obtain⟨sl,q⟩:=I.base.slot b o e n1 hb hx
  exact⟨sl,(hs.2 b (lo b o e)).trans q⟩
 ·obtain⟨o',q⟩:=I.base.there b o e hx
  exact⟨o',(hs.2 b (lo b o e)).trans q⟩
 ·by_cases hj:j=i
  ·subst hj
   rw[GX]at e2
   split at e2
   ·split at e2<;>cases e2
   ·rename_i z;exact absurd rfl z
  ·rw[GF (Ne.symm hj)]at e2
   obtain⟨u',r',l'⟩:=hm.2 j y w' e1 e2 e3
   refine⟨u',r',?_⟩
   rcases l' with⟨kk,e⟩ | ⟨kk,c,e,z⟩
   ·refine .inl ⟨kk,?_⟩
    have ny:y≠n:=fun q=>hj (ni hN e1 (q▸hi))
    show(if y=n then v else m y)=some u'
    rw[if_neg ny];exact e
   ·exact .inr ⟨kk,c,e,z.sameBut hs (I.cne y c e)⟩
 ·obtain⟨w2,z⟩:=I.cell y c e
  exact⟨w2,z.sameBut hs (I.cne y c e)⟩
 ·obtain⟨e,n1,ne,nf,d⟩:=I.pin p hp
  exact⟨(hs.2 p.1 ne).trans e,n1,ne,nf,d⟩
 ·refine(I.hok b u e).stay (fun c v2 hc q=>(hs.2 c fun z=>?_).trans q) (fun _ q=>q) fun _ _ q=>q
  have fr:=I.free
  rcases hc with y | y
  ·rw[← y,z,fr]at e;cases e
  ·rw[z,fr]at y;cases y
end
section
variable{M:Model}{A:Around}{E:Value->Shared->Prop}{h:Heap}{g:Array GenState}{d:Drawn}{t:Nat}{os:OsState}
theorem exc_up{C D:Addr}{nm qn nm2 qn2:Str}{N N2:Addr}{bs bm bs2 bm2:List Value}{hdct hdct2:Bool}{sn sn2:List Str}{sub sub2:List Value}{ab ab2:Bool}{col col2:Option Bool}{dd dd2:Option Addr}{k0 k1 k2 k3 k5 j0 j1 j2 j3 j5:Option Value}{id1 id2:String}{x:Addr}{ob:Obj}{Q:Bool->Shared->Prop}
  (hC:h.get? C=some (excClassObj nm qn C N bs bm hdct sn sub ab col dd k0 k1 k2 k3 k5 id1)) (hD:h.get? D=some (excClassObj nm2 qn2 D N2 bs2 bm2 hdct2 sn2 sub2 ab2 col2 dd2 j0 j1 j2 j3 j5 id2)) (hob:h.get? x=some ob) (hcl:ob.cls=.ref C)
  (hDB:(Value.ref D::bm2).contains (.type "BaseException")=true) (hCD:(Value.ref C::bm).contains (.ref D)=true) (hq:Q true ⟨h,g,d,t,os⟩):wpAny M A (excMatches (.ref x) (.ref D)) Q E ⟨h,g,d,t,os⟩:=by
 have ntup:=tc_notTuple
 unfold excMatches
 repeat (first | (with_reducible refine wpAny_loadPart_at hob ?_;rw[hcl]) | with_reducible refine wpAny_loadPart_at hD ?_ | (with_reducible refine wpAny_isSubtype_exc hD ?_;rw[hDB]) | (with_reducible refine wpAny_isSubtype_exc hC ?_;rw[hCD]) | wp_step)
 exact hq
end
def Cx.tried(X:Cx)(pins:List (Addr×Obj))(E:Value->Shared->Prop):Cx:={ X with pn:=X.pn++pins,xe:=E }
section
variable{X:Cx}{pins pins':List (Addr×Obj)}{σ:St}{H:Hp}{s:Shared}{E:Value->Shared->Prop}{b:Addr}
theorem Inv.tried(I:Inv X pins σ H s):Inv (X.tried pins E) [] σ H s :=
 ⟨⟨I.ok.mod,I.ok.kind,I.ok.glob,I.ok.blt,I.ok.above,I.ok.inj,I.ok.has,I.ok.cab,I.ok.hd,I.ok.frames,I.ok.stk,I.ok.exf,I.ok.bs,I.ok.bsz,I.ok.noex,I.ok.exfs,I.ok.funs,I.ok.frf⟩,I.os,I.bare,I.base,I.loc,I.cell,I.free,I.freeC,fun p hp=>I.pin p (by rw[Fz]at hp;exact hp),I.hok,I.len⟩
theorem Inv.untried(I:Inv (X.tried pins E) pins' σ H s):Inv X pins σ H s :=
 ⟨⟨I.ok.mod,I.ok.kind,I.ok.glob,I.ok.blt,I.ok.above,I.ok.inj,I.ok.has,I.ok.cab,I.ok.hd,I.ok.frames,I.ok.stk,I.ok.exf,I.ok.bs,I.ok.bsz,I.ok.noex,I.ok.exfs,I.ok.funs,I.ok.frf⟩,I.os,I.bare,I.base,I.loc,I.cell,I.free,I.freeC,fun p hp=>I.pin p (EC _ hp),I.hok,I.len⟩
theorem XOk.untried(x:XOk (X.tried pins E) pins' H b):XOk X pins H b:=⟨x.old,x.trk,x.nl,x.nc,fun p hp=>x.np p (EC _ hp)⟩
theorem SP.untried{D:Ends}{f:Flow}(h:SP (X.tried pins E) [] D f s):SP X pins D f s:=by
 cases f with
 |next=>obtain⟨σ',H',I,q⟩:=h;exact⟨σ',H',I.untried,q⟩
 |brk=>obtain⟨σ',H',I,q⟩:=h;exact⟨σ',H',I.untried,q⟩
 |cont=>obtain⟨σ',H',I,q⟩:=h;exact⟨σ',H',I.untried,q⟩
 |ret u=>obtain⟨v,σ',H',I,r,q⟩:=h;exact⟨v,σ',H',I.untried,r,q⟩
end
def WshT(X:Cx)(W:WK):Prop:=∀(pins:List (Addr×Obj))(σ:St)(H:Hp)(s:Shared)(x T:Addr)(C:Value),Inv X pins σ H s->XOk X pins H x->XOk X pins H T->Trc s.heap x C T->W C σ H->X.xe (.ref x) s
section
variable{X:Cx}{k:Nat}{f:Addr}{fd:FuncData}{ps:List Str}{sp:Sp}{dvs:List V}{ds:List Value}{W:WK}{x:Str}{p pos:Pos}{e:Expr}{es:List Expr}{t:TA}
theorem m9(F:FnOk X.prog X.w X.K X.mg X.base (CXr X.prog X.w) k f fd ps sp)(hr:Room k X.A)(hg:Gl X x)(hm:X.mg x=some (.ref f))(hk:D4 X.K (.ref f)=true)(hb:i9 X.K fd ps ds)(hd:Vals dvs ds)(ws:WshT X W)(hx:X.ex = [])
  (ha:PA X (e::es) t) (hdb:(x == ("__debug__" : Str))=false:=by decide) (he:starEach (e::es) X.env=(false,eval e X.env)::starEach es X.env:=by rfl) (hpl:(backTo pos (starEach es X.env)).any (·.1)=false:=by rfl) :
  PE X (.Call (.Name x p) (e::es) [] pos) (AX sp dvs W t):=by
 intro pins s σ H Q I h
 refine wpAny_Call_Name_kw (iD I hg hm ?_ hdb)
 refine GO (h₀:=X.base) I.ok.mod.kin hk (thn (ha pos pins s σ H _ I h) fun us s1 ⟨vs,H1,I1,r,q⟩=>⟨I1.kIn,?_⟩) he hpl
 have r2:Vals (vs++dvs) (us++ds):=r.append hd
 have hl:(us++ds).length=ps.length:=by rw[← r2.length];exact F.len _ _ _ _ q
 refine wpAny_call (codeAny_mono (F.run X.A X.stack s1 H1 ⟨us,[]⟩ (us++ds) (vs++dvs) Q _ hr I1.env0 (hb s1 us I1.kIn hl) r2 q) fun r s' hq=>?_)
 cases r with
 |error e =>
  obtain⟨x,C,T,H',rfl,os,bare,un,hok,nx,nT,tx,tT,tr,q'⟩:=hq
  have I':Inv X pins σ H' s':=I1.call' os un hok bare fun b z=>absurd z (by simp)
  exact ws pins σ H' s' x T C I' (I1.xok hx nx tx) (I1.xok hx nT tT) tr q'
 |ok fl =>
  cases fl with
  |ret u=>exact I1.after hq
  |next=>exact False.elim hq
  |brk=>exact False.elim hq
  |cont=>exact False.elim hq
end
def tTryAs(ie:Nat)(Cs:Addr->Prop)(tb:WK->TS)(ts:TS):TS:=fun Ds σ H=>tb (fun C σ1 H1=>∃ c,C=.ref c/\Cs c/\∀ x,H1 x=none->ts { nx:=fun σ2 H2=>Ds.nx (σ2.set ie none) H2,rt:=fun _ _=>False } (σ1.set ie (some (.ref x))) (upd H1 x (excO x c))) Ds σ H
theorem zw{X:Cx}{body:List Stmt}{b0:Stmt}{suite:List Stmt}{dn en:Str}{np hpos pos:Pos}{D:Addr}{ie:Nat}{Cs:Addr->Prop}{tb:WK->TS}{ts:TS}(hx:X.ex = [])(hst:X.stack=X.env::X.outer)(hfr:X.env.frame=some X.env.locals)(hN:X.N.Nodup)(hi:X.N[ie]?=some en)(hl:X.env.kindOf en=some .local)
  (hgD:Gl X dn) (hmD:X.mg dn=some (.ref D)) (eD:ExC X.K D) (hCs:∀ c,Cs c->ExC X.K c/\EM X.K c (.ref D)=some true)
  (hb:∀ pins XE W,WshT (X.tried pins XE) W->PSs (X.tried pins XE) body (tb W)) (hs:∀ v,PSs (X.marked v) (b0::suite) ts) (hdb:(dn == ("__debug__" : Str))=false:=by decide) :
  PS X (.Try body [.ExceptHandler (some (.Name dn np)) (some en) (b0::suite) hpos] [] [] pos) (tTryAs ie Cs tb ts):=by
 intro pins s σ H Ds I h
 refine wpAny_Try_except ?_
 refine wpAny_mono (hb pins (fun e s₁=>wpAny (model X.prog X.w) X.A (noteFrame e X.env) (fun _ s₂=>wpAny (model X.prog X.w) X.A (setFlight e none) (fun _ s₃=>wpAny (model X.prog X.w) X.A (handleBy e X.env [.ExceptHandler (some (.Name dn np)) (some en) (b0::suite) hpos]) (SP X pins Ds) X.xe s₃) X.xe s₂) X.xe s₁) _ ?_ [] s σ H Ds I.tried h) (fun f s1 q=>?_) fun _ _ z=>z
 ·intro pins' σ1 H1 s1 x T C I1 xx xT tr hw
  obtain⟨c,rfl,hc,hts⟩:=hw
  have I2:Inv X pins σ1 H1 s1:=I1.untried
  have x2:XOk X pins H1 x:=xx.untried
  have T2:XOk X pins H1 T:=xT.untried
  have frm:X.A.frames=some (X.env::X.outer):=by rw[← hst];exact I2.ok.frames
  have fly:∀{h:Heap}{T:Addr},Inv X pins σ1 H1 { s1 with heap:=h }->Trc h x (.ref c) T->∃ a0,Heap.FlyingW (hidX X h [x,T]) (X.env::X.outer) x (.ref c) a0 h:=fun{h T} J tr=>by
   obtain⟨oe,vs,a0,oT,ts,he,hcl,h0,hd,h1,hTe,hT,hdT,h3⟩:=tr
   exact⟨a0,xM _ _,g8 (by simp),hst▸J.hidF [x,T],⟨oe,vs,T,oT,ts,he,⟨hcl,h0⟩,hd,h1,g8 (by simp),hTe,hT,hdT,h3⟩⟩
  have two:∀{T:Addr},XOk X pins H1 T->∀ b∈[x,T],XOk X pins H1 b:=fun{T} hT b hb=>by
   rcases DI.mp hb with e | hb
   ·rw[e];exact x2
   ·have e:b=T:=by simpa using hb
    rw[e];exact hT
  obtain⟨a0,fl⟩:=fly (h:=s1.heap) I2 tr
  refine wpAny_looks_onW frm hfr fl fun h4 held4 up4=>?_
  refine wpAny_landsW held4 fun h5 fl5 up5=>?_
  obtain⟨I5,T5,xT5,tr5⟩:=I2.left hx (two T2) fl5.1 fl5.2.2.2 (up4.trans up5)
  refine wpAny_handleBy_cons (codeAny_handlers_test (Calls.Name_function_global I5.ok.kind hgD (Calls.loadGlobal_global (by rw[I5.ok.glob];exact I5.mod.glob.keeps I5.bk) hmD ?_) hdb)) (by intro q;cases q)
  obtain⟨e1,e2⟩:=hCs c hc
  obtain⟨_,_,_,_,_,_,_,_,_,_,_,_,_,_,_,_,_,hC,_,_,_,mC⟩:=rj e1 I5.kIn
  obtain⟨_,_,_,_,_,_,_,_,_,_,_,_,_,_,_,_,_,hD,_,_,TD,_⟩:=rj eD I5.kIn
  have hDB:=TD.hasType (X:="BaseException") (b:=true) rfl
  obtain⟨ob,_,_,_,_,hob,hcl,_⟩:=id tr5
  refine exc_up hC hD hob hcl (by rw[List.contains_cons,hDB,Bool.or_true]) (mC _ _ e2) ?_
  refine codeAny_handlers_suite_as ?_
  obtain⟨a5,fl5'⟩:=fly I5 tr5
  refine lands_againW (s:={ s1 with heap:=h5 }) fl5' fun h6 fl6 up6=>?_
  obtain⟨I6,T6,xT6,tr6⟩:=I5.left hx (two xT5) fl6.1 fl6.2.2.2 up6
  obtain⟨oe,_,_,_,_,he,hcl6,_⟩:=id tr6
  have I7:=I6.xtrack (o:=excO x c) x2 ⟨⟨oe,he,hcl6⟩,⟨oe,he⟩,fun h1 h2 ⟨o,z1,z2⟩ kk=>⟨o,kk o z1,z2⟩⟩
  refine dX I7 hN hi (.inl hl) (v:=.ref x) rfl (fun s8 I8=>?_) (.inr hl)
  refine wpAny_mono (hs (.ref x) pins s8 _ _ _ (I8.marked _) (hts x x2.trk)) (fun f s9 q9=>?_) fun _ _ z=>z.elim
  cases f with
  |next =>
   obtain⟨σ9,H9,I9,q9⟩:=q9
   have I9':Inv X pins σ9 H9 s9:=Inv.unmarked (hd:=I2.ok.hd) (fr:=I2.ok.frames) I9
   obtain⟨m,hm⟩:=I9'.loc
   refine wpAny_nameGoes_keeps hl hm.1 (by rw[I9'.ok.kind];rfl) fun h' v hn hss=>?_
   exact⟨_,_,I9'.gone hN hi hm hn hss,q9⟩
  |brk=>obtain⟨_,_,_,z⟩:=q9;exact z.elim
  |cont=>obtain⟨_,_,_,z⟩:=q9;exact z.elim
  |ret u=>obtain⟨_,_,_,_,_,z⟩:=q9;exact z.elim
 ·have q':=SP.untried q
  cases f with
  |next=>exact wpAny_execs_nil q'
  |brk=>exact q'
  |cont=>exact q'
  |ret u=>exact q'
end L2
namespace L2
open PySem PySem.Spec PyProof.Rows
end L2
namespace L2
open PySem PySem.Spec PyProof.Rows
section
variable{prog:Program}{w:World}{A:Around}{E:Value->Shared->Prop}{s:Shared}
theorem xo:typeLookup (.type "list_reverseiterator") "__len__" = pure none:=by rw[typeLookup_type,builtinLookup_eq_fast];kernel_rfl
theorem Aa:typeLookup (.type "list_reverseiterator") "__length_hint__" = pure (some (.builtin "list_reverseiterator.__length_hint__")):=by rw[typeLookup_type,builtinLookup_eq_fast];kernel_rfl
theorem An{r:Addr}{Q:Bool->Shared->Prop} (hT:s.TypeIs (.ref r) "list_reverseiterator") (h:Q false s):wpAny (model prog w) A (Builtin.List.listLengthHint (.ref r)) Q E s:=by
 unfold Builtin.List.listLengthHint
 refine wpAny_bind (wpAny_specialOf hT xo ?_)
 wp_delta
 refine wpAny_ite_split (fun hab=>absurd hab (by decide)) (fun _=>?_)
 refine wpAny_ite_split (fun hab=>absurd hab (by decide)) (fun _=>?_)
 refine wpAny_bind (wpAny_specialOf hT Aa ?_)
 generalize hid:("list_reverseiterator.__length_hint__" : String)=id0
 wp_delta
 rw[show splitId id0=some ("list_reverseiterator","__length_hint__") from by subst hid;decide +kernel]
 subst hid
 refine wpAny_bind (wpAny_isInstance (T:="list_reverseiterator") (b:=true) hT (by rw[isSubtype_type];kernel_rfl) ?_)
 refine wpAny_ite_split (fun hab=>absurd hab (by decide)) (fun _=>?_)
 refine wpAny_ite_split (fun _=>?_) (fun hab=>absurd (by decide +kernel) hab)
 refine wpAny_ite_split (fun hab=>absurd hab (by decide +kernel)) (fun _=>?_)
 exact wpAny_pure h
end
end L2
namespace L2
open PySem PySem.Spec PyProof.Rows
section
variable{prog:Program}{w:World}{A:Around}{E:Value->Shared->Prop}{s:Shared}
theorem uX{R:Result->Shared->Prop}{r l S:Addr}{items:Array Value}(hh:A.handled=none)(hit:s.heap.IsRevIter r l ((items.size:Int)-1))(hl:s.heap.IsList l items)(hSr:S≠r)(hSl:S≠l)(hrl:l≠r)(res:Value)(c0:Nat)
  (hS:s.heap.get? S=some { cls:=.type "list",data:=.seq #[] c0 })
  (hR:∀ h' tk acc' c',(∀ b o,b≠S->b≠r->s.heap.get? b=some o->h'.get? b=some o)->h'.get? S=some { cls:=.type "list",dict:=none,data:=.seq acc' c',slots:=#[] }->ItemsOf (fun i v=>items[items.size-1-i]?=some v) acc' items.size->R (.ok (.ret res)) { s with heap:=h',toks:=tk }) (hn:items.size<=sizeLine) :
  wpAny (model prog w) A.in1 (Builtin.List.listExtendWith (.ref S) (.ref r) res)
   (fun fin s'=>match fin with | .done f=>R (.ok f) s' | .again c'=>c'.quiet=true/\codeAny (model prog w) A c' R s') (fun e s'=>R (.error e) s') s:=by
 have W:=Walks.listRev (prog:=prog) (w:=w) (A:=A.in1) hh r l hrl items
 have hSf:S∉[r,l]:=by simp only[DI,D7,or_false,not_or];exact⟨hSr,hSl⟩
 have key:∀(h:Heap)(c1 tk:Nat),(0<=items.size/\h.IsRevIter r l ((items.size:Int)-1-((0:Nat):Int))/\h.IsList l items)->(∀ b o,b≠S->b≠r->s.heap.get? b=some o->h.get? b=some o) ->
   h.get? S=some { cls:=.type "list",data:=.seq #[] c1 }->codeAny (model prog w) A (.builtin "list.extend.loop" ⟨[.ref S,.ref r,res],[]⟩) R { s with heap:=h,toks:=tk }:=by
  intro h c1 tk hst hk hS1
  refine codeAny_extend_loopS W.toS hn S hSf res items.size 0 _ #[] c1 rfl (Eu _) hst hS1 (ItemsOf.nil _) fun s' acc' c' hm hS' hacc=>?_
  rw[Moved.eq_with hm]
  refine hR s'.heap s'.toks acc' c' (fun b o hb hbr e=>hm.heap b o (fun hmem=>?_) (hk b o hb hbr e)) hS' hacc
  rcases DI.mp hmem with e' | hmem
  ·exact hb e'
  ·exact hbr (DP.mp hmem)
 have hit0:s.heap.IsRevIter r l ((items.size:Int)-1-((0:Nat):Int)):=by
  have e:(items.size:Int)-1-((0:Nat):Int)=(items.size:Int)-1:=by omega
  rw[e];exact hit
 unfold Builtin.List.listExtendWith
 refine wpAny_bind (wpAny_typeOf (T:="list_reverseiterator") hit.typeIs ?_)
 have h1:Builtin.List.listSameRef (.ref S) (.ref r)=false:=by simp[Builtin.List.listSameRef,hSr]
 have h2:(Value.type "list_reverseiterator" == Value.type "list")=false:=by decide
 have h3:(Value.type "list_reverseiterator" == Value.type "tuple")=false:=by decide
 simp only[h1,h2,h3,HC,Ed,if_false]
 refine wpAny_bind (wpAny_pyIter_revIter hit ?_)
 refine wpAny_bind (wpAny_holding (An hit.typeIs ?_))
 refine wpAny_ite_split (fun _=>?_) (fun _=>wpAny_pure ⟨plainId_quiet E9 _,key _ c0 _ ⟨Eu _,hit0,hl⟩ (fun b o _ _ e=>e) hS⟩)
 refine wpAny_bind (wpAny_rule ?_)
 refine wpAny_bind ?_
 show wpAny _ _ (updateSeq S (·.push .none) >>= fun _=>updateSeq S (·.pop)) _ _ _
 refine wpAny_bind (wpAny_updateSeq hS rfl ?_)
 have hS2:=Heap.get?_update_self (Obj.mapSeq (·.push Value.none)) hS rfl
 refine wpAny_updateSeq (hz:=by seq_fits) hS2 rfl ?_
 have hS3:=Heap.get?_update_self (Obj.mapSeq (·.pop)) hS2 rfl
 have oth:∀ b o,b≠S->s.heap.get? b=some o->((s.heap.update S (Obj.mapSeq (·.push Value.none))).update S (Obj.mapSeq (·.pop))).get? b=some o:=fun b o hb e=>(Heap.get?_update_other _ _ (Ne.symm hb)).trans ((Heap.get?_update_other _ _ (Ne.symm hb)).trans e)
 refine wpAny_pure ⟨plainId_quiet E9 _,key _ _ _ ⟨Eu _,hit0.at fun o e=>oth r o (Ne.symm hSr) e,hl.at fun o e=>oth l o (Ne.symm hSl) e⟩ (fun b o hb _ e=>oth b o hb e) hS3⟩
theorem Al{R:Result->Shared->Prop}{r l S:Addr}{items:Array Value}(hh:A.handled=none)(hit:s.heap.IsRevIter r l ((items.size:Int)-1))(hl:s.heap.IsList l items)(hSr:S≠r)(hSl:S≠l)(hrl:l≠r)
  (hS:s.heap.get? S=some { cls:=.type "list",data:=.seq #[] })
  (hR:∀ h' tk acc' c',(∀ b o,b≠S->b≠r->s.heap.get? b=some o->h'.get? b=some o)->h'.get? S=some { cls:=.type "list",dict:=none,data:=.seq acc' c',slots:=#[] }->ItemsOf (fun i v=>items[items.size-1-i]?=some v) acc' items.size->R (.ok (.ret .none)) { s with heap:=h',toks:=tk }) (hn:items.size<=sizeLine) :
  wpAny (model prog w) A.in1 (Builtin.«list.__init__» ⟨[.ref S,.ref r],[]⟩)
   (fun fin s'=>match fin with | .done f=>R (.ok f) s' | .again c'=>c'.quiet=true/\codeAny (model prog w) A c' R s') (fun e s'=>R (.error e) s') s:=by
 show wpAny _ _ (do let old ← Builtin.List.listItems (.ref S);Builtin.List.listUpdate (.ref S) (fun _=>#[]);letGo old.toList.reverse;Builtin.List.listExtendWith (.ref S) (.ref r) .none) _ _ s
 refine wpAny_bind ?_
 unfold Builtin.List.listItems
 refine wpAny_bind (wpAny_seqItems hS rfl (wpAny_pure ?_))
 show wpAny _ _ (updateSeq S (fun _=>#[]) >>= fun _=>letGo (#[]:Array Value).toList.reverse >>= fun _=>Builtin.List.listExtendWith (.ref S) (.ref r) .none) _ _ s
 refine wpAny_bind (wpAny_updateSeq hS rfl ?_)
 have hS2:=Heap.get?_update_self (Obj.mapSeq (fun _=>(#[]:Array Value))) hS rfl
 have oth:∀ b o,b≠S->s.heap.get? b=some o->(s.heap.update S (Obj.mapSeq (fun _=>(#[]:Array Value)))).get? b=some o:=fun b o hb e=>(Heap.get?_update_other _ _ (Ne.symm hb)).trans e
 refine wpAny_bind (wpAny_letGo ?_)
 refine uX hh (hit.at fun o e=>oth r o (Ne.symm hSr) e) (hl.at fun o e=>oth l o (Ne.symm hSl) e) hSr hSl hrl .none _ hS2 (fun h' tk acc' c' hk hS' hacc=>?_) hn
 exact hR h' tk acc' c' (fun b o hb hbr e=>hk b o hb hbr (oth b o hb e)) hS' hacc
theorem qT{r l:Addr}{items:Array Value}{Q:Value->Shared->Prop}(hh:A.handled=none)(hit:s.heap.IsRevIter r l ((items.size:Int)-1))(hl:s.heap.IsList l items)(hrl:l≠r)(hn:items.size<=sizeLine)
  (hQ:∀ h' tk acc' c',(∀ b o,b≠r->s.heap.get? b=some o->h'.get? b=some o)->h'.get? s.heap.objs.size=some { cls:=.type "list",dict:=none,data:=.seq acc' c',slots:=#[] }->ItemsOf (fun i v=>items[items.size-1-i]?=some v) acc' items.size->Q (.ref s.heap.objs.size) { s with heap:=h',toks:=tk }) :
  wpAny (model prog w) A (call (.type "list") [.ref r]) Q E s:=by
 refine callType_codes (Q₁:=fun obj s₁=>obj=.ref s.heap.objs.size/\s₁={ s with heap:=s.heap.push { cls:=.type "list",data:=.seq #[] } }) PySem.F.called_list (Hs _) Hv
  (code_list_new _ ⟨rfl,rfl⟩) fun obj s₁ h₁=>?_
 obtain⟨rfl,rfl⟩:=h₁
 have hS:(s.heap.push { cls:=.type "list",data:=.seq #[] }).get? s.heap.objs.size=some { cls:=.type "list",data:=.seq #[] }:=Heap.get?_push_size _ rfl
 have hr:r<s.heap.objs.size:=let ⟨_,ho,_⟩:=hit;Heap.lt_size ho
 have hl':l<s.heap.objs.size:=let ⟨_,ho,_⟩:=hl;Heap.lt_size ho
 refine⟨⟨_,hS,rfl⟩,Hk _ _,Al (A:=A.in1) hh (hit.at fun o e=>Heap.get?_push_of_some _ e) (hl.push _) (EJ hr) (EJ hl') hrl hS (fun h' tk acc' c' hk hS' hacc=>?_) hn⟩
 exact⟨rfl,hQ h' tk acc' c' (fun b o hb e=>hk b o (DO (Heap.lt_size e)) hb (Heap.get?_push_of_some _ e)) hS' hacc⟩
end
section
variable{X:Cx}
theorem Inv.track{pins:List (Addr×Obj)}{σ:St}{H:Hp}{s:Shared}{a:Addr}{o:HO}(I:Inv X pins σ H s)(f:FpOk X pins H a)(new:bD X.prog X.w (upd H a o) s.heap a o):Inv X pins σ (upd H a o) s:=by
 obtain⟨f0,f1,f2,f3,f4,f5⟩:=f
 have ne:∀ b u,H b=some u->b≠a:=fun b u e=>br e f0
 refine I.step (g':=s.gens) (t':=s.toks) (d':=s.drawn) (h':=s.heap) (ch:=[a]) (fun b hb=>?_) (fun b o _ _ _ e _=>e) (fun b o _ _ _ e _=>⟨o.slots,e⟩) (fun b o hc e n=>?_) (fun b o _ e=>⟨o,e⟩) (fun b xs e=>by rw[aj (ne b _ e)];exact e) (fun b o u e=>by rw[aj (ne b _ e)];exact e)
  (fun b ps e=>⟨#[],by rw[aj (ne b _ e),e];simp⟩) (fun m hm=>hm) (fun b u e=>?_) I.bare
 ·have eb:b=a:=by simpa using hb
  rw[eb]
  exact⟨f3,f1,f4,f5⟩
 ·rw[aj (fun z=>hc (by simp[z]))]
  exact n
 ·by_cases hb:b=a
  ·rw[hb,ag]at e
   cases e
   rw[hb]
   exact new
  ·rw[aj hb]at e
   exact(I.hok b u e).stay (fun c v _ q=>q) (fun c q=>by rw[aj (ne c _ q)];exact q) fun c xs q=>by rw[aj (ne c _ q)];exact q
theorem y6{ys:List V}{its:List Value}{acc:Array Value}(rv:Vals ys its)(h:ItemsOf (fun i v=>its.toArray[its.toArray.size-1-i]?=some v) acc its.toArray.size):Vals ys.reverse acc.toList:=by
 have e:acc.toList=its.reverse:=by
  apply GZ
  intro i
  by_cases hi:i<its.length
  ·have hacc:i<acc.size:=by rw[h.1];simpa using hi
   have q:=h.2 i acc[i] (EI hacc)
   rw[Et,EI hacc,List.getElem?_reverse hi,← q]
   simp
  ·rw[F1 (by rw[DX,h.1];simpa using hi),F1 (by rw[GJ];omega)]
 rw[e]
 exact rv.reverse
theorem l8{e:Expr}{te:TE}{p p2 pos pos2:Pos}(hc:X.calm=true) (hg:Gl X "list") (hm:X.mg "list" = none) (hg2:Gl X "reversed") (hm2:X.mg "reversed" = none) (he:PE X e te)
  (h1:starEach [.Call (.Name "reversed" p2) [e] [] pos2] X.env = [(false,eval (.Call (.Name "reversed" p2) [e] [] pos2) X.env)]:=by rfl) (h2:starEach [e] X.env=(false,eval e X.env)::starEach [] X.env:=by rfl) :
  PE X (.Call (.Name "list" p) [.Call (.Name "reversed" p2) [e] [] pos2] [] pos) (fun σ H Q=>te σ H fun x H1=>∃ l ys,x=.ref l/\SqL X.K H1 l ys/\∀ q,H1 q=none->Q (.ref q) (upd H1 q (.lst ys.reverse))):=by
 intro pins s σ H Q I h
 refine wpAny_Call_Name_kw (fj I hg hm nY ?_)
 refine PyProof.Rows.callWith_type1 ?_ h1 rfl
 rw[h1]
 refine Calls.spliced_cons ?_
 refine wpAny_Call_Name_kw (fj I hg2 hm2 rP ?_)
 refine PyProof.Rows.callWith_type1 ?_ h2 rfl
 rw[h2]
 refine Calls.spliced_cons (thn (he pins s σ H _ I h) fun u s1 ⟨x,H1,I1,r1,q1⟩=>?_)
 obtain⟨l,ys,rfl,hq,q⟩:=q1
 cases r1
 refine Calls.spliced_nil ?_
 obtain⟨its,rv,pl,hz⟩:=I1.list hq
 have hn:its.toArray.size=ys.length:=by rw[DT,rv.length]
 refine call_reversed_list pl.isList ?_
 refine Calls.spliced_nil ?_
 have hlt:l<s1.heap.objs.size:=by
  obtain⟨o,n,e1,_⟩:=pl
  exact Heap.lt_size e1
 have I2:Inv X pins σ H1 { s1 with heap:=s1.heap.push (revObj l ((its.toArray.size:Int)-1)) }:=I1.kept (t':=s1.toks) fun b o e=>Heap.get?_push_of_some _ e
 have hit:(s1.heap.push (revObj l ((its.toArray.size:Int)-1))).IsRevIter s1.heap.objs.size l ((its.toArray.size:Int)-1):=⟨_,Heap.get?_push_size _ rfl,rfl,rfl⟩
 refine qT (I.ok.hd hc) hit (pl.isList.push _) (DO hlt) (by rw[hn];exact hz) fun h' tk acc' c' hk hS hacc=>?_
 obtain⟨f0,f1,f2,f3,f4,f5⟩:=I1.fpOk (H':=H1) (DF _) (I1.hok.fresh (DF _))
 have I3:Inv X pins σ H1 { s1 with heap:=h',toks:=tk }:=I2.turned (t':=tk) (fun b o hb e=>hk b o hb e) f0 f1 f3 f4 f5
 have fS:=I2.fpOk (H':=H1) (DF _) (I2.hok.fresh (DF _))
 have I4:=I3.track (o:=.lst ys.reverse) fS ⟨by rw[GJ];exact hz,acc'.toList,c',y6 rv hacc,by rw[Array.toArray_toList];exact hS⟩
 exact⟨.ref _,_,I4,rfl,q _ fS.1⟩
end
end L2
namespace L2
open PySem PySem.Spec PyProof.Rows
section
variable{X:Cx}
end
end L2
namespace L2
open PySem PySem.Spec PyProof.Rows
theorem Inv.turnedL{X:Cx}{pins:List (Addr×Obj)}{σ:St}{H:Hp}{s:Shared}{h':Heap}{t':Nat}{fp:List Addr}(I:Inv X pins σ H s)(k:∀ b o,b∉fp->s.heap.get? b=some o->h'.get? b=some o)(hf:∀ b∈fp,FpOk X pins H b):Inv X pins σ H { s with heap:=h',toks:=t' }:=by
 have nit:∀ b u,H b=some u->b∉fp:=fun b u e z=>by rw[(hf b z).1]at e;cases e
 refine I.step (g':=s.gens) (d':=s.drawn) (ch:=fp) (fun b hb=>?_) (fun b o _ _ hc e _=>k b o hc e) (fun b o _ _ hc e _=>⟨o.slots,k b o hc e⟩) (fun _ _ _ _ n=>n)
  (fun b o hc e=>⟨o,k b o hc e⟩) (fun _ _ e=>e) (fun _ _ _ e=>e) (fun b ps e=>⟨#[],by rw[e];simp⟩) (fun m hm=>?_) (fun b u e=>?_) I.bare
 ·obtain⟨f0,f1,f2,f3,f4,f5⟩:=hf b hb
  exact⟨f3,f1,f4,f5⟩
 ·obtain⟨o,es,ep,ho,r⟩:=hm
  exact⟨o,es,ep,k _ o (fun z=>(hf _ z).2.1 rfl) ho,r⟩
 ·refine(I.hok b u e).stay (fun c v hc q=>k c v ?_ q) (fun _ q=>q) fun _ _ q=>q
  rcases hc with z | z
  ·rw[z];exact nit b u e
  ·exact nit c _ z
def Ite(K:DE)(a:Addr):It :=
 ⟨fun i H=>∃ xs x,SqL K H a xs/\xs[i]?=some x,fun i H v H'=>∃ T x,H T=none/\v=.ref T/\H'=upd H T (.tup [.int (i:Int),x])/\∀ xs,SqL K H a xs->xs[i]?=some x,fun i H=>∃ xs,SqL K H a xs/\xs.length<=i⟩
theorem vO{P:Program}{w:World}{K:DE}{es:List Expr}{k:Nat}{pos:Pos}(a e it:Addr)(hei:e≠it):Turn P w K (.Tuple es k pos) (Ite K a) [e,it] e (fun i h=>(∃ old,IsEnum h e it ((i:Nat):Int) old)/\h.IsListIter it a i) where
 mem:=by simp
 obj:=fun i h st b hb=>by
  obtain⟨⟨old,he⟩,o,e2,c,d⟩:=st
  rcases DI.mp hb with rfl | hb
  ·exact⟨_,he,fun v z=>by
    have z':Data.fields _=Data.cell v:=z
    cases z'⟩
  ·have e3:b=it:=by simpa using hb
   subst e3
   exact⟨o,e2,fun v z=>by rw[d]at z;cases z⟩
 keep:=fun i h h' st kk=>by
  obtain⟨⟨old,he⟩,hit⟩:=st
  exact⟨⟨old,kk e (by simp) _ he⟩,hit.at fun o q=>kk it (by simp) o q⟩
 item:=by
  intro X hP hw hK hc i pins s σ H E I hf st hg
  subst hP hw hK
  obtain⟨xs,x,hq,hx⟩:=hg
  obtain⟨its,rv,p,hz⟩:=I.list hq
  obtain⟨u,hu,ru⟩:=rv.get hx
  obtain⟨⟨old,he⟩,hit⟩:=st
  refine wpAny_pyNext_enum_item he hit p.isList (x:=u) (by simpa using hu) hei fun h' ho hit' hT hsz hk=>?_
  refine⟨_,rfl,?_⟩
  refine wpAny_letOwnedTupleGo_enum ho fun h2 he2 hs2=>?_
  have hs2':Heap.SameBut e h' h2:=hs2
  have hel:e<s.heap.objs.size:=Heap.lt_size he
  have hil:it<s.heap.objs.size:=by obtain⟨_,q,_⟩:=hit;exact Heap.lt_size q
  have hfr:H s.heap.objs.size=none:=I.hok.fresh (DF _)
  have I0:Inv X pins σ (upd H s.heap.objs.size (.tup [.int (i:Int),x])) { s with heap:=s.heap.push { cls:=.type "tuple",data:=.seq #[.int (i:Int) s.toks,u] },toks:=s.toks+1 } :=
   I.laid (t':=s.toks+1) (fun b u e=>Heap.get?_push_of_some _ e) (DF _) ⟨by show 2<=sizeLine;decide,[.int (i:Int) s.toks,u],.cons ⟨_,rfl⟩ (.cons ru .nil),⟨_,Heap.get?_push_size _ rfl,rfl,_,rfl⟩⟩
  have hfb:∀ b∈[e,it],b<s.heap.objs.size:=fun b hb=>by
   rcases DI.mp hb with rfl | hb
   ·exact hel
   ·have e3:b=it:=by simpa using hb
    rw[e3];exact hil
  have hn:∀ b∈[e,it],upd H s.heap.objs.size (.tup [.int (i:Int),x]) b=none:=fun b hb=>by
   rw[aj (DO (hfb b hb))]
   exact(hf b hb).1
  have I2:Inv X pins σ (upd H s.heap.objs.size (.tup [.int (i:Int),x])) { s with heap:=h2,toks:=s.toks+1 }:=Inv.turnedL (s:={ s with heap:=s.heap.push { cls:=.type "tuple",data:=.seq #[.int (i:Int) s.toks,u] },toks:=s.toks+1 }) (h':=h2) I0 (t':=s.toks+1) (fp:=[e,it]) (fun b o hb q=>by
   have nb:b≠e:=fun z=>hb (by simp[z])
   have nb2:b≠it:=fun z=>hb (by simp[z])
   refine(hs2'.2 b nb).trans ?_
   rcases Heap.get?_push_cases q with⟨z1,z2⟩ | q
   ·rw[z1,z2];exact hT
   ·exact hk b o nb nb2 q) fun b hb=>⟨hn b hb,(hf b hb).2⟩
  refine⟨.ref s.heap.objs.size,_,I2,rfl,⟨s.heap.objs.size,x,hfr,rfl,rfl,fun ys hy=>by rw[I.list_inj hy hq];exact hx⟩,?_,hn⟩
  refine⟨⟨u,?_⟩,hit'.at fun o q=>(hs2'.2 it (Ne.symm hei)).trans q⟩
  have e4:(((i+1:Nat):Nat):Int)=(i:Int)+1:=by omega
  rw[e4]
  exact he2
 done:=by
  intro X hP hw hK hc i pins s σ H E I hf st hg
  subst hP hw hK
  obtain⟨xs,hq,hx⟩:=hg
  obtain⟨its,rv,p,hz⟩:=I.list hq
  obtain⟨⟨old,he⟩,hit⟩:=st
  have hl:=rv.length
  obtain⟨f0,f1,f2,f3,f4,f5⟩:=hf it (by simp)
  exact wpAny_pyNext_enum_end (I.ok.hd hc) he hit p.isList (by simp;omega) fun h' eb=>⟨rfl,I.turned (t':=s.toks) (fun b o hb e=>eb b o hb e) f0 f1 f3 f4 f5⟩
 self:=fun _ _ _ _ _ st h=>by
  obtain⟨⟨old,he⟩,_⟩:=st
  exact wpAny_pyIter_enum he h
section
variable{X:Cx}
def iEnum(K:DE)(ta:TA):TI:=fun σ H R=>ta σ H fun vs H1=>∃ a,vs = [.ref a]/\(∃ xs,SqL K H1 a xs)/\R (Ite K a) H1
theorem qE{l:Expr}{ta:TA}{es:List Expr}{k:Nat}{tp p pos:Pos} (hg:Gl X "enumerate") (hm:X.mg "enumerate" = none) (ha:PA X [l] ta) (hs:starEach [l] X.env = [(false,eval l X.env)]:=by rfl) :
  PI X (.Tuple es k tp) (.Call (.Name "enumerate" p) [l] [] pos) (iEnum X.K ta):=by
 intro pins s σ H R I h
 refine Call_ (fj I hg hm pV (PyProof.Rows.callWith_type1 (thn (ha pos pins s σ H _ I h) fun us s1 ⟨vs,H1,I1,r1,q1⟩=>?_) hs rfl))
 obtain⟨a,e,⟨xs,hq⟩,q⟩:=q1
 subst e
 obtain⟨u,rfl,ru⟩:=jy r1
 cases ru
 obtain⟨its,rv,p,hz⟩:=I1.list hq
 refine call_enumerate_list p.isList fun h' he hit hsz hk=>?_
 refine wpAny_pyIter_enum he ?_
 refine⟨s1.heap.objs.size+1,[s1.heap.objs.size+1,s1.heap.objs.size],_,_,H1,rfl,I1.kept (t':=s1.toks) hk,vO a _ _ (Nat.succ_ne_self _),⟨⟨_,he⟩,hit⟩,fun b hb=>?_,q⟩
 have hb':s1.heap.objs.size<=b:=by
  rcases DI.mp hb with rfl | hb
  ·exact Fp _
  ·have e3:b=s1.heap.objs.size:=by simpa using hb
   rw[e3];exact DF _
 exact I1.fpOk hb' (I1.hok.fresh hb')
end
theorem Ap{K:DE}{a:Addr}{xs:List V}{g:TG}{tb:TS}{D:Ends}{σ:St}{H:Hp}(Pv:Nat->St->Hp->Prop)(h0:Pv 0 σ H)(hl:∀ i σ H,i<=xs.length->Pv i σ H->SqL K H a xs)
  (hs:∀ i x σ H T,xs[i]?=some x->Pv i σ H->H T=none->g (.ref T) σ (upd H T (.tup [.int (i:Int),x])) fun σ2 H2=>tb { D with nx:=Pv (i+1),ct:=Pv (i+1),bk:=D.nx } σ2 H2) (hd:∀ σ H,Pv xs.length σ H->D.nx σ H) :
  ∃ W:Nat->Nat->St->Hp->Prop,(∃ m,W 0 m σ H)/\∀ i m σ H,W i m σ H ->
   ((Ite K a).stop i H/\D.nx σ H)∨((Ite K a).go i H/\∃ N:St->Hp->Prop,(∀ σ' H',N σ' H'->∃ m',m'<m/\W (i+1) m' σ' H')/\∀ x H',(Ite K a).yld i H x H'->g x σ H' fun σ2 H2=>tb { D with nx:=N,ct:=N,bk:=D.nx } σ2 H2):=by
 refine⟨fun i m σ H=>m=xs.length-i/\i<=xs.length/\Pv i σ H,⟨xs.length,by simp,Eu _,h0⟩,?_⟩
 rintro i m σ H ⟨rfl,hi,p⟩
 have q:=hl i σ H hi p
 by_cases hlt:i<xs.length
 ·refine .inr ⟨⟨xs,xs[i],q,by simp[hlt]⟩,Pv (i+1),fun σ' H' p'=>⟨xs.length-(i+1),by omega,rfl,hlt,p'⟩,fun v H' y=>?_⟩
  obtain⟨T,x,hT,rfl,rfl,y⟩:=y
  exact hs i x σ _ T (y xs q) p hT
 ·have e:i=xs.length:=by omega
  subst e
  exact .inl ⟨⟨xs,q,DF _⟩,hd σ H p⟩
end L2
namespace L2
open PySem PySem.Spec PyProof.Rows
section
variable{X:Cx}
end
theorem rg{n j:Nat}(h:j<n):ixN n (j:Int)=some j:=by
 unfold ixN
 rw[if_pos (by omega),if_pos (by omega)]
 rfl
end L2
namespace L2
open PySem PySem.Spec PyProof.Rows
theorem iU:∀{ds:List PyData},(∀ d∈ds,d.canLay0=true)->PyData.canLayAll0 ds=true
 |[],_=>by simp[PyData.canLayAll0]
 |d::ds,h=>by
  rw[PyData.canLayAll0,h d (by simp),iU fun x hx=>h x (by simp[hx])]
  rfl
theorem ko{n:Nat}:∀{ds:List PyData},(∀ d∈ds,d.depth<=n)->PyData.depthAll ds<=n
 |[],_=>by simp[PyData.depthAll]
 |d::ds,h=>by
  have h1:=h d (by simp)
  have h2:=ko (ds:=ds) fun x hx=>h x (DM _ hx)
  rw[PyData.depthAll]
  omega
theorem qz{ds:List PyData}(h:∀ d∈ds,d.canLay0=true/\d.depth<=10):SeqAt.shaped (.list ds)=true:=by
 have h1:=iU fun d hd=>(h d hd).1
 have h2:=ko fun d hd=>(h d hd).2
 have h3:PyData.depth (.list ds)<=64:=by simp only[PyData.depth];omega
 show(PyData.canLay0 (.list ds)&&decide (PyData.depth (.list ds)<=64))=true
 rw[G9]
 exact⟨by simp only[PyData.canLay0];exact h1,decide_eq_true h3⟩
theorem flat3(i j k:Int):(PyData.tuple [.int i,.int j,.int k]).canLay0=true/\(PyData.tuple [.int i,.int j,.int k]).depth<=10:=by
 constructor
 ·simp[PyData.canLay0,PyData.canLayAll0]
 ·simp[PyData.depth,PyData.depthAll]
end L2
namespace L2
open PySem PySem.Spec PyProof.Rows
def cxG(X:Cx)(scope:Scope)(fr:List (Str×Nat))(xs:List Str)(C:Addr)(ex:List Addr)(s:Shared)(H:Hp):Cx where
 prog:=X.prog
 w:=X.w
 K:=X.K
 mg:=X.mg
 base:=X.base
 A:=X.A
 N:=xs++fr.map (·.1)
 s₀:=s
 H₀:=H
 env:=compEnvC scope (clOf X.env fr) C X.env
 outer:=X.stack
 stack:=X.stack
 ex:=ex
 fn:=fun _=>false
 calm:=X.calm
 pn:=[]
 xe:=fun _ _=>False
structure eQ(X:Cx)(scope:Scope)(fr:List (Str×Nat))(xs:List Str):Prop where
 clos:closureFor scope X.env=pure (clOf X.env fr)
 cell:∀ y∈scope.names,y.2≠.cell
 kind:scope.kind=.function
 names:∀ y∈scope.names,y.2=.local->scope.names.lookup y.1=some .local
 slot:∀ p∈fr,X.N[p.2]?=some p.1/\X.env.kindOf p.1=some .cell
 has:∀ y∈(relabel scope X.env).names,(y.2=.cell∨y.2=.free)->y.1∈fr.map (·.1)
 frk:∀ p∈fr,(relabel scope X.env).names.lookup p.1=some .cell
theorem eQ.of{X:Cx}{scope:Scope}{fr:List (Str×Nat)}{xs:List Str}(clos:closureFor scope X.env=pure (clOf X.env fr))(cell:∀ y∈scope.names,y.2≠.cell)(kind:scope.kind=.function)(names:∀ y∈scope.names,y.2=.local->scope.names.lookup y.1=some .local)
  (slot:∀ p∈fr,X.N[p.2]?=some p.1/\X.env.kindOf p.1=some .cell) (nf:∀ z∈scope.names,z.2=.free->z.1∈fr.map (·.1)) (frk:∀ p∈fr,(relabel scope X.env).names.lookup p.1=some .cell):eQ X scope fr xs where
 clos:=clos
 cell:=cell
 kind:=kind
 names:=names
 slot:=slot
 has:=fun z hz hk=>by
  obtain⟨⟨n,k⟩,hm,e⟩:=ED.mp (show z∈scope.names.map _ from hz)
  have h2:=cell _ hm
  dsimp only at e h2
  have hn:z.1=n:=by rw[← e];split<;>rfl
  have hf:k=.free:=by
   by_cases q:k=.free
   ·exact q
   ·have hb:(k == NameKind.free)=false:=by simpa using q
    rw[hb]at e
    simp only[GH,Ed,if_false]at e
    subst e
    exact(hk.elim h2 q).elim
  have:=nf _ hm hf
  rw[hn]
  exact this
 frk:=frk
abbrev nons(xs:List Str):St:=DJ xs.length none
section
variable{X:Cx}{pins:List (Addr×Obj)}{σ:St}{H:Hp}{s:Shared}{scope:Scope}{fr:List (Str×Nat)}{xs:List Str}
theorem eQ.cells(O:eQ X scope fr xs)(I:Inv X pins σ H s){y:Str}{c:Addr}(h:(clOf X.env fr).lookup y=some c):X.env.cells.lookup y=some c:=by
 obtain⟨hm,e⟩:=dj h
 obtain⟨p,hp,ep⟩:=ED.mp hm
 have k:=(O.slot p hp).2
 rw[ep]at k
 obtain⟨c',e'⟩:=I.ok.has y (.inl k)
 rw[e']at e
 rw[e',e]
 rfl
theorem xJ{fp:List Addr}(O:eQ X scope fr xs)(I:Inv X pins σ H s)(hf:∀ b∈fp,FpOk X pins H b)(hfs:∀ b∈fp,b<s.heap.objs.size){g h':Heap}{tk:Nat}(hg:g=s.heap.push (LCg.lst []))
  (hk:∀ b o,g.get? b=some o->h'.get? b=some o) (hC:h'.Ns g.objs.size fun _=>none) :
  Inv (cxG X scope fr xs g.objs.size (s.heap.objs.size::fp) { s with heap:=g } H) (X.pn++pins++[(s.heap.objs.size,LCg.lst [])]) (nons xs++frOf fr σ) H { s with heap:=h',toks:=tk }:=by
 have hsz:g.objs.size=s.heap.objs.size+1:=by rw[hg,Heap.size_push]
 have kp:∀ b o,s.heap.get? b=some o->g.get? b=some o:=fun b o e=>by rw[hg];exact Heap.get?_push_of_some _ e
 have hk0:∀ b o,s.heap.get? b=some o->h'.get? b=some o:=fun b o e=>hk b o (kp b o e)
 have hDo:h'.get? s.heap.objs.size=some (LCg.lst []):=hk _ _ (by rw[hg];exact Heap.get?_push_size _ rfl)
 have neC:∀ b,b<s.heap.objs.size->b≠g.objs.size:=fun b e=>by rw[hsz];exact DO (EX e)
 have hDC:s.heap.objs.size≠g.objs.size:=by rw[hsz];exact DO (EF _)
 have hfr:H g.objs.size=none:=I.hok.fresh (by rw[hsz];exact Fp _)
 have hfD:H s.heap.objs.size=none:=I.hok.fresh (DF _)
 have cne:∀ y c,X.env.cells.lookup y=some c->c<s.heap.objs.size:=fun y c e=>by
  obtain⟨v,q⟩:=I.cell y c e
  exact q.lt
 have nst:∀ b,b≠X.env.locals->b∉X.fs->b∉frs X.stack:=fun b h1 h2 z=>(DI.mp (I.stkSub b z)).elim h1 h2
 have nstD:s.heap.objs.size∉frs X.stack:=nst _ (EJ I.lt) (I.nofs (DF _))
 refine⟨⟨I.ok.mod,O.kind,I.ok.glob,I.ok.blt,DF _,?_,?_,fun _ _ z _=>(by cases z),I.ok.hd,I.ok.frames,.inl rfl,?_,?_,?_,?_,?_,?_,I.stkFree⟩,rfl,I.bare,Un.kept hk,?_,?_,hfr,?_,?_,I.hok.kept hk0,?_⟩
 ·intro y z c h1 h2
  exact I.ok.inj y z c (O.cells I h1) (O.cells I h2)
 ·intro y hy
  have hm:y∈fr.map (·.1):=by
   rcases hy with hy | hy
   ·exact O.has (y,_) (EU hy) (.inl rfl)
   ·exact O.has (y,_) (EU hy) (.inr rfl)
  exact⟨_,bz hm⟩
 ·intro b hb
  rcases DI.mp hb with rfl | hb
  ·exact⟨hDC,fun y c e=>DO (cne y c (O.cells I e))⟩
  ·exact⟨neC b (hfs b hb),fun y c e=>(hf b hb).2.2.2.2.1 y c (O.cells I e)⟩
 ·intro b o e
  exact⟨kp b o (I.bs b o e).1,(I.bs b o e).2⟩
 ·show X.base.objs.size<=g.objs.size
  rw[hsz]
  exact Gi (E7 I.ok.bsz I.sz)
 ·intro b o e hb
  rcases DI.mp hb with z | hb
  ·have:=Heap.lt_size (I.bs b o e).1
   rw[z]at this
   exact Ey _ this
  ·rcases(hf b hb).2.2.2.1 with z | z
   ·exact I.ok.noex b o e z
   ·exact absurd (Ei (Heap.lt_size (I.ok.bs b o e).1) z) (Ey _)
 ·intro b hb
  rcases DI.mp hb with z | hb
  ·rw[z];exact nstD
  ·exact nst b (hf b hb).2.1 (hf b hb).2.2.1
 ·exact(I.kept (h':=g) (t':=s.toks) kp).stack
 ·refine⟨_,hC,fun i y v e1 e2 e3=>?_⟩
  have e1a:(xs++fr.map (·.1))[i]?=some y:=e1
  by_cases hi:i<xs.length
  ·rw[Eh (by simpa using hi)]at e2
   rw[Fq,if_pos hi]at e2
   cases e2
  ·have e1':(fr.map (·.1))[i-xs.length]?=some y:=by
    rw[D5 (by omega)]at e1a
    exact e1a
   have e2':(frOf fr σ)[i-xs.length]?=some (some v):=by
    rw[D5 (by simp;omega)]at e2
    simpa using e2
   generalize i-xs.length=k at e1' e2'
   unfold frOf at e2'
   rw[DK]at e1' e2'
   cases q:fr[k]? with
   |none=>rw[q]at e1';cases e1'
   |some p =>
    rw[q]at e1' e2'
    have ey:p.1=y:=El e1'
    have ev:(σ[p.2]?).join=some v:=El e2'
    have hp:p∈fr:=DH q
    obtain⟨hN,hK⟩:=O.slot p hp
    have hkk:=O.frk p hp
    rw[ey]at hN hK hkk
    have ev':σ[p.2]?=some (some v):=by
     cases q2:σ[p.2]? with
     |none=>rw[q2]at ev;cases ev
     |some w=>rw[q2]at ev;exact congrArg some ev
    obtain⟨m,hn,hl⟩:=I.loc
    obtain⟨u,r,l⟩:=hl p.2 y v hN ev' (.inr (.inl hK))
    refine⟨u,r,?_⟩
    rcases l with⟨k1,_⟩ | ⟨_,c,ec,z⟩
    ·rw[hK]at k1;cases k1
    ·have hm:y∈fr.map (·.1):=by rw[← ey];exact ED.mpr ⟨p,hp,rfl⟩
     have el:=bz (env:=X.env) hm
     rw[ec]at el
     exact .inr ⟨.inl hkk,c,el,by obtain⟨o,ho,hd⟩:=z;exact⟨o,hk0 _ _ ho,hd⟩⟩
 ·intro y c e
  obtain⟨v,o,ho,hd⟩:=I.cell y c (O.cells I e)
  exact⟨v,o,hk0 _ _ ho,hd⟩
 ·intro y c e
  exact I.freeC y c (O.cells I e)
 ·intro p hp
  rcases DN.mp hp with hp | hp
  ·cases hp
  ·rcases DN.mp hp with hp | hp
   ·obtain⟨e,n,ne,nf,d⟩:=I.pin p hp
    exact⟨hk0 _ _ e,n,neC _ (Heap.lt_size e),nst _ ne nf,d⟩
   ·have ep:p=(s.heap.objs.size,LCg.lst []):=by simpa using hp
    subst ep
    exact⟨hDo,hfD,hDC,nstD,fun v z=>by cases z⟩
 ·show(nons xs++frOf fr σ).length=(xs++fr.map (·.1)).length
  unfold frOf
  simp
theorem nK{fp:List Addr}{g:Heap}{s':Shared}{H':Hp}{σ':St}{ys:List V}{us:List Value}(I:Inv X pins σ H s)(hf:∀ b∈fp,FpOk X pins H b)(hg:g=s.heap.push (LCg.lst []))
  (J:Inv (cxG X scope fr xs g.objs.size (s.heap.objs.size::fp) { s with heap:=g } H) (X.pn++pins++[(s.heap.objs.size,LCg.lst us)]) σ' H' s') (hv:Vals ys us) (hl:ys.length<=sizeLine) :
  Inv X pins σ (upd H' s.heap.objs.size (.lst ys)) s'/\H' s.heap.objs.size=none/\FpOk X pins (upd H' s.heap.objs.size (.lst ys)) g.objs.size/\∃ m,s'.heap.Ns g.objs.size m:=by
 have hsz:g.objs.size=s.heap.objs.size+1:=by rw[hg,Heap.size_push]
 have kp:∀ b o,s.heap.get? b=some o->g.get? b=some o:=fun b o e=>by rw[hg];exact Heap.get?_push_of_some _ e
 obtain⟨eD,nD,_,_,_⟩:=J.pin (s.heap.objs.size,LCg.lst us) (by simp)
 have hDC:g.objs.size≠s.heap.objs.size:=by rw[hsz];exact EJ (EF _)
 have nD':∀ b u,H' b=some u->b≠s.heap.objs.size:=fun b u e z=>by rw[z]at e;rw[e]at nD;cases nD
 have hx:∀ b o,s.heap.get? b=some o->b∉fp->b∉s.heap.objs.size::fp:=fun b o e hb z=>by
  rcases DI.mp z with z | z
  ·have:=Heap.lt_size e
   rw[z]at this
   exact Ey _ this
  ·exact hb z
 have bU:Un (frs X.stack) (s.heap.objs.size::fp) H H' g s'.heap:=J.base
 have ltD:∀ b o,s.heap.get? b=some o->b≠s.heap.objs.size:=fun b o e=>DO (Heap.lt_size e)
 have un:Un (frs X.stack) fp H (upd H' s.heap.objs.size (.lst ys)) s.heap s'.heap:=by
  refine⟨fun b o e n hb he=>bU.keep b o (kp b o e) n hb (hx b o e he),fun b o e n hb he=>bU.slot b o (kp b o e) n hb (hx b o e he),fun b o e n he=>?_,fun b o e he=>bU.there b o (kp b o e) (hx b o e he),fun b xs e=>?_,fun b o u e=>?_,fun b ps e=>?_⟩
  ·rw[aj (ltD b o e)];exact bU.free b o (kp b o e) n (hx b o e he)
  ·have q:=bU.tups b xs e
   rw[aj (nD' b _ q)];exact q
  ·have q:=bU.frzs b o u e
   rw[aj (nD' b _ q)];exact q
  ·obtain⟨more,q⟩:=bU.tbls b ps e
   exact⟨more,by rw[aj (nD' b _ q)];exact q⟩
 have hok:HOk X.prog X.w (upd H' s.heap.objs.size (.lst ys)) s'.heap:=fun b u e=>by
  by_cases hb:b=s.heap.objs.size
  ·rw[hb,ag]at e
   cases e
   rw[hb]
   exact⟨hl,us,us.length,hv,eD⟩
  ·rw[aj hb]at e
   exact(J.hok b u e).stay (fun c v _ q=>q) (fun c q=>by rw[aj (nD' c _ q)];exact q) fun c xs q=>by rw[aj (nD' c _ q)];exact q
 have os:s'.os=s.os:=J.os
 refine⟨I.call' os un hok J.bare fun b hb=>⟨(hf b hb).2.2.2.1,(hf b hb).2.1,(hf b hb).2.2.2.2⟩,nD,?_,?_⟩
 ·refine I.fpOk (H':=upd H' s.heap.objs.size (.lst ys)) (b:=g.objs.size) (by rw[hsz];exact Fp _) ?_
  rw[aj hDC]
  exact J.free
 ·obtain⟨m,hn,_⟩:=J.loc
  exact⟨m,hn⟩
end
def PTs(X:Cx)(ifs:List Expr)(t:TT):Prop :=
 ∀(pins:List (Addr×Obj))(s:Shared)(σ:St)(H:Hp)(Q:Bool->Hp->Prop),Inv X pins σ H s->t σ H Q ->
  wpAny (model X.prog X.w) X.A (forIn ifs true fun c r=>if r=true then do let ok ← isTrue c X.env (eval c X.env);pure (ForInStep.yield ok) else pure (ForInStep.yield r)) (fun b s'=>∃ H',Inv X pins σ H' s'/\Q b H') X.xe s
def tYes:TT:=fun _ H Q=>Q true H
theorem de{X:Cx}:PTs X [] tYes:=fun _ _ _ H _ I h=>wpAny_tests_nil ⟨H,I,h⟩
theorem Cd{X:Cx}{c:Expr}{t:TT}(h:PT X c t):PTs X [c] t:=fun pins s σ H Q I q=>wpAny_tests_one (h pins s σ H Q I q)
section
variable{prog:Program}{w:World}{A:Around}{s:Shared}
theorem yo{elt target iter:Expr}{ifs:List Expr}{scope:Scope}{pos:Pos}{it acc:Value}{env:Env}{R:Result->Shared->Prop}(I:Nat->Shared->Prop)
  (turn:∀ n s,I n s->wpAny (model prog w) A (pyNext it) (fun r s₁=>match r with
   |none=>R (.ok .next) s₁
   |some v=>wpAny (model prog w) A (letOwnedTupleGo target it v) (fun _ s₀=>wpAny (model prog w) A (assign target env v) (fun _ s₂ =>
     wpAny (model prog w) A (forIn ifs true fun c r=>if r=true then do let ok ← isTrue c env (eval c env);pure (ForInStep.yield ok) else pure (ForInStep.yield r)) (fun ok s₃=>if ok=true then wpAny (model prog w) A (eval elt env) (fun x s₄ =>
      wpAny (model prog w) A (call (.builtin "list.append") [acc,x]) (fun _ s₅=>∃ m,m<n/\I m s₅) (notedBy (model prog w) A env fun e s'=>R (.error e) s') s₄) (notedBy (model prog w) A env fun e s'=>R (.error e) s') s₃
      else ∃ m,m<n/\I m s₃) (notedBy (model prog w) A env fun e s'=>R (.error e) s') s₂)
     (notedBy (model prog w) A env fun e s'=>R (.error e) s') s₀) (notedBy (model prog w) A env fun e s'=>R (.error e) s') s₁) (notedBy (model prog w) A env fun e s'=>R (.error e) s') s)
  (n:Nat) (h:I n s):codeAny (model prog w) A (.compLoop (.ListComp elt [⟨target,iter,ifs,0⟩] scope pos) 0 it acc env) R s:=by
 refine codeAny_loop rfl I (fun n s hI=>?_) n h
 show wpAny _ A ((compTurn (.ListComp elt [⟨target,iter,ifs,0⟩] scope pos) 0 it acc env).onRaise (fun x=>do noteFrame x env;theTreesLotGoes x)) _ _ s
 refine wpAny_noted ?_
 rw[compTurn_list]
 refine wpAny_bind (wpAny_standAt (wpAny_bind (wpAny_mono (turn n s hI) (fun r s₁ h₁=>?_) fun _ _ h'=>h')))
 cases r with
 |none=>exact wpAny_pure h₁
 |some v =>
  refine wpAny_bind (wpAny_mono h₁ (fun _ s₀ h₀'=>?_) fun _ _ h'=>h')
  refine wpAny_bind (wpAny_mono h₀' (fun _ s₂ h₂=>?_) fun _ _ h'=>h')
  refine wpAny_bind (wpAny_mono h₂ (fun okb s₃ h₃=>?_) fun _ _ h'=>h')
  cases okb with
  |false=>exact wpAny_pure ⟨rfl,h₃⟩
  |true=>exact wpAny_bind (wpAny_bind (wpAny_mono h₃ (fun x s₄ h₄=>wpAny_bind (wpAny_mono h₄ (fun _ s₅ h₅=>wpAny_pure (wpAny_pure ⟨rfl,h₅⟩)) fun _ _ h'=>h')) fun _ _ h'=>h'))
end
def jB(g:TG)(tt:TT)(te:TE)(n:Nat)(fv:St)(J:It)(H1:Hp)(QQ:List V->Hp->Prop):Prop :=
 ∃ W:Nat->Nat->List V->Hp->Prop,(∃ m,W 0 m [] H1)/\∀ i m ys H,W i m ys H->ys.length<=sizeLine /\
  ((J.stop i H/\QQ ys H)∨(J.go i H/\∃ N:List V->Hp->Prop,(∀ zs H2,N zs H2->∃ m',m'<m/\W (i+1) m' zs H2) /\
   ∀ x H',J.yld i H x H'->g x (DJ n none++fv) H' fun σ2 H2=>σ2.drop n=fv/\tt σ2 H2 fun b H3=>if b=true then te σ2 H3 (fun y H4=>N (ys++[y]) H4) else N ys H3))
section
variable{X:Cx}{scope:Scope}{fr:List (Str×Nat)}{xs:List Str}{elt iter tg:Expr}{ifs:List Expr}{pos:Pos}{te:TE}{tt:TT}{tgt:TG}{wi:TI}
theorem mv{pins:List (Addr×Obj)}{σ:St}{H:Hp}{s:Shared}{E:Value->Shared->Prop}{it:Addr}{fp:List Addr}{tn:Nat->Heap->Prop}{J:It}{RR:Value->Addr->Result->Shared->Prop}{QQ:List V->Hp->Prop}(hc:X.calm=true)(O:eQ X scope fr xs)
  (hg0:∀ C ex s H,PG (cxG X scope fr xs C ex s H) tg tgt) (ht:∀ C ex s H,PTs (cxG X scope fr xs C ex s H) ifs tt) (he:∀ C ex s H,PE (cxG X scope fr xs C ex s H) elt te) (I:Inv X pins σ H s) (T:Turn X.prog X.w X.K tg J fp it tn) (st:tn 0 s.heap) (hf:∀ b∈fp,FpOk X pins H b) (hq:jB tgt tt te xs.length (frOf fr σ) J H QQ)
  (fin:∀ D C H4 ys s4 m,Inv X pins σ (upd H4 D (.lst ys)) s4->H4 D=none->FpOk X pins (upd H4 D (.lst ys)) C->s4.heap.Ns C m->QQ ys H4->RR (.ref D) C (.ok .next) s4) :
  wpAny (model X.prog X.w) X.A (newList []) (fun acc s₃=>wpAny (model X.prog X.w) X.A (newFunctionEnv scope X.env.globals (clOf X.env fr) [] X.env.qual none .none (some X.env)) (fun cenv s₄ =>
   codeAny (model X.prog X.w) X.A (.compStart (.ListComp elt [⟨tg,iter,ifs,0⟩] scope pos) 0 (.ref it) acc { cenv with scope:=relabel scope X.env }) (RR acc cenv.locals) s₄) E s₃) E s:=by
 obtain⟨W,⟨m0,w0⟩,turn⟩:=hq
 have hfs:∀ b∈fp,b<s.heap.objs.size:=fun b hb=>by
  obtain⟨o,e,_⟩:=T.obj 0 s.heap st b hb
  exact Heap.lt_size e
 refine wpAny_newObj_type (wpAny_newFunctionEnv O.cell (by intro y hy;simp at hy) (fun h₁ hns₁ hsb₁=>?_) O.kind)
 dsimp only at hns₁ hsb₁ ⊢
 generalize hH2:s.heap.push { cls:=.type "list",dict:=none,data:=.seq ([]:List Value).toArray }=g at hns₁ hsb₁ ⊢
 have hg:g=s.heap.push (LCg.lst []):=hH2.symm
 have hsz:g.objs.size=s.heap.objs.size+1:=by rw[hg,Heap.size_push]
 have hk:∀ b o,g.get? b=some o->h₁.get? b=some o:=fun b o e=>hsb₁.extBut b o (DO (Heap.lt_size e)) (Heap.get?_push_of_some _ e)
 have kp:∀ b o,s.heap.get? b=some o->h₁.get? b=some o:=fun b o e=>hk b o (by rw[hg];exact Heap.get?_push_of_some _ e)
 have J0:=xJ (h':=h₁) (tk:=s.toks+([]:List (Str×Value)).length) O I hf hfs hg hk hns₁
 have stat:∀{H':Hp}{us:List Value},(∀ b∈fp,H' b=none)->∀ b∈fp,FpOk (cxG X scope fr xs g.objs.size (s.heap.objs.size::fp) { s with heap:=g } H) (X.pn++pins++[(s.heap.objs.size,LCg.lst us)]) H' b:=fun{H' us} hn b hb=>by
  obtain⟨_,f1,f2,f3,f4,f5⟩:=hf b hb
  refine⟨hn b hb,?_,fun z=>(DI.mp (I.stkSub b z)).elim f1 f2,.inl (DM _ hb),fun y c e=>f4 y c (O.cells I e),fun p hp=>?_⟩
  ·show b≠g.objs.size
   rw[hsz];exact DO (EX (hfs b hb))
  ·rcases DN.mp hp with hp | hp
   ·cases hp
   ·rcases DN.mp hp with hp | hp
    ·exact f5 p hp
    ·have ep:p=(s.heap.objs.size,LCg.lst us):=by simpa using hp
     rw[ep]
     exact EJ (hfs b hb)
 have loop:codeAny (model X.prog X.w) X.A (.compLoop (.ListComp elt [⟨tg,iter,ifs,0⟩] scope pos) 0 (.ref it) (.ref s.heap.objs.size) (compEnvC scope (clOf X.env fr) g.objs.size X.env))
   (RR (.ref s.heap.objs.size) g.objs.size) { s with heap:=h₁,toks:=s.toks+([]:List (Str×Value)).length }:=by
  refine yo (fun n s'=>∃ i ys us H',Inv (cxG X scope fr xs g.objs.size (s.heap.objs.size::fp) { s with heap:=g } H) (X.pn++pins++[(s.heap.objs.size,LCg.lst us)]) (nons xs++frOf fr σ) H' s'/\Vals ys us/\tn i s'.heap/\(∀ b∈fp,H' b=none)/\W i n ys H') ?_ m0
   ⟨0,[],[],H,J0,.nil,T.keep 0 s.heap h₁ st fun b _ o e=>kp b o e,fun b hb=>(hf b hb).1,w0⟩
  rintro n s3 ⟨i,ys,us,H3,J3,hv,st3,fr3,w3⟩
  obtain⟨hlen,hh⟩:=turn i n ys H3 w3
  have none_err:∀{α:Type}{t:Sem α}{Q:α->Shared->Prop}{E':Value->Shared->Prop}{s:Shared},wpAny (model X.prog X.w) X.A t Q (fun _ _=>False) s->wpAny (model X.prog X.w) X.A t Q E' s:=fun h=>wpAny_mono h (fun _ _ q=>q) fun _ _ z=>z.elim
  have weakN:∀{σ6:St},σ6.length=(nons xs++frOf fr σ).length->σ6.drop xs.length=frOf fr σ->∀(i:Nat) v,(nons xs++frOf fr σ)[i]?=some (some v)->σ6[i]?=some (some v):=fun{σ6} hl6 e6 i v e=>by
   by_cases hi:i<xs.length
   ·rw[Eh (by simpa using hi),Fq,if_pos hi]at e
    cases e
   ·rw[D5 (by simp;omega),← e6,Fm]at e
    have:xs.length+(i-(nons xs).length)=i:=by simp;omega
    rw[this]at e
    exact e
  rcases hh with⟨stop,qn⟩ | ⟨go,N,hN,step⟩
  ·refine none_err (thn (T.done (cxG X scope fr xs g.objs.size (s.heap.objs.size::fp) { s with heap:=g } H) rfl rfl rfl hc i _ s3 _ H3 _ J3 (stat fr3) st3 stop) fun r s4 ⟨hr,J4⟩=>?_)
   subst hr
   obtain⟨I4,nD,fC,m,hn⟩:=nK I hf hg J4 hv hlen
   exact fin _ _ H3 ys s4 m I4 nD fC hn qn
  ·refine none_err (thn (T.item (cxG X scope fr xs g.objs.size (s.heap.objs.size::fp) { s with heap:=g } H) rfl rfl rfl hc i _ s3 _ H3 _ J3 (stat fr3) st3 go) fun r s4 ⟨u,hr,h4⟩=>?_)
   subst hr
   refine none_err (thn h4 fun _ s5 ⟨v,H5,J5,r5,y5,st5,fr5⟩=>?_)
   have J5':=J5.pinned (stat fr5) (T.obj _ _ st5)
   refine none_err (thn (hg0 _ _ _ _ _ s5 _ H5 v u _ J5' r5 (step v H5 y5)) fun _ s6 ⟨σ6,H6,J6,e6,q6⟩=>?_)
   refine none_err (thn (ht _ _ _ _ _ s6 σ6 H6 _ J6 q6) fun b s6' ⟨H6',J6',q6'⟩=>?_)
   have hl6:σ6.length=(nons xs++frOf fr σ).length:=J6.len.trans J3.len.symm
   cases b with
   |false =>
    rw[if_neg DW]at q6' ⊢
    obtain⟨m',hm,w7⟩:=hN ys H6' q6'
    have pinF:∀ b∈fp,∀ o,s5.heap.get? b=some o->s6'.heap.get? b=some o/\H6' b=none:=fun b hb o e=>by
     obtain⟨q1,q2,_⟩:=J6'.pin (b,o) (DQ _ (DQ _ (dN hb e)))
     exact⟨q1,q2⟩
    refine⟨m',hm,i+1,ys,us,H6',J6'.unpinned.weak (σ':=nons xs++frOf fr σ) hl6.symm (weakN hl6 e6),hv,T.keep _ _ _ st5 fun b hb o e=>(pinF b hb o e).1,fun b hb=>?_,w7⟩
    obtain⟨o,e,_⟩:=T.obj _ _ st5 b hb
    exact(pinF b hb o e).2
   |true =>
    rw[if_pos rfl]at q6' ⊢
    refine none_err (thn (he _ _ _ _ _ s6' _ H6' _ J6' q6') fun u7 s7 ⟨v7,H7,J7,r7,q7⟩=>?_)
    obtain⟨m',hm,w7⟩:=hN _ H7 q7
    obtain⟨eD,nD,dC,dF,dd⟩:=J7.pin (s.heap.objs.size,LCg.lst us) (DQ _ (EC _ (DQ _ (by simp))))
    have hvl:=hv.length
    refine append_at (hsz:=by show us.toArray.size<=sizeLine;rw[DT,← hvl];exact hlen) eD fun h8 hs8 hD8=>?_
    have pinD:∀ p∈X.pn++pins,p.1≠s.heap.objs.size:=fun p hp z=>by
     have:=Heap.lt_size (I.pin p hp).1
     rw[z]at this
     exact Ey _ this
    have J7a:Inv (cxG X scope fr xs g.objs.size (s.heap.objs.size::fp) { s with heap:=g } H) (X.pn++pins) _ H7 s7:=J7.pins_of fun p hp=>J7.pin p (DQ _ (EC _ (EC _ hp)))
    have J8:Inv (cxG X scope fr xs g.objs.size (s.heap.objs.size::fp) { s with heap:=g } H) (X.pn++pins) _ H7 { s7 with heap:=h8 }:=J7a.turned (t':=s7.toks) (fun b o hb e=>(hs8.2 b hb).trans e) nD dC (.inl DU) (fun y c e z=>by
     obtain⟨w',q⟩:=I.cell y c (O.cells I e)
     have:=q.lt
     rw[z]at this
     exact Ey _ this) (fun p hp=>(DN.mp hp).elim (fun z=>by cases z) (pinD p))
    have J9:Inv (cxG X scope fr xs g.objs.size (s.heap.objs.size::fp) { s with heap:=g } H) (X.pn++pins++[(s.heap.objs.size,LCg.lst (us++[u7]))]) _ H7 { s7 with heap:=h8 }:=J8.pins_of fun p hp=>by
     rcases DN.mp hp with hp | hp
     ·exact J8.pin p (DQ _ hp)
     ·have ep:p=(s.heap.objs.size,LCg.lst (us++[u7])):=by simpa using hp
      subst ep
      exact⟨hD8.trans (congrArg some (LCg.lst_snoc us u7)),nD,dC,dF,fun v z=>by cases z⟩
    have J10:=J9.weak (σ':=nons xs++frOf fr σ) hl6.symm (weakN hl6 e6)
    have pinF:∀ b∈fp,∀ o,s5.heap.get? b=some o->s7.heap.get? b=some o/\H7 b=none:=fun b hb o e=>by
     obtain⟨q1,q2,_⟩:=J7.pin (b,o) (DQ _ (DQ _ (dN hb e)))
     exact⟨q1,q2⟩
    refine⟨m',hm,i+1,ys++[v7],us++[u7],H7,J10,hv.append (.cons r7 .nil),T.keep _ _ _ st5 fun b hb o e=>(hs8.2 b (DO (hfs b hb))).trans (pinF b hb o e).1,fun b hb=>?_,w7⟩
    obtain⟨o,e,_⟩:=T.obj _ _ st5 b hb
    exact(pinF b hb o e).2
 exact codeAny_compStart_list loop (T.self X.A 0 _ _ _ (T.keep 0 s.heap h₁ st fun b _ o e=>kp b o e) loop)
def tCompE(wi:TI)(g:TG)(tt:TT)(te:TE)(n:Nat)(fr:List (Str×Nat)):TE:=fun σ H Q=>wi σ H fun J H1=>jB g tt te n (frOf fr σ) J H1 fun ys H2=>∀ D,H2 D=none->Q (.ref D) (upd H2 D (.lst ys))
theorem jf(hc:X.calm=true)(O:eQ X scope fr xs)(hi:PI X tg iter wi)(hg0:∀ C ex s H,PG (cxG X scope fr xs C ex s H) tg tgt)(ht:∀ C ex s H,PTs (cxG X scope fr xs C ex s H) ifs tt)(he:∀ C ex s H,PE (cxG X scope fr xs C ex s H) elt te)(hs:∀ x,foldedSetIterable iter X.env x=pure x:=by intro _;rfl) :
  PE X (.ListComp elt [⟨tg,iter,ifs,0⟩] scope pos) (tCompE wi tgt tt te xs.length fr):=by
 intro pins s σ H Q I h
 rw[eval_ListComp]
 refine wpAny_comprehension_free (use:=none) rfl hs O.clos O.kind O.names (thn (hi pins s σ H _ I h) fun xv s1 h1=>thn h1 fun itv s2 h2=>?_)
 obtain⟨it,fp,tn,J,H2,e,I2,T,st2,f2,q2⟩:=h2
 subst e
 refine mv (RR:=fun acc C=>compPost (model X.prog X.w) X.A X.xe none (EP X pins σ Q) acc C) hc O hg0 ht he I2 T st2 f2 q2 ?_
 intro D C H4 ys s4 m I4 nD fC hn q4
 refine⟨m,hn,fun h' hs'=>?_⟩
 obtain⟨g0,g1,g2,g3,g4,g5⟩:=fC
 exact⟨.ref D,_,I4.turned (t':=s4.toks) (fun b o hb e=>(hs'.2 b hb).trans e) g0 g1 g3 g4 g5,rfl,q4 D nD⟩
def vQ(i:Nat)(wi:TI)(g:TG)(tt:TT)(te:TE)(n:Nat)(fr:List (Str×Nat)):TS:=fun D σ H=>wi σ H fun J H1=>jB g tt te n (frOf fr σ) J H1 fun ys H2=>∀ a,H2 a=none->D.nx (σ.set i (some (.ref a))) (upd H2 a (.lst ys))
theorem bL{i:Nat}{y:Str}{py spos:Pos}(hc:X.calm=true)(hN:X.N.Nodup)(hi':X.N[i]?=some y)(hy:X.env.scope.names.lookup y=some .local)(O:eQ X scope fr xs)(hi:PI X tg iter wi)(hg0:∀ C ex s H,PG (cxG X scope fr xs C ex s H) tg tgt)(ht:∀ C ex s H,PTs (cxG X scope fr xs C ex s H) ifs tt)(he:∀ C ex s H,PE (cxG X scope fr xs C ex s H) elt te)
  (hsw:swapsWith (.ListComp elt [⟨tg,iter,ifs,0⟩] scope pos) (some (.Name y py)) spos.line X.env=pure true:=by rfl) (hs:∀ x,foldedSetIterable iter X.env x=pure x:=by intro _;rfl) :
  PS X (.Assign [.Name y py] (.ListComp elt [⟨tg,iter,ifs,0⟩] scope pos) spos) (vQ i wi tgt tt te xs.length fr):=by
 intro pins s σ H D I h
 rw[exec_Assign_Name_used _ _ _ _ hsw]
 refine wpAny_bind (wpAny_standAt (wpAny_bind ?_))
 show wpAny _ X.A (do let _ ← comprehension (.ListComp elt [⟨tg,iter,ifs,0⟩] scope pos) scope X.env _ (newList []) false (eval iter X.env) (some (assign (.Name y py) X.env))) _ _ s
 refine wpAny_bind (thn (wpAny_comprehension_free (use:=some (assign (.Name y py) X.env)) (Q:=fun _ s'=>SP X pins D .next s') rfl hs O.clos O.kind O.names (thn (hi pins s σ H _ I h) fun xv s1 h1=>thn h1 fun itv s2 h2=>?_)) fun _ s' hq=>wpAny_pure (wpAny_pure hq))
 obtain⟨it,fp,tn,J,H2,e,I2,T,st2,f2,q2⟩:=h2
 subst e
 refine mv (RR:=fun acc C=>compPost (model X.prog X.w) X.A X.xe (some (assign (.Name y py) X.env)) (fun _ s'=>SP X pins D .next s') acc C) hc O hg0 ht he I2 T st2 f2 q2 ?_
 intro a C H4 ys s4 m I4 nD fC hn q4
 obtain⟨g0,g1,g2,g3,g4,g5⟩:=fC
 obtain⟨oC,eC,hoC⟩:=LCg.ns_obj hn
 have I5:Inv X (pins++[(C,oC)]) σ (upd H4 a (.lst ys)) s4:=I4.pins_of fun p hp=>by
  rcases DN.mp hp with hp | hp
  ·exact I4.pin p (DQ _ hp)
  ·have ep:p=(C,oC):=by simpa using hp
   subst ep
   obtain⟨es,epp,hd,_⟩:=hoC
   exact⟨eC,g0,g1,g2,fun v z=>by rw[hd]at z;cases z⟩
 show wpAny _ X.A (assign (.Name y py) X.env (.ref a)) _ _ _
 refine wpAny_assign_Name (dX I5 hN hi' (.inl hy) (v:=.ref a) rfl (fun s6 I6=>?_) (.inr hy))
 obtain⟨e6,_⟩:=I6.pin (C,oC) (DQ _ (DQ _ (by simp)))
 refine⟨m,hoC.ns e6,fun h' hs'=>?_⟩
 exact⟨_,_,I6.unpinned.turned (t':=s6.toks) (fun b o hb e=>(hs'.2 b hb).trans e) g0 g1 g3 g4 g5,q4 a nD⟩
end
theorem cq{K:DE}{a:Addr}{xs:List V}{g:TG}{tt:TT}{te:TE}{n:Nat}{fv:St}{H1:Hp}{QQ:List V->Hp->Prop}(Pv:Nat->List V->Hp->Prop)(hz:xs.length<=sizeLine)(h0:Pv 0 [] H1)(hl:∀ i ys H,i<=xs.length->Pv i ys H->SqL K H a xs)
  (hs:∀ i x ys H,xs[i]?=some x->Pv i ys H->g x (DJ n none++fv) H fun σ2 H2=>σ2.drop n=fv/\tt σ2 H2 fun b H3=>if b=true then te σ2 H3 (fun y H4=>Pv (i+1) (ys++[y]) H4) else Pv (i+1) ys H3) (hd:∀ ys H,Pv xs.length ys H->QQ ys H) (hy:∀ i ys H,Pv i ys H->ys.length<=i)
  : jB g tt te n fv (Itl K a) H1 QQ:=by
 refine⟨fun i m ys H=>m=xs.length-i/\i<=xs.length/\Pv i ys H,⟨xs.length,by simp,Eu _,h0⟩,?_⟩
 rintro i m ys H ⟨rfl,hi,p⟩
 have q:=hl i ys H hi p
 have hyl:=hy i ys H p
 refine⟨by omega,?_⟩
 by_cases hlt:i<xs.length
 ·refine .inr ⟨⟨xs,xs[i],q,by simp[hlt]⟩,fun zs H2=>Pv (i+1) zs H2,fun zs H2 p2=>⟨xs.length-(i+1),by omega,rfl,hlt,p2⟩,fun x H' y=>?_⟩
  obtain⟨e,y⟩:=y
  subst e
  exact hs i x ys _ (y xs q) p
 ·have e:i=xs.length:=by omega
  subst e
  exact .inl ⟨⟨xs,q,DF _⟩,hd ys H p⟩
theorem rJ{lo:Int}{k:Nat}{g:TG}{tt:TT}{te:TE}{n:Nat}{fv:St}{H1:Hp}{QQ:List V->Hp->Prop}(Pv:Nat->List V->Hp->Prop)(hz:k<=sizeLine)(h0:Pv 0 [] H1)
  (hs:∀ i ys H,i<k->Pv i ys H->g (.int (lo+i)) (DJ n none++fv) H fun σ2 H2=>σ2.drop n=fv/\tt σ2 H2 fun b H3=>if b=true then te σ2 H3 (fun y H4=>Pv (i+1) (ys++[y]) H4) else Pv (i+1) ys H3) (hd:∀ ys H,Pv k ys H->QQ ys H) (hy:∀ i ys H,Pv i ys H->ys.length<=i)
  : jB g tt te n fv (Itr lo k) H1 QQ:=by
 refine⟨fun i m ys H=>m=k-i/\i<=k/\Pv i ys H,⟨k,by simp,Eu _,h0⟩,?_⟩
 rintro i m ys H ⟨rfl,hi,p⟩
 have hyl:=hy i ys H p
 refine⟨by omega,?_⟩
 by_cases hlt:i<k
 ·refine .inr ⟨hlt,fun zs H2=>Pv (i+1) zs H2,fun zs H2 p2=>⟨k-(i+1),by omega,rfl,hlt,p2⟩,fun x H' y=>?_⟩
  obtain⟨e,y⟩:=y
  subst e y
  exact hs i ys _ hlt p
 ·have e:i=k:=by omega
  subst e
  exact .inl ⟨DF _,hd ys H p⟩
theorem mw{K:DE}{a:Addr}{xs:List V}{g:TG}{tt:TT}{te:TE}{n:Nat}{fv:St}{H1:Hp}{QQ:List V->Hp->Prop}(Pv:Nat->List V->Hp->Prop)(hz:xs.length<=sizeLine)(h0:Pv 0 [] H1)(hl:∀ i ys H,i<=xs.length->Pv i ys H->SqL K H a xs)
  (hs:∀ i x ys H T,xs[i]?=some x->Pv i ys H->H T=none->g (.ref T) (DJ n none++fv) (upd H T (.tup [.int (i:Int),x])) fun σ2 H2=>σ2.drop n=fv/\tt σ2 H2 fun b H3=>if b=true then te σ2 H3 (fun y H4=>Pv (i+1) (ys++[y]) H4) else Pv (i+1) ys H3) (hd:∀ ys H,Pv xs.length ys H->QQ ys H) (hy:∀ i ys H,Pv i ys H->ys.length<=i)
  : jB g tt te n fv (Ite K a) H1 QQ:=by
 refine⟨fun i m ys H=>m=xs.length-i/\i<=xs.length/\Pv i ys H,⟨xs.length,by simp,Eu _,h0⟩,?_⟩
 rintro i m ys H ⟨rfl,hi,p⟩
 have q:=hl i ys H hi p
 have hyl:=hy i ys H p
 refine⟨by omega,?_⟩
 by_cases hlt:i<xs.length
 ·refine .inr ⟨⟨xs,xs[i],q,by simp[hlt]⟩,fun zs H2=>Pv (i+1) zs H2,fun zs H2 p2=>⟨xs.length-(i+1),by omega,rfl,hlt,p2⟩,fun v H' y=>?_⟩
  obtain⟨T,x,hT,rfl,rfl,y⟩:=y
  exact hs i x ys _ T (y xs q) p hT
 ·have e:i=xs.length:=by omega
  subst e
  exact .inl ⟨⟨xs,q,DF _⟩,hd ys H p⟩
end L2
namespace L2
open PySem PySem.Spec PyProof.Rows
section
variable{X:Cx}{K:DE}{pos:Pos}
theorem gZ(h:X.K=K):IxR X (rIxL K):=h▸aL
theorem iG(h:X.K=K):IxR X (rIxT K):=h▸cI
theorem jL{es:List Expr}{k:Nat}{t:TGs}{n:Nat}(hK:X.K=K)(hc:X.calm=true)(h:PGs X es t)(hn:(assignEach es X.env).length=n:=by rfl)(hst:(assignEach es X.env).findIdx? (·.1)=none:=by rfl):PG X (.Tuple es k pos) (gTup K n t):=hK▸sM hc h hn hst
end
end L2
namespace L2
open PySem PySem.Spec PyProof.Rows
section
variable{X:Cx}
def B2:V->List V->Hp->VK->Prop:=fun x vs H Q=>∃ l xs k y,x=.ref l/\vs = [.int k,y]/\H l=some (.lst xs)/\0<=k/\k<=xs.length/\xs.length<sizeLine/\Q .non (upd H l (.lst (xs.take k.toNat++y::xs.drop k.toNat)))
theorem w4:MtM X "list.insert" B2:=by
 intro pins s σ H x vs v us Q I rx rv h
 obtain⟨l,xs,k,y,rfl,rfl,hH,h0,hk,hz,q⟩:=h
 cases rx
 obtain⟨u1,u2,rfl,r1,r2⟩:=rv.two
 obtain⟨t,rfl⟩:=r1
 obtain⟨z,its,n,r,hl,e⟩:=I.lstM hH
 have hn:=mj
 have hfit:¬ (!Builtin.List.listFitsIndex k)=true:=by
  rw[fitsIndex_both (by omega) (by omega)]
  exact DW
 refine call_meets F.slot_list_insert ⟨_,e,rfl⟩ F.entry_list_insert (F.args_list_insert_3 _ _ _) (AutoListH.list_insert_list_int_val_1 l its.toArray n k t u2 hfit (by rw[DT];omega)) ⟨e,?_⟩
 refine⟨.non,_,I.lset (its':=its.take k.toNat++u2::its.drop k.toNat) hH e ?_ ((r.take _).append (.cons r2 (r.drop _))) ?_,rfl,q⟩
 ·dsimp only
  rw[if_neg (by omega),DT,Fo (by omega)]
  simp
  exact Er (by rw[Ek];omega)
 ·rw[DL,DZ,DY,Ek]
  omega
theorem jk:∀{ns:List Int}{us:List Value},Vals (ns.map V.int) us->IntsAre us ns
 |[],_,.nil=>.nil
 |n::ns,_,.cons r rr=>by
  obtain⟨t,rfl⟩:=r
  exact .cons n t (jk rr)
theorem AF(hc:X.calm=true):gG X (.builtin "sum") (fun xs H Q=>∃(p:Addr)(ns:List Int),xs = [.ref p]/\SqL X.K H p (ns.map V.int)/\Q (.int ns.sum) H):=by
 intro pins s σ H xs us Q I r h
 obtain⟨p,ns,rfl,hq,q⟩:=h
 obtain⟨u,rfl,ru⟩:=jy r
 cases ru
 obtain⟨its,rv,pl,hz⟩:=I.list hq
 have hi:=jk rv
 obtain⟨zs,e⟩:=hi.allInts.items
 have hns:(numsOf its)=ns:=hi.numsOf
 have hl:s.heap.IsList p (intItems zs):=by rw[← e];exact pl.isList
 refine sum_intListG (I.ok.hd hc) hl fun h' tk t' hk=>⟨.int ns.sum,H,I.kept (t':=tk) hk,⟨t',?_⟩,q⟩
 have h2:numsOf (intItems zs).toList=ns:=by rw[← e];exact hns
 rw[nums_intItems]at h2
 rw[preSum_eq,Er (by simp),← h2]
end
end L2
namespace L2
open PySem PySem.Spec PyProof.Rows
section
variable{X:Cx}
end
end L2
namespace L2
open PySem PySem.Spec PyProof.Rows
theorem vJ:∀{us:List Value}{ns:List Int},IntsAre us ns->Vals (ns.map V.int) us
 |_,_,.nil=>.nil
 |_,_,.cons _ t r=>.cons ⟨t,rfl⟩ (vJ r)
section
variable{X:Cx}
end
end L2
namespace L2
open PySem PySem.Spec PyProof.Rows
section
variable{X:Cx}{tg:Expr}
end
end L2
namespace L2
open PySem PySem.Spec PyProof.Rows
theorem tP:bootBuiltins "min" = some (.builtin "min"):=by decide +kernel
theorem Bu:bootBuiltins "max" = some (.builtin "max"):=by decide +kernel
section
variable{X:Cx}
def rCatS(K:DE):R2:=fun x y H Q=>∃ l b xs zs,x=.ref l/\y=.ref b/\SqL K H l xs/\SqL K H b zs/\xs.length+zs.length<=sizeLine/\∀ p,H p=none->Q (.ref p) (upd H p (.lst (xs++zs)))
theorem Cm:OpR X (binaryOp .Add) (rCatS X.K):=by
 intro pins s σ H x y v u Q I rx ry h
 obtain⟨l,b,xs,zs,rfl,rfl,hH,hB,hz,q⟩:=h
 cases rx
 cases ry
 obtain⟨its,r,pl,_⟩:=I.list hH
 obtain⟨its2,r2,pl2,_⟩:=I.list hB
 obtain⟨⟨cls,dd,data,sl⟩,ho,hc,n,hd⟩:=pl.isList
 obtain⟨⟨cls2,dd2,data2,sl2⟩,ho2,hc2,n2,hd2⟩:=pl2.isList
 simp only at hc hd hc2 hd2
 subst hc hd hc2 hd2
 have ea:its.toArray++its2.toArray=(its++its2).toArray:=by simp
 have e1:=r.length
 have e2:=r2.length
 refine concat_meets ⟨_,ho,rfl⟩ ⟨_,ho2,rfl⟩ noFill_list_add seq_list_add PySem.F.slot_list_add PySem.F.entry_list_add (PySem.F.args_list_add_2 _ _) (list_addW l b its.toArray its2.toArray n n2 dd dd2 sl sl2 (by rw[DT,DT];omega)) ⟨ho,ho2,?_⟩
 rw[ea]
 exact⟨.ref _,_,I.lnew (t':=s.toks) (r.append r2) (by rw[DL];omega),rfl,q _ I.fresh⟩
theorem sQ:∀{ns:List Int}{us:List Value},Vals (ns.map V.int) us->IntsAre us ns
 |[],_,.nil=>.nil
 |n::ns,_,.cons r rr=>by
  obtain⟨t,rfl⟩:=r
  exact .cons n t (sQ rr)
end
end L2
namespace L2
open PySem PySem.Spec PyProof.Rows
theorem bt_sum:bootBuiltins "sum" = some (.builtin "sum"):=by decide +kernel
theorem yesT{σ:St}{H:Hp}{A B:Hp->Prop}(h:A H):tYes σ H fun b H3=>if b=true then A H3 else B H3 :=
 show(if true=true then A H else B H) from iteT (B:=B H) h
theorem bt_zip:bootBuiltins "zip" = some (.type "zip"):=by decide +kernel
def Itz(K:DE)(a b:Addr):It :=
 ⟨fun i H=>∃ xs ys x y,SqL K H a xs/\SqL K H b ys/\xs[i]?=some x/\ys[i]?=some y,
  fun i H v H'=>∃ T x y,H T=none/\v=.ref T/\H'=upd H T (.tup [x,y])/\(∀ xs,SqL K H a xs->xs[i]?=some x)/\∀ ys,SqL K H b ys->ys[i]?=some y,
  fun i H=>∃ xs ys,SqL K H a xs/\SqL K H b ys/\(xs.length<=i∨ys.length<=i)⟩
theorem y8{P:Program}{w:World}{K:DE}{es:List Expr}{k:Nat}{pos:Pos}(a b z TI TO i1 i2:Addr)(D:ZipApart z TI TO i1 i2 a b):Turn P w K (.Tuple es k pos) (Itz K a b) [z,TI,TO,i1,i2] z
  (fun i h=>IsZip h z TI TO .none/\IsPair h TI (.ref i1) (.ref i2)/\(∃ u v,IsPair h TO u v)/\h.IsListIter i1 a i/\h.IsListIter i2 b i) where
 mem:=by simp
 obj:=fun i h st c hc=>by
  obtain⟨kz,kI,⟨u,v,kO⟩,⟨o1,q1,c1,d1⟩,⟨o2,q2,c2,d2⟩⟩:=st
  simp only[DI,D7,or_false]at hc
  rcases hc with rfl | rfl | rfl | rfl | rfl
  ·exact⟨_,kz,fun v z=>by have z':Data.fields _=Data.cell v:=z;cases z'⟩
  ·exact⟨_,kI,fun v z=>by have z':Data.seq _ _=Data.cell v:=z;cases z'⟩
  ·exact⟨_,kO,fun v z=>by have z':Data.seq _ _=Data.cell v:=z;cases z'⟩
  ·exact⟨o1,q1,fun v z=>by rw[d1]at z;cases z⟩
  ·exact⟨o2,q2,fun v z=>by rw[d2]at z;cases z⟩
 keep:=fun i h h' st kk=>by
  obtain⟨kz,kI,⟨u,v,kO⟩,k1,k2⟩:=st
  exact⟨kk _ (by simp) _ kz,kk _ (by simp) _ kI,⟨u,v,kk _ (by simp) _ kO⟩,k1.at fun o q=>kk i1 (by simp) o q,k2.at fun o q=>kk i2 (by simp) o q⟩
 item:=by
  intro X hP hw hK hc i pins s σ H E I hf st hg
  subst hP hw hK
  obtain⟨xs,ys,x,y,hq,hr,hx,hy⟩:=hg
  obtain⟨its,rv,p,hz⟩:=I.list hq
  obtain⟨its2,rv2,p2,hz2⟩:=I.list hr
  obtain⟨u,hu,ru⟩:=rv.get hx
  obtain⟨u2,hu2,ru2⟩:=rv2.get hy
  obtain⟨kz,kI,⟨o1,o2,kO⟩,k1,k2⟩:=st
  refine wpAny_pyNext_zip_item D kz kI kO k1 k2 p.isList p2.isList (x:=u) (y:=u2) (by simpa using hu) (by simpa using hu2) fun h' a1 a2 a3 a4 a5 a6 hk=>?_
  refine⟨_,rfl,?_⟩
  refine wpAny_letOwnedTupleGo_zip a1 fun h2 g1 hs2=>?_
  have hs2':Heap.SameBut z h' h2:=hs2
  have lz:z<s.heap.objs.size:=Heap.lt_size kz
  have lI:TI<s.heap.objs.size:=Heap.lt_size kI
  have lO:TO<s.heap.objs.size:=Heap.lt_size kO
  have l1:i1<s.heap.objs.size:=by obtain⟨_,q,_⟩:=k1;exact Heap.lt_size q
  have l2:i2<s.heap.objs.size:=by obtain⟨_,q,_⟩:=k2;exact Heap.lt_size q
  have hfr:H s.heap.objs.size=none:=I.hok.fresh (DF _)
  have I0:Inv X pins σ (upd H s.heap.objs.size (.tup [x,y])) { s with heap:=s.heap.push { cls:=.type "tuple",data:=.seq #[u,u2] },toks:=s.toks } :=
   I.laid (t':=s.toks) (fun b u e=>Heap.get?_push_of_some _ e) (DF _) ⟨by show 2<=sizeLine;decide,[u,u2],.cons ru (.cons ru2 .nil),⟨_,Heap.get?_push_size _ rfl,rfl,_,rfl⟩⟩
  have hfb:∀ c∈[z,TI,TO,i1,i2],c<s.heap.objs.size:=fun c hc=>by
   simp only[DI,D7,or_false]at hc
   rcases hc with rfl | rfl | rfl | rfl | rfl<;>assumption
  have hn:∀ c∈[z,TI,TO,i1,i2],upd H s.heap.objs.size (.tup [x,y]) c=none:=fun c hc=>by
   rw[aj (DO (hfb c hc))]
   exact(hf c hc).1
  have I2:Inv X pins σ (upd H s.heap.objs.size (.tup [x,y])) { s with heap:=h2,toks:=s.toks }:=Inv.turnedL (s:={ s with heap:=s.heap.push { cls:=.type "tuple",data:=.seq #[u,u2] },toks:=s.toks }) (h':=h2) I0 (t':=s.toks) (fp:=[z,TI,TO,i1,i2]) (fun c o hc q=>by
   have n1:c≠z:=fun e=>hc (by simp[e])
   have n3:c≠TO:=fun e=>hc (by simp[e])
   have n4:c≠i1:=fun e=>hc (by simp[e])
   have n5:c≠i2:=fun e=>hc (by simp[e])
   refine(hs2'.2 c n1).trans ?_
   rcases Heap.get?_push_cases q with⟨z1,z2⟩ | q
   ·rw[z1,z2];exact a5
   ·exact hk c o n1 n3 n4 n5 q) fun c hc=>⟨hn c hc,(hf c hc).2⟩
  refine⟨.ref s.heap.objs.size,_,I2,rfl,⟨s.heap.objs.size,x,y,hfr,rfl,rfl,fun zs h=>by rw[I.list_inj h hq];exact hx,fun zs h=>by rw[I.list_inj h hr];exact hy⟩,?_,hn⟩
  refine⟨g1,(hs2'.2 TI D.TIz).trans (hk _ _ D.TIz D.TITO D.TIi1 D.TIi2 kI),⟨_,_,(hs2'.2 TO D.TOz).trans a2⟩,a3.at fun o q=>(hs2'.2 i1 D.i1z).trans q,a4.at fun o q=>(hs2'.2 i2 D.i2z).trans q⟩
 done:=by
  intro X hP hw hK hc i pins s σ H E I hf st hg
  subst hP hw hK
  obtain⟨xs,ys,hq,hr,hx⟩:=hg
  obtain⟨its,rv,p,hz⟩:=I.list hq
  obtain⟨its2,rv2,p2,hz2⟩:=I.list hr
  obtain⟨kz,kI,⟨o1,o2,kO⟩,k1,k2⟩:=st
  have hl:=rv.length
  have hl2:=rv2.length
  refine wpAny_pyNext_zip_end (I.ok.hd hc) D kz kI kO k1 k2 p.isList p2.isList ?_ fun h' eb=>⟨rfl,Inv.turnedL I (t':=s.toks) (fun c o hc e=>eb c o (fun e=>hc (by simp[e])) (fun e=>hc (by simp[e])) (fun e=>hc (by simp[e])) (fun e=>hc (by simp[e])) e) hf⟩
  rcases hx with hx | hx
  ·exact .inl (by simp;omega)
  ·exact .inr (by simp;omega)
 self:=fun _ _ _ _ _ st h=>wpAny_pyIter_zip st.1 h
theorem b9(x y:Nat)(h:¬ x=y):@Ne Addr x y:=h
theorem vD(n a b:Nat)(ha:a<n)(hb:b<n):ZipApart (n+4) (n+2) (n+3) n (n+1) a b :=
 ⟨b9 _ _ (by omega),b9 _ _ (by omega),b9 _ _ (by omega),b9 _ _ (by omega),b9 _ _ (by omega),b9 _ _ (by omega),b9 _ _ (by omega),b9 _ _ (by omega),b9 _ _ (by omega),
  b9 _ _ (by omega),b9 _ _ (by omega),b9 _ _ (by omega),b9 _ _ (by omega),b9 _ _ (by omega),b9 _ _ (by omega),b9 _ _ (by omega),b9 _ _ (by omega),b9 _ _ (by omega)⟩
section
variable{X:Cx}
def iZip(K:DE)(ta:TA):TI:=fun σ H R=>ta σ H fun vs H1=>∃ a b,vs = [.ref a,.ref b]/\(∃ xs,SqL K H1 a xs)/\(∃ ys,SqL K H1 b ys)/\R (Itz K a b) H1
theorem Bd{l1 l2:Expr}{ta:TA}{es:List Expr}{k:Nat}{tp p pos:Pos} (hg:Gl X "zip") (hm:X.mg "zip" = none) (ha:PA X [l1,l2] ta) (hs:starEach [l1,l2] X.env=(false,eval l1 X.env)::starEach [l2] X.env:=by rfl) (hs2:(backTo pos (starEach [l2] X.env)).any (·.1)=false:=by rfl) :
  PI X (.Tuple es k tp) (.Call (.Name "zip" p) [l1,l2] [] pos) (iZip X.K ta):=by
 intro pins s σ H R I h
 refine Call_ (fj I hg hm bt_zip (PyProof.Rows.callWith_type1 (thn (ha pos pins s σ H _ I h) fun us s1 ⟨vs,H1,I1,r1,q1⟩=>?_) hs hs2))
 obtain⟨a,b,e,⟨xs,hq⟩,⟨ys,hr⟩,q⟩:=q1
 subst e
 obtain⟨u,u2,rfl,ru,ru2⟩:=tY r1
 cases ru
 cases ru2
 obtain⟨its,rv,p,hz⟩:=I1.list hq
 obtain⟨its2,rv2,p2,hz2⟩:=I1.list hr
 have la:a<s1.heap.objs.size:=by obtain⟨_,_,q,_⟩:=p;exact Heap.lt_size q
 have lb:b<s1.heap.objs.size:=by obtain⟨_,_,q,_⟩:=p2;exact Heap.lt_size q
 refine call_zip_2 p.isList p2.isList fun h' kz kI kO k1 k2 hsz hk=>?_
 refine wpAny_pyIter_zip kz ?_
 refine⟨s1.heap.objs.size+4,[s1.heap.objs.size+4,s1.heap.objs.size+2,s1.heap.objs.size+3,s1.heap.objs.size,s1.heap.objs.size+1],_,_,H1,rfl,I1.kept (t':=s1.toks) hk,
  y8 a b (s1.heap.objs.size+4) (s1.heap.objs.size+2) (s1.heap.objs.size+3) s1.heap.objs.size (s1.heap.objs.size+1) (vD _ a b la lb),⟨kz,kI,⟨_,_,kO⟩,k1,k2⟩,fun c hc=>?_,q⟩
 have hb':s1.heap.objs.size<=c:=by
  simp only[DI,D7,or_false]at hc
  rcases hc with rfl | rfl | rfl | rfl | rfl
  ·exact F3 _ _
  ·exact F3 _ _
  ·exact F3 _ _
  ·exact DF _
  ·exact F3 _ _
 exact I1.fpOk hb' (I1.hok.fresh hb')
end
theorem yp{K:DE}{a b:Addr}{xs zs:List V}{g:TG}{tt:TT}{te:TE}{n:Nat}{fv:St}{H1:Hp}{QQ:List V->Hp->Prop}(Pv:Nat->List V->Hp->Prop)(hz:xs.length<=sizeLine)(he:zs.length=xs.length)(h0:Pv 0 [] H1)(hl:∀ i ys H,i<=xs.length->Pv i ys H->SqL K H a xs/\SqL K H b zs)
  (hs:∀ i x z ys H T,xs[i]?=some x->zs[i]?=some z->Pv i ys H->H T=none->g (.ref T) (DJ n none++fv) (upd H T (.tup [x,z])) fun σ2 H2=>σ2.drop n=fv/\tt σ2 H2 fun b H3=>if b=true then te σ2 H3 (fun y H4=>Pv (i+1) (ys++[y]) H4) else Pv (i+1) ys H3) (hd:∀ ys H,Pv xs.length ys H->QQ ys H) (hy:∀ i ys H,Pv i ys H->ys.length<=i)
  : jB g tt te n fv (Itz K a b) H1 QQ:=by
 refine⟨fun i m ys H=>m=xs.length-i/\i<=xs.length/\Pv i ys H,⟨xs.length,by simp,Eu _,h0⟩,?_⟩
 rintro i m ys H ⟨rfl,hi,p⟩
 have q:=hl i ys H hi p
 have hyl:=hy i ys H p
 refine⟨by omega,?_⟩
 by_cases hlt:i<xs.length
 ·have hlz:i<zs.length:=by omega
  refine .inr ⟨⟨xs,zs,xs[i],zs[i],q.1,q.2,by simp[hlt],by simp[hlz]⟩,fun zs H2=>Pv (i+1) zs H2,fun zs H2 p2=>⟨xs.length-(i+1),by omega,rfl,hlt,p2⟩,fun v H' y=>?_⟩
  obtain⟨T,x,z,hT,rfl,rfl,y1,y2⟩:=y
  exact hs i x z ys _ T (y1 xs q.1) (y2 zs q.2) p hT
 ·have e:i=xs.length:=by omega
  subst e
  exact .inl ⟨⟨xs,zs,q.1,q.2,.inl (DF _)⟩,hd ys H p⟩
section
variable{X:Cx}
def rMinL(K:DE):List V->Hp->VK->Prop:=fun xs H Q=>∃(p:Addr)(ns:List Int),xs = [.ref p]/\SqL K H p (ns.map V.int)/\0<ns.length/\∀ m:Int,m∈ns->(∀ x∈ns,m<=x)->Q (.int m) H
theorem yw(hc:X.calm=true):gG X (.builtin "min") (rMinL X.K):=by
 intro pins s σ H xs us Q I r h
 obtain⟨p,ns,rfl,hq,hne,q⟩:=h
 obtain⟨u,rfl,ru⟩:=jy r
 cases ru
 obtain⟨its,rv,pl,hz⟩:=I.list hq
 have hi:=sQ rv
 obtain⟨zs,e⟩:=hi.allInts.items
 have hl:s.heap.IsList p (intItems zs):=by rw[← e];exact pl.isList
 have e1:ns=zs.toList.map (·.1):=by
  rw[← nums_intItems,← e]
  exact(show numsOf its.toArray.toList=ns from hi.numsOf).symm
 subst e1
 rw[DG,DX]at hne
 refine min_intList (I.ok.hd hc) hl hne fun v h' tk hv hk=>?_
 obtain⟨t,rfl⟩:=intItems_at hv
 obtain⟨h1,h2⟩:=argBest_lt (numAt zs) (zs.size-1)
 refine⟨.int _,H,I.kept (t':=tk) hk,⟨t,rfl⟩,q _ ?_ fun a ha=>?_⟩
 ·rw[numAt_eq];exact PySem.getD_mem (by rw[DG,DX];omega)
 ·obtain⟨j,hj,rfl⟩:=PySem.mem_getD ha
  rw[DG,DX]at hj
  rw[← numAt_eq];exact h2 j (by omega)
end
end L2
namespace L2
open PySem PySem.Spec PyProof.Rows
def LsAt{α:Type}(R:Hp->V->α->Prop)(H:Hp)(ys:List V)(xs:List α):Prop:=ys.length=xs.length/\∀(i:Nat)(x:α),xs[i]?=some x->∃ y,ys[i]?=some y/\R H y x
theorem LsAt.nil{α:Type}{R:Hp->V->α->Prop}{H:Hp}:LsAt R H [] []:=⟨rfl,fun i x e=>by simp at e⟩
theorem LsAt.imp{α:Type}{R R':Hp->V->α->Prop}{H H':Hp}{ys:List V}{xs:List α}(h:LsAt R H ys xs)(m:∀ y x,R H y x->R' H' y x):LsAt R' H' ys xs:=⟨h.1,fun i x e=>by
 obtain⟨y,a,b⟩:=h.2 i x e
 exact⟨y,a,m y x b⟩⟩
theorem LsAt.snoc{α:Type}{R:Hp->V->α->Prop}{H:Hp}{ys:List V}{xs:List α}{y:V}{x:α}(h:LsAt R H ys xs)(r:R H y x):LsAt R H (ys++[y]) (xs++[x]):=by
 refine⟨by rw[DL,DL,h.1];rfl,fun j k e=>?_⟩
 by_cases hj:j<xs.length
 ·rw[Eh hj]at e
  obtain⟨p,a1,a2⟩:=h.2 j k e
  exact⟨p,by rw[Eh (by rw[h.1];exact hj)];exact a1,a2⟩
 ·rw[D5 (by omega)]at e
  have hj2:j=xs.length:=by
   have:=(DC.mp e).1
   rw[Fl]at this
   omega
  subst hj2
  rw[E6]at e
  cases e
  exact⟨y,by rw[← h.1,D5 (DF _),E6];rfl,r⟩
theorem LsAt.get{α:Type}{R:Hp->V->α->Prop}{H:Hp}{ys:List V}{xs:List α}{i:Nat}{y:V}(h:LsAt R H ys xs)(e:ys[i]?=some y):∃ x,xs[i]?=some x/\R H y x:=by
 have hi:i<xs.length:=by rw[← h.1];exact(DC.mp e).1
 obtain⟨z,a,b⟩:=h.2 i _ (DB hi)
 rw[e]at a
 cases a
 exact⟨_,DB hi,b⟩
end L2
namespace L2
open PySem PySem.Spec PyProof.Rows
theorem vK:∀{ys:List V}{us:List Value},ys.length=us.length->(∀(i:Nat)(y:V)(u:Value),ys[i]?=some y->us[i]?=some u->RelV y u)->Vals ys us
 |[],[],_,_=>.nil
 |[],_::_,e,_=>by cases e
 |_::_,[],e,_=>by cases e
 |y::ys,u::us,e,h=>.cons (h 0 y u rfl rfl) (vK (G3 e) fun i y u a b=>h (i+1) y u a b)
section
variable{X:Cx}
theorem oS{e:Expr}{te:TE}{p p2 pos pos2:Pos}(hc:X.calm=true) (hg:Gl X "list") (hm:X.mg "list" = none) (hg2:Gl X "range") (hm2:X.mg "range" = none) (he:PE X e te)
  (h1:starEach [.Call (.Name "range" p2) [e] [] pos2] X.env = [(false,eval (.Call (.Name "range" p2) [e] [] pos2) X.env)]:=by rfl) (h2:starEach [e] X.env=(false,eval e X.env)::starEach [] X.env:=by rfl) :
  PE X (.Call (.Name "list" p) [.Call (.Name "range" p2) [e] [] pos2] [] pos) (fun σ H Q=>te σ H fun x H1=>∃ n:Nat,x=.int (n:Int)/\n<=1000/\∀ q,H1 q=none->Q (.ref q) (upd H1 q (.lst ((EA n).map fun(i:Nat)=>V.int ((i:Nat):Int))))):=by
 intro pins s σ H Q I h
 refine wpAny_Call_Name_kw (fj I hg hm nY ?_)
 refine PyProof.Rows.callWith_type1 ?_ h1 rfl
 rw[h1]
 refine Calls.spliced_cons ?_
 refine wpAny_Call_Name_kw (fj I hg2 hm2 boot_range ?_)
 refine PyProof.Rows.callWith_type1 ?_ h2 rfl
 rw[h2]
 refine Calls.spliced_cons (thn (he pins s σ H _ I h) fun u s1 ⟨x,H1,I1,r1,q1⟩=>?_)
 obtain⟨n,rfl,hn,q⟩:=q1
 obtain⟨t,rfl⟩:=r1
 refine Calls.spliced_nil ?_
 refine call_range_1 ?_
 refine Calls.spliced_nil ?_
 have I2:Inv X pins σ H1 { s1 with heap:=s1.heap.push { cls:=.type "range",data:=.fields #[.int 0 s1.toks,.int (n:Int) t,.int 1 (s1.toks+1)] },toks:=s1.toks+1+1 }:=I1.kept fun b o e=>Heap.get?_push_of_some _ e
 refine call_list_range (n:=n) (I.ok.hd hc) (IsRange.new ..) (small_one (by omega) (by omega) (by omega) (by omega)) (by rw[rangeSize_one];split<;>omega) (by omega) fun h' tk acc' c' hk hS hacc=>?_
 have I3:Inv X pins σ H1 { s1 with heap:=h',toks:=tk }:=I2.kept (t':=tk) fun b o e=>hk b o e
 have fS:=I2.fpOk (H':=H1) (DF _) (I2.hok.fresh (DF _))
 have hz:((EA n).map fun(i:Nat)=>V.int ((i:Nat):Int)).length<=sizeLine:=by
  rw[DG,EH]
  exact E7 hn (by decide)
 have hv:Vals ((EA n).map fun(i:Nat)=>V.int ((i:Nat):Int)) acc'.toList:=by
  refine vK (by rw[DG,EH,DX,hacc.1]) fun i y u a b=>?_
  rw[Et]at b
  obtain⟨tk',e⟩:=hacc.2 i u b
  rw[DK]at a
  obtain⟨j,a1,a2⟩:=Ec.mp a
  have hi:i<n:=by
   have:=(DC.mp a1).1
   rwa[EH]at this
  rw[List.getElem?_range hi]at a1
  cases a1
  subst a2
  subst e
  exact⟨tk',by rw[FO,Int.mul_one]⟩
 have I4:=I3.track (o:=.lst ((EA n).map fun(i:Nat)=>V.int ((i:Nat):Int))) fS ⟨hz,acc'.toList,c',hv,by rw[Array.toArray_toList];exact hS⟩
 exact⟨.ref _,_,I4,rfl,q _ fS.1⟩
end
section
variable{X:Cx}{tg:Expr}
end
section
variable{P:Program}{w:World}{K:DE}{mg:Str->Option Value}{base:Heap}
end
end L2
namespace PyProof.Rows
open PySem
local macro_rules | `(tactic| walk_at "gallop") => do
 let n:=Lean.mkIdent (Lean.mkPrivateNameCore `PySem.Builtin.List.W1All `PySem.Builtin.gallop)
 `(tactic| delta $n)
local macro_rules | `(tactic| walk_at "st") => `(tactic| try dsimp -zeta -zetaHave only)
local macro_rules | `(tactic| walk_at "l4") => `(tactic| (extract_lets -underBinder +onlyGivenNames a b; subst a b))
abbrev xP:Bool->Keyed->Array Keyed->Nat->Nat->Nat->StateT SortSt Sem (Option Nat):=sortPriv% PySem.Builtin.gallop
def IntP(p:Keyed):Prop:=∃ n t,p.1=.int n t
def ky(p:Keyed):Int:=numOf p.1
theorem aA{σ α:Type}{M:Model}{A:Around}{E:Value->Shared->Prop}{s:Shared}{c:Prop} [Decidable c] {a b:StateT σ Sem α} {Q:α->σ->Prop} {st:σ} (h:c) (q:wpS M A E s a Q st):wpS M A E s (if c then a else b) Q st:=by rw[if_pos h];exact q
theorem az{σ α:Type}{M:Model}{A:Around}{E:Value->Shared->Prop}{s:Shared}{c:Prop} [Decidable c] {a b:StateT σ Sem α} {Q:α->σ->Prop} {st:σ} (h:¬ c) (q:wpS M A E s b Q st):wpS M A E s (if c then a else b) Q st:=by rw[if_neg h];exact q
variable{prog:Program}{w:World}{A:Around}{E:Value->Shared->Prop}{s:Shared}
theorem mL{st:SortSt}{x y:Keyed}{Q:Option Bool->SortSt->Prop}(hk:kindOf st=oneType')(hx:IntP x)(hy:IntP y)(h:Q (some (decide (ky x<ky y))) st):wpS (model prog w) A E s ((sortPriv% PySem.Builtin.lt) x y) Q st:=by
 show wpS (model prog w) A E s (lt' x y) Q st
 obtain⟨n,t,hx⟩:=hx
 obtain⟨m,u,hy⟩:=hy
 rw[lt'_eq]
 refine wpS_bind (wpS_get ?_)
 unfold ky at h
 rw[hx,hy]at h
 rw[hk,keyLt'_oneType,hx,hy]
 refine wpS_bind (wpS_lift (wpAny_attempt (oneLt_int ⟨rfl,?_⟩)))
 exact wpS_pure h
theorem aE{st:SortSt}{arr:Array Keyed}{i:Nat}{p:Keyed}{Q:Keyed->SortSt->Prop}(hi:arr[i]?=some p)(h:Q p st):wpS (model prog w) A E s ((sortPriv% PySem.Builtin.elem) arr i) Q st:=by
 show wpS (model prog w) A E s (elem' arr i) Q st
 rw[elem'_eq,hi]
 exact wpS_pure h
theorem fy{st:SortSt}{left:Bool}{key:Keyed}{arr:Array Keyed}{base n hint:Nat}{Q:Option Nat->SortSt->Prop}(f:Nat->Bool)(hk:kindOf st=oneType')(hkey:IntP key)(hin:∀ i,i<n->∃ p,arr[base+i]?=some p/\IntP p/\f i=if left then decide (ky p<ky key) else !decide (ky key<ky p))
  (mono:∀ i j,i<=j->j<n->f j=true->f i=true) (hh:hint<n) (h:∀ k,k<=n->(∀ i,i<k->f i=true)->(∀ i,k<=i->i<n->f i=false)->Q (some k) st) :
  wpS (model prog w) A E s (xP left key arr base n hint) Q st:=by
 unfold xP
 walk_at "gallop"
 extract_lets -underBinder +onlyGivenNames beyond
 clear_value (eb:beyond=_)
 have hb:∀(i:Nat)(Q':Option Bool->SortSt->Prop),i<n->Q' (some (f i)) st->wpS (model prog w) A E s (beyond i) Q' st:=by
  intro i Q' hi q
  obtain⟨p,hp,ip,ef⟩:=hin i hi
  rw[eb]
  refine wpS_bind (aE hp ?_)
  rw[ef]at q
  cases left with
  |true=>exact mL hk ip hkey q
  |false=>exact wpS_bind (mL hk hkey ip (wpS_pure q))
 clear eb
 walk_at "l4"
 refine wpS_bind (hb hint _ hh ?_)
 walk_at "st"
 have nmono:∀ i j,i<=j->j<n->f i=false->f j=false:=fun i j hij hj e=>by
  cases z:f j with
  |false=>rfl
  |true=>rw[mono i j hij hj z]at e;cases e
 extract_lets -underBinder +onlyGivenNames jp
 clear_value (ej:jp=_)
 have hj:∀(u:Unit)(a0 a1 lo hi:Nat),lo<=hi->hi<=n->(∀ i,i<lo->f i=true)->(∀ i,hi<=i->i<n->f i=false)->wpS (model prog w) A E s (jp u a0 a1 lo hi) Q st:=by
  intro u a0 a1 lo hi h1 h2 h3 h4
  rw[ej]
  dsimp only
  refine wpS_bind (wpS_mono (wpS_forRange (I:=fun x c st'=>st'=st/\∃ l r,c=(none,l,r)/\l<=r/\r<=n/\r-l<=n-x/\(∀ i,i<l->f i=true)/\(∀ i,r<=i->i<n->f i=false))
   (Q:=fun c st'=>st'=st/\∃ l,c=(none,l,l)/\l<=n/\(∀ i,i<l->f i=true)/\(∀ i,l<=i->i<n->f i=false)) ?step ?fin ⟨rfl,lo,hi,rfl,h1,h2,by omega,h3,h4⟩) ?post)
  case post =>
   rintro c st' ⟨rfl,l,rfl,g1,g2,g3⟩
   exact wpS_pure (h l g1 g2 g3)
  case fin =>
   rintro c st' ⟨rfl,l,r,rfl,g1,g2,g3,g4,g5⟩
   have:l=r:=by omega
   subst this
   exact⟨rfl,l,rfl,g2,g4,g5⟩
  case step =>
   rintro x c st' _ hx ⟨rfl,l,r,rfl,g1,g2,g3,g4,g5⟩
   dsimp only
   by_cases z:l ≥ r
   ·refine aA z ?_
    have:l=r:=by omega
    subst this
    exact wpS_pure ⟨rfl,l,rfl,g2,g4,g5⟩
   ·refine az z ?_
    refine wpS_bind (hb _ _ (by omega) ?_)
    cases e:f (l+(r-l)/2) with
    |true=>exact wpS_pure ⟨rfl,_,r,rfl,by omega,g2,by omega,fun i hi=>mono i _ (by omega) (by omega) e,g5⟩
    |false=>exact wpS_pure ⟨rfl,l,_,rfl,by omega,by omega,by omega,g4,fun i h1 h2=>nmono _ i h1 h2 e⟩
 clear ej
 cases er:f hint with
 |true =>
  refine aA rfl ?_
  dsimp only
  refine wpS_bind (wpS_mono (wpS_forRange (I:=fun x c st'=>st'=st/\∃ l o,c=(none,l,o)/\l<o/\x+1<=o/\hint+l<n/\f (hint+l)=true)
   (Q:=fun c st'=>st'=st/\∃ l o,c=(none,l,o)/\l<o/\hint+l<n/\f (hint+l)=true/\(n-hint<=o∨f (hint+o)=false)) ?step ?fin ⟨rfl,0,1,rfl,by omega,by omega,by omega,er⟩) ?post)
  case post =>
   rintro c st' ⟨rfl,l,o,rfl,g1,g2,g3,g4⟩
   dsimp only
   refine hj _ _ _ _ _ (by omega) (by omega) (fun i hi=>mono i _ (by omega) g2 g3) fun i h1 h2=>?_
   rcases g4 with g4 | g4
   ·omega
   ·exact nmono (hint+o) i (by omega) h2 g4
  case fin =>
   rintro c st' ⟨rfl,l,o,rfl,g1,g2,g3,g4⟩
   exact⟨rfl,l,o,rfl,g1,g3,g4,.inl (by omega)⟩
  case step =>
   rintro x c st' _ hx ⟨rfl,l,o,rfl,g1,g2,g3,g4⟩
   dsimp only
   by_cases z:o ≥ n-hint
   ·refine aA z ?_
    exact wpS_pure ⟨rfl,l,o,rfl,g1,g3,g4,.inl z⟩
   ·refine az z ?_
    refine wpS_bind (hb _ _ (by omega) ?_)
    cases e:f (hint+o) with
    |true=>exact wpS_pure ⟨rfl,_,_,rfl,by omega,by omega,by omega,e⟩
    |false=>exact wpS_pure ⟨rfl,l,o,rfl,g1,g3,g4,.inr e⟩
 |false =>
  refine az DW ?_
  dsimp only
  refine wpS_bind (wpS_mono (wpS_forRange (I:=fun x c st'=>st'=st/\∃ l o,c=(none,l,o)/\l<o/\x+1<=o/\l<=hint/\f (hint-l)=false)
   (Q:=fun c st'=>st'=st/\∃ l o,c=(none,l,o)/\l<o/\l<=hint/\f (hint-l)=false/\(hint+1<=o∨f (hint-o)=true)) ?step ?fin ⟨rfl,0,1,rfl,by omega,by omega,by omega,er⟩) ?post)
  case post =>
   rintro c st' ⟨rfl,l,o,rfl,g1,g2,g3,g4⟩
   dsimp only
   refine hj _ _ _ _ _ (by omega) (by omega) (fun i hi=>?_) fun i h1 h2=>nmono _ i h1 h2 g3
   rcases g4 with g4 | g4
   ·omega
   ·exact mono i (hint-o) (by omega) (by omega) g4
  case fin =>
   rintro c st' ⟨rfl,l,o,rfl,g1,g2,g3,g4⟩
   exact⟨rfl,l,o,rfl,g1,g3,g4,.inl (by omega)⟩
  case step =>
   rintro x c st' _ hx ⟨rfl,l,o,rfl,g1,g2,g3,g4⟩
   dsimp only
   by_cases z:o ≥ hint+1
   ·refine aA z ?_
    exact wpS_pure ⟨rfl,l,o,rfl,g1,g3,g4,.inl z⟩
   ·refine az z ?_
    refine wpS_bind (hb _ _ (by omega) ?_)
    cases e:f (hint-o) with
    |true=>exact wpS_pure ⟨rfl,l,o,rfl,g1,g3,g4,.inr e⟩
    |false=>exact wpS_pure ⟨rfl,_,_,rfl,by omega,by omega,by omega,e⟩
def Upl(l:List Keyed):Prop:=l.Pairwise fun x y=>ky x<=ky y
structure LM(P R o:List Keyed)(i j:Nat):Prop where
 pm:o.Perm (P.take i++R.take j)
 up:Upl o
 la:∀ x∈o,∀ y∈P.drop i,ky x<=ky y
 lb:∀ x∈o,∀ y∈R.drop j,ky x<=ky y
theorem LM.swap{P R o:List Keyed}{i j:Nat}(h:LM P R o i j):LM R P o j i:=⟨h.pm.trans EY,h.up,h.lb,h.la⟩
theorem LM.a{P R o:List Keyed}{i j:Nat}(h:LM P R o i j)(u:Upl P)(k:Nat)(c:∀ x∈(P.drop i).take k,∀ y∈R.drop j,ky x<=ky y):LM P R (o++(P.drop i).take k) (i+k) j where
 pm:=by
  rw[F8,D9]
  refine(h.pm.append_right _).trans ?_
  rw[D9]
  exact EZ _ EY
 up:=EB.mpr ⟨h.up,(u.drop).take,fun x hx y hy=>h.la x hx y (ER hy)⟩
 la:=fun x hx y hy=>by
  rw[← FL]at hy
  rcases DN.mp hx with hx | hx
  ·exact h.la x hx y (EK hy)
  ·have z:Upl ((P.drop i).take k++(P.drop i).drop k):=by rw[D8];exact u.drop
   exact(EB.mp z).2.2 x hx y hy
 lb:=fun x hx y hy=>by
  rcases DN.mp hx with hx | hx
  ·exact h.lb x hx y hy
  ·exact c x hx y hy
theorem LM.fin{P R o:List Keyed}{i j:Nat}(h:LM P R o i j)(u:Upl P)(v:Upl R)(c:∀ x∈P.drop i,∀ y∈R.drop j,ky x<=ky y):(o++P.drop i++R.drop j).Perm (P++R)/\Upl (o++P.drop i++R.drop j):=by
 constructor
 ·refine((h.pm.append_right _).append_right _).trans ?_
  have e:P++R=(P.take i++P.drop i)++(R.take j++R.drop j):=by rw[D8,D8]
  rw[e,← D9]
  refine List.Perm.append_right _ ?_
  rw[D9,D9]
  exact EZ _ EY
 ·refine EB.mpr ⟨EB.mpr ⟨h.up,u.drop,h.la⟩,v.drop,fun x hx y hy=>?_⟩
  rcases DN.mp hx with hx | hx
  ·exact h.lb x hx y hy
  ·exact c x hx y hy
end PyProof.Rows
namespace PyProof.Rows
open PySem
local macro_rules | `(tactic| walk_at "setG") => do
 let n:=Lean.mkIdent (Lean.mkPrivateNameCore `PySem.Builtin.List.W1All `PySem.Builtin.setMinGallop)
 `(tactic| delta $n)
local macro_rules | `(tactic| walk_at "mergeLo") => do
 let n:=Lean.mkIdent (Lean.mkPrivateNameCore `PySem.Builtin.List.W1All `PySem.Builtin.mergeLo)
 `(tactic| delta $n)
local macro_rules | `(tactic| walk_at "st") => `(tactic| try dsimp -zeta -zetaHave only)
local macro_rules | `(tactic| walk_at "l3") => `(tactic| (extract_lets -underBinder +onlyGivenNames a b c; subst a b c))
local macro_rules | `(tactic| walk_at "l11") => `(tactic| (extract_lets -underBinder +onlyGivenNames a b c d e f g h i j k; subst a b c d e f g h i j k; dsimp -zeta -zetaHave only))
variable{prog:Program}{w:World}{A:Around}{E:Value->Shared->Prop}{s:Shared}
structure SmG(st st':SortSt):Prop where
 k:kindOf st'=kindOf st
 a:arrOf st'=arrOf st
 p:pendingOf st'=pendingOf st
 f:failedOf st'=failedOf st
theorem SmG.rfl'(st:SortSt):SmG st st:=⟨rfl,rfl,rfl,rfl⟩
theorem SmG.trans{a b c:SortSt}(h:SmG a b)(g:SmG b c):SmG a c:=⟨g.k.trans h.k,g.a.trans h.a,g.p.trans h.p,g.f.trans h.f⟩
theorem ja{st:SortSt}{g:Nat}{Q:Unit->SortSt->Prop}(h:∀ st',SmG st st'->Q () st'):wpS (model prog w) A E s ((sortPriv% PySem.Builtin.setMinGallop) g) Q st:=by
 walk_at "setG"
 exact wpS_modify (h _ ⟨rfl,rfl,rfl,rfl⟩)
theorem fk(a:Array Keyed)(i:Nat):(a.extract i).toList=a.toList.drop i:=by
 rw[F6,FK]
 exact Er (by rw[Ek];exact DF _)
theorem ju(a:Array Keyed)(i k:Nat):(a.extract i (i+k)).toList=(a.toList.drop i).take k:=by
 rw[F6,FK]
 congr 1
 omega
theorem dD{P:List Keyed}{i:Nat}{x:Keyed}(h:P[i]?=some x):(P.drop i).take 1 = [x]:=by
 have hi:=(DC.mp h).1
 rw[Fn hi]
 rw[DB hi]at h
 cases h
 rfl
theorem LM.a1{P R o:List Keyed}{i j:Nat}{x:Keyed}(h:LM P R o i j)(u:Upl P)(hx:P[i]?=some x)(c:∀ y∈R.drop j,ky x<=ky y):LM P R (o++[x]) (i+1) j:=by
 have:=h.a u 1 (by rw[dD hx];intro z hz;rw[DP.mp hz];exact c)
 rwa[dD hx]at this
theorem fX{P:List Keyed}{i:Nat}{x:Keyed}(u:Upl P)(hx:P[i]?=some x):∀ y∈P.drop i,ky x<=ky y:=by
 have hi:=(DC.mp hx).1
 have z:Upl (P.drop i):=u.drop
 rw[Fn hi]at z ⊢
 rw[DB hi]at hx
 cases hx
 intro y hy
 rcases DI.mp hy with rfl | hy
 ·exact EL _
 ·exact(List.pairwise_cons.mp z).1 y hy
theorem xb{P:List Keyed}{i k:Nat}{x:Keyed}(h:x∈(P.drop i).take k):∃ m,m<k/\P[i+m]?=some x:=by
 obtain⟨m,hm,e⟩:=EN h
 rw[DY,Ek]at hm
 refine⟨m,by omega,?_⟩
 rw[FV,GW]at e
 rw[DB (by omega),e]
theorem vM{P:List Keyed}{i j:Nat}{x y:Keyed}(u:Upl P)(hx:P[i]?=some x)(hy:P[j]?=some y)(h:i<=j):ky x<=ky y:=fX u hx y (by
 have hj:=(DC.mp hy).1
 refine DH (i:=j-i) ?_
 rw[Fm,show i+(j-i)=j by omega,hy])
theorem xf{P:List Keyed}{i:Nat}{x:Keyed}(h:x∈P.drop i):∃ m,P[i+m]?=some x:=by
 obtain⟨m,hm⟩:=List.getElem?_of_mem h
 exact⟨m,by rw[← hm,Fm]⟩
def fR(P:List Keyed)(i:Nat)(v:Keyed)(m:Nat):Bool:=match P[i+m]? with | some p=>!decide (ky v<ky p) | none=>false
def fL(P:List Keyed)(i:Nat)(v:Keyed)(m:Nat):Bool:=match P[i+m]? with | some p=>decide (ky p<ky v) | none=>false
theorem km{P:List Keyed}{i m:Nat}{v p:Keyed}(h:P[i+m]?=some p):fR P i v m = !decide (ky v<ky p):=by unfold fR;rw[h]
theorem lM{P:List Keyed}{i m:Nat}{v p:Keyed}(h:P[i+m]?=some p):fL P i v m=decide (ky p<ky v):=by unfold fL;rw[h]
theorem Dc{P:List Keyed}{i:Nat}{v:Keyed}(u:Upl P){n:Nat}(hn:i+n<=P.length):∀ x y,x<=y->y<n->fR P i v y=true->fR P i v x=true:=fun x y hxy hy e=>by
 have hx:P[i+x]?=some P[i+x]:=DB (by omega)
 have hy':P[i+y]?=some P[i+y]:=DB (by omega)
 rw[km hy']at e
 rw[km hx]
 have:=vM u hx hy' (by omega)
 simp only[FX,decide_eq_false_iff_not]at e ⊢
 omega
theorem De{P:List Keyed}{i:Nat}{v:Keyed}(u:Upl P){n:Nat}(hn:i+n<=P.length):∀ x y,x<=y->y<n->fL P i v y=true->fL P i v x=true:=fun x y hxy hy e=>by
 have hx:P[i+x]?=some P[i+x]:=DB (by omega)
 have hy':P[i+y]?=some P[i+y]:=DB (by omega)
 rw[lM hy']at e
 rw[lM hx]
 have:=vM u hx hy' (by omega)
 simp only[decide_eq_true_eq]at e ⊢
 omega
theorem Dd{P:List Keyed}{i k:Nat}{v:Keyed}(h:∀ m,m<k->fR P i v m=true):∀ x∈(P.drop i).take k,ky x<=ky v:=fun x hx=>by
 obtain⟨m,hm,e⟩:=xb hx
 have:=h m hm
 rw[km e]at this
 simp only[FX,decide_eq_false_iff_not]at this
 omega
theorem Df{P:List Keyed}{i k:Nat}{v:Keyed}(h:∀ m,m<k->fL P i v m=true):∀ x∈(P.drop i).take k,ky x<ky v:=fun x hx=>by
 obtain⟨m,hm,e⟩:=xb hx
 have:=h m hm
 rw[lM e]at this
 simpa using this
theorem fR_hi{P:List Keyed}{i k n:Nat}{v:Keyed}(hn:P.length<=i+n)(h:∀ m,k<=m->m<n->fR P i v m=false):∀ y∈P.drop (i+k),ky v<ky y:=fun y hy=>by
 obtain⟨m,e⟩:=xf hy
 have hl:=(DC.mp e).1
 have:=h (k+m) (by omega) (by omega)
 rw[km (show P[i+(k+m)]?=some y by rw[← Nat.add_assoc];exact e)]at this
 simpa using this
theorem fL_hi{P:List Keyed}{i k n:Nat}{v:Keyed}(hn:P.length<=i+n)(h:∀ m,k<=m->m<n->fL P i v m=false):∀ y∈P.drop (i+k),ky v<=ky y:=fun y hy=>by
 obtain⟨m,e⟩:=xf hy
 have hl:=(DC.mp e).1
 have:=h (k+m) (by omega) (by omega)
 rw[lM (show P[i+(k+m)]?=some y by rw[← Nat.add_assoc];exact e)]at this
 simp only[decide_eq_false_iff_not]at this
 omega
theorem rZ{st:SortSt}{key:Keyed}{arr:Array Keyed}{base n hint:Nat}{Q:Option Nat->SortSt->Prop}(hk:kindOf st=oneType')(hkey:IntP key)(u:Upl arr.toList)(ip:∀ x∈arr.toList,IntP x)(hn:base+n<=arr.size)(hh:hint<n)
  (h:∀ k,k<=n->(∀ i,i<k->fR arr.toList base key i=true)->(∀ i,k<=i->i<n->fR arr.toList base key i=false)->Q (some k) st):wpS (model prog w) A E s ((sortPriv% PySem.Builtin.gallop) false key arr base n hint) Q st :=
 have la:arr.toList.length=arr.size:=by simp
 fy (fR arr.toList base key) hk hkey (fun i hi=>by
  have hx:arr.toList[base+i]?=some arr.toList[base+i]:=DB (by omega)
  exact⟨_,by rw[← hx];simp,ip _ (Ew _),by rw[km hx];rfl⟩) (Dc u (by omega)) hh h
theorem r6{st:SortSt}{key:Keyed}{arr:Array Keyed}{base n hint:Nat}{Q:Option Nat->SortSt->Prop}(hk:kindOf st=oneType')(hkey:IntP key)(u:Upl arr.toList)(ip:∀ x∈arr.toList,IntP x)(hn:base+n<=arr.size)(hh:hint<n)
  (h:∀ k,k<=n->(∀ i,i<k->fL arr.toList base key i=true)->(∀ i,k<=i->i<n->fL arr.toList base key i=false)->Q (some k) st):wpS (model prog w) A E s ((sortPriv% PySem.Builtin.gallop) true key arr base n hint) Q st :=
 have la:arr.toList.length=arr.size:=by simp
 fy (fL arr.toList base key) hk hkey (fun i hi=>by
  have hx:arr.toList[base+i]?=some arr.toList[base+i]:=DB (by omega)
  exact⟨_,by rw[← hx];simp,ip _ (Ew _),by rw[lM hx];rfl⟩) (De u (by omega)) hh h
theorem Bl{σ α β:Type}{M:Model}{c:Prop} [Decidable c] {F:α->StateT σ Sem β} {x y:α} {Q:β->σ->Prop} {st:σ} (h:∀ z,wpS M A E s (F z) Q st):wpS M A E s (if c then F x else F y) Q st:=by
 split<;>exact h _
theorem qp{σ α:Type}{M:Model}{m:StateT σ Sem α}{Q:α->σ->Prop}{st:σ}(h:∀ R:α->σ->Prop,(∀ a st',Q a st'->R a st')->wpS M A E s m R st):wpS M A E s m Q st:=h Q fun _ _ q=>q
def sS:Array Keyed->Array Keyed->StateT SortSt Sem (Array Keyed):=sortPriv% PySem.Builtin.mergeLo
theorem at_l{a:Array Keyed}{i:Nat}{x:Keyed}(h:a.toList[i]?=some x):a[i]?=some x:=by rw[← h];simp
theorem qk{st:SortSt}{a b:Array Keyed}{Q:Array Keyed->SortSt->Prop}(hk:kindOf st=oneType')(ua:Upl a.toList)(ub:Upl b.toList)(ia:∀ x∈a.toList,IntP x)(ib:∀ x∈b.toList,IntP x)(a1:1<=a.size)(b1:1<=b.size)
  (h0:∀ x y:Keyed,b.toList[0]?=some x->y∈a.toList->ky x<=ky y) (hst:∀ x y:Keyed,x∈b.toList->a.toList[a.size-1]?=some y->ky x<ky y)
  (h:∀ R st',SmG st st'->R.toList.Perm (a.toList++b.toList)->Upl R.toList->Q R st'):wpS (model prog w) A E s (sS a b) Q st:=by
 unfold sS
 walk_at "mergeLo"
 have la:a.toList.length=a.size:=by simp
 have lb:b.toList.length=b.size:=by simp
 have atA:∀ i,i<a.size->∃ x,a.toList[i]?=some x/\IntP x:=fun i hi=>⟨_,DB (by omega),ia _ (Ew _)⟩
 have atB:∀ i,i<b.size->∃ x,b.toList[i]?=some x/\IntP x:=fun i hi=>⟨_,DB (by omega),ib _ (Ew _)⟩
 have dn:∀(o:Array Keyed)(i j:Nat)(st':SortSt),SmG st st'->LM a.toList b.toList o.toList i j->j=b.size->Q (o++a.extract i++b.extract j) st':=by
  intro o i j st' sg lm e
  have nb:b.toList.drop j = []:=Gs (by omega)
  obtain⟨g1,g2⟩:=lm.fin ua ub (by rw[nb];intro x _ y hy;cases hy)
  refine h _ st' sg ?_ ?_
  ·rw[Ef,Ef,fk,fk];exact g1
  ·rw[Ef,Ef,fk,fk];exact g2
 have ls:∀(o:Array Keyed)(i j:Nat)(st':SortSt),SmG st st'->LM a.toList b.toList o.toList i j->i+1=a.size->Q (o++b.extract j++a.extract i) st':=by
  intro o i j st' sg lm e
  obtain⟨z,hz,_⟩:=atA i (by omega)
  have na:a.toList.drop i = [z]:=by
   rw[← dD hz]
   exact(Er (by rw[Ek];omega)).symm
  obtain⟨g1,g2⟩:=lm.swap.fin ub ua (by
   rw[na]
   intro x hx y hy
   rw[DP.mp hy]
   exact Fd (hst x z (EK hx) (by rw[← e];exact hz)))
  refine h _ st' sg ?_ ?_
  ·rw[Ef,Ef,fk,fk];exact g1.trans EY
  ·rw[Ef,Ef,fk,fk];exact g2
 refine wpS_bind (wpS_lift (wpAny_rule ⟨rfl,?_⟩))
 obtain⟨y0,hy0,iy0⟩:=atB 0 (by omega)
 walk_at "l3"
 refine wpS_bind (aE (at_l hy0) ?_)
 have m0:LM a.toList b.toList [y0] 0 1:=⟨by rw[GG,List.nil_append,← dD hy0];exact List.Perm.refl _,Hx ..,fun x hx y hy=>by rw[DP.mp hx];exact h0 y0 y hy0 hy,fun x hx y hy=>by
  rw[DP.mp hx]
  exact fX ub hy0 y (EK hy)⟩
 by_cases c1:(1 == b.size)=true
 ·refine aA c1 ?_
  exact wpS_pure (dn _ _ _ _ (SmG.rfl' _) m0 (by simpa using c1))
 refine az c1 ?_
 have c1':1≠b.size:=by simpa using c1
 by_cases c2:(0+1 == a.size)=true
 ·refine aA c2 ?_
  exact wpS_pure (ls _ _ _ _ (SmG.rfl' _) m0 (by simpa using c2))
 refine az c2 ?_
 have c2':0+1≠a.size:=by simpa using c2
 refine wpS_bind (wpS_get ?_)
 refine wpS_bind (wpS_mono (wpS_forRange (I:=fun x c st'=>SmG st st'/\∃(o:Array Keyed)(i j g:Nat),c=(none,o,i,j,g)/\LM a.toList b.toList o.toList i j/\i+1<a.size/\j<b.size/\x+1<=i+j)
  (Q:=fun c st'=>∃(r:Array Keyed)(z:Array Keyed×Nat×Nat×Nat),c=(some r,z)/\Q r st') ?step ?fin ⟨SmG.rfl' _,_,_,_,_,rfl,m0,by omega,by omega,by omega⟩) ?post)
 case post =>
  rintro c st' ⟨r,z,rfl,q⟩
  exact wpS_pure q
 case fin =>
  rintro c st' ⟨sg,o,i,j,g,rfl,lm,g1,g2,g3⟩
  omega
 case step =>
  rintro x c st1 _ hx ⟨sg1,o,i,j,g,rfl,lm,g1,g2,g3⟩
  refine wpS_bind (wpS_mono (wpS_forRange (I:=fun y c st'=>SmG st st'/\∃(o:Array Keyed)(i j ac bc:Nat),c=(none,o,i,j,ac,bc)/\LM a.toList b.toList o.toList i j/\i+1<a.size/\j<b.size/\x+1+y<=i+j)
   (Q:=fun c st'=>(∃(r:Array Keyed)(z:Array Keyed×Nat×Nat×Nat×Nat),c=(some r,z)/\Q r st')∨SmG st st'/\∃(o:Array Keyed)(i j ac bc:Nat),c=(none,o,i,j,ac,bc)/\LM a.toList b.toList o.toList i j/\i+1<a.size/\j<b.size/\x+2<=i+j) ?istep ?ifin ⟨sg1,o,i,j,0,0,rfl,lm,g1,g2,by omega⟩) ?ipost)
  case ifin =>
   rintro c st' ⟨sg,o,i,j,ac,bc,rfl,lm,g1,g2,g3⟩
   exact .inr ⟨sg,o,i,j,ac,bc,rfl,lm,g1,g2,by omega⟩
  case istep =>
   rintro y c st2 _ hy ⟨sg2,o,i,j,ac,bc,rfl,lm,g1,g2,g3⟩
   obtain⟨vb,hvb,ivb⟩:=atB j g2
   obtain⟨va,hva,iva⟩:=atA i (by omega)
   dsimp only
   refine wpS_bind (aE (at_l hvb) (wpS_bind (aE (at_l hva) (wpS_bind (mL (sg2.k.trans hk) ivb iva ?_)))))
   by_cases c:ky vb<ky va
   ·rw[decide_eq_true c]
    dsimp only
    refine aA rfl ?_
    refine wpS_bind (aE (at_l hvb) ?_)
    have m2:LM a.toList b.toList (o.push vb).toList i (j+1):=by
     rw[E8]
     exact(lm.swap.a1 ub hvb fun z hz=>by have:=fX ua hva z hz;omega).swap
    by_cases d1:(j+1 == b.size)=true
    ·refine aA d1 ?_
     exact wpS_pure (.inl ⟨_,_,rfl,dn _ _ _ _ sg2 m2 (by simpa using d1)⟩)
    ·refine az d1 ?_
     have d1':j+1≠b.size:=by simpa using d1
     split
     ·exact wpS_pure (.inr ⟨sg2,_,_,_,_,_,rfl,m2,g1,by omega,by omega⟩)
     ·exact wpS_pure ⟨sg2,_,_,_,_,_,rfl,m2,g1,by omega,by omega⟩
   ·rw[decide_eq_false c]
    dsimp only
    refine az DW ?_
    refine wpS_bind (aE (at_l hva) ?_)
    have m2:LM a.toList b.toList (o.push va).toList (i+1) j:=by
     rw[E8]
     exact lm.a1 ua hva fun z hz=>by have:=fX ub hvb z hz;omega
    by_cases d1:(i+1+1 == a.size)=true
    ·refine aA d1 ?_
     exact wpS_pure (.inl ⟨_,_,rfl,ls _ _ _ _ sg2 m2 (by simpa using d1)⟩)
    ·refine az d1 ?_
     have d1':i+1+1≠a.size:=by simpa using d1
     split
     ·exact wpS_pure (.inr ⟨sg2,_,_,_,_,_,rfl,m2,by omega,g2,by omega⟩)
     ·exact wpS_pure ⟨sg2,_,_,_,_,_,rfl,m2,by omega,g2,by omega⟩
  case ipost =>
   rintro c st2 (⟨r,z,rfl,q⟩ | ⟨sg2,o,i,j,ac,bc,rfl,lm,g1,g2,g3⟩)
   ·exact wpS_pure ⟨_,_,rfl,q⟩
   dsimp -zeta -zetaHave only
   refine wpS_bind (wpS_lift (wpAny_rule ⟨rfl,?_⟩))
   refine wpS_bind (wpS_mono (wpS_forRange (I:=fun y c st'=>SmG st st'/\∃(o:Array Keyed)(i j g ac bc:Nat),c=(none,o,i,j,g,ac,bc)/\LM a.toList b.toList o.toList i j/\i+1<a.size/\j<b.size/\x+2<=i+j)
    (Q:=fun c st'=>(∃(r:Array Keyed)(z:Array Keyed×Nat×Nat×Nat×Nat×Nat),c=(some r,z)/\Q r st')∨SmG st st'/\∃(o:Array Keyed)(i j g ac bc:Nat),c=(none,o,i,j,g,ac,bc)/\LM a.toList b.toList o.toList i j/\i+1<a.size/\j<b.size/\x+2<=i+j) ?jstep ?jfin ⟨sg2,o,i,j,_,ac,bc,rfl,lm,g1,g2,g3⟩) ?jpost)
   case jfin=>exact fun c st' q=>.inr q
   case jpost =>
    rintro c st3 (⟨r,z,rfl,q⟩ | ⟨sg3,o,i,j,g,ac,bc,rfl,lm,g1,g2,g3⟩)
    ·exact wpS_pure ⟨_,_,rfl,q⟩
    dsimp only
    exact wpS_bind (ja fun st4 sg4=>wpS_pure ⟨sg3.trans sg4,_,_,_,_,rfl,lm,g1,g2,by omega⟩)
   case jstep =>
    rintro y c st3 _ hy ⟨sg3,o,i,j,g,ac,bc,rfl,lm,g1,g2,g3⟩
    walk_at "st"
    walk_at "l11"
    extract_lets -underBinder +onlyGivenNames jp
    clear_value (ej:jp=_)
    refine qp fun R hR=>?_
    refine Bl (F:=fun z=>jp () z) fun g'=>?_
    rw[ej]
    clear ej jp
    walk_at "st"
    refine wpS_bind (ja fun st4 sg4=>?_)
    have sg34:=sg3.trans sg4
    have k4:=sg34.k.trans hk
    obtain⟨vb,hvb,ivb⟩:=atB j g2
    refine wpS_bind (aE (at_l hvb) ?_)
    refine wpS_bind (rZ k4 ivb ua ia (by omega) (by omega) fun k kn kt kf=>?_)
    walk_at "st"
    extract_lets -underBinder +onlyGivenNames ac jp
    subst ac
    clear_value (ej:jp=_)
    have vbl:=fX ub hvb
    have hlo:=Dd kt
    have hhi:=fR_hi (by omega) kf
    have hj:∀(o':Array Keyed)(i':Nat),LM a.toList b.toList o'.toList i' j->i'+1<a.size->(∀ y∈a.toList.drop i',ky vb<=ky y)->x+2<=i'+j->wpS (model prog w) A E s (jp () o' i') R st4:=by
     intro o' i' lm' g1' gv g3'
     rw[ej]
     clear ej jp
     walk_at "st"
     refine wpS_bind (aE (at_l hvb) ?_)
     have m2:LM a.toList b.toList (o'.push vb).toList i' (j+1):=by
      rw[E8]
      exact(lm'.swap.a1 ub hvb gv).swap
     by_cases d1:(j+1 == b.size)=true
     ·refine aA d1 ?_
      exact wpS_pure (hR _ _ (.inl ⟨_,_,rfl,dn _ _ _ _ sg34 m2 (by simpa using d1)⟩))
     refine az d1 ?_
     have d1':j+1≠b.size:=by simpa using d1
     obtain⟨va,hva,iva⟩:=atA i' (by omega)
     have val:=fX ua hva
     refine wpS_bind (aE (at_l hva) ?_)
     refine wpS_bind (r6 k4 iva ub ib (by omega) (by omega) fun k2 kn2 kt2 kf2=>?_)
     walk_at "st"
     extract_lets -underBinder +onlyGivenNames ac jp
     subst ac
     clear_value (ej:jp=_)
     have hlo2:=Df kt2
     have hhi2:=fL_hi (by omega) kf2
     have hj:∀(o':Array Keyed)(j':Nat),LM a.toList b.toList o'.toList i' j'->j'<b.size->(∀ y∈b.toList.drop j',ky va<=ky y)->x+2<=i'+j'->wpS (model prog w) A E s (jp () o' j') R st4:=by
      intro o' j' lm2 g2' gv' g3''
      rw[ej]
      clear ej jp
      walk_at "st"
      refine wpS_bind (aE (at_l hva) ?_)
      have m3:LM a.toList b.toList (o'.push va).toList (i'+1) j':=by
       rw[E8]
       exact lm2.a1 ua hva gv'
      by_cases d2:(i'+1+1 == a.size)=true
      ·refine aA d2 ?_
       exact wpS_pure (hR _ _ (.inl ⟨_,_,rfl,ls _ _ _ _ sg34 m3 (by simpa using d2)⟩))
      refine az d2 ?_
      have d2':i'+1+1≠a.size:=by simpa using d2
      split
      ·exact wpS_pure (hR _ _ (.inr ⟨sg34,_,_,_,_,_,_,rfl,m3,by omega,g2',by omega⟩))
      ·exact wpS_pure (hR _ _ ⟨sg34,_,_,_,_,_,_,rfl,m3,by omega,g2',by omega⟩)
     clear ej
     by_cases z2:k2 > 0
     ·refine aA z2 ?_
      have m3:LM a.toList b.toList (o'.push vb++b.extract (j+1) (j+1+k2)).toList i' (j+1+k2):=by
       rw[Ef,ju]
       exact(m2.swap.a ub k2 fun x hx y hy=>by have:=hlo2 x hx;have:=val y hy;omega).swap
      by_cases d2:(j+1+k2 == b.size)=true
      ·refine aA d2 ?_
       exact wpS_pure (hR _ _ (.inl ⟨_,_,rfl,dn _ _ _ _ sg34 m3 (by simpa using d2)⟩))
      refine az d2 ?_
      have d2':j+1+k2≠b.size:=by simpa using d2
      exact hj _ _ m3 (by omega) hhi2 (by omega)
     ·refine az z2 ?_
      have:k2=0:=by omega
      subst this
      exact hj _ _ m2 (by omega) hhi2 (by omega)
    clear ej
    by_cases z:k > 0
    ·refine aA z ?_
     have m2:LM a.toList b.toList (o++a.extract i (i+k)).toList (i+k) j:=by
      rw[Ef,ju]
      exact lm.a ua k fun x hx y hy=>by have:=hlo x hx;have:=vbl y hy;omega
     by_cases d1:(i+k+1 == a.size)=true
     ·refine aA d1 ?_
      exact wpS_pure (hR _ _ (.inl ⟨_,_,rfl,ls _ _ _ _ sg34 m2 (by simpa using d1)⟩))
     refine az d1 ?_
     have d1':i+k+1≠a.size:=by simpa using d1
     by_cases d2:(i+k == a.size)=true
     ·exfalso
      have d2':i+k=a.size:=by simpa using d2
      obtain⟨vl,hvl,_⟩:=atA (a.size-1) (by omega)
      have h1:=kt (a.size-1-i) (by omega)
      rw[km (show a.toList[i+(a.size-1-i)]?=some vl by rw[show i+(a.size-1-i)=a.size-1 by omega];exact hvl)]at h1
      have h2:=hst vb vl (DH hvb) hvl
      simp only[FX,decide_eq_false_iff_not]at h1
      omega
     refine az d2 ?_
     have d2':i+k≠a.size:=by simpa using d2
     exact hj _ _ m2 (by omega) (fun y hy=>Fd (hhi y hy)) (by omega)
    ·refine az z ?_
     have:k=0:=by omega
     subst this
     exact hj _ _ lm g1 (fun y hy=>Fd (hhi y hy)) (by omega)
end PyProof.Rows
namespace PyProof.Rows
open PySem
local macro_rules | `(tactic| walk_at "mergeHi") => do
 let n:=Lean.mkIdent (Lean.mkPrivateNameCore `PySem.Builtin.List.W1All `PySem.Builtin.mergeHi)
 `(tactic| delta $n)
local macro_rules | `(tactic| walk_at "st") => `(tactic| try dsimp -zeta -zetaHave only)
local macro_rules | `(tactic| walk_at "l3") => `(tactic| (extract_lets -underBinder +onlyGivenNames a b c; subst a b c))
local macro_rules | `(tactic| walk_at "l11") => `(tactic| (extract_lets -underBinder +onlyGivenNames a b c d e f g h i j k; subst a b c d e f g h i j k; dsimp -zeta -zetaHave only))
variable{prog:Program}{w:World}{A:Around}{E:Value->Shared->Prop}{s:Shared}
structure LH(P R o:List Keyed)(i j:Nat):Prop where
 pm:o.Perm (P.drop i++R.drop j)
 up:Upl o
 la:∀ x∈P.take i,∀ y∈o,ky x<=ky y
 lb:∀ x∈R.take j,∀ y∈o,ky x<=ky y
theorem LH.swap{P R o:List Keyed}{i j:Nat}(h:LH P R o i j):LH R P o j i:=⟨h.pm.trans EY,h.up,h.lb,h.la⟩
theorem Av(P:List Keyed){i i':Nat}(h:i'<=i)(hi:i<=P.length):P.drop i'=(P.take i).drop i'++P.drop i:=by
 have e:=congrArg (List.drop i') (D8 i P)
 rw[G8,DY,show i'-min i P.length=0 by omega,FY]at e
 exact e.symm
theorem LH.a{P R o:List Keyed}{i j:Nat}(h:LH P R o i j)(u:Upl P){i':Nat}(hi':i'<=i)(hi:i<=P.length)(c:∀ x∈R.take j,∀ y∈(P.take i).drop i',ky x<=ky y):LH P R ((P.take i).drop i'++o) i' j where
 pm:=by
  rw[Av P hi' hi,D9]
  exact EZ _ h.pm
 up:=EB.mpr ⟨(u.take).drop,h.up,fun x hx y hy=>h.la x (EK hx) y hy⟩
 la:=fun x hx y hy=>by
  have e:P.take i'=(P.take i).take i':=by rw[Gf,Fo hi']
  rw[e]at hx
  rcases DN.mp hy with hy | hy
  ·have z:Upl ((P.take i).take i'++(P.take i).drop i'):=by rw[D8];exact u.take
   exact(EB.mp z).2.2 x hx y hy
  ·exact h.la x (ER hx) y hy
 lb:=fun x hx y hy=>by
  rcases DN.mp hy with hy | hy
  ·exact c x hx y hy
  ·exact h.lb x hx y hy
theorem nq{P:List Keyed}{i:Nat}{x:Keyed}(h:P[i]?=some x):(P.take (i+1)).drop i = [x]:=by
 have hi:=(DC.mp h).1
 rw[FZ,show i+1-i=1 by omega]
 exact dD h
theorem LH.a1{P R o:List Keyed}{i j:Nat}{x:Keyed}(h:LH P R o (i+1) j)(u:Upl P)(hx:P[i]?=some x)(c:∀ y∈R.take j,ky y<=ky x):LH P R (x::o) i j:=by
 have hi:=(DC.mp hx).1
 have:=h.a u (i':=i) (by omega) (by omega) (by rw[nq hx];intro y hy z hz;rw[DP.mp hz];exact c y hy)
 rwa[nq hx]at this
theorem LH.fin{P R o:List Keyed}{i j:Nat}(h:LH P R o i j)(u:Upl P)(v:Upl R)(c:∀ x∈P.take i,∀ y∈R.take j,ky x<=ky y):(P.take i++R.take j++o).Perm (P++R)/\Upl (P.take i++R.take j++o):=by
 constructor
 ·refine(EZ _ h.pm).trans ?_
  have e:P++R=(P.take i++P.drop i)++(R.take j++R.drop j):=by rw[D8,D8]
  rw[e,← D9,← D9]
  refine List.Perm.append_right _ ?_
  rw[D9,D9]
  exact EZ _ EY
 ·refine EB.mpr ⟨EB.mpr ⟨u.take,v.take,c⟩,h.up,fun x hx y hy=>?_⟩
  rcases DN.mp hx with hx | hx
  ·exact h.la x hx y hy
  ·exact h.lb x hx y hy
theorem iu{P:List Keyed}{i:Nat}{x:Keyed}(u:Upl P)(hx:P[i]?=some x):∀ y∈P.take (i+1),ky y<=ky x:=fun y hy=>by
 obtain⟨m,hm,e⟩:=EN hy
 rw[DY]at hm
 rw[FV]at e
 exact vM u (i:=m) (by rw[DB (by omega),e]) hx (by omega)
theorem fR_lo'{P:List Keyed}{k:Nat}{v:Keyed}(h:∀ m,m<k->fR P 0 v m=true):∀ x∈P.take k,ky x<=ky v:=Dd (P:=P) (i:=0) h
theorem fL_lo'{P:List Keyed}{k:Nat}{v:Keyed}(h:∀ m,m<k->fL P 0 v m=true):∀ x∈P.take k,ky x<ky v:=Df (P:=P) (i:=0) h
theorem sW{P:List Keyed}{i k:Nat}{y:Keyed}(h:y∈(P.take i).drop k):∃ m,k<=m/\m<i/\P[m]?=some y:=by
 rw[FZ]at h
 obtain⟨m,hm,e⟩:=xb h
 exact⟨k+m,by omega,by omega,e⟩
theorem fR_hi'{P:List Keyed}{k n:Nat}{v:Keyed}(h:∀ m,k<=m->m<n->fR P 0 v m=false):∀ y∈(P.take n).drop k,ky v<ky y:=fun y hy=>by
 obtain⟨m,h1,h2,e⟩:=sW hy
 have:=h m h1 h2
 rw[km (show P[0+m]?=some y by rw[Nat.zero_add];exact e)]at this
 simpa using this
theorem fL_hi'{P:List Keyed}{k n:Nat}{v:Keyed}(h:∀ m,k<=m->m<n->fL P 0 v m=false):∀ y∈(P.take n).drop k,ky v<=ky y:=fun y hy=>by
 obtain⟨m,h1,h2,e⟩:=sW hy
 have:=h m h1 h2
 rw[lM (show P[0+m]?=some y by rw[Nat.zero_add];exact e)]at this
 simp only[decide_eq_false_iff_not]at this
 omega
theorem iQ(a:Array Keyed)(i:Nat):(a.extract 0 i).toList=a.toList.take i:=by
 rw[F6,FK]
 rfl
theorem nO(a:Array Keyed)(i k:Nat):(a.extract k i).toList=(a.toList.take i).drop k:=by
 rw[F6,FK,FZ]
def rv(o:Array Keyed):List Keyed:=o.toList.reverse
theorem mX(o:Array Keyed)(x:Keyed):rv (o.push x)=x::rv o:=by unfold rv;rw[E8,List.reverse_append];rfl
theorem A0(o p:Array Keyed):rv (o++p.reverse)=p.toList++rv o:=by unfold rv;rw[Ef,List.reverse_append,FG,List.reverse_reverse]
def sU:Array Keyed->Array Keyed->StateT SortSt Sem (Array Keyed):=sortPriv% PySem.Builtin.mergeHi
theorem qm{st:SortSt}{a b:Array Keyed}{Q:Array Keyed->SortSt->Prop}(hk:kindOf st=oneType')(ua:Upl a.toList)(ub:Upl b.toList)(ia:∀ x∈a.toList,IntP x)(ib:∀ x∈b.toList,IntP x)(a1:1<=a.size)(b1:1<=b.size)
  (h0:∀ x y:Keyed,b.toList[0]?=some x->y∈a.toList->ky x<ky y) (hst:∀ x y:Keyed,x∈b.toList->a.toList[a.size-1]?=some y->ky x<ky y)
  (h:∀ R st',SmG st st'->R.toList.Perm (a.toList++b.toList)->Upl R.toList->Q R st'):wpS (model prog w) A E s (sU a b) Q st:=by
 unfold sU
 walk_at "mergeHi"
 have la:a.toList.length=a.size:=by simp
 have lb:b.toList.length=b.size:=by simp
 have atA:∀ i,i<a.size->∃ x,a.toList[i]?=some x/\IntP x:=fun i hi=>⟨_,DB (by omega),ia _ (Ew _)⟩
 have atB:∀ i,i<b.size->∃ x,b.toList[i]?=some x/\IntP x:=fun i hi=>⟨_,DB (by omega),ib _ (Ew _)⟩
 have dn:∀(o:Array Keyed)(i j:Nat)(st':SortSt),SmG st st'->LH a.toList b.toList (rv o) i j->i=0∨j=0->Q (a.extract 0 i++b.extract 0 j++o.reverse) st':=by
  intro o i j st' sg lm e
  obtain⟨g1,g2⟩:=lm.fin ua ub (by
   rcases e with e | e
   ·subst e;intro x hx;cases hx
   ·subst e;intro x _ y hy;cases hy)
  refine h _ st' sg ?_ ?_
  ·rw[Ef,Ef,iQ,iQ,FG];exact g1
  ·rw[Ef,Ef,iQ,iQ,FG];exact g2
 have ls:∀(o:Array Keyed)(i j:Nat)(st':SortSt),SmG st st'->LH a.toList b.toList (rv o) i j->j=1->Q (b.extract 0 j++a.extract 0 i++o.reverse) st':=by
  intro o i j st' sg lm e
  subst e
  obtain⟨z,hz,_⟩:=atB 0 (by omega)
  have nb:b.toList.take 1 = [z]:=dD (P:=b.toList) (i:=0) hz
  obtain⟨g1,g2⟩:=lm.swap.fin ub ua (by
   rw[nb]
   intro x hx y hy
   rw[DP.mp hx]
   exact Fd (h0 z y hz (ER hy)))
  refine h _ st' sg ?_ ?_
  ·rw[Ef,Ef,iQ,iQ,FG];exact g1.trans EY
  ·rw[Ef,Ef,iQ,iQ,FG];exact g2
 refine wpS_bind (wpS_lift (wpAny_rule ⟨rfl,?_⟩))
 obtain⟨y0,hy0,iy0⟩:=atA (a.size-1) (by omega)
 walk_at "l3"
 refine wpS_bind (aE (at_l hy0) ?_)
 have m0:LH a.toList b.toList (rv #[y0]) (a.size-1) b.size:=⟨by
   show[y0].Perm _
   rw[Gs (show b.toList.length<=b.size by omega),Fz]
   have e:=nq hy0
   rw[show a.size-1+1=a.size by omega,Er (by omega)]at e
   rw[e],Hx ..,fun x hx y hy=>by
   have:y=y0:=DP.mp hy
   rw[this]
   refine iu ua hy0 x ?_
   rw[show a.size-1+1=a.size by omega,Er (by omega)]
   exact ER hx,fun x hx y hy=>by
   have:y=y0:=DP.mp hy
   rw[this]
   exact Fd (hst x y0 (ER hx) hy0)⟩
 by_cases c1:(a.size-1 == 0)=true
 ·refine aA c1 ?_
  exact wpS_pure (dn _ _ _ _ (SmG.rfl' _) m0 (.inl (by simpa using c1)))
 refine az c1 ?_
 have c1':a.size-1≠0:=by simpa using c1
 by_cases c2:(b.size == 1)=true
 ·refine aA c2 ?_
  exact wpS_pure (ls _ _ _ _ (SmG.rfl' _) m0 (by simpa using c2))
 refine az c2 ?_
 have c2':b.size≠1:=by simpa using c2
 refine wpS_bind (wpS_get ?_)
 refine wpS_bind (wpS_mono (wpS_forRange (I:=fun x c st'=>SmG st st'/\∃(o:Array Keyed)(i j g:Nat),c=(none,i,j,o,g)/\LH a.toList b.toList (rv o) i j/\1<=i/\i<=a.size/\2<=j/\j<=b.size/\x+1+(i+j)<=a.size+b.size)
  (Q:=fun c st'=>∃(r:Array Keyed)(z:Nat×Nat×Array Keyed×Nat),c=(some r,z)/\Q r st') ?step ?fin ⟨SmG.rfl' _,_,_,_,_,rfl,m0,by omega,by omega,by omega,by omega,by omega⟩) ?post)
 case post =>
  rintro c st' ⟨r,z,rfl,q⟩
  exact wpS_pure q
 case fin =>
  rintro c st' ⟨sg,o,i,j,g,rfl,lm,g1,g1',g2,g2',g3⟩
  omega
 case step =>
  rintro x c st1 _ hx ⟨sg1,o,i,j,g,rfl,lm,g1,g1',g2,g2',g3⟩
  refine wpS_bind (wpS_mono (wpS_forRange (I:=fun y c st'=>SmG st st'/\∃(o:Array Keyed)(i j ac bc:Nat),c=(none,i,j,o,ac,bc)/\LH a.toList b.toList (rv o) i j/\1<=i/\i<=a.size/\2<=j/\j<=b.size/\x+1+y+(i+j)<=a.size+b.size)
   (Q:=fun c st'=>(∃(r:Array Keyed)(z:Nat×Nat×Array Keyed×Nat×Nat),c=(some r,z)/\Q r st')∨SmG st st'/\∃(o:Array Keyed)(i j ac bc:Nat),c=(none,i,j,o,ac,bc)/\LH a.toList b.toList (rv o) i j/\1<=i/\i<=a.size/\2<=j/\j<=b.size/\x+2+(i+j)<=a.size+b.size) ?istep ?ifin ⟨sg1,o,i,j,0,0,rfl,lm,g1,g1',g2,g2',by omega⟩) ?ipost)
  case ifin =>
   rintro c st' ⟨sg,o,i,j,ac,bc,rfl,lm,g1,g1',g2,g2',g3⟩
   exact .inr ⟨sg,o,i,j,ac,bc,rfl,lm,g1,g1',g2,g2',by omega⟩
  case istep =>
   rintro y c st2 _ hy ⟨sg2,o,i,j,ac,bc,rfl,lm,g1,g1',g2,g2',g3⟩
   obtain⟨vb,hvb,ivb⟩:=atB (j-1) (by omega)
   obtain⟨va,hva,iva⟩:=atA (i-1) (by omega)
   have ei:i-1+1=i:=by omega
   have ej:j-1+1=j:=by omega
   dsimp only
   refine wpS_bind (aE (at_l hvb) (wpS_bind (aE (at_l hva) (wpS_bind (mL (sg2.k.trans hk) ivb iva ?_)))))
   by_cases c:ky vb<ky va
   ·rw[decide_eq_true c]
    dsimp only
    refine aA rfl ?_
    refine wpS_bind (aE (at_l hva) ?_)
    have m2:LH a.toList b.toList (rv (o.push va)) (i-1) j:=by
     rw[mX]
     exact LH.a1 (by rw[ei];exact lm) ua hva fun z hz=>by
      have:=iu ub hvb z (by rw[ej];exact hz)
      omega
    by_cases d1:(i-1 == 0)=true
    ·refine aA d1 ?_
     exact wpS_pure (.inl ⟨_,_,rfl,dn _ _ _ _ sg2 m2 (.inl (by simpa using d1))⟩)
    ·refine az d1 ?_
     have d1':i-1≠0:=by simpa using d1
     split
     ·exact wpS_pure (.inr ⟨sg2,_,_,_,_,_,rfl,m2,by omega,by omega,g2,g2',by omega⟩)
     ·exact wpS_pure ⟨sg2,_,_,_,_,_,rfl,m2,by omega,by omega,g2,g2',by omega⟩
   ·rw[decide_eq_false c]
    dsimp only
    refine az DW ?_
    refine wpS_bind (aE (at_l hvb) ?_)
    have m2:LH a.toList b.toList (rv (o.push vb)) i (j-1):=by
     rw[mX]
     exact(LH.a1 (by rw[ej];exact lm.swap) ub hvb fun z hz=>by
      have:=iu ua hva z (by rw[ei];exact hz)
      omega).swap
    by_cases d1:(j-1 == 1)=true
    ·refine aA d1 ?_
     exact wpS_pure (.inl ⟨_,_,rfl,ls _ _ _ _ sg2 m2 (by simpa using d1)⟩)
    ·refine az d1 ?_
     have d1':j-1≠1:=by simpa using d1
     split
     ·exact wpS_pure (.inr ⟨sg2,_,_,_,_,_,rfl,m2,g1,g1',by omega,by omega,by omega⟩)
     ·exact wpS_pure ⟨sg2,_,_,_,_,_,rfl,m2,g1,g1',by omega,by omega,by omega⟩
  case ipost =>
   rintro c st2 (⟨r,z,rfl,q⟩ | ⟨sg2,o,i,j,ac,bc,rfl,lm,g1,g1',g2,g2',g3⟩)
   ·exact wpS_pure ⟨_,_,rfl,q⟩
   dsimp -zeta -zetaHave only
   refine wpS_bind (wpS_lift (wpAny_rule ⟨rfl,?_⟩))
   refine wpS_bind (wpS_mono (wpS_forRange (I:=fun y c st'=>SmG st st'/\∃(o:Array Keyed)(i j g ac bc:Nat),c=(none,i,j,o,g,ac,bc)/\LH a.toList b.toList (rv o) i j/\1<=i/\i<=a.size/\2<=j/\j<=b.size/\x+2+(i+j)<=a.size+b.size)
    (Q:=fun c st'=>(∃(r:Array Keyed)(z:Nat×Nat×Array Keyed×Nat×Nat×Nat),c=(some r,z)/\Q r st')∨SmG st st'/\∃(o:Array Keyed)(i j g ac bc:Nat),c=(none,i,j,o,g,ac,bc)/\LH a.toList b.toList (rv o) i j/\1<=i/\i<=a.size/\2<=j/\j<=b.size/\x+2+(i+j)<=a.size+b.size) ?jstep ?jfin ⟨sg2,o,i,j,_,ac,bc,rfl,lm,g1,g1',g2,g2',g3⟩) ?jpost)
   case jfin=>exact fun c st' q=>.inr q
   case jpost =>
    rintro c st3 (⟨r,z,rfl,q⟩ | ⟨sg3,o,i,j,g,ac,bc,rfl,lm,g1,g1',g2,g2',g3⟩)
    ·exact wpS_pure ⟨_,_,rfl,q⟩
    dsimp only
    exact wpS_bind (ja fun st4 sg4=>wpS_pure ⟨sg3.trans sg4,_,_,_,_,rfl,lm,g1,g1',g2,g2',by omega⟩)
   case jstep =>
    rintro y c st3 _ hy ⟨sg3,o,i,j,g,ac,bc,rfl,lm,g1,g1',g2,g2',g3⟩
    walk_at "st"
    walk_at "l11"
    extract_lets -underBinder +onlyGivenNames jp
    clear_value (ej:jp=_)
    refine qp fun R hR=>?_
    refine Bl (F:=fun z=>jp () z) fun g'=>?_
    rw[ej]
    clear ej jp
    walk_at "st"
    refine wpS_bind (ja fun st4 sg4=>?_)
    have sg34:=sg3.trans sg4
    have k4:=sg34.k.trans hk
    have ej1:j-1+1=j:=by omega
    obtain⟨vb,hvb,ivb⟩:=atB (j-1) (by omega)
    refine wpS_bind (aE (at_l hvb) ?_)
    refine wpS_bind (rZ k4 ivb ua ia (by omega) (by omega) fun k kn kt kf=>?_)
    walk_at "st"
    extract_lets -underBinder +onlyGivenNames kk ac jp
    subst kk ac
    clear_value (ej:jp=_)
    have vbl:=iu ub hvb
    rw[ej1]at vbl
    have hlo:=fR_lo' kt
    have hhi:=fR_hi' kf
    have hj:∀(i':Nat)(o':Array Keyed),LH a.toList b.toList (rv o') i' j->1<=i'->i'<=a.size->(∀ y∈a.toList.take i',ky y<=ky vb)->x+2+(i'+j)<=a.size+b.size->wpS (model prog w) A E s (jp () i' o') R st4:=by
     intro i' o' lm' q1 q1' gv g3'
     rw[ej]
     clear ej jp
     walk_at "st"
     refine wpS_bind (aE (at_l hvb) ?_)
     have m2:LH a.toList b.toList (rv (o'.push vb)) i' (j-1):=by
      rw[mX]
      exact(LH.a1 (by rw[ej1];exact lm'.swap) ub hvb gv).swap
     by_cases d1:(j-1 == 1)=true
     ·refine aA d1 ?_
      exact wpS_pure (hR _ _ (.inl ⟨_,_,rfl,ls _ _ _ _ sg34 m2 (by simpa using d1)⟩))
     refine az d1 ?_
     have d1':j-1≠1:=by simpa using d1
     have ei1:i'-1+1=i':=by omega
     obtain⟨va,hva,iva⟩:=atA (i'-1) (by omega)
     have val:=iu ua hva
     rw[ei1]at val
     refine wpS_bind (aE (at_l hva) ?_)
     refine wpS_bind (r6 k4 iva ub ib (by omega) (by omega) fun k2 kn2 kt2 kf2=>?_)
     walk_at "st"
     extract_lets -underBinder +onlyGivenNames kk ac jp
     subst kk ac
     clear_value (ej:jp=_)
     have hlo2:=fL_lo' kt2
     have hhi2:=fL_hi' kf2
     have hj:∀(j':Nat)(o':Array Keyed),LH a.toList b.toList (rv o') i' j'->2<=j'->j'<=b.size->(∀ y∈b.toList.take j',ky y<=ky va)->x+2+(i'+j')<=a.size+b.size->wpS (model prog w) A E s (jp () j' o') R st4:=by
      intro j' o' lm2 q2 q2' gv' g3''
      rw[ej]
      clear ej jp
      walk_at "st"
      refine wpS_bind (aE (at_l hva) ?_)
      have m3:LH a.toList b.toList (rv (o'.push va)) (i'-1) j':=by
       rw[mX]
       exact LH.a1 (by rw[ei1];exact lm2) ua hva gv'
      by_cases d2:(i'-1 == 0)=true
      ·refine aA d2 ?_
       exact wpS_pure (hR _ _ (.inl ⟨_,_,rfl,dn _ _ _ _ sg34 m3 (.inl (by simpa using d2))⟩))
      refine az d2 ?_
      have d2':i'-1≠0:=by simpa using d2
      split
      ·exact wpS_pure (hR _ _ (.inr ⟨sg34,_,_,_,_,_,_,rfl,m3,by omega,by omega,q2,q2',by omega⟩))
      ·exact wpS_pure (hR _ _ ⟨sg34,_,_,_,_,_,_,rfl,m3,by omega,by omega,q2,q2',by omega⟩)
     clear ej
     by_cases z2:j-1-k2 > 0
     ·refine aA z2 ?_
      have m3:LH a.toList b.toList (rv (o'.push vb++(b.extract k2 (j-1)).reverse)) i' k2:=by
       rw[A0,nO]
       exact(m2.swap.a ub (by omega) (by omega) fun x hx y hy=>by have:=hhi2 y hy;have:=val x hx;omega).swap
      by_cases d2:(k2 == 1)=true
      ·refine aA d2 ?_
       exact wpS_pure (hR _ _ (.inl ⟨_,_,rfl,ls _ _ _ _ sg34 m3 (by simpa using d2)⟩))
      refine az d2 ?_
      have d2':k2≠1:=by simpa using d2
      by_cases d3:(k2 == 0)=true
      ·refine aA d3 ?_
       exact wpS_pure (hR _ _ (.inl ⟨_,_,rfl,dn _ _ _ _ sg34 m3 (.inr (by simpa using d3))⟩))
      refine az d3 ?_
      have d3':k2≠0:=by simpa using d3
      exact hj _ _ m3 (by omega) (by omega) (fun y hy=>Fd (hlo2 y hy)) (by omega)
     ·refine az z2 ?_
      have:k2=j-1:=by omega
      subst this
      exact hj _ _ m2 (by omega) (by omega) (fun y hy=>Fd (hlo2 y hy)) (by omega)
    clear ej
    by_cases z:i-k > 0
    ·refine aA z ?_
     have m2:LH a.toList b.toList (rv (o++(a.extract k i).reverse)) k j:=by
      rw[A0,nO]
      exact lm.a ua (by omega) (by omega) fun x hx y hy=>by have:=hhi y hy;have:=vbl x hx;omega
     by_cases d1:(k == 0)=true
     ·refine aA d1 ?_
      exact wpS_pure (hR _ _ (.inl ⟨_,_,rfl,dn _ _ _ _ sg34 m2 (.inl (by simpa using d1))⟩))
     refine az d1 ?_
     have d1':k≠0:=by simpa using d1
     exact hj _ _ m2 (by omega) (by omega) hlo (by omega)
    ·refine az z ?_
     have:k=i:=by omega
     subst this
     exact hj _ _ lm g1 g1' hlo (by omega)
end PyProof.Rows
namespace PyProof.Rows
open PySem
local macro_rules | `(tactic| walk_at "countRun") => do
 let n:=Lean.mkIdent (Lean.mkPrivateNameCore `PySem.Builtin.List.W1All `PySem.Builtin.countRun)
 `(tactic| delta $n)
local macro_rules | `(tactic| walk_at "binarySort") => do
 let n:=Lean.mkIdent (Lean.mkPrivateNameCore `PySem.Builtin.List.W1All `PySem.Builtin.binarySort)
 `(tactic| delta $n)
local macro_rules | `(tactic| walk_at "st") => `(tactic| try dsimp -zeta -zetaHave only)
local macro_rules | `(tactic| walk_at "l3") => `(tactic| (extract_lets -underBinder +onlyGivenNames a b c; subst a b c))
local macro_rules | `(tactic| walk_at "l11") => `(tactic| (extract_lets -underBinder +onlyGivenNames a b c d e f g h i j k; subst a b c d e f g h i j k; dsimp -zeta -zetaHave only))
local macro_rules | `(tactic| walk_at "l1") => `(tactic| (extract_lets -underBinder +onlyGivenNames a; subst a; try dsimp -zeta -zetaHave only))
local macro_rules | `(tactic| walk_at "l2") => `(tactic| (extract_lets -underBinder +onlyGivenNames a b; subst a b; try dsimp -zeta -zetaHave only))
local macro_rules | `(tactic| walk_at "l4") => `(tactic| (extract_lets -underBinder +onlyGivenNames a b c d; subst a b c d; try dsimp -zeta -zetaHave only))
variable{prog:Program}{w:World}{A:Around}{E:Value->Shared->Prop}{s:Shared}
structure SB(lo:Nat)(st0 st:SortSt):Prop where
 perm:(arrOf st).Perm (arrOf st0)
 kind:kindOf st=oneType'
 failed:failedOf st=failedOf st0
 pend:pendingOf st=pendingOf st0
 low:∀ i,i<lo->(arrOf st)[i]?=(arrOf st0)[i]?
theorem SB.set{lo:Nat}{st0 st:SortSt}(h:SB lo st0 st){xs:Array Keyed}(hp:xs.Perm (arrOf st))(hl:∀ i,i<lo->xs[i]?=(arrOf st)[i]?):SB lo st0 (setArr st xs) :=
 ⟨hp.trans h.perm,h.kind,h.failed,h.pend,fun i hi=>(hl i hi).trans (h.low i hi)⟩
theorem SB.size{lo:Nat}{st0 st:SortSt}(h:SB lo st0 st):(arrOf st).size=(arrOf st0).size:=h.perm.size_eq
def Sin(xs:Array Keyed)(lo n:Nat):Prop:=∀ i j,lo<=i->i<=j->j<lo+n->K xs i<=K xs j
def Nin(xs:Array Keyed)(lo n:Nat):Prop:=∀ i j,lo<=i->i<=j->j<lo+n->K xs j<=K xs i
theorem ir{lo:Nat}{st0 st:SortSt}{i j:Nat}{Q:Option Bool->SortSt->Prop}(hB:SB lo st0 st)(h0:IntKeys (arrOf st0))(hi:i<(arrOf st0).size)(hj:j<(arrOf st0).size)
  (h:Q (some (decide (K (arrOf st) i<K (arrOf st) j))) st):wpS (model prog w) A E s ((sortPriv% PySem.Builtin.ltAt) i j) Q st:=by
 have at':∀ i,i<(arrOf st0).size->∃ t q,(arrOf st)[i]?=some (.int (K (arrOf st) i) t,q):=fun i hi=>by
  have hi':i<(arrOf st).size:=by rw[hB.size];exact hi
  obtain⟨n,t,hn⟩:=h0 (arrOf st)[i] ((FF.mp hB.perm).mem_iff.mp (by simp))
  have e:(arrOf st)[i]?=some (arrOf st)[i]:=getElem?_pos _ i hi'
  refine⟨t,(arrOf st)[i].2,?_⟩
  unfold K
  rw[e]
  show some (arrOf st)[i]=some (.int (numOf (arrOf st)[i].1) t,(arrOf st)[i].2)
  rw[hn]
  exact congrArg some (Prod.ext hn rfl)
 obtain⟨t,p,e1⟩:=at' i hi
 obtain⟨u,q,e2⟩:=at' j hj
 exact wpS_ltAt hB.kind e1 e2 h
theorem jb{lo:Nat}{st0 st:SortSt}{i j:Nat}{Q:Unit->SortSt->Prop}(hB:SB lo st0 st)(hl:lo<=i)(hj:j<=(arrOf st0).size)(h:∀ st',SB lo st0 st'->(∀ k,K (arrOf st') k=if i<=k/\k<j then K (arrOf st) (i+j-1-k) else K (arrOf st) k)->Q () st') :
  wpS (model prog w) A E s ((sortPriv% PySem.Builtin.reverseSlice) i j) Q st:=by
 have hj':j<=(arrOf st).size:=by rw[hB.size];exact hj
 refine wpS_reverse (h _ (hB.set (mirror_perm _ _ _ _) fun k hk=>?_) fun k=>K_mirror hj' k)
 rw[getElem?_mirror_all hj',if_neg (by omega)]
theorem BX(xs:Array Keyed)(lo:Nat):Sin xs lo 1:=fun i j h1 h2 h3=>by
 have:i=j:=by omega
 rw[this];exact EL _
theorem AY{xs:Array Keyed}{lo n:Nat}(h:Sin xs lo n)(n1:1<=n)(c:¬ K xs (lo+n)<K xs (lo+n-1)):Sin xs lo (n+1):=fun i j h1 h2 h3=>by
 by_cases z:j<lo+n
 ·exact h i j h1 h2 z
 ·have ej:j=lo+n:=by omega
  by_cases zi:i=j
  ·rw[zi];exact EL _
  ·have:=h i (lo+n-1) h1 (by omega) (by omega)
   rw[ej];omega
theorem sR{xs:Array Keyed}{lo n:Nat}(h:Nin xs lo n)(n1:1<=n)(c:K xs (lo+n)<=K xs (lo+n-1)):Nin xs lo (n+1):=fun i j h1 h2 h3=>by
 by_cases z:j<lo+n
 ·exact h i j h1 h2 z
 ·have ej:j=lo+n:=by omega
  by_cases zi:i=j
  ·rw[zi];exact EL _
  ·have:=h i (lo+n-1) h1 (by omega) (by omega)
   rw[ej];omega
def pM:Nat->Nat->StateT SortSt Sem (Option Nat):=sortPriv% PySem.Builtin.countRun
theorem tX{st0:SortSt}{lo nrem:Nat}{Q:Option Nat->SortSt->Prop}(hk:kindOf st0=oneType')(h0:IntKeys (arrOf st0))(hn:lo+nrem<=(arrOf st0).size)(n1:1<=nrem)
  (h:∀ m st',SB lo st0 st'->1<=m->m<=nrem->Sin (arrOf st') lo m->Q (some m) st'):wpS (model prog w) A E s (pM lo nrem) Q st0:=by
 have hB:SB lo st0 st0:=⟨Array.Perm.refl _,hk,rfl,rfl,fun _ _=>rfl⟩
 unfold pM
 walk_at "countRun"
 refine wpS_bind (wpS_mono (wpS_forRange (I:=fun x c st'=>st'=st0/\c=(none,x)/\Sin (arrOf st0) lo x)
  (Q:=fun c st'=>st'=st0/\∃ n,c=(none,n)/\1<=n/\n<=nrem/\Sin (arrOf st0) lo n/\(n=nrem∨K (arrOf st0) (lo+n)<K (arrOf st0) (lo+n-1))) ?step ?fin ⟨rfl,rfl,BX _ _⟩) ?post)
 case fin =>
  rintro c st' ⟨rfl,rfl,hs⟩
  rw[show max 1 nrem=nrem by omega]at hs ⊢
  exact⟨rfl,nrem,rfl,n1,DF _,hs,.inl rfl⟩
 case step =>
  rintro x c st' h1 h2 ⟨rfl,rfl,hs⟩
  dsimp only
  refine wpS_bind (ir hB h0 (by omega) (by omega) ?_)
  by_cases z:K (arrOf st') (lo+x)<K (arrOf st') (lo+x-1)
  ·simp only[z,decide_true,if_true]
   exact wpS_pure ⟨rfl,x,rfl,h1,by omega,hs,.inr z⟩
  ·simp only[z,decide_false,Ed,if_false]
   exact wpS_pure ⟨rfl,rfl,AY hs h1 z⟩
 case post =>
  rintro c st' ⟨rfl,n,rfl,g1,g2,hs,hor⟩
  walk_at "st"
  walk_at "l2"
  by_cases z:(n == nrem)=true
  ·refine aA z ?_
   exact wpS_pure (h n st' hB g1 g2 hs)
  refine az z ?_
  have z':n≠nrem:=by simpa using z
  have hlt:=hor.resolve_left z'
  extract_lets -underBinder +onlyGivenNames jp
  clear_value (ej:jp=_)
  have hj:∀ st1,SB lo st' st1->Nin (arrOf st1) lo (n+1)->wpS (model prog w) A E s (jp ()) Q st1:=by
   intro st1 hB1 hs1
   rw[ej]
   clear ej jp
   walk_at "st"
   refine wpS_bind (wpS_lift (wpAny_rule ⟨rfl,?_⟩))
   refine wpS_bind (wpS_mono (wpS_forRange (I:=fun x c st2=>SB lo st' st2/\∃ neq,c=(none,x,neq)/\Nin (arrOf st2) lo x/\neq+1<=x/\(∀ i,lo+x-(neq+1)<=i->i<lo+x->K (arrOf st2) i=K (arrOf st2) (lo+x-1)))
    (Q:=fun c st2=>SB lo st' st2/\∃ m neq,c=(none,m,neq)/\1<=m/\m<=nrem/\Nin (arrOf st2) lo m/\neq+1<=m/\(∀ i,lo+m-(neq+1)<=i->i<lo+m->K (arrOf st2) i=K (arrOf st2) (lo+m-1))) ?dstep ?dfin ⟨hB1,0,rfl,hs1,by omega,fun i h1 h2=>by congr 1;omega⟩) ?dpost)
   case dfin =>
    rintro c st2 ⟨hB2,neq,rfl,hs2,q1,q2⟩
    rw[show max (n+1) nrem=nrem by omega]at hs2 q1 q2 ⊢
    exact⟨hB2,nrem,neq,rfl,by omega,DF _,hs2,q1,q2⟩
   case dstep =>
    rintro x c st2 h1 h2 ⟨hB2,neq,rfl,hs2,q1,q2⟩
    dsimp only
    refine wpS_bind (ir hB2 h0 (by omega) (by omega) ?_)
    by_cases z:K (arrOf st2) (lo+x)<K (arrOf st2) (lo+x-1)
    ·simp only[z,decide_true,if_true]
     have nx:=sR hs2 (by omega) (Fd z)
     by_cases y:neq > 0
     ·refine aA y ?_
      refine wpS_bind (jb hB2 (by omega) (by omega) fun st3 hB3 e3=>?_)
      have e3':∀ k,K (arrOf st3) k=K (arrOf st2) k:=fun k=>by
       rw[e3]
       split
       ·rename_i hk
        rw[q2 _ (by omega) (by omega),q2 k (by omega) (by omega)]
       ·rfl
      refine wpS_pure ⟨hB3,0,rfl,fun i j a1 a2 a3=>?_,by omega,fun i h1 h2=>by congr 1;omega⟩
      rw[e3',e3']
      exact nx i j a1 a2 a3
     ·refine az y ?_
      exact wpS_pure ⟨hB2,0,rfl,nx,by omega,fun i h1 h2=>by congr 1;omega⟩
    ·simp only[z,decide_false,Ed,if_false]
     refine wpS_bind (ir hB2 h0 (by omega) (by omega) ?_)
     by_cases y:K (arrOf st2) (lo+x-1)<K (arrOf st2) (lo+x)
     ·simp only[y,decide_true,if_true]
      exact wpS_pure ⟨hB2,x,neq,rfl,by omega,by omega,hs2,q1,q2⟩
     ·simp only[y,decide_false,Ed,if_false]
      have eq:K (arrOf st2) (lo+x)=K (arrOf st2) (lo+x-1):=by omega
      refine wpS_pure ⟨hB2,neq+1,rfl,sR hs2 (by omega) (by omega),by omega,fun i a1 a2=>?_⟩
      rw[show lo+(x+1)-1=lo+x by omega]
      by_cases ix:i=lo+x
      ·rw[ix]
      ·rw[eq];exact q2 i (by omega) (by omega)
   case dpost =>
    rintro c st2 ⟨hB2,m,neq,rfl,m1,m2,hs2,q1,q2⟩
    walk_at "st"
    walk_at "l4"
    extract_lets -underBinder +onlyGivenNames jp
    clear_value (ej:jp=_)
    have hj:∀ st3,SB lo st' st3->Nin (arrOf st3) lo m->wpS (model prog w) A E s (jp ()) Q st3:=by
     intro st3 hB3 hs3
     rw[ej]
     clear ej jp
     walk_at "st"
     refine wpS_bind (jb hB3 (DF _) (by omega) fun st4 hB4 e4=>?_)
     have hs4:Sin (arrOf st4) lo m:=fun i j a1 a2 a3=>by
      rw[e4,e4,if_pos (by omega),if_pos (by omega)]
      exact hs3 _ _ (by omega) (by omega) (by omega)
     refine wpS_bind (wpS_mono (wpS_forRange (I:=fun x c st'=>st'=st4/\c=(none,x)/\Sin (arrOf st4) lo x) (Q:=fun c st'=>st'=st4/\∃ n,c=(none,n)/\1<=n/\n<=nrem/\Sin (arrOf st4) lo n) ?ustep ?ufin ⟨rfl,rfl,hs4⟩) ?upost)
     case ufin =>
      rintro c st5 ⟨rfl,rfl,hs5⟩
      rw[show max m nrem=nrem by omega]at hs5 ⊢
      exact⟨rfl,nrem,rfl,n1,DF _,hs5⟩
     case ustep =>
      rintro x c st5 h1 h2 ⟨rfl,rfl,hs5⟩
      dsimp only
      refine wpS_bind (ir hB4 h0 (by omega) (by omega) ?_)
      by_cases z:K (arrOf st5) (lo+x)<K (arrOf st5) (lo+x-1)
      ·simp only[z,decide_true,if_true]
       exact wpS_pure ⟨rfl,x,rfl,by omega,by omega,hs5⟩
      ·simp only[z,decide_false,Ed,if_false]
       exact wpS_pure ⟨rfl,rfl,AY hs5 (by omega) z⟩
     case upost =>
      rintro c st5 ⟨rfl,k,rfl,k1,k2,hs5⟩
      exact wpS_pure (h k st5 hB4 k1 k2 hs5)
    by_cases y:neq > 0
    ·refine aA y ?_
     refine wpS_bind (jb hB2 (by omega) (by omega) fun st3 hB3 e3=>hj st3 hB3 fun i j a1 a2 a3=>?_)
     have e3':∀ k,K (arrOf st3) k=K (arrOf st2) k:=fun k=>by
      rw[e3]
      split
      ·rename_i hk
       rw[q2 _ (by omega) (by omega),q2 k (by omega) (by omega)]
      ·rfl
     rw[e3',e3']
     exact hs2 i j a1 a2 a3
    ·refine az y ?_
     exact hj st2 hB2 hs2
  by_cases y:n > 1
  ·refine aA y ?_
   refine wpS_bind (ir hB h0 (by omega) (by omega) ?_)
   by_cases r:K (arrOf st') lo<K (arrOf st') (lo+n-1)
   ·simp only[r,decide_true,if_true]
    exact wpS_pure (h n st' hB g1 g2 hs)
   ·simp only[r,decide_false,Ed,if_false]
    have all:∀ k,lo<=k->k<lo+n->K (arrOf st') k=K (arrOf st') (lo+n-1):=fun k a1 a2=>by
     have b1:=hs lo k (DF _) a1 a2
     have b2:=hs k (lo+n-1) a1 (by omega) (by omega)
     omega
    refine wpS_bind (jb hB (DF _) (by omega) fun st1 hB1 e1=>hj st1 hB1 ?_)
    have e1':∀ k,K (arrOf st1) k=K (arrOf st') k:=fun k=>by
     rw[e1]
     split
     ·rename_i hk
      rw[all _ (by omega) (by omega),all k (by omega) (by omega)]
     ·rfl
    refine sR (fun i j a1 a2 a3=>?_) (by omega) ?_
    ·rw[e1',e1',all i a1 (by omega),all j (by omega) a3]
     exact EL _
    ·rw[e1',e1']
     exact Fd hlt
  ·refine az y ?_
   have:n=1:=by omega
   subst this
   refine hj st' hB (sR (fun i j a1 a2 a3=>?_) (by omega) (Fd hlt))
   have:i=j:=by omega
   rw[this];exact EL _
def kS:Nat->Nat->Nat->StateT SortSt Sem Bool:=sortPriv% PySem.Builtin.binarySort
theorem yZ{st0 st:SortSt}{lo n m:Nat}{Q:Bool->SortSt->Prop}(h0:IntKeys (arrOf st0))(hn:lo+n<=(arrOf st0).size)(hm:m<=n)(hB:SB lo st0 st)(hs:Sin (arrOf st) lo m)
  (h:∀ st',SB lo st0 st'->Sin (arrOf st') lo n->Q true st'):wpS (model prog w) A E s (kS lo n m) Q st:=by
 unfold kS
 walk_at "binarySort"
 refine wpS_bind (wpS_mono (wpS_forRange (I:=fun k c st'=>c=(none,())/\SB lo st0 st'/\Sin (arrOf st') lo (min k n))
  (Q:=fun c st'=>c=(none,())/\SB lo st0 st'/\Sin (arrOf st') lo n) ?step ?fin ?init) ?post)
 case post =>
  rintro c st' ⟨rfl,hB',hs'⟩
  exact wpS_pure (h st' hB' hs')
 case init =>
  refine⟨rfl,hB,fun i j h1 h2 h3=>?_⟩
  by_cases z:m=0
  ·have:i=j:=by omega
   rw[this];exact EL _
  ·exact hs i j h1 h2 (by omega)
 case fin =>
  rintro c st' ⟨hc,hB',hs'⟩
  refine⟨hc,hB',?_⟩
  rwa[show min (max (max m 1) n) n=n by omega]at hs'
 case step =>
  rintro k c st' hak hkn ⟨rfl,hB',hs'⟩
  rw[show min k n=k by omega]at hs'
  dsimp only
  refine wpS_bind (wpS_mono (wpS_forRange (I:=fun x c st''=>st''=st'/\∃ l r,c=(none,l,r)/\l<=r/\r<=k/\r-l<=k-x /\
    (∀ i,lo<=i->i<lo+l->K (arrOf st') i<=K (arrOf st') (lo+k))/\(∀ i,lo+r<=i->i<lo+k->K (arrOf st') (lo+k)<K (arrOf st') i))
   (Q:=fun c st''=>st''=st'/\∃ l,c=(none,l,l)/\l<=k /\
    (∀ i,lo<=i->i<lo+l->K (arrOf st') i<=K (arrOf st') (lo+k))/\(∀ i,lo+l<=i->i<lo+k->K (arrOf st') (lo+k)<K (arrOf st') i)) ?istep ?ifin ⟨rfl,0,k,rfl,by omega,by omega,by omega,fun i h1 h2=>by omega,fun i h1 h2=>by omega⟩) ?ipost)
  case ifin =>
   rintro c st'' ⟨rfl,l,r,rfl,q1,q2,q3,q4,q5⟩
   have:l=r:=by omega
   subst this
   exact⟨rfl,l,rfl,q2,q4,q5⟩
  case istep =>
   rintro x c st'' _ hxk ⟨rfl,l,r,rfl,q1,q2,q3,q4,q5⟩
   dsimp only
   by_cases z:l ≥ r
   ·refine aA z ?_
    have:l=r:=by omega
    subst this
    exact wpS_pure ⟨rfl,l,rfl,q2,q4,q5⟩
   ·refine az z ?_
    refine wpS_bind (ir hB' h0 (by omega) (by omega) ?_)
    by_cases y:K (arrOf st'') (lo+k)<K (arrOf st'') (lo+(l+r)/2)
    ·simp only[y,decide_true,if_true]
     refine wpS_pure ⟨rfl,l,(l+r)/2,rfl,by omega,by omega,by omega,q4,fun i h1 h2=>?_⟩
     have:=hs' (lo+(l+r)/2) i (by omega) h1 h2
     omega
    ·simp only[y,decide_false,Ed,if_false]
     refine wpS_pure ⟨rfl,(l+r)/2+1,r,rfl,by omega,by omega,by omega,fun i h1 h2=>?_,q5⟩
     have:=hs' i (lo+(l+r)/2) h1 (by omega) (by omega)
     omega
  case ipost =>
   rintro c st'' ⟨rfl,l,rfl,q1,q2,q3⟩
   dsimp only
   have hks:lo+k<(arrOf st'').size:=by rw[hB'.size];omega
   have el:lo+k-(lo+k-(lo+l))=lo+l:=by omega
   refine wpS_bind ?_
   show wpS _ _ _ _ (moveDown' (lo+k) (lo+l)) _ _
   rw[moveDown'_eq]
   refine wpS_modify (wpS_pure ⟨rfl,hB'.set (bubble_perm _ _ _) fun i hi=>?_,?_⟩)
   ·rw[getElem?_bubble hks _ (by omega),el,if_neg (by omega),if_neg (by omega)]
   ·rw[show min (k+1) n=k+1 by omega]
    intro i j h1 h2 h3
    show K (bubble (arrOf st'') (lo+k) (lo+k-(lo+l))) i<=K (bubble (arrOf st'') (lo+k) (lo+k-(lo+l))) j
    rw[K_bubble hks (by omega),K_bubble hks (by omega),el]
    repeat' split
    all_goals first
     | (exfalso;omega)
     |exact EL _
     |exact q2 _ (by omega) (by omega)
     |exact Fd (q3 _ (by omega) (by omega))
     |exact hs' _ _ (by omega) (by omega) (by omega)
end PyProof.Rows
namespace PyProof.Rows
open PySem
local macro_rules | `(tactic| walk_at "mergeAt") => do
 let n:=Lean.mkIdent (Lean.mkPrivateNameCore `PySem.Builtin.List.W1All `PySem.Builtin.mergeAt)
 `(tactic| delta $n)
local macro_rules | `(tactic| walk_at "st") => `(tactic| try dsimp -zeta -zetaHave only)
local macro_rules | `(tactic| walk_at "l3") => `(tactic| (extract_lets -underBinder +onlyGivenNames a b c; subst a b c))
local macro_rules | `(tactic| walk_at "l11") => `(tactic| (extract_lets -underBinder +onlyGivenNames a b c d e f g h i j k; subst a b c d e f g h i j k; dsimp -zeta -zetaHave only))
local macro_rules | `(tactic| walk_at "l1") => `(tactic| (extract_lets -underBinder +onlyGivenNames a; subst a; try dsimp -zeta -zetaHave only))
local macro_rules | `(tactic| walk_at "l2") => `(tactic| (extract_lets -underBinder +onlyGivenNames a b; subst a b; try dsimp -zeta -zetaHave only))
local macro_rules | `(tactic| walk_at "l4") => `(tactic| (extract_lets -underBinder +onlyGivenNames a b c d; subst a b c d; try dsimp -zeta -zetaHave only))
variable{prog:Program}{w:World}{A:Around}{E:Value->Shared->Prop}{s:Shared}
theorem oI{P:List Keyed}{i n m:Nat}(hm:m<n):((P.drop i).take n)[m]?=P[i+m]?:=by
 rw[Fv,if_pos hm,Fm]
theorem AZ{P:List Keyed}{i n x y:Nat}{p q:Keyed}(u:Upl ((P.drop i).take n))(hp:P[i+x]?=some p)(hq:P[i+y]?=some q)(h:x<=y)(hy:y<n):ky p<=ky q :=
 vM u (i:=x) (j:=y) (by rw[oI (by omega)];exact hp) (by rw[oI hy];exact hq) h
theorem vH{st:SortSt}{key:Keyed}{arr:Array Keyed}{base n hint:Nat}{Q:Option Nat->SortSt->Prop}(hk:kindOf st=oneType')(hkey:IntP key)(u:Upl ((arr.toList.drop base).take n))(ip:∀ x∈arr.toList,IntP x)(hn:base+n<=arr.size)(hh:hint<n)
  (h:∀ k,k<=n->(∀ i,i<k->fR arr.toList base key i=true)->(∀ i,k<=i->i<n->fR arr.toList base key i=false)->Q (some k) st):wpS (model prog w) A E s ((sortPriv% PySem.Builtin.gallop) false key arr base n hint) Q st:=by
 have la:arr.toList.length=arr.size:=by simp
 refine fy (fR arr.toList base key) hk hkey (fun i hi=>?_) (fun x y hxy hy e=>?_) hh h
 ·have hx:arr.toList[base+i]?=some arr.toList[base+i]:=DB (by omega)
  exact⟨_,by rw[← hx];simp,ip _ (Ew _),by rw[km hx];rfl⟩
 ·have hx:arr.toList[base+x]?=some arr.toList[base+x]:=DB (by omega)
  have hy':arr.toList[base+y]?=some arr.toList[base+y]:=DB (by omega)
  rw[km hy']at e
  rw[km hx]
  have:=AZ u hx hy' hxy hy
  simp only[FX,decide_eq_false_iff_not]at e ⊢
  omega
theorem vI{st:SortSt}{key:Keyed}{arr:Array Keyed}{base n hint:Nat}{Q:Option Nat->SortSt->Prop}(hk:kindOf st=oneType')(hkey:IntP key)(u:Upl ((arr.toList.drop base).take n))(ip:∀ x∈arr.toList,IntP x)(hn:base+n<=arr.size)(hh:hint<n)
  (h:∀ k,k<=n->(∀ i,i<k->fL arr.toList base key i=true)->(∀ i,k<=i->i<n->fL arr.toList base key i=false)->Q (some k) st):wpS (model prog w) A E s ((sortPriv% PySem.Builtin.gallop) true key arr base n hint) Q st:=by
 have la:arr.toList.length=arr.size:=by simp
 refine fy (fL arr.toList base key) hk hkey (fun i hi=>?_) (fun x y hxy hy e=>?_) hh h
 ·have hx:arr.toList[base+i]?=some arr.toList[base+i]:=DB (by omega)
  exact⟨_,by rw[← hx];simp,ip _ (Ew _),by rw[lM hx];rfl⟩
 ·have hx:arr.toList[base+x]?=some arr.toList[base+x]:=DB (by omega)
  have hy':arr.toList[base+y]?=some arr.toList[base+y]:=DB (by omega)
  rw[lM hy']at e
  rw[lM hx]
  have:=AZ u hx hy' hxy hy
  simp only[decide_eq_true_eq]at e ⊢
  omega
theorem xc{P:List Keyed}{i n k:Nat}{y:Keyed}(h:y∈((P.drop i).take n).drop k):∃ m,k<=m/\m<n/\P[i+m]?=some y:=by
 obtain⟨m,e⟩:=xf h
 have hl:=(DC.mp e).1
 rw[DY]at hl
 rw[oI (by omega)]at e
 exact⟨k+m,by omega,by omega,e⟩
theorem fR_sh{P:List Keyed}{i n k:Nat}{v:Keyed}(h:∀ m,k<=m->m<n->fR P i v m=false):∀ y∈((P.drop i).take n).drop k,ky v<ky y:=fun y hy=>by
 obtain⟨m,h1,h2,e⟩:=xc hy
 have:=h m h1 h2
 rw[km e]at this
 simpa using this
theorem fL_sh{P:List Keyed}{i n k:Nat}{v:Keyed}(h:∀ m,k<=m->m<n->fL P i v m=false):∀ y∈((P.drop i).take n).drop k,ky v<=ky y:=fun y hy=>by
 obtain⟨m,h1,h2,e⟩:=xc hy
 have:=h m h1 h2
 rw[lM e]at this
 simp only[decide_eq_false_iff_not]at this
 omega
theorem tE(c:Nat):∀(l:List Keyed)(n:Nat)(xs:Array Keyed),c+n+l.length<=xs.size->((l.zipIdx n).foldl (fun a x=>match x with | (p,j)=>a.setIfInBounds (c+j) p) xs).toList=xs.toList.take (c+n)++l++xs.toList.drop (c+n+l.length)
 |[],n,xs,_=>by
  show xs.toList=_
  rw[Fz,Fy,Nat.add_zero,D8]
 |p::l,n,xs,h=>by
  have ll:xs.toList.length=xs.size:=by simp
  rw[DZ]at h ⊢
  rw[List.zipIdx_cons,Gz]
  show((l.zipIdx (n+1)).foldl _ (xs.setIfInBounds (c+n) p)).toList=_
  rw[tE c l (n+1) _ (by rw[Ho];omega),Hi,List.drop_set_of_lt (by omega),show c+(n+1)=c+n+1 by omega,show c+n+1+l.length=c+n+(l.length+1) by omega]
  have e:(xs.toList.set (c+n) p).take (c+n+1)=xs.toList.take (c+n)++[p]:=by
   rw[Ez,List.take_set_of_le (DF _),Gr (by omega)]
   rfl
  rw[e,D9 (xs.toList.take (c+n)) [p] l]
  rfl
theorem se{P R:List Keyed}(u:Upl P)(v:Upl R)(c:∀ x∈P,∀ y∈R,ky x<=ky y):Upl (P++R):=EB.mpr ⟨u,v,c⟩
theorem BH{σ:Type}{M:Model}{x st:σ}{Q:PUnit->σ->Prop}(h:Q ⟨⟩ x):wpS M A E s (set x:StateT σ Sem PUnit) Q st:=by
 unfold wpS
 rw[StateT.run_set]
 exact wpAny_pure ⟨rfl,h⟩
def sV:Nat->StateT SortSt Sem Bool:=sortPriv% PySem.Builtin.mergeAt
theorem qo{st:SortSt}{i sa na pa sb nb pb:Nat}{Q:Bool->SortSt->Prop}(hk:kindOf st=oneType')(hf:failedOf st=none)(h0:IntKeys (arrOf st))(p1:(pendingOf st)[i]?=some (sa,na,pa))(p2:(pendingOf st)[i+1]?=some (sb,nb,pb))(es:sb=sa+na)(a1:1<=na)(b1:1<=nb)(le:sb+nb<=(arrOf st).size)
  (s1:Upl (((arrOf st).toList.drop sa).take na)) (s2:Upl (((arrOf st).toList.drop sb).take nb))
  (h:∀(st':SortSt)(M:List Keyed),kindOf st'=oneType'->failedOf st'=none->pendingOf st'=((pendingOf st).setIfInBounds i (sa,na+nb,pa)).eraseIdxIfInBounds (i+1)->(arrOf st').toList=(arrOf st).toList.take sa++M++(arrOf st).toList.drop (sb+nb)->M.Perm (((arrOf st).toList.drop sa).take na++((arrOf st).toList.drop sb).take nb)->Upl M->Q true st') :
  wpS (model prog w) A E s (sV i) Q st:=by
 unfold sV
 walk_at "mergeAt"
 refine wpS_bind (wpS_get ?_)
 rw[show((sortPriv% PySem.Builtin.SortState.pending) st)[i]?=some (sa,na,pa) from p1,show((sortPriv% PySem.Builtin.SortState.pending) st)[i+1]?=some (sb,nb,pb) from p2]
 dsimp -zeta -zetaHave only
 refine wpS_bind (BH ?_)
 obtain⟨xs,exs⟩:∃ xs,arrOf st=xs:=⟨_,rfl⟩
 obtain⟨st1,est1⟩:∃ st1:SortSt,SortSt.mk' (kindOf st) (arrOf st) (((pendingOf st).setIfInBounds i (sa,na+nb,pa)).eraseIdxIfInBounds (i+1)) (gallopOf st) (failedOf st)=st1:=⟨_,rfl⟩
 have k1:kindOf st1=oneType':=by rw[← est1];exact hk
 have f1:failedOf st1=none:=by rw[← est1];exact hf
 have e1:arrOf st1=xs:=by rw[← est1,← exs]
 have q1:pendingOf st1=((pendingOf st).setIfInBounds i (sa,na+nb,pa)).eraseIdxIfInBounds (i+1):=by rw[← est1]
 show wpS (model prog w) A E s _ Q (SortSt.mk' (kindOf st) (arrOf st) (((pendingOf st).setIfInBounds i (sa,na+nb,pa)).eraseIdxIfInBounds (i+1)) (gallopOf st) (failedOf st))
 rw[est1]
 clear est1
 rw[show(sortPriv% PySem.Builtin.SortState.a) st=xs from exs]
 rw[exs]at h0 le s1 s2 h
 clear exs p1 p2 hf hk
 have ll:xs.toList.length=xs.size:=by simp
 have ip:∀ x∈xs.toList,IntP x:=fun x hx=>h0 x hx
 have at':∀ i,i<xs.size->∃ x,xs.toList[i]?=some x/\IntP x:=fun i hi=>⟨_,DB (by omega),ip _ (Ew _)⟩
 obtain⟨b0,hb0,ib0⟩:=at' sb (by omega)
 refine wpS_bind (aE (at_l hb0) ?_)
 refine wpS_bind (vH k1 ib0 s1 ip (by omega) (by omega) fun k kn kt kf=>?_)
 dsimp -zeta -zetaHave only
 obtain⟨S1,eS1⟩:∃ S1,(xs.toList.drop sa).take na=S1:=⟨_,rfl⟩
 obtain⟨S2,eS2⟩:∃ S2,(xs.toList.drop sb).take nb=S2:=⟨_,rfl⟩
 have l1:S1.length=na:=by rw[← eS1,DY,Ek];omega
 have l2:S2.length=nb:=by rw[← eS2,DY,Ek];omega
 have tk1:S1.take k=(xs.toList.drop sa).take k:=by rw[← eS1,Gf,Fo kn]
 have lo1:∀ x∈S1.take k,ky x<=ky b0:=by rw[tk1];exact Dd kt
 have hi1:∀ y∈S1.drop k,ky b0<ky y:=by rw[← eS1];exact fR_sh kf
 have bS:S2[0]?=some b0:=by rw[← eS2,oI (by omega)];exact hb0
 rw[eS1]at s1
 rw[eS2]at s2
 have b0l:∀ y∈S2,ky b0<=ky y:=fX (i:=0) s2 bS
 have whole:Upl (S1++S2)->Q true st1:=fun u=>h st1 (S1++S2) k1 f1 q1 (by
  rw[e1,← eS1,← eS2,← D9,es,← F8,← F8,← es,D8]) (by rw[eS1,eS2]) u
 by_cases z:(na-k == 0)=true
 ·refine aA z ?_
  have z':na-k=0:=by simpa using z
  refine wpS_pure (whole (se s1 s2 fun x hx y hy=>?_))
  have:=lo1 x (by rw[Er (by omega)];exact hx)
  have:=b0l y hy
  omega
 refine az z ?_
 have z':na-k≠0:=by simpa using z
 obtain⟨al,hal,ial⟩:=at' (sa+k+(na-k)-1) (by omega)
 have aS:S1[na-1]?=some al:=by rw[← eS1,oI (by omega),← hal];congr 1;omega
 refine wpS_bind (aE (at_l hal) ?_)
 refine wpS_bind (vI k1 ial (by rw[eS2];exact s2) ip (by omega) (by omega) fun m mn mt mf=>?_)
 dsimp -zeta -zetaHave only
 have tk2:S2.take m=(xs.toList.drop sb).take m:=by rw[← eS2,Gf,Fo mn]
 have lo2:∀ x∈S2.take m,ky x<ky al:=by rw[tk2];exact Df mt
 have hi2:∀ y∈S2.drop m,ky al<=ky y:=by rw[← eS2];exact fL_sh mf
 have all:∀ x∈S1,ky x<=ky al:=fun x hx=>iu s1 aS x (by rw[Er (by omega)];exact hx)
 by_cases y:(m == 0)=true
 ·refine aA y ?_
  have y':m=0:=by simpa using y
  subst y'
  exact wpS_pure (whole (se s1 s2 fun x hx y hy=>Int.le_trans (all x hx) (hi2 y hy)))
 refine az y ?_
 have y':m≠0:=by simpa using y
 walk_at "st"
 extract_lets -underBinder +onlyGivenNames xx yy jp
 subst xx yy
 clear_value (ej:jp=_)
 have ea:(xs.extract (sa+k) sb).toList=S1.drop k:=by
  rw[nO,← eS1,FZ,FZ,FL]
  congr 1
  omega
 have eb:(xs.extract sb (sb+m)).toList=S2.take m:=by rw[ju,tk2]
 have za:(xs.extract (sa+k) sb).size=na-k:=by rw[← DX,ea,Ek,l1]
 have zb:(xs.extract sb (sb+m)).size=m:=by rw[← DX,eb,DY];omega
 have ipa:∀ x∈(xs.extract (sa+k) sb).toList,IntP x:=fun x hx=>by
  rw[nO]at hx
  exact ip x (ER (EK hx))
 have ipb:∀ x∈(xs.extract sb (sb+m)).toList,IntP x:=fun x hx=>by
  rw[ju]at hx
  exact ip x (EK (ER hx))
 have ua:Upl (xs.extract (sa+k) sb).toList:=by rw[ea];exact s1.drop
 have ub:Upl (xs.extract sb (sb+m)).toList:=by rw[eb];exact s2.take
 have c0:∀ x y:Keyed,(xs.extract sb (sb+m)).toList[0]?=some x->y∈(xs.extract (sa+k) sb).toList->ky x<ky y:=fun x y hx hy=>by
  rw[eb,Fv,if_pos (by omega),bS]at hx
  cases hx
  rw[ea]at hy
  exact hi1 y hy
 have cl:∀ x y:Keyed,x∈(xs.extract sb (sb+m)).toList->(xs.extract (sa+k) sb).toList[(xs.extract (sa+k) sb).size-1]?=some y->ky x<ky y:=fun x y hx hy=>by
  rw[za,ea,Fm,show k+(na-k-1)=na-1 by omega,aS]at hy
  cases hy
  rw[eb]at hx
  exact lo2 x hx
 have hj:∀(R:Array Keyed)(st2:SortSt),SmG st1 st2->R.toList.Perm ((xs.extract (sa+k) sb).toList++(xs.extract sb (sb+m)).toList)->Upl R.toList->wpS (model prog w) A E s (jp R) Q st2:=by
  intro R st2 sg pm up
  rw[ej]
  clear ej jp
  walk_at "st"
  rw[ea,eb]at pm
  have rl:R.toList.length=na-k+m:=by rw[pm.length_eq,DL,Ek,DY,l1,l2];omega
  refine wpS_bind (wpS_modify ?_)
  refine wpS_bind (wpS_get ?_)
  have ff:(sortPriv% PySem.Builtin.SortState.failed) st2=none:=sg.f.trans f1
  show wpS (model prog w) A E s (pure ((sortPriv% PySem.Builtin.SortState.failed) st2).isNone) Q _
  rw[ff]
  have tk:∀ x∈S1.take k,∀ y∈S1.drop k,ky x<=ky y:=by
   have:Upl (S1.take k++S1.drop k):=by rw[D8];exact s1
   exact(EB.mp this).2.2
  have tk':∀ x∈S2.take m,∀ y∈S2.drop m,ky x<=ky y:=by
   have:Upl (S2.take m++S2.drop m):=by rw[D8];exact s2
   exact(EB.mp this).2.2
  refine wpS_pure (h _ (S1.take k++R.toList++S2.drop m) (sg.k.trans k1) rfl (sg.p.trans q1) ?_ ?_ ?_)
  ·show(R.toList.zipIdx.foldl (fun a x=>match x with | (p,j)=>a.setIfInBounds (sa+k+j) p) (arrOf st2)).toList=_
   rw[sg.a,e1,tE (sa+k) R.toList 0 xs (by omega),Nat.add_zero,rl,show sa+k+(na-k+m)=sb+m by omega,F8,← tk1]
   have ed:xs.toList.drop (sb+m)=S2.drop m++xs.toList.drop (sb+nb):=by
    rw[← FL,← eS2]
    have e:=congrArg (List.drop m) (D8 nb (xs.toList.drop sb))
    rw[G8,DY,Ek,show m-min nb (xs.toList.length-sb)=0 by omega,FY,FL]at e
    exact e.symm
   rw[ed]
   simp only[D9]
  ·rw[eS1,eS2]
   have e:S1++S2=S1.take k++(S1.drop k++S2.take m)++S2.drop m:=by
    rw[D9,D9,D8,← D9,D8]
   rw[e]
   exact(EZ _ pm).append_right _
  ·refine se (se s1.take up fun x hx y hy=>?_) s2.drop fun x hx y hy=>?_
   ·rcases DN.mp (pm.mem_iff.mp hy)with hy | hy
    ·exact tk x hx y hy
    ·have:=lo1 x hx
     have:=b0l y (ER hy)
     omega
   ·rcases DN.mp hx with hx | hx
    ·have:=lo1 x hx
     have:=b0l y (EK hy)
     omega
    ·rcases DN.mp (pm.mem_iff.mp hx)with hx | hx
     ·exact Int.le_trans (all x (EK hx)) (hi2 y hy)
     ·exact tk' x hx y hy
 clear ej
 by_cases c:na-k<=m
 ·refine aA c ?_
  exact wpS_bind (qk k1 ua ub ipa ipb (by omega) (by omega) (fun x y a b=>Fd (c0 x y a b)) cl fun R st2 sg pm up=>hj R st2 sg pm up)
 ·refine az c ?_
  exact wpS_bind (qm k1 ua ub ipa ipb (by omega) (by omega) c0 cl fun R st2 sg pm up=>hj R st2 sg pm up)
end PyProof.Rows
namespace PyProof.Rows
open PySem
local macro_rules | `(tactic| walk_at "sortRuns") => do
 let n:=Lean.mkIdent (Lean.mkPrivateNameCore `PySem.Builtin.List.W1All `PySem.Builtin.sortRuns)
 `(tactic| delta $n)
local macro_rules | `(tactic| walk_at "st") => `(tactic| try dsimp -zeta -zetaHave only)
local macro_rules | `(tactic| walk_at "l3") => `(tactic| (extract_lets -underBinder +onlyGivenNames a b c; subst a b c))
local macro_rules | `(tactic| walk_at "l11") => `(tactic| (extract_lets -underBinder +onlyGivenNames a b c d e f g h i j k; subst a b c d e f g h i j k; dsimp -zeta -zetaHave only))
local macro_rules | `(tactic| walk_at "l1") => `(tactic| (extract_lets -underBinder +onlyGivenNames a; subst a; try dsimp -zeta -zetaHave only))
local macro_rules | `(tactic| walk_at "l2") => `(tactic| (extract_lets -underBinder +onlyGivenNames a b; subst a b; try dsimp -zeta -zetaHave only))
local macro_rules | `(tactic| walk_at "l4") => `(tactic| (extract_lets -underBinder +onlyGivenNames a b c d; subst a b c d; try dsimp -zeta -zetaHave only))
variable{prog:Program}{w:World}{A:Around}{E:Value->Shared->Prop}{s:Shared}
def Rn(L:List Keyed):List (Nat×Nat×Nat)->Nat->Nat->Prop
 |[],c,e=>c=e
 |p::t,c,e=>p.1=c/\1<=p.2.1/\Upl ((L.drop p.1).take p.2.1)/\Rn L t (c+p.2.1) e
theorem Rn.le{L:List Keyed}:∀{T:List (Nat×Nat×Nat)}{c e:Nat},Rn L T c e->c+T.length<=e
 |[],c,e,h=>by cases h;exact DF _
 |p::t,c,e,⟨_,h1,_,h⟩=>by
  have:=Rn.le h
  rw[DZ]
  omega
theorem Rn.app{L:List Keyed}:∀{T1 T2:List (Nat×Nat×Nat)}{c e:Nat},Rn L (T1++T2) c e↔∃ m,Rn L T1 c m/\Rn L T2 m e
 |[],T2,c,e=>⟨fun h=>⟨c,rfl,h⟩,fun⟨m,h1,h2⟩=>by cases h1;exact h2⟩
 |p::t,T2,c,e=>by
  constructor
  ·rintro⟨h1,h2,h3,h4⟩
   obtain⟨m,g1,g2⟩:=Rn.app.mp h4
   exact⟨m,⟨h1,h2,h3,g1⟩,g2⟩
  ·rintro⟨m,⟨h1,h2,h3,g1⟩,g2⟩
   exact⟨h1,h2,h3,Rn.app.mpr ⟨m,g1,g2⟩⟩
theorem Rn.lo{L L':List Keyed}{m:Nat}(hm:L.take m=L'.take m):∀{T:List (Nat×Nat×Nat)}{c e:Nat},Rn L T c e->e<=m->Rn L' T c e
 |[],c,e,h,_=>h
 |p::t,c,e,⟨h1,h2,h3,h4⟩,he=>by
  have hl:=h4.le
  refine⟨h1,h2,?_,Rn.lo hm h4 he⟩
  have cut:∀ Z:List Keyed,(Z.drop p.1).take p.2.1=((Z.take m).drop p.1).take p.2.1:=fun Z=>by
   rw[FZ,Gf,Fo (by omega)]
  rw[cut L',← hm,← cut L]
  exact h3
theorem Rn.hi{L L':List Keyed}{m:Nat}(hm:L.drop m=L'.drop m):∀{T:List (Nat×Nat×Nat)}{c e:Nat},Rn L T c e->m<=c->Rn L' T c e
 |[],c,e,h,_=>h
 |p::t,c,e,⟨h1,h2,h3,h4⟩,he=>by
  refine⟨h1,h2,?_,Rn.hi hm h4 (by omega)⟩
  have cut:∀ Z:List Keyed,Z.drop p.1=(Z.drop m).drop (p.1-m):=fun Z=>by rw[FL];congr 1;omega
  rw[cut L',← hm,← cut L]
  exact h3
theorem Rn.like{L:List Keyed}:∀{T T':List (Nat×Nat×Nat)}{c e:Nat},T.map (fun p=>(p.1,p.2.1))=T'.map (fun p=>(p.1,p.2.1))->Rn L T c e->Rn L T' c e
 |[],[],c,e,_,h=>h
 |p::t,q::t',c,e,hm,⟨h1,h2,h3,h4⟩=>by
  rw[D6,D6]at hm
  injection hm with a b
  injection a with a1 a2
  refine⟨by rw[← a1];exact h1,by rw[← a2];exact h2,by rw[← a1,← a2];exact h3,?_⟩
  rw[← a2]
  exact Rn.like b h4
 |[],q::t',c,e,hm,h=>by cases hm
 |p::t,[],c,e,hm,h=>by cases hm
structure SI(a₀:Array Keyed)(lo:Nat)(st:SortSt):Prop where
 perm:(arrOf st).Perm a₀
 kind:kindOf st=oneType'
 failed:failedOf st=none
 rn:Rn (arrOf st).toList (pendingOf st).toList 0 lo
 le:lo<=a₀.size
theorem SI.size{a₀:Array Keyed}{lo:Nat}{st:SortSt}(h:SI a₀ lo st):(arrOf st).size=a₀.size:=h.perm.size_eq
theorem SI.keys{a₀:Array Keyed}{lo:Nat}{st:SortSt}(h:SI a₀ lo st)(h0:IntKeys a₀):IntKeys (arrOf st):=fun p hp=>h0 p ((FF.mp h.perm).mem_iff.mp hp)
theorem jw{a₀:Array Keyed}{lo i:Nat}{st:SortSt}{Q:Bool->SortSt->Prop}(h0:IntKeys a₀)(hS:SI a₀ lo st)(hi:i+1<(pendingOf st).size)(h:∀ st',SI a₀ lo st'->(pendingOf st').size+1=(pendingOf st).size->(arrOf st').toList.drop lo=(arrOf st).toList.drop lo->Q true st') :
  wpS (model prog w) A E s ((sortPriv% PySem.Builtin.mergeAt) i) Q st:=by
 have tl:(pendingOf st).toList.length=(pendingOf st).size:=by simp
 obtain⟨T,eT⟩:∃ T,(pendingOf st).toList=T:=⟨_,rfl⟩
 rw[eT]at tl
 have g1:(pendingOf st)[i]?=some T[i]:=by rw[← DB,← eT];simp
 have g2:(pendingOf st)[i+1]?=some T[i+1]:=by rw[← DB,← eT];simp
 have sp:T=T.take i++T[i]::T[i+1]::T.drop (i+2):=by
  rw[← Fn,← Fn,D8]
 obtain⟨T1,eT1⟩:∃ T1,T.take i=T1:=⟨_,rfl⟩
 obtain⟨T2,eT2⟩:∃ T2,T.drop (i+2)=T2:=⟨_,rfl⟩
 obtain⟨⟨sa,na,pa⟩,ep⟩:∃ p,T[i]=p:=⟨_,rfl⟩
 obtain⟨⟨sb,nb,pb⟩,eq⟩:∃ p,T[i+1]=p:=⟨_,rfl⟩
 have t1l:T1.length=i:=by rw[← eT1,DY];omega
 rw[ep]at g1
 rw[eq]at g2
 rw[eT1,eT2,ep,eq]at sp
 have rn:=hS.rn
 rw[eT,sp]at rn
 obtain⟨m,r1,⟨x1,x2,x3,⟨y1,y2,y3,r2⟩⟩⟩:=Rn.app.mp rn
 dsimp only at x1 x2 x3 y1 y2 y3 r2
 have le2:=r2.le
 have le:=hS.le
 have sz:=hS.size
 have ll:(arrOf st).toList.length=(arrOf st).size:=by simp
 refine qo hS.kind hS.failed (hS.keys h0) g1 g2 (by omega) x2 y2 (by omega) x3 y3 fun st' M k' f' p' e' pm up=>?_
 have Ml:M.length=na+nb:=by
  rw[pm.length_eq,DL,DY,DY,Ek,Ek]
  omega
 have hpp:(pendingOf st').toList=T1++(sa,na+nb,pa)::T2:=by
  rw[p']
  have:(((pendingOf st).setIfInBounds i (sa,na+nb,pa)).eraseIdxIfInBounds (i+1)).toList=(T.set i (sa,na+nb,pa)).eraseIdx (i+1):=by
   unfold Array.eraseIdxIfInBounds
   rw[dif_pos (by rw[Ho];exact hi),Array.toList_eraseIdx,Hi,eT]
  rw[this,sp,← t1l,List.set_append_right _ _ (DF _),E6,List.set_cons_zero,List.eraseIdx_append_of_length_le (by omega),show T1.length+1-T1.length=1 by omega]
  rfl
 have ptl:(pendingOf st').size+1=(pendingOf st).size:=by
  have a:=congrArg GK hpp
  have b:=congrArg GK sp
  simp only[DL,DZ,DX]at a b
  omega
 have es:sb=sa+na:=by omega
 have lt:((arrOf st).toList.take sa).length=sa:=by rw[DY];omega
 have tke:(arrOf st).toList.take m=(arrOf st').toList.take m:=by
  rw[e',D9,G4 (by omega),Gf,x1,Nat.min_self]
 have dre:(arrOf st).toList.drop (sb+nb)=(arrOf st').toList.drop (sb+nb):=by
  rw[e',List.drop_left' (by rw[DL,lt,Ml];omega)]
 refine h st' ⟨?_,k',f',?_,le⟩ ptl (by
  have e:=congrArg (List.drop (lo-(sb+nb))) dre
  rw[FL,FL,show sb+nb+(lo-(sb+nb))=lo by omega]at e
  exact e.symm)
 ·refine Array.Perm.trans (FF.mpr ?_) hS.perm
  rw[e']
  have e2:(arrOf st).toList=(arrOf st).toList.take sa++(((arrOf st).toList.drop sa).take na++((arrOf st).toList.drop sb).take nb)++(arrOf st).toList.drop (sb+nb):=by
   have es:sb=sa+na:=by omega
   rw[← D9,es,← F8,← F8,D8]
  exact((EZ _ pm).append_right _).trans (List.Perm.of_eq e2.symm)
 ·rw[hpp]
  refine Rn.app.mpr ⟨m,r1.lo tke (DF _),x1,by show 1<=na+nb;omega,?_,?_⟩
  ·show Upl (((arrOf st').toList.drop sa).take (na+nb))
   have:((arrOf st').toList.drop sa).take (na+nb)=M:=by
    rw[e',D9,G8,lt,E6,FY,Gs (by omega),List.nil_append,G4 (by omega),Er (by omega)]
   rw[this]
   exact up
  ·show Rn _ T2 (m+(na+nb)) lo
   have:=r2.hi dre (by omega)
   rw[show m+(na+nb)=m+na+nb by omega]
   exact this
theorem BW{xs:Array Keyed}{lo n:Nat}(h:Sin xs lo n)(hn:lo+n<=xs.size):Upl ((xs.toList.drop lo).take n):=by
 have ll:xs.toList.length=xs.size:=by simp
 refine FJ.mpr fun i j hi hj hij=>?_
 rw[DY,Ek]at hj
 rw[FV,GW,FV,GW]
 have z:=h (lo+i) (lo+j) (by omega) (by omega) (by omega)
 rw[K_eq (by omega),K_eq (by omega)]at z
 simpa[ky] using z
theorem SB.si{a₀:Array Keyed}{lo:Nat}{st0 st:SortSt}(h:SB lo st0 st)(hS:SI a₀ lo st0):SI a₀ lo st:=by
 refine⟨h.perm.trans hS.perm,h.kind,h.failed.trans hS.failed,?_,hS.le⟩
 rw[h.pend]
 refine hS.rn.lo (GZ fun i=>?_) (DF _)
 rw[Fv,Fv]
 split
 ·rename_i hi
  have:=h.low i hi
  rw[← Et,← Et]at this
  exact this.symm
 ·rfl
theorem ite_lt(c:Bool){n:Nat}(h:¬ n<=1):(if c=true then n-2-1 else n-2)+1<n:=by split<;>omega
def oB:StateT SortSt Sem Unit:=sortPriv% PySem.Builtin.sortRuns
theorem qj{a₀:Array Keyed}{st:SortSt}{Q:Unit->SortSt->Prop}(h0:IntKeys a₀)(hS:SI a₀ 0 st)(h:∀ st',(arrOf st').Perm a₀->failedOf st'=none->Upl (arrOf st').toList->Q () st'):wpS (model prog w) A E s oB Q st:=by
 unfold oB
 walk_at "sortRuns"
 refine wpS_bind (wpS_get ?_)
 rw[show((sortPriv% PySem.Builtin.SortState.a) st).size=a₀.size from hS.size]
 walk_at "st"
 walk_at "l3"
 generalize (sortPriv% PySem.Builtin.minRun) a₀.size a₀.size 0=mr
 refine wpS_bind (wpS_mono (wpS_forRange (I:=fun x c st'=>∃ lo,c=(none,lo)/\SI a₀ lo st'/\(lo=a₀.size∨x<=lo)) (Q:=fun c st'=>c=(none,a₀.size)/\SI a₀ a₀.size st') ?step ?fin ⟨0,rfl,hS,.inr (DF _)⟩) ?post)
 case fin =>
  rintro c st' ⟨lo,rfl,hS',g⟩
  have:=hS'.le
  have:lo=a₀.size:=by omega
  subst this
  exact⟨rfl,hS'⟩
 case step =>
  rintro x c st' _ hx ⟨lo,rfl,hS',g⟩
  have le:=hS'.le
  have sz:=hS'.size
  by_cases z:lo ≥ a₀.size
  ·refine aA z ?_
   have:lo=a₀.size:=by omega
   subst this
   exact wpS_pure ⟨rfl,hS'⟩
  refine az z ?_
  refine qp fun R hR=>?_
  refine wpS_bind (tX hS'.kind (hS'.keys h0) (by omega) (by omega) fun m st1 hB1 m1 m2 hs1=>?_)
  walk_at "st"
  extract_lets -underBinder +onlyGivenNames nn jp
  subst nn
  clear_value (ej:jp=_)
  have hj:∀(n:Nat)(st2:SortSt),SB lo st' st2->1<=n->lo+n<=a₀.size->Sin (arrOf st2) lo n->wpS (model prog w) A E s (jp () n) R st2:=by
   intro n st2 hB2 n1 n2 hs2
   rw[ej]
   clear ej jp
   walk_at "st"
   have S2:=hB2.si hS'
   have u2:=BW hs2 (by rw[S2.size];exact n2)
   refine wpS_bind (wpS_get ?_)
   walk_at "st"
   extract_lets -underBinder +onlyGivenNames jp
   clear_value (ej:jp=_)
   have hj:∀ st3:SortSt,SI a₀ lo st3->(arrOf st3).toList.drop lo=(arrOf st2).toList.drop lo->wpS (model prog w) A E s (jp ()) R st3:=by
    intro st3 S3 e3
    rw[ej]
    clear ej jp
    walk_at "st"
    refine wpS_bind (wpS_modify (wpS_pure (hR _ _ ⟨lo+n,rfl,⟨S3.perm,S3.kind,S3.failed,?_,n2⟩,?_⟩)))
    ·show Rn (arrOf st3).toList ((pendingOf st3).push (lo,n,0)).toList 0 (lo+n)
     rw[E8]
     refine Rn.app.mpr ⟨lo,S3.rn,rfl,n1,?_,rfl⟩
     show Upl (((arrOf st3).toList.drop lo).take n)
     rw[e3]
     exact u2
    ·rcases g with g | g
     ·exact absurd g (by omega)
     ·exact .inr (by omega)
   clear ej
   cases eb:((sortPriv% PySem.Builtin.SortState.pending) st2).back? with
   |none=>exact hj st2 S2 rfl
   |some p =>
    obtain⟨s1,n1',p1⟩:=p
    walk_at "st"
    extract_lets -underBinder +onlyGivenNames pw
    clear_value pw
    refine wpS_bind (wpS_mono (wpS_forRange (I:=fun _ c st3=>c=(none,())/\SI a₀ lo st3/\(arrOf st3).toList.drop lo=(arrOf st2).toList.drop lo) (Q:=fun c st3=>c=(none,())/\SI a₀ lo st3/\(arrOf st3).toList.drop lo=(arrOf st2).toList.drop lo) ?pstep (fun c st3 q=>q) ⟨rfl,S2,rfl⟩) ?ppost)
    case pstep =>
     rintro y c st3 _ hy ⟨rfl,S3,e3⟩
     refine wpS_bind (wpS_get ?_)
     walk_at "st"
     walk_at "l1"
     by_cases big:((sortPriv% PySem.Builtin.SortState.pending) st3).size > 1
     ·rw[if_pos big]
      obtain⟨⟨q1,q2,q3⟩,eq⟩:∃ p,((sortPriv% PySem.Builtin.SortState.pending) st3)[((sortPriv% PySem.Builtin.SortState.pending) st3).size-2]?=some p:=⟨_,getElem?_pos _ _ (by omega)⟩
      rw[eq]
      dsimp -zeta -zetaHave only
      split
      ·exact wpS_pure ⟨rfl,S3,e3⟩
      ·exact wpS_bind (jw h0 S3 (show(pendingOf st3).size-2+1<(pendingOf st3).size from by have:(pendingOf st3).size > 1:=big;omega) fun st4 S4 _ e4=>wpS_pure ⟨rfl,S4,e4.trans e3⟩)
     ·rw[if_neg big]
      exact wpS_pure ⟨rfl,S3,e3⟩
    case ppost =>
     rintro c st3 ⟨rfl,S3,e3⟩
     walk_at "st"
     walk_at "l1"
     refine wpS_bind (wpS_modify (hj _ ⟨S3.perm,S3.kind,S3.failed,?_,S3.le⟩ e3))
     refine Rn.like ?_ S3.rn
     show _=List.map _ ((pendingOf st3).modify _ _).toList
     rw[Array.toList_modify]
     refine GZ fun i=>?_
     rw[DK,DK,List.getElem?_modify]
     cases (pendingOf st3).toList[i]? with
     |none=>rfl
     |some p =>
      show some (p.1,p.2.1)=some ((if _=i then _ else p).1,(if _=i then _ else p).2.1)
      split<;>rfl
  clear ej
  by_cases c:m<mr
  ·refine aA c ?_
   refine wpS_bind (wpS_lift (wpAny_rule ⟨rfl,?_⟩))
   refine wpS_bind (yZ (hS'.keys h0) (by rw[sz];omega) (by omega) hB1 hs1 fun st2 hB2 hs2=>?_)
   exact hj _ st2 hB2 (by omega) (by omega) hs2
  ·refine az c ?_
   exact hj m st1 hB1 m1 (by omega) hs1
 case post =>
  rintro c st' ⟨rfl,hS'⟩
  walk_at "st"
  walk_at "l1"
  have pl:(pendingOf st').size<=a₀.size:=by
   have:=hS'.rn.le
   rw[DX]at this
   omega
  refine wpS_bind (wpS_mono (wpS_forRange (I:=fun x c st3=>c=(none,())/\SI a₀ a₀.size st3/\((pendingOf st3).size<=1∨(pendingOf st3).size+x<=a₀.size)) (Q:=fun c st3=>c=(none,())/\SI a₀ a₀.size st3/\(pendingOf st3).size<=1) ?fstep ?ffin ⟨rfl,hS',.inr pl⟩) ?fpost)
  case ffin =>
   rintro c st3 ⟨rfl,S3,g⟩
   exact⟨rfl,S3,by omega⟩
  case fpost =>
   rintro c st3 ⟨rfl,S3,g⟩
   refine wpS_pure (h st3 S3.perm S3.failed ?_)
   have rn:=S3.rn
   have sz:=S3.size
   have ll:(arrOf st3).toList.length=(arrOf st3).size:=by simp
   have tl:(pendingOf st3).toList.length=(pendingOf st3).size:=by simp
   match e:(pendingOf st3).toList with
   |[] =>
    rw[e]at rn
    have rn':0=a₀.size:=rn
    rw[Ff (show(arrOf st3).toList.length=0 by omega)]
    exact FW
   |[p] =>
    rw[e]at rn
    obtain⟨r1,_,r3,r4⟩:=rn
    have r4':0+p.2.1=a₀.size:=r4
    rw[r1,FY,Er (by omega)]at r3
    exact r3
   |p::q::t =>
    rw[e]at tl
    simp only[DZ]at tl
    omega
  case fstep =>
   rintro x c st3 _ hx ⟨rfl,S3,g⟩
   refine wpS_bind (wpS_get ?_)
   by_cases z:((sortPriv% PySem.Builtin.SortState.pending) st3).size<=1
   ·refine aA z ?_
    exact wpS_pure ⟨rfl,S3,z⟩
   refine az z ?_
   refine wpS_bind (jw h0 S3 (ite_lt _ z) fun st4 S4 p4 _=>wpS_pure ⟨rfl,S4,?_⟩)
   have z':¬ (pendingOf st3).size<=1:=z
   omega
end PyProof.Rows
namespace PyProof.Rows
open PySem
variable{prog:Program}{w:World}{A:Around}{E:Value->Shared->Prop}{s:Shared}
theorem upl_to{xs:Array Keyed}(u:Upl xs.toList):SortedTo xs xs.size:=fun i j hij hj=>by
 have ll:xs.toList.length=xs.size:=by simp
 have hi':i<xs.size:=by omega
 rw[K_eq hi',K_eq hj]
 have:=vM u (i:=i) (j:=j) (DB (by omega)) (DB (by omega)) hij
 simpa[ky] using this
theorem zg{a:Addr}{vs:List Value}{ns:List Int}{n:Nat}{P:Fin->Shared->Prop} (ho:s.heap.get? a=some (seqObj "list" vs.toArray n)) (hI:IntsAre vs ns) (hz:vs.length<=sizeLine)
  (h:∀(out:Array Value)(ns':List Int),IntsAre out.toList ns'->ns'.Perm ns->ns'.Pairwise (·<=·)->P (.done (.ret .none)) { s with heap:=sortedHeap s.heap a vs out }) :
  wpAny (model prog w) A (Builtin.«list.sort» ⟨[.ref a],[]⟩) P E s:=by
 by_cases h64:vs.length<64
 ·exact list_sort_tree ho hI h64 h
 obtain⟨v₁,v₂,rest,e⟩:∃ v₁ v₂ rest,vs=v₁::v₂::rest:=by
  match vs,h64 with
  |[],h64=>exact absurd (by decide) h64
  |[_],h64=>exact absurd (by show 1<64;decide) h64
  |v₁::v₂::rest,_=>exact⟨v₁,v₂,rest,rfl⟩
 have sz:vs.toArray.size=vs.length:=by simp
 have ha:a<s.heap.objs.size:=Heap.lt_size ho
 rw[list_sort_plain]
 refine wpAny_bind (listItems_at ho rfl (wpAny_bind (listUpdate_at ho rfl ?_)))
 obtain⟨e1,ho1⟩:∃ e1,(s.heap.update a (Obj.mapSeq fun _=>#[])).get? a=some (seqObj "list" #[] e1):=⟨_,get?_update_seq ho (fun _=>#[])⟩
 refine wpAny_bind (seqEpoch_at ho1 rfl (wpAny_bind (wpAny_newTuple (wpAny_bind (wpAny_newList (wpAny_holding ?_))))))
 have ho6:(((s.heap.update a (Obj.mapSeq fun _=>#[])).push (seqObj "tuple" vs.toArray 0)).push (seqObj "list" #[] 0)).get? a=some (seqObj "list" #[] e1):=by
  rw[Heap.get?_push_ne _ _ _ (by rw[size_push',Heap.size_update];exact DO (EX ha)),Heap.get?_push_ne _ _ _ (by rw[Heap.size_update];exact DO ha)]
  exact ho1
 show wpAny (model prog w) A _ P E { s with heap:=((s.heap.update a (Obj.mapSeq fun _=>#[])).push (seqObj "tuple" vs.toArray 0)).push (seqObj "list" #[] 0) }
 have n2:¬ vs.toArray.size<2:=by omega
 dsimp only
 rw[if_neg n2,if_neg n2]
 have kk:keyKind' vs.toArray=pure oneType':=by subst e;exact keyKind_ints hI
 rw[kk]
 refine wpAny_bind (wpAny_pure ?_)
 have run:=qj (prog:=prog) (w:=w) (A:=A) (E:=E) (s:={ s with heap:=((s.heap.update a (Obj.mapSeq fun _=>#[])).push (seqObj "tuple" vs.toArray 0)).push (seqObj "list" #[] 0) }) (a₀:=pairsOf vs) (st:=SortSt.mk' oneType' (vs.toArray.zip vs.toArray) #[] 7 none)
  (Q:=fun _ st'=>(arrOf st').Perm (pairsOf vs)/\failedOf st'=none/\Upl (arrOf st').toList) hI.intKeys ⟨Array.Perm.refl _,rfl,rfl,rfl,Eu _⟩ fun st' q1 q2 q3=>⟨q1,q2,q3⟩
 refine wpAny_bind (wpAny_mono run ?_ fun _ _ e=>e)
 rintro⟨⟨⟩,st'⟩ s' ⟨rfl,hp,hf,hu⟩
 dsimp only
 refine wpAny_bind (seqEpoch_at ho6 rfl ?_)
 refine wpAny_bind (listUpdate_at ho6 rfl ?_ (hsz2:=by refine E7 (Nat.le_of_eq ((Array.size_map ..).trans (hp.size_eq.trans (pairsOf_size _)))) ?_;omega))
 rw[hf]
 simp only[bne_self_eq_false,Ed,if_false]
 obtain⟨ns',h1,h2,h3⟩:=sorted_out hI hp (by rw[← hp.size_eq];exact upl_to hu)
 exact wpAny_pure (h _ ns' h1 h2 h3)
end PyProof.Rows
namespace L2
open PySem PySem.Spec PyProof.Rows
section
variable{X:Cx}
end
end L2
namespace L2
open PySem PySem.Spec PyProof.Rows
section
variable{X:Cx}
def rCount(K:DE):V->List V->Hp->VK->Prop:=fun x vs H Q=>∃(l:Addr)(ns:List Int)(k:Int),x=.ref l/\vs = [.int k]/\SqL K H l (ns.map V.int)/\Q (.int ((ns.count k:Nat):Int)) H
theorem zW:MtM X "list.count" (rCount X.K):=by
 intro pins s σ H x vs v us Q I rx rv h
 obtain⟨l,ns,k,rfl,rfl,hq,q⟩:=h
 cases rx
 obtain⟨u,rfl,ru⟩:=rv.one
 obtain⟨t,rfl⟩:=ru
 obtain⟨its,r,pl,hz⟩:=I.list hq
 refine count_list_ints pl.isList (jk r) ?_
 exact⟨.int _,H,I.tok _,⟨_,rfl⟩,q⟩
end
end L2
namespace L2
open PySem PySem.Spec PyProof.Rows
section
variable{prog:Program}{w:World}{A:Around}{E:Value->Shared->Prop}{s:Shared}{z TI TO i1 i2 l1 l2:Addr}{f0:Value}{f1:Bool}
end
section
variable{X:Cx}
end
end L2
namespace L2
open PySem PySem.Spec PyProof.Rows
section
variable{X:Cx}
end
end L2
namespace L2
open PySem PySem.Spec PyProof.Rows
section
variable{prog:Program}{w:World}{A:Around}{E:Value->Shared->Prop}{s:Shared}{d:Addr}
def Ent(h:Heap)(d:Addr)(es:Array DictEntry)(ep:Nat):Prop:=∃ o,h.get? d=some o/\o.ExactDict/\o.data=.dict es ep
theorem Ent.ty{es:Array DictEntry}{ep:Nat}(x:Ent s.heap d es ep):s.TypeIs (.ref d) "dict":=by
 obtain⟨o,h1,h2,_⟩:=x
 exact⟨o,h1,h2.1⟩
theorem As(hd:(d == sysModules)=false):MeetsIn prog w (Builtin.«dict.items» ⟨[.ref d],[]⟩) (fun _ R s=>(∃ es ep,Ent s.heap d es ep)/\R (.ok (.ret (.ref s.heap.objs.size))) { s with heap:=s.heap.push { cls:=.type "dict_items",data:=.fields #[.ref d] } }) :=
 .of_wp fun A R s ⟨⟨es,ep,hm⟩,h⟩=>by
  unfold Builtin.«dict.items» Builtin.Dict.noArgs
  refine wpAny_bind (wpAny_bind (wpAny_notOrdered_dict hm.ty ?_))
  show wpAny _ _ (pure d) _ _ s
  refine wpAny_pure ?_
  show wpAny _ _ (Builtin.Dict.showsAll d >>= _) _ _ s
  unfold Builtin.Dict.showsAll
  rw[if_neg (by simp[hd])]
  exact wpAny_bind (wpAny_pure (wpAny_bind (wpAny_newObj_type (wpAny_pure ⟨_,rfl,h⟩))))
theorem Au{v:Addr}{es:Array DictEntry}{ep:Nat}{Q:Value->Shared->Prop}(hv:s.heap.IsItemsView v d)(hm:Ent s.heap d es ep)
  (hQ:Q (.ref s.heap.objs.size) { s with heap:=s.heap.push { cls:=.type "dict_itemiterator",data:=.fields #[.none,.bool false,.ref d,.int 0 0,.int es.size 0,.int ep 0,.none,.none] } }) :
  wpAny (model prog w) A (pyIter (.ref v)) Q E s:=by
 obtain⟨ov,h1,h2,h3⟩:=id hv
 obtain⟨o,e1,e2,e3⟩:=hm
 refine wpAny_pyIter_slot hv.typeIs F.slot_dict_items_iter (wpAny_call_entry F.slot_dict_items_iter hv.typeIs F.entry_dict_items_iter ?_ (F.args_dict_items_iter_1 _))
 show wpAny _ _ (Builtin.«dict_items.__iter__» _) _ _ s
 unfold Builtin.«dict_items.__iter__» Builtin.Dict_items.dictOf Builtin.Dict_items.newIterator
 refine wpAny_bind (wpAny_pure (wpAny_bind (wpAny_bind (wpAny_field h1 h3 (x:=.ref d) rfl (wpAny_pure (wpAny_bind (wpAny_bind (wpAny_dictEntries e1 e3 (wpAny_bind (wpAny_dictEpoch e1 e3 ?_))))))))))
 simp only[show Builtin.Dict_items.ownsTuple "dict_itemiterator" = true by decide,if_true]
 refine wpAny_newObj_type (wpAny_pure ⟨_,rfl,"dict_itemiterator",_,⟨_,Heap.get?_push_size _ rfl,rfl⟩,F.slot_dict_itemiterator_next.lookup,?_⟩)
  (by simp only[sizeOk,Builtin.Dict_items.ownedTupleFields,DT,DL,DZ,Fy,sizeLine_eq];omega)
 simpa[rawInt,Builtin.Dict_items.ownedTupleFields] using hQ
theorem xV{it:Addr}{i ep:Nat}{es:Array DictEntry}{ok ov:Value}{Q:Option Value->Shared->Prop}(hit:IsItemIter s.heap it d i es.size ep ok ov)(hm:Ent s.heap d es ep)(hh:A.handled=none)
  (hI:∀ e,es[i]?=some e->∀ h',IsItemIterOut h' it d (i+1) es.size ep e.key e.val s.heap.objs.size->h'.get? s.heap.objs.size=some { cls:=.type "tuple",data:=.seq #[e.key,e.val] }->(∀ b o,b≠it->s.heap.get? b=some o->h'.get? b=some o)->Q (some (.ref s.heap.objs.size)) { s with heap:=h' })
  (hE:es[i]?=none->∀ h',Heap.ExtBut it s.heap h'->Q none { s with heap:=h' }):wpAny (model prog w) A (pyNext (.ref it)) Q E s:=by
 obtain⟨o,e1,e2,e3⟩:=hm
 have hT:s.TypeIs (.ref it) "dict_itemiterator":=⟨_,hit,rfl⟩
 have own:Builtin.Dict_items.ownsTuple "dict_itemiterator" = true:=by decide
 unfold pyNext
 refine wpAny_bind (wpAny_attempt (wpAny_callSpecial?_slot (name:=Str.ofString "__next__") hT F.slot_dict_itemiterator_next (wpAny_call_entry F.slot_dict_itemiterator_next hT F.entry_dict_itemiterator_next ?_ (F.args_dict_itemiterator_next_1 _))))
 refine wpAny_bind (wpAny_pure (wpAny_bind (wpAny_bind (wpAny_bind (wpAny_typeNameOfWhole_itemiter hT (wpAny_pure ?_))))))
 refine wpAny_bind (wpAny_fieldsOf hit rfl ?_)
 simp only[own,if_true]
 show wpAny _ _ (if(Value.ref d == Value.none)=true then _ else _) _ _ _
 rw[if_neg (show ¬ ((Value.ref d == Value.none)=true) from DW)]
 refine wpAny_bind (wpAny_pure (wpAny_bind (wpAny_dictEntries e1 e3 ?_)))
 rw[if_neg (by simp)]
 refine wpAny_bind (wpAny_pure (wpAny_bind (wpAny_dictEpoch e1 e3 ?_)))
 rw[if_neg (by simp)]
 refine wpAny_pure ?_
 have n0:¬ ((i:Int)<0):=by omega
 simp only[n0,if_false,DV]
 cases he:es[i]? with
 |none =>
  refine wpAny_bind (wpAny_bind (wpAny_typeNameOfWhole_itemiter hT (wpAny_pure ?_)))
  show wpAny _ _ (setField (.ref it) 2 .none >>= _) _ _ s
  refine wpAny_bind (wpAny_setField hit rfl (by simp) ?_)
  show wpAny _ _ (newExc (.type "StopIteration") [] >>= _) _ _ _
  refine wpAny_bind ?_
  simp only[newExc,newTuple]
  refine wpAny_bind (wpAny_newObj_type (wpAny_bind (m:=firstArgMember _ _) (wpAny_of_eq (a:=Value.none) (by first | rfl | (simp only[firstArgMember];rfl)) (wpAny_newObj_type ?_ (by size_fits)))) (by size_fits))
  simp only[raiseNew]
  refine wpAny_bind (wpAny_handled ?_)
  rw[show A.in1.handled=none from hh]
  refine wpAny_bind (wpAny_pure (wpAny_throw ?_))
  refine wpAny_bind (wpAny_isInstance (T:="StopIteration") (b:=true) ⟨_,Heap.get?_push_size _ rfl,rfl⟩ isSubtype_stop (wpAny_pure ?_))
  exact hE he _ (((Heap.SameBut.update ..).extBut.push _).push _)
 |some e =>
  refine wpAny_bind (wpAny_bind (wpAny_typeNameOfWhole_itemiter hT (wpAny_pure ?_)))
  refine wpAny_bind (wpAny_isOneOf_itemiter hT ?_)
  show wpAny _ _ (setField (.ref it) 3 (rawInt ((i:Int)+1)) >>= _) _ _ s
  refine wpAny_bind (wpAny_setField_rec hit (by simp) fun g1 q1 k1=>?_)
  have c1:((i+1:Nat):Int)=(i:Int)+1:=by omega
  have q1':IsItemIter g1 it d (i+1) es.size ep ok ov:=by
   unfold IsItemIter
   rw[c1]
   simpa[rawInt] using q1
  have lt:it<s.heap.objs.size:=Heap.lt_size hit
  have z1:g1.objs.size=s.heap.objs.size:=k1.1
  have hT1:Shared.TypeIs { s with heap:=g1 } (.ref it) "dict_itemiterator":=⟨_,q1',rfl⟩
  refine wpAny_bind (wpAny_holding (wpAny_bind (wpAny_isOneOf_itemiter hT1 (wpAny_bind (wpAny_isOneOf_itemiter hT1 ?_)))))
  show wpAny _ _ (Builtin.Dict_items.pairFromOwner (.ref it) 6 e.key e.val) _ _ { s with heap:=g1 }
  unfold Builtin.Dict_items.pairFromOwner Builtin.Dict_items.ownedTupleIsFree
  refine wpAny_bind (wpAny_newTuple ?_)
  have q2:IsItemIter (g1.push { cls:=.type "tuple",data:=.seq #[e.key,e.val] }) it d (i+1) es.size ep ok ov:=Heap.get?_push_of_some _ q1'
  have t2:(g1.push { cls:=.type "tuple",data:=.seq #[e.key,e.val] }).get? s.heap.objs.size=some { cls:=.type "tuple",data:=.seq #[e.key,e.val] }:=by rw[← z1];exact Heap.get?_push_size _ rfl
  have k2:∀ b o,b≠it->s.heap.get? b=some o->(g1.push { cls:=.type "tuple",data:=.seq #[e.key,e.val] }).get? b=some o:=fun b o hb q=>Heap.get?_push_of_some _ (k1.extBut b o hb q)
  rw[z1]
  generalize g1.push { cls:=.type "tuple",data:=.seq #[e.key,e.val] }=g2 at q2 t2 k2
  show wpAny _ _ (_ >>= _) _ _ { s with heap:=g2 }
  refine wpAny_bind (wpAny_bind (wpAny_field q2 rfl (x:=.none) rfl (wpAny_pure ?_)))
  simp only[if_true]
  refine wpAny_bind (wpAny_field q2 rfl (x:=ok) rfl (wpAny_bind (wpAny_field q2 rfl (x:=ov) rfl ?_)))
  refine wpAny_bind (wpAny_setField_rec q2 (by simp) fun g3 q3 k3=>?_)
  replace q3:IsItemIter g3 it d (i+1) es.size ep e.key ov:=q3
  refine wpAny_bind (wpAny_setField_rec q3 (by simp) fun g4 q4 k4=>?_)
  replace q4:IsItemIter g4 it d (i+1) es.size ep e.key e.val:=q4
  refine wpAny_bind (wpAny_setField_rec q4 (by simp) fun g5 q5 k5=>?_)
  replace q5:IsItemIterOut g5 it d (i+1) es.size ep e.key e.val s.heap.objs.size:=q5
  refine wpAny_bind (wpAny_setField_rec q5 (by simp) fun g6 q6 k6=>?_)
  replace q6:IsItemIterOut g6 it d (i+1) es.size ep e.key e.val s.heap.objs.size:=q6
  have up:∀ b o,b≠it->g2.get? b=some o->g6.get? b=some o:=fun b o hb q=>k6.extBut b o hb (k5.extBut b o hb (k4.extBut b o hb (k3.extBut b o hb q)))
  exact wpAny_bind (wpAny_letGo (wpAny_pure (wpAny_pure ⟨_,rfl,wpAny_pure (hI e he g6 q6 (up _ _ (EJ lt) t2) fun b o hb q=>up b o hb (k2 b o hb q))⟩)))
end
def tw(v d:Addr):HO:=.ext fun h=>h.IsItemsView v d
def KvA(H:Hp)(u:HO)(i:Nat)(x y:V):Prop:=(∃ kvs k,u=.dK kvs/\kvs[i]?=some (k,y)/\x=kV k)∨∃ kvs k t,u=.dT kvs/\kvs[i]?=some (k,y)/\x=.ref t/\H t=some (.tup (k.map kV))
def dlen:HO->Nat
 |.dK kvs=>kvs.length
 |.dT kvs=>kvs.length
 |_=>0
def isDct:HO->Prop
 |.dK _=>True
 |.dT _=>True
 |_=>False
theorem ng{α β:Type}{F:α->β->Prop}:∀{l₁:List α}{l₂:List β},Paired F l₁ l₂->∀{i:Nat}{b:β},l₂[i]?=some b->∃ a,l₁[i]?=some a/\F a b
 |_,_,.nil,i,b,e=>by simp at e
 |_,_,.cons r t,0,b,e=>⟨_,rfl,by cases e;exact r⟩
 |_,_,.cons r t,i+1,b,e=>ng t (i:=i) e
theorem Bo{P:Program}{w:World}{H:Hp}{h:Heap}{d:Addr}{u:HO}(hd:isDct u)(x:bD P w H h d u):(d == sysModules)=false/\∃ es ep,Ent h d es ep/\es.size=dlen u/\∀ i e,es[i]?=some e->∃ x y,KvA H u i x y/\RelV x e.key/\RelV y e.val:=by
 cases u with
 |dK kvs =>
  obtain⟨hz,lo,vs,rk,o,es,ep,h1,h2,h3,h4,h5,h6⟩:=x
  have l1:kvs.length=vs.length:=Paired.length rk
  have sz:es.size=vs.length:=by rw[← h5.length,DX]
  refine⟨lo,es,ep,⟨o,h1,h2,h3⟩,by rw[sz];exact l1.symm,fun i e he=>?_⟩
  have hi:i<vs.length:=by
   have:i<es.size:=(Gd.mp he).1
   omega
  obtain⟨⟨k,v⟩,hv⟩:∃ q,vs[i]?=some q:=⟨_,DB hi⟩
  obtain⟨hk,hval⟩:=h5.get? (e:=e) (by rw[Et];exact he) hv
  obtain⟨⟨k',y⟩,hy,ek,ry⟩:=ng rk hv
  have ek':k'=k:=ek
  subst ek'
  refine⟨kV k',y,.inl ⟨kvs,k',rfl,hy,rfl⟩,?_,by rw[hval];exact ry⟩
  rcases aO (show nF k' e.key=true from hk) with⟨j,t,e1,e2⟩ | ⟨z,t,e1,e2⟩
  ·rw[e1,e2];exact⟨t,rfl⟩
  ·rw[e1,e2];exact⟨t,rfl⟩
 |dT kvs =>
  obtain⟨hz,lo,xs,r,o,es,ep,h1,h2,h3,h4,h5⟩:=x
  have sz:es.size=xs.length:=by rw[← DX,h4,DG]
  refine⟨lo,es,ep,⟨o,h1,h2,h3⟩,by rw[sz];exact r.length.symm,fun i e he=>?_⟩
  have e1:es.toList[i]?=some e:=by rw[Et];exact he
  rw[h4,DK]at e1
  cases hx:xs[i]? with
  |none=>rw[hx]at e1;cases e1
  |some q =>
   rw[hx]at e1
   cases e1
   obtain⟨⟨k,y⟩,hy,ek,ht,ry⟩:=ng r hx
   exact⟨.ref q.2.1,y,.inr ⟨kvs,k,q.2.1,rfl,hy,rfl,ht⟩,rfl,ry⟩
 |_=>exact hd.elim
section
variable{X:Cx}{pins:List (Addr×Obj)}{σ:St}{H:Hp}{s:Shared}{d:Addr}{u:HO}{o:Obj}
theorem zV:MtR X "dict.items" (fun x xs H Q=>∃ d u,x=.ref d/\xs = []/\H d=some u/\isDct u/\∀ v,H v=none->Q (.ref v) (upd H v (tw v d))):=by
 intro pins s σ H x xs v us Q I rx rv h
 obtain⟨d,u,rfl,rfl,hd,hu,q⟩:=h
 cases rx
 have hus:=rv.zero
 subst hus
 obtain⟨lo,es,ep,hm,_⟩:=Bo hu (I.hok d _ hd)
 refine call_meetsIn Hu hm.ty PySem.F.entry_dict_items (PySem.F.args_dict_items_1 _) (As lo) ⟨⟨es,ep,hm⟩,?_⟩
 have hv:(s.heap.push { cls:=.type "dict_items",data:=.fields #[.ref d] }).IsItemsView s.heap.objs.size d:=⟨_,Heap.get?_push_size _ rfl,rfl,rfl⟩
 refine⟨.ref s.heap.objs.size,_,I.laid (t':=s.toks) (fun b o e=>Heap.get?_push_of_some _ e) (DF _) ?_,rfl,q _ (I.hok.fresh (DF _))⟩
 exact⟨hv,⟨_,Heap.get?_push_size _ rfl⟩,fun h1 h2 x k=>let ⟨o,ho,r⟩:=x;⟨o,k _ ho,r⟩⟩
end
section
variable{X:Cx}
end
end L2
namespace L2
open PySem PySem.Spec PyProof.Rows
section
open PySem.W
def KOk{α:Type}(n:Nat):KasT α->(α->Prop)->Prop
 |.ret a,P=>P a
 |.ask i j k,P=>i<n/\j<n/\∀ b,KOk n (k b) P
theorem KOk.bind{α β:Type}{n:Nat}{f:α->KasT β}{P:β->Prop}:∀{t:KasT α},KOk n t (fun a=>KOk n (f a) P)->KOk n (t.bind f) P
 |.ret _,h=>h
 |.ask _ _ _,h=>⟨h.1,h.2.1,fun b=>KOk.bind (h.2.2 b)⟩
theorem KOk.imp{α:Type}{n:Nat}{P P':α->Prop}(hp:∀ a,P a->P' a):∀{t:KasT α},KOk n t P->KOk n t P'
 |.ret _,h=>hp _ h
 |.ask _ _ _,h=>⟨h.1,h.2.1,fun b=>KOk.imp hp (h.2.2 b)⟩
theorem KOk.wp{α:Type}{n:Nat}{P:α->Prop}{s:Shared}{cmp:Nat->Nat->(Bool->Shared->Prop)->Shared->Prop}{Q:α->Shared->Prop}(hc:∀ i j C,i<n->j<n->(∀ b,C b s)->cmp i j C s)(hq:∀ a,P a->Q a s):∀{t:KasT α},KOk n t P->t.kasWp cmp Q s
 |.ret _,h=>hq _ h
 |.ask i j k,h=>hc i j _ h.1 h.2.1 fun b=>KOk.wp hc hq (h.2.2 b)
def Ltn(n:Nat)(p:Array Nat):Prop:=p.size=n/\∀ x∈p.toList,x<n
theorem Ltn.at{n:Nat}{p:Array Nat}(hn:0<n)(h:Ltn n p)(i:Nat):p.getD i 0<n:=by
 by_cases hi:i<p.size
 ·have:p.getD i 0=p[i]:=by simp[F9,hi]
  rw[this]
  exact h.2 _ (Array.getElem_mem_toList hi)
 ·have:p.getD i 0=0:=by simp[F9,hi]
  rw[this]
  exact hn
theorem Ltn.perm{n:Nat}{p q:Array Nat}(h:Ltn n p)(hp:q.Perm p):Ltn n q:=by
 have hp':=FF.mp hp
 exact⟨by rw[← h.1];exact hp.size_eq,fun x hx=>h.2 x (hp'.mem_iff.mp hx)⟩
theorem Ltn.rev{n:Nat}{p:Array Nat}(h:Ltn n p)(i j:Nat):Ltn n (kas_rev p i j):=h.perm (mirror_perm _ _ _ _)
theorem CT{n:Nat}{p:Array Nat}(hn:0<n)(h:Ltn n p):∀ f m,KOk n (kas_asc p f m) fun _=>True
 |0,_=>trivial
 |f+1,m=>⟨h.at hn _,h.at hn _,fun b=>by
  cases b with
  |true=>exact trivial
  |false=>exact CT hn h f (m+1)⟩
theorem tq{n:Nat}(hn:0<n):∀ f p m q,Ltn n p->KOk n (kas_desc f p m q) fun r=>Ltn n r.1
 |0,_,_,_,h=>h
 |f+1,p,m,q,h=>⟨h.at hn _,h.at hn _,fun b=>by
  cases b with
  |true =>
   show KOk n (if q > 0 then _ else _) _
   split
   ·exact tq hn f _ _ _ (h.rev _ _)
   ·exact tq hn f _ _ _ h
  |false=>exact⟨h.at hn _,h.at hn _,fun d=>by
    cases d with
    |true=>exact h
    |false=>exact tq hn f _ _ _ h⟩⟩
theorem Bi{n:Nat}{p:Array Nat}(hn:0<n)(h:Ltn n p)(a b:Nat):KOk n (kas_tail3 a b p) fun r=>Ltn n r.2 :=
 KOk.bind ((CT hn (h.rev 0 a) _ _).imp fun _ _=>h.rev 0 a)
theorem Bj{n:Nat}{p:Array Nat}(hn:0<n)(h:Ltn n p)(a b:Nat):KOk n (kas_descPart a b p) fun r=>Ltn n r.2 :=
 KOk.bind ((tq hn _ _ _ _ h).imp fun r hr=>by
  show KOk n (if r.2.2 > 0 then _ else _) _
  split
  ·exact Bi hn (hr.rev _ _) _ _
  ·exact Bi hn hr _ _)
theorem CS{n:Nat}{p:Array Nat}(hn:0<n)(h:Ltn n p)(a:Nat):KOk n (kas_count a p) fun r=>Ltn n r.2 :=
 KOk.bind ((CT hn h _ _).imp fun m _=>by
  show KOk n (if(m == a)=true then _ else if m > 1 then _ else _) _
  split
  ·exact h
  ·split
   ·exact⟨h.at hn _,h.at hn _,fun b=>by
     cases b with
     |true=>exact h
     |false=>exact Bj hn (h.rev _ _) _ _⟩
   ·exact Bj hn h _ _)
theorem qX{n:Nat}{p:Array Nat}(hn:0<n)(h:Ltn n p)(k:Nat):∀ f l r,KOk n (kas_place p k f l r) fun _=>True
 |0,_,_=>trivial
 |f+1,l,r=>by
  show KOk n (if l ≥ r then _ else _) _
  split
  ·exact trivial
  ·exact⟨h.at hn _,h.at hn _,fun b=>by
    cases b with
    |true=>exact qX hn h k f _ _
    |false=>exact qX hn h k f _ _⟩
theorem k_bin{n:Nat}(hn:0<n):∀ f p k,Ltn n p->KOk n (kas_bin f p k) fun r=>Ltn n r
 |0,_,_,h=>h
 |f+1,p,k,h=>KOk.bind ((qX hn h k _ _ _).imp fun l _=>k_bin hn f _ _ (h.perm (bubble_perm _ _ _)))
theorem k_sort{n:Nat}(hn:0<n):KOk n (kas_sort n) (Ltn n):=by
 have h:Ltn n (List.toArray (EA n)):=⟨by simp,fun x hx=>by simpa using hx⟩
 exact KOk.bind ((CS hn h n).imp fun r hr=>by
  show KOk n (if r.1<n then _ else _) _
  split
  ·exact k_bin hn _ _ _ hr
  ·exact hr)
end
section
open PySem.W
variable{prog:Program}{w:World}{A:Around}{E:Value->Shared->Prop}{s:Shared}
def PrV(h:Heap)(v:Value):Prop:=∃ a o n x y tx ty,v=.ref a/\h.get? a=some o/\o.cls=.type "tuple"/\o.data=.seq #[.int x tx,.int y ty] n
theorem PrV.keep{h h':Heap}{v:Value}(p:PrV h v)(k:∀ b o,v=.ref b->h.get? b=some o->h'.get? b=some o):PrV h' v:=by
 obtain⟨a,o,n,x,y,tx,ty,rfl,h1,r⟩:=p
 exact⟨a,o,n,x,y,tx,ty,rfl,k _ _ rfl h1,r⟩
theorem prv_lt{u v:Value}{b:Bool}{Q:Bool->Shared->Prop}(hu:PrV s.heap u)(hv:PrV s.heap v)(hb:b=true)(h:∀ c,Q c s):wpAny (model prog w) A (keyLt' (tuples' b) u v) Q E s:=by
 obtain⟨a,o,n,x,y,tx,ty,rfl,h1,h2,h3⟩:=hu
 obtain⟨a',o',n',x',y',tx',ty',rfl,k1,k2,k3⟩:=hv
 subst hb
 refine kat_lt h1 h3 k1 k3 ?_
 refine kat_cons (wpAny_eqBool_int ?_)
 refine kat_go (fun _=>kat_yes (kat_cons (wpAny_eqBool_int (kat_go (fun _=>kat_yes (kat_nil (h _))) fun _=>kat_no ?_)))) fun _=>kat_no (oneLt_int (h _))
 exact kat_one _ _ (PyProof.Rows.lt_int (show PySem.W.BoolBack Q (.bool _) s from h _))
theorem sJ{M:Model}:∀{vs:List Value},(∀ v∈vs,PrV s.heap v)->∃ fs,KatTups s.heap vs fs/\fs.length=vs.length/\∀ v∈fs,Looks M s.heap (typeOf v) (.type "int")
 |[],_=>⟨[],trivial,rfl,fun v hv=>nomatch hv⟩
 |v::vs,h=>by
  obtain⟨fs,h1,h2,h3⟩:=sJ (M:=M) (vs:=vs) fun u hu=>h u (DM _ hu)
  obtain⟨a,o,n,x,y,tx,ty,rfl,k1,k2,k3⟩:=h v (DU ..)
  refine⟨.int x tx::fs,KatTups.cons k1 k2 k3 rfl h1,by rw[DZ,DZ,h2],fun u hu=>?_⟩
  rcases DI.mp hu with rfl | hu
  ·exact .now
  ·exact h3 u hu
theorem t6{a:Addr}{vs:List Value}{n:Nat}{P:PySem.Fin->Shared->Prop} (ho:s.heap.get? a=some (seqObj "list" vs.toArray n)) (hp:∀ v∈vs,PrV s.heap v) (h64:vs.length<64)
  (h:∀ out:List Value,out.length=vs.length->(∀ v∈out,v∈vs)->P (.done (.ret .none)) { s with heap:=sortedHeap s.heap a vs out.toArray }):wpAny (model prog w) A (Builtin.«list.sort» ⟨[.ref a],[]⟩) P E s:=by
 have ha:a<s.heap.objs.size:=Heap.lt_size ho
 have line:vs.length<=sizeLine:=by rw[sizeLine_eq];omega
 obtain⟨e1,ho1⟩:∃ e1,(s.heap.update a (Obj.mapSeq fun _=>(#[]:Array Value))).get? a=some (seqObj "list" #[] e1):=⟨_,get?_update_seq ho fun _=>#[]⟩
 have ho6:(((s.heap.update a (Obj.mapSeq fun _=>(#[]:Array Value))).push (seqObj "tuple" vs.toArray 0)).push (seqObj "list" #[] 0)).get? a=some (seqObj "list" #[] e1):=Heap.get?_push_of_some _ (Heap.get?_push_of_some _ ho1)
 have hp6:∀ v∈vs,PrV (((s.heap.update a (Obj.mapSeq fun _=>(#[]:Array Value))).push (seqObj "tuple" vs.toArray 0)).push (seqObj "list" #[] 0)) v:=fun v hv=>by
  have pv:=hp v hv
  refine pv.keep fun b o eb e=>Heap.get?_push_of_some _ (Heap.get?_push_of_some _ ?_)
  have nb:b≠a:=fun z=>by
   obtain⟨a',o',n',x,y,tx,ty,rfl,k1,k2,_⟩:=pv
   cases eb
   rw[z,ho]at k1
   cases k1
   exact absurd k2 (by intro z2;have:=Value.type.inj z2;exact absurd this (by decide))
  rw[Heap.get?_update_ne _ _ _ _ nb]
  exact e
 rw[list_sort_plain]
 refine wpAny_bind (listItems_at ho rfl (wpAny_bind (listUpdate_at ho rfl (wpAny_bind (seqEpoch_at ho1 rfl (wpAny_bind (wpAny_newTuple (wpAny_bind (wpAny_newList (wpAny_holding ?_) (Eu _))) line)))) (by rw[DT];exact line) (Eu _))))
 show wpAny (model prog w) A _ P E { s with heap:=((s.heap.update a (Obj.mapSeq fun _=>(#[]:Array Value))).push (seqObj "tuple" vs.toArray 0)).push (seqObj "list" #[] 0) }
 have fin:∀ out:List Value,sortedHeap s.heap a vs out.toArray=(((s.heap.update a (Obj.mapSeq fun _=>(#[]:Array Value))).push (seqObj "tuple" vs.toArray 0)).push (seqObj "list" #[] 0)).update a (Obj.mapSeq fun _=>out.toArray):=fun _=>rfl
 generalize ((s.heap.update a (Obj.mapSeq fun _=>(#[]:Array Value))).push (seqObj "tuple" vs.toArray 0)).push (seqObj "list" #[] 0)=h6 at ho6 hp6 fin
 dsimp only
 by_cases h2:vs.toArray.size<2
 ·rw[if_pos h2,if_pos h2]
  refine wpAny_bind (wpAny_pure ?_)
  rw[StateT.run_pure]
  refine wpAny_bind (wpAny_pure (wpAny_bind (seqEpoch_at ho6 rfl ?_)))
  dsimp only
  have eo:(arrOf (SortSt.mk' general' (vs.toArray.zip vs.toArray) #[] 7 none)).map (·.2)=vs.toArray:=by
   show(vs.toArray.zip vs.toArray).map (·.2)=vs.toArray
   apply Array.ext
   ·simp
   ·intro i h1 h2
    simp
  rw[eo]
  refine wpAny_bind (listUpdate_at ho6 rfl ?_ (Eu _) (by rw[DT];exact Gi line))
  simp only[bne_self_eq_false,Ed,if_false]
  refine wpAny_pure ?_
  have:=h vs rfl fun v hv=>hv
  rw[fin]at this
  exact this
 ·rw[if_neg h2,if_neg h2]
  rw[DT]at h2
  obtain⟨fs,f1,f2,f3⟩:=sJ (s:={ s with heap:=h6 }) (M:=model prog w) hp6
  refine wpAny_bind (kat_kind f1 (by omega) f3 (by decide) ?_)
  have flag:(Value.type "int" != Value.type "tuple")=true:=by decide
  refine wpAny_bind (wpAny_mono (kat_run (ks:=vs) (vs:=vs) (Q:=fun st' s'=>s'={ s with heap:=h6 }/\failedOf st'=none/\∃ p:Array Nat,Ltn vs.length p/\arrOf st'=p.map (kas_item (vs.toArray.zip vs.toArray))) (G:=fun p s'=>s'={ s with heap:=h6 }/\Ltn vs.length p) rfl (by omega) h64 (fun p st' s' a1 a2 a3 a4=>⟨a4.1,a3,p,a4.2,a2⟩) (KOk.wp (fun i j C hi hj hC=>?_) (fun p hq=>⟨rfl,hq⟩) (k_sort (by omega)))) ?_ fun _ _ e=>e)
  ·have gi:vs.getD i Value.none∈vs:=by rw[DD,DB hi];exact Ew hi
   have gj:vs.getD j Value.none∈vs:=by rw[DD,DB hj];exact Ew hj
   exact prv_lt (hp6 _ gi) (hp6 _ gj) flag hC
  ·rintro⟨⟨⟩,st'⟩ s' ⟨rfl,hf,p,hpn,har⟩
   dsimp only
   have hout:=kat_snds (ks:=vs) (vs:=vs) rfl har
   rw[hout]
   have hl:(p.toList.map fun i=>vs.getD i Value.none).length=vs.length:=by rw[DG,DX,hpn.1]
   refine wpAny_bind (seqEpoch_at ho6 rfl (wpAny_bind (listUpdate_at ho6 rfl ?_ (Eu _) (by rw[DT,hl];exact Gi line))))
   rw[hf]
   simp only[bne_self_eq_false,Ed,if_false]
   refine wpAny_pure ?_
   have:=h _ hl fun v hv=>by
    obtain⟨i,hi,rfl⟩:=ED.mp hv
    have lt:=hpn.2 i hi
    rw[DD,DB lt]
    exact Ew lt
   rw[fin]at this
   exact this
theorem oA{l:Addr}{vs:List Value}{Q:Value->Shared->Prop}(hl:s.heap.IsList l vs.toArray)(hp:∀ v∈vs,PrV s.heap v)(h64:vs.length<64)
  (h:∀ out:List Value,out.length=vs.length->(∀ v∈out,v∈vs)->Q (.ref (s.heap.objs.size+1)) { s with heap:=sortedAll s.heap vs out.toArray }):wpAny (model prog w) A (call (.builtin "sorted") [.ref l]) Q E s:=by
 refine Calls.call_function_entry kind_sorted plain_sorted entry_sorted (args_sorted1 _) ?_
 unfold Builtin.«sorted»
 refine wpAny_bind (m:=checkCount "sorted" 1 1 _) (wpAny_pure ?_)
 refine wpAny_bind (collect_list hl ?_ (by rw[sizeLine_eq];omega))
 refine wpAny_bind (wpAny_newList ?_ (by rw[sizeLine_eq];omega))
 have hsz:((s.heap.push (seqObj "list" #[] 0)).update s.heap.objs.size (Obj.mapSeq (·++vs.toArray))).objs.size=s.heap.objs.size+1:=by rw[Heap.size_update,size_push']
 have hoL:(((s.heap.push (seqObj "list" #[] 0)).update s.heap.objs.size (Obj.mapSeq (·++vs.toArray))).push (seqObj "list" vs.toArray 0)).get? (s.heap.objs.size+1)=some (seqObj "list" vs.toArray 0):=by rw[← hsz];exact Heap.get?_push_size _ rfl
 show wpAny _ _ _ _ _ { s with heap:=((s.heap.push (seqObj "list" #[] 0)).update s.heap.objs.size (Obj.mapSeq (·++vs.toArray))).push (seqObj "list" vs.toArray 0) }
 rw[hsz]
 refine wpAny_bind (wpAny_holding (wpAny_call_entry slot_list_sort ⟨_,hoL,rfl⟩ entry_list_sort (t6 hoL (fun v hv=>(hp v hv).keep fun b o _ q=>?_) h64 fun out a1 a2=>⟨_,rfl,?_⟩) (args_list_sort _)))
 ·have hlt:b<s.heap.objs.size:=Heap.lt_size q
  rw[Heap.get?_push_ne _ _ _ (by rw[hsz];exact DO (EX hlt)),Heap.get?_update_ne _ _ _ _ (DO hlt),Heap.get?_push_ne _ _ _ (DO hlt)]
  exact q
 ·exact wpAny_pure ⟨_,rfl,h out a1 a2⟩
end
section
variable{X:Cx}
def rSortP(K:DE):List V->Hp->VK->Prop:=fun xs H Q=>∃(p:Addr)(ys:List V),xs = [.ref p]/\SqL K H p ys/\(∀ y∈ys,∃ t i j,y=.ref t/\H t=some (.tup [.int i,.int j]))/\ys.length<64/\∀(l:Addr)(out:List V),H l=none->out.length=ys.length->(∀ y∈out,y∈ys)->Q (.ref l) (upd H l (.lst out))
theorem mM:∀{ys:List V}{us:List Value},Vals ys us->∀ u∈us,∃ y∈ys,RelV y u
 |_,_,.nil,u,h=>nomatch h
 |_,_,.cons (a:=y) r t,u,h=>by
  rcases DI.mp h with rfl | h
  ·exact⟨y,DU ..,r⟩
  ·obtain⟨z,hz,rz⟩:=mM t u h
   exact⟨z,DM _ hz,rz⟩
theorem ow{ys:List V}{us:List Value}(r:Vals ys us):∀{out:List Value},(∀ u∈out,u∈us)->∃ zs,Vals zs out/\zs.length=out.length/\∀ z∈zs,z∈ys
 |[],_=>⟨[],.nil,rfl,fun z h=>nomatch h⟩
 |u::out,h=>by
  obtain⟨zs,r1,l1,m1⟩:=ow r (out:=out) fun x hx=>h x (DM _ hx)
  obtain⟨y,hy,ry⟩:=mM r u (h u (DU ..))
  exact⟨y::zs,.cons ry r1,by rw[DZ,DZ,l1],fun z hz=>by
   rcases DI.mp hz with rfl | hz
   ·exact hy
   ·exact m1 z hz⟩
theorem vm:gG X (.builtin "sorted") (rSortP X.K):=by
 intro pins s σ H xs us Q I r h
 obtain⟨p,ys,rfl,hq,hy,h64,q⟩:=h
 obtain⟨u,rfl,ru⟩:=jy r
 cases ru
 obtain⟨its,rv,pl,hz⟩:=I.list hq
 have hl:=rv.length
 refine oA pl.isList (fun v hv=>?_) (by omega) fun out o1 o2=>?_
 ·obtain⟨y,hym,ry⟩:=mM rv v hv
  obtain⟨t,i,j,rfl,ht⟩:=hy y hym
  cases ry
  obtain⟨_,its2,r2,ob,b1,b2,nb,b3⟩:=(show bD X.prog X.w H s.heap t (.tup [.int i,.int j]) from I.hok t _ ht)
  obtain⟨u1,u2,rfl,⟨t1,rfl⟩,⟨t2,rfl⟩⟩:=tY r2
  exact⟨t,ob,nb,i,j,t1,t2,rfl,b1,b2,b3⟩
 ·obtain⟨zs,r3,l3,m3⟩:=ow rv o2
  obtain⟨e,he⟩:=sortedAll_at s.heap its out.toArray
  refine⟨.ref (s.heap.objs.size+1),_,I.laid (t':=s.toks) (fun _ _=>sortedAll_old) (Fp _) (show bD X.prog X.w _ _ _ (.lst zs) from⟨?_,out,e,r3,he⟩),rfl,q _ zs (I.hok.fresh (Fp _)) (by omega) m3⟩
  exact Ej (av (by omega))
end
section
variable{X:Cx}
end
end L2
namespace L2
open PySem PySem.Spec PyProof.Rows
section
variable{prog:Program}{w:World}{K:Type} [DecidableEq K] {knd:KeyKind prog w K} {A:Around} {E:Value->Shared->Prop} {s:Shared}
end
section
variable{X:Cx}{o e f:Expr}{apos cpos:Pos}{td ty tx:TE}
end
section
variable{X:Cx}
end
section
variable{prog:Program}{w:World}{A:Around}{E:Value->Shared->Prop}{s:Shared}{T:String}{r d:Addr}{n:Nat}{P:Nat->Value->Prop}{OK:Heap->Prop}
end
section
variable{X:Cx}
end
section
variable{prog:Program}{w:World}{A:Around}{E:Value->Shared->Prop}{s:Shared}
end
section
variable{X:Cx}
end
end L2
namespace L2
open PySem PySem.Spec PyProof.Rows
abbrev ml(p:Pos):Arguments:={ posonlyargs:=[],args:=[{ arg:="each",annotation:=none,pos:=p }],vararg:=none,kwonlyargs:=[],kw_defaults:=[],kwarg:=none,defaults:=[] }
abbrev qU:Scope:={ kind:=.function,names:=[("each",.local),("told",.free)],isGenerator:=false,isCoroutine:=false,more:=[] }
abbrev uN(p1 p2 p3:Pos):Expr:=.Subscript (.Name "told" p1) (.Name "each" p2) p3
section
variable{prog:Program}{w:World}{A:Around}{E:Value->Shared->Prop}{s:Shared}
theorem CL{f c' ct t:Addr}{qual:Str}{p0 p1 p2 p3:Pos}{pm ctv v:Value}{its:Array Value}{k:Int}{tk:Tok}{Q:Value->Shared->Prop}
  (hroom:A.depth<recursionLimit) (hf:s.heap.get? f=some (Gu "<lambda>" qual (ml p0) (uN p1 p2 p3) qU [("told",ct)] pm c' ctv)) (hcr:s.heap.CodeRec (.ref c') qual) (lim:s.heap.NoLimit)
  (hc:s.heap.IsCell ct (some (.ref t))) (hl:s.heap.IsList t its) (k0:0<=k) (k63:k<2^63) (hit:its[k.toNat]?=some v)
  (hQ:∀ h' tk',(∀ b o,s.heap.get? b=some o->h'.get? b=some o)->Q v { s with heap:=h',toks:=tk' }) :
  wpAny (model prog w) A (call (.ref f) [.int k tk]) Q E s:=by
 refine wpAny_call (PySem.W.kla_callFunE hroom hf rfl rfl rfl rfl hcr ?_)
 have hb:bindArgs (PySem.W.kla_fn "<lambda>" qual (ml p0) (uN p1 p2 p3) qU [("told",ct)] pm (.ref c') ctv) ⟨[.int k tk],[]⟩=(pure [(("each" : Str),Value.int k tk)]:Sem (List (Str×Value))):=rfl
 rw[hb]
 refine wpAny_pure (wpAny_newFunctionEnv (fun x hx=>?_) (fun x hx=>?_) (fun h1 hns hsb=>?_) rfl)
 ·have hx':x=(("each" : Str),NameKind.local)∨x=(("told" : Str),NameKind.free):=by simpa using hx
  rcases hx' with rfl | rfl<;>exact fun z=>by cases z
 ·rw[DP.mp hx]
  rfl
 have kp:∀ b o,s.heap.get? b=some o->h1.get? b=some o:=fun b o e=>hsb.extBut b o (DO (Heap.lt_size e)) (Heap.get?_push_of_some _ e)
 refine⟨lim.keeps kp,PySem.W.kla_codeExpr ?_⟩
 refine Subscript_ (wpAny_Name (wpAny_loadName_free (c:=ct) rfl rfl rfl (hc.keeps kp) ?_))
 refine wpAny_Name (wpAny_loadName_local rfl rfl hns rfl ?_)
 exact item_listR (hl.at fun o e=>kp _ _ e) k0 k63 hit (hQ _ _ kp)
abbrev Kp(h h':Heap):Prop:=∀ b o,h.get? b=some o->h'.get? b=some o
theorem Kp.but{g h h':Heap}{I:Addr}(k:Kp g h)(n:g.get? I=none)(m:∀ b o,b∉[I]->h.get? b=some o->h'.get? b=some o):Kp g h':=fun b o e=>m b o (fun z=>by rw[DP.mp z,n]at e;cases e) (k b o e)
theorem Kp.same{g h h':Heap}{S:Addr}(k:Kp g h)(n:g.get? S=none)(m:Heap.SameBut S h h'):Kp g h':=fun b o e=>(m.2 b (fun z=>by rw[z,n]at e;cases e)).trans (k b o e)
theorem zX{J S q:Addr}{fp:List Addr}{n:Nat}{P:Nat->Value->Prop}{St:Nat->Heap->Prop}{g:Heap}{R:Result->Shared->Prop}(W:Walks prog w A.in1 J fp [J] n P St)(gJ:g.get? J=none)(gS:g.get? S=none)(hSJ:S≠J)(hSf:S∉fp)
  (turn:∀ i v,i<n->P i v->∀(h:Heap)(tk:Nat)(Q:Value->Shared->Prop)(E:Value->Shared->Prop),Kp g h->(∀ nv t h' tk',Kp h h'->Q (.int nv t) { s with heap:=h',toks:=tk' })->wpAny (model prog w) A.in1 (call (.ref q) [v]) Q E { s with heap:=h,toks:=tk })
  (fin:∀ i v h' tk',i<n->P i v->Kp g h'->R (.ok (.ret v)) { s with heap:=h',toks:=tk' }) :
  ∀(r j i:Nat)(h:Heap)(tk:Nat)(vb:Value)(nb:Int)(tb:Tok)(c:Nat),n-(j+1)=r->j+1<=n->Kp g h->h.get? S=some (seqObj "list" #[vb,.int nb tb] c)->St (j+1) h->i<n->P i vb ->
   codeAny (model prog w) A (.builtin "min.loop" ⟨[.ref J,.ref q,.ref S],[]⟩) R { s with heap:=h,toks:=tk }:=by
 have nm:(toString "min"++toString ".loop" : String) = "min.loop":=by decide
 intro r
 induction r with
 |zero =>
  intro j i h tk vb nb tb c er hj kg hS st hi hP
  have ej:j+1=n:=by omega
  refine codeAny_builtin Fi ?_;rw[Around.under_plainId Ep _]
  refine wpAny_bind (m:=seqItems? (.ref S)) (wpAny_seqItems hS rfl ?_)
  show wpAny _ A.in1 (tryCatch (pyNext (.ref J)) _ >>= _) _ _ _
  refine wpAny_bind (wpAny_tryCatch (W.done _ _ _ (by rw[← ej];exact st) fun h' tk' kk=>?_))
  have kg':=kg.but gJ kk
  have hS':=kk S _ (by simpa using hSJ) hS
  have su:=Heap.SameBut.update h' S (Obj.mapSeq fun _=>(#[]:Array Value))
  refine wpAny_bind (m:=updateSeq S fun _=>#[]) (wpAny_updateSeq hS' rfl (wpAny_bind (wpAny_letGo (wpAny_pure ?_))))
  exact fin i vb _ _ hi hP (kg'.same gS su)
 |succ r ih =>
  intro j i h tk vb nb tb c er hj kg hS st hi hP
  have lt:j+1<n:=by omega
  refine codeAny_builtin Fi ?_;rw[Around.under_plainId Ep _]
  refine wpAny_bind (m:=seqItems? (.ref S)) (wpAny_seqItems hS rfl ?_)
  show wpAny _ A.in1 (tryCatch (pyNext (.ref J)) _ >>= _) _ _ _
  refine wpAny_bind (wpAny_tryCatch (W.item (j+1) _ _ _ lt st fun v h1 tk1 hv st1 k1=>?_))
  have kg1:=kg.but gJ k1
  have hS1:=k1 S _ (by simpa using hSJ) hS
  show wpAny _ A.in1 (tryCatch (holding [v] (call (.ref q) [v])) _ >>= _) _ _ _
  refine wpAny_bind (wpAny_tryCatch (wpAny_holding (turn (j+1) v lt hv h1 tk1 _ _ kg1 fun nv t h2 tk2 k2=>?_)))
  have kg2:Kp g h2:=fun b o e=>k2 b o (kg1 b o e)
  have hS2:=k2 _ _ hS1
  have st2:=W.frame _ _ h2 st1 fun b _ o e=>k2 b o e
  show wpAny _ A.in1 (tryCatch (holding [v,.int nv t] (richCompare .Lt (.int nv t) (.int nb tb) >>= _)) _ >>= _) _ _ _
  refine wpAny_bind (wpAny_tryCatch (wpAny_holding (wpAny_bind (CmpOf.ints_lt (prog:=prog) (w:=w) (A:=A.in1) (P:=fun(i:Nat) v=>∃ t,v=.int (if i=0 then nv else nb) t) (fun i=>if i=0 then nv else nb) (fun i v h=>h) 0 1 _ _ _ _ _ ⟨t,rfl⟩ ⟨tb,rfl⟩ ?_))))
  refine wpAny_bind (wpAny_holding (wpAny_truthy_bool (wpAny_bind (wpAny_letGo (wpAny_pure ?_)))))
  by_cases cc:nv<nb
  ·have su:=Heap.SameBut.update h2 S (Obj.mapSeq fun _=>#[v,.int nv t])
   obtain⟨c2,hc2⟩:∃ c2,(h2.update S (Obj.mapSeq fun _=>#[v,.int nv t])).get? S=some (seqObj "list" #[v,.int nv t] c2):=⟨_,get?_update_seq hS2 fun _=>#[v,.int nv t]⟩
   simp[cc]
   refine wpAny_bind (wpAny_updateSeq hS2 rfl (wpAny_bind (wpAny_letGo ?_)))
   refine wpAny_pure ⟨plainId_quiet Ep _,ih (j+1) (j+1) _ _ v nv t c2 (by omega) lt (kg2.same gS su) hc2 (W.frame _ _ _ st2 fun b hb o e=>(su.2 b (fun z=>hSf (z▸hb))).trans e) lt hv⟩
  ·simp[cc]
   refine wpAny_bind (wpAny_letGo (wpAny_pure ?_));refine⟨plainId_quiet Ep _,ih (j+1) i _ _ vb nb tb c (by omega) lt kg2 hS2 st2 hi hP⟩
theorem CF{d q:Addr}{KK:Type} [DecidableEq KK] {knd:PySem.KeyKind prog w KK} {kvs:List (KK×Value)} {ep:Nat} {Q:Value->Shared->Prop} (hh:A.handled=none) (hd:Heap.DictAt knd s.heap d kvs ep) (ds:(d == sysModules)=false) (hne:0<kvs.length)
  (turn:∀(i:Nat)(v:Value)(k:KK)(x:Value),kvs[i]?=some (k,x)->knd.is k v=true->∀(h:Heap)(tk:Nat)(Q:Value->Shared->Prop)(E:Value->Shared->Prop),Kp s.heap h->(∀ nv t h' tk',Kp h h'->Q (.int nv t) { s with heap:=h',toks:=tk' })->wpAny (model prog w) A.in1 (call (.ref q) [v]) Q E { s with heap:=h,toks:=tk })
  (fin:∀(i:Nat)(v:Value)(k:KK)(x:Value)(h':Heap)(tk':Nat),kvs[i]?=some (k,x)->knd.is k v=true->Kp s.heap h'->Q v { s with heap:=h',toks:=tk' }) :
  wpAny (model prog w) A (call (.builtin "min") [.ref d] [(Str.ofString "key",.ref q)]) Q E s:=by
 have nm:(toString "min"++toString ".loop" : String) = "min.loop":=by decide
 obtain⟨od,_,hod,_⟩:=id hd
 have dl:d<s.heap.objs.size:=Heap.lt_size hod
 refine kmk_tree PySem.F.kind_min PySem.F.plain_min PySem.F.entry_min (kmk_min_key _ _) ?_
 show wpAny _ A.in1 (Builtin.Builtins.bindParams "min" ["key","default"] 0 ⟨[],[(Str.ofString "key",.ref q)]⟩ >>= _) _ _ s
 refine wpAny_bind (wpAny_of_eq (show Builtin.Builtins.bindParams "min" ["key","default"] 0 ⟨[],[(Str.ofString "key",.ref q)]⟩=pure [some (.ref q),none] from rfl) (wpAny_bind (wpAny_pure (wpAny_bind (wpAny_pyIter_dict ds hd ?_)))))
 refine wpAny_bind (wpAny_newList ?_ (Eu _));rw[nm]
 obtain⟨ob,eob⟩:∃ ob:Obj,ob={ cls:=Value.type "dict_keyiterator",data:=Data.fields #[Value.ref d,Value.int 0 0,Value.int (kvs.length:Int) 0,Value.int (ep:Int) 0] }:=⟨_,rfl⟩
 rw[← eob]
 have sz:(s.heap.push ob).objs.size=s.heap.objs.size+1:=by rw[Heap.size_push]
 have neS:(s.heap.push ob).objs.size≠s.heap.objs.size:=by omega
 have neD:d≠s.heap.objs.size:=DO dl
 have fr:∀ b,s.heap.objs.size<=b->s.heap.get? b=none:=fun b hb=>Heap.get?_none_of_le hb
 have kp:Kp s.heap ((s.heap.push ob).push (seqObj "list" #[] 0)):=fun b o e=>Heap.get?_push_of_some _ (Heap.get?_push_of_some _ e)
 have hS:((s.heap.push ob).push (seqObj "list" #[] 0)).get? (s.heap.push ob).objs.size=some (seqObj "list" #[] 0):=Heap.get?_push_size _ rfl
 have hJ:((s.heap.push ob).push (seqObj "list" #[] 0)).get? s.heap.objs.size=some ob:=Heap.get?_push_of_some _ (Heap.get?_push_size _ (by rw[eob];rfl))
 have W:=Walks.dictKeys (prog:=prog) (w:=w) (knd:=knd) (A:=A.in1) hh s.heap.objs.size d neD kvs ep
 have turn':∀(i:Nat)(v:Value),i<kvs.length->(∃ k x,kvs[i]?=some (k,x)/\knd.is k v=true)->∀(h:Heap)(tk:Nat)(Q:Value->Shared->Prop)(E:Value->Shared->Prop),Kp s.heap h->(∀ nv t h' tk',Kp h h'->Q (.int nv t) { s with heap:=h',toks:=tk' })->wpAny (model prog w) A.in1 (call (.ref q) [v]) Q E { s with heap:=h,toks:=tk }:=fun i v _ ⟨k,x,e1,e2⟩=>turn i v k x e1 e2
 refine wpAny_pure ⟨plainId_quiet Ep _,codeAny_builtin Fi ?_⟩;rw[Around.under_plainId Ep _]
 refine wpAny_bind (m:=seqItems? (.ref (s.heap.push ob).objs.size)) (wpAny_seqItems hS rfl ?_)
 show wpAny _ A.in1 (tryCatch (pyNext (.ref s.heap.objs.size)) _ >>= _) _ _ _
 refine wpAny_bind (wpAny_tryCatch (W.item 0 _ _ _ hne ⟨⟨ob,hJ,by rw[eob],by rw[eob];rfl⟩,hd.at' fun o e=>kp _ _ e⟩ fun v h1 tk1 hv st1 k1=>?_))
 have kg1:=kp.but (fr _ (DF _)) k1
 have hS1:=k1 _ _ (by simpa using neS) hS
 show wpAny _ A.in1 (tryCatch (holding [v] (call (.ref q) [v])) _ >>= _) _ _ _
 refine wpAny_bind (wpAny_tryCatch (wpAny_holding (turn' 0 v hne hv h1 tk1 _ _ kg1 fun nv t h2 tk2 k2=>?_)))
 have kg2:Kp s.heap h2:=fun b o e=>k2 b o (kg1 b o e)
 have hS2:=k2 _ _ hS1
 have st2:=W.frame _ _ h2 st1 fun b _ o e=>k2 b o e
 have su:=Heap.SameBut.update h2 (s.heap.push ob).objs.size (Obj.mapSeq fun _=>#[v,.int nv t])
 obtain⟨c2,hc2⟩:∃ c2,(h2.update (s.heap.push ob).objs.size (Obj.mapSeq fun _=>#[v,.int nv t])).get? (s.heap.push ob).objs.size=some (seqObj "list" #[v,.int nv t] c2):=⟨_,get?_update_seq hS2 fun _=>#[v,.int nv t]⟩
 have nf:(s.heap.push ob).objs.size∉[s.heap.objs.size,d]:=fun z=>by
  rcases DI.mp z with z | z
  ·exact neS z
  ·have z':=DP.mp z
   exact absurd dl (by rw[← z',sz];exact F2 (Fp _))
 refine wpAny_bind (m:=updateSeq _ fun _=>#[v,.int nv t]) (wpAny_updateSeq hS2 rfl ?_);rw[nm]
 refine wpAny_pure ⟨plainId_quiet Ep _,zX W (fr _ (DF _)) (fr _ (by omega)) neS nf turn' (fun i v h' tk' _ ⟨k,x,e1,e2⟩ kk=>fin i v k x h' tk' e1 e2 kk) _ 0 0 _ _ v nv t c2 rfl hne (kg2.same (fr _ (by omega)) su) hc2 (W.frame _ _ _ st2 fun b hb o e=>(su.2 b (fun z=>nf (z▸hb))).trans e) hne hv⟩
end
section
variable{X:Cx}{pins:List (Addr×Obj)}{σ:St}{H:Hp}{s:Shared}{h':Heap}{T:Addr}{ps more:Array Value}{t':Nat}
theorem Inv.tab(I:Inv X pins σ H s)(e:H T=some (.tbl ps))(hx:∀ b o,b≠T->s.heap.get? b=some o->h'.get? b=some o)(hT:h'.get? T=some { cls:=.none,data:=.fields (ps++more) }) :
  Inv X pins σ (upd H T (.tbl (ps++more))) { s with heap:=h',toks:=t' }:=by
 have ne:∀{b:Addr}{o:Option HO},H b=o->o≠some (.tbl ps)->b≠T:=fun q n z=>n (by rw[← q,z,e])
 refine I.un ⟨fun b o g n _ _=>hx b o (ne n (by simp)) g,fun b o g n _ _=>⟨o.slots,hx b o (ne n (by simp)) g⟩,fun b o g n _=>?_,fun b o g _=>?_,fun b xs q=>?_,fun b o u q=>?_,fun b p q=>?_⟩ fun b u q=>?_
 ·rw[aj (ne n (by simp))]
  exact n
 ·by_cases z:b=T
  ·rw[z];exact⟨_,hT⟩
  ·exact⟨o,hx b o z g⟩
 ·rw[aj (ne q (by simp))]
  exact q
 ·rw[aj (ne q (by simp))]
  exact q
 ·by_cases z:b=T
  ·subst z
   rw[e]at q
   cases q
   exact⟨more,ag⟩
  ·exact⟨#[],by rw[aj z,q];simp⟩
 ·by_cases z:b=T
  ·subst z
   rw[ag]at q
   cases q
   exact hT
  ·rw[aj z]at q
   refine(I.hok b u q).stay (fun c o hc g=>hx c o (fun y=>?_) g) (fun c g=>?_) fun c o g=>?_
   ·rcases hc with y2 | y2
    ·exact z (y2▸y)
    ·rw[y,e]at y2;cases y2
   ·rw[aj (ne g (by simp))];exact g
   ·rw[aj (ne g (by simp))];exact g
end
def codO(c:Addr)(q:Str):HO:=.ext fun h=>h.CodeRec (.ref c) q
def Tb(q:Str)(lp:Pos)(T:Addr)(H:Hp):Prop:=H T=some (.tbl #[])∨∃ c,H T=some (.tbl #[rawInt lp.line,rawInt lp.col,.ref c])/\H c=some (codO c q)
def TbS(T:Addr)(H H':Hp):Prop:=∀ b o,b≠T->H b=some o->H' b=some o
structure Lam(X:Cx)(c T ct:Addr)(lq:Str):Prop where
 code:X.env.code=.ref c
 hd:Fs X.base c T
 bm:∃ bm o,X.mg "__builtins__" = some (.ref bm)/\bm≠builtinsNs/\X.base.get? bm=some o/\o.cls=.type "module"/\o.dict=some builtinsNs/\o.data=.plain
 kind:X.env.kindOf "told" = some .cell
 cl:closureFor qU X.env=pure [(("told" : Str),ct)]
 cell:X.env.cells.lookup ("told" : Str)=some ct
 q:X.env.qual++"<lambda>" = lq
theorem CO{κ:Type}:∀{kvs:List (κ×V)}{vs:List (κ×Value)},KV kvs vs->∀{i:Nat}{k:κ}{y:Value},vs[i]?=some (k,y)->∃ kv,kv∈kvs/\k=kv.1
 |_,_,.nil,i,k,y,e=>by simp at e
 |p::_,q::_,.cons h r,0,k,y,e=>by
  cases e
  exact⟨p,DU ..,h.1.symm⟩
 |p::_,_::_,.cons _ r,i+1,k,y,e=>by
  obtain⟨kv,m,ek⟩:=CO r (show _=some (k,y) from e)
  exact⟨kv,DM _ m,ek⟩
def tMinK(lq:Str)(lp:Pos)(T:Addr)(it:Nat)(t:TA):TE:=fun σ H Q=>t σ H fun vs H1=>∃ d kvs a xs,vs = [.ref d]/\H1 d=some (.dK kvs)/\kvs≠[]/\σ[it]?=some (some (.ref a))/\H1 a=some (.lst xs)/\Tb lq lp T H1 /\
 (∀ kv∈kvs,∃(k:Nat)(n:Int),kv.1=.inl (k:Int)/\xs[k]?=some (.int n))/\∀ kv∈kvs,∀ H',TbS T H1 H'->Tb lq lp T H'->Q (kV kv.1) H'
theorem Cg{X:Cx}{c T ct:Addr}{lq x:Str}{it:Nat}{t:TA}{np xp p0 p1 p2 p3 lp kp pos:Pos}(L:Lam X c T ct lq)(hx:X.ex = [])(hc:X.calm=true)(hr:Room 0 X.A) (hN:X.N[it]?=some ("told" : Str)) (hv:Vis X.env.scope "told") (hg:Gl X "min") (hm:X.mg "min" = none) (ha:PA X [.Name x xp] t) :
  PE X (.Call (.Name "min" np) [.Name x xp] [⟨some "key",.Lambda (ml p0) (uN p1 p2 p3) qU lp,kp⟩] pos) (tMinK lq lp T it t):=by
 intro pins s σ H Q I h
 refine wpAny_Call_Name_kw (fj I hg hm tP ?_)
 refine callWith_kw (thn (ha pos pins s σ H _ I h) fun us s1 ⟨vs,H1,I1,r1,q1⟩=>?_)
 obtain⟨d,kvs,a,xs,rfl,hd,hne,hσ,hl,tb,hk,q⟩:=q1
 obtain⟨u,rfl,ru⟩:=jy r1
 cases ru
 refine kws_cons (PySem.W.kla_eval rfl ?_)
 rw[L.q]
 have lp':0<kvs.length:=List.length_pos_iff.mpr hne
 have go:∀(H2:Hp)(s2:Shared)(f c':Addr)(pm ctv:Value),Inv X pins σ H2 s2->s2.heap.get? f=some (Gu "<lambda>" lq (ml p0) (uN p1 p2 p3) qU [("told",ct)] pm c' ctv)->s2.heap.CodeRec (.ref c') lq->H2 d=some (.dK kvs)->H2 a=some (.lst xs)->(∀ kv∈kvs,Q (kV kv.1) H2) ->
   wpAny (model X.prog X.w) X.A (call (.builtin "min") [.ref d] [(Str.ofString "key",.ref f)]) (EP X pins σ Q) X.xe s2:=by
  intro H2 s2 f c' pm ctv I2 hf hcr hd2 hl2 q2
  obtain⟨_,ds,vs,kv2,od,es,ep,hod⟩:=u3 I2.hok hd2
  have vl:=kv2.length
  refine CF (knd:=bg X.prog X.w) (kvs:=vs) (ep:=ep) (I2.ok.hd hc) ⟨od,es,hod⟩ ds (by omega) ?_ ?_
  ·intro i v k y e1 e2 h' tk Q' E' kk hQ'
   obtain⟨⟨k1,w1⟩,m1,ek⟩:=CO kv2 e1
   obtain⟨j,n,ej,hn⟩:=hk _ m1
   have ek':k=.inl (j:Int):=ek.trans ej
   subst ek'
   have sh:∃ t,v=Value.int (j:Int) t:=by
    rcases aO (show nF (.inl (j:Int)) v=true from e2) with⟨i',t',z1,z2⟩ | ⟨_,_,z1,_⟩
    ·cases z1;exact⟨t',z2⟩
    ·cases z1
   obtain⟨tv,rfl⟩:=sh
   obtain⟨hz,its,ncap,rv,hgl⟩:=I2.hok a _ hl2
   obtain⟨wv,hwv,rwv⟩:=rv.get hn
   obtain⟨tn,rfl⟩:=rwv
   have jl:j<xs.length:=(DC.mp hn).1
   have l63:=mj
   obtain⟨m,hns,hlook⟩:=I2.loc
   obtain⟨u,ru,lk⟩:=hlook it "told" (.ref a) hN hσ hv
   cases ru
   have hcell:s2.heap.IsCell ct (some (.ref a)):=by
    rcases lk with⟨kl,_⟩ | ⟨_,c2,ec,z⟩
    ·exact absurd kl (by rw[L.kind];intro z;cases z)
    ·rw[L.cell]at ec;cases ec;exact z
   refine CL (A:=X.A.in1) (f:=f) (c':=c') (t:=a) (its:=its.toArray) (k:=(j:Int)) ?_ (kk _ _ hf) (hcr.keeps kk) (I2.nolimit.keeps kk) (hcell.keeps kk) ⟨_,kk _ _ hgl,rfl,_,rfl⟩ (by omega) (by omega) (by rw[DV];simpa using hwv) fun h3 tk3 k3=>hQ' _ _ _ _ k3
   have:=hr.dp
   show X.A.depth<recursionLimit
   omega
  ·intro i v k y h' tk e1 e2 kk
   obtain⟨kv,m1,ek⟩:=CO kv2 e1
   refine⟨kV k,H2,I2.kept kk,?_,by rw[ek];exact q2 kv m1⟩
   rcases aO (show nF k v=true from e2) with⟨i',t',rfl,rfl⟩ | ⟨y',t',rfl,rfl⟩
   ·exact⟨t',rfl⟩
   ·exact⟨t',rfl⟩
 have bat:s1.heap.BuiltinsAt X.mg T:=by
  obtain⟨bm,o,b1,b2,b3,b4,b5,b6⟩:=L.bm
  obtain⟨o1,es1,ep1,g1,g2,_⟩:=id I1.mod.glob
  have hT:H1 T≠none:=by
   rcases tb with z | ⟨_,z,_⟩<;>rw[z]<;>simp
  refine⟨bm,o,b1,b2,fun z=>?_,fun z=>?_,I1.bk _ _ b3,b4,b5,b6⟩
  ·rw[z,g1]at b3;cases b3;rw[g2]at b6;cases b6
  ·rw[z]at b3;exact hT (I1.bs _ _ b3).2
 have neT:mainGlobals≠T:=fun z=>by
  obtain⟨o1,es1,ep1,g1,g2,_⟩:=id I1.mod.glob
  have:=(I1.bs _ _ g1).2
  rw[z]at this
  rcases tb with y | ⟨_,y,_⟩<;>rw[y]at this<;>cases this
 have nsg:=I1.mod.glob.keeps I1.bk
 rcases tb with hT | ⟨c',hT,hco⟩
 ·have gT:s1.heap.get? T=some (Hj #[]):=I1.hok T _ hT
  refine PySem.W.kla_makeFunction (mg:=X.mg) L.cl I1.ok.glob nsg L.code (L.hd.keeps I1.bk) gT trivial rfl neT bat fun c' ctv h' tk hxt hge hlt hrec htb=>kws_nil ?_
  have cT:c'≠T:=fun z=>by
   have:=Heap.lt_size gT
   rw[← z]at this
   exact absurd this (F2 hge)
  have I2:=I1.tab (more:=#[rawInt lp.line,rawInt lp.col,.ref c']) (t':=tk) hT (fun b o n e=>hxt b o n e) (by simpa using htb)
  have e0:(#[]:Array Value)++#[rawInt lp.line,rawInt lp.col,.ref c']=#[rawInt lp.line,rawInt lp.col,.ref c']:=by simp
  rw[e0]at I2
  have fr:s1.heap.get? c'=none:=Heap.get?_none_of_le hge
  have H1c:H1 c'=none:=I1.hok.none_of fr
  obtain⟨c3,oc,vs3,t3,ec,g1,g2,g3⟩:=id hrec
  cases ec
  have I3:=I2.xtrack (a:=c') (o:=codO c' lq) (I1.xok hx fr (by rw[aj cT];exact H1c)) ⟨hrec,⟨oc,g1⟩,fun h1 h2 ⟨c4,o4,v4,t4,z1,z2,z3,z4⟩ kk=>by cases z1;exact⟨_,o4,v4,t4,rfl,kk o4 z2,z3,z4⟩⟩
  have kpsh:Kp h' (h'.push (Gu "<lambda>" lq (ml p0) (uN p1 p2 p3) qU [("told",ct)] ((X.mg "__name__").getD .none) c' ctv)):=fun b o e=>Heap.get?_push_of_some _ e
  have I4:=I3.kept (t':=tk) kpsh
  have dT:d≠T:=fun z=>by rw[z,hT]at hd;cases hd
  have aT:a≠T:=fun z=>by rw[z,hT]at hl;cases hl
  have dc:d≠c':=fun z=>by rw[z,H1c]at hd;cases hd
  have ac:a≠c':=fun z=>by rw[z,H1c]at hl;cases hl
  have sm:TbS T H1 (upd (upd H1 T (.tbl #[rawInt lp.line,rawInt lp.col,.ref c'])) c' (codO c' lq)):=fun b o n e=>by
   rw[aj (fun z=>by rw[z,H1c]at e;cases e),aj n]
   exact e
  refine go _ _ h'.objs.size c' _ _ I4 (Heap.get?_push_size _ rfl) (hrec.keeps kpsh) (sm _ _ dT hd) (sm _ _ aT hl) fun kv m=>q kv m _ sm (.inr ⟨c',by rw[aj (Ne.symm cT)];exact ag,ag⟩)
 ·have gT:s1.heap.get? T=some (Hj #[rawInt lp.line,rawInt lp.col,.ref c']):=I1.hok T _ hT
  obtain⟨hrec,_,_⟩:=(show bD X.prog X.w H1 s1.heap c' (codO c' lq) from I1.hok c' _ hco)
  refine PySem.W.kla_makeFunctionHit (mg:=X.mg) (cv:=.ref c') L.cl I1.ok.glob nsg L.code (L.hd.keeps I1.bk) gT trivial (by simp[codeAmong,rawInt]) bat fun ctv h' tk kk sz=>kws_nil ?_
  have kpsh:Kp s1.heap (h'.push (Gu "<lambda>" lq (ml p0) (uN p1 p2 p3) qU [("told",ct)] ((X.mg "__name__").getD .none) c' ctv)):=fun b o e=>Heap.get?_push_of_some _ (kk b o e)
  have I4:=I1.kept (t':=tk) kpsh
  exact go _ _ h'.objs.size c' _ _ I4 (Heap.get?_push_size _ rfl) (hrec.keeps kpsh) hd hl fun kv m=>q kv m _ (fun b o _ e=>e) (.inr ⟨c',hT,hco⟩)
abbrev Bm(mg:Str->Option Value)(h:Heap):Prop:=∃ bm o,mg "__builtins__" = some (.ref bm)/\bm≠builtinsNs/\h.get? bm=some o/\o.cls=.type "module"/\o.dict=some builtinsNs/\o.data=.plain
theorem xt{P:Program}{w:World}{K:DE}{mg mb:Str->Option Value}{CX:CXT}{k:Nat}{fa a c T:Addr}{fd:FuncData}{x:Str}{sp:Sp}{s:Shared}{vs:List Value}{ns:List Int}
  (KX:K.In s.heap) (hg:s.heap.Ns mainGlobals mg) (hb:s.heap.Ns builtinsNs mb) (hbb:∀ x:Str,x≠"__name__"->mb x=bootBuiltins x) (lim:s.heap.NoLimit) (gens:s.gens=#[])
  (hc:Fs s.heap c T) (hT:s.heap.get? T=some (Hj #[])) (nT:K.lookup T=none) (hbm:Bm mg s.heap)
  (ha:s.heap.get? a=some { cls:=.type "list",data:=.seq vs.toArray }) (hi:IntsAre vs ns) (hl:ns.length<=sizeLine) (hr:Room k callerA)
  (F:∀ base:Heap,K.In base->base.Ns mainGlobals mg->Fs base c T->Bm mg base->FnOk P w K mg base CX k fa fd [x] sp) (bind:∀(s:Shared)(u:Value),BindsTo s fd ⟨[u],[]⟩ [(x,u)])
  (hsp:∀ H:Hp,H T=some (.tbl #[])->SqL K H a (ns.map V.int)->sp [.ref a] H (fun v _=>v=.bl true) fun _ _ _=>False)
  (hCX:∀ H e s',CX [] H s (fun _ _ _=>False) e s'->False) :
  codeAny (model P w) callerA (.call (.ref fa) ⟨[.ref a],[]⟩) (fun r s'=>r=.ok (.ret (.bool true))/\OldK s.heap s'.heap/\s'.os=s.os/\AllBare s'.gens) s:=by
 have rv:=ox hi
 have aT:a≠T:=fun z=>by rw[z,hT]at ha;cases ha
 obtain⟨H,eT,eS,hok,only,frz⟩:∃ H:Hp,H T=some (.tbl #[])/\SqL K H a (ns.map V.int)/\HOk P w H s.heap/\(∀ b,H b≠none->(b=T∨b=a)/\K.lookup b=none)/\(∀ b u,H b=some u->b≠T->∃ o ys,u=.frz o (.lst ys)):=by
  cases hk:K.lookup a with
  |some o =>
   have e:=KX a o hk
   rw[ha]at e
   cases e
   refine⟨upd (fun _=>none) T (.tbl #[]),ag,.inr ⟨_,vs.toArray,_,hk,rfl,rfl,rfl,by rw[DT,hi.length];exact hl,by simpa using rv⟩,fun b u z=>?_,fun b z=>?_,fun b u z n=>?_⟩
   ·by_cases y:b=T
    ·subst y;rw[ag]at z;cases z;exact hT
    ·rw[aj y]at z;cases z
   ·by_cases y:b=T
    ·exact⟨.inl y,y▸nT⟩
    ·rw[aj y]at z;exact absurd rfl z
   ·rw[aj n]at z;cases z
  |none =>
   refine⟨upd (upd (fun _=>none) a (.frz { cls:=.type "list",data:=.seq vs.toArray } (.lst (ns.map V.int)))) T (.tbl #[]),ag,.inl (.inr ⟨{ cls:=.type "list",data:=.seq vs.toArray },by rw[aj aT];exact ag⟩),fun b u z=>?_,fun b z=>?_,fun b u z n=>?_⟩
   ·by_cases y:b=T
    ·subst y;rw[ag]at z;cases z;exact hT
    ·rw[aj y]at z
     by_cases y2:b=a
     ·subst y2;rw[ag]at z;cases z
      exact⟨ha,by rw[DG];exact hl,vs,_,rv,ha⟩
     ·rw[aj y2]at z;cases z
   ·by_cases y:b=T
    ·exact⟨.inl y,y▸nT⟩
    ·rw[aj y]at z
     by_cases y2:b=a
     ·exact⟨.inr y2,y2▸hk⟩
     ·rw[aj y2]at z;exact absurd rfl z
   ·rw[aj n]at z
    by_cases y2:b=a
    ·subst y2;rw[ag]at z;cases z;exact⟨_,_,rfl⟩
    ·rw[aj y2]at z;cases z
 have un0:∀{b:Addr}{o:Obj},s.heap.get? b=some o->o.cls≠.none->o.cls≠.type "list"->H b=none:=fun{b o} e n1 n2=>by
  cases q:H b with
  |none=>rfl
  |some u =>
   rcases(only b (by rw[q];simp)).1 with z | z
   ·rw[z,hT]at e;cases e;exact absurd rfl n1
   ·rw[z,ha]at e;cases e;exact absurd rfl n2
 have unD:∀{b:Addr}{o:Obj}{es:Array DictEntry}{ep:Nat},s.heap.get? b=some o->o.data=.dict es ep->H b=none:=fun{b o es ep} e d=>by
  cases q:H b with
  |none=>rfl
  |some u =>
   rcases(only b (by rw[q];simp)).1 with z | z
   ·rw[z,hT]at e;cases e;cases d
   ·rw[z,ha]at e;cases e;cases d
 have nsB:∀{b:Addr}{m:Str->Option Value},s.heap.Ns b m->(hidT s.heap H).Ns b m:=fun{b m} ⟨o,es,ep,e,d,r⟩=>⟨o,es,ep,jn e (unD e d),d,r⟩
 have kB:K.In (hidT s.heap H):=fun b o e=>jn (KX b o e) (by
  cases q:H b with
  |none=>rfl
  |some u=>rw[(only b (by rw[q];simp)).2]at e;cases e)
 have cB:Fs (hidT s.heap H) c T:=by
  obtain⟨o,v2,file,tf,flags,tg,inF,text,tt,e1,e2,r⟩:=hc
  exact⟨o,v2,file,tf,flags,tg,inF,text,tt,jn e1 (un0 e1 (by rw[e2];simp) (by rw[e2];simp)),e2,r⟩
 have bB:Bm mg (hidT s.heap H):=by
  obtain⟨bm,o,b1,b2,b3,b4,r⟩:=hbm
  exact⟨bm,o,b1,b2,jn b3 (un0 b3 (by rw[b4];simp) (by rw[b4];simp)),b4,r⟩
 have md:Mod K mg (hidT s.heap H):=⟨kB,nsB hg,⟨mb,nsB hb,hbb⟩,let ⟨mc,h1,h2⟩:=lim;⟨mc,nsB h1,h2⟩⟩
 have e0:Env0 P w K mg (hidT s.heap H) callerA [] s H:=⟨rfl,md,fun b o e=>Cy e,Nat.le_of_eq (xN _ _),trivial,fun b z=>absurd (show b∈([]:List Addr) from z) (by simp),hok,.of_eq gens⟩
 refine codeAny_mono ((F _ kB (nsB hg) cB bB).run callerA [] s H ⟨[.ref a],[]⟩ [.ref a] [.ref a] _ _ hr e0 (bind s (.ref a)) (.cons rfl .nil) (hsp H eT eS)) fun r s' h=>?_
 cases r with
 |error e=>exact(hCX H e s' h).elim
 |ok fl =>
  cases fl with
  |next=>exact False.elim h
  |brk=>exact False.elim h
  |cont=>exact False.elim h
  |ret u =>
   obtain⟨v,H',os,bare,un,hok',r',q⟩:=h
   have q':v=.bl true:=q
   subst q'
   obtain rfl:u=Value.bool true:=r'
   have nil:∀ b:Addr,b∉frs []:=fun b z=>absurd (show b∈([]:List Addr) from z) (by simp)
   have gT:∃ more,s'.heap.get? T=some { cls:=.none,data:=.fields (#[]++more) }:=by
    obtain⟨more,e⟩:=un.tbls T _ eT
    exact⟨more,hok' T _ e⟩
   have kp:∀ b o,b≠T->s.heap.get? b=some o->s'.heap.get? b=some o:=fun b o n e=>by
    cases q:H b with
    |none=>exact un.keep b o e q (nil b) (by simp)
    |some u =>
     obtain⟨ob,ys,rfl⟩:=frz b u q n
     have z2:=un.frzs b ob _ q
     obtain⟨g1,_⟩:=hok b _ q
     obtain⟨g2,_⟩:=hok' b _ z2
     rw[e]at g1;cases g1
     exact g2
   refine⟨rfl,⟨fun b o e=>?_,fun b o e=>?_⟩,os,bare⟩
   ·by_cases z:b=T
    ·subst z
     rw[hT]at e
     cases e
     obtain⟨more,g⟩:=gT
     exact .inr (.inl ⟨(hc.tab hT).isCodeTable,rfl,#[],more,rfl,g⟩)
    ·exact .inl (kp b o z e)
   ·by_cases z:b=T
    ·subst z
     obtain⟨more,g⟩:=gT
     exact⟨_,g⟩
    ·exact⟨o,kp b o z e⟩
theorem walk_ofT{l:Hc}{n k:Nat}{q:Program}{loose:List Str}{XP:(Str->Option Value)->Heap->Prop}{YP:World->Heap->Prop}{d df:DefRec}{K:Params->DE}{CX:CXT}{sp:DE->Addr->Sp}{x fn:Str}
  (hn:l.most=some n) (hn2:n<=sizeLine) (hdf:d.params.defaults = []) (hr:Room k callerA) (hY:∀(w:World)(h:Heap),YP w h->(K w.params).In h)
  (hrec:(recsOf q).find? (fun e=>e.name == fn)=some df)
  (F:∀(w:World)(mg:Str->Option Value)(fa:Addr)(h:Heap),(K w.params).In h->h.Ns mainGlobals mg->mg d.name=some (.ref fa)->∃ fd:FuncData,(∀(s:Shared)(u:Value),BindsTo s fd ⟨[u],[]⟩ [(x,u)]) /\
   ∃ c T,FA (K w.params) fn=some (c,T)/\(K w.params).lookup T=none/\∀ base:Heap,(K w.params).In base->base.Ns mainGlobals mg->Fs base c T->Bm mg base->FnOk l.prog w (K w.params) mg base CX k fa fd [x] (sp (K w.params) T))
  (hsp:∀(K:DE)(T:Addr)(H:Hp)(a:Addr)(ns:List Int),ns.length<=n->H T=some (.tbl #[])->SqL K H a (ns.map V.int)->sp K T [.ref a] H (fun v _=>v=.bl true) fun _ _ _=>False)
  (hCX:∀(H:Hp)(s:Shared)(e:Value)(s':Shared),CX [] H s (fun _ _ _=>False) e s'->False) :
  PySem.W.WalkO q loose XP YP l.row.toRowW d [] (fun f vs=>PySem.call f vs):=by
 refine Att.attach_call hn hdf fun w s₀ s₁ mg mb fa o pm cd doc a vs ns G Y ho hd hcd hmg hobj hints hlen hg=>?_
 have KX:=hY w _ Y
 obtain⟨fd,hb,c,T,ht,nT,hF⟩:=F w mg fa _ KX G.T.g hmg
 obtain⟨t1,t2⟩:=PySem.W.tab_of G.T KX hrec ht
 exact xt KX G.T.g G.T.b G.T.builtins G.T.nolimit hg t1 t2 nT G.T.bmain hobj hints (E7 hlen hn2) hr hF hb (fun H h1 h2=>hsp _ T H a ns hlen h1 h2) fun H e s'=>hCX H s₁ e s'
theorem op_neE{X:Cx}(hu:X.A.units+64<cLine):OpR X (compareOp .NotEq) (fun x y H Q=>∃ a b kvs,x=.ref a/\y=.ref b/\H a=some (.dK kvs)/\H b=some (.dK [])/\Q (.bl (!kvs.isEmpty)) H):=by
 intro pins s σ H x y v u Q I rx ry h
 obtain⟨a,b,kvs,rfl,rfl,ha,hb,q⟩:=h
 cases rx
 cases ry
 obtain⟨_,da,vs,kv,dd⟩:=u3 I.hok ha
 obtain⟨_,db,vs2,kv2,dd2⟩:=u3 I.hok hb
 have l1:=kv.length
 have l2:=kv2.length
 have e2:vs2 = []:=Ff l2.symm
 subst e2
 refine PySem.W.keq_ne (r:=true) da db dd dd2 (by omega) (fun e=>?_) ⟨.bl (!(vs.length == 0&&true)),H,I,rfl,?_⟩
 ·have e1:vs = []:=Ff e
  subst e1
  exact .nil
 ·cases kvs with
  |nil =>
   cases vs with
   |nil=>exact q
   |cons p r=>cases l1
  |cons p r =>
   cases vs with
   |nil=>cases l1
   |cons p r=>exact q
end L2
namespace L2
open PySem PySem.Spec PyProof.Rows
def lexB:List (Int×Int)->Bool
 |[]=>false
 | (x,y)::r=>if x=y then lexB r else decide (x<y)
section
variable{prog:Program}{w:World}{A:Around}{E:Value->Shared->Prop}{s:Shared}
def Ps:List (Value×Value)->List (Int×Int)->Prop
 |[],[]=>True
 | (u,v)::r,(x,y)::q=>(∃ t,u=.int x t)/\(∃ t,v=.int y t)/\Ps r q
 |_,_=>False
theorem BJ{a b:Addr}{oa ob:Obj}{us vs:Array Value}{na nb:Nat}{ps:List (Int×Int)}{P:PySem.Fin->Shared->Prop}(ga:s.heap.get? a=some oa)(da:oa.data=.seq us na)(gb:s.heap.get? b=some ob) (cb:ob.cls=.type "tuple") (db:ob.data=.seq vs nb)
  (hp:Ps (us.toList.zip vs.toList) ps) (hl:us.size=vs.size) (h:P (.done (.ret (.bool (lexB ps)))) s):wpAny (model prog w) A (Builtin.«tuple.__lt__» ⟨[.ref a,.ref b],[]⟩) P E s:=by
 show wpAny _ _ (isInstance (.ref b) (.type "tuple") >>= _) _ _ s
 refine wpAny_bind (wpAny_isInstance (T:="tuple") ⟨ob,gb,cb⟩ isSubtype_tuple_tuple ?_)
 simp only[Gm,Ed,if_false]
 refine wpAny_bind (wpAny_tupleItemsOf ga da (wpAny_bind (wpAny_tupleItemsOf gb db (wpAny_bind ?_))))
 refine wpAny_forIn_list _ (fun rest r s'=>r.1=none/\s'=s/\∃ q,Ps rest q/\lexB q=lexB ps) _ ?_ ?_ _ _ ⟨rfl,rfl,ps,hp,rfl⟩
 ·rintro⟨u,v⟩ rest r s' ⟨hr,rfl,q,hq,e⟩
  match q,hq with
  | (x,y)::q,⟨⟨t,h1⟩,⟨t',h2⟩,hq'⟩ =>
   subst h1;subst h2
   refine wpAny_bind (wpAny_eqBool_int ?_)
   by_cases c:x=y
   ·have:(x == y)=true:=by simp[c]
    rw[this]
    simp only[Gm,Ed,if_false]
    refine wpAny_pure ⟨rfl,rfl,q,hq',?_⟩
    rw[← e]
    show lexB q=if x=y then lexB q else decide (x<y)
    rw[if_pos c]
   ·have:(x == y)=false:=by simp[c]
    rw[this]
    simp only[Bool.not_false,if_true]
    have e2:lexB ps=decide (x<y):=by
     rw[← e]
     show(if x=y then lexB q else decide (x<y))=_
     rw[if_neg c]
    rw[e2]at h
    refine wpAny_bind (wpAny_rule (wpAny_bind (CmpOf.ints_lt (prog:=prog) (w:=w) (A:=A) (P:=fun(i:Nat) v=>∃ t,v=.int (if i=0 then x else y) t) (fun i=>if i=0 then x else y) (fun i v h=>h) 0 1 _ _ _ _ _ ⟨t,rfl⟩ ⟨t',rfl⟩ ?_)))
    exact wpAny_bind (wpAny_pure (wpAny_pure (wpAny_pure h)))
 ·rintro⟨r1,r2⟩ s' ⟨hr,rfl,q,hq,e⟩
  simp only at hr
  subst hr
  have q0:q = []:=by
   cases q with
   |nil=>rfl
   |cons z q=>exact hq.elim
  subst q0
  have e3:Builtin.Tuple.tupleCompareSizes CmpOp.Lt us.size vs.size=Value.bool (lexB ps):=by
   rw[← e,hl]
   show Value.bool (decide (vs.size<vs.size))=Value.bool false
   rw[decide_eq_false (Ey _)]
  show wpAny _ _ (ret (Builtin.Tuple.tupleCompareSizes CmpOp.Lt us.size vs.size)) _ _ _
  rw[e3]
  exact wpAny_pure h
theorem tup_lt{a b:Addr}{oa ob:Obj}{us vs:Array Value}{na nb:Nat}{ps:List (Int×Int)}{Q:Value->Shared->Prop}(ga:s.heap.get? a=some oa) (ca:oa.cls=.type "tuple") (da:oa.data=.seq us na) (gb:s.heap.get? b=some ob) (cb:ob.cls=.type "tuple") (db:ob.data=.seq vs nb)
  (hp:Ps (us.toList.zip vs.toList) ps) (hl:us.size=vs.size) (hu:A.units<cLine) (h:Q (.bool (lexB ps)) s):wpAny (model prog w) A (richCompare .Lt (.ref a) (.ref b)) Q E s:=by
 refine wpAny_richCompare_same_room (op:=.Lt) (T:="tuple") ⟨oa,ga,ca⟩ ⟨ob,gb,cb⟩ PySem.F.slot_tuple_lt (wpAny_call_entry PySem.F.slot_tuple_lt ⟨oa,ga,ca⟩ PySem.F.entry_tuple_lt ?_ (PySem.F.args_tuple_lt_2 _ _)) hu
 exact BJ ga da gb cb db hp hl ⟨_,rfl,(fun z=>by cases z),h⟩
theorem w9{J S:Addr}{fp:List Addr}{n:Nat}{P:Nat->Value->Prop}{St:Nat->Heap->Prop}{g:Heap}{R:Result->Shared->Prop}(W:Walks prog w A.in1 J fp [J] n P St)(bt:Nat->Nat->Bool)(gJ:g.get? J=none)(gS:g.get? S=none)(hSJ:S≠J)(hSf:S∉fp)
  (cmp:∀ i j u v,i<n->j<n->P i u->P j v->∀(h:Heap)(tk:Nat)(Q:Value->Shared->Prop)(E:Value->Shared->Prop),Kp g h->Q (.bool (bt i j)) { s with heap:=h,toks:=tk }->wpAny (model prog w) A.in1 (richCompare .Lt u v) Q E { s with heap:=h,toks:=tk })
  (fin:∀ v h' tk',P (argBest bt (n-1)) v->Kp g h'->R (.ok (.ret v)) { s with heap:=h',toks:=tk' }) :
  ∀(r j:Nat)(h:Heap)(tk:Nat)(vb:Value)(c:Nat),n-(j+1)=r->j+1<=n->Kp g h->h.get? S=some (seqObj "list" #[vb,vb] c)->St (j+1) h->P (argBest bt j) vb->argBest bt j<n ->
   codeAny (model prog w) A (.builtin "min.loop" ⟨[.ref J,.none,.ref S],[]⟩) R { s with heap:=h,toks:=tk }:=by
 intro r
 induction r with
 |zero =>
  intro j h tk vb c er hj kg hS st hP hb
  have ej:j+1=n:=by omega
  refine codeAny_builtin Fi ?_;rw[Around.under_plainId Ep _]
  refine wpAny_bind (m:=seqItems? (.ref S)) (wpAny_seqItems hS rfl ?_)
  show wpAny _ A.in1 (tryCatch (pyNext (.ref J)) _ >>= _) _ _ _
  refine wpAny_bind (wpAny_tryCatch (W.done _ _ _ (by rw[← ej];exact st) fun h' tk' kk=>?_))
  have kg':=kg.but gJ kk
  have hS':=kk S _ (by simpa using hSJ) hS
  have su:=Heap.SameBut.update h' S (Obj.mapSeq fun _=>(#[]:Array Value))
  refine wpAny_bind (m:=updateSeq S fun _=>#[]) (wpAny_updateSeq hS' rfl (wpAny_bind (wpAny_letGo (wpAny_pure ?_))))
  exact fin vb _ _ (by rw[← ej];exact hP) (kg'.same gS su)
 |succ r ih =>
  intro j h tk vb c er hj kg hS st hP hb
  have lt:j+1<n:=by omega
  refine codeAny_builtin Fi ?_;rw[Around.under_plainId Ep _]
  refine wpAny_bind (m:=seqItems? (.ref S)) (wpAny_seqItems hS rfl ?_)
  show wpAny _ A.in1 (tryCatch (pyNext (.ref J)) _ >>= _) _ _ _
  refine wpAny_bind (wpAny_tryCatch (W.item (j+1) _ _ _ lt st fun v h1 tk1 hv st1 k1=>?_))
  have kg1:=kg.but gJ k1
  have hS1:=k1 S _ (by simpa using hSJ) hS
  show wpAny _ A.in1 (tryCatch (holding [v,v] (richCompare .Lt v vb >>= _)) _ >>= _) _ _ _
  refine wpAny_bind (wpAny_tryCatch (wpAny_holding (wpAny_bind (cmp (j+1) (argBest bt j) v vb lt hb hv hP h1 tk1 _ _ kg1 ?_))))
  refine wpAny_bind (wpAny_holding (wpAny_truthy_bool (wpAny_bind (wpAny_letGo (wpAny_pure ?_)))))
  have eA:argBest bt (j+1)=if bt (j+1) (argBest bt j)=true then j+1 else argBest bt j:=rfl
  cases cc:bt (j+1) (argBest bt j) with
  |true =>
   have su:=Heap.SameBut.update h1 S (Obj.mapSeq fun _=>#[v,v])
   obtain⟨c2,hc2⟩:∃ c2,(h1.update S (Obj.mapSeq fun _=>#[v,v])).get? S=some (seqObj "list" #[v,v] c2):=⟨_,get?_update_seq hS1 fun _=>#[v,v]⟩
   simp
   refine wpAny_bind (wpAny_updateSeq hS1 rfl (wpAny_bind (wpAny_letGo ?_)))
   rw[if_pos cc]at eA
   refine wpAny_pure ⟨plainId_quiet Ep _,ih (j+1) _ _ v c2 (by omega) lt (kg1.same gS su) hc2 (W.frame _ _ _ st1 fun b hb o e=>(su.2 b (fun z=>hSf (z▸hb))).trans e) (by rw[eA];exact hv) (by rw[eA];exact lt)⟩
  |false =>
   simp
   rw[if_neg (by rw[cc];simp)]at eA
   refine wpAny_bind (wpAny_letGo (wpAny_pure ?_));refine⟨plainId_quiet Ep _,ih (j+1) _ _ vb c (by omega) lt kg1 hS1 st1 (by rw[eA];exact hP) (by rw[eA];exact hb)⟩
theorem zY{l:Addr}{vs:List Value}{Q:Value->Shared->Prop}(bt:Nat->Nat->Bool)(hh:A.handled=none)(hl:s.heap.IsList l vs.toArray)(hne:0<vs.length)
  (cmp:∀(i j:Nat)(u v:Value),vs[i]?=some u->vs[j]?=some v->∀(h:Heap)(tk:Nat)(Q:Value->Shared->Prop)(E:Value->Shared->Prop),Kp s.heap h->Q (.bool (bt i j)) { s with heap:=h,toks:=tk }->wpAny (model prog w) A.in1 (richCompare .Lt u v) Q E { s with heap:=h,toks:=tk })
  (fin:∀ v h' tk',vs[argBest bt (vs.length-1)]?=some v->Kp s.heap h'->Q v { s with heap:=h',toks:=tk' }) :
  wpAny (model prog w) A (call (.builtin "min") [.ref l]) Q E s:=by
 have nm:(toString "min"++toString ".loop" : String) = "min.loop":=by decide
 obtain⟨ol,hol,_⟩:=id hl
 have ll:l<s.heap.objs.size:=Heap.lt_size hol
 refine kmk_tree PySem.F.kind_min PySem.F.plain_min PySem.F.entry_min (PySem.F.args_min1 _) ?_
 show wpAny _ A.in1 (Builtin.Builtins.bindParams "min" ["key","default"] 0 ⟨[],[]⟩ >>= _) _ _ s
 refine wpAny_bind (wpAny_of_eq (show Builtin.Builtins.bindParams "min" ["key","default"] 0 ⟨[],[]⟩=pure [none,none] from rfl) (wpAny_bind (wpAny_pure (wpAny_bind (wpAny_pyIter_list hl ?_)))))
 refine wpAny_bind (wpAny_newList ?_ (Eu _));rw[nm]
 obtain⟨ob,eob⟩:∃ ob:Obj,ob={ cls:=Value.type "list_iterator",data:=Data.fields #[Value.ref l,Value.int 0 0] }:=⟨_,rfl⟩
 rw[← eob]
 have sz:(s.heap.push ob).objs.size=s.heap.objs.size+1:=by rw[Heap.size_push]
 have neS:(s.heap.push ob).objs.size≠s.heap.objs.size:=by omega
 have neL:l≠s.heap.objs.size:=DO ll
 have fr:∀ b,s.heap.objs.size<=b->s.heap.get? b=none:=fun b hb=>Heap.get?_none_of_le hb
 have kp:Kp s.heap ((s.heap.push ob).push (seqObj "list" #[] 0)):=fun b o e=>Heap.get?_push_of_some _ (Heap.get?_push_of_some _ e)
 have hS:((s.heap.push ob).push (seqObj "list" #[] 0)).get? (s.heap.push ob).objs.size=some (seqObj "list" #[] 0):=Heap.get?_push_size _ rfl
 have hJ:((s.heap.push ob).push (seqObj "list" #[] 0)).get? s.heap.objs.size=some ob:=Heap.get?_push_of_some _ (Heap.get?_push_size _ (by rw[eob];rfl))
 have W:=Walks.list (prog:=prog) (w:=w) (A:=A.in1) hh s.heap.objs.size l neL vs.toArray
 have vsz:vs.toArray.size=vs.length:=DT ..
 rw[vsz]at W
 have cmp':∀ i j u v,i<vs.length->j<vs.length->vs.toArray[i]?=some u->vs.toArray[j]?=some v->∀(h:Heap)(tk:Nat)(Q:Value->Shared->Prop)(E:Value->Shared->Prop),Kp s.heap h->Q (.bool (bt i j)) { s with heap:=h,toks:=tk }->wpAny (model prog w) A.in1 (richCompare .Lt u v) Q E { s with heap:=h,toks:=tk }:=fun i j u v _ _ h1 h2=>cmp i j u v (by simpa using h1) (by simpa using h2)
 refine wpAny_pure ⟨plainId_quiet Ep _,codeAny_builtin Fi ?_⟩;rw[Around.under_plainId Ep _]
 refine wpAny_bind (m:=seqItems? (.ref (s.heap.push ob).objs.size)) (wpAny_seqItems hS rfl ?_)
 show wpAny _ A.in1 (tryCatch (pyNext (.ref s.heap.objs.size)) _ >>= _) _ _ _
 refine wpAny_bind (wpAny_tryCatch (W.item 0 _ _ _ hne ⟨⟨ob,hJ,by rw[eob],by rw[eob];rfl⟩,hl.at fun o e=>kp _ _ e⟩ fun v h1 tk1 hv st1 k1=>?_))
 have kg1:=kp.but (fr _ (DF _)) k1
 have hS1:=k1 _ _ (by simpa using neS) hS
 have su:=Heap.SameBut.update h1 (s.heap.push ob).objs.size (Obj.mapSeq fun _=>#[v,v])
 obtain⟨c2,hc2⟩:∃ c2,(h1.update (s.heap.push ob).objs.size (Obj.mapSeq fun _=>#[v,v])).get? (s.heap.push ob).objs.size=some (seqObj "list" #[v,v] c2):=⟨_,get?_update_seq hS1 fun _=>#[v,v]⟩
 have nf:(s.heap.push ob).objs.size∉[s.heap.objs.size,l]:=fun z=>by
  rcases DI.mp z with z | z
  ·exact neS z
  ·have z':=DP.mp z
   exact absurd ll (by rw[← z',sz];exact F2 (Fp _))
 refine wpAny_bind (m:=updateSeq _ fun _=>#[v,v]) (wpAny_updateSeq hS1 rfl ?_);rw[nm]
 refine wpAny_pure ⟨plainId_quiet Ep _,w9 W bt (fr _ (DF _)) (fr _ (by omega)) neS nf cmp' (fun v h' tk' e kk=>fin v h' tk' (by simpa using e) kk) _ 0 _ _ v c2 rfl hne (kg1.same (fr _ (by omega)) su) hc2 (W.frame _ _ _ st1 fun b hb o e=>(su.2 b (fun z=>nf (z▸hb))).trans e) hv hne⟩
end
abbrev T3:=Int×Int×Int
def TrA(H:Hp)(v:V)(t:T3):Prop:=∃ a,v=.ref a/\H a=some (.tup [.int t.1,.int t.2.1,.int t.2.2])
def lt3(a b:T3):Bool:=lexB [(a.1,b.1),(a.2.1,b.2.1),(a.2.2,b.2.2)]
theorem lt3_le{a b:T3}(h:lt3 a b=true):a.1<=b.1:=by
 unfold lt3 lexB at h
 by_cases c:a.1=b.1
 ·omega
 ·rw[if_neg c]at h
  have:=of_decide_eq_true h
  omega
theorem lt3_ge{a b:T3}(h:lt3 a b=false):b.1<=a.1:=by
 unfold lt3 lexB at h
 by_cases c:a.1=b.1
 ·omega
 ·rw[if_neg c]at h
  have:=of_decide_eq_false h
  omega
theorem best3(W:Nat->T3):∀ k,argBest (fun i j=>lt3 (W i) (W j)) k<=k/\∀ j,j<=k->(W (argBest (fun i j=>lt3 (W i) (W j)) k)).1<=(W j).1
 |0=>by
  refine⟨DF _,fun j hj=>?_⟩
  have e:j=0:=by omega
  rw[e]
  exact EL _
 |k+1=>by
  obtain⟨h1,h2⟩:=best3 W k
  have e:argBest (fun i j=>lt3 (W i) (W j)) (k+1)=if lt3 (W (k+1)) (W (argBest (fun i j=>lt3 (W i) (W j)) k))=true then k+1 else argBest (fun i j=>lt3 (W i) (W j)) k:=rfl
  rw[e]
  cases c:lt3 (W (k+1)) (W (argBest (fun i j=>lt3 (W i) (W j)) k)) with
  |true =>
   rw[if_pos rfl]
   have h3:=lt3_le c
   refine⟨DF _,fun j hj=>?_⟩
   by_cases z:j=k+1
   ·subst z;exact EL _
   ·have:=h2 j (by omega);omega
  |false =>
   rw[if_neg DW]
   have h3:=lt3_ge c
   refine⟨by omega,fun j hj=>?_⟩
   by_cases z:j=k+1
   ·subst z;exact h3
   ·exact h2 j (by omega)
def rMin3(K:DE):List V->Hp->VK->Prop:=fun xs H Q=>∃ p ys ws,xs = [.ref p]/\SqL K H p ys/\LsAt TrA H ys ws/\ws≠[]/\∀(i:Nat)(y:V)(t:T3),ys[i]?=some y->ws[i]?=some t->(∀ t'∈ws,t.1<=t'.1)->Q y H
theorem yx{X:Cx}(hc:X.calm=true)(hu:X.A.units+64<cLine):gG X (.builtin "min") (rMin3 X.K):=by
 intro pins s σ H xs us Q I r h
 obtain⟨p,ys,ws,rfl,hS,hL,hne,q⟩:=h
 obtain⟨u,rfl,rx⟩:=jy r
 cases rx
 obtain⟨its,rv,pl,_⟩:=I.list hS
 have yl:=hL.1
 have il:=rv.length
 have wp:0<ws.length:=List.length_pos_iff.mpr hne
 let W:Nat->T3:=fun i=>ws.getD i (0,0,0)
 have Wi:∀ i t,ws[i]?=some t->W i=t:=fun i t e=>by show ws.getD i (0,0,0)=t;rw[DD,e];rfl
 have look:∀(i:Nat)(v:Value),its[i]?=some v->∃ a o y1 y2 y3 n,v=.ref a/\s.heap.get? a=some o/\o.cls=.type "tuple"/\o.data=.seq #[y1,y2,y3] n/\(∃ t,y1=.int (W i).1 t)/\(∃ t,y2=.int (W i).2.1 t)/\(∃ t,y3=.int (W i).2.2 t):=fun i v e=>by
  have hi:i<ys.length:=by rw[il];exact(DC.mp e).1
  obtain⟨t,ht,a,ea,ha⟩:=hL.get (DB hi)
  obtain⟨v',ev,rv'⟩:=rv.get (DB hi)
  rw[e]at ev
  cases ev
  rw[ea]at rv'
  obtain rfl:v=.ref a:=rv'
  obtain⟨_,tis,rt,o,ho,hcl,n,hd⟩:=I.hok a _ ha
  rw[Wi i t ht]
  match tis,rt with
  |[y1,y2,y3],.cons r1 (.cons r2 (.cons r3 .nil))=>exact⟨a,o,y1,y2,y3,n,rfl,ho,hcl,hd,r1,r2,r3⟩
 refine zY (vs:=its) (fun i j=>lt3 (W i) (W j)) (I.ok.hd hc) pl.isList (by omega) ?_ ?_
 ·intro i j u v hu' hv' h tk Q' E' kk hQ
  have in1u:X.A.in1.units<cLine:=by
   have e:X.A.in1.units<=X.A.units+64:=by simp[Around.in1]
   omega
  obtain⟨a,oa,y1,y2,y3,n,rfl,ga,ca,da,r1,r2,r3⟩:=look i u hu'
  obtain⟨b,ob,z1,z2,z3,m,rfl,gb,cb,db,q1,q2,q3⟩:=look j v hv'
  exact tup_lt (kk _ _ ga) ca da (kk _ _ gb) cb db (ps:=[((W i).1,(W j).1),((W i).2.1,(W j).2.1),((W i).2.2,(W j).2.2)]) ⟨r1,q1,r2,q2,r3,q3,trivial⟩ rfl in1u hQ
 ·intro v h' tk e kk
  obtain⟨b1,b2⟩:=best3 W (its.length-1)
  have hi:argBest (fun i j=>lt3 (W i) (W j)) (its.length-1)<ys.length:=by omega
  obtain⟨t,ht,_⟩:=hL.get (DB hi)
  obtain⟨v',ev,rv'⟩:=rv.get (DB hi)
  rw[e]at ev
  cases ev
  refine⟨_,H,I.kept kk,rv',q _ _ t (DB hi) ht fun t' ht'=>?_⟩
  obtain⟨j,hj,ej⟩:=EN ht'
  have:=b2 j (by omega)
  rw[Wi _ t ht,Wi j t' (by rw[DB hj,ej])]at this
  exact this
end L2
namespace L2
open PySem PySem.Spec PyProof.Rows
section
variable{prog:Program}{w:World}{A:Around}{E:Value->Shared->Prop}{s:Shared}
end
end L2
namespace PyProof.RowsP
open PySem PyProof.Rows
local macro_rules | `(tactic| walk_at "gallop") => do
 let n:=Lean.mkIdent (Lean.mkPrivateNameCore `PySem.Builtin.List.W1All `PySem.Builtin.gallop)
 `(tactic| delta $n)
local macro_rules | `(tactic| walk_at "st") => `(tactic| try dsimp -zeta -zetaHave only)
local macro_rules | `(tactic| walk_at "l4") => `(tactic| (extract_lets -underBinder +onlyGivenNames a b; subst a b))
end PyProof.RowsP
namespace PyProof.RowsP
open PySem PyProof.Rows
local macro_rules | `(tactic| walk_at "setG") => do
 let n:=Lean.mkIdent (Lean.mkPrivateNameCore `PySem.Builtin.List.W1All `PySem.Builtin.setMinGallop)
 `(tactic| delta $n)
local macro_rules | `(tactic| walk_at "mergeLo") => do
 let n:=Lean.mkIdent (Lean.mkPrivateNameCore `PySem.Builtin.List.W1All `PySem.Builtin.mergeLo)
 `(tactic| delta $n)
local macro_rules | `(tactic| walk_at "st") => `(tactic| try dsimp -zeta -zetaHave only)
local macro_rules | `(tactic| walk_at "l3") => `(tactic| (extract_lets -underBinder +onlyGivenNames a b c; subst a b c))
local macro_rules | `(tactic| walk_at "l11") => `(tactic| (extract_lets -underBinder +onlyGivenNames a b c d e f g h i j k; subst a b c d e f g h i j k; dsimp -zeta -zetaHave only))
end PyProof.RowsP
namespace PyProof.RowsP
open PySem PyProof.Rows
local macro_rules | `(tactic| walk_at "mergeHi") => do
 let n:=Lean.mkIdent (Lean.mkPrivateNameCore `PySem.Builtin.List.W1All `PySem.Builtin.mergeHi)
 `(tactic| delta $n)
local macro_rules | `(tactic| walk_at "st") => `(tactic| try dsimp -zeta -zetaHave only)
local macro_rules | `(tactic| walk_at "l3") => `(tactic| (extract_lets -underBinder +onlyGivenNames a b c; subst a b c))
local macro_rules | `(tactic| walk_at "l11") => `(tactic| (extract_lets -underBinder +onlyGivenNames a b c d e f g h i j k; subst a b c d e f g h i j k; dsimp -zeta -zetaHave only))
end PyProof.RowsP
namespace PyProof.RowsP
open PySem PyProof.Rows
local macro_rules | `(tactic| walk_at "countRun") => do
 let n:=Lean.mkIdent (Lean.mkPrivateNameCore `PySem.Builtin.List.W1All `PySem.Builtin.countRun)
 `(tactic| delta $n)
local macro_rules | `(tactic| walk_at "binarySort") => do
 let n:=Lean.mkIdent (Lean.mkPrivateNameCore `PySem.Builtin.List.W1All `PySem.Builtin.binarySort)
 `(tactic| delta $n)
local macro_rules | `(tactic| walk_at "st") => `(tactic| try dsimp -zeta -zetaHave only)
local macro_rules | `(tactic| walk_at "l3") => `(tactic| (extract_lets -underBinder +onlyGivenNames a b c; subst a b c))
local macro_rules | `(tactic| walk_at "l11") => `(tactic| (extract_lets -underBinder +onlyGivenNames a b c d e f g h i j k; subst a b c d e f g h i j k; dsimp -zeta -zetaHave only))
local macro_rules | `(tactic| walk_at "l1") => `(tactic| (extract_lets -underBinder +onlyGivenNames a; subst a; try dsimp -zeta -zetaHave only))
local macro_rules | `(tactic| walk_at "l2") => `(tactic| (extract_lets -underBinder +onlyGivenNames a b; subst a b; try dsimp -zeta -zetaHave only))
local macro_rules | `(tactic| walk_at "l4") => `(tactic| (extract_lets -underBinder +onlyGivenNames a b c d; subst a b c d; try dsimp -zeta -zetaHave only))
end PyProof.RowsP
namespace PyProof.RowsP
open PySem PyProof.Rows
local macro_rules | `(tactic| walk_at "mergeAt") => do
 let n:=Lean.mkIdent (Lean.mkPrivateNameCore `PySem.Builtin.List.W1All `PySem.Builtin.mergeAt)
 `(tactic| delta $n)
local macro_rules | `(tactic| walk_at "st") => `(tactic| try dsimp -zeta -zetaHave only)
local macro_rules | `(tactic| walk_at "l3") => `(tactic| (extract_lets -underBinder +onlyGivenNames a b c; subst a b c))
local macro_rules | `(tactic| walk_at "l11") => `(tactic| (extract_lets -underBinder +onlyGivenNames a b c d e f g h i j k; subst a b c d e f g h i j k; dsimp -zeta -zetaHave only))
local macro_rules | `(tactic| walk_at "l1") => `(tactic| (extract_lets -underBinder +onlyGivenNames a; subst a; try dsimp -zeta -zetaHave only))
local macro_rules | `(tactic| walk_at "l2") => `(tactic| (extract_lets -underBinder +onlyGivenNames a b; subst a b; try dsimp -zeta -zetaHave only))
local macro_rules | `(tactic| walk_at "l4") => `(tactic| (extract_lets -underBinder +onlyGivenNames a b c d; subst a b c d; try dsimp -zeta -zetaHave only))
end PyProof.RowsP
namespace PyProof.RowsP
open PySem PyProof.Rows
local macro_rules | `(tactic| walk_at "sortRuns") => do
 let n:=Lean.mkIdent (Lean.mkPrivateNameCore `PySem.Builtin.List.W1All `PySem.Builtin.sortRuns)
 `(tactic| delta $n)
local macro_rules | `(tactic| walk_at "st") => `(tactic| try dsimp -zeta -zetaHave only)
local macro_rules | `(tactic| walk_at "l3") => `(tactic| (extract_lets -underBinder +onlyGivenNames a b c; subst a b c))
local macro_rules | `(tactic| walk_at "l11") => `(tactic| (extract_lets -underBinder +onlyGivenNames a b c d e f g h i j k; subst a b c d e f g h i j k; dsimp -zeta -zetaHave only))
local macro_rules | `(tactic| walk_at "l1") => `(tactic| (extract_lets -underBinder +onlyGivenNames a; subst a; try dsimp -zeta -zetaHave only))
local macro_rules | `(tactic| walk_at "l2") => `(tactic| (extract_lets -underBinder +onlyGivenNames a b; subst a b; try dsimp -zeta -zetaHave only))
local macro_rules | `(tactic| walk_at "l4") => `(tactic| (extract_lets -underBinder +onlyGivenNames a b c d; subst a b c d; try dsimp -zeta -zetaHave only))
end PyProof.RowsP
namespace L2
open PySem PySem.Spec PyProof.Rows
theorem AG{xs:Array Nat}{j:Nat}(hs:xs.toList.Pairwise (· < ·)):∀(fuel lo hi:Nat),hi-lo<=fuel->lo<=hi->hi<=xs.size->(∀ i,i<lo->xs.getD i j<j)->(∀ i,hi<=i->i<xs.size->j<=xs.getD i j) ->
  (∀ i,i<SetTable.below.go xs j fuel lo hi->xs.getD i j<j)/\(∀ i,SetTable.below.go xs j fuel lo hi<=i->i<xs.size->j<=xs.getD i j)/\SetTable.below.go xs j fuel lo hi<=xs.size:=by
 have up:∀ a b,a<b->b<xs.size->xs.getD a j<xs.getD b j:=fun a b hab hb=>by
  have ha:a<xs.size:=Fj hab hb
  have:=FJ.mp hs a b (by simpa using ha) (by simpa using hb) hab
  simpa[F9,ha,hb] using this
 intro fuel
 induction fuel with
 |zero =>
  intro lo hi h1 h2 h3 h4 h5
  have:lo=hi:=by omega
  subst this
  exact⟨h4,h5,h3⟩
 |succ fuel ih =>
  intro lo hi h1 h2 h3 h4 h5
  unfold SetTable.below.go
  by_cases c:lo<hi
  ·rw[if_pos c]
   have m1:lo<=(lo+hi)/2:=by omega
   have m2:(lo+hi)/2<hi:=by omega
   dsimp only
   by_cases d:xs.getD ((lo+hi)/2) j<j
   ·rw[if_pos d]
    refine ih _ _ (by omega) (by omega) h3 (fun i hi'=>?_) h5
    by_cases e:i=(lo+hi)/2
    ·rw[e];exact d
    ·exact Fj (up i _ (by omega) (by omega)) d
   ·rw[if_neg d]
    refine ih _ _ (by omega) (by omega) (by omega) h4 fun i hi' hl=>?_
    by_cases e:i=(lo+hi)/2
    ·rw[e];omega
    ·have:=up _ i (show(lo+hi)/2<i by omega) hl
     omega
  ·rw[if_neg c]
   have:lo=hi:=by omega
   subst this
   exact⟨h4,h5,h3⟩
theorem tQ{xs:Array Nat}(hs:xs.toList.Pairwise (· < ·))(j:Nat):(∀ i,i<SetTable.below xs j->xs.getD i j<j)/\(∀ i,SetTable.below xs j<=i->i<xs.size->j<=xs.getD i j)/\SetTable.below xs j<=xs.size :=
 AG hs xs.size 0 xs.size (by omega) (Eu _) (DF _) (fun i h=>absurd h (Fh _)) fun i h1 h2=>absurd h2 (by omega)
def SetT(t:SetTable):Prop:=t.place.toList.Pairwise (· < ·)/\t.dummies=#[]
theorem SetT.fresh(a b:Nat)(led:Bool):SetT (.fresh a b led):=⟨FW,rfl⟩
theorem SetT.standIn(t:SetTable)(n:Nat):SetT (t.standIn n):=⟨by
 show(Array.range n).toList.Pairwise (· < ·)
 rw[Array.toList_range]
 exact List.pairwise_lt_range,rfl⟩
theorem xO(j:Nat):SetTable.has #[] j=false:=by
 unfold SetTable.has
 simp
theorem SetT.put{t:SetTable}(h:SetT t){j:Nat}(hj:t.slot j=.empty):SetT (t.put j).1:=by
 obtain⟨hs,hd⟩:=h
 obtain⟨b1,b2,b3⟩:=tQ hs j
 have ne:t.place[SetTable.below t.place j]?≠some j:=fun z=>by
  unfold SetTable.slot at hj
  dsimp only at hj
  rw[z]at hj
  simp at hj
 refine⟨?_,?_⟩
 ·show(SetTable.insertAt t.place (SetTable.below t.place j) j).toList.Pairwise (· < ·)
  rw[SetTable.toList_insertAt]
  have lt1:∀ a∈t.place.toList.take (SetTable.below t.place j),a<j:=fun a ha=>by
   obtain⟨i,hi⟩:=List.mem_iff_getElem?.mp ha
   have il:i<SetTable.below t.place j:=by
    have:=(DC.mp hi).1
    rw[DY]at this
    omega
   rw[Fv,if_pos il]at hi
   have:=b1 i il
   rw[Et]at hi
   rw[Gb,hi]at this
   exact this
  have lt2:∀ b∈t.place.toList.drop (SetTable.below t.place j),j<b:=fun b hb=>by
   obtain⟨i,hi⟩:=List.mem_iff_getElem?.mp hb
   rw[Fm,Et]at hi
   have il:SetTable.below t.place j+i<t.place.size:=by
    obtain⟨z,_⟩:=Gd.mp hi
    exact z
   have h1:=b2 _ (F3 _ i) il
   rw[Gb,hi]at h1
   have h1':j<=b:=h1
   rcases Nat.lt_or_ge j b with z | z
   ·exact z
   ·have e:b=j:=by omega
    subst e
    by_cases i0:i=0
    ·subst i0;exact absurd hi ne
    ·have h0:=b2 (SetTable.below t.place b) (DF _) (by omega)
     have:=FJ.mp hs (SetTable.below t.place b) (SetTable.below t.place b+i) (by simp;omega) (by simpa using il) (by omega)
     obtain⟨z1,z2⟩:=Gd.mp hi
     have q1:t.place.getD (SetTable.below t.place b) b=t.place[SetTable.below t.place b]'(by omega):=by rw[Gb,EI];rfl
     rw[q1]at h0
     simp only[Array.getElem_toList]at this
     rw[z2]at this
     omega
  refine EB.mpr ⟨hs.sublist (List.take_sublist _ _),List.pairwise_cons.mpr ⟨lt2,hs.sublist (List.drop_sublist _ _)⟩,fun a ha b hb=>?_⟩
  rcases DI.mp hb with z | z
  ·rw[z];exact lt1 a ha
  ·exact Fj (lt1 a ha) (lt2 b z)
 ·show(if SetTable.has t.dummies j=true then SetTable.eraseAt t.dummies (SetTable.below t.dummies j) else t.dummies)=#[]
  rw[hd,xO,if_neg DW]
theorem zx{t:SetTable}{f:Nat->Int}{h:Int}(hd:t.dummies=#[]):∀(fuel:Nat)(p:SetTable.Probe),p.dummy=none->∀ j d,SetTable.probe.go t f h fuel p=some (.empty j d)->t.slot j=.empty/\d=none:=by
 intro fuel
 have nd:∀ j,t.slot j≠.dummy:=fun j z=>by
  unfold SetTable.slot at z
  rw[hd,xO]at z
  simp only[Ed,if_false]at z
  split at z<;>cases z
 induction fuel with
 |zero=>intro p _ j d e;cases e
 |succ fuel ih =>
  intro p hp j d e
  have adv:(t.advance p).dummy=none:=by
   unfold SetTable.advance
   split<;>exact hp
  unfold SetTable.probe.go at e
  split at e
  ·rename_i hs
   cases e
   exact⟨hs,hp⟩
  ·rename_i hs
   exact absurd hs (nd _)
  ·split at e
   ·cases e
   ·exact ih _ adv j d e
theorem SetT.layNew{t:SetTable}(h:SetT t)(es:Array (Int×Value))(hh:Int)(x:Value):SetT (layNew t es hh x).2.1/\(layNew t es hh x).2.1.led=t.led:=by
 unfold PySem.layNew
 split
 ·rename_i slot wd e
  unfold SetTable.freeSlot at e
  split at e
  ·rename_i j dm e2
   obtain⟨z1,z2⟩:=zx h.2 _ _ rfl j dm e2
   subst z2
   have e3:(j,false)=(slot,wd):=El e
   cases e3
   dsimp only
   unfold SetTable.orStandIn
   split
   ·exact⟨h.put z1,rfl⟩
   ·exact⟨SetT.standIn _ _,rfl⟩
  ·cases e
 ·exact⟨SetT.standIn _ _,rfl⟩
theorem rh(n:Nat)(g:Nat->Option Nat):(((EA n).filterMap fun j=>(g j).map (j,·)).map (·.1)).Pairwise (· < ·):=by
 have:((EA n).filterMap fun j=>(g j).map (j,·)).map (·.1)=(EA n).filter fun j=>(g j).isSome:=by
  induction (EA n) with
  |nil=>rfl
  |cons a l ih =>
   cases e:g a with
   |none=>simp[e,ih]
   |some b=>simp[e,ih]
 rw[this]
 exact List.pairwise_lt_range.filter _
theorem SetT.relayAll(t:SetTable)(es:Array (Int×Value))(wanted:Nat):SetT (relayAll t es wanted).2.1/\(relayAll t es wanted).2.1.led=t.led:=by
 unfold PySem.relayAll
 split
 ·rename_i t' order e
  dsimp only
  split
  ·unfold SetTable.relaid SetTable.laid at e
   cases ho:SetTable.layClean (SetTable.sizeAbove wanted-1) (es.map (·.1)) with
   |none=>rw[ho]at e;cases e
   |some owner =>
    rw[ho]at e
    cases e
    refine⟨⟨?_,rfl⟩,rfl⟩
    show(List.toArray _).toList.Pairwise (· < ·)
    rw[List.toList_toArray]
    exact rh _ _
  ·exact⟨SetT.standIn _ _,rfl⟩
 ·exact⟨SetT.standIn _ _,rfl⟩
theorem ka{us vs:List Value}(p:us.Perm vs):∀{ns:List Int},IntsAre vs ns->∃ ms,IntsAre us ms/\ms.Perm ns:=by
 have go:∀{us vs:List Value},us.Perm vs->∀{ns:List Int},IntsAre us ns->∃ ms,IntsAre vs ms/\ms.Perm ns:=by
  intro us vs p
  induction p with
  |nil=>exact fun h=>⟨_,h,.rfl⟩
  |cons x _ ih =>
   intro ns h
   cases h with
   |cons n t h =>
    obtain⟨ms,h1,h2⟩:=ih h
    exact⟨n::ms,.cons n t h1,h2.cons n⟩
  |swap x y l =>
   intro ns h
   cases h with
   |cons n t h =>
    cases h with
    |cons n' t' h=>exact⟨n'::n::_,.cons n' t' (.cons n t h),List.Perm.swap _ _ _⟩
  |trans _ _ ih1 ih2 =>
   intro ns h
   obtain⟨ms,h1,h2⟩:=ih1 h
   obtain⟨ks,h3,h4⟩:=ih2 h1
   exact⟨ks,h3,h4.trans h2⟩
 exact fun{ns} h=>go p.symm h
theorem xK{vs:List Value}{ns:List Int}(h:IntsAre vs ns)(k:Int)(t:Tok):IntsAre (vs++[.int k t]) (ns++[k]):=by
 induction h with
 |nil=>exact .cons k t .nil
 |cons n t' _ ih=>exact .cons n t' ih
theorem tD{vs:List Value}{ns:List Int}(h:IntsAre vs ns):(∀ v∈vs,∃ n t,v=.int n t/\n∈ns)/\∀ n∈ns,∃ t,Value.int n t∈vs:=by
 induction h with
 |nil=>exact⟨fun v hv=>(nomatch hv),fun n hn=>(nomatch hn)⟩
 |cons n t _ ih =>
  refine⟨fun v hv=>?_,fun m hm=>?_⟩
  ·rcases DI.mp hv with z | z
   ·exact⟨n,t,z,DU ..⟩
   ·obtain⟨a,b,c,d⟩:=ih.1 v z
    exact⟨a,b,c,DM _ d⟩
  ·rcases DI.mp hm with z | z
   ·subst z;exact⟨t,DU ..⟩
   ·obtain⟨b,c⟩:=ih.2 m z
    exact⟨b,DM _ c⟩
def byT(w:World):Bool:=w.params.followText "set-order"
def SetG(P:Program)(w:World)(h:Heap)(a:Addr)(l:List Int):Prop:=∃ o es ep t,h.get? a=some o/\o.ExactSet/\o.data=.set es ep t/\ElemsOf (intKind P w) es.toList/\(∃ ns,IntsAre (es.toList.map (·.2)) ns/\ns.Perm l)/\l.Nodup/\es.size<scanBound/\t.fits es.size=true/\SetT t/\t.led = !byT w
theorem SetG.keeps{P:Program}{w:World}{h h':Heap}{a:Addr}{l:List Int}(g:SetG P w h a l)(k:∀ o,h.get? a=some o->h'.get? a=some o):SetG P w h' a l:=by
 obtain⟨o,es,ep,t,g1,r⟩:=g
 exact⟨o,es,ep,t,k o g1,r⟩
def addN(l:List Int)(k:Int):List Int:=if k∈l then l else l++[k]
theorem sC{P:Program}{w:World}{h:Heap}{a:Addr}{o:Obj}{es es':Array (Int×Value)}{ep:Nat}{t t':SetTable}{l:List Int}(go:h.get? a=some o)(gx:o.ExactSet)(gd:o.data=.set es ep t)(el:ElemsOf (intKind P w) es'.toList)(ia:∃ ns,IntsAre (es'.toList.map (·.2)) ns/\ns.Perm l)(nd:l.Nodup)(sz:es'.size<scanBound)(ft:t'.fits es'.size=true)(tg:SetT t')(ld:t'.led = !byT w) :
  SetG P w (h.update a (Obj.putSet es' t')) a l/\∃ o2,(h.update a (Obj.putSet es' t')).get? a=some o2/\o2.ExactSet/\o2.data=.set es' (ep+1) t':=by
 have hg:=Heap.get?_update_self (Obj.putSet es' t') go (by rw[putSet_of es' t' gd];rfl)
 rw[putSet_of es' t' gd]at hg
 exact⟨⟨_,es',ep+1,t',hg,gx,rfl,el,ia,nd,sz,ft,tg,ld⟩,_,hg,gx,rfl⟩
section
variable{prog:Program}{w:World}{A:Around}{E:Value->Shared->Prop}{s:Shared}
theorem putInS{a:Addr}{l:List Int}{k:Int}{tk:Tok}{Q:Bool->Shared->Prop}(g:SetG prog w s.heap a l)(room:l.length+1<scanBound)
  (q:∀(b:Bool)(h':Heap),Heap.SameBut a s.heap h'->SetG prog w h' a (addN l k)->Q b { s with heap:=h' }):wpAny (model prog w) A (setAddHashed a (.int k tk) ((intKind prog w).hash k)) Q E s:=by
 obtain⟨o,es,ep,t,go,gx,gd,el,⟨ns,ia,pm⟩,nd,sz,ft,tg,ld⟩:=id g
 have kis:(intKind prog w).is k (.int k tk)=true:=intKind_is _ _ _ _
 have len:es.size=l.length:=by
  have h1:∀{vs:List Value}{ns:List Int},IntsAre vs ns->vs.length=ns.length:=fun h=>by
   induction h with
   |nil=>rfl
   |cons _ _ _ ih=>rw[DZ,DZ,ih]
  have:=h1 ia
  rw[DG,DX,pm.length_eq]at this
  exact this
 have gw:∀(b:Bool){s₁:Shared}{Q':Unit->Shared->Prop},Q' () s₁->wpAny (model prog w) A (match b with | true=>rule "set.scan.the-table-gave-way" | false=>pure ()) Q' E s₁:=fun b=>by
  intro s1 Q' hq
  cases b
  ·exact wpAny_pure hq
  ·exact wpAny_rule hq
 unfold setAddHashed setAddHashedIn
 refine wpAny_holding (wpAny_bind (wpAny_setState_of go gd ft ?_))
 dsimp only
 rw[byScan_of (knd:=intKind prog w) rfl sz el]
 simp only[↓reduceIte]
 unfold setAddByScan
 refine wpAny_bind (wpAny_bind (wpAny_rule (wpAny_bind (wpAny_setScan_of (knd:=intKind prog w) kis go gd ft el ?_))))
 cases fr:List.findIdx? (fun e=>(intKind prog w).is k e.2) es.toList with
 |some j =>
  obtain⟨jl,jp,_⟩:=List.findIdx?_eq_some_iff_getElem.mp fr
  have kin:k∈l:=by
   obtain⟨n,t',e1,e2⟩:=(tD ia).1 _ (List.mem_map_of_mem (f:=(·.2)) (Ew jl))
   have e3:(es.toList[j]).2=.int n t':=e1
   rw[e3]at jp
   have:k=n:=(intKind prog w).inj _ k n jp (intKind_is _ _ _ _)
   rw[this]
   exact pm.mem_iff.mp e2
  refine wpAny_pure (wpAny_pure ?_)
  have e:addN l k=l:=if_pos kin
  have:=q false s.heap (Heap.SameBut.refl a s.heap) (by rw[e];exact g)
  exact this
 |none =>
  have kout:k∉l:=fun z=>by
   obtain⟨t',m⟩:=(tD ia).2 k (pm.mem_iff.mpr z)
   obtain⟨e,he,e2⟩:=ED.mp m
   have:=List.findIdx?_eq_none_iff.mp fr e he
   rw[e2,intKind_is]at this
   cases this
  have ea:addN l k=l++[k]:=if_neg kout
  have nd1:(l++[k]).Nodup:=List.nodup_append.mpr ⟨nd,Eo.mpr ⟨D7,Fu⟩,fun a ha b hb e=>kout (by rw[DP.mp hb]at e;exact e▸ha)⟩
  have hp:=layNew_perm t es ((intKind prog w).hash k) (.int k tk)
  have hf:=layNew_fits t es ((intKind prog w).hash k) (.int k tk)
  obtain⟨ht,hl⟩:=tg.layNew es ((intKind prog w).hash k) (.int k tk)
  dsimp only
  generalize layNew t es ((intKind prog w).hash k) (.int k tk)=N at hp hf ht hl ⊢
  obtain⟨es1,t1,wd,gv⟩:=N
  dsimp only at hp hf ht hl ⊢
  rw[E8]at hp
  have el1:ElemsOf (intKind prog w) es1.toList:=(el.push kis rfl).perm hp
  have ia1:∃ ms,IntsAre (es1.toList.map (·.2)) ms/\ms.Perm (l++[k]):=by
   have p2:=hp.map (·.2)
   rw[Ex]at p2
   obtain⟨ms,h1,h2⟩:=ka p2 (xK ia k tk)
   exact⟨ms,h1,h2.trans (pm.append_right _)⟩
  have sz1:es1.size<scanBound:=by rw[← DX,hp.length_eq,DL,DX,len];exact room
  have ld1:t1.led = !byT w:=hl.trans ld
  refine wpAny_bind (gw _ ?_)
  have tail:∀ t2:SetTable,t2.fits es1.size=true->SetT t2->t2.led = !byT w->wpAny (model prog w) A (do
    storeSet a es1 t2
    if(!wd&&t2.tooFull)=true then do
      (match(relayAll t2 es1 (SetTable.grown es1.size)).2.2 with | true=>rule "set.scan.the-table-gave-way" | false=>pure ())
      storeSet a (relayAll t2 es1 (SetTable.grown es1.size)).1 (relayAll t2 es1 (SetTable.grown es1.size)).2.1
      pure (some true)
     else pure (some true)) (fun r s'=>∃ b:Bool,r=some b/\Q b s') E s:=by
   intro t2 f2 g2 l2
   obtain⟨G1,o2,go2,gx2,gd2⟩:=sC (P:=prog) (w:=w) go gx gd el1 ia1 nd1 sz1 f2 g2 l2
   have sb1:=Heap.SameBut.update s.heap a (Obj.putSet es1 t2)
   refine wpAny_bind (wpAny_storeSet_of go gd ?_ (fits_of_scanBound sz1))
   split
   ·have hp2:=relayAll_perm t2 es1 (SetTable.grown es1.size)
    have hf2:=relayAll_fits t2 es1 (SetTable.grown es1.size)
    obtain⟨ht2,hl2⟩:=SetT.relayAll t2 es1 (SetTable.grown es1.size)
    generalize relayAll t2 es1 (SetTable.grown es1.size)=N2 at hp2 hf2 ht2 hl2 ⊢
    obtain⟨es2,t3,gv2⟩:=N2
    dsimp only at hp2 hf2 ht2 hl2 ⊢
    have ia2:∃ ms,IntsAre (es2.toList.map (·.2)) ms/\ms.Perm (l++[k]):=by
     obtain⟨m1,h1,h2⟩:=ia1
     obtain⟨ms,h3,h4⟩:=ka (hp2.map (·.2)) h1
     exact⟨ms,h3,h4.trans h2⟩
    have sz2:es2.size<scanBound:=by rw[← DX,hp2.length_eq,DX];exact sz1
    refine wpAny_bind (gw _ (wpAny_bind (wpAny_storeSet_of go2 gd2 ?_ (fits_of_scanBound sz2))))
    obtain⟨G2,_⟩:=sC (P:=prog) (w:=w) go2 gx2 gd2 (el1.perm hp2) ia2 nd1 sz2 hf2 ht2 (hl2.trans l2)
    refine wpAny_pure ⟨true,rfl,?_⟩
    exact q true _ (sb1.trans (Heap.SameBut.update _ a _)) (by rw[ea];exact G2)
   ·refine wpAny_pure ⟨true,rfl,?_⟩
    exact q true _ sb1 (by rw[ea];exact G1)
  have all:=tail t1 hf ht ld1
  have step:∀(r:Option Bool)(s':Shared),(∃ b:Bool,r=some b/\Q b s')->wpAny (model prog w) A (match r with
    |some added=>pure added
    |none=>setAddHashedIn a (Value.int k tk) ((intKind prog w).hash k) 99999) Q E s':=fun r s' ⟨b,e,z⟩=>by
   subst e
   exact wpAny_pure z
  split
  ·refine wpAny_bind ?_
   rw[hashByValue_scannable 8 (x:=Value.int k tk) rfl]
   refine wpAny_pure ?_
   exact wpAny_mono all step fun _ _ z=>z
  ·refine wpAny_bind (wpAny_pure ?_)
   exact wpAny_mono all step fun _ _ z=>z
theorem AQ(l:List Int)(k:Int):(addN l k).length<=l.length+1:=by
 unfold addN
 split
 ·omega
 ·rw[DL];exact DF _
theorem y7{I S:Addr}{fp wr:List Addr}{n:Nat}{P:Nat->Value->Prop}{St:Nat->Heap->Prop}{R:Result->Shared->Prop}(W:Walks prog w A.in1 I fp wr n P St)(hS:S∉fp)(ns:List Int)(nl:ns.length=n)(hv:∀ i v,P i v->∃ t,v=.int (ns.getD i 0) t)(hb:n+1<scanBound) :
  ∀(r i:Nat)(h:Heap)(tk:Nat)(l:List Int),n-i=r->i<=n->St i h->SetG prog w h S l->l.length<=i ->
   (∀ h' tk',(∀ b o,b≠S->b∉wr->h.get? b=some o->h'.get? b=some o)->SetG prog w h' S ((ns.drop i).foldl addN l)->R (.ok (.ret .none)) { s with heap:=h',toks:=tk' }) ->
   codeAny (model prog w) A (.builtin "set.update.loop" ⟨[.ref S,.ref I],[]⟩) R { s with heap:=h,toks:=tk }:=by
 have hSw:S∉wr:=fun z=>hS (W.sub _ z)
 intro r
 induction r with
 |zero =>
  intro i h tk l er hi st g ll fin
  have ei:i=n:=by omega
  subst ei
  refine codeAny_builtin PyProof.Rows.F.entry_set_update_loop ?_
  rw[Around.under_plainId PyProof.Rows.F.plain_set_update_loop _]
  show wpAny _ A.in1 (pyNext (.ref I) >>= _) _ _ _
  refine wpAny_bind (W.done _ _ _ st fun h' tk' kk=>?_)
  show wpAny _ A.in1 (ret Value.none) _ _ _
  refine wpAny_pure (fin h' tk' (fun b o _ hw e=>kk b o hw e) ?_)
  rw[List.drop_of_length_le (by omega)]
  exact g.keeps fun o e=>kk _ _ hSw e
 |succ r ih =>
  intro i h tk l er hi st g ll fin
  have il:i<n:=by omega
  refine codeAny_builtin PyProof.Rows.F.entry_set_update_loop ?_
  rw[Around.under_plainId PyProof.Rows.F.plain_set_update_loop _]
  show wpAny _ A.in1 (pyNext (.ref I) >>= _) _ _ _
  refine wpAny_bind (W.item i _ _ _ il st fun v h1 tk1 pv st1 k1=>?_)
  obtain⟨t,rfl⟩:=hv i v pv
  have g1:=g.keeps fun o e=>k1 _ _ hSw e
  show wpAny _ A.in1 (holding [Value.int (ns.getD i 0) t] (setAdd S (.int (ns.getD i 0) t)) >>= _) _ _ _
  refine wpAny_bind (wpAny_holding ?_)
  unfold setAdd
  refine wpAny_holding (wpAny_bind ((intKind prog w).pyHash (k:=ns.getD i 0) (intKind_is _ _ _ _) ?_))
  refine putInS (l:=l) g1 (by omega) fun b h2 sb g2=>?_
  have k2:∀ b o,b≠S->h1.get? b=some o->h2.get? b=some o:=fun b o n e=>(sb.2 b n).trans e
  have dr:ns.drop i=ns.getD i 0::ns.drop (i+1):=by
   rw[Fn (by omega),DD,DB (by omega)]
   rfl
  refine wpAny_pure ⟨plainId_quiet PyProof.Rows.F.plain_set_update_loop _,ih (i+1) _ _ (addN l (ns.getD i 0)) (by omega) il (W.frame _ _ _ st1 fun b hb o e=>k2 b o (fun z=>hS (z▸hb)) e) g2 (by have:=AQ l (ns.getD i 0);omega) fun h' tk' kk gg=>?_⟩
  refine fin h' tk' (fun b o n hw e=>kk b o n hw (k2 b o n (k1 b o hw e))) ?_
  rw[dr,Gz]
  exact gg
theorem qM(a:Value){Q₁:Value->Shared->Prop}
  (h:Q₁ (.ref s.heap.objs.size) { s with heap:=s.heap.push { cls:=.type "set",dict:=none,data:=.set #[] 0 (.fresh 0 0 (!byT w)) } }) :
  codeAny (model prog w) A (.call (.builtin "set.__new__") ⟨[.type "set",a],[]⟩) (wants Q₁ E) s:=by
 refine codeAny_of_tree ?_
 show wpAny _ A.in1 (do checkBuiltinCall "set.__new__" ⟨[.type "set",a],[]⟩;again (.builtin "set.__new__" ⟨[.type "set",a],[]⟩)) _ _ s
 refine wpAny_bind (wpAny_of_eq (PySem.F.newCall_set_1 a) (wpAny_pure ⟨plainId_quiet PySem.F.plain_set_new _,codeAny_builtin PySem.F.entry_set_new ?_⟩))
 rw[Around.under_plainId PySem.F.plain_set_new _]
 unfold Builtin.«set.__new__» Builtin.Frozenset.newClass
 have hsub:=PySem.sub_set_self
 obtain⟨hp,gg,dd,tk,os⟩:=s
 dsimp only
 wp_walk
 refine wpAny_askSetting (wpAny_pure ?_)
 dsimp only
 simp only[newObj]
 exact wpAny_bind (wpAny_alloc (wpAny_pure (wpAny_pure h)))
theorem cY:∀{vs:List Value}{ns:List Int},IntsAre vs ns->vs.length=ns.length/\∀(i:Nat)(v:Value),vs[i]?=some v->∃ t,v=.int (ns.getD i 0) t
 |_,_,.nil=>⟨rfl,fun i v e=>by simp at e⟩
 |_,_,.cons n t r=>by
  obtain⟨h1,h2⟩:=cY r
  refine⟨by rw[DZ,DZ,h1],fun i v e=>?_⟩
  match i,e with
  |0,e=>cases e;exact⟨t,rfl⟩
  |i+1,e=>exact h2 i v e
abbrev newO(w:World):Obj:={ cls:=.type "set",dict:=none,data:=.set #[] 0 (.fresh 0 0 (!byT w)) }
theorem newG{P:Program}{h:Heap}{a:Addr}(e:h.get? a=some (newO w)):SetG P w h a [] :=
 ⟨_,#[],0,_,e,⟨rfl,rfl,rfl⟩,rfl,fun x hx=>by simp at hx,⟨[],.nil,.rfl⟩,Fu,by decide,rfl,SetT.fresh _ _ _,rfl⟩
theorem qA{lst:Addr}{its:Array Value}{ns:List Int}{Q:Value->Shared->Prop}(hh:A.handled=none)(hl:s.heap.IsList lst its)(ia:IntsAre its.toList ns)(hb:its.size+1<scanBound)
  (q:∀(h':Heap)(tk:Nat),SetG prog w h' s.heap.objs.size (ns.foldl addN [])->(∀ b o,s.heap.get? b=some o->h'.get? b=some o)->Q (.ref s.heap.objs.size) { s with heap:=h',toks:=tk }) :
  wpAny (model prog w) A (call (.type "set") [.ref lst]) Q E s:=by
 obtain⟨cc,tl,hmro⟩:=PySem.F.called_set.mro
 have hmade:=PySem.F.called_set.made
 have hsub:=PySem.F.called_set.sub
 obtain⟨il,iv⟩:=cY ia
 have nlen:ns.length=its.size:=by rw[← il,DX]
 refine wpAny_call (codeAny_of_tree ?_)
 show wpAny _ _ (callAny (.type "set") _) _ _ _
 refine wpAny_pure ⟨Code.quiet_builtin _ (by decide +kernel),codeAny_builtin PySem.F.entry_type_call ?_⟩
 rw[Around.under_plain (weight_type_call_type "set" [.ref lst] []) rfl]
 have f1:=PySem.F.called_set.notType
 have f2:=PySem.F.called_set.canCreate
 have f3:=PySem.F.typeCall_set_1 (.ref lst)
 repeat (any_goals (first | assumption | wp_step))
 refine codeAny_mono (qM (.ref lst) (E:=E) (Q₁:=fun obj s₁=>obj=.ref s.heap.objs.size/\s₁={ s with heap:=s.heap.push (newO w) }) ⟨rfl,rfl⟩) fun r s₁ hr=>?_
 cases r with
 |error e=>exact hr
 |ok fl =>
  cases fl with
  |next=>exact hr.elim
  |brk=>exact hr.elim
  |cont=>exact hr.elim
  |ret obj =>
   obtain⟨rfl,rfl⟩:=hr
   have gS:(s.heap.push (newO w)).get? s.heap.objs.size=some (newO w):=Heap.get?_push_size _ rfl
   have gT:Shared.TypeIs { s with heap:=s.heap.push (newO w) } (.ref s.heap.objs.size) "set":=⟨_,gS,rfl⟩
   have f4:=PySem.F.called_set.init.lookup
   have f5:=PySem.F.called_set.init.bind (.ref s.heap.objs.size)
   repeat (any_goals (first | assumption | wp_step))
   refine codeAny_mono (codeAny_call_builtin (R:=wants (fun r s₂=>r=.none/\∃ h' tk,s₂={ s with heap:=h',toks:=tk }/\SetG prog w h' s.heap.objs.size (ns.foldl addN [])/\∀ b o,s.heap.get? b=some o->h'.get? b=some o) E) PySem.F.called_set.init.plain PySem.F.entry_set_init (check_set_init_1 gT ?_)) fun r₂ s₂ hr₂=>?_
   ·obtain⟨ol,go,gc,nl,gd⟩:=hl
    obtain⟨c0,d0,dat,sl⟩:=ol
    simp only at gc gd
    subst gc
    subst gd
    have go1:(s.heap.push (newO w)).get? lst=some { cls:=.type "list",dict:=d0,data:=.seq its nl,slots:=sl }:=Heap.get?_push_of_some _ go
    have f6:=PySem.F.sub_list_set
    have f7:=PySem.F.sub_list_frozenset
    have f8:(Value.type "list" == Value.type "dict")=false:=by decide
    have hl1:(s.heap.push (newO w)).IsList lst its:=⟨_,go1,rfl,nl,rfl⟩
    unfold Builtin.«set.__init__» noKeywords Builtin.Frozenset.updateFrom
    generalize eP:pyIter=PI
    wp_walk
    subst eP
    refine wpAny_pyIter_list hl1 (wpAny_bind (wpAny_runValue ?_))
    have lS:lst<s.heap.objs.size:=Heap.lt_size go
    have nI:lst≠(s.heap.push (newO w)).objs.size:=by rw[Heap.size_push];exact DO (EX lS)
    have nS:s.heap.objs.size∉[(s.heap.push (newO w)).objs.size,lst]:=by
     rw[Heap.size_push]
     intro z
     rcases DI.mp z with z | z
     ·exact absurd z (DO (EF _))
     ·rw[DP]at z;exact absurd z.symm (DO lS)
    have hh3:A.in1.in1.in1.handled=none:=by simp[hh]
    refine y7 (s:=s) (Walks.list hh3 _ lst nI its) nS ns nlen (fun i v pv=>iv i v (by rw[Et];exact pv)) hb its.size 0 _ s.toks [] (by omega) (Eu _) ⟨⟨_,Heap.get?_push_size _ rfl,rfl,rfl⟩,hl1.push _⟩ (newG (Heap.get?_push_of_some _ gS)) (DF _) fun h' tk' kk gg=>?_
    refine wpAny_pure ?_
    show wpAny _ _ (ret Value.none) _ _ _
    refine wpAny_pure ⟨rfl,h',tk',rfl,gg,fun b o e=>?_⟩
    have bl:=Heap.lt_size e
    refine kk b o (DO bl) (fun z=>?_) (Heap.get?_push_of_some _ (Heap.get?_push_of_some _ e))
    rw[DP,Heap.size_push]at z
    exact absurd z (DO (EX bl))
   ·cases r₂ with
    |error e=>exact hr₂
    |ok fl₂ =>
     cases fl₂ with
     |next=>exact hr₂.elim
     |brk=>exact hr₂.elim
     |cont=>exact hr₂.elim
     |ret r =>
      obtain⟨rfl,h',tk,rfl,g',k'⟩:=hr₂
      repeat (any_goals (first | assumption | wp_step))
      exact q _ _ g' k'
end
end L2
namespace L2
open PySem PySem.Spec PyProof.Rows
theorem bt_set:bootBuiltins "set" = some (.type "set"):=by decide +kernel
theorem rA:entryFor table "set.__iter__" = some Builtin.«frozenset.__iter__»:=entryFor_alias (id':="frozenset.__iter__") (by kernel_rfl) rfl (by decide +kernel) (by kernel_rfl)
theorem cg:Slot "set_iterator" "__next__" "set_iterator.__next__" :=
 Slot.of (owner:="set_iterator") (n:="__next__") (by rw[typeLookup_type,builtinLookup_eq_fast];kernel_rfl) (by decide +kernel) (by decide +kernel) (by decide +kernel) (by first | exact .inl (by decide +kernel) | exact .inr (by decide +kernel)) (by rw[isSubtype_type];kernel_rfl)
theorem mq:entryFor table "set_iterator.__next__" = some Builtin.«set_iterator.__next__»:=entryFor_of_tree (by kernel_rfl)
theorem ow_si:Manifest.owners.lookup (String.ofList ['r','o','t','a','r','e','t','i','_','t','e','s'].reverse)=some Manifest.sig_set_iterator:=by kernel_rfl
theorem mG(a:Value):argsOk "set_iterator.__next__" ⟨[a],[]⟩:=by
 unfold argsOk
 rw[signature?_of (id:="set_iterator.__next__") (n:=['_','_','t','x','e','n','_','_']) (o:=['r','o','t','a','r','e','t','i','_','t','e','s']) (by kernel_rfl) ow_si]
 kernel_rfl
theorem lZ:Slot "set_iterator" "__iter__" "set_iterator.__iter__" :=
 Slot.of (owner:="set_iterator") (n:="__iter__") (by rw[typeLookup_type,builtinLookup_eq_fast];kernel_rfl) (by decide +kernel) (by decide +kernel) (by decide +kernel) (by first | exact .inl (by decide +kernel) | exact .inr (by decide +kernel)) (by rw[isSubtype_type];kernel_rfl)
theorem uY:entryFor table "set_iterator.__iter__" = some Builtin.«dict_keyiterator.__iter__»:=entryFor_alias (id':="dict_keyiterator.__iter__") (by kernel_rfl) rfl (by decide +kernel) (by kernel_rfl)
theorem vt(a:Value):argsOk "set_iterator.__iter__" ⟨[a],[]⟩:=by
 unfold argsOk
 rw[signature?_of (id:="set_iterator.__iter__") (n:=['_','_','r','e','t','i','_','_']) (o:=['r','o','t','a','r','e','t','i','_','t','e','s']) (by kernel_rfl) ow_si]
 kernel_rfl
theorem rq{α:Type}:∀{l:List α}{i:Nat}(h:i<l.length),(l[i]::l.eraseIdx i).Perm l
 |x::l,0,_=>List.Perm.refl _
 |x::l,i+1,h=>by
  have ih:=rq (l:=l) (i:=i) (by simpa using h)
  show(l[i]'(by simpa using h)::x::l.eraseIdx i).Perm (x::l)
  exact(List.Perm.swap x _ _).trans (ih.cons x)
theorem wC{α:Type}(next:Nat->Nat):∀(fuel k:Nat)(left:List α)(out:Array α),left.length=fuel->(pickOrder.go next fuel k left out).toList.Perm (out.toList++left)
 |0,k,left,out,h=>by
  have:left = []:=FR.mp h
  subst this
  unfold pickOrder.go
  rw[Fz]
 |fuel+1,k,left,out,h=>by
  have hl:next k%left.length<left.length:=Nat.mod_lt _ (by omega)
  unfold pickOrder.go
  rw[DB hl]
  dsimp only
  refine(wC next fuel (k+1) _ _ (by rw[Hg hl];omega)).trans ?_
  rw[E8,D9]
  refine EZ _ ?_
  exact rq hl
theorem oR{α:Type}(next:Nat->Nat)(xs:Array α):(pickOrder next xs).toList.Perm xs.toList:=by
 have:=wC next xs.size 0 xs.toList #[] (by simp)
 simpa[pickOrder] using this
section
variable{prog:Program}{w:World}{A:Around}{E:Value->Shared->Prop}{s:Shared}
theorem vj{src:Source}{n:Nat}{Q:Nat->Shared->Prop}(hn:n≠0)(h:∀ i d,i<n->Q i { s with drawn:=d }):wpAny (model prog w) A (choose src n) Q E s:=fun _ _ _=>⟨hn,h _ _ (Nat.mod_lt _ (Nat.pos_of_ne_zero hn))⟩
theorem tJ{α:Type}:∀(n:Nat)(xs:List α)(s:Shared)(Q:List α->Shared->Prop),xs.length=n->(∀ ys d,ys.Perm xs->Q ys { s with drawn:=d })->wpAny (model prog w) A (drawOrder n xs) Q E s
 |0,xs,s,Q,h,q=>by
  have:xs = []:=FR.mp h
  subst this
  unfold drawOrder
  exact wpAny_pure (q [] s.drawn .rfl)
 |n+1,[],s,Q,h,q=>by cases h
 |n+1,x::xs,s,Q,h,q=>by
  unfold drawOrder
  refine wpAny_bind (vj (by simp) fun i d hi=>?_)
  rw[DB hi]
  dsimp only
  refine wpAny_bind (tJ n _ _ _ (by rw[Hg hi];simp at h ⊢;omega) fun ys d2 p=>wpAny_pure ?_)
  exact q _ d2 ((p.cons _).trans (rq hi))
end
def slA(t:SetTable)(i:Nat):Nat:=if i=0 then 0 else t.place.getD (i-1) 0+1
def ItAt(P:Program)(w:World)(h:Heap)(I a tp:Addr)(ord:List Int)(i:Nat):Prop:=∃ o es ep t first vs,h.get? a=some o/\o.ExactSet/\o.data=.set es ep t/\t.fits es.size=true/\SetT t/\t.led = !byT w /\
 h.get? I=some { cls:=.type "set_iterator",data:=.fields #[first,rawInt (i:Int),.ref a,rawInt (es.size:Int),rawInt (ep:Int)] }/\IntsAre vs ord/\vs.length=es.size /\
 ((byT w=true/\(∃ z:Nat,first=rawInt (z:Int))/\vs=(pickOrder (w.params.setOrder a ep) es).toList.map (·.2)) ∨
  (byT w=false/\(!t.plain&&decide (es.size > 1))=false/\first=rawInt (slA t i:Int)/\vs=es.toList.map (·.2)) ∨
  (byT w=false/\∃(pl:List Nat)(ot:Obj)(c:Nat),first=.ref tp/\tp≠I/\tp≠a/\h.get? tp=some ot/\ot.data=.seq (pl.map fun p:Nat=>rawInt (p:Int)).toArray c/\pl.length=es.size/\∀(j p:Nat),pl[j]?=some p->∃ x,es[p]?=some x/\vs[j]?=some x.2))
section
variable{prog:Program}{w:World}{A:Around}{E:Value->Shared->Prop}{s:Shared}
theorem pC{es:Array (Int×Value)}{ns l:List Int}(ia:IntsAre (es.toList.map (·.2)) ns)(pm:ns.Perm l){ys:List (Int×Value)}(p:ys.Perm es.toList):∃ ms,IntsAre (ys.map (·.2)) ms/\ms.Perm l:=by
 obtain⟨ms,h1,h2⟩:=ka (p.map (·.2)) ia
 exact⟨ms,h1,h2.trans pm⟩
theorem zm{a:Addr}{l:List Int}{Q:Value->Shared->Prop}(g:SetG prog w s.heap a l)
  (q:∀(I tp:Addr)(h':Heap)(d:_)(ord:List Int),(∀ b o,s.heap.get? b=some o->h'.get? b=some o)->s.heap.objs.size<=I->I<h'.objs.size->s.heap.objs.size<=tp->tp<h'.objs.size->ord.Perm l->ItAt prog w h' I a tp ord 0->Q (.ref I) { s with heap:=h',drawn:=d }) :
  wpAny (model prog w) A (pyIter (.ref a)) Q E s:=by
 obtain⟨o,es,ep,t,go,gx,gd,el,⟨ns,ia,pm⟩,nd,sz,ft,tg,ld⟩:=id g
 have gT:s.TypeIs (.ref a) "set":=⟨o,go,gx.1⟩
 have al:a<s.heap.objs.size:=Heap.lt_size go
 have nlen:=(cY ia).1
 have zl:es.size<=sizeLine:=Ej (Fj sz (by decide))
 refine wpAny_pyIter_slot gT PySem.F.slot_set_iter (wpAny_call_entry PySem.F.slot_set_iter gT rA ?_ (PySem.F.args_set_iter_1 _))
 unfold Builtin.«frozenset.__iter__» Builtin.Frozenset.slot0 slotArgs
 simp only[G6,Gm,Ed,↓reduceIte,bind_assoc,Fy,bne_self_eq_false]
 unfold Builtin.Frozenset.addrOf Builtin.Frozenset.sizeOf
 refine wpAny_bind (wpAny_pure ?_)
 try dsimp only
 refine wpAny_bind (wpAny_pure (wpAny_bind (wpAny_bind (wpAny_setEntries_of go gd ft (wpAny_pure ?_)))))
 unfold setDrawn setsByText
 refine wpAny_bind (wpAny_bind (wpAny_setState_of go gd ft ?_))
 dsimp only
 refine wpAny_bind (wpAny_bind (wpAny_askSetting (wpAny_pure (wpAny_pure ?_))))
 have n0:∀ I:Addr,s.heap.objs.size<=I->a≠I:=fun I hI z=>absurd al (by rw[z];exact F2 hI)
 split
 ·rename_i cnd
  have c':(!byT w&&(!t.plain&&decide (es.size > 1)))=true:=cnd
  have bt:byT w=false:=by
   cases y:byT w with
   |false=>rfl
   |true=>rw[y]at c';cases c'
  refine wpAny_bind (tJ es.size (EA es.size) _ _ EH fun ys d p=>?_)
  have yl:ys.length=es.size:=by rw[p.length_eq,EH]
  refine wpAny_bind (wpAny_newTuple ?_ (by rw[DG,yl];exact zl))
  unfold setEpoch
  have g1:(s.heap.push { cls:=.type "tuple",data:=.seq (ys.map fun i:Nat=>rawInt (i:Int)).toArray }).get? a=some o:=Heap.get?_push_of_some _ go
  refine wpAny_bind (wpAny_bind (wpAny_setState_of g1 gd ft (wpAny_pure ?_)))
  unfold newFields
  refine wpAny_bind (wpAny_newObj_type ?_ (by size_fits))
  have em:(EA es.size).map (fun j=>es.getD j (0,Value.none))=es.toList:=by
   refine G7 (by simp) fun j h1 h2=>?_
   have hj:j<es.size:=by simpa using h2
   simp[F9,hj]
  have pv:(ys.map fun j=>es.getD j (0,Value.none)).Perm es.toList:=by
   rw[← em]
   exact p.map _
  obtain⟨ms,i1,i2⟩:=pC ia pm pv
  refine wpAny_pure ⟨_,rfl,"set_iterator",_,⟨_,Heap.get?_push_size _ rfl,rfl⟩,cg.lookup,?_⟩
  refine q _ s.heap.objs.size _ d ms (fun b o e=>Heap.get?_push_of_some _ (Heap.get?_push_of_some _ e)) (by rw[Heap.size_push];exact Fp _) (Heap.lt_size (Heap.get?_push_size _ rfl)) (DF _) (by rw[Heap.size_push,Heap.size_push];exact EX (EF _)) i2 ?_
  refine⟨o,es,ep,t,_,(ys.map fun j=>es.getD j (0,Value.none)).map (·.2),Heap.get?_push_of_some _ g1,gx,gd,ft,tg,ld,Heap.get?_push_size _ rfl,i1,by rw[DG,DG,yl],.inr (.inr ⟨bt,ys,_,_,rfl,?_,EJ al,Heap.get?_push_of_some _ (Heap.get?_push_size _ rfl),rfl,yl,fun j pp hj=>?_⟩)⟩
  ·rw[Heap.size_push];exact DO (EF _)
  ·have pl:pp<es.size:=E2.mp (p.mem_iff.mp (DH hj))
   refine⟨es[pp],EI pl,?_⟩
   rw[DK,DK,hj]
   show some (es.getD pp (0,Value.none)).2=_
   simp[F9,pl]
 ·rename_i cnd
  have c':¬ (!byT w&&(!t.plain&&decide (es.size > 1)))=true:=cnd
  refine wpAny_bind (wpAny_pure ?_)
  unfold setEpoch
  refine wpAny_bind (wpAny_bind (wpAny_setState_of go gd ft (wpAny_pure ?_)))
  unfold newFields
  refine wpAny_bind (wpAny_newObj_type ?_ (by size_fits))
  refine wpAny_pure ⟨_,rfl,"set_iterator",_,⟨_,Heap.get?_push_size _ rfl,rfl⟩,cg.lookup,?_⟩
  cases bt:byT w with
  |true =>
   obtain⟨ms,i1,i2⟩:=pC ia pm (oR (w.params.setOrder a ep) es)
   refine q _ s.heap.objs.size _ s.drawn ms (fun b o e=>Heap.get?_push_of_some _ e) (DF _) (by rw[Heap.size_push];exact EF _) (DF _) (by rw[Heap.size_push];exact EF _) i2 ?_
   exact⟨o,es,ep,t,_,_,Heap.get?_push_of_some _ go,gx,gd,ft,tg,ld,Heap.get?_push_size _ rfl,i1,by rw[DG,(oR _ _).length_eq,DX],.inl ⟨bt,⟨0,rfl⟩,rfl⟩⟩
  |false =>
   rw[bt]at c'
   have c2:(!t.plain&&decide (es.size > 1))=false:=by
    cases y:(!t.plain&&decide (es.size > 1)) with
    |false=>rfl
    |true=>exact absurd (by rw[y];rfl) c'
   refine q _ s.heap.objs.size _ s.drawn ns (fun b o e=>Heap.get?_push_of_some _ e) (DF _) (by rw[Heap.size_push];exact EF _) (DF _) (by rw[Heap.size_push];exact EF _) pm ?_
   exact⟨o,es,ep,t,_,_,Heap.get?_push_of_some _ go,gx,gd,ft,tg,ld,Heap.get?_push_size _ rfl,ia,by rw[DG,DX],.inr (.inl ⟨bt,c2,rfl,rfl⟩)⟩
theorem pD{t:SetTable}{n:Nat}(h:t.fits n=true):t.place.size=n:=by
 unfold SetTable.fits at h
 rw[G9]at h
 exact eq_of_beq h.1
theorem p5{t:SetTable}(tg:SetT t){i:Nat}(hi:i<=t.place.size):SetTable.below t.place (slA t i)=i:=by
 obtain⟨b1,b2,b3⟩:=tQ tg.1 (slA t i)
 have up:∀ a b,a<b->b<t.place.size->t.place.getD a (slA t i)<t.place.getD b (slA t i):=fun a b hab hb=>by
  have ha:a<t.place.size:=Fj hab hb
  have:=FJ.mp tg.1 a b (by simpa using ha) (by simpa using hb) hab
  simpa[F9,ha,hb] using this
 have sl:∀ k,i=k+1->slA t i=t.place.getD k (slA t i)+1:=fun k e=>by
  have hk:k<t.place.size:=by omega
  have e1:slA t i=t.place.getD k 0+1:=by
   unfold slA
   rw[if_neg (by omega),e,Nat.add_sub_cancel]
  have e2:t.place.getD k 0=t.place.getD k (slA t i):=by simp[F9,hk]
  rw[← e2]
  exact e1
 generalize hb:SetTable.below t.place (slA t i)=b at b1 b2 b3
 rcases Nat.lt_trichotomy b i with z | z | z
 ·obtain⟨k,rfl⟩:∃ k,i=k+1:=⟨i-1,by omega⟩
  have h1:=b2 b (DF _) (by omega)
  have h2:=sl k rfl
  by_cases e:b=k
  ·subst e;omega
  ·have:=up b k (by omega) (by omega)
   omega
 ·exact z
 ·have h1:=b1 i z
  cases i with
  |zero=>have e:slA t 0=0:=rfl;rw[e]at h1;omega
  |succ k =>
   have h2:=sl k rfl
   have:=up k (k+1) (by omega) (by omega)
   omega
theorem sE{I:Addr}{h h1 h2:Heap}(x:Heap.SameBut I h h1)(y:Heap.SameBut I h1 h2):Heap.SameBut I h h2:=⟨y.1.trans x.1,fun b hb=>(y.2 b hb).trans (x.2 b hb)⟩
theorem CW{I a tp:Addr}{ord:List Int}{i:Nat}{n:Int}{Q:Option Value->Shared->Prop}(h:ItAt prog w s.heap I a tp ord i)(hn:ord[i]?=some n)(aI:a≠I)
  (q:∀(t:Tok)(h':Heap),ItAt prog w h' I a tp ord (i+1)->Heap.SameBut I s.heap h'->Q (some (.int n t)) { s with heap:=h' }):wpAny (model prog w) A (pyNext (.ref I)) Q E s:=by
 obtain⟨o,es,ep,t,first,vs,go,gx,gd,ft,tg,ld,gI,ia,vl,md⟩:=h
 have gT:s.TypeIs (.ref I) "set_iterator":=⟨_,gI,rfl⟩
 unfold pyNext
 refine wpAny_bind (wpAny_attempt (wpAny_callSpecial?_slot (name:=Str.ofString "__next__") gT cg (wpAny_call_entry cg gT mq ?_ (mG _))))
 unfold Builtin.«set_iterator.__next__» slotArgs
 simp only[G6,Gm,Ed,↓reduceIte,bind_assoc,Fy,bne_self_eq_false]
 refine wpAny_bind (wpAny_pure ?_)
 try dsimp only
 refine wpAny_bind (wpAny_fieldsOf gI rfl ?_)
 dsimp only[rawInt]
 refine wpAny_bind (wpAny_setEntries_of go gd ft ?_)
 rw[if_neg (by simp)]
 have il:i<ord.length:=(DC.mp hn).1
 have ol:=(cY ia).1
 have ilv:i<vs.length:=by omega
 obtain⟨tk,hv⟩:∃ tk,vs[i]?=some (.int n tk):=by
  obtain⟨tk,e⟩:=(cY ia).2 i _ (DB ilv)
  refine⟨tk,?_⟩
  rw[DB ilv,e,DD,hn]
  rfl
 have psz:=pD ft
 have ci:((i:Int)+1)=((i+1:Nat):Int):=by omega
 rcases md with⟨bt,⟨z,rfl⟩,rfl⟩ | ⟨bt,dr,rfl,rfl⟩ | ⟨bt,pl,ot,c,rfl,tI,ta,gt,gtd,pll,pat⟩
 ·dsimp only[rawInt]
  unfold setNext setsByText setWalk setsByText
  refine wpAny_bind (wpAny_bind (wpAny_setState_of go gd ft ?_))
  dsimp only
  refine wpAny_bind (wpAny_bind (wpAny_askSetting (wpAny_pure ?_)))
  have bt':w.params.followText "set-order" = true:=bt
  rw[show(Setting.params ⟨(model prog w).prog,(model prog w).w.params⟩).followText "set-order" = true from bt',if_pos rfl,if_neg (by simp)]
  refine wpAny_bind (wpAny_bind (wpAny_setState_of go gd ft ?_))
  dsimp only
  refine wpAny_bind (wpAny_bind (wpAny_askSetting (wpAny_pure ?_)))
  rw[show(Setting.params ⟨(model prog w).prog,(model prog w).w.params⟩).followText "set-order" = true from bt',if_pos rfl]
  refine wpAny_bind (wpAny_askSetting (wpAny_pure (wpAny_pure ?_)))
  have hp:(pickOrder (w.params.setOrder a ep) es)[i]?.map (·.2)=some (.int n tk):=by rw[← Et,← DK];exact hv
  obtain⟨x,hx,ex⟩:=Ec.mp hp
  rw[DV,DV,show(pickOrder ((Setting.params ⟨(model prog w).prog,(model prog w).w.params⟩).setOrder a ep) es)[i]?=some x from hx]
  dsimp only[Option.map]
  refine wpAny_bind (wpAny_setField_rec gI (by simp) fun h1 g1 s1=>?_)
  refine wpAny_bind (wpAny_setField_rec (s:={ s with heap:=h1 }) g1 (by simp) fun h2 g2 s2=>?_)
  have sb:=sE s1 s2
  rw[ex]
  refine wpAny_pure ⟨_,rfl,wpAny_pure (q tk h2 ?_ sb)⟩
  refine⟨o,es,ep,t,_,_,(sb.2 a aI).trans go,gx,gd,ft,tg,ld,g2.trans ?_,ia,vl,.inl ⟨bt,⟨z,rfl⟩,rfl⟩⟩
  rw[ci]
  rfl
 ·dsimp only[rawInt]
  unfold setNext setsByText
  refine wpAny_bind (wpAny_bind (wpAny_setState_of go gd ft ?_))
  dsimp only
  refine wpAny_bind (wpAny_bind (wpAny_askSetting (wpAny_pure ?_)))
  have bt':w.params.followText "set-order" = false:=bt
  rw[show(Setting.params ⟨(model prog w).prog,(model prog w).w.params⟩).followText "set-order" = false from bt',if_neg (by simp)]
  refine wpAny_ite_split (fun c=>absurd (show(!t.plain&&decide (es.size > 1))=true from c) (by rw[dr];simp)) fun _=>?_
  have led:t.led=true:=by rw[ld,bt];rfl
  refine wpAny_bind ?_
  show wpAny _ _ (if(!t.led&&!es.isEmpty)=true then _ else _) _ _ _
  rw[led]
  refine wpAny_pure (wpAny_pure ?_)
  rw[DV,p5 tg (by omega)]
  have ie:i<es.size:=by omega
  have ip:i<t.place.size:=by omega
  have ex:es[i].2=.int n tk:=by
   rw[DK,Et,EI ie]at hv
   exact El hv
  rw[EI ie,EI ip]
  dsimp only
  refine wpAny_bind (wpAny_setField_rec gI (by simp) fun h1 g1 s1=>?_)
  refine wpAny_bind (wpAny_setField_rec (s:={ s with heap:=h1 }) g1 (by simp) fun h2 g2 s2=>?_)
  have sb:=sE s1 s2
  rw[ex]
  refine wpAny_pure ⟨_,rfl,wpAny_pure (q tk h2 ?_ sb)⟩
  refine⟨o,es,ep,t,_,_,(sb.2 a aI).trans go,gx,gd,ft,tg,ld,g2.trans ?_,ia,vl,.inr (.inl ⟨bt,dr,rfl,rfl⟩)⟩
  have es:slA t (i+1)=t.place[i]+1:=by
   unfold slA
   rw[if_neg (by omega),Nat.add_sub_cancel]
   simp[F9,ip]
  rw[ci,es]
  rfl
 ·dsimp only[rawInt]
  refine wpAny_bind (wpAny_seqItems gt gtd ?_)
  dsimp only
  have ip:i<pl.length:=by omega
  obtain⟨x,hx,hxv⟩:=pat i _ (DB ip)
  have ex:x.2=.int n tk:=El (hxv.symm.trans hv)
  rw[DV,List.getElem?_toArray,DK,DB ip]
  dsimp only[Option.map,rawInt]
  unfold setNextDrawn
  refine wpAny_bind (wpAny_bind (wpAny_setState_of go gd ft ?_))
  dsimp only
  rw[DV,DV,if_neg (by simp),hx]
  refine wpAny_pure ?_
  refine wpAny_bind (wpAny_setField_rec gI (by simp) fun h1 g1 s1=>?_)
  rw[ex]
  refine wpAny_pure ⟨_,rfl,wpAny_pure (q tk h1 ?_ s1)⟩
  refine⟨o,es,ep,t,_,vs,(s1.2 a aI).trans go,gx,gd,ft,tg,ld,g1.trans ?_,ia,vl,.inr (.inr ⟨bt,pl,ot,c,rfl,tI,ta,(s1.2 tp tI).trans gt,gtd,pll,pat⟩)⟩
  rw[ci]
  rfl
theorem qt{I:Addr}{k:Nat}{Q:Option Value->Shared->Prop}{vs:Array Value}(hh:A.handled=none) (gI:s.heap.get? I=some { cls:=.type "set_iterator",data:=.fields vs }) (hk:k<vs.size)
  (q:∀(h':Heap),Heap.ExtBut I s.heap h'->Q none { s with heap:=h' }) :
  wpAny (model prog w) A.in1 (setField (.ref I) k .none >>= fun _=>newExc (.type "StopIteration") [] >>= fun e=>raiseNew e) (fun(fin:Fin) s'=>∃ v,fin=Fin.done (Flow.ret v)/\wpAny (model prog w) A (pure (some v)) Q E s')
  (fun e s'=>wpAny (model prog w) A (do if ← isInstance e (.type "StopIteration") then pure none else throw e) Q E s') s:=by
 refine wpAny_bind (wpAny_setField gI rfl hk ?_)
 refine wpAny_bind ?_
 simp only[newExc,newTuple]
 refine wpAny_bind (wpAny_newObj_type ?_ (by size_fits))
 refine wpAny_bind (m:=firstArgMember _ _) (wpAny_of_eq (a:=Value.none) (by first | rfl | (simp only[firstArgMember];rfl)) ?_)
 refine wpAny_newObj_type ?_ (by size_fits)
 simp only[raiseNew]
 refine wpAny_bind (wpAny_handled ?_)
 rw[show A.in1.handled=none from hh]
 refine wpAny_bind (wpAny_pure (wpAny_throw ?_))
 refine wpAny_bind (wpAny_isInstance (T:="StopIteration") (b:=true) ⟨_,Heap.get?_push_size _ rfl,rfl⟩ isSubtype_stop ?_)
 exact wpAny_pure (q _ (((Heap.SameBut.update ..).extBut.push _).push _))
theorem CY{I a tp:Addr}{ord:List Int}{i:Nat}{Q:Option Value->Shared->Prop}(hh:A.handled=none)(h:ItAt prog w s.heap I a tp ord i)(hn:i=ord.length)(aI:a≠I)
  (q:∀(h':Heap),Heap.ExtBut I s.heap h'->Q none { s with heap:=h' }):wpAny (model prog w) A (pyNext (.ref I)) Q E s:=by
 obtain⟨o,es,ep,t,first,vs,go,gx,gd,ft,tg,ld,gI,ia,vl,md⟩:=h
 have gT:s.TypeIs (.ref I) "set_iterator":=⟨_,gI,rfl⟩
 unfold pyNext
 refine wpAny_bind (wpAny_attempt (wpAny_callSpecial?_slot (name:=Str.ofString "__next__") gT cg (wpAny_call_entry cg gT mq ?_ (mG _))))
 unfold Builtin.«set_iterator.__next__» slotArgs
 simp only[G6,Gm,Ed,↓reduceIte,bind_assoc,Fy,bne_self_eq_false]
 refine wpAny_bind (wpAny_pure ?_)
 try dsimp only
 refine wpAny_bind (wpAny_fieldsOf gI rfl ?_)
 dsimp only[rawInt]
 refine wpAny_bind (wpAny_setEntries_of go gd ft ?_)
 rw[if_neg (by simp)]
 have ol:=(cY ia).1
 have ilv:i=vs.length:=by omega
 have psz:=pD ft
 rcases md with⟨bt,⟨z,rfl⟩,rfl⟩ | ⟨bt,dr,rfl,rfl⟩ | ⟨bt,pl,ot,c,rfl,tI,ta,gt,gtd,pll,pat⟩
 ·dsimp only[rawInt]
  unfold setNext setsByText setWalk setsByText
  refine wpAny_bind (wpAny_bind (wpAny_setState_of go gd ft ?_))
  dsimp only
  refine wpAny_bind (wpAny_bind (wpAny_askSetting (wpAny_pure ?_)))
  have bt':w.params.followText "set-order" = true:=bt
  rw[show(Setting.params ⟨(model prog w).prog,(model prog w).w.params⟩).followText "set-order" = true from bt',if_pos rfl,if_neg (by simp)]
  refine wpAny_bind (wpAny_bind (wpAny_setState_of go gd ft ?_))
  dsimp only
  refine wpAny_bind (wpAny_bind (wpAny_askSetting (wpAny_pure ?_)))
  rw[show(Setting.params ⟨(model prog w).prog,(model prog w).w.params⟩).followText "set-order" = true from bt',if_pos rfl]
  refine wpAny_bind (wpAny_askSetting (wpAny_pure (wpAny_pure ?_)))
  have hx:(pickOrder (w.params.setOrder a ep) es)[i]?=none:=by
   rw[FU]
   rw[ilv,DG,DX]
   exact DF _
  rw[DV,DV,show(pickOrder ((Setting.params ⟨(model prog w).prog,(model prog w).w.params⟩).setOrder a ep) es)[i]?=none from hx]
  exact qt hh gI (by simp) q
 ·dsimp only[rawInt]
  unfold setNext setsByText
  refine wpAny_bind (wpAny_bind (wpAny_setState_of go gd ft ?_))
  dsimp only
  refine wpAny_bind (wpAny_bind (wpAny_askSetting (wpAny_pure ?_)))
  have bt':w.params.followText "set-order" = false:=bt
  rw[show(Setting.params ⟨(model prog w).prog,(model prog w).w.params⟩).followText "set-order" = false from bt',if_neg (by simp)]
  refine wpAny_ite_split (fun c=>absurd (show(!t.plain&&decide (es.size > 1))=true from c) (by rw[dr];simp)) fun _=>?_
  have led:t.led=true:=by rw[ld,bt];rfl
  refine wpAny_bind ?_
  show wpAny _ _ (if(!t.led&&!es.isEmpty)=true then _ else _) _ _ _
  rw[led]
  refine wpAny_pure (wpAny_pure ?_)
  have ie:i=es.size:=by omega
  rw[DV,p5 tg (by omega)]
  rw[FU (by omega:es.size<=i),FU (by omega:t.place.size<=i)]
  exact qt hh gI (by simp) q
 ·dsimp only[rawInt]
  refine wpAny_bind (wpAny_seqItems gt gtd ?_)
  dsimp only
  have ip:pl.length<=i:=by omega
  rw[DV,List.getElem?_toArray,DK,F1 ip]
  dsimp only[Option.map]
  refine wpAny_bind (wpAny_setField_rec gI (by simp) fun h1 g1 s1=>?_)
  exact qt (s:={ s with heap:=h1 }) hh g1 (by simp) fun h' x=>q h' fun b o hb e=>x b o hb ((s1.2 b hb).trans e)
theorem xH{h h':Heap}{I a tp:Addr}{ord:List Int}{i:Nat}(x:ItAt prog w h I a tp ord i)(k:∀ b∈[I,a,tp],∀ o,h.get? b=some o->h'.get? b=some o):ItAt prog w h' I a tp ord i:=by
 obtain⟨o,es,ep,t,first,vs,go,gx,gd,ft,tg,ld,gI,ia,vl,md⟩:=x
 refine⟨o,es,ep,t,first,vs,k a (by simp) _ go,gx,gd,ft,tg,ld,k I (by simp) _ gI,ia,vl,?_⟩
 rcases md with z | z | ⟨bt,pl,ot,c,e,tI,ta,gt,r⟩
 ·exact .inl z
 ·exact .inr (.inl z)
 ·exact .inr (.inr ⟨bt,pl,ot,c,e,tI,ta,k tp (by simp) _ gt,r⟩)
theorem Aj(hh:A.handled=none)(I a tp:Addr)(aI:a≠I)(ord:List Int):Walks prog w A I [I,a,tp] [I] ord.length (fun i v=>∃ t n,ord[i]?=some n/\v=.int n t) (fun i h=>ItAt prog w h I a tp ord i) where
 sub:=fun b hb=>by simp at hb;simp[hb]
 frame:=fun _ _ _ st hk=>xH st hk
 item:=fun i s Q E hi st hQ=>by
  refine CW st (DB hi) aI fun t h' it' sb=>?_
  exact hQ _ h' s.toks ⟨t,_,DB hi,rfl⟩ it' fun b o hb e=>sb.extBut b o (fun h=>hb (by simp[h])) e
 done:=fun s Q E st hQ=>CY hh st rfl aI fun h' eb=>hQ h' s.toks fun b o hb e=>eb b o (fun h=>hb (by simp[h])) e
 self:=fun _ s Q _ st h=>by
  obtain⟨o,es,ep,t,first,vs,go,gx,gd,ft,tg,ld,gI,ia,vl,md⟩:=st
  have hT:s.TypeIs (.ref I) "set_iterator":=⟨_,gI,rfl⟩
  refine wpAny_pyIter_slot hT lZ (wpAny_call_entry lZ hT uY ?_ (vt _))
  show wpAny _ _ (ret (.ref I)) _ _ s
  exact wpAny_pure ⟨_,rfl,"set_iterator",_,hT,cg.lookup,h⟩
theorem Am{r:Addr}{Q:Bool->Shared->Prop} (hT:s.TypeIs (.ref r) "set") (h:Q false s):wpAny (model prog w) A (Builtin.List.listLengthHint (.ref r)) Q E s:=by
 unfold Builtin.List.listLengthHint
 refine wpAny_bind (wpAny_specialOf hT PySem.F.slot_set_len.lookup ?_)
 generalize hid:("set.__len__" : String)=id0
 wp_delta
 rw[show splitId id0=some ("set","__len__") from by subst hid;decide +kernel]
 subst hid
 refine wpAny_bind (wpAny_isInstance (T:="set") (b:=true) hT (by rw[isSubtype_type];kernel_rfl) ?_)
 refine wpAny_ite_split (fun hab=>absurd hab (by decide)) (fun _=>?_)
 refine wpAny_ite_split (fun _=>?_) (fun hab=>absurd (by decide +kernel) hab)
 refine wpAny_bind (wpAny_typeOf hT ?_)
 exact wpAny_pure h
theorem SetG.len{h:Heap}{a:Addr}{l:List Int}(g:SetG prog w h a l):l.length<scanBound:=by
 obtain⟨o,es,ep,t,go,gx,gd,el,⟨ns,ia,pm⟩,nd,sz,ft,tg,ld⟩:=g
 have:=(cY ia).1
 rw[DG,DX,pm.length_eq]at this
 omega
theorem SetG.typ{a:Addr}{l:List Int}(g:SetG prog w s.heap a l):s.TypeIs (.ref a) "set":=by
 obtain⟨o,es,ep,t,go,gx,r⟩:=g
 exact⟨o,go,gx.1⟩
theorem SetG.lt{h:Heap}{a:Addr}{l:List Int}(g:SetG prog w h a l):a<h.objs.size:=by
 obtain⟨o,es,ep,t,go,gx,r⟩:=g
 exact Heap.lt_size go
theorem rK{a:Addr}{l:List Int}{Q:List Value->Shared->Prop}(hh:A.handled=none)(g:SetG prog w s.heap a l)
  (h:∀(h':Heap)(tk:Nat)(d:Drawn)(acc:Array Value)(ord:List Int),(∀ b o,s.heap.get? b=some o->h'.get? b=some o)->s.heap.objs.size<h'.objs.size->ord.Perm l->ItemsOf (fun i v=>∃ t n,ord[i]?=some n/\v=.int n t) acc ord.length->Q acc.toList { s with heap:=h',toks:=tk,drawn:=d }):wpAny (model prog w) A (collect (.ref a)) Q E s:=by
 unfold collect
 refine wpAny_bind (wpAny_runValue (codeAny_builtin entry_proto_collect' ?_))
 show wpAny _ _ (do again (.builtin "list.__iadd__" ⟨[← newList [],.ref a],[]⟩)) _ _ s
 refine wpAny_bind (wpAny_newList (wpAny_pure ⟨Code.quiet_builtin _ (by decide +kernel),codeAny_builtin entry_list_iadd' ?_⟩))
 rw[Around.under_plainId PySem.F.plain_list_iadd _]
 show wpAny _ A.in1 (Builtin.List.listExtendWith (.ref s.heap.objs.size) (.ref a) (.ref s.heap.objs.size)) _ _ { s with heap:=s.heap.push (seqObj "list" #[] 0) }
 have g1:SetG prog w (s.heap.push (seqObj "list" #[] 0)) a l:=g.keeps fun o e=>Heap.get?_push_of_some _ e
 have aS:s.heap.objs.size≠a:=EJ g.lt
 have hS:(s.heap.push (seqObj "list" #[] 0)).get? s.heap.objs.size=some { cls:=.type "list",data:=.seq #[] 0 }:=Heap.get?_push_size _ rfl
 unfold Builtin.List.listExtendWith
 refine wpAny_bind (wpAny_typeOf (T:="set") g1.typ ?_)
 have h1:Builtin.List.listSameRef (.ref s.heap.objs.size) (.ref a)=false:=by simp[Builtin.List.listSameRef,aS]
 simp only[h1,show(Value.type "set" == Value.type "list")=false by decide,show(Value.type "set" == Value.type "tuple")=false by decide,HC,Ed,if_false]
 refine wpAny_bind (zm g1 fun I tp h2 d ord k2 lI sI lt st pm it=>?_)
 have z1:(s.heap.push (seqObj "list" #[] 0)).objs.size=s.heap.objs.size+1:=Heap.size_push ..
 rw[z1]at lI lt
 have SI:s.heap.objs.size≠I:=DO lI
 have ST:s.heap.objs.size≠tp:=DO lt
 have aI:a≠I:=DO (Fj g.lt lI)
 have hSf:s.heap.objs.size∉[I,a,tp]:=by simp only[DI,D7,or_false,not_or];exact⟨SI,aS,ST⟩
 have hn:ord.length<=sizeLine:=by
  rw[pm.length_eq]
  exact Ej (Fj g.len (by decide))
 have key:∀(h3:Heap)(c₁ tk:Nat),ItAt prog w h3 I a tp ord 0->(∀ b o,b≠s.heap.objs.size->h2.get? b=some o->h3.get? b=some o) ->
   h3.get? s.heap.objs.size=some { cls:=.type "list",data:=.seq #[] c₁ }->codeAny (model prog w) A (.builtin "list.extend.loop" ⟨[.ref s.heap.objs.size,.ref I,.ref s.heap.objs.size],[]⟩) (fun r s'=>∃ h' tk d acc' c',r=.ok (.ret (.ref s.heap.objs.size))/\s'={ s with heap:=h',toks:=tk,drawn:=d }/\(∀ b o,s.heap.get? b=some o->h'.get? b=some o)/\h'.get? s.heap.objs.size=some { cls:=.type "list",dict:=none,data:=.seq acc' c',slots:=#[] }/\ItemsOf (fun i v=>∃ t n,ord[i]?=some n/\v=.int n t) acc' ord.length) { s with heap:=h3,toks:=tk,drawn:=d }:=by
  intro h3 c₁ tk hst hk hS₁
  refine codeAny_extend_loopS (Aj (A:=A.in1) hh I a tp aI ord).toS hn _ hSf _ ord.length 0 _ #[] c₁ rfl (Eu _) hst hS₁ (ItemsOf.nil _) fun s' acc' c' hm hS' hacc=>?_
  rw[Moved.eq_with hm]
  refine⟨s'.heap,s'.toks,d,acc',c',rfl,rfl,fun b o e=>hm.heap b o (fun hmem=>?_) (hk b o (DO (Heap.lt_size e)) (k2 b o (Heap.get?_push_of_some _ e))),hS',hacc⟩
  rcases DI.mp hmem with e' | hmem
  ·exact absurd (Heap.lt_size e) (by rw[e'];exact Ey _)
  ·exact absurd (Heap.lt_size e) (by rw[DP.mp hmem];exact F2 (Ej lI))
 have fin:∀(r:Result)(s':Shared),(∃ h' tk d acc' c',r=.ok (.ret (.ref s.heap.objs.size))/\s'={ s with heap:=h',toks:=tk,drawn:=d }/\(∀ b o,s.heap.get? b=some o->h'.get? b=some o)/\h'.get? s.heap.objs.size=some { cls:=.type "list",dict:=none,data:=.seq acc' c',slots:=#[] }/\ItemsOf (fun i v=>∃ t n,ord[i]?=some n/\v=.int n t) acc' ord.length)->∃ v,r=.ok (.ret v)/\v=.ref s.heap.objs.size/\wpAny (model prog w) A (do
   let o ← load s.heap.objs.size
   match o.data with
   |.seq xs _=>pure xs.toList
   |_=>unsupported "internal:collect") Q E s':=fun r s' ⟨h',tk,d,acc',c',e1,e2,hk,hS,hacc⟩=>⟨_,e1,rfl,by
  subst e2
  refine wpAny_bind (wpAny_load hS ?_)
  exact wpAny_pure (h h' tk d acc' ord hk (Heap.lt_size hS) pm hacc)⟩
 have hS₁:=k2 _ _ hS
 have g2:SetG prog w h2 a l:=g1.keeps fun o e=>k2 _ _ e
 refine wpAny_bind (wpAny_holding (Am (s:={ s with heap:=h2,drawn:=d }) g2.typ ?_))
 refine wpAny_ite_split (fun _=>?_) (fun _=>wpAny_pure ⟨plainId_quiet E9 _,codeAny_mono (key _ 0 _ it (fun b o _ e=>e) hS₁) fun r s'' q'=>?_⟩)
 rotate_left
 ·obtain⟨v,e1,e2,z⟩:=fin _ _ q'
  cases e1
  cases e2
  exact z
 refine wpAny_bind (wpAny_rule ?_)
 refine wpAny_bind ?_
 show wpAny _ _ (updateSeq s.heap.objs.size (·.push .none) >>= fun _=>updateSeq s.heap.objs.size (·.pop)) _ _ _
 refine wpAny_bind (wpAny_updateSeq hS₁ rfl ?_)
 have hS₂:=Heap.get?_update_self (Obj.mapSeq (·.push Value.none)) hS₁ rfl
 refine wpAny_updateSeq (hz:=by seq_fits) hS₂ rfl ?_
 have hS₃:=Heap.get?_update_self (Obj.mapSeq (·.pop)) hS₂ rfl
 have oth:∀ b o,b≠s.heap.objs.size->h2.get? b=some o->((h2.update s.heap.objs.size (Obj.mapSeq (·.push Value.none))).update s.heap.objs.size (Obj.mapSeq (·.pop))).get? b=some o:=fun b o hb e=>(Heap.get?_update_other _ _ (Ne.symm hb)).trans ((Heap.get?_update_other _ _ (Ne.symm hb)).trans e)
 refine wpAny_pure ⟨plainId_quiet E9 _,codeAny_mono (key _ _ _ (xH it fun b hb o e=>oth b o (fun z=>hSf (z▸hb)) e) oth hS₃) fun r s'' q'=>?_⟩
 obtain⟨v,e1,e2,z⟩:=fin _ _ q'
 cases e1
 cases e2
 exact z
end
section
variable{X:Cx}{pins:List (Addr×Obj)}{σ:List (Option V)}{H:Hp}{s:Shared}
theorem Inv.drew{d:Drawn}(I:Inv X pins σ H s):Inv X pins σ H { s with drawn:=d }:=⟨I.ok,I.os,I.bare,I.base,I.loc,I.cell,I.free,I.freeC,I.pin,I.hok,I.len⟩
def setO(P:Program)(w:World)(a:Addr)(l:List Int):HO:=.ext fun h=>SetG P w h a l
def rSetI(P:Program)(w:World)(K:DE):List V->Hp->VK->Prop:=fun xs H Q=>∃(p:Addr)(ns:List Int),xs = [.ref p]/\SqL K H p (ns.map V.int)/\ns.length+1<4096/\∀ a:Addr,H a=none->Q (.ref a) (upd H a (setO P w a (ns.foldl addN [])))
theorem yu(hc:X.calm=true){P:Program}{w:World}{K:DE}(eP:X.prog=P)(eW:X.w=w)(eK:X.K=K):gG X (.type "set") (rSetI P w K):=by
 subst eP eW eK
 intro pins s σ H xs us Q I r h
 obtain⟨p,ns,rfl,hq,few,q⟩:=h
 obtain⟨u,rfl,ru⟩:=jy r
 cases ru
 obtain⟨its,rv,pl,hz⟩:=I.list hq
 have hi:=jk rv
 have hl:=rv.length
 rw[DG]at hl
 refine qA (I.ok.hd hc) pl.isList hi (by rw[DT,← hl];exact few) fun h' tk g k=>?_
 refine⟨.ref s.heap.objs.size,_,I.laid (t':=tk) k (DF _) (show bD X.prog X.w _ _ _ (setO X.prog X.w s.heap.objs.size (ns.foldl addN [])) from⟨g,?_,fun h1 h2 g1 k1=>g1.keeps k1⟩),rfl,q _ (I.hok.fresh (DF _))⟩
 obtain⟨o,es,ep,t,g1,r⟩:=g
 exact⟨o,g1⟩
theorem AO(ns:List Int):∀(l:List Int)(x:Int),x∈ns.foldl addN l↔x∈l∨x∈ns:=by
 induction ns with
 |nil=>intro l x;simp
 |cons n ns ih =>
  intro l x
  rw[Gz,ih,DI]
  unfold addN
  split
  ·rename_i c
   exact⟨fun z=>z.elim .inl fun y=>.inr (.inr y),fun z=>z.elim .inl fun y=>y.elim (fun e=>.inl (e▸c)) .inr⟩
  ·rw[DN,DP]
   exact⟨fun z=>z.elim (fun y=>y.elim .inl fun e=>.inr (.inl e)) fun y=>.inr (.inr y),fun z=>z.elim (fun y=>.inl (.inl y)) fun y=>y.elim (fun e=>.inl (.inr e)) .inr⟩
def rSortS(P:Program)(w:World):List V->Hp->VK->Prop:=fun xs H Q=>∃(a:Addr)(ms:List Int),xs = [.ref a]/\H a=some (setO P w a ms)/\∀(l:Addr)(out:List Int),H l=none->(∀ x,x∈out↔x∈ms)->out.Pairwise (· < ·)->Q (.ref l) (upd H l (.lst (out.map V.int)))
theorem vk(hc:X.calm=true){P:Program}{w:World}(eP:X.prog=P)(eW:X.w=w):gG X (.builtin "sorted") (rSortS P w):=by
 subst eP eW
 intro pins s σ H xs us Q I r h
 obtain⟨a,ms,rfl,ha,q⟩:=h
 obtain⟨u,rfl,ru⟩:=jy r
 cases ru
 obtain⟨g,_,_⟩:=(show bD X.prog X.w H s.heap a (setO X.prog X.w a ms) from I.hok a _ ha)
 have g:SetG X.prog X.w s.heap a ms:=g
 have nd:ms.Nodup:=let ⟨_,_,_,_,_,_,_,_,_,nd,_⟩:=g;nd
 refine Calls.call_function_entry kind_sorted plain_sorted entry_sorted (args_sorted1 _) ?_
 unfold Builtin.«sorted»
 refine wpAny_bind (m:=checkCount "sorted" 1 1 _) (wpAny_pure ?_)
 refine wpAny_bind (rK (I.ok.hd hc) g fun h' tk d acc' ord hk hlt pm hacc=>?_)
 have hi:IntsAre acc'.toList ord:=by
  have all:∀(vs:List Value)(ns:List Int),vs.length=ns.length->(∀(j:Nat) v,vs[j]?=some v->∃ t n,ns[j]?=some n/\v=.int n t)->IntsAre vs ns:=fun vs=>by
   induction vs with
   |nil=>intro ns e _;rw[Ff e.symm];exact .nil
   |cons v vs ih =>
    intro ns e k
    cases ns with
    |nil=>cases e
    |cons n ns =>
     obtain⟨t,m,e1,e2⟩:=k 0 v rfl
     cases e1
     rw[e2]
     exact .cons _ _ (ih ns (G3 e) fun j v e=>k (j+1) v e)
  exact all _ _ (by rw[DX];exact hacc.1) fun j v e=>hacc.2 j v (by rw[← Et];exact e)
 have hlen:acc'.toList.length<=sizeLine:=by
  rw[DX,hacc.1,pm.length_eq]
  exact Ej (Fj g.len (by decide))
 refine wpAny_bind (wpAny_newList ?_ hlen)
 have hoL:(h'.push (seqObj "list" acc'.toList.toArray 0)).get? h'.objs.size=some (seqObj "list" acc'.toList.toArray 0):=Heap.get?_push_size _ rfl
 show wpAny _ _ _ _ _ { s with heap:=h'.push (seqObj "list" acc'.toList.toArray 0),toks:=tk,drawn:=d }
 have keepH:∀(out:Array Value)(b:Addr)(o:Obj),s.heap.get? b=some o->(sortedHeap (h'.push (seqObj "list" acc'.toList.toArray 0)) h'.objs.size acc'.toList out).get? b=some o:=fun out b o e=>by
  have e2:=hk b o e
  rw[sortedHeap_old (DO (Heap.lt_size e2)) (by rw[Heap.size_push];exact EX (Heap.lt_size e2))]
  exact Heap.get?_push_of_some _ e2
 have hsz:s.heap.objs.size<=h'.objs.size:=Ej hlt
 refine wpAny_bind (wpAny_holding (wpAny_call_entry slot_list_sort ⟨_,hoL,rfl⟩ entry_list_sort (zg hoL hi hlen fun out ns' a1 a2 a3=>⟨_,rfl,?_⟩) (args_list_sort _)))
 obtain⟨e,he⟩:=sortedHeap_at (out:=out) hoL
 have pm2:=a2.trans pm
 refine wpAny_pure ⟨_,rfl,?_⟩
 refine⟨.ref h'.objs.size,_,(I.laid (t':=tk) (keepH out) hsz (show bD X.prog X.w _ _ _ (.lst (ns'.map V.int)) from⟨?_,out.toList,e,vJ a1,?_⟩)).drew,rfl,q _ ns' (I.hok.fresh hsz) (fun x=>pm2.mem_iff) ?_⟩
 ·rw[DG,pm2.length_eq]
  exact Ej (Fj g.len (by decide))
 ·exact he
 ·exact(List.Pairwise.and a3 (pm2.nodup_iff.mpr nd)).imp fun{x y} ⟨h1,h2⟩=>by
   have h1':x<=y:=h1
   omega
end
end L2
namespace L2.C2
open PySem PySem.Spec PyProof.Rows
section
variable{prog:Program}{w:World}{A:Around}{E:Value->Shared->Prop}{s:Shared}{d:Addr}
theorem qq{a:Addr}{Q:Option Obj->Shared->Prop}(h:Q (s.heap.get? a) s):wpAny (model prog w) A (loadIfAlive a) Q E s:=fun Γ p hΓ=>by
 show Sem.wp _ _ (.loadIfAlive a _) _ _ _ _
 rw[Sem.wp_loadIfAlive]
 exact(wpAny_pure (M:=model prog w) (A:=A) (E:=E) h) Γ p hΓ
def ItAt(h:Heap)(it d:Addr)(i n ep:Nat):Prop:=∃ f0 f1 x6 x7,h.get? it=some { cls:=.type "dict_itemiterator",dict:=none,data:=.fields #[f0,f1,.ref d,.int i 0,.int n 0,.int ep 0,x6,x7],slots:=#[] }/\((f0=.none/\f1=.bool false)∨∃(a:Addr)(o:Obj),f0=rawInt a/\h.get? a=some o/\a≠it)
theorem ItAt.keep{h h':Heap}{it:Addr}{i n ep:Nat}(x:ItAt h it d i n ep)(hit:∀ o,h.get? it=some o->h'.get? it=some o)(k:∀ b o,b≠it->h.get? b=some o->∃ o',h'.get? b=some o'):ItAt h' it d i n ep:=by
 obtain⟨f0,f1,x6,x7,e,c⟩:=x
 refine⟨f0,f1,x6,x7,hit _ e,?_⟩
 rcases c with c | ⟨a,o,c1,c2,c3⟩
 ·exact .inl c
 ·obtain⟨o',q⟩:=k a o c3 c2
  exact .inr ⟨a,o',c1,q,c3⟩
theorem xG{it:Addr}{i ep:Nat}{es:Array DictEntry}{Q:Option Value->Shared->Prop}(hit:ItAt s.heap it d i es.size ep)(hm:Ent s.heap d es ep)(hh:A.handled=none)
  (hI:∀ e,es[i]?=some e->∀ h',ItAt h' it d (i+1) es.size ep->h'.get? s.heap.objs.size=some { cls:=.type "tuple",data:=.seq #[e.key,e.val] }->(∀ b o,b≠it->s.heap.get? b=some o->h'.get? b=some o)->Q (some (.ref s.heap.objs.size)) { s with heap:=h' })
  (hE:es[i]?=none->∀ h',Heap.ExtBut it s.heap h'->Q none { s with heap:=h' }):wpAny (model prog w) A (pyNext (.ref it)) Q E s:=by
 obtain⟨f0,f1,ok,ov,hit,c⟩:=hit
 rcases c with⟨rfl,rfl⟩ | ⟨a,oa,rfl,hoa,hai⟩
 ·refine xV (ok:=ok) (ov:=ov) hit hm hh (fun e he h' q1 q2 q3=>hI e he h' ⟨_,_,_,_,q1,.inr ⟨s.heap.objs.size,_,rfl,q2,?_⟩⟩ q2 q3) hE
  exact EJ (Heap.lt_size hit)
 obtain⟨o,e1,e2,e3⟩:=hm
 have hT:s.TypeIs (.ref it) "dict_itemiterator":=⟨_,hit,rfl⟩
 have own:Builtin.Dict_items.ownsTuple "dict_itemiterator" = true:=by decide
 unfold pyNext
 refine wpAny_bind (wpAny_attempt (wpAny_callSpecial?_slot (name:=Str.ofString "__next__") hT F.slot_dict_itemiterator_next (wpAny_call_entry F.slot_dict_itemiterator_next hT F.entry_dict_itemiterator_next ?_ (F.args_dict_itemiterator_next_1 _))))
 refine wpAny_bind (wpAny_pure (wpAny_bind (wpAny_bind (wpAny_bind (wpAny_typeNameOfWhole_itemiter hT (wpAny_pure ?_))))))
 refine wpAny_bind (wpAny_fieldsOf hit rfl ?_)
 simp only[own,if_true]
 show wpAny _ _ (if(Value.ref d == Value.none)=true then _ else _) _ _ _
 rw[if_neg (show ¬ ((Value.ref d == Value.none)=true) from DW)]
 refine wpAny_bind (wpAny_pure (wpAny_bind (wpAny_dictEntries e1 e3 ?_)))
 rw[if_neg (by simp)]
 refine wpAny_bind (wpAny_pure (wpAny_bind (wpAny_dictEpoch e1 e3 ?_)))
 rw[if_neg (by simp)]
 refine wpAny_pure ?_
 have n0:¬ ((i:Int)<0):=by omega
 simp only[n0,if_false,DV]
 cases he:es[i]? with
 |none =>
  refine wpAny_bind (wpAny_bind (wpAny_typeNameOfWhole_itemiter hT (wpAny_pure ?_)))
  show wpAny _ _ (setField (.ref it) 2 .none >>= _) _ _ s
  refine wpAny_bind (wpAny_setField hit rfl (by simp) ?_)
  show wpAny _ _ (newExc (.type "StopIteration") [] >>= _) _ _ _
  refine wpAny_bind ?_
  simp only[newExc,newTuple]
  refine wpAny_bind (wpAny_newObj_type (wpAny_bind (m:=firstArgMember _ _) (wpAny_of_eq (a:=Value.none) (by first | rfl | (simp only[firstArgMember];rfl)) (wpAny_newObj_type ?_ (by size_fits)))) (by size_fits))
  simp only[raiseNew]
  refine wpAny_bind (wpAny_handled ?_)
  rw[show A.in1.handled=none from hh]
  refine wpAny_bind (wpAny_pure (wpAny_throw ?_))
  refine wpAny_bind (wpAny_isInstance (T:="StopIteration") (b:=true) ⟨_,Heap.get?_push_size _ rfl,rfl⟩ isSubtype_stop (wpAny_pure ?_))
  exact hE he _ (((Heap.SameBut.update ..).extBut.push _).push _)
 |some e =>
  refine wpAny_bind (wpAny_bind (wpAny_typeNameOfWhole_itemiter hT (wpAny_pure ?_)))
  refine wpAny_bind (wpAny_isOneOf_itemiter hT ?_)
  show wpAny _ _ (setField (.ref it) 3 (rawInt ((i:Int)+1)) >>= _) _ _ s
  refine wpAny_bind (wpAny_setField_rec hit (by simp) fun g1 q1 k1=>?_)
  have c1:((i+1:Nat):Int)=(i:Int)+1:=by omega
  have q1':g1.get? it=some { cls:=.type "dict_itemiterator",dict:=none,data:=.fields #[rawInt a,f1,.ref d,.int ((i+1:Nat):Int) 0,.int es.size 0,.int ep 0,ok,ov],slots:=#[] }:=by
   rw[c1]
   simpa[rawInt] using q1
  have lt:it<s.heap.objs.size:=Heap.lt_size hit
  have z1:g1.objs.size=s.heap.objs.size:=k1.1
  have hT1:Shared.TypeIs { s with heap:=g1 } (.ref it) "dict_itemiterator":=⟨_,q1',rfl⟩
  refine wpAny_bind (wpAny_holding (wpAny_bind (wpAny_isOneOf_itemiter hT1 (wpAny_bind (wpAny_isOneOf_itemiter hT1 ?_)))))
  show wpAny _ _ (Builtin.Dict_items.pairFromOwner (.ref it) 6 e.key e.val) _ _ { s with heap:=g1 }
  unfold Builtin.Dict_items.pairFromOwner Builtin.Dict_items.ownedTupleIsFree
  refine wpAny_bind (wpAny_newTuple ?_)
  have q2:(g1.push { cls:=.type "tuple",data:=.seq #[e.key,e.val] }).get? it=some { cls:=.type "dict_itemiterator",dict:=none,data:=.fields #[rawInt a,f1,.ref d,.int ((i+1:Nat):Int) 0,.int es.size 0,.int ep 0,ok,ov],slots:=#[] }:=Heap.get?_push_of_some _ q1'
  have t2:(g1.push { cls:=.type "tuple",data:=.seq #[e.key,e.val] }).get? s.heap.objs.size=some { cls:=.type "tuple",data:=.seq #[e.key,e.val] }:=by rw[← z1];exact Heap.get?_push_size _ rfl
  have k2:∀ b o,b≠it->s.heap.get? b=some o->(g1.push { cls:=.type "tuple",data:=.seq #[e.key,e.val] }).get? b=some o:=fun b o hb q=>Heap.get?_push_of_some _ (k1.extBut b o hb q)
  rw[z1]
  generalize g1.push { cls:=.type "tuple",data:=.seq #[e.key,e.val] }=g2 at q2 t2 k2
  show wpAny _ _ (_ >>= _) _ _ { s with heap:=g2 }
  have al:g2.get? ((a:Int).toNat)=some oa:=by rw[DV];exact k2 a oa hai hoa
  refine wpAny_bind (wpAny_bind (wpAny_field q2 rfl (x:=rawInt a) rfl ?_))
  show wpAny _ _ (loadIfAlive ((a:Int).toNat) >>= _) _ _ { s with heap:=g2 }
  refine wpAny_bind (qq ?_)
  show wpAny _ _ (if((g2.get? ((a:Int).toNat)).isNone)=true then _ else _) _ _ _
  rw[al,if_neg (show ¬ (some oa).isNone=true from DW)]
  have last:∀ g3,g3.get? it=some { cls:=.type "dict_itemiterator",dict:=none,data:=.fields #[rawInt a,.bool true,.ref d,.int ((i+1:Nat):Int) 0,.int es.size 0,.int ep 0,ok,ov],slots:=#[] }->(∀ b o,b≠it->g2.get? b=some o->g3.get? b=some o)->Q (some (.ref s.heap.objs.size)) { s with heap:=g3 }:=fun g3 q3 k3 =>
   hI e he g3 ⟨_,_,_,_,q3,.inr ⟨a,oa,rfl,k3 a oa hai (k2 a oa hai hoa),hai⟩⟩ (k3 _ _ (EJ lt) t2) fun b o hb q=>k3 b o hb (k2 b o hb q)
  refine wpAny_bind (wpAny_field q2 rfl (x:=f1) rfl ?_)
  by_cases hf:f1=.bool true
  ·rw[if_neg (by rw[hf];decide)]
   refine wpAny_pure ?_
   subst hf
   exact wpAny_pure (wpAny_pure ⟨_,rfl,wpAny_pure (last g2 q2 fun b o _ q=>q)⟩)
  ·rw[if_pos (by simpa using hf)]
   refine wpAny_bind (wpAny_setField_rec q2 (by simp) fun g3 q3 k3=>?_)
   exact wpAny_pure (wpAny_pure (wpAny_pure ⟨_,rfl,wpAny_pure (last g3 q3 fun b o hb q=>k3.extBut b o hb q)⟩))
def AS(h₀ h:Heap)(es:Array DictEntry)(acc:Array Value)(i:Nat):Prop:=acc.size=i/\∀(j:Nat)(v:Value),acc[j]?=some v->∃(t:Addr)(e:DictEntry),v=.ref t/\es[j]?=some e/\h₀.objs.size<=t/\h.get? t=some { cls:=.type "tuple",data:=.seq #[e.key,e.val] }
def vC(acc:Array Value):Prop:=acc.toList.Nodup
theorem xS{S it:Addr}{es:Array DictEntry}{ep:Nat}{res:Value}{R:Result->Shared->Prop}{h₀:Heap}(hh:A.handled=none)(hn:es.size<=sizeLine)(hSi:S≠it)(hSd:S≠d)(hdi:d≠it) :
  ∀(k i:Nat)(s:Shared)(acc:Array Value)(c:Nat),es.size-i=k->i<=es.size->ItAt s.heap it d i es.size ep->Ent s.heap d es ep->s.heap.get? S=some { cls:=.type "list",dict:=none,data:=.seq acc c,slots:=#[] }->AS h₀ s.heap es acc i->vC acc->h₀.objs.size<=s.heap.objs.size ->
  (∀ h' acc' c',(∀ b o,b≠S->b≠it->s.heap.get? b=some o->h'.get? b=some o)->h'.get? S=some { cls:=.type "list",dict:=none,data:=.seq acc' c',slots:=#[] }->AS h₀ h' es acc' es.size->vC acc'->R (.ok (.ret res)) { s with heap:=h' }) ->
  codeAny (model prog w) A (.builtin "list.extend.loop" ⟨[.ref S,.ref it,res],[]⟩) R s:=by
 intro k
 induction k with
 |zero =>
  intro i s acc c hk hi hst hm hS hacc hap hsz hR
  have hin:i=es.size:=by omega
  subst hin
  refine codeAny_builtin F.entry_extend_loop ?_
  rw[Around.under_plainId F.plain_extend_loop _]
  show wpAny _ A.in1 (pyNext (.ref it) >>= _) _ _ s
  refine wpAny_bind (xG hst hm hh (fun e he=>?_) fun _ h' q=>?_)
  ·rw[FU (DF _)]at he
   cases he
  ·refine wpAny_pure (hR h' acc c (fun b o _ hb e=>q b o hb e) (q S _ hSi hS) ⟨hacc.1,fun j v hj=>?_⟩ hap)
   obtain⟨t,e,a1,a2,a3,a4⟩:=hacc.2 j v hj
   refine⟨t,e,a1,a2,a3,q t _ (fun z=>?_) a4⟩
   obtain⟨_,_,_,_,z2,_⟩:=hst
   rw[z,z2]at a4
   exact absurd (congrArg Obj.cls (El a4)) (by intro z;exact absurd (Value.type.inj z) (by decide))
 |succ k ih =>
  intro i s acc c hk hi hst hm hS hacc hap hsz hR
  refine codeAny_builtin F.entry_extend_loop ?_
  rw[Around.under_plainId F.plain_extend_loop _]
  show wpAny _ A.in1 (pyNext (.ref it) >>= _) _ _ s
  refine wpAny_bind (xG hst hm hh (fun e he h' q1 q2 q3=>?_) fun he=>absurd he (by rw[EI (show i<es.size by omega)];intro z;cases z))
  have hS':=q3 S _ hSi hS
  have lt:it<s.heap.objs.size:=by obtain⟨_,_,_,_,z,_⟩:=hst;exact Heap.lt_size z
  have hSlt:=Heap.lt_size hS
  show wpAny _ A.in1 (updateSeq S (·.push (.ref s.heap.objs.size)) >>= _) _ _ _
  refine wpAny_bind ?_
  have noS:∀ b,b≠S->∀ o,h'.get? b=some o->(h'.update S (Obj.mapSeq (·.push (.ref s.heap.objs.size)))).get? b=some o:=fun b hb o e=>(Heap.get?_update_other _ _ (Ne.symm hb)).trans e
  have tk:∀(h2:Heap),(∀ b o,b≠S->h'.get? b=some o->h2.get? b=some o)->AS h₀ h2 es (acc.push (.ref s.heap.objs.size)) (i+1):=fun h2 k2=>by
   refine⟨by rw[Array.size_push,hacc.1],fun j v hj=>?_⟩
   rw[Array.getElem?_push]at hj
   split at hj
   ·rename_i ej
    cases hj
    rw[hacc.1]at ej
    subst ej
    refine⟨s.heap.objs.size,e,rfl,he,hsz,k2 _ _ (EJ hSlt) q2⟩
   ·obtain⟨t,e',a1,a2,a3,a4⟩:=hacc.2 j v hj
    have ti:t≠it:=fun z=>by
     obtain⟨_,_,_,_,z2,_⟩:=hst
     rw[z,z2]at a4
     exact absurd (congrArg Obj.cls (El a4)) (by intro z;exact absurd (Value.type.inj z) (by decide))
    refine⟨t,e',a1,a2,a3,k2 t _ (fun z=>?_) (q3 t _ ti a4)⟩
    rw[z,hS]at a4
    exact absurd (congrArg Obj.cls (El a4)) (by intro z;exact absurd (Value.type.inj z) (by decide))
  have ap:vC (acc.push (.ref s.heap.objs.size)):=by
   unfold vC
   rw[E8]
   refine List.nodup_append.mpr ⟨hap,by simp,fun a ha b hb e=>?_⟩
   rw[DP.mp hb]at e
   subst e
   obtain⟨j,hj⟩:=List.getElem?_of_mem ha
   obtain⟨t,e',a1,_,_,a4⟩:=hacc.2 j _ (by rw[← Et];exact hj)
   cases a1
   exact Ey _ (Heap.lt_size a4)
  refine wpAny_updateSeq hS' rfl (wpAny_pure ⟨plainId_quiet F.plain_extend_loop _,ih (i+1) _ (acc.push (.ref s.heap.objs.size)) _ (by omega) (by omega) ?_ ?_ (Heap.get?_update_self _ hS' rfl) (tk _ fun b o hb e=>noS b hb o e) ap ?_ fun h'' acc' c' m1 m2 m3 m4=>?_⟩)
   (by rw[hacc.1];omega) (by show(acc.push _).size<=sizeLine+1;rw[Array.size_push,hacc.1];omega)
  ·exact q1.keep (fun o e=>noS it (Ne.symm hSi) o e) fun b o _ e=>by
    by_cases z:b=S
    ·rw[z];exact⟨_,Heap.get?_update_self _ hS' rfl⟩
    ·exact⟨o,noS b z o e⟩
  ·obtain⟨o,a1,a2,a3⟩:=hm
   exact⟨o,noS d (Ne.symm hSd) o (q3 d o hdi a1),a2,a3⟩
  ·show h₀.objs.size<=(h'.update _ _).objs.size
   rw[Heap.size_update]
   exact E7 hsz (Ej (Heap.lt_size q2))
  ·exact hR h'' acc' c' (fun b o hb hi' e=>m1 b o hb hi' (noS b hb o (q3 b o hi' e))) m2 m3 m4
theorem uV{r:Addr}{Q:Bool->Shared->Prop} (hT:s.TypeIs (.ref r) "dict_items") (h:Q false s):wpAny (model prog w) A (Builtin.List.listLengthHint (.ref r)) Q E s:=by
 unfold Builtin.List.listLengthHint
 refine wpAny_bind (wpAny_specialOf hT PySem.F.slot_dict_items_len.lookup ?_)
 generalize hid:("dict_items.__len__" : String)=id0
 wp_delta
 rw[show splitId id0=some ("dict_items","__len__") from by subst hid;decide +kernel]
 subst hid
 refine wpAny_bind (wpAny_isInstance (T:="dict_items") (b:=true) hT (by rw[isSubtype_type];kernel_rfl) ?_)
 refine wpAny_ite_split (fun hab=>absurd hab (by decide)) (fun _=>?_)
 refine wpAny_ite_split (fun _=>?_) (fun hab=>absurd (by decide +kernel) hab)
 refine wpAny_bind (wpAny_typeOf hT ?_)
 exact wpAny_pure h
theorem uW{S r:Addr}{es:Array DictEntry}{ep c₀:Nat}{res:Value}{R:Result->Shared->Prop}(hh:A.handled=none)(hv:s.heap.IsItemsView r d)(hm:Ent s.heap d es ep)(hn:es.size<=sizeLine)(hSr:S≠r)(hSd:S≠d)
  (hS:s.heap.get? S=some { cls:=.type "list",dict:=none,data:=.seq #[] c₀,slots:=#[] })
  (hR:∀ h' acc' c',(∀ b o,b≠S->s.heap.get? b=some o->h'.get? b=some o)->h'.get? S=some { cls:=.type "list",dict:=none,data:=.seq acc' c',slots:=#[] }->AS s.heap h' es acc' es.size->vC acc'->R (.ok (.ret res)) { s with heap:=h' }) :
  wpAny (model prog w) A.in1 (Builtin.List.listExtendWith (.ref S) (.ref r) res)
   (fun fin s'=>match fin with | .done f=>R (.ok f) s' | .again c'=>c'.quiet=true/\codeAny (model prog w) A c' R s') (fun e s'=>R (.error e) s') s:=by
 obtain⟨ov,hv1,hv2,hv3⟩:=id hv
 obtain⟨od,hd1,hd2,hd3⟩:=id hm
 have dl:d<s.heap.objs.size:=Heap.lt_size hd1
 have hSI:S≠s.heap.objs.size:=DO (Heap.lt_size hS)
 have key:∀(g:Heap)(c₁ tk:Nat),ItAt g s.heap.objs.size d 0 es.size ep->(∀ b o,b≠S->s.heap.get? b=some o->g.get? b=some o)->s.heap.objs.size<=g.objs.size ->
   g.get? S=some { cls:=.type "list",dict:=none,data:=.seq #[] c₁,slots:=#[] }->tk=s.toks->codeAny (model prog w) A (.builtin "list.extend.loop" ⟨[.ref S,.ref s.heap.objs.size,res],[]⟩) R { s with heap:=g,toks:=tk }:=fun g c₁ tk q1 q2 q3 q4 q5=>by
  subst q5
  refine xS (h₀:=s.heap) hh hn hSI hSd (DO dl) es.size 0 _ #[] c₁ (Nat.sub_zero _) (Eu _) q1 ⟨od,q2 d od (Ne.symm hSd) hd1,hd2,hd3⟩ q4 ⟨rfl,fun j v e=>by simp at e⟩ (by unfold vC;simp) q3 fun h' acc' c' m1 m2 m3 m4=>?_
  exact hR h' acc' c' (fun b o hb e=>m1 b o hb (DO (Heap.lt_size e)) (q2 b o hb e)) m2 m3 m4
 unfold Builtin.List.listExtendWith
 refine wpAny_bind (wpAny_typeOf (T:="dict_items") hv.typeIs ?_)
 have h1:Builtin.List.listSameRef (.ref S) (.ref r)=false:=by simp[Builtin.List.listSameRef,hSr]
 have nl:(Value.type "dict_items" == Value.type "list")=false:=by decide
 have nt:(Value.type "dict_items" == Value.type "tuple")=false:=by decide
 simp only[h1,nl,nt,HC,Ed,if_false]
 refine wpAny_bind (Au hv hm ?_)
 have hS₁:=Heap.get?_push_of_some { cls:=.type "dict_itemiterator",data:=.fields #[.none,.bool false,.ref d,.int 0 0,.int es.size 0,.int ep 0,.none,.none] } hS
 have it0:ItAt (s.heap.push { cls:=.type "dict_itemiterator",data:=.fields #[.none,.bool false,.ref d,.int 0 0,.int es.size 0,.int ep 0,.none,.none] }) s.heap.objs.size d 0 es.size ep :=
  ⟨_,_,_,_,Heap.get?_push_size _ rfl,.inl ⟨rfl,rfl⟩⟩
 have old:∀ b o,s.heap.get? b=some o->(s.heap.push { cls:=.type "dict_itemiterator",data:=.fields #[.none,.bool false,.ref d,.int 0 0,.int es.size 0,.int ep 0,.none,.none] }).get? b=some o:=fun b o e=>Heap.get?_push_of_some _ e
 have big:s.heap.objs.size<=(s.heap.push { cls:=.type "dict_itemiterator",data:=.fields #[.none,.bool false,.ref d,.int 0 0,.int es.size 0,.int ep 0,.none,.none] }).objs.size:=by rw[Heap.size_push];exact Fp _
 have hvq:(⟨s.heap.push { cls:=.type "dict_itemiterator",data:=.fields #[.none,.bool false,.ref d,.int 0 0,.int es.size 0,.int ep 0,.none,.none] },s.gens,s.drawn,s.toks,s.os⟩:Shared).TypeIs (.ref r) "dict_items":=⟨ov,old _ _ hv1,hv2⟩
 generalize s.heap.push { cls:=.type "dict_itemiterator",data:=.fields #[.none,.bool false,.ref d,.int 0 0,.int es.size 0,.int ep 0,.none,.none] }=g0 at hS₁ it0 old big hvq
 refine wpAny_bind (wpAny_holding (uV hvq ?_))
 refine wpAny_ite_split (fun _=>?_) (fun _=>wpAny_pure ⟨plainId_quiet E9 _,key g0 _ s.toks it0 (fun b o _ e=>old b o e) big hS₁ rfl⟩)
 refine wpAny_bind (wpAny_rule ?_)
 refine wpAny_bind ?_
 show wpAny _ _ (updateSeq S (·.push .none) >>= fun _=>updateSeq S (·.pop)) _ _ _
 refine wpAny_bind (wpAny_updateSeq hS₁ rfl ?_)
 have hS₂:=Heap.get?_update_self (Obj.mapSeq (·.push Value.none)) hS₁ rfl
 refine wpAny_updateSeq (hz:=by seq_fits) hS₂ rfl ?_
 have hS₃:=Heap.get?_update_self (Obj.mapSeq (·.pop)) hS₂ rfl
 have ne:∀ b,b≠S->∀ o,g0.get? b=some o->((g0.update S (Obj.mapSeq (·.push Value.none))).update S (Obj.mapSeq (·.pop))).get? b=some o:=fun b hb o e=>(Heap.get?_update_other _ _ (Ne.symm hb)).trans ((Heap.get?_update_other _ _ (Ne.symm hb)).trans e)
 refine wpAny_pure ⟨plainId_quiet E9 _,key _ _ s.toks (it0.keep (fun o e=>ne _ (Ne.symm hSI) o e) fun b o _ e=>?_) (fun b o hb e=>ne b hb o (old b o e)) (by rw[Heap.size_update,Heap.size_update];exact big) hS₃ rfl⟩
 by_cases z:b=S
 ·rw[z];exact⟨_,hS₃⟩
 ·exact⟨o,ne b z o e⟩
theorem list_items{r:Addr}{es:Array DictEntry}{ep:Nat}{Q:Value->Shared->Prop}(hh:A.handled=none)(hv:s.heap.IsItemsView r d)(hm:Ent s.heap d es ep)(hn:es.size<=sizeLine)
  (hQ:∀ h' acc' c',(∀ b o,s.heap.get? b=some o->h'.get? b=some o)->h'.get? s.heap.objs.size=some { cls:=.type "list",dict:=none,data:=.seq acc' c',slots:=#[] }->Q (.ref s.heap.objs.size) { s with heap:=h' }) :
  wpAny (model prog w) A (call (.type "list") [.ref r]) Q E s:=by
 obtain⟨ov,hv1,hv2,hv3⟩:=id hv
 obtain⟨od,hd1,hd2,hd3⟩:=id hm
 refine callType_codes (Q₁:=fun obj s₁=>obj=.ref s.heap.objs.size/\s₁={ s with heap:=s.heap.push { cls:=.type "list",data:=.seq #[] } }) PySem.F.called_list (Hs _) Hv
  (code_list_new _ ⟨rfl,rfl⟩) fun obj s₁ h₁=>?_
 obtain⟨rfl,rfl⟩:=h₁
 have hS:(s.heap.push { cls:=.type "list",data:=.seq #[] }).get? s.heap.objs.size=some { cls:=.type "list",data:=.seq #[] }:=Heap.get?_push_size _ rfl
 have hSr:s.heap.objs.size≠r:=EJ (Heap.lt_size hv1)
 have hSd:s.heap.objs.size≠d:=EJ (Heap.lt_size hd1)
 refine⟨⟨_,hS,rfl⟩,Hk _ _,?_⟩
 show wpAny _ _ (do let old ← Builtin.List.listItems (.ref s.heap.objs.size);Builtin.List.listUpdate (.ref s.heap.objs.size) (fun _=>#[]);letGo old.toList.reverse;Builtin.List.listExtendWith (.ref s.heap.objs.size) (.ref r) .none) _ _ _
 refine wpAny_bind ?_
 unfold Builtin.List.listItems
 refine wpAny_bind (wpAny_seqItems hS rfl (wpAny_pure ?_))
 show wpAny _ _ (updateSeq s.heap.objs.size (fun _=>#[]) >>= fun _=>letGo (#[]:Array Value).toList.reverse >>= fun _=>Builtin.List.listExtendWith (.ref s.heap.objs.size) (.ref r) .none) _ _ _
 refine wpAny_bind (wpAny_updateSeq hS rfl ?_)
 have hS₂:=Heap.get?_update_self (Obj.mapSeq (fun _=>(#[]:Array Value))) hS rfl
 have oth:∀ b o,s.heap.get? b=some o->((s.heap.push { cls:=.type "list",data:=.seq #[] }).update s.heap.objs.size (Obj.mapSeq (fun _=>(#[]:Array Value)))).get? b=some o :=
  fun b o e=>(Heap.get?_update_other _ _ (EJ (Heap.lt_size e))).trans (Heap.get?_push_of_some _ e)
 refine wpAny_bind (wpAny_letGo ?_)
 refine uW (A:=A.in1) hh ⟨ov,oth _ _ hv1,hv2,hv3⟩ ⟨od,oth _ _ hd1,hd2,hd3⟩ hn hSr hSd hS₂ fun h' acc' c' hk hS' _ _=>?_
 exact⟨rfl,hQ h' acc' c' (fun b o e=>hk b o (DO (Heap.lt_size e)) (oth b o e)) hS'⟩
end
end L2.C2
namespace L2
open PySem PySem.Spec PyProof.Rows
section
variable{X:Cx}
def rListI:List V->Hp->VK->Prop:=fun xs H Q=>∃(v d:Addr)(kvs:List (Key×V)),xs = [.ref v]/\H v=some (tw v d)/\H d=some (.dK kvs)/\∀ l:Addr,H l=none->Q (.ref l) H
theorem vn(hc:X.calm=true):gG X (.type "list") rListI:=by
 intro pins s σ H xs us Q I r h
 obtain⟨v,d,kvs,rfl,hv,hd,q⟩:=h
 obtain⟨u,rfl,ru⟩:=jy r
 cases ru
 obtain⟨vw,_,_⟩:=(show bD X.prog X.w H s.heap v (tw v d) from I.hok v _ hv)
 obtain⟨_,es,ep,hent,esz,hes⟩:=Bo (P:=X.prog) (w:=X.w) (H:=H) (h:=s.heap) (d:=d) (u:=.dK kvs) True.intro (I.hok d _ hd)
 obtain⟨hz,_⟩:=(show bD X.prog X.w H s.heap d (.dK kvs) from I.hok d _ hd)
 refine C2.list_items (I.ok.hd hc) vw hent (by rw[esz];exact hz) fun g acc c hk hS=>?_
 exact⟨.ref s.heap.objs.size,H,I.kept (t':=s.toks) hk,rfl,q _ (I.hok.fresh (DF _))⟩
end
end L2
namespace L2
open PySem PySem.Spec PyProof.Rows PySem.Calls Builtin Builtin.ObjectAttr Builtin.Getset_descriptor
def lu(x D:Addr)(h:Heap):Prop:=∃ o,h.get? x=some o/\o.cls=.ref D
theorem lu.type{x D:Addr}{h:Heap}(M:Model)(I:lu x D h):GP M h (typeOf (.ref x)) (.ref D):=by
 obtain⟨o,a,b⟩:=I
 exact b▸(PySem.W.Looks.ld a).andThen .now
structure ErC(K:DE)(D:Addr):Prop where
 ga:E1 K (.ref D) "__getattribute__" = some (some (.builtin "BaseException.__getattribute__"))
 gt:E1 K (.ref D) "__getattr__" = some none
 hb:EM K D (.type "BaseException")=some true
 hd:Gg K D=true
 ha:E1 K (.ref D) "__class__" = some (some (.builtin "object.__class__"))
 hn:PySem.W.specialIn K (.builtin "object.__class__") "__get__" = some (some (.builtin "getset_descriptor.__get__"))
 tk:PySem.W.takesIn K (.builtin "object.__class__")=some true
 hm:EM K D (.type "object")=some true
section
variable{prog:Program}{w:World}{A:Around}{E:Value->Shared->Prop}{s:Shared}{K:DE}{x D:Addr}
theorem CP{M:Model}{h:Heap}(X:K.In h)(e:ErC K D):GP M h (find (.ref x) (.ref D) "__class__") (.bind (.builtin "getset_descriptor.__get__") (.builtin "object.__class__")):=by
 have L1:=GC (M:=M) X e.ha
 have L2:=PySem.W.looks_specialIn (M:=M) X e.hn
 have L3:=PySem.W.looks_takesIn (M:=M) X e.tk
 refine L1.andThen (L2.andThen ?_)
 exact(show GP M h (dataDescriptor? (some (.builtin "object.__class__")) (some (.builtin "getset_descriptor.__get__"))) (some (.builtin "getset_descriptor.__get__",.builtin "object.__class__")) from L3.andThen .now).andThen (PySem.W.Looks.tag .now)
theorem kd_get{R:Except Value Flow->Shared->Prop}{tp:Value}(X:K.In s.heap)(I:lu x D s.heap)(e:ErC K D)
  (h:R (.ok (.ret (.ref D))) s):codeAny (model prog w) A (.call (.builtin "getset_descriptor.__get__") ⟨[.builtin "object.__class__",.ref x,tp],[]⟩) R s:=by
 obtain⟨hh,g,dr,t,os⟩:=s
 have L0:=I.type (model prog w)
 have L1:=PySem.W.looks_mroIn (M:=model prog w) X e.hm
 refine codeAny_call_builtin PySem.W.KF.slot_gs.plain PySem.W.KF.entry_gs (PySem.W.KF.slot_gs.check _ _ _ _ _ _ _ _ PySem.W.KF.type_class (PySem.W.KF.args_gs _ _ _) ?_)
 unfold Builtin.«getset_descriptor.__get__» descrGet
 rw[PySem.W.dga_obj]
 refine wpAny_bind (wpAny_pure ?_)
 unfold descrGetter descrCheckInstance descrNameAndClass isInstance
 simp only[PySem.W.KF.owner_class]
 repeat lk
 refine⟨Code.quiet_builtin _ (by decide +kernel),codeAny_builtin PySem.W.KF.entry_class ?_⟩
 unfold Builtin.«object.__class__» shownTypeOf
 repeat lk
 exact h
theorem Ad{M:Model}{nameV:Value}{Q:Unit->Shared->Prop}(X:K.In s.heap)(I:lu x D s.heap)(e:ErC K D)(hq:Q () s):wpAny M A (checkBuiltinCall "BaseException.__getattribute__" ⟨[.ref x,nameV],[]⟩) Q E s:=by
 obtain⟨hh,g,d,t,os⟩:=s
 have hk:builtinKind "BaseException.__getattribute__" = some .slot:=by decide +kernel
 have hsplit:splitId "BaseException.__getattribute__" = some ("BaseException","__getattribute__"):=by decide +kernel
 have ha:=F.args_bexc_ga (.ref x) nameV
 have L0:=I.type M
 have L1:=PySem.W.looks_mroIn (M:=M) X e.hb
 have LI:GP M hh (isInstance (.ref x) (.type "BaseException")) true:=L0.andThen L1
 simp only[checkBuiltinCall,hk,hsplit]
 refine wpAny_bind (LI.at ?_)
 repeat (first | assumption | wp_step)
theorem Ab{tk:Tok}{Q:Fin->Shared->Prop}(X:K.In s.heap)(I:lu x D s.heap)(e:ErC K D)(h:Q (.done (.ret (.ref D))) s):wpAny (model prog w) A (Builtin.«object.__getattribute__» ⟨[.ref x,.str "__class__" tk],[]⟩) Q E s:=by
 obtain⟨hh,g,d,t,os⟩:=s
 have L0:=I.type (model prog w)
 have L2:=CP (x:=x) (M:=model prog w) X e
 unfold Builtin.«object.__getattribute__»
 repeat (first | assumption | with_reducible refine L0.at ?_ | with_reducible refine L2.at ?_ | with_reducible refine wpAny_call (kd_get (K:=K) X I e ?_) | wp_step)
theorem Ac{Q:Option Value->Shared->Prop}(X:K.In s.heap)(I:lu x D s.heap)(e:ErC K D)(h:Q (some (.ref D)) { s with toks:=s.toks+1 }):wpAny (model prog w) A (getAttr? (.ref x) "__class__") Q E s:=by
 obtain⟨hh,g,d,t,os⟩:=s
 have L0:=I.type (model prog w)
 have L1:=GC (M:=model prog w) X e.ga
 have L3:=GC (M:=model prog w) X e.gt
 have f3:=F.excAttr_ValueError.ga.bind (.ref x)
 unfold getAttr? getAttrBy? getAttrBy
 refine wpAny_bind (wpAny_mkText (wpAny_bind (wpAny_attempt (wpAny_holding (wpAny_bind (L0.at (wpAny_bind (L1.at ?_))))))))
 show wpAny _ _ (getAttrByItsOwn _ _ _ _ _ _) _ _ _
 unfold getAttrByItsOwn
 refine wpAny_bind (show wpAny _ _ (typeLookup _ _) _ _ _ from L3.at ?_)
 refine wpAny_bind (wpAny_attempt (wpAny_holding ?_))
 show wpAny _ _ (boundAndCalled _ _ _) _ _ _
 unfold boundAndCalled
 rw[f3]
 refine wpAny_bind (wpAny_pure ?_)
 refine wpAny_call (codeAny_call_builtin F.excAttr_ValueError.ga.plain F.entry_bexc_ga (Ad (s:=⟨hh,g,d,t+1,os⟩) X I e (Ab (s:=⟨hh,g,d,t+1,os⟩) X I e ?_)))
 exact wpAny_mono (PySem.W.handed_on rfl (Q:=fun v s'=>v=.ref D/\s'=⟨hh,g,d,t+1,os⟩) ⟨rfl,rfl⟩) (fun v s'' hv=>by obtain⟨rfl,rfl⟩:=hv;exact wpAny_pure h) (fun _ _ z=>z)
theorem sZ(e:ErC K D):PySem.W.KitX K (.ref x) (.ref D) (lu x D) where
 ty:=fun M _ _ I=>I.type M
 it:=fun _ _ X _=>by
  obtain⟨cdD,hcD,_⟩:=PySem.W.any_some e.hd
  unfold Hq at hcD
  split at hcD
  ·rename_i c' d' cd' sl' ho
   intro A' Q' E' s' k q
   unfold isType loadHead
   exact wpAny_bind (wpAny_loadPart (k _ _ (X _ _ ho)) (wpAny_pure q))
  ·cases hcD
 ne:=fun h tp dd its n sl X htp=>by
  obtain⟨cdD,hcD,_⟩:=PySem.W.any_some e.hd
  refine Bool.eq_false_iff.mpr fun q=>?_
  have e:D=tp:=Value.ref.inj (beq_iff_eq.mp q)
  subst e
  unfold Hq at hcD
  split at hcD
  ·rename_i c' d' cd' sl' ho
   have z:=(X _ _ ho).symm.trans htp
   cases z
  ·cases hcD
 ca:=fun X I k=>Ac X I e k
end
theorem kK{X:Cx}:gG X (.builtin "isinstance") (fun xs H Q=>∃ x c d b,xs = [.ref x,.ref d]/\H x=some (excO x c)/\ErC X.K c/\Eg X.K (.ref c) (.ref d)=some b/\Q (.bl b) H):=by
 intro pins s σ H xs us Q I r h
 obtain⟨x,c,d,b,rfl,hx,ec,ek,q⟩:=h
 obtain⟨v1,v2,rfl,r1,r2⟩:=tY r
 cases r1
 cases r2
 obtain⟨p,_,_⟩:=(show bD X.prog X.w H s.heap x (excO x c) from I.hok x _ hx)
 exact PySem.W.kia_one (sZ ec) I.kIn p ek (fun z=>nomatch z) fun tk=>⟨.bl b,H,I.tok tk,rfl,q⟩
end L2
namespace K1
end K1
namespace K2
def S:List Nat->Nat
 |[]=>0
 |p::r=>2^p+S r
theorem Dy{n p:Nat}(h:n.testBit p=false)(i:Nat):(n+2^p).testBit i=(n.testBit i||decide (i=p)):=by
 have e:n+2^p=n|||2^p:=by
  have hz:n&&&2^p=0:=by
   apply EE
   intro j
   rw[FQ,Em,E5]
   by_cases hj:p=j
   ·subst hj;simp[h]
   ·simp[hj]
  have q:∀ m k:Nat,(m|||k)+(m&&&k)=m+k:=by
   intro m
   induction m using Nat.strongRecOn with
   |ind m ih =>
    intro n
    by_cases h0:m=0
    ·subst h0;simp
    ·have ih':=ih (m/2) (by omega) (n/2)
     rw[← Nat.or_div_two,← Nat.and_div_two]at ih'
     have o1:=@Nat.or_mod_two_eq_one m n
     have a1:=@Nat.and_mod_two_eq_one m n
     omega
  have:=q n (2^p)
  rw[hz]at this
  omega
 rw[e,Ft,Em]
 congr 1
 exact decide_eq_decide.mpr ⟨fun h=>h.symm,fun h=>h.symm⟩
theorem S_bit:∀{D:List Nat},D.Nodup->∀ i,(S D).testBit i=decide (i∈D)
 |[],_,i=>by simp[S]
 |p::r,nd,i=>by
  have ⟨h1,h2⟩:=Eo.mp nd
  have hp:(S r).testBit p=false:=by rw[S_bit h2];exact decide_eq_false h1
  have e:S (p::r)=S r+2^p:=Nat.add_comm _ _
  rw[e,Dy hp,S_bit h2]
  by_cases a:i=p<;>by_cases b:i∈r<;>simp[a,b]
def bitsF(k n:Nat):List Nat:=if h:n=0 then[] else(if n%2=1 then[k] else[])++bitsF (k+1) (n/2)
termination_by n
decreasing_by omega
theorem bitsF_zero(k:Nat):bitsF k 0 = []:=by rw[bitsF];simp
theorem bitsF_odd{k n:Nat}(h:n%2=1):bitsF k n=k::bitsF (k+1) (n/2):=by
 rw[bitsF,dif_neg (by omega),if_pos h];rfl
theorem bitsF_even{k n:Nat}(h0:n≠0)(h:¬ n%2=1):bitsF k n=bitsF (k+1) (n/2):=by
 rw[bitsF,dif_neg h0,if_neg h];rfl
theorem n8:∀(f n k:Nat),n<=f->∀ p∈bitsF k n,k<=p
 |0,n,k,h=>by
  have z:n=0:=by omega
  subst z;rw[bitsF_zero];intro p hp;cases hp
 |f+1,n,k,h=>by
  intro p hp
  by_cases z:n=0
  ·subst z;rw[bitsF_zero]at hp;cases hp
  ·by_cases o:n%2=1
   ·rw[bitsF_odd o]at hp
    rcases DI.mp hp with e | hp
    ·omega
    ·have:=n8 f (n/2) (k+1) (by omega) p hp;omega
   ·rw[bitsF_even z o]at hp
    have:=n8 f (n/2) (k+1) (by omega) p hp;omega
theorem bitsF_sorted:∀(f n k:Nat),n<=f->(bitsF k n).Pairwise (· < ·)
 |0,n,k,h=>by
  have z:n=0:=by omega
  subst z;rw[bitsF_zero];exact FW
 |f+1,n,k,h=>by
  by_cases z:n=0
  ·subst z;rw[bitsF_zero];exact FW
  ·by_cases o:n%2=1
   ·rw[bitsF_odd o]
    exact List.Pairwise.cons (fun p hp=>n8 f (n/2) (k+1) (by omega) p hp) (bitsF_sorted f (n/2) (k+1) (by omega))
   ·rw[bitsF_even z o];exact bitsF_sorted f (n/2) (k+1) (by omega)
theorem bitsF_sum:∀(f n k:Nat),n<=f->S (bitsF k n)=n*2^k
 |0,n,k,h=>by
  have z:n=0:=by omega
  subst z;rw[bitsF_zero];simp[S]
 |f+1,n,k,h=>by
  by_cases z:n=0
  ·subst z;rw[bitsF_zero];simp[S]
  ·have ih:=bitsF_sum f (n/2) (k+1) (by omega)
   have e:n/2*2^(k+1)=(2*(n/2))*2^k:=by rw[Nat.pow_succ,Nat.mul_comm (2^k) 2,← Nat.mul_assoc,Nat.mul_comm (n/2) 2]
   by_cases o:n%2=1
   ·rw[bitsF_odd o]
    show 2^k+S (bitsF (k+1) (n/2))=_
    rw[ih,e]
    have:n=2*(n/2)+1:=by omega
    have e2:n*2^k=(2*(n/2)+1)*2^k:=by rw[← this]
    rw[e2,Nat.add_mul,Nat.one_mul];omega
   ·rw[bitsF_even z o,ih,e]
    have:n=2*(n/2):=by omega
    have e2:n*2^k=(2*(n/2))*2^k:=by rw[← this]
    rw[e2]
theorem bitsF_lt:∀(m n k:Nat),n<2^m->∀ p∈bitsF k n,p<k+m
 |0,n,k,h=>by
  have z:n=0:=by omega
  subst z;rw[bitsF_zero];intro p hp;cases hp
 |m+1,n,k,h=>by
  intro p hp
  have h2:n/2<2^m:=by rw[Nat.pow_succ]at h;omega
  by_cases z:n=0
  ·subst z;rw[bitsF_zero]at hp;cases hp
  ·by_cases o:n%2=1
   ·rw[bitsF_odd o]at hp
    rcases DI.mp hp with e | hp
    ·omega
    ·have:=bitsF_lt m (n/2) (k+1) h2 p hp;omega
   ·rw[bitsF_even z o]at hp
    have:=bitsF_lt m (n/2) (k+1) h2 p hp;omega
theorem bitsF_len:∀(m n k:Nat),n<2^m->(bitsF k n).length<=m
 |0,n,k,h=>by
  have z:n=0:=by omega
  subst z;rw[bitsF_zero];exact DF _
 |m+1,n,k,h=>by
  have h2:n/2<2^m:=by rw[Nat.pow_succ]at h;omega
  by_cases z:n=0
  ·subst z;rw[bitsF_zero];exact Eu _
  ·by_cases o:n%2=1
   ·rw[bitsF_odd o]
    have:=bitsF_len m (n/2) (k+1) h2
    show _+1<=_
    omega
   ·rw[bitsF_even z o]
    have:=bitsF_len m (n/2) (k+1) h2
    omega
theorem nodup_of_lt{l:List Nat}(h:l.Pairwise (· < ·)):l.Nodup:=h.imp fun h=>DO h
end K2
namespace L2
theorem len_0{α:Type}{l:List α}(h:l.length=0):l = []:=FR.mp h
theorem uL{α:Type}{l:List α}{n:Nat}(h:l.length=n+1):∃ x r,l=x::r/\r.length=n:=by
 cases l with
 |nil=>cases h
 |cons x r=>exact⟨x,r,rfl,G3 h⟩
theorem uM{α:Type}{l:List α}(h:l.length=1):∃ a,l = [a]:=by
 obtain⟨a,r,rfl,e⟩:=uL h
 exact⟨a,by rw[len_0 e]⟩
theorem jW{α:Type}{l:List α}(h:l.length=2):∃ a b,l = [a,b]:=by
 obtain⟨a,r,rfl,e⟩:=uL h
 obtain⟨b,rfl⟩:=uM e
 exact⟨a,b,rfl⟩
theorem pg{α:Type}{l:List α}(h:l.length=3):∃ a b c,l = [a,b,c]:=by
 obtain⟨a,r,rfl,e⟩:=uL h
 obtain⟨b,c,rfl⟩:=jW e
 exact⟨a,b,c,rfl⟩
theorem CK{α:Type}{l:List α}(h:l.length=4):∃ a b c d,l = [a,b,c,d]:=by
 obtain⟨a,r,rfl,e⟩:=uL h
 obtain⟨b,c,d,rfl⟩:=pg e
 exact⟨a,b,c,d,rfl⟩
theorem len_5{α:Type}{l:List α}(h:l.length=5):∃ a b c d e,l = [a,b,c,d,e]:=by
 obtain⟨a,r,rfl,z⟩:=uL h
 obtain⟨b,c,d,e,rfl⟩:=CK z
 exact⟨a,b,c,d,e,rfl⟩
theorem len_6{α:Type}{l:List α}(h:l.length=6):∃ a b c d e f,l = [a,b,c,d,e,f]:=by
 obtain⟨a,r,rfl,z⟩:=uL h
 obtain⟨b,c,d,e,f,rfl⟩:=len_5 z
 exact⟨a,b,c,d,e,f,rfl⟩
end L2
namespace KF
open PySem L2
local macro_rules | `(tactic| walk_at "cc") => `(tactic| first | exact ⟨by decide, by decide⟩ | (show (0 : Int) < _; decide) | (show (0 : Int) < _; omega) | (show (0 : Int) ≤ _; omega) | exact ⟨by decide, by decide, by decide⟩ | exact ⟨by omega, by omega, by decide⟩ | exact Or.inl ⟨by decide, by decide⟩ | exact Or.inl ⟨by omega, by omega⟩)
local macro_rules | `(tactic| walk_at "rd") => `(tactic| repeat (first | refine ⟨_, rfl, ?_⟩ | refine ⟨_, _, rfl, rfl, ?_⟩ | refine ⟨rfl, ?_⟩ | (refine ⟨?cc, ?_⟩; (case cc => walk_at "cc"))))
def top(i:Nat):Stmt:=PySem.Challenge.pw_spinfloor_k24_joinings_refused.main.body.getD i (.Pass ⟨0,0,0,0⟩)
abbrev dG:Stmt:=top 6
abbrev fF:Stmt:=top 8
abbrev cS:Stmt:=top 9
abbrev fY:Stmt:=top 10
abbrev fA:Stmt:=top 11
abbrev iy:Stmt:=top 12
abbrev l7:Stmt:=top 14
abbrev l6:Stmt:=top 15
abbrev uh:Stmt:=top 16
abbrev dH:Stmt:=top 17
abbrev bo:Stmt:=top 20
abbrev cn:Stmt:=top 21
abbrev aR:Stmt:=top 22
abbrev cj:Stmt:=top 23
abbrev fB:Stmt:=top 24
abbrev bF:Stmt:=top 32
abbrev cm:Stmt:=top 33
abbrev bq:Stmt:=top 34
abbrev dE:Stmt:=top 25
abbrev dI:Stmt:=top 26
abbrev dJ:Stmt:=top 28
abbrev fE:Stmt:=top 29
abbrev iA:Stmt:=top 30
abbrev bp:Stmt:=top 35
abbrev cU:Stmt:=top 36
abbrev mV:Stmt:=top 37
abbrev Lk:=Nat×Nat×Int
def bey(l:Lk)(r:Nat):Nat:=if r=l.1 then l.2.1 else l.1
def g7(l:Lk)(r:Nat):Prop:=r=l.1∨r=l.2.1
theorem n9{l:Lk}{r:Nat}(h:g7 l r):g7 l (bey l r):=by
 unfold bey
 split
 ·exact .inr rfl
 ·exact .inl rfl
theorem kT{l:Lk}{r:Nat}(h:g7 l r):bey l (bey l r)=r:=by
 unfold bey
 by_cases c:r=l.1
 ·rw[if_pos c]
  by_cases d:l.2.1=l.1
  ·rw[if_pos d];omega
  ·rw[if_neg d];exact c.symm
 ·rw[if_neg c,if_pos rfl]
  rcases h with h | h
  ·exact absurd h c
  ·exact h.symm
theorem bey_lt{l:Lk}{r n:Nat}(h1:l.1<n)(h2:l.2.1<n):bey l r<n:=by
 unfold bey
 split<;>assumption
inductive Up(ls:List Lk)(vv:List (Option Nat))(s:Nat):Nat->Nat->Prop where
 |root:Up ls vv s 0 s
 |step {j r k:Nat} {l:Lk} (hv:vv[r]?=some (some k)) (hl:ls[k]?=some l) (h:Up ls vv s j (bey l r)):Up ls vv s (j+1) r
theorem Up.uniq{ls:List Lk}{vv:List (Option Nat)}{s:Nat}(h0:vv[s]?=some none):∀{j i r:Nat},Up ls vv s j r->Up ls vv s i r->j=i
 |_,_,_,.root,.root=>rfl
 |_,_,_,.root,.step hv _ _=>by rw[h0]at hv;cases hv
 |_,_,_,.step hv _ _,.root=>by rw[h0]at hv;cases hv
 |_,_,_,.step hv hl h,.step hv' hl' h'=>by
  rw[hv]at hv';cases hv'
  rw[hl]at hl';cases hl'
  rw[Up.uniq h0 h h']
theorem Up.lt{ls:List Lk}{vv:List (Option Nat)}{s j r:Nat}(h0:vv[s]?=some none)(h:Up ls vv s j r):r<vv.length:=by
 cases h with
 |root=>exact(DC.mp h0).1
 |step hv _ _=>exact(DC.mp hv).1
theorem Up.chain{ls:List Lk}{vv:List (Option Nat)}{s:Nat}(h0:vv[s]?=some none):∀{j r:Nat},Up ls vv s j r->∃ c:List Nat,c.length=j+1/\c.Nodup/\∀ x∈c,x<vv.length/\∃ i,i<=j/\Up ls vv s i x
 |_,_,.root=>⟨[s],rfl,Eo.mpr ⟨(by simp),Fu⟩,fun x hx=>by rw[DP.mp hx];exact⟨Up.lt (ls:=ls) h0 .root,0,DF _,.root⟩⟩
 |j+1,r,.step hv hl h=>by
  obtain⟨c,cl,nd,hc⟩:=Up.chain h0 h
  have me:Up ls vv s (j+1) r:=.step hv hl h
  refine⟨r::c,by rw[DZ,cl],Eo.mpr ⟨fun hr=>?_,nd⟩,fun x hx=>?_⟩
  ·obtain⟨_,i,hi,hu⟩:=hc r hr
   have:=Up.uniq h0 me hu
   omega
  ·rcases DI.mp hx with rfl | hx
   ·exact⟨Up.lt h0 me,j+1,DF _,me⟩
   ·obtain⟨a,i,hi,hu⟩:=hc x hx
    exact⟨a,i,by omega,hu⟩
theorem fG:∀(n:Nat)(c:List Nat),c.Nodup->(∀ x∈c,x<n)->c.length<=n
 |0,c,_,h=>by
  cases c with
  |nil=>exact DF _
  |cons x r=>exact absurd (h x (DU ..)) (Fh _)
 |n+1,c,nd,h=>by
  have h1:=fG n (c.erase n) (nd.erase _) fun x hx=>by
   have hm:=Gx hx
   have:=h x hm
   have:x≠n:=fun e=>by rw[e]at hx;exact absurd hx (Hn nd)
   omega
  have h2:c.length<=(c.erase n).length+1:=by rw[GV];split<;>omega
  omega
theorem Up.short{ls:List Lk}{vv:List (Option Nat)}{s j r:Nat}(h0:vv[s]?=some none)(h:Up ls vv s j r):j+1<=vv.length:=by
 obtain⟨c,cl,nd,hc⟩:=Up.chain h0 h
 rw[← cl]
 exact fG _ c nd fun x hx=>(hc x hx).1
def cOf(o:Option Int):Nat:=if o.isSome then 1 else 0
def cnt(T:List (Option Int)):Nat:=(T.map cOf).sum
def vOf(B:Nat)(o:Option Int):Nat:=match o with | none=>B | some x=>x.toNat
def wgt(B:Nat)(T:List (Option Int)):Nat:=(T.map (vOf B)).sum
theorem mP{α:Type}(f:α->Nat):∀(l:List α)(i:Nat)(x y:α),l[i]?=some x->((l.set i y).map f).sum+f x=(l.map f).sum+f y
 |a::l,0,x,y,e=>by
  cases e
  rw[List.set_cons_zero,D6,D6,FC,FC]
  omega
 |a::l,i+1,x,y,e=>by
  have:=mP f l i x y e
  rw[List.set_cons_succ,D6,D6,FC,FC]
  omega
 |[],i,x,y,e=>by cases i<;>cases e
theorem Bs:∀(T:List (Option Int)){i:Nat},T[i]?=some none->cnt T+1<=T.length
 |[],i,e=>by cases i<;>cases e
 |a::T,0,e=>by
  cases e
  have:∀ T:List (Option Int),cnt T<=T.length:=fun T=>by
   induction T with
   |nil=>exact DF _
   |cons b T ih =>
    have e1:cnt (b::T)=cOf b+cnt T:=by unfold cnt;rw[D6,FC]
    have e2:cOf b<=1:=by unfold cOf;split<;>omega
    rw[e1,DZ];omega
  have e1:cnt (none::T)=cOf none+cnt T:=by unfold cnt;rw[D6,FC]
  have e2:cOf none=0:=rfl
  have:=this T
  rw[e1,DZ];omega
 |a::T,i+1,e=>by
  have ih:=Bs T (i:=i) e
  have e1:cnt (a::T)=cOf a+cnt T:=by unfold cnt;rw[D6,FC]
  have e2:cOf a<=1:=by unfold cOf;split<;>omega
  rw[e1,DZ];omega
structure FI(n:Nat)(ls:List Lk)(s:Nat)(M:Nat)(T:List (Option Int))(vv:List (Option Nat))(W:List Nat)(ex:Nat->Nat->Prop):Prop where
 w0:∀ l∈ls,0<=l.2.2/\l.2.2<=(M:Int)
 tl:T.length=n
 vl:vv.length=n
 st:T[s]?=some (some 0)
 vs:vv[s]?=some none
 nn:∀(r:Nat)(x:Int),T[r]?=some (some x)->0<=x
 bd:∀(r:Nat)(x:Int),T[r]?=some (some x)->x+(M:Int)<=(cnt T:Int)*(M:Int)
 pr:∀(r k:Nat),vv[r]?=some (some k)->∃(l:Lk)(x y:Int),ls[k]?=some l/\g7 l r/\T[r]?=some (some x)/\T[bey l r]?=some (some y)/\y+l.2.2<=x
 up:∀(r:Nat)(x:Int),T[r]?=some (some x)->∃ j,Up ls vv s j r
 rl:∀(r:Nat)(x:Int)(i:Nat)(l:Lk),T[r]?=some (some x)->r∉W->ls[i]?=some l->g7 l r->ex r i∨∃ y:Int,T[bey l r]?=some (some y)/\y<=x+l.2.2
 wk:∀ r∈W,∃ x:Int,T[r]?=some (some x)
theorem oH{α:Type}{l:List α}{i j:Nat}{x:α}(hi:i<l.length):(l.set i x)[j]?=if i=j then some x else l[j]?:=by
 rw[GX]
 by_cases c:i=j
 ·rw[if_pos c,if_pos c,if_pos hi]
 ·rw[if_neg c,if_neg c]
theorem FI.mend{n:Nat}{ls:List Lk}{s M:Nat}{T:List (Option Int)}{vv:List (Option Nat)}{W W':List Nat}{ex ex':Nat->Nat->Prop}(I:FI n ls s M T vv W ex){m k:Nat}{l:Lk}{x:Int}{o:Option Int}
  (hl:ls[k]?=some l) (hm:g7 l m) (hx:T[m]?=some (some x)) (ho:T[bey l m]?=some o) (hlt:∀ y,o=some y->x+l.2.2<y)
  (hW:∀ r,r∈W'↔r∈W∨r=bey l m) (hex:∀ r i,ex r i->ex' r i∨(r=m/\i=k)) :
  FI n ls s M (T.set (bey l m) (some (x+l.2.2))) (vv.set (bey l m) (some k)) W' ex':=by
 obtain⟨h0,hM⟩:=I.w0 l (DH hl)
 have tt:bey l m<T.length:=(DC.mp ho).1
 have tl:=I.tl
 have vl:=I.vl
 have x0:=I.nn m x hx
 have ns:bey l m≠s:=fun e=>by
  rw[e,I.st]at ho
  cases ho
  have:=hlt 0 rfl
  omega
 have nm:bey l m≠m:=fun e=>by
  rw[e,hx]at ho
  cases ho
  have:=hlt x rfl
  omega
 have gT:∀ r:Nat,(T.set (bey l m) (some (x+l.2.2)))[r]?=if bey l m=r then some (some (x+l.2.2)) else T[r]?:=fun r=>oH tt
 have gV:∀ r:Nat,(vv.set (bey l m) (some k))[r]?=if bey l m=r then some (some k) else vv[r]?:=fun r=>oH (by omega)
 have low:∀(r:Nat)(y:Int),T[r]?=some (some y)->∃ z:Int,(T.set (bey l m) (some (x+l.2.2)))[r]?=some (some z)/\z<=y:=fun r y e=>by
  rw[gT]
  by_cases c:bey l m=r
  ·rw[if_pos c]
   rw[← c,ho]at e
   cases e
   exact⟨_,rfl,Fd (hlt y rfl)⟩
  ·rw[if_neg c]
   exact⟨y,e,EL _⟩
 have keep:∀{j r:Nat},Up ls vv s j r->∀ y,T[r]?=some (some y)->(∀ z,o=some z->y<z)->Up ls (vv.set (bey l m) (some k)) s j r:=by
  intro j r h
  induction h with
  |root=>intro _ _ _;exact .root
  | @step j r k' l' hv hl' h ih =>
   intro y hy hz
   have ne:bey l m≠r:=fun e=>by
    rw[e,hy]at ho
    cases ho
    exact absurd (hz y rfl) (Int.lt_irrefl _)
   obtain⟨l2,x2,y2,e1,e2,e3,e4,e5⟩:=I.pr r k' hv
   rw[hl']at e1;cases e1
   rw[hy]at e3;cases e3
   have w0:=(I.w0 l' (DH hl')).1
   refine .step (by rw[gV,if_neg ne];exact hv) hl' (ih y2 e4 fun z hz'=>?_)
   have:=hz z hz'
   omega
 obtain⟨jm,um⟩:=I.up m x hx
 have um':=keep um x hx fun z hz=>by have:=hlt z hz;omega
 have ut:Up ls (vv.set (bey l m) (some k)) s (jm+1) (bey l m):=.step (by rw[gV,if_pos rfl]) hl (by rw[kT hm];exact um')
 have all:∀{j r:Nat},Up ls vv s j r->∃ i,Up ls (vv.set (bey l m) (some k)) s i r:=by
  intro j r h
  induction h with
  |root=>exact⟨0,.root⟩
  | @step j r k' l' hv hl' h ih =>
   by_cases c:bey l m=r
   ·rw[← c];exact⟨_,ut⟩
   ·obtain⟨i,hi⟩:=ih
    exact⟨i+1,.step (by rw[gV,if_neg c];exact hv) hl' hi⟩
 have cs:=mP cOf T (bey l m) o (some (x+l.2.2)) ho
 have c1:cOf (some (x+l.2.2))=1:=rfl
 have cc:cnt (T.set (bey l m) (some (x+l.2.2)))+cOf o=cnt T+1:=by unfold cnt;rw[c1]at cs;exact cs
 have cle:cnt T<=cnt (T.set (bey l m) (some (x+l.2.2))):=by
  have:cOf o<=1:=by unfold cOf;split<;>omega
  omega
 have mul_le:(cnt T:Int)*(M:Int)<=(cnt (T.set (bey l m) (some (x+l.2.2))):Int)*(M:Int):=Int.mul_le_mul_of_nonneg_right (by omega) (by omega)
 have bm:=I.bd m x hx
 refine⟨I.w0,by rw[Fx];exact tl,by rw[Fx];exact vl,by rw[gT,if_neg ns];exact I.st,by rw[gV,if_neg ns];exact I.vs,fun r y e=>?_,fun r y e=>?_,fun r k' e=>?_,fun r y e=>?_,fun r y i l' e hr hl' hend=>?_,fun r hr=>?_⟩
 ·rw[gT]at e
  by_cases c:bey l m=r
  ·rw[if_pos c]at e;cases e;omega
  ·rw[if_neg c]at e;exact I.nn r y e
 ·rw[gT]at e
  by_cases c:bey l m=r
  ·rw[if_pos c]at e;cases e
   cases o with
   |none =>
    have e1:cnt (T.set (bey l m) (some (x+l.2.2)))=cnt T+1:=by have:cOf none=0:=rfl;omega
    rw[e1]
    have:((cnt T+1:Nat):Int)*(M:Int)=(cnt T:Int)*(M:Int)+(M:Int):=by push_cast;rw[Int.add_mul,Int.one_mul]
    omega
   |some z =>
    have:=hlt z rfl
    have:=I.bd (bey l m) z ho
    omega
  ·rw[if_neg c]at e
   have:=I.bd r y e
   omega
 ·rw[gV]at e
  by_cases c:bey l m=r
  ·rw[if_pos c]at e;cases e
   refine⟨l,x+l.2.2,x,hl,c▸n9 hm,by rw[gT,if_pos c],?_,EL _⟩
   rw[← c,kT hm,gT,if_neg nm]
   exact hx
  ·rw[if_neg c]at e
   obtain⟨l2,x2,y2,e1,e2,e3,e4,e5⟩:=I.pr r k' e
   obtain⟨z,e6,e7⟩:=low _ _ e4
   exact⟨l2,x2,z,e1,e2,by rw[gT,if_neg c];exact e3,e6,by omega⟩
 ·rw[gT]at e
  by_cases c:bey l m=r
  ·rw[← c];exact⟨_,ut⟩
  ·rw[if_neg c]at e
   obtain⟨j,u⟩:=I.up r y e
   exact all u
 ·have nr:r∉W/\r≠bey l m:=⟨fun z=>hr ((hW r).mpr (.inl z)),fun z=>hr ((hW r).mpr (.inr z))⟩
  rw[gT,if_neg (Ne.symm nr.2)]at e
  rcases I.rl r y i l' e nr.1 hl' hend with h | ⟨z,h1,h2⟩
  ·rcases hex r i h with h | ⟨h1,h2⟩
   ·exact .inl h
   ·subst h1;subst h2
    rw[hl]at hl';cases hl'
    rw[hx]at e;cases e
    exact .inr ⟨x+l.2.2,by rw[gT,if_pos rfl],EL _⟩
  ·obtain⟨z',h3,h4⟩:=low _ _ h1
   exact .inr ⟨z',h3,by omega⟩
 ·rcases(hW r).mp hr with h | h
  ·obtain⟨y,e⟩:=I.wk r h
   obtain⟨z,h3,_⟩:=low _ _ e
   exact⟨z,h3⟩
  ·rw[h];exact⟨_,by rw[gT,if_pos rfl]⟩
theorem FI.leave{n:Nat}{ls:List Lk}{s M:Nat}{T:List (Option Int)}{vv:List (Option Nat)}{W:List Nat}{ex ex':Nat->Nat->Prop}(I:FI n ls s M T vv W ex){m k:Nat}{l:Lk}{x y:Int}
  (hl:ls[k]?=some l) (hx:T[m]?=some (some x)) (hy:T[bey l m]?=some (some y)) (hge:y<=x+l.2.2) (hex:∀ r i,ex r i->ex' r i∨(r=m/\i=k)):FI n ls s M T vv W ex' :=
 ⟨I.w0,I.tl,I.vl,I.st,I.vs,I.nn,I.bd,I.pr,I.up,fun r z i l' e hr hl' hend=>by
  rcases I.rl r z i l' e hr hl' hend with h | h
  ·rcases hex r i h with h | ⟨h1,h2⟩
   ·exact .inl h
   ·subst h1;subst h2
    rw[hl]at hl';cases hl'
    rw[hx]at e;cases e
    exact .inr ⟨y,hy,hge⟩
  ·exact .inr h,I.wk⟩
theorem y4{n M:Nat}{ls:List Lk}{s:Nat}{T:List (Option Int)}{vv:List (Option Nat)}{W:List Nat}{ex:Nat->Nat->Prop}(I:FI n ls s M T vv W ex){m t:Nat}{x w:Int}{o:Option Int}(w0:0<=w)(wM:w<=(M:Int))(hx:T[m]?=some (some x))(ho:T[t]?=some o)(hlt:∀ y,o=some y->x+w<y) :
  wgt (n*M+1) (T.set t (some (x+w)))+1<=wgt (n*M+1) T:=by
 have e:=mP (vOf (n*M+1)) T t o (some (x+w)) ho
 have x0:=I.nn m x hx
 have b:=I.bd m x hx
 have e1:vOf (n*M+1) (some (x+w))=(x+w).toNat:=rfl
 unfold wgt
 rw[e1]at e
 cases o with
 |none =>
  have cl:=Bs T ho
  have e2:vOf (n*M+1) none=n*M+1:=rfl
  rw[e2]at e
  have h1:cnt T*M<=n*M:=GD M (by rw[I.tl]at cl;omega)
  have h2:x+(M:Int)<=((n*M:Nat):Int):=by
   have:((cnt T*M:Nat):Int)<=((n*M:Nat):Int):=by exact_mod_cast h1
   have h3:((cnt T*M:Nat):Int)=(cnt T:Int)*(M:Int):=by push_cast;rfl
   omega
  omega
 |some z =>
  have:=hlt z rfl
  have e2:vOf (n*M+1) (some z)=z.toNat:=rfl
  rw[e2]at e
  omega
theorem FI.first{n:Nat}{ls:List Lk}{s M:Nat}(w0:∀ l∈ls,0<=l.2.2/\l.2.2<=(M:Int))(hs:s<n):FI n ls s M ((DJ n none).set s (some 0)) (DJ n none) [s] (fun _ _=>False):=by
 have gT:∀ r:Nat,((DJ n (none:Option Int)).set s (some 0))[r]?=if s=r then some (some 0) else(DJ n none)[r]?:=fun r=>oH (by rw[Fc];exact hs)
 have rep:∀{α:Type}(r:Nat)(x:α),(DJ n (none:Option α))[r]?≠some (some x):=fun r x e=>by
  have:=DH e
  have:=(GQ.mp this).2
  cases this
 have one:∀(r:Nat)(x:Int),((DJ n (none:Option Int)).set s (some 0))[r]?=some (some x)->r=s/\x=0:=fun r x e=>by
  rw[gT]at e
  by_cases c:s=r
  ·rw[if_pos c]at e;cases e;exact⟨c.symm,rfl⟩
  ·rw[if_neg c]at e;exact absurd e (rep r x)
 refine⟨w0,by rw[Fx,Fc],Fc,by rw[gT,if_pos rfl],by rw[Fq,if_pos hs],fun r x e=>?_,fun r x e=>?_,fun r k e=>absurd e (rep r k),fun r x e=>?_,fun r x i l e hr=>?_,fun r hr=>?_⟩
 ·rw[(one r x e).2];exact EL _
 ·rw[(one r x e).2]
  have cs:=mP cOf (DJ n (none:Option Int)) s none (some 0) (by rw[Fq,if_pos hs])
  have c1:cOf (some 0)=1:=rfl
  have c0:cOf none=0:=rfl
  have:1<=cnt ((DJ n (none:Option Int)).set s (some 0)):=by unfold cnt;omega
  have h2:1*M<=cnt ((DJ n (none:Option Int)).set s (some 0))*M:=GD M this
  have h3:((1*M:Nat):Int)<=((cnt ((DJ n (none:Option Int)).set s (some 0))*M:Nat):Int):=by exact_mod_cast h2
  push_cast at h3
  omega
 ·rw[(one r x e).1];exact⟨0,.root⟩
 ·rw[(one r x e).1]at hr
  exact absurd (DP.mpr rfl) hr
 ·rw[DP.mp hr];exact⟨0,by rw[gT,if_pos rfl]⟩
theorem FI.take{n:Nat}{ls:List Lk}{s M:Nat}{T:List (Option Int)}{vv:List (Option Nat)}{W W':List Nat}(I:FI n ls s M T vv W (fun _ _=>False)){m:Nat}(hW:∀ r,r∈W'↔r∈W/\r≠m):FI n ls s M T vv W' (fun r _=>r=m) :=
 ⟨I.w0,I.tl,I.vl,I.st,I.vs,I.nn,I.bd,I.pr,I.up,fun r x i l e hr hl hend=>by
  by_cases c:r=m
  ·exact .inl c
  ·rcases I.rl r x i l e (fun z=>hr ((hW r).mpr ⟨z,c⟩)) hl hend with h | h
   ·exact h.elim
   ·exact .inr h,fun r hr=>I.wk r ((hW r).mp hr).1⟩
theorem FI.exw{n:Nat}{ls:List Lk}{s M:Nat}{T:List (Option Int)}{vv:List (Option Nat)}{W:List Nat}{ex ex':Nat->Nat->Prop}(I:FI n ls s M T vv W ex)(h:∀ r i l,ls[i]?=some l->g7 l r->ex r i->ex' r i):FI n ls s M T vv W ex' :=
 ⟨I.w0,I.tl,I.vl,I.st,I.vs,I.nn,I.bd,I.pr,I.up,fun r x i l e hr hl hend=>by
  rcases I.rl r x i l e hr hl hend with z | z
  ·exact .inl (h r i l hl hend z)
  ·exact .inr z,I.wk⟩
theorem ao{H:Hp}{p:Addr}(h:H p=none)(o:HO):Same H (upd H p o):=fun b u q=>by rw[aj (br q h)];exact q
theorem bQ{H H2:Hp}{l:Addr}(h:Same H H2)(hl:H l=none)(o:HO):Same H (upd H2 l o):=fun b u q=>by rw[aj (br q hl)];exact h b u q
theorem cK{H H':Hp}(s:Same H H'){p:Addr}(h:H' p=none):H p=none:=by
 cases y:H p with
 |none=>rfl
 |some o=>rw[s _ _ y]at h;cases h
def iV(p:Nat):V:=.int (p:Int)
theorem at0{x y:V}:atI [x,y] 0=some x:=rfl
theorem at1{x y:V}:atI [x,y] 1=some y:=rfl
theorem a30{x y z:V}:atI [x,y,z] 0=some x:=rfl
theorem a31{x y z:V}:atI [x,y,z] 1=some y:=rfl
theorem a32{x y z:V}:atI [x,y,z] 2=some z:=rfl
def LkAt(H:Hp)(v:V)(l:Lk):Prop:=∃ t,v=.ref t/\H t=some (.tup [.int (l.1:Int),.int (l.2.1:Int),.int l.2.2])
def LnAt(H:Hp)(v:V)(ls:List Lk):Prop:=∃ a ys,v=.ref a/\H a=some (.lst ys)/\LsAt LkAt H ys ls
theorem LkAt.mono{H H':Hp}{v:V}{p:Lk}(h:LkAt H v p)(s:Same H H'):LkAt H' v p:=by
 obtain⟨t,e,z⟩:=h
 exact⟨t,e,s _ _ z⟩
theorem LnAt.mono{H H':Hp}{v:V}{r:List Lk}(h:LnAt H v r)(s:Same H H'):LnAt H' v r:=by
 obtain⟨a,ys,e,z,l⟩:=h
 exact⟨a,ys,e,s _ _ z,l.imp fun _ _ q=>q.mono s⟩
def MM:Nat:=10^31
structure Lok(n:Nat)(ls:List Lk):Prop where
 n1:n<=40
 l9:ls.length<=60
 sm:∀ l∈ls,l.1<n/\l.2.1<n
 w0:∀ l∈ls,0<=l.2.2/\l.2.2<=(MM:Int)
def fM(S:Addr->Prop)(H:Hp)(xs:List V)(ts:List (List Nat)):Prop:=xs.length=ts.length/\∀(i:Nat)(l:List Nat),ts[i]?=some l->∃ p,xs[i]?=some (.ref p)/\¬ S p/\H p=some (.lst (l.map iV))
theorem fM.mono{S:Addr->Prop}{H H':Hp}{xs:List V}{ts:List (List Nat)}(h:fM S H xs ts)(s:∀ b u,¬ S b->H b=some u->H' b=some u):fM S H' xs ts:=⟨h.1,fun i e q=>by
 obtain⟨p,a,n,b⟩:=h.2 i e q
 exact⟨p,a,n,s _ _ n b⟩⟩
theorem fM.snoc{S:Addr->Prop}{H:Hp}{xs:List V}{ts:List (List Nat)}{q:Addr}{l:List Nat}(h:fM S H xs ts)(n:¬ S q)(e:H q=some (.lst (l.map iV))):fM S H (xs++[.ref q]) (ts++[l]):=by
 refine⟨by rw[DL,DL,h.1];rfl,fun j k ej=>?_⟩
 by_cases hj:j<ts.length
 ·rw[Eh hj]at ej
  obtain⟨p,a1,a2⟩:=h.2 j k ej
  exact⟨p,by rw[Eh (by rw[h.1];exact hj)];exact a1,a2⟩
 ·rw[D5 (Gn hj)]at ej
  have hj2:j=ts.length:=by
   have:=(DC.mp ej).1
   rw[Fl]at this
   omega
  subst hj2
  rw[E6]at ej
  cases ej
  exact⟨q,by rw[← h.1,D5 (DF _),E6];rfl,n,e⟩
def Dist(xs:List V):Prop:=∀(i j:Nat)(p:Addr),xs[i]?=some (.ref p)->xs[j]?=some (.ref p)->i=j
theorem fM.set{S:Addr->Prop}{H:Hp}{xs:List V}{ts:List (List Nat)}{i:Nat}{p:Addr}{l':List Nat}(h:fM S H xs ts)(D:Dist xs)(e:xs[i]?=some (.ref p)):fM S (upd H p (.lst (l'.map iV))) xs (ts.set i l'):=by
 refine⟨by rw[Fx];exact h.1,fun j l z=>?_⟩
 have hi:i<ts.length:=by rw[← h.1];exact(DC.mp e).1
 rw[GX]at z
 by_cases hj:i=j
 ·subst hj
  rw[if_pos rfl,if_pos hi]at z
  cases z
  obtain⟨p',a1,a2,a3⟩:=h.2 i _ (DB hi)
  rw[e]at a1
  cases a1
  exact⟨p,e,a2,ag⟩
 ·rw[if_neg hj]at z
  obtain⟨p',a1,a2,a3⟩:=h.2 j l z
  exact⟨p',a1,a2,by rw[aj (fun y=>by rw[y]at a1;exact hj (D i j p e a1))];exact a3⟩
theorem xZ{S:Addr->Prop}{H:Hp}{xs:List V}{ts:List (List Nat)}{q:Addr}(h:fM S H xs ts)(D:Dist xs)(hq:H q=none):Dist (xs++[.ref q]):=by
 have old:∀ i p,xs[i]?=some (V.ref p)->p≠q:=fun i p e z=>by
  have hi:i<ts.length:=by rw[← h.1];exact(DC.mp e).1
  obtain⟨p',a1,_,a3⟩:=h.2 i _ (DB hi)
  rw[e]at a1;cases a1
  rw[z,hq]at a3;cases a3
 have cas:∀ i p,(xs++[V.ref q])[i]?=some (V.ref p)->(xs[i]?=some (V.ref p))∨(i=xs.length/\p=q):=fun i p e=>by
  by_cases c:i<xs.length
  ·rw[Eh c]at e;exact .inl e
  ·rw[D5 (Gn c)]at e
   have h2:=(DC.mp e).1
   rw[Fl]at h2
   have h3:i-xs.length=0:=by omega
   rw[h3]at e
   cases e
   exact .inr ⟨by omega,rfl⟩
 intro i j p e1 e2
 rcases cas i p e1 with h1 | ⟨h1,h1'⟩
 ·rcases cas j p e2 with h2 | ⟨h2,h2'⟩
  ·exact D i j p h1 h2
  ·exact absurd h2' (old i p h1)
 ·rcases cas j p e2 with h2 | ⟨h2,h2'⟩
  ·exact absurd h1' (old j p h2)
  ·omega
structure AtM(n c:Nat)(rows:List (List Nat))(mem:Nat->Nat->Prop):Prop where
 len:rows.length=n
 mm:∀(r:Nat)(row:List Nat),rows[r]?=some row->∀ j,j∈row↔mem r j
 few:∀ row∈rows,row.length<=c
theorem AtM.put{n c:Nat}{rows:List (List Nat)}{mem:Nat->Nat->Prop}(h:AtM n c rows mem){a i:Nat}{l:List Nat}(hl:rows[a]?=some l):AtM n (c+1) (rows.set a (l++[i])) (fun r j=>mem r j∨(r=a/\j=i)):=by
 have ha:=(DC.mp hl).1
 refine⟨by rw[Fx];exact h.len,fun r row e j=>?_,fun row hr=>?_⟩
 ·rw[oH ha]at e
  by_cases z:a=r
  ·rw[if_pos z]at e
   cases e
   subst z
   rw[DN,DP,h.mm a l hl j]
   exact⟨fun y=>y.imp id fun y=>⟨rfl,y⟩,fun y=>y.imp id fun y=>y.2⟩
  ·rw[if_neg z]at e
   rw[h.mm r row e j]
   exact⟨.inl,fun y=>y.elim id fun y=>absurd y.1.symm z⟩
 ·rcases List.mem_or_eq_of_mem_set hr with y | y
  ·have:=h.few row y;omega
  ·have:=h.few l (DH hl)
   rw[y,DL,Fl];omega
def memL(ls:List Lk)(r j:Nat):Prop:=∃ l,ls[j]?=some l/\g7 l r
structure Txt(mg:Str->Option Value):Prop where
 n_len:mg "len" = none
 n_int:mg "int" = none
 n_bool:mg "bool" = none
 n_list:mg "list" = none
 n_tuple:mg "tuple" = none
 n_range:mg "range" = none
 n_min:mg "min" = none
 n_abs:mg "abs" = none
 n_enumerate:mg "enumerate" = none
 n_isinstance:mg "isinstance" = none
def zf:Sp:=fun vs H Q _=>∃(v:V)(l:Lk)(r:Nat),vs = [v,.int (r:Int)]/\LkAt H v l/\Q (.int ((bey l r:Nat):Int)) H
def spAt:Sp:=fun vs H Q _=>∃(v:V)(n:Nat)(ls:List Lk),vs = [.int (n:Int),v]/\LnAt H v ls/\Lok n ls/\∀(p:Addr)(ys:List V)(rows:List (List Nat)) H',Same H H'->H p=none->H' p=some (.lst ys)->fM (fun q=>q=p∨H q≠none) H' ys rows->AtM n 120 rows (memL ls)->Q (.ref p) H'
section
variable{P:Program}{w:World}{K:DE}{mg:Str->Option Value}{base:Heap}
theorem we:aJ ["link","room"] ["link","room"] (ak fF):=⟨rfl,rfl,rfl,by decide +kernel,rfl,by decide +kernel,by decide +kernel⟩
theorem ok_bey{f:Addr}{fd:FuncData} (F:Fun K "beyond" "beyond" fF f fd):FnOk P w K mg base CX0 1 f fd ["link","room"] zf:=by
 refine F.ok we (fun vs H Q E h=>?_) (fun cdv A outer s H vs Q E hr h=>?_)
 ·obtain⟨v,l,r,rfl,_⟩:=h
  rfl
 obtain⟨v,l,r,rfl,⟨t,rfl,ht⟩,q⟩:=h
 refine⟨_,(aq (aV (je (aF f9 (pv 1) (aM cI (pv 0) ah (fun _ _=>rfl)) (aN _)) (aM cI (pv 0) ah (fun _ _=>rfl)) (aM cI (pv 0) ah (fun _ _=>rfl))))),?_⟩
 refine⟨_,rfl,_,rfl,t,_,0,_,rfl,rfl,SqT.of ht,a30,rfl,_,rfl,?_⟩
 refine ite2 (fun c=>?_) (fun c=>?_)
 ·have c':r=l.1:=by have:=V.int.inj (of_decide_eq_true c);omega
  have e:bey l r=l.2.1:=by unfold bey;rw[if_pos c']
  rw[e]at q
  exact⟨_,rfl,t,_,1,_,rfl,rfl,SqT.of ht,a31,q⟩
 ·have c':¬ r=l.1:=fun z=>c (decide_eq_true (congrArg V.int (by omega)))
  have e:bey l r=l.1:=by unfold bey;rw[if_neg c']
  rw[e]at q
  exact⟨_,rfl,t,_,0,_,rfl,rfl,SqT.of ht,a30,q⟩
theorem dY:aJ ["many","links","at","number","link"] ["many","links"] (ak cS):=⟨rfl,rfl,rfl,by decide +kernel,rfl,by decide +kernel,by decide +kernel⟩
theorem ok_at{f:Addr}{fd:FuncData} (F:Fun K "links_at" "links_at" cS f fd) (T:Txt mg):FnOk P w K mg base CX0 1 f fd ["many","links"] spAt:=by
 refine F.ok dY (fun vs H Q E h=>?_) (fun cdv A outer s H vs Q E hr h=>?_)
 ·obtain⟨v,n,ls,rfl,_⟩:=h
  rfl
 obtain⟨v,n,ls,rfl,⟨a,xs,rfl,hA,hL⟩,ok,kk⟩:=h
 have n1:=ok.n1
 have l9:=ok.l9
 have xl:=hL.1
 refine⟨_,(af (iB (i:=2) rfl dY.nd rfl rfl (fr:=[]) (by exact cf.plain (by rfl) (by decide +kernel) (by rfl) (by decide +kernel) (by rfl) (by decide +kernel)) (bV rfl T.n_range (ae (pv 0) ai)) (fun C ex s H=>(fN ai)))
   (af (dM PassesOwn.never rfl (qE rfl T.n_enumerate (ae (pv 1) ai)) (sM rfl (aW (aC (i:=3) dY.nd rfl (Or.inl rfl)) (aW (aC (i:=4) dY.nd rfl (Or.inl rfl)) eZ))) (af (bM (iY Es EW EV cW (aM aL (pv 2) (aM cI (pv 4) ah (fun _ _=>rfl)) (fun _ _=>rfl)) (ae (pv 3) ai)))
   (aq (bM (iY Es EW EV cW (aM aL (pv 2) (aM cI (pv 4) ah (fun _ _=>rfl)) (fun _ _=>rfl)) (ae (pv 3) ai))))))
   (aq (aV (pv 2))))),?_⟩
 refine⟨_,rfl,_,rfl,by omega,by omega,dP (n:=(n:Int).toNat) (fun i ys H2=>Same H H2/\fM (fun p=>H p≠none) H2 ys (DJ i [])/\Dist ys) (by rw[DV];exact Ej (av (by omega))) ⟨fun _ _ e=>e,⟨rfl,fun i l e=>by simp at e⟩,fun i j p e=>by simp at e⟩ ?_ ?_⟩
 ·rintro i ys H2 hi ⟨s2,rx,D⟩
  refine⟨(by show 0<=sizeLine;decide),fun l hl=>?_⟩
  have s3:=ao hl (.lst [])
  refine⟨s2.trans s3,?_,xZ rx D hl⟩
  rw[F4]
  exact(rx.mono fun b u _ z=>s3 _ _ z).snoc (fun z=>z (cK s2 hl)) ag
 rintro ys H2 hyl ⟨s2,rx,D⟩ pn hpn
 rw[DV]at rx
 have s3:=ao hpn (.lst ys)
 have hpn0:H pn=none:=cK s2 hpn
 have rx3:fM (fun p=>p=pn∨H p≠none) (upd H2 pn (.lst ys)) ys (DJ n []):=⟨rx.1,fun i l z=>by
  obtain⟨p,a1,a2,a3⟩:=rx.2 i l z
  have n2:p≠pn:=br a3 hpn
  exact⟨p,a1,by rintro(y | y);exact n2 y;exact a2 y,s3 _ _ a3⟩⟩
 have m0:AtM n 0 (DJ n []) (memL (ls.take 0)):=⟨Fc,fun r row e j=>by
  have:=(GQ.mp (DH e)).2
  subst this
  exact⟨(fun z=>nomatch z),fun⟨l,z,_⟩=>by rw[GG]at z;cases z⟩,fun row hr=>by rw[(GQ.mp hr).2];exact DF _⟩
 refine⟨_,rfl,a,rfl,⟨_,SqL.of ((s2.trans s3) _ _ hA)⟩,Ap (K:=K) (xs:=xs) (fun i σ H5=>∃ v4 v5 rows,σ = [some (.int (n:Int)),some (.ref a),some (.ref pn),v4,v5]/\Same H H5/\H5 pn=some (.lst ys)/\fM (fun p=>p=pn∨H p≠none) H5 ys rows/\AtM n (2*i) rows (memL (ls.take i)))
  ⟨_,_,_,rfl,s2.trans s3,ag,rx3,m0⟩ (fun i σ H5 _ ⟨_,_,_,_,z,_⟩=>SqL.of (z _ _ hA)) ?_ ?_⟩
 ·rintro i x σ H5 T2 hx ⟨v4,v5,rows,rfl,s5,hpn5,rx5,am⟩ hT2
  obtain⟨l,hl,p,rfl,hp⟩:=hL.get hx
  obtain⟨b1,b2⟩:=ok.sm l (DH hl)
  have sT:=ao hT2 (.tup [.int (i:Int),.ref p])
  have s6:=s5.trans sT
  have hp6:=s6 _ _ hp
  have rlen:=am.len
  have ilt:i<ls.length:=(DC.mp hl).1
  obtain⟨r1,hr1⟩:∃ r,rows[l.1]?=some r:=⟨_,DB (by omega)⟩
  have rx6:fM (fun p=>p=pn∨H p≠none) (upd H5 T2 (.tup [.int (i:Int),.ref p])) ys rows:=rx5.mono fun b u _ z=>sT _ _ z
  obtain⟨p1,y1,y2,y3⟩:=rx6.2 _ _ hr1
  have no_S:∀{p:Addr},¬ (p=pn∨H p≠none)->H p=none/\p≠pn:=fun{p} n=>by
   refine⟨?_,fun z=>n (.inl z)⟩
   cases y:H p with
   |none=>rfl
   |some o=>exact absurd (.inr (by rw[y];exact fun z=>nomatch z)) n
  obtain⟨hp1,np1⟩:=no_S y2
  have f1:=am.few r1 (DH hr1)
  have hpn6:=sT _ _ hpn5
  refine⟨T2,_,rfl,SqT.of ag,rfl,_,_,rfl,_,_,rfl,rfl,?_⟩
  refine⟨_,rfl,_,rfl,p,_,0,_,rfl,rfl,SqT.of hp6,a30,pn,ys,_,_,rfl,rfl,SqL.of hpn6,aH y1,.inl ⟨rfl,_,SqL.of y3⟩,_,rfl,p1,_,_,rfl,rfl,y3,av (by rw[DG];omega),?_⟩
  have e1':(r1.map iV)++[V.int (i:Int)]=(r1++[i]).map iV:=by rw[Ex];rfl
  rw[e1']
  have rx7:=rx6.set D y1 (l':=r1++[i])
  have am1:=am.put (i:=i) hr1
  have s7:Same H (upd (upd H5 T2 (.tup [.int (i:Int),.ref p])) p1 (.lst ((r1++[i]).map iV))):=bQ s6 hp1 _
  have hp7:=s7 _ _ hp
  have hpn7:(upd (upd H5 T2 (.tup [.int (i:Int),.ref p])) p1 (.lst ((r1++[i]).map iV))) pn=some (.lst ys):=by rw[aj np1.symm];exact hpn6
  obtain⟨r2,hr2⟩:∃ r,(rows.set l.1 (r1++[i]))[l.2.1]?=some r:=⟨_,DB (by rw[Fx];omega)⟩
  obtain⟨p2,z1,z2,z3⟩:=rx7.2 _ _ hr2
  obtain⟨hp2,np2⟩:=no_S z2
  have f2:=am1.few r2 (DH hr2)
  refine⟨_,rfl,_,rfl,p,_,1,_,rfl,rfl,SqT.of hp7,a31,pn,ys,_,_,rfl,rfl,SqL.of hpn7,aH z1,.inl ⟨rfl,_,SqL.of z3⟩,_,rfl,p2,_,_,rfl,rfl,z3,av (by rw[DG];omega),?_⟩
  have e2':(r2.map iV)++[V.int (i:Int)]=(r2++[i]).map iV:=by rw[Ex];rfl
  rw[e2']
  have am2:=am1.put (i:=i) hr2
  refine⟨_,_,(rows.set l.1 (r1++[i])).set l.2.1 (r2++[i]),rfl,bQ s7 hp2 _,by rw[aj np2.symm];exact hpn7,rx7.set D z1,am2.len,fun r row e j=>?_,fun row hr=>?_⟩
  ·rw[am2.mm r row e j]
   unfold memL
   rw[Ez,hl]
   have til:(ls.take i).length=i:=by rw[DY];omega
   constructor
   ·rintro((⟨l',h1,h2⟩ | ⟨h1,h2⟩) | ⟨h1,h2⟩)
    ·exact⟨l',by rw[Eh (DC.mp h1).1];exact h1,h2⟩
    ·subst h2;exact⟨l,by rw[D5 (by omega),til,E6];rfl,.inl h1⟩
    ·subst h2;exact⟨l,by rw[D5 (by omega),til,E6];rfl,.inr h1⟩
   ·rintro⟨l',h1,h2⟩
    by_cases c:j<i
    ·rw[Eh (by omega)]at h1
     exact .inl (.inl ⟨l',h1,h2⟩)
    ·rw[D5 (by omega)]at h1
     have h3:=(DC.mp h1).1
     have h4:j=i:=by
      have:(Option.toList (some l)).length=1:=rfl
      omega
     subst h4
     rw[til,E6]at h1
     cases h1
     rcases h2 with h2 | h2
     ·exact .inl (.inr ⟨h2,rfl⟩)
     ·exact .inr ⟨h2,rfl⟩
  ·have:=am2.few row hr;omega
 ·rintro σ H5 ⟨v4,v5,rows,rfl,s5,hpn5,rx5,am⟩
  rw[xl,EG]at am
  exact⟨_,rfl,kk pn ys rows H5 s5 hpn0 hpn5 rx5 ⟨am.len,am.mm,fun row hr=>by have:=am.few row hr;omega⟩⟩
end
def gM:Sp:=fun vs H Q _=>∃ n:Int,vs = [.int n]/\0<=n/\n<1208925819614629174706176/\∀ r H',Same H H'->H r=none->H' r=some (.lst ((K2.bitsF 0 n.toNat).map iV))->Q (.ref r) H'
section
variable{P:Program}{w:World}{K:DE}{mg:Str->Option Value}{base:Heap}
theorem iw:aJ ["mask","numbers","number","rest"] ["mask"] (ak l7):=⟨rfl,rfl,rfl,by decide +kernel,rfl,by decide +kernel,by decide +kernel⟩
theorem Cw{f:Addr}{fd:FuncData} (F:Fun K "bits" "bits" l7 f fd):FnOk P w K mg base CX0 1 f fd ["mask"] gM:=by
 refine F.ok iw (fun vs H Q E h=>?_) (fun cdv A outer s H vs Q E hr h=>?_)
 ·obtain⟨n,rfl,_⟩:=h
  rfl
 obtain⟨n,rfl,h0,h1,k⟩:=h
 refine⟨_,(af (ar (i:=1) iw.nd rfl (Or.inl rfl) (fN ai))
   (af (ar (i:=2) iw.nd rfl (Or.inl rfl) ah)
   (af (ar (i:=3) iw.nd rfl (Or.inl rfl) (pv 0))
   (af (gP PassesOwn.never (aF zH (pv 3) ah (aN _)) (af (di (aF f9 (au bP (pv 3) ah) ah (aN _)) (aq (bM (iY Es EW EV cW (pv 1) (ae (pv 2) ai)))) bf)
   (af (ar (i:=3) iw.nd rfl (Or.inl rfl) (au iC (pv 3) ah))
   (aq (ar (i:=2) iw.nd rfl (Or.inl rfl) (au cH (pv 2) ah))))))
   (aq (aV (pv 1))))))),?_⟩
 refine⟨(by show 0<=sizeLine;decide),fun l hl=>?_⟩
 have z80:(2:Nat)^80=1208925819614629174706176:=by decide
 have hlen:(K2.bitsF 0 n.toNat).length<=80:=K2.bitsF_len 80 n.toNat 0 (by omega)
 refine⟨_,rfl,gK (fun σ H2=>∃(kn rn:Nat)(pre:List Nat),σ = [some (.int n),some (.ref l),some (.int (kn:Int)),some (.int (rn:Int))]/\H2 l=some (.lst (pre.map iV))/\pre++K2.bitsF kn rn=K2.bitsF 0 n.toNat/\Same H H2)
  (fun σ _=>match σ with | [_,_,_,some (.int r)]=>r.toNat | _=>0) ⟨0,n.toNat,[],?_,ag,rfl,ao hl _⟩ ?_ ?_⟩
 ·have e:((n.toNat:Nat):Int)=n:=by omega
  rw[e]
  rfl
 ·rintro σ H2 ⟨kn,rn,pre,rfl,hp,hb,hs⟩
  refine⟨_,rfl,_,_,rfl,rfl,_,rfl,?_⟩
  refine ite2 (fun c=>?_) (fun c=>?_)
  ·have c':(0:Int)<(rn:Int):=of_decide_eq_true c
   have d2:((rn:Int)/2)=((rn/2:Nat):Int):=by omega
   have hlp:pre.length<=80:=by
    have:=congrArg GK hb
    rw[DL]at this
    omega
   walk_at "rd"
   refine ite2 (fun o=>?_) (fun o=>?_)
   ·have o':(rn:Int)%2=1:=V.int.inj (of_decide_eq_true o)
    refine⟨_,rfl,.inl ⟨rfl,_,SqL.of hp⟩,_,rfl,l,_,_,rfl,rfl,hp,av (by rw[DG];omega),?_⟩
    walk_at "rd"
    refine⟨⟨kn+1,rn/2,pre++[kn],?_,?_,?_,?_⟩,?_⟩
    ·show[some (V.int n),some (V.ref l),some (V.int ((kn:Int)+1)),some (V.int ((rn:Int)/2))]=_
     rw[d2];rfl
    ·rw[ag,Ex];rfl
    ·rw[D9,← hb]
     have z:=K2.bitsF_odd (k:=kn) (n:=rn) (by omega)
     rw[z];rfl
    ·exact bQ hs hl _
    ·show((rn:Int)/2).toNat<((rn:Nat):Int).toNat
     omega
   ·have o':¬ (rn:Int)%2=1:=fun z=>o (decide_eq_true (congrArg V.int z))
    walk_at "rd"
    refine⟨⟨kn+1,rn/2,pre,?_,hp,?_,hs⟩,?_⟩
    ·show[some (V.int n),some (V.ref l),some (V.int ((kn:Int)+1)),some (V.int ((rn:Int)/2))]=_
     rw[d2];rfl
    ·rw[← hb,K2.bitsF_even (k:=kn) (n:=rn) (by omega) (by omega)]
    ·show((rn:Int)/2).toNat<((rn:Nat):Int).toNat
     omega
  ·have c':¬ (0:Int)<(rn:Int):=fun z=>c (decide_eq_true z)
   have z:rn=0:=by omega
   subst z
   rw[K2.bitsF_zero,Fz]at hb
   refine⟨_,rfl,?_⟩
   exact k l H2 hs hl (by rw[hp,hb])
 ·rintro σ H2 Q1 Q2 hi ⟨v,e,i,j,a,b,kk,e2,q⟩
  exact⟨v,e,i,j,a,b,kk,e2,hi _ _ q⟩
end
def flat(PL:List (Nat×Nat)):List Nat:=PL.flatMap fun p=>[p.1,p.2]
def cst(d:Nat->Nat->Int)(PL:List (Nat×Nat)):Int:=(PL.map fun p=>d p.1 p.2).sum
def Cs(d:Nat->Nat->Int)(S:List Nat)(c:Int):Prop:=∃ PL,(flat PL).Perm S/\cst d PL=c
structure Met(n:Nat)(d:Nat->Nat->Int):Prop where
 sy:∀ a b,d a b=d b a
 nn:∀ a b,0<=d a b
 tr:∀ a b c,a<n->b<n->c<n->d a c<=d a b+d b c
theorem cJ(p:Nat×Nat)(PL:List (Nat×Nat)):flat (p::PL)=p.1::p.2::flat PL:=rfl
theorem ig(d:Nat->Nat->Int)(p:Nat×Nat)(PL:List (Nat×Nat)):cst d (p::PL)=d p.1 p.2+cst d PL:=by unfold cst;rw[D6,FC]
theorem Cs.perm{d:Nat->Nat->Int}{S S':List Nat}{c:Int}(h:Cs d S c)(p:S.Perm S'):Cs d S' c:=by
 obtain⟨PL,h1,h2⟩:=h
 exact⟨PL,h1.trans p,h2⟩
theorem part0{d:Nat->Nat->Int}(sy:∀ a b,d a b=d b a){a:Nat}:∀{PL:List (Nat×Nat)},a∈flat PL->∃ e PL',(flat PL).Perm (a::e::flat PL')/\cst d PL=d a e+cst d PL'
 |[],h=>nomatch h
 | (x,y)::PL,h=>by
  rw[cJ]at h
  by_cases c1:a=x
  ·subst c1
   exact⟨y,PL,.refl _,ig ..⟩
  by_cases c2:a=y
  ·subst c2
   exact⟨x,PL,.swap _ _ _,by rw[ig];show d x a+_=_;rw[sy x a]⟩
  have h':a∈flat PL:=by
   rcases DI.mp h with h | h
   ·exact absurd h c1
   ·rcases DI.mp h with h | h
    ·exact absurd h c2
    ·exact h
  obtain⟨e,PL',p,ec⟩:=part0 sy h'
  refine⟨e,(x,y)::PL',?_,by rw[ig,ig,ec];omega⟩
  rw[cJ,cJ]
  have p1:(x::y::flat PL).Perm (x::y::a::e::flat PL'):=(p.cons y).cons x
  refine p1.trans ?_
  have q1:([x,y]++([a,e]++flat PL')).Perm ([a,e]++([x,y]++flat PL')):=by
   rw[← D9,← D9]
   exact(EY).append_right _
  exact q1
theorem Cs.part{d:Nat->Nat->Int}(sy:∀ a b,d a b=d b a){S:List Nat}{c:Int}{a:Nat}(h:Cs d S c)(ha:a∈S):∃ e R c0,S.Perm (a::e::R)/\Cs d R c0/\c=d a e+c0:=by
 obtain⟨PL,p,ec⟩:=h
 obtain⟨e,PL',p',ec'⟩:=part0 sy (p.mem_iff.mpr ha)
 exact⟨e,flat PL',cst d PL',p.symm.trans p',⟨PL',.refl _,rfl⟩,by rw[← ec,ec']⟩
theorem Cs.add{d:Nat->Nat->Int}{R:List Nat}{c0:Int}(a e:Nat)(h:Cs d R c0):Cs d (a::e::R) (d a e+c0):=by
 obtain⟨PL,p,ec⟩:=h
 exact⟨(a,e)::PL,by rw[cJ];exact(p.cons e).cons a,by rw[ig,ec]⟩
def tog(S:List Nat)(a:Nat):List Nat:=if a∈S then S.erase a else a::S
theorem tog_nd{S:List Nat}(h:S.Nodup)(a:Nat):(tog S a).Nodup:=by
 unfold tog
 split
 ·exact h.erase _
 ·exact Eo.mpr ⟨by assumption,h⟩
theorem mO{S S':List Nat}(p:S.Perm S')(a:Nat):(tog S a).Perm (tog S' a):=by
 unfold tog
 by_cases c:a∈S
 ·rw[if_pos c,if_pos (p.mem_iff.mp c)]
  exact p.erase a
 ·rw[if_neg c,if_neg (fun z=>c (p.mem_iff.mpr z))]
  exact p.cons a
theorem BK{S:List Nat}(h:S.Nodup)(a:Nat):(tog (tog S a) a).Perm S:=by
 by_cases c:a∈S
 ·have e:tog S a=S.erase a:=by unfold tog;rw[if_pos c]
  have n:a∉S.erase a:=h.not_mem_erase
  have e2:tog (S.erase a) a=a::S.erase a:=by unfold tog;rw[if_neg n]
  rw[e,e2]
  exact(F5 c).symm
 ·have e:tog S a=a::S:=by unfold tog;rw[if_neg c]
  have e2:tog (a::S) a=S:=by unfold tog;rw[if_pos (DU ..),Fg]
  rw[e,e2]
theorem CG{S:List Nat}(h:S.Nodup){a x:Nat}:x∈tog S a↔(x∈S/\x≠a)∨(x=a/\a∉S):=by
 unfold tog
 by_cases c:a∈S
 ·rw[if_pos c,h.mem_erase_iff]
  exact⟨fun z=>.inl ⟨z.2,z.1⟩,fun z=>z.elim (fun y=>⟨y.2,y.1⟩) fun y=>absurd c y.2⟩
 ·rw[if_neg c,DI]
  constructor
  ·rintro(z | z)
   ·exact .inr ⟨z,c⟩
   ·exact .inl ⟨z,fun y=>c (y▸z)⟩
  ·rintro(z | z)
   ·exact .inr z.1
   ·exact .inl z.1
theorem Cs.two{n:Nat}{d:Nat->Nat->Int}(M:Met n d){S:List Nat}{c:Int}(nd:S.Nodup)(lt:∀ x∈S,x<n)(h:Cs d S c){a b:Nat}(ha:a<n)(hb:b<n):∃ c',Cs d (tog (tog S a) b) c'/\c'<=c+d a b:=by
 have dn:=M.nn a b
 by_cases ab:a=b
 ·subst ab
  exact⟨c,h.perm (BK nd a).symm,by omega⟩
 by_cases ca:a∈S
 ·obtain⟨e,R,c0,p,h0,ec⟩:=h.part M.sy ca
  have ea:tog S a=S.erase a:=by unfold tog;rw[if_pos ca]
  have p1:(S.erase a).Perm (e::R):=by
   have:=p.erase a
   rw[Fg]at this
   exact this
  have elt:e<n:=lt e (p.mem_iff.mpr (DM _ (DU ..)))
  rw[ea]
  by_cases cb:b∈S.erase a
  ·have eb:tog (S.erase a) b=(S.erase a).erase b:=by unfold tog;rw[if_pos cb]
   rw[eb]
   by_cases ebb:e=b
   ·subst ebb
    have p2:=p1.erase e
    rw[Fg]at p2
    refine⟨c0,h0.perm p2.symm,?_⟩
    have:=M.nn a e
    omega
   ·have bR:b∈R:=by
     rcases DI.mp (p1.mem_iff.mp cb)with z | z
     ·exact absurd z.symm ebb
     ·exact z
    obtain⟨f,R2,c1,q,h1,ec1⟩:=h0.part M.sy bR
    have flt:f<n:=lt f (p.mem_iff.mpr (DM _ (DM _ (q.mem_iff.mpr (DM _ (DU ..))))))
    have p2:((S.erase a).erase b).Perm (e::f::R2):=by
     have z1:(S.erase a).Perm (b::e::f::R2):=p1.trans ((q.cons e).trans (.swap _ _ _))
     have z2:=z1.erase b
     rw[Fg]at z2
     exact z2
    refine⟨d e f+c1,(h1.add e f).perm p2.symm,?_⟩
    have t1:=M.tr e a f elt ha flt
    have t2:=M.tr a b f ha hb flt
    have s1:=M.sy e a
    omega
  ·have eb:tog (S.erase a) b=b::S.erase a:=by unfold tog;rw[if_neg cb]
   rw[eb]
   refine⟨d b e+c0,(h0.add b e).perm (p1.symm.cons b),?_⟩
   have t1:=M.tr b a e hb ha elt
   have s1:=M.sy b a
   omega
 ·have ea:tog S a=a::S:=by unfold tog;rw[if_neg ca]
  rw[ea]
  by_cases cb:b∈S
  ·have eb:tog (a::S) b=a::S.erase b:=by
    unfold tog
    rw[if_pos (DM _ cb),List.erase_cons_tail (by simpa using ab)]
   rw[eb]
   obtain⟨e,R,c0,p,h0,ec⟩:=h.part M.sy cb
   have p1:(S.erase b).Perm (e::R):=by
    have:=p.erase b
    rw[Fg]at this
    exact this
   have elt:e<n:=lt e (p.mem_iff.mpr (DM _ (DU ..)))
   refine⟨d a e+c0,(h0.add a e).perm (p1.symm.cons a),?_⟩
   have t1:=M.tr a b e ha hb elt
   omega
  ·have eb:tog (a::S) b=b::a::S:=by
    unfold tog
    rw[if_neg (fun z=>by rcases DI.mp z with z | z;exact ab z.symm;exact cb z)]
   rw[eb]
   refine⟨d b a+c,h.add b a,?_⟩
   have:=M.sy b a
   omega
end KF
namespace KF
open PySem L2
local macro_rules | `(tactic| walk_at "cc") => `(tactic| first | exact ⟨by decide, by decide⟩ | (show (0 : Int) < _; decide) | (show (0 : Int) < _; omega) | (show (0 : Int) ≤ _; omega) | exact ⟨by decide, by decide, by decide⟩ | exact ⟨by omega, by omega, by decide⟩ | exact Or.inl ⟨by decide, by decide⟩ | exact Or.inl ⟨by omega, by omega⟩)
local macro_rules | `(tactic| walk_at "rd") => `(tactic| repeat (first | refine ⟨_, rfl, ?_⟩ | refine ⟨_, _, rfl, rfl, ?_⟩ | refine ⟨rfl, ?_⟩ | (refine ⟨?cc, ?_⟩; (case cc => walk_at "cc"))))
def lpF:Pos:=⟨37,32,37,55⟩
theorem Fun.okT{P:Program}{w:World}{K:DE}{mg:Str->Option Value}{base:Heap}{x qual:Str}{st:Stmt}{f c TT:Addr}{fd:FuncData}{N ps:List Str}{k:Nat}{sp:Sp}(F:Fun K x qual st f fd)(S:aJ N ps (ak st))(ht:FA K x=some (c,TT))(hn:DS K mainGlobals x=some (some (.ref f)))
  (len:∀ vs H Q E,sp vs H Q E->vs.length=ps.length)
  (hbody:∀(A:Around)(outer:List Env)(s:Shared)(H:Hp)(vs:List V)(Q:VK)(E:XK),Room k (A.deeper (PyProof.Rows.envOfC qual (ak st) s.heap.objs.size f (.ref c)))->sp vs H Q E ->
   ∃ t,PSs (cxOf CX0 P w K mg base N qual (ak st) f (.ref c) A outer s H E).nox (aD st) t/\t { nx:=fun _ H'=>Q .non H',rt:=Q } (lB N vs) H):FnOk P w K mg base CX0 (k+1) f fd ps sp:=by
 obtain⟨oc,od,kV,doc,pm,an,cdv,ct,osl,rfl,lk,hcd⟩:=F.ex
 have e:cdv=.ref c:=by
  unfold FA at ht
  rw[hn]at ht
  simp only[lk]at ht
  cases cdv<;>first | (cases ht;done) | skip
  simp only at ht
  split at ht
  ·split at ht
   ·cases ht;rfl
   ·cases ht
  ·cases ht
 subst e
 refine CZ lk hcd S len fun A outer s H vs Q E hr hsp=>?_
 obtain⟨t,h,q⟩:=hbody A outer s H vs Q E hr hsp
 exact⟨t,h.nox,q⟩
def oV:Option Int->V | none=>.non | some x=>.int x
def oN:Option Nat->V | none=>.non | some k=>.int (k:Int)
def kw(r:Nat):Key×V:=(Sum.inl (r:Int),.bl true)
def lqF:Str:=("fares" : Str)++".<locals>."++"<lambda>"
def sF(ta va wd TT p:Addr):Prop:=p=TT∨p=ta∨p=va∨p=wd
def KpS(S:Addr->Prop)(H H':Hp):Prop:=∀ b o,¬ S b->H b=some o->H' b=some o
theorem KpS.upd{S:Addr->Prop}{H H1:Hp}(a:KpS S H H1){p:Addr}(hp:S p)(o:HO):KpS S H (L2.upd H1 p o):=fun c u n h=>by
 rw[aj (fun z=>n (by rw[z];exact hp))]
 exact a c u n h
def mR(TT:Addr):Sp:=fun vs H Q _=>∃(v:V)(n s:Nat)(ls:List Lk),vs = [.int (n:Int),v,.int (s:Int)]/\LnAt H v ls/\Lok n ls/\s<n/\Tb lqF lpF TT H /\
 ∀(t ta va:Addr)(TL:List (Option Int))(VL:List (Option Nat)) H',TbS TT H H'->Tb lqF lpF TT H'->H ta=none->H va=none->H' t=some (.tup [.ref ta,.ref va])->H' ta=some (.lst (TL.map oV))->H' va=some (.lst (VL.map oN))->FI n ls s MM TL VL [] (fun _ _=>False)->Q (.ref t) H'
structure FH(ta va wd TT:Addr)(n s:Nat)(ls:List Lk)(H1:Hp)(TL:List (Option Int))(VL:List (Option Nat))(W:List Nat)(ex:Nat->Nat->Prop)(H:Hp):Prop where
 kp:KpS (sF ta va wd TT) H1 H
 ht:H ta=some (.lst (TL.map oV))
 hv:H va=some (.lst (VL.map oN))
 hw:H wd=some (.dK (W.map kw))
 tb:Tb lqF lpF TT H
 fi:FI n ls s MM TL VL W ex
 nd:W.Nodup
def vW(n:Nat)(v:V):Nat:=match v with | .int x=>x.toNat | _=>n*MM+1
def mesH(n:Nat)(ta wd:Addr)(H:Hp):Nat:=match H ta,H wd with
 |some (.lst xs),some (.dK kvs)=>(xs.map (vW n)).sum*(n+1)+kvs.length
 |_,_=>0
theorem FH.mes{ta va wd TT:Addr}{n s:Nat}{ls:List Lk}{H1 H:Hp}{TL:List (Option Int)}{VL:List (Option Nat)}{W:List Nat}{ex:Nat->Nat->Prop}(h:FH ta va wd TT n s ls H1 TL VL W ex H):mesH n ta wd H=wgt (n*MM+1) TL*(n+1)+W.length:=by
 unfold mesH wgt
 rw[h.ht,h.hw]
 have e:(TL.map oV).map (vW n)=TL.map (vOf (n*MM+1)):=by
  rw[FN]
  refine Ga fun o _=>?_
  cases o<;>rfl
 show((TL.map oV).map (vW n)).sum*(n+1)+(W.map kw).length=_
 rw[e,DG]
theorem FH.wlen{ta va wd TT:Addr}{n s:Nat}{ls:List Lk}{H1 H:Hp}{TL:List (Option Int)}{VL:List (Option Nat)}{W:List Nat}{ex:Nat->Nat->Prop}(h:FH ta va wd TT n s ls H1 TL VL W ex H):W.length<=n :=
 fG n W h.nd fun x hx=>by
  obtain⟨y,hy⟩:=h.fi.wk x hx
  have:=(DC.mp hy).1
  rw[h.fi.tl]at this
  exact this
theorem Bh{r s:Nat}(h:(kw r).1=(kw s).1):r=s:=by
 have:(r:Int)=(s:Int):=by injection h
 omega
theorem vL{r:Nat}:∀{W:List Nat},r∈W->valV (W.map kw) (.inl (r:Int))=some (.bl true)
 |w::W,h=>by
  rw[D6]
  by_cases c:(kw w).1=Sum.inl (r:Int)
  ·rw[aY c];rfl
  ·rw[a9 c]
   refine vL ?_
   rcases DI.mp h with h | h
   ·exact absurd (by rw[h];rfl) c
   ·exact h
theorem no_kw{r:Nat}:∀{W:List Nat},r∉W->valV (W.map kw) (.inl (r:Int))=none
 |[],_=>rfl
 |w::W,h=>by
  rw[D6,a9 (fun c=>h (by rw[Bh (r:=w) (s:=r) c];exact DU ..))]
  exact no_kw fun z=>h (DM _ z)
theorem rB(r:Nat):∀ W:List Nat,i5 (W.map kw) (.inl (r:Int))=(W.filter (fun x=>decide (x≠r))).map kw
 |[]=>rfl
 |w::W=>by
  rw[D6]
  by_cases c:w=r
  ·rw[xW (by rw[c];rfl),rB r W,Hz (by simpa using c)]
  ·rw[xX (k:=Sum.inl (r:Int)) (fun z=>c (Bh (r:=w) (s:=r) z)),rB r W,Hy (by simpa using c),D6]
theorem put_kw{t:Nat}{W:List Nat}(nd:W.Nodup):∃ W':List Nat,putK (W.map kw) (.inl (t:Int)) (.bl true)=W'.map kw/\W'.Nodup/\∀ r,r∈W'↔r∈W∨r=t:=by
 by_cases c:t∈W
 ·refine⟨W,?_,nd,fun r=>⟨.inl,fun z=>z.elim id fun z=>z▸c⟩⟩
  unfold putK
  rw[dW,vL c,Option.isSome_some,if_pos rfl]
  rw[FN]
  refine Ga fun x _=>?_
  show(if(kw x).1=Sum.inl (t:Int) then((kw x).1,V.bl true) else kw x)=kw x
  split<;>rfl
 ·refine⟨W++[t],by rw[sG _ (no_kw c),Ex];rfl,qN nd c,fun r=>by rw[DN,DP]⟩
structure Sg(la aa ta va wd TT:Addr)(n s:Nat)(ls:List Lk)(xs ys:List V)(rows:List (List Nat))(H1:Hp):Prop where
 hA:H1 la=some (.lst xs)
 hL:LsAt LkAt H1 xs ls
 ok:Lok n ls
 hR:H1 aa=some (.lst ys)
 rx:fM (sF ta va wd TT) H1 ys rows
 am:AtM n 120 rows (memL ls)
 nla:¬ sF ta va wd TT la
 naa:¬ sF ta va wd TT aa
 tt:∀ t o,H1 t=some (.tup o)->¬ sF ta va wd TT t
 ntv:ta≠va
 ntw:ta≠wd
 nvw:va≠wd
 nTt:ta≠TT
 nTv:va≠TT
 nTw:wd≠TT
theorem jA{q:Str}{lp:Pos}{TT:Addr}{H H':Hp}(h:Tb q lp TT H)(k:∀ b,(b=TT∨∃ c,H b=some (codO c q))->H' b=H b):Tb q lp TT H':=by
 rcases h with h | ⟨c,h1,h2⟩
 ·exact .inl ((k TT (.inl rfl)).trans h)
 ·exact .inr ⟨c,(k TT (.inl rfl)).trans h1,(k c (.inr ⟨c,h2⟩)).trans h2⟩
theorem FH.new{ta va wd TT:Addr}{n s:Nat}{ls:List Lk}{H1 H:Hp}{TL:List (Option Int)}{VL:List (Option Nat)}{W:List Nat}{ex:Nat->Nat->Prop}(h:FH ta va wd TT n s ls H1 TL VL W ex H){p:Addr}(hp:H p=none)(o:HO):FH ta va wd TT n s ls H1 TL VL W ex (upd H p o):=by
 have sm:=ao hp o
 refine⟨fun b u nb e=>sm _ _ (h.kp b u nb e),sm _ _ h.ht,sm _ _ h.hv,sm _ _ h.hw,jA h.tb fun b hb=>aj fun z=>?_,h.fi,h.nd⟩
 subst z
 rcases hb with hb | ⟨c,hb⟩
 ·subst hb
  rcases h.tb with y | ⟨_,y,_⟩<;>rw[hp]at y<;>cases y
 ·rw[hp]at hb;cases hb
theorem FH.tab{ta va wd TT:Addr}{n s:Nat}{ls:List Lk}{H1 H H':Hp}{TL:List (Option Int)}{VL:List (Option Nat)}{W:List Nat}{ex:Nat->Nat->Prop}(h:FH ta va wd TT n s ls H1 TL VL W ex H)(nTt:ta≠TT)(nTv:va≠TT)(nTw:wd≠TT)(sm:TbS TT H H')(tb:Tb lqF lpF TT H'):FH ta va wd TT n s ls H1 TL VL W ex H' :=
 ⟨fun b u nb e=>sm _ _ (fun z=>nb (.inl z)) (h.kp b u nb e),sm _ _ nTt h.ht,sm _ _ nTv h.hv,sm _ _ nTw h.hw,tb,h.fi,h.nd⟩
def FrI(la aa ta va wd TT:Addr)(n s:Nat)(ls:List Lk)(H1:Hp)(σ:St)(H:Hp):Prop:=∃(v7 v8 v9 v10:Option V)(TL:List (Option Int))(VL:List (Option Nat))(W:List Nat),
 σ = [some (.int (n:Int)),some (.ref la),some (.int (s:Int)),some (.ref aa),some (.ref ta),some (.ref va),some (.ref wd),v7,v8,v9,v10]/\FH ta va wd TT n s ls H1 TL VL W (fun _ _=>False) H
def InI(la aa ta va wd TT:Addr)(n s:Nat)(ls:List Lk)(row:List Nat)(m w0 l0:Nat)(H1:Hp)(i:Nat)(σ:St)(H:Hp):Prop:=∃(v8 v9 v10:Option V)(TL:List (Option Int))(VL:List (Option Nat))(W:List Nat),
 σ = [some (.int (n:Int)),some (.ref la),some (.int (s:Int)),some (.ref aa),some (.ref ta),some (.ref va),some (.ref wd),some (.int (m:Int)),v8,v9,v10]/\FH ta va wd TT n s ls H1 TL VL W (fun r j=>r=m/\j∉row.take i) H/\(∃ x,TL[m]?=some (some x)) /\
 ((wgt (n*MM+1) TL=w0/\W.length<l0)∨wgt (n*MM+1) TL<w0)
def restF(la TT:Addr)(n s:Nat)(ls:List Lk):TS:=fun D σ H=>∃(aa ta va wd:Addr)(xs ys:List V)(rows:List (List Nat))(H1:Hp)(v8 v9 v10:Option V)(TL:List (Option Int))(VL:List (Option Nat))(W:List Nat)(m l0:Nat),Sg la aa ta va wd TT n s ls xs ys rows H1 /\
 σ = [some (.int (n:Int)),some (.ref la),some (.int (s:Int)),some (.ref aa),some (.ref ta),some (.ref va),some (.ref wd),some (.int (m:Int)),v8,v9,v10]/\FH ta va wd TT n s ls H1 TL VL W (fun r _=>r=m) H/\(∃ x,TL[m]?=some (some x))/\W.length<l0 /\
 ∀ σ' H',FrI la aa ta va wd TT n s ls H1 σ' H'->mesH n ta wd H'<wgt (n*MM+1) TL*(n+1)+l0->D.nx σ' H'
def restM(la TT:Addr)(n s:Nat)(ls:List Lk):TS:=fun D σ H=>∃(aa ta va wd:Addr)(xs ys:List V)(rows:List (List Nat))(H1:Hp)(TL:List (Option Int))(VL:List (Option Nat))(W:List Nat)(m w0 l0 i k:Nat)(row:List Nat)(l:Lk)(x:Int)(o:Option Int),Sg la aa ta va wd TT n s ls xs ys rows H1 /\
 σ = [some (.int (n:Int)),some (.ref la),some (.int (s:Int)),some (.ref aa),some (.ref ta),some (.ref va),some (.ref wd),some (.int (m:Int)),some (.int (k:Int)),some (.int ((bey l m:Nat):Int)),some (.int (x+l.2.2))]/\FH ta va wd TT n s ls H1 TL VL W (fun r j=>r=m/\j∉row.take i) H /\
 ls[k]?=some l/\g7 l m/\TL[m]?=some (some x)/\TL[bey l m]?=some o/\(∀ y,o=some y->x+l.2.2<y)/\row[i]?=some k/\((wgt (n*MM+1) TL=w0/\W.length<l0)∨wgt (n*MM+1) TL<w0) /\
 ∀ σ' H',InI la aa ta va wd TT n s ls row m w0 l0 H1 (i+1) σ' H'->D.nx σ' H'
theorem xU{row:List Nat}{m i k:Nat}(hk:row[i]?=some k):∀ r j,(r=m/\j∉row.take i)->(r=m/\j∉row.take (i+1))∨(r=m/\j=k):=fun r j ⟨h1,h2⟩=>by
 by_cases c:j=k
 ·exact .inr ⟨h1,c⟩
 ·refine .inl ⟨h1,fun z=>?_⟩
  rw[Ez,hk]at z
  rcases DN.mp z with z | z
  ·exact h2 z
  ·exact c (DP.mp z)
theorem qL{TL:List (Option Int)}{r:Nat}{o:Option Int}(h:TL[r]?=some o):(TL.map oV)[r]?=some (oV o):=by rw[DK,h];rfl
section
variable{P:Program}{w:World}{K:DE}{mg:Str->Option Value}{base:Heap}
theorem cO:aJ ["many","links","start","at","told","via","waiting","room","number","there","fare"] ["many","links","start"] (ak fY):=⟨rfl,rfl,rfl,by decide +kernel,rfl,by decide +kernel,by decide +kernel⟩
theorem zM{f f1 f2 c TT:Addr}{fd fd1 fd2:FuncData} (F:Fun K "fares" "fares" fY f fd) (T:Txt mg) (ht:FA K "fares" = some (c,TT)) (hn:DS K mainGlobals "fares" = some (some (.ref f))) (hcd:Fs base c TT) (hbm:Bm mg base)
  (G_links_at:Cal P w K mg base 1 "links_at" ["many","links"] spAt f1 fd1) (G_beyond:Cal P w K mg base 1 "beyond" ["link","room"] zf f2 fd2):FnOk P w K mg base CX0 2 f fd ["many","links","start"] (mR TT):=by
 refine Fun.okT F cO ht hn (fun vs H Q E h=>?_) (fun A outer s H vs Q E hr h=>?_)
 ·obtain⟨v,n,st0,ls,rfl,_⟩:=h
  rfl
 obtain⟨v,n,st0,ls,rfl,⟨la,xs,rfl,hA,hL⟩,ok,hs,tb0,kk⟩:=h
 have hu:=uU hr
 have hu64:=hr.units
 have n1:=ok.n1
 have l9:=ok.l9
 have LM:∀ N,Lam (cxOf CX0 P w K mg base N "fares" (ak fY) f (.ref c) A outer s H E).nox c TT (s.heap.objs.size+1) lqF:=fun N=>⟨rfl,hcd,hbm,rfl,rfl,rfl,rfl⟩
 refine⟨_,(af (ar (i:=3) cO.nd rfl (Or.inl rfl) (ay G_links_at.ok (hr.mono (by decide)) rfl G_links_at.mg G_links_at.kp G_links_at.bn .nil aX (ae (pv 0) (ae (pv 1) ai))))
   (af (ar (i:=4) cO.nd rfl (Or.inr rfl) (jM rfl (fr:=[]) (by exact cf.plain (by rfl) (by decide +kernel) (by rfl) (by decide +kernel) (by rfl) (by decide +kernel)) (bV rfl T.n_range (ae (pv 0) ai)) (fun C ex s H=>iN)))
   (af (iB (i:=5) rfl cO.nd rfl rfl (fr:=[]) (by exact cf.plain (by rfl) (by decide +kernel) (by rfl) (by decide +kernel) (by rfl) (by decide +kernel)) (bV rfl T.n_range (ae (pv 0) ai)) (fun C ex s H=>iN))
   (af (wq ah (wD (pv 4) (pv 2) mU))
   (af (ar (i:=6) cO.nd rfl (Or.inl rfl) (wF (sL (pv 2) ur wt) rfl rfl (fun z=>by cases z) (by decide)))
   (af (gP PassesOwn.never (aF (op_neE hu64) (pv 6) sN (aN _)) (af (ar (i:=7) cO.nd rfl (Or.inl rfl) (Cg (it:=4) (LM _) rfl rfl (hr.mono (by decide)) rfl (Or.inr (Or.inl rfl)) rfl T.n_min (ae (pv 6) ai)))
   (af (bM (zF (pv 6) (pv 7) ⟨rfl,rfl,rfl,rfl⟩))
   (dh (t2:=restF la TT n st0 ls) (aq (dM PassesOwn.never rfl (bu (aM aL (pv 3) (pv 7) (fun _ _=>rfl))) (aC (i:=8) cO.nd rfl (Or.inl rfl)) (af (ar (i:=9) cO.nd rfl (Or.inl rfl) (ay G_beyond.ok (hr.mono (by decide)) rfl G_beyond.mg G_beyond.kp G_beyond.bn .nil aX (ae (aM aL (pv 1) (pv 8) (fun _ _=>rfl)) (ae (pv 7) ai))))
   (af (ar (i:=10) cO.nd rfl (Or.inl rfl) (au cH (aM aL (pv 4) (pv 7) (fun _ _=>rfl)) (aM cI (aM aL (pv 1) (pv 8) (fun _ _=>rfl)) ah (fun _ _=>rfl))))
   (aq (di (PW.pt (Cb (aF Be (aM aL (pv 4) (pv 9) (fun _ _=>rfl)) iN (aN _)) (wj (aF Ck (pv 10) (aM aL (pv 4) (pv 9) (fun _ _=>rfl)) (aN _))))) (dh (t2:=restM la TT n st0 ls) (af (wq (pv 10) (wD (pv 4) (pv 9) mU))
   (af (wq (pv 8) (wD (pv 5) (pv 9) mU))
   (aq (qB hu (pv 6) (pv 9) ur rfl)))) (fun D0 S0 H0 h0=>?restm)) bf)))))) (fun D0 S0 H0 h0=>?restf)))))
   (aq (aV (iM (ae (pv 4) (ae (pv 5) ai))))))))))),?_⟩
 case restm =>
  obtain⟨aa,ta,va,wd,xs,ys,rows,H1,TL,VL,W,m,w0,l0,i,k,row,l,x,o,sg,rfl,fh,hl,hm,hx,ho,hlt,hk,dec,kn⟩:=h0
  have tl:=fh.fi.tl
  have vl:=fh.fi.vl
  have tt:bey l m<n:=by rw[← tl];exact(DC.mp ho).1
  have l0':=(fh.fi.w0 l (DH hl))
  have ntv:=sg.ntv
  have ntw:=sg.ntw
  have nvw:=sg.nvw
  have nTt:=sg.nTt
  have nTv:=sg.nTv
  have nTw:=sg.nTw
  refine⟨_,rfl,_,rfl,_,rfl,ta,_,_,bey l m,rfl,rfl,fh.ht,rg (by rw[DG];omega),?_⟩
  refine⟨_,rfl,_,rfl,_,rfl,va,_,_,bey l m,rfl,rfl,by rw[aj (Ne.symm ntv)];exact fh.hv,rg (by rw[DG];omega),?_⟩
  have hw2:(upd (upd H0 ta (.lst ((TL.map oV).set (bey l m) (.int (x+l.2.2))))) va (.lst ((VL.map oN).set (bey l m) (.int (k:Int))))) wd=some (.dK (W.map kw)):=by rw[aj (Ne.symm nvw),aj (Ne.symm ntw)];exact fh.hw
  have wl:=fh.wlen
  refine⟨_,rfl,_,rfl,wd,_,rfl,DPut.k (k:=.inl ((bey l m:Nat):Int)) (v:=.bl true) hw2 (by rw[DG];exact av (by omega)),?_⟩
  obtain⟨W',eW,nd',mW⟩:=put_kw (t:=bey l m) fh.nd
  rw[eW]
  have e1:(TL.map oV).set (bey l m) (.int (x+l.2.2))=(TL.set (bey l m) (some (x+l.2.2))).map oV:=by rw[List.map_set];rfl
  have e2:(VL.map oN).set (bey l m) (.int (k:Int))=(VL.set (bey l m) (some k)).map oN:=by rw[List.map_set];rfl
  rw[e1,e2]
  have fi2:=fh.fi.mend (W':=W') hl hm hx ho hlt mW (xU hk)
  have wd2:=y4 fh.fi l0'.1 l0'.2 hx ho hlt
  have nm:bey l m≠m:=fun e=>by
   rw[e,hx]at ho
   cases ho
   have:=hlt x rfl
   omega
  refine kn _ _ ⟨_,_,_,_,_,W',rfl,⟨((fh.kp.upd (.inr (.inl rfl)) _).upd (.inr (.inr (.inl rfl))) _).upd (.inr (.inr (.inr rfl))) _,?_,?_,ag,?_,fi2,nd'⟩,⟨x,by rw[oH (by omega),if_neg nm];exact hx⟩,.inr (by rcases dec with d | d<;>omega)⟩
  ·rw[aj ntw,aj ntv];exact ag
  ·rw[aj nvw];exact ag
  ·refine jA fh.tb fun b hb=>?_
   rw[aj (fun z=>?_),aj (fun z=>?_),aj (fun z=>?_)]
   ·rcases hb with hb | ⟨c',hb⟩
    ·exact nTt (z▸hb)
    ·rw[z,fh.ht]at hb;cases hb
   ·rcases hb with hb | ⟨c',hb⟩
    ·exact nTv (z▸hb)
    ·rw[z,fh.hv]at hb;cases hb
   ·rcases hb with hb | ⟨c',hb⟩
    ·exact nTw (z▸hb)
    ·rw[z,fh.hw]at hb;cases hb
 case restf =>
  obtain⟨aa,ta,va,wd,xs,ys,rows,H1,v8,v9,v10,TL,VL,W,m,l0,sg,rfl,fh,⟨x,hx⟩,hl0,kn⟩:=h0
  have mn:m<n:=by rw[← fh.fi.tl];exact(DC.mp hx).1
  have rl:=sg.am.len
  obtain⟨row,hrow⟩:∃ row,rows[m]?=some row:=⟨_,DB (by omega)⟩
  obtain⟨pr,r1,r2,r3⟩:=sg.rx.2 _ _ hrow
  have hR:=fh.kp _ _ sg.naa sg.hR
  have hrw:=fh.kp _ _ r2 r3
  have few:=sg.am.few row (DH hrow)
  refine⟨_,rfl,_,rfl,aa,_,_,_,rfl,rfl,SqL.of hR,aH r1,pr,rfl,⟨_,SqL.of hrw⟩,c9 (K:=K) (xs:=row.map iV) (InI la aa ta va wd TT n st0 ls row m (wgt (n*MM+1) TL) l0 H1) ⟨_,_,_,TL,VL,W,rfl,⟨fh.kp,fh.ht,fh.hv,fh.hw,fh.tb,fh.fi.exw fun r i l _ _ z=>⟨z,by rw[GG];exact fun y=>nomatch y⟩,fh.nd⟩,⟨x,hx⟩,.inl ⟨rfl,hl0⟩⟩ (fun i σ H2 _ z=>?_) ?_ ?_⟩
  ·obtain⟨_,_,_,_,_,_,_,f2,_⟩:=z
   exact SqL.of (f2.kp _ _ r2 r3)
  ·rintro i y σ H2 hy ⟨v8,v9,v10,TL2,VL2,W2,rfl,f2,⟨x2,hx2⟩,dec⟩
   rw[DK]at hy
   obtain⟨k,hk,rfl⟩:=Ec.mp hy
   obtain⟨l,hl,hend⟩:=(sg.am.mm m row hrow k).mp (DH hk)
   obtain⟨lv,hlv,hlk⟩:=sg.hL.2 k l hl
   obtain⟨lt,rfl,hlt0⟩:=hlk
   have hlt2:=f2.kp _ _ (sg.tt _ _ hlt0) hlt0
   have hA2:=f2.kp _ _ sg.nla sg.hA
   obtain⟨b1,b2⟩:=sg.ok.sm l (DH hl)
   have tt:bey l m<n:=bey_lt b1 b2
   have tl2:=f2.fi.tl
   obtain⟨o,ho⟩:∃ o,TL2[bey l m]?=some o:=⟨_,DB (by omega)⟩
   refine⟨_,rfl,_,rfl,la,_,_,_,rfl,rfl,SqL.of hA2,aH hlv,_,rfl,.ref lt,l,m,rfl,⟨lt,rfl,hlt2⟩,?_⟩
   refine⟨_,rfl,_,rfl,ta,_,_,_,rfl,rfl,SqL.of f2.ht,aH (qL hx2),_,rfl,_,rfl,la,_,_,_,rfl,rfl,SqL.of hA2,aH hlv,lt,_,2,_,rfl,rfl,SqT.of hlt2,a32,_,_,rfl,rfl,?_⟩
   refine⟨_,rfl,_,rfl,ta,_,_,_,rfl,rfl,SqL.of f2.ht,aH (qL ho),rfl,_,rfl,?_⟩
   cases o with
   |none =>
    refine iteT (iteT ?_)
    exact⟨aa,ta,va,wd,xs,ys,rows,H1,TL2,VL2,W2,m,wgt (n*MM+1) TL,l0,i,k,row,l,x2,none,sg,rfl,f2,hl,hend,hx2,ho,(fun y e=>nomatch e),hk,dec,fun σ' H' z=>z⟩
   |some y0 =>
    refine iteF ?_
    refine⟨_,rfl,_,rfl,_,rfl,ta,_,_,_,rfl,rfl,SqL.of f2.ht,aH (qL ho),_,_,rfl,rfl,_,rfl,?_⟩
    refine ite2 (fun c=>?_) (fun c=>?_)
    ·have c':x2+l.2.2<y0:=of_decide_eq_true c
     exact⟨aa,ta,va,wd,xs,ys,rows,H1,TL2,VL2,W2,m,wgt (n*MM+1) TL,l0,i,k,row,l,x2,some y0,sg,rfl,f2,hl,hend,hx2,ho,(fun y e=>by cases e;exact c'),hk,dec,fun σ' H' z=>z⟩
    ·have c':¬ x2+l.2.2<y0:=fun z=>c (decide_eq_true z)
     exact⟨_,_,_,TL2,VL2,W2,rfl,⟨f2.kp,f2.ht,f2.hv,f2.hw,f2.tb,f2.fi.leave hl hx2 ho (by omega) (xU hk),f2.nd⟩,⟨x2,hx2⟩,dec⟩
  ·rintro σ H2 ⟨v8,v9,v10,TL2,VL2,W2,rfl,f2,_,dec⟩
   have fin:FH ta va wd TT n st0 ls H1 TL2 VL2 W2 (fun _ _=>False) H2:=⟨f2.kp,f2.ht,f2.hv,f2.hw,f2.tb,f2.fi.exw fun r i l hl hend ⟨z1,z2⟩=>by
    subst z1
    rw[DG,EG]at z2
    exact z2 ((sg.am.mm r row hrow i).mpr ⟨l,hl,hend⟩),f2.nd⟩
   refine kn _ _ ⟨_,_,_,_,TL2,VL2,W2,rfl,fin⟩ ?_
   rw[fin.mes]
   have wl:=fin.wlen
   rcases dec with⟨d1,d2⟩ | d
   ·rw[d1];omega
   ·have h1:(wgt (n*MM+1) TL2+1)*(n+1)<=wgt (n*MM+1) TL*(n+1):=GD _ d
    rw[Nat.add_mul,Nat.one_mul]at h1
    omega
 refine⟨_,rfl,_,rfl,.ref la,n,ls,rfl,⟨la,xs,rfl,hA,hL⟩,ok,fun aa ys rows Ha sa haa0 haa rx am=>?_⟩
 refine⟨_,rfl,_,rfl,by omega,by omega,dP (n:=(n:Int).toNat) (fun i zs H2=>H2=Ha/\zs=DJ i V.non) (by rw[DV];exact Ej (av (by omega))) ⟨rfl,rfl⟩ ?_ ?_⟩
 ·rintro i zs H2 hi ⟨rfl,rfl⟩
  exact⟨rfl,by rw[F4]⟩
 rintro zs H2 _ ⟨rfl,rfl⟩ ta hta
 rw[DV]
 have z1:=ao hta (.lst (DJ n V.non))
 refine⟨_,rfl,_,rfl,by omega,by omega,dP (n:=(n:Int).toNat) (fun i zs H3=>H3=upd H2 ta (.lst (DJ n V.non))/\zs=DJ i V.non) (by rw[DV];exact Ej (av (by omega))) ⟨rfl,rfl⟩ ?_ ?_⟩
 ·rintro i zs H3 hi ⟨rfl,rfl⟩
  exact⟨rfl,by rw[F4]⟩
 rintro zs H3 _ ⟨rfl,rfl⟩ va hva
 rw[DV]
 have ntv:ta≠va:=fun z=>by rw[← z,ag]at hva;cases hva
 have z2:=ao hva (.lst (DJ n V.non))
 refine⟨_,rfl,_,rfl,ta,_,_,st0,rfl,rfl,by rw[aj ntv];exact ag,rg (by rw[Fc];exact hs),?_⟩
 intro wd hwd
 refine⟨_,rfl,ag,[kw st0],rfl,(by show 1<=15;decide),?_⟩
 have ntw:ta≠wd:=fun z=>by rw[← z,ag]at hwd;cases hwd
 have hva0:H2 va=none:=cK z1 hva
 have hwd0:(upd (upd H2 ta (.lst (DJ n V.non))) va (.lst (DJ n V.non))) wd=none:=by rw[aj (Ne.symm ntw)]at hwd;exact hwd
 have nvw:va≠wd:=fun z=>by rw[← z,ag]at hwd0;cases hwd0
 have hwd1:H2 wd=none:=cK (z1.trans z2) hwd0
 have hT0:H TT≠none:=by rcases tb0 with y | ⟨_,y,_⟩<;>rw[y]<;>simp
 have hT2:H2 TT≠none:=by
  cases y:H TT with
  |none=>exact absurd y hT0
  |some o=>rw[sa _ _ y];simp
 have nTt:ta≠TT:=fun z=>hT2 (z▸hta)
 have nTv:va≠TT:=fun z=>hT2 (z▸hva0)
 have nTw:wd≠TT:=fun z=>hT2 (z▸hwd1)
 have sm1:Same H2 (upd (upd (upd (upd (upd H2 ta (.lst (DJ n V.non))) va (.lst (DJ n V.non))) ta (.lst ((DJ n V.non).set st0 (.int 0)))) wd (.dK [])) wd (.dK (fP [] [kw st0]))):=bQ (bQ (bQ (z1.trans z2) hta _) hwd1 _) hwd1 _
 have eT:((DJ n V.non).set st0 (.int 0))=((DJ n (none:Option Int)).set st0 (some 0)).map oV:=by rw[List.map_set,List.map_replicate];rfl
 have eV:(DJ n V.non)=(DJ n (none:Option Nat)).map oN:=by rw[List.map_replicate];rfl
 have g1:(upd (upd (upd (upd (upd H2 ta (.lst (DJ n V.non))) va (.lst (DJ n V.non))) ta (.lst ((DJ n V.non).set st0 (.int 0)))) wd (.dK [])) wd (.dK (fP [] [kw st0]))) ta=some (.lst (((DJ n (none:Option Int)).set st0 (some 0)).map oV)):=by
  rw[aj ntw,aj ntw,← eT];exact ag
 have g2:(upd (upd (upd (upd (upd H2 ta (.lst (DJ n V.non))) va (.lst (DJ n V.non))) ta (.lst ((DJ n V.non).set st0 (.int 0)))) wd (.dK [])) wd (.dK (fP [] [kw st0]))) va=some (.lst ((DJ n (none:Option Nat)).map oN)):=by
  rw[aj nvw,aj nvw,aj (Ne.symm ntv),← eV];exact ag
 have g3:(upd (upd (upd (upd (upd H2 ta (.lst (DJ n V.non))) va (.lst (DJ n V.non))) ta (.lst ((DJ n V.non).set st0 (.int 0)))) wd (.dK [])) wd (.dK (fP [] [kw st0]))) wd=some (.dK ([st0].map kw)):=ag
 generalize (upd (upd (upd (upd (upd H2 ta (.lst (DJ n V.non))) va (.lst (DJ n V.non))) ta (.lst ((DJ n V.non).set st0 (.int 0)))) wd (.dK [])) wd (.dK (fP [] [kw st0])))=H1 at sm1 g1 g2 g3
 have sH:Same H H1:=sa.trans sm1
 have nS:∀ b,H2 b≠none->b≠TT->¬ sF ta va wd TT b:=fun b hb nT z=>by
  rcases z with z | z | z | z
  ·exact nT z
  ·exact hb (z▸hta)
  ·exact hb (z▸hva0)
  ·exact hb (z▸hwd1)
 have sg:Sg la aa ta va wd TT n st0 ls xs ys rows H1:=⟨sH _ _ hA,hL.imp fun _ _ q=>q.mono sH,ok,sm1 _ _ haa,⟨rx.1,fun i l e=>by
   obtain⟨p,p1,p2,p3⟩:=rx.2 i l e
   exact⟨p,p1,nS p (by rw[p3];simp) (fun z=>p2 (.inr (z▸hT0))),sm1 _ _ p3⟩⟩,am,nS la (by rw[sa _ _ hA];simp) (fun z=>by rcases tb0 with y | ⟨_,y,_⟩<;>rw[← z,hA]at y<;>cases y),nS aa (by rw[haa];simp) (fun z=>hT0 (z▸haa0)),(fun t o e z=>by
   rcases z with z | z | z | z
   ·rw[z]at e
    rcases tb0 with y | ⟨_,y,_⟩<;>rw[sH _ _ y]at e<;>cases e
   ·rw[z,g1]at e;cases e
   ·rw[z,g2]at e;cases e
   ·rw[z,g3]at e;cases e),ntv,ntw,nvw,nTt,nTv,nTw⟩
 have tb1:Tb lqF lpF TT H1:=by
  rcases tb0 with y | ⟨c',y1,y2⟩
  ·exact .inl (sH _ _ y)
  ·exact .inr ⟨c',sH _ _ y1,sH _ _ y2⟩
 refine gK (FrI la aa ta va wd TT n st0 ls H1) (fun _ H'=>mesH n ta wd H') ⟨_,_,_,_,_,_,[st0],rfl,⟨fun _ _ _ e=>e,g1,g2,g3,tb1,FI.first ok.w0 hs,Eo.mpr ⟨(by simp),Fu⟩⟩⟩ ?_ ?_
 ·rintro σ H3 ⟨v7,v8,v9,v10,TL,VL,W,rfl,fh⟩
  refine⟨_,rfl,fun p hp=>?_⟩
  have fh3:=fh.new hp (.dK [])
  refine⟨wd,p,W.map kw,rfl,rfl,fh3.hw,ag,_,rfl,?_⟩
  refine ite2 (fun c=>?_) (fun c=>?_)
  ·have ne:W.map kw≠[]:=fun z=>by rw[z]at c;cases c
   refine⟨_,rfl,wd,W.map kw,ta,_,rfl,fh3.hw,ne,rfl,fh3.ht,fh3.tb,fun kv hkv=>?_,fun kv hkv H4 sm4 tb4=>?_⟩
   ·obtain⟨r,hr,rfl⟩:=ED.mp hkv
    obtain⟨x,hx⟩:=fh3.fi.wk r hr
    exact⟨r,x,rfl,qL hx⟩
   obtain⟨r,hr,rfl⟩:=ED.mp hkv
   have fh4:=fh3.tab nTt nTv nTw sm4 tb4
   obtain⟨x,hx⟩:=fh4.fi.wk r hr
   refine⟨_,rfl,wd,rfl,.inl ⟨_,.inl fh4.hw⟩,_,rfl,W.map kw,.inl (r:Int),.bl true,fh4.hw,rfl,vL hr,?_⟩
   rw[rB]
   have mW:∀ y,y∈W.filter (fun x=>decide (x≠r))↔y∈W/\y≠r:=fun y=>by rw[Gy];simp
   have lW:(W.filter (fun x=>decide (x≠r))).length<W.length:=by
    refine Nat.lt_of_le_of_ne (List.length_filter_le _ _) fun z=>?_
    have:=List.filter_eq_self.mp (List.Sublist.eq_of_length (List.filter_sublist ..) z) r hr
    simp at this
   refine⟨aa,ta,va,wd,xs,ys,rows,H1,_,_,_,TL,VL,_,r,W.length,sg,rfl,⟨fh4.kp.upd (.inr (.inr (.inr rfl))) _,by rw[aj ntw];exact fh4.ht,by rw[aj nvw];exact fh4.hv,ag,jA fh4.tb fun b hb=>aj fun z=>?_,fh4.fi.take mW,fh4.nd.filter _⟩,⟨x,hx⟩,lW,fun σ' H' y1 y2=>⟨y1,by rw[fh.mes];exact y2⟩⟩
   rcases hb with hb | ⟨c',hb⟩
   ·exact nTw (z▸hb)
   ·rw[z,fh4.hw]at hb;cases hb
  ·have e0:W = []:=by
    cases W with
    |nil=>rfl
    |cons a b=>exact absurd rfl c
   subst e0
   refine⟨_,rfl,_,rfl,(by show 2<=sizeLine;decide),fun t ht=>?_⟩
   have fh4:=fh3.new ht (.tup [.ref ta,.ref va])
   refine kk t ta va TL VL _ (fun b o nb e=>?_) fh4.tb (cK sa hta) (cK sa hva0) ag fh4.ht fh4.hv fh4.fi
   exact fh4.kp _ _ (nS b (by rw[sa _ _ e];simp) nb) (sH _ _ e)
 ·rintro σ H4 Q1 Q2 hi ⟨v1,e1,h⟩
  refine⟨v1,e1,fun p hp=>?_⟩
  obtain⟨a,b,kvs,q1,q2,q3,q4,c',q5,q6⟩:=h p hp
  exact⟨a,b,kvs,q1,q2,q3,q4,c',q5,hi _ _ q6⟩
end
end KF
namespace KF
open PySem L2
local macro_rules | `(tactic| walk_at "cc") => `(tactic| first | exact ⟨by decide, by decide⟩ | (show (0 : Int) < _; decide) | (show (0 : Int) < _; omega) | (show (0 : Int) ≤ _; omega) | exact ⟨by decide, by decide, by decide⟩ | exact ⟨by omega, by omega, by decide⟩ | exact Or.inl ⟨by decide, by decide⟩ | exact Or.inl ⟨by omega, by omega⟩)
local macro_rules | `(tactic| walk_at "rd") => `(tactic| repeat (first | refine ⟨_, rfl, ?_⟩ | refine ⟨_, _, rfl, rfl, ?_⟩ | refine ⟨rfl, ?_⟩ | (refine ⟨?cc, ?_⟩; (case cc => walk_at "cc"))))
theorem andN(a b:Nat):Builtin.bitAnd (a:Int) (b:Int)=((a&&&b:Nat):Int):=by
 rw[PyProof.Rows.bitAnd_pp (GS _) (GS _),DV,DV]
theorem shlN(p:Nat):(1:Int)*2^((p:Nat):Int).toNat=((2^p:Nat):Int):=by
 rw[Int.one_mul,DV,Int.natCast_pow]
 rfl
theorem xa(m n:Nat):(m^^^n)+2*(m&&&n)=m+n:=by
 have h:=PyProof.Rows.nat_or_add_and m n
 have h2:(m|||n)=(m^^^n)+(m&&&n):=by
  have e:(m^^^n)+(m&&&n)=(m^^^n)|||(m&&&n):=by
   have q:=PyProof.Rows.nat_or_add_and (m^^^n) (m&&&n)
   have z:(m^^^n)&&&(m&&&n)=0:=by
    apply EE
    intro i
    simp only[FQ,E3,E5]
    cases m.testBit i<;>cases n.testBit i<;>rfl
   omega
  rw[e]
  apply EE
  intro i
  simp only[FQ,E3,Ft]
  cases m.testBit i<;>cases n.testBit i<;>rfl
 omega
theorem xorN(a b:Nat):Builtin.bitXor (a:Int) (b:Int)=((a^^^b:Nat):Int):=by
 rw[PyProof.Rows.bitXor_and,andN]
 have q:=xa a b
 omega
def bl(c:Nat):List Nat:=K2.bitsF 0 c
theorem yE(c:Nat):(bl c).Pairwise (· < ·):=K2.bitsF_sorted c c 0 (DF _)
theorem ij(c:Nat):(bl c).Nodup:=K2.nodup_of_lt (yE c)
theorem cM{c x:Nat}:x∈bl c↔c.testBit x=true:=by
 have e:K2.S (K2.bitsF 0 c)=c:=by
  have:=K2.bitsF_sum c c 0 (DF _)
  rw[this,Nat.pow_zero,Nat.mul_one]
 have b:=K2.S_bit (ij c) x
 unfold bl at b ⊢
 rw[e]at b
 rw[b,decide_eq_true_iff]
theorem lQ{c m x:Nat}(h:c<2^m)(hx:x∈bl c):x<m:=by
 have:=K2.bitsF_lt m c 0 h x hx
 omega
theorem rQ:bl 0 = []:=K2.bitsF_zero 0
def cut2(c f t:Nat):Nat:=c^^^2^f^^^2^t
theorem jv{c f t:Nat}(hf:f∈bl c)(ht:t∈bl c)(n:f≠t)(x:Nat):x∈bl (cut2 c f t)↔x∈bl c/\x≠f/\x≠t:=by
 rw[cM]at hf ht
 rw[cM,cM]
 unfold cut2
 rw[E3,E3,Em,Em]
 by_cases c1:x=f
 ·subst c1
  rw[hf]
  simp[Ne.symm n]
 ·by_cases c2:x=t
  ·subst c2
   rw[ht]
   simp[n]
  ·have c1':¬ f=x:=fun z=>c1 z.symm
   have c2':¬ t=x:=fun z=>c2 z.symm
   simp[c1,c2,c1',c2']
theorem yh{c f t:Nat}{rest:List Nat}(e:bl c=f::rest)(ht:t∈rest):(bl (cut2 c f t)).Perm (rest.erase t):=by
 have nd:=ij c
 rw[e]at nd
 obtain⟨n1,n2⟩:=Eo.mp nd
 have nf:f≠t:=fun z=>n1 (z▸ht)
 refine(FD (ij _) (n2.erase _)).mpr fun x=>?_
 rw[jv (by rw[e];exact DU ..) (by rw[e];exact DM _ ht) nf,e,n2.mem_erase_iff,DI]
 constructor
 ·rintro⟨h1 | h1,h2,h3⟩
  ·exact absurd h1 h2
  ·exact⟨h3,h1⟩
 ·rintro⟨h1,h2⟩
  exact⟨.inr h2,fun z=>n1 (z▸h2),h1⟩
theorem Dj{c f t m:Nat}(h:c<2^m)(hf:f<m)(ht:t<m):cut2 c f t<2^m :=
 FP (FP h (EO (by decide) hf)) (EO (by decide) ht)
def Opt(D:Nat->Nat->Int)(l:List Nat)(t:Int):Prop:=Cs D l t/\∀ c,Cs D l c->t<=c
theorem Opt.perm{D:Nat->Nat->Int}{l l':List Nat}{t:Int}(h:Opt D l t)(p:l.Perm l'):Opt D l' t:=⟨h.1.perm p,fun c z=>h.2 c (z.perm p.symm)⟩
theorem Opt.nil{D:Nat->Nat->Int}:Opt D [] 0:=by
 refine⟨⟨[],.refl _,rfl⟩,fun c h=>?_⟩
 obtain⟨PL,p,e⟩:=h
 cases PL with
 |nil=>rw[← e];exact EL _
 |cons q r=>have:=p.length_eq;cases this
theorem Opt.step{D:Nat->Nat->Int}(sy:∀ a b,D a b=D b a){f t0:Nat}{rest:List Nat}{tr0:Int}(h0:t0∈rest)(o0:Opt D (rest.erase t0) tr0)(hm:∀ t∈rest,∃ tr,Opt D (rest.erase t) tr/\D f t0+tr0<=D f t+tr):Opt D (f::rest) (D f t0+tr0):=by
 refine⟨(o0.1.add f t0).perm ((F5 h0).symm.cons f),fun c hc=>?_⟩
 obtain⟨e,R,c0,p,hR,ec⟩:=hc.part sy (DU ..)
 have p1:rest.Perm (e::R):=p.cons_inv
 have er:e∈rest:=p1.mem_iff.mpr (DU ..)
 have p2:R.Perm (rest.erase e):=by
  have:=(p1.erase e).symm
  rw[Fg]at this
  exact this
 obtain⟨tr,o1,h2⟩:=hm e er
 have h1:=o1.2 c0 (hR.perm p2)
 omega
def BtAt(H:Hp)(v:V)(D:Nat->Nat->Int)(m:Nat):Prop:=∃ a ys,v=.ref a/\H a=some (.lst ys)/\∀ i,i<m->∃ p xs,ys[i]?=some (.ref p)/\H p=some (.lst xs)/\∀ k,k<m->xs[k]?=some (.int (D i k))
def iL(H:Hp)(v:V)(t:Int):Prop:=∃ a y z,v=.ref a/\H a=some (.tup [.int t,y,z])
def Ent(H:Hp)(D:Nat->Nat->Int)(m:Nat)(kvs:List (Key×V))(c:Nat)(v:V):Prop:=c<2^m/\((c=0/\iL H v 0)∨∃(t:Int)(f g:Nat)(a:Addr)(vr:V)(tr:Int),v=.ref a/\H a=some (.tup [.int t,.int (f:Int),.int (g:Int)])/\f∈bl c/\g∈bl c/\f≠g/\valV kvs (.inl ((cut2 c f g:Nat):Int))=some vr/\iL H vr tr/\t=D f g+tr/\Opt D (bl c) t)
structure TI(H:Hp)(D:Nat->Nat->Int)(m:Nat)(kvs:List (Key×V)):Prop where
 en:∀ k v,valV kvs k=some v->∃ c:Nat,k=.inl (c:Int)/\Ent H D m kvs c v
 z:∃ v,valV kvs (.inl ((0:Nat):Int))=some v
 nd:(kvs.map (·.1)).Nodup
def Grw(kvs kvs':List (Key×V))(n:Nat):Prop:=(∀ k v,valV kvs k=some v->valV kvs' k=some v)/\∀ c:Nat,valV kvs (.inl (c:Int))=none->valV kvs' (.inl (c:Int))≠none->(bl c).length<=n
def Tps(H H':Hp):Prop:=∀ a xs,H a=some (.tup xs)->H' a=some (.tup xs)
theorem iL.mono{H H':Hp}{v:V}{t:Int}(h:iL H v t)(s:Tps H H'):iL H' v t:=by
 obtain⟨a,y,z,e,q⟩:=h
 exact⟨a,y,z,e,s _ _ q⟩
theorem Ent.cost{H:Hp}{D:Nat->Nat->Int}{m c:Nat}{kvs:List (Key×V)}{v:V}(h:Ent H D m kvs c v):∃ t,iL H v t/\Opt D (bl c) t:=by
 obtain⟨_,⟨rfl,h⟩ | ⟨t,f,g,a,vr,tr,e1,e2,_,_,_,_,_,_,e9⟩⟩:=h
 ·exact⟨0,h,by rw[rQ];exact Opt.nil⟩
 ·exact⟨t,⟨a,_,_,e1,e2⟩,e9⟩
theorem Ent.mono{H H':Hp}{D:Nat->Nat->Int}{m c:Nat}{kvs kvs':List (Key×V)}{v:V}(h:Ent H D m kvs c v)(s:Tps H H')(g:∀ k v,valV kvs k=some v->valV kvs' k=some v):Ent H' D m kvs' c v:=by
 obtain⟨h0,⟨e,h⟩ | ⟨t,f,g',a,vr,tr,e1,e2,e3,e4,e5,e6,e7,e8,e9⟩⟩:=h
 ·exact⟨h0,.inl ⟨e,h.mono s⟩⟩
 ·exact⟨h0,.inr ⟨t,f,g',a,vr,tr,e1,s _ _ e2,e3,e4,e5,g _ _ e6,e7.mono s,e8,e9⟩⟩
theorem TI.mono{H H':Hp}{D:Nat->Nat->Int}{m:Nat}{kvs:List (Key×V)}(h:TI H D m kvs)(s:Tps H H'):TI H' D m kvs:=⟨fun k v e=>by
 obtain⟨c',e1,e2⟩:=h.en k v e
 exact⟨c',e1,e2.mono s fun _ _ z=>z⟩,h.z,h.nd⟩
theorem TrA.mono{H H':Hp}{v:V}{t:T3}(h:TrA H v t)(s:Tps H H'):TrA H' v t:=by
 obtain⟨a,e,q⟩:=h
 exact⟨a,e,s _ _ q⟩
theorem TbS.tps{H H':Hp}{tb:Addr}{kvs:List (Key×V)}(s:TbS tb H H')(ht:H tb=some (.dK kvs)):Tps H H':=fun a xs q=>s _ _ (fun w=>by rw[w,ht]at q;cases q) q
theorem BtAt.mono{H H':Hp}{D:Nat->Nat->Int}{m:Nat}{v:V}{tb:Addr}{kvs:List (Key×V)}(h:BtAt H v D m)(ht:H tb=some (.dK kvs))(s:TbS tb H H'):BtAt H' v D m:=by
 obtain⟨a,ys,e,q,r⟩:=h
 refine⟨a,ys,e,s _ _ (fun w=>by rw[w,ht]at q;cases q) q,fun i hi=>?_⟩
 obtain⟨p,xs,r1,r2,r3⟩:=r i hi
 exact⟨p,xs,r1,s _ _ (fun w=>by rw[w,ht]at r2;cases r2) r2,r3⟩
theorem pe{α β:Type}{f:α->β}:∀{l:List α},l.Nodup->(∀ a∈l,∀ b∈l,f a=f b->a=b)->(l.map f).Nodup
 |[],_,_=>Fu
 |x::l,nd,h=>by
  obtain⟨n1,n2⟩:=Eo.mp nd
  rw[D6]
  refine Eo.mpr ⟨fun z=>?_,pe n2 fun a ha b hb=>h a (DM _ ha) b (DM _ hb)⟩
  obtain⟨y,hy,e⟩:=ED.mp z
  exact n1 (h x (DU ..) y (DM _ hy) e.symm▸hy)
theorem TI.len{H:Hp}{D:Nat->Nat->Int}{m:Nat}{kvs:List (Key×V)}(h:TI H D m kvs)(hm:m<=14):kvs.length<sizeLine:=by
 have key:∀ k∈kvs.map (·.1),∃ c:Nat,k=Sum.inl (c:Int)/\c<2^m:=fun k hk=>by
  cases hv:valV kvs k with
  |none=>exact absurd hk (r8 hv)
  |some v =>
   obtain⟨c,e,q⟩:=h.en k v hv
   exact⟨c,e,q.1⟩
 have l1:((kvs.map (·.1)).map fun k:Key=>match k with | .inl i=>i.toNat | .inr _=>0).Nodup:=by
  refine pe h.nd fun a ha b hb e=>?_
  obtain⟨c1,rfl,_⟩:=key a ha
  obtain⟨c2,rfl,_⟩:=key b hb
  have e':c1=c2:=by simpa using e
  rw[e']
 have l2:=fG (2^m) _ l1 fun x hx=>by
  obtain⟨k,hk,rfl⟩:=ED.mp hx
  obtain⟨c,rfl,hc⟩:=key k hk
  simpa using hc
 rw[DG,DG]at l2
 have:2^m<=2^14:=E4 (by decide) hm
 have e14:(2:Nat)^14=16384:=by decide
 have:=PySem.sizeLine_eq
 omega
def restR(tb:Addr)(bv:V)(c m:Nat)(D:Nat->Nat->Int)(kvs:List (Key×V))(H0:Hp)(Q:VK):TS:=fun D0 σ H=>∃(v4 v5 v6 v7 v8:Option V)(kvs':List (Key×V))(v:V),σ = [some bv,some (.int (c:Int)),some (.ref tb),v4,v5,v6,v7,v8]/\TbS tb H0 H/\H tb=some (.dK kvs')/\TI H D m kvs'/\Grw kvs kvs' (bl c).length/\valV kvs' (.inl (c:Int))=some v/\∀ x H',Q x H'->D0.rt x H'
def LpI(bv:V)(tb r wa:Addr)(c f m:Nat)(D:Nat->Nat->Int)(kvs:List (Key×V))(rest:List Nat)(Hb:Hp)(i:Nat)(σ:St)(H:Hp):Prop:=∃(v7 v8:Option V)(kvs2:List (Key×V))(ws:List T3)(ys:List V),σ = [some bv,some (.int (c:Int)),some (.ref tb),some (.ref r),some (.int (f:Int)),some (.ref wa),v7,v8]/\(∀ b o,b≠tb->b≠wa->Hb b=some o->H b=some o)/\H tb=some (.dK kvs2)/\TI H D m kvs2/\Grw kvs kvs2 (rest.length-1)/\H wa=some (.lst ys)/\LsAt TrA H ys ws/\ws.length=i /\
 ∀(idx t:Nat),(rest.take i)[idx]?=some t->∃(tr:Int)(vr:V),ws[idx]?=some (D f t+tr,(f:Int),(t:Int))/\Opt D (rest.erase t) tr/\valV kvs2 (.inl ((cut2 c f t:Nat):Int))=some vr/\iL H vr tr
def lY(D:Nat->Nat->Int)(m j:Nat):Sp:=fun vs H Q _=>∃(bv:V)(tb:Addr)(c:Nat)(kvs:List (Key×V)),vs = [bv,.int (c:Int),.ref tb]/\BtAt H bv D m/\H tb=some (.dK kvs)/\TI H D m kvs/\c<2^m/\m<=14/\(bl c).length<2*j/\(bl c).length%2=0 /\
 ∀ v t kvs' H',TbS tb H H'->H' tb=some (.dK kvs')->TI H' D m kvs'->Grw kvs kvs' (bl c).length->valV kvs' (.inl (c:Int))=some v->iL H' v t->Opt D (bl c) t->Q v H'
section
variable{P:Program}{w:World}{K:DE}{mg:Str->Option Value}{base:Heap}
theorem aU:aJ ["between","chosen","table","numbers","first","ways","mate","rest"] ["between","chosen","table"] (ak aR):=⟨rfl,rfl,rfl,by decide +kernel,rfl,by decide +kernel,by decide +kernel⟩
theorem zK{f f1:Addr}{fd fd1:FuncData}{D:Nat->Nat->Int}{m j:Nat}(sy:∀ a b,D a b=D b a) (F:Fun K "laid_in_pairs" "laid_in_pairs" aR f fd) (T:Txt mg) (G_bits:Cal P w K mg base 1 "bits" ["mask"] gM f1 fd1) (G_laid_in_pairs:Cal P w K mg base (j+2) "laid_in_pairs" ["between","chosen","table"] (lY D m j) f fd):FnOk P w K mg base CX0 (j+3) f fd ["between","chosen","table"] (lY D m (j+1)):=by
 refine F.ok aU (fun vs H Q E h=>?_) (fun cdv A outer s H vs Q E hr h=>?_)
 ·obtain⟨bv,tb,c,kvs,rfl,_⟩:=h
  rfl
 obtain⟨bv,tb,c,kvs,rfl,hB,hT,ti,hc,m14,len,ev,kk⟩:=h
 have hu:=uU hr
 have hu64:=hr.units
 refine⟨_,(af (di (pt_cmp (wH hu (pv 1) (pv 2))) (af (ar (i:=3) aU.nd rfl (Or.inl rfl) (ay G_bits.ok (hr.mono (by omega)) rfl G_bits.mg G_bits.kp G_bits.bn .nil aX (ae (pv 1) ai)))
   (af (ar (i:=4) aU.nd rfl (Or.inl rfl) (aM aL (pv 3) ah (fun _ _=>rfl)))
   (af (ar (i:=5) aU.nd rfl (Or.inl rfl) (fN ai))
   (af (dM PassesOwn.never rfl (bu (jd mT (pv 3) (m5 ah) m6)) (aC (i:=6) aU.nd rfl (Or.inl rfl)) (af (ar (i:=7) aU.nd rfl (Or.inl rfl) (au iP (au iP (pv 1) (au bW ah (pv 4))) (au bW ah (pv 6))))
   (aq (bM (iY Es EW EV cW (pv 5) (ae (iM (ae (au cH (aM aL (aM aL (pv 0) (pv 4) (fun _ _=>rfl)) (pv 6) (fun _ _=>rfl)) (aM cI (ay G_laid_in_pairs.ok (hr.mono (by omega)) rfl G_laid_in_pairs.mg G_laid_in_pairs.kp G_laid_in_pairs.bn .nil aX (ae (pv 0) (ae (pv 7) (ae (pv 2) ai)))) ah (fun _ _=>rfl))) (ae (pv 4) (ae (pv 6) ai)))) ai))))))
   (aq (qB hu (pv 2) (pv 1) (aP (yx rfl hu64) (by rfl) T.n_min tP (ae (pv 5) ai)) rfl)))))) bf)
   (dh (t2:=restR tb bv c m D kvs H Q) (aq (aV (qF hu (pv 2) (pv 1) (fun _ _=>rfl)))) (fun D0 S0 H0 h0=>?restr))),?_⟩
 case restr =>
  obtain⟨v4,v5,v6,v7,v8,kvs',v,rfl,sT,hT',ti',gr,hv,kq⟩:=h0
  obtain⟨c',e,en⟩:=ti'.en _ v hv
  have ec:c'=c:=by
   have:((c:Nat):Int)=(c':Int):=by injection e
   omega
  subst ec
  obtain⟨t,h1,h2⟩:=en.cost
  refine⟨_,rfl,_,rfl,tb,v,rfl,by have:=DGet.k (k:=.inl ((c':Nat):Int)) hT';rw[hv]at this;exact this,?_⟩
  exact kq _ _ (kk v t kvs' H0 sT hT' ti' gr hv h1 h2)
 refine⟨_,rfl,_,rfl,tb,_,rfl,DGet.k (k:=.inl ((c:Nat):Int)) hT,_,rfl,?_⟩
 cases hv:valV kvs (.inl ((c:Nat):Int)) with
 |some v =>
  exact iteF ⟨_,_,_,_,_,kvs,v,rfl,(fun _ _ _ e=>e),hT,ti,⟨fun _ _ z=>z,fun c' z1 z2=>absurd z1 z2⟩,hv,fun _ _ z=>z⟩
 |none =>
  refine iteT ?_
  have c0:c≠0:=fun z=>by
   subst z
   obtain⟨v0,hv0⟩:=ti.z
   rw[hv]at hv0;cases hv0
  obtain⟨f,rest,ebl⟩:∃ f rest,bl c=f::rest:=by
   cases q:bl c with
   |cons f rest=>exact⟨f,rest,rfl⟩
   |nil =>
    refine absurd (EE fun i=>?_) c0
    rw[E5]
    cases z:c.testBit i with
    |false=>rfl
    |true =>
     have:=cM.mpr z
     rw[q]at this;cases this
  have nd:=ij c
  rw[ebl]at nd
  obtain⟨nf,ndr⟩:=Eo.mp nd
  have rlen:(bl c).length=rest.length+1:=by rw[ebl,DZ]
  have flt:f<m:=lQ hc (by rw[ebl];exact DU ..)
  have tlt:∀ t∈rest,t<m:=fun t ht=>lQ hc (by rw[ebl];exact DM _ ht)
  have rm:rest.length+1<=m:=by
   rw[← rlen]
   exact fG m _ (ij c) fun x hx=>lQ hc hx
  have c14:c<16384:=by
   have:2^m<=2^14:=E4 (by decide) m14
   have e14:(2:Nat)^14=16384:=by decide
   omega
  refine⟨_,rfl,(c:Int),rfl,by omega,by omega,fun r H1 s1 hr0 hr1=>?_⟩
  have enb:(K2.bitsF 0 ((c:Nat):Int).toNat).map iV=iV f::rest.map iV:=by
   rw[DV]
   show(bl c).map iV=_
   rw[ebl,D6]
  rw[enb]at hr1
  refine⟨_,rfl,r,_,0,_,rfl,rfl,SqL.of hr1,(show atI (iV f::rest.map iV) ((0:Nat):Int)=some (iV f) from aH rfl),?_⟩
  refine⟨(by show 0<=sizeLine;decide),fun wa hwa=>?_⟩
  have s2:=ao hwa (.lst [])
  refine⟨_,rfl,_,rfl,r,_,rfl,SqL.of (s2 _ _ hr1),fun sl hsl=>?_⟩
  have ecut:cutV (iV f::rest.map iV) (some 1) none=rest.map iV:=by
   have e1:HT.sIx (iV f::rest.map iV).length 0 (some ((1:Nat):Int))=1:=by rw[HT.sIx_nat,DZ,DG];omega
   unfold cutV
   rw[show(some (1:Int))=some ((1:Nat):Int) from rfl,e1,HT.sIx_none,List.drop_succ_cons,FY,DZ]
   exact Er (by omega)
  rw[ecut]
  have s3:=ao hsl (.lst (rest.map iV))
  have s13:Same H (upd (upd H1 wa (.lst [])) sl (.lst (rest.map iV))):=s1.trans (s2.trans s3)
  have wsl:wa≠sl:=fun z=>by rw[← z,ag]at hsl;cases hsl
  have g1:(upd (upd H1 wa (.lst [])) sl (.lst (rest.map iV))) wa=some (.lst []):=by rw[aj wsl];exact ag
  have g2:=ag (H:=upd H1 wa (.lst [])) (a:=sl) (o:=.lst (rest.map iV))
  have wa0:H wa=none:=cK s1 hwa
  generalize (upd (upd H1 wa (.lst [])) sl (.lst (rest.map iV)))=Hb at s13 g1 g2
  have hTb:=s13 _ _ hT
  have wtb:wa≠tb:=fun z=>by rw[z,hT]at wa0;cases wa0
  have sltb:sl≠tb:=fun z=>by rw[z,hTb]at g2;cases g2
  have tsb:TbS tb H Hb:=fun b o _ e=>s13 _ _ e
  have tib:TI Hb D m kvs:=ti.mono fun a xs q=>s13 _ _ q
  have btb:BtAt Hb bv D m:=hB.mono hT tsb
  refine⟨sl,rfl,⟨_,SqL.of g2⟩,c9 (K:=K) (xs:=rest.map iV) (LpI bv tb r wa c f m D kvs rest Hb) ⟨_,_,kvs,[],[],rfl,fun _ _ _ _ e=>e,hTb,tib,⟨fun _ _ z=>z,fun c' z1 z2=>absurd z1 z2⟩,g1,LsAt.nil,rfl,fun idx t e=>by simp at e⟩ (fun i σ H2 _ ⟨_,_,_,_,_,_,z,_⟩=>SqL.of (z _ _ sltb (Ne.symm wsl) g2)) ?_ ?_⟩
  ·rintro i x σ H2 hx ⟨v7,v8,kvs2,ws,ys,rfl,k2,hT2,ti2,gr2,hwa2,hL,wl,done⟩
   rw[DK]at hx
   obtain⟨t,ht,rfl⟩:=Ec.mp hx
   have tm:=DH ht
   have tl:=tlt t tm
   have ftn:f≠t:=fun z=>nf (z▸tm)
   have cp:=yh ebl tm
   have cl:(bl (cut2 c f t)).length+1=rest.length:=by
    rw[cp.length_eq,Hm tm]
    have:=Gq tm
    omega
   refine⟨_,rfl,_,rfl,_,_,rfl,rfl,⟨by show(0:Int)<=(f:Int);omega,by show(f:Int)<=1000000;omega,by decide⟩,_,_,rfl,rfl,_,rfl,_,_,rfl,rfl,⟨by show(0:Int)<=(t:Int);omega,by show(t:Int)<=1000000;omega,by decide⟩,_,_,rfl,rfl,?_⟩
   have ec:Builtin.bitXor (Builtin.bitXor (c:Int) (1*2^((f:Nat):Int).toNat)) (1*2^((t:Nat):Int).toNat)=((cut2 c f t:Nat):Int):=by rw[shlN,shlN,xorN,xorN];rfl
   simp only[ec]
   have yl:=hL.1
   have upL:∀ b zs,H b=some (.lst zs)->H2 b=some (.lst zs):=fun b zs q=>k2 b _ (fun z=>by rw[z,hT]at q;cases q) (fun z=>by rw[z,wa0]at q;cases q) (s13 _ _ q)
   obtain⟨ba,zs,rfl,hba,rr⟩:=id hB
   have bt2:BtAt H2 (.ref ba) D m:=⟨ba,zs,rfl,upL _ _ hba,fun i' hi'=>by
    obtain⟨p,xs,r1,r2,r3⟩:=rr i' hi'
    exact⟨p,xs,r1,upL _ _ r2,r3⟩⟩
   obtain⟨p,xs,r1,r2,r3⟩:=rr f flt
   refine⟨_,rfl,.inl ⟨rfl,_,SqL.of hwa2⟩,_,rfl,_,rfl,ba,_,_,_,rfl,rfl,SqL.of (upL _ _ hba),aH r1,_,rfl,p,_,_,_,rfl,rfl,SqL.of (upL _ _ r2),aH (r3 t tl),_,rfl,_,rfl,_,rfl,.ref ba,tb,cut2 c f t,kvs2,rfl,bt2,hT2,ti2,Dj hc flt tl,m14,by omega,by omega,fun v tr kvs3 H3 sT3 hT3 ti3 gr3 hv3 cv3 op3=>?_⟩
   obtain⟨va,y,z,rfl,hva⟩:=id cv3
   refine⟨va,_,0,_,rfl,rfl,SqT.of hva,a30,_,_,rfl,rfl,_,rfl,_,rfl,(by show 3<=sizeLine;decide),fun t3 ht3=>?_⟩
   have s4:=ao ht3 (.tup [.int (D f t+tr),.int (f:Int),.int (t:Int)])
   have hwa3:H3 wa=some (.lst ys):=sT3 _ _ wtb hwa2
   have itl:i<rest.length:=(DC.mp ht).1
   refine⟨wa,ys,_,rfl,rfl,s4 _ _ hwa3,av (by omega),?_⟩
   have tp23:Tps H2 H3:=TbS.tps sT3 hT2
   have tp35:Tps H3 (upd (upd H3 t3 (.tup [.int (D f t+tr),.int (f:Int),.int (t:Int)])) wa (.lst (ys++[.ref t3]))):=fun a xs q=>by
    rw[aj (fun z=>by rw[z,hwa3]at q;cases q)]
    exact s4 _ _ q
   have tp25:Tps H2 (upd (upd H3 t3 (.tup [.int (D f t+tr),.int (f:Int),.int (t:Int)])) wa (.lst (ys++[.ref t3]))):=fun a xs q=>tp35 _ _ (tp23 _ _ q)
   have wt3:t3≠wa:=fun z=>by rw[z,hwa3]at ht3;cases ht3
   refine⟨_,_,kvs3,ws++[(D f t+tr,(f:Int),(t:Int))],ys++[.ref t3],rfl,fun b o n1 n2 e=>?_,?_,ti3.mono tp35,⟨fun k v z=>gr3.1 _ _ (gr2.1 _ _ z),fun c' y1 y2=>?_⟩,ag,?_,by rw[DL,wl];rfl,fun idx t' e=>?_⟩
   ·rw[aj n2]
    exact s4 _ _ (sT3 _ _ n1 (k2 b o n1 n2 e))
   ·rw[aj (Ne.symm wtb)]
    exact s4 _ _ hT3
   ·cases q2:valV kvs2 (.inl (c':Int)) with
    |none=>have:=gr3.2 c' q2 y2;omega
    |some v'=>exact gr2.2 c' y1 (by rw[q2];simp)
   ·exact(hL.imp fun _ _ q=>TrA.mono q tp25).snoc ⟨t3,rfl,by rw[aj wt3];exact ag⟩
   ·have til:(rest.take i).length=i:=by rw[DY];omega
    rw[Ez,ht]at e
    by_cases ci:idx<i
    ·rw[Eh (by omega)]at e
     obtain⟨tr',vr,d1,d2,d3,d4⟩:=done idx t' e
     exact⟨tr',vr,by rw[Eh (by omega)];exact d1,d2,gr3.1 _ _ d3,d4.mono tp25⟩
    ·rw[D5 (by omega)]at e
     have h5:=(DC.mp e).1
     have h6:idx=i:=by
      have:(Option.toList (some t)).length=1:=rfl
      omega
     subst h6
     rw[til,E6]at e
     cases e
     exact⟨tr,.ref va,by rw[D5 (by omega),wl,E6];rfl,op3.perm cp,hv3,cv3.mono tp35⟩
  ·rintro σ H2 ⟨v7,v8,kvs2,ws,ys,rfl,k2,hT2,ti2,gr2,hwa2,hL,wl,done⟩
   rw[DG]at wl done
   rw[EG]at done
   have rp:1<=rest.length:=by omega
   have wne:ws≠[]:=fun z=>by rw[z]at wl;simp at wl;omega
   refine⟨_,rfl,wa,ys,ws,rfl,SqL.of hwa2,hL,wne,fun idx y t3 hy ht3 hmin=>?_⟩
   have il:idx<rest.length:=by rw[← wl];exact(DC.mp ht3).1
   obtain⟨t,et⟩:∃ t,rest[idx]?=some t:=⟨_,DB il⟩
   have tm:=DH et
   obtain⟨tr,vr,d1,d2,d3,d4⟩:=done idx t et
   rw[ht3]at d1
   cases d1
   obtain⟨w',ew',a,rfl,ha⟩:=hL.get hy
   rw[ht3]at ew'
   cases ew'
   have ftn:f≠t:=fun z=>nf (z▸tm)
   have fb:f∈bl c:=by rw[ebl];exact DU ..
   have tbm:t∈bl c:=by rw[ebl];exact DM _ tm
   have opt:Opt D (bl c) (D f t+tr):=by
    rw[ebl]
    refine Opt.step sy tm d2 fun t' ht'=>?_
    obtain⟨k,hk,ek⟩:=EN ht'
    obtain⟨tr',vr',d1',d2',_,_⟩:=done k t' (by rw[DB hk,ek])
    exact⟨tr',d2',hmin _ (DH d1')⟩
   have cabs:valV kvs2 (.inl ((c:Nat):Int))=none:=by
    cases q2:valV kvs2 (.inl ((c:Nat):Int)) with
    |none=>rfl
    |some v'=>have:=gr2.2 c hv (by rw[q2];simp);omega
   have cne:((cut2 c f t:Nat):Int)≠(c:Int):=fun z=>by
    have z':cut2 c f t=c:=by omega
    have:=(jv fb tbm ftn f).mp (by rw[z'];exact fb)
    exact this.2.1 rfl
   have vput:∀ k v,valV kvs2 k=some v->valV (putK kvs2 (.inl ((c:Nat):Int)) (.ref a)) k=some v:=fun k v e=>by
    rw[gL,if_neg (fun z=>by rw[z,cabs]at e;cases e)]
    exact e
   refine⟨_,rfl,_,rfl,tb,_,rfl,DPut.k (k:=.inl ((c:Nat):Int)) (v:=.ref a) hT2 (ti2.len m14),?_⟩
   have tp:Tps H2 (upd H2 tb (.dK (putK kvs2 (.inl ((c:Nat):Int)) (.ref a)))):=fun b xs q=>by
    rw[aj (fun z=>by rw[z,hT2]at q;cases q)]
    exact q
   refine⟨_,_,_,_,_,putK kvs2 (.inl ((c:Nat):Int)) (.ref a),.ref a,rfl,fun b o n1 e=>?_,ag,⟨fun k v e=>?_,?_,CD _ ti2.nd cabs⟩,⟨fun k v e=>vput _ _ (gr2.1 _ _ e),fun c' y1 y2=>?_⟩,by rw[gL,if_pos rfl],fun _ _ z=>z⟩
   ·rw[aj n1]
    exact k2 b o n1 (fun z=>by rw[z,wa0]at e;cases e) (s13 _ _ e)
   ·rw[gL]at e
    by_cases ck:k=.inl ((c:Nat):Int)
    ·rw[if_pos ck]at e
     cases e
     exact⟨c,ck,hc,.inr ⟨D f t+tr,f,t,a,vr,tr,rfl,tp _ _ ha,fb,tbm,ftn,vput _ _ d3,d4.mono tp,rfl,opt⟩⟩
    ·rw[if_neg ck]at e
     obtain⟨c',e1,e2⟩:=ti2.en k v e
     exact⟨c',e1,e2.mono tp vput⟩
   ·obtain⟨v0,hv0⟩:=ti2.z
    exact⟨v0,vput _ _ hv0⟩
   ·by_cases cc:c'=c
    ·rw[cc];exact DF _
    ·rw[gL,if_neg (fun z=>cc (by have:(c':Int)=(c:Int):=by injection z
                                 omega))]at y2
     have:=gr2.2 c' y1 y2
     omega
theorem wL{f f1:Addr}{fd fd1:FuncData}{D:Nat->Nat->Int}{m:Nat}(sy:∀ a b,D a b=D b a) (F:Fun K "laid_in_pairs" "laid_in_pairs" aR f fd) (T:Txt mg) (G_bits:Cal P w K mg base 1 "bits" ["mask"] gM f1 fd1) (bn:i9 K fd ["between","chosen","table"] []) (hm:mg "laid_in_pairs" = some (.ref f)) (kp:D4 K (.ref f)=true):∀ j,FnOk P w K mg base CX0 (j+2) f fd ["between","chosen","table"] (lY D m j)
 |0=>⟨fun vs H Q E h=>by
   obtain⟨bv,tb,c,kvs,_,_,_,_,_,_,z,_⟩:=h
   omega,fun A outer s H args us vs Q E _ _ _ _ h=>by
   obtain⟨bv,tb,c,kvs,_,_,_,_,_,_,z,_⟩:=h
   omega⟩
 |j+1=>zK sy F T G_bits ⟨wL sy F T G_bits bn hm kp j,bn,hm,kp⟩
end
end KF
namespace KF
open PySem L2
local macro_rules | `(tactic| walk_at "cc") => `(tactic| first | exact ⟨by decide, by decide⟩ | (show (0 : Int) < _; decide) | (show (0 : Int) < _; omega) | (show (0 : Int) ≤ _; omega) | exact ⟨by decide, by decide, by decide⟩ | exact ⟨by omega, by omega, by decide⟩ | exact Or.inl ⟨by decide, by decide⟩ | exact Or.inl ⟨by omega, by omega⟩)
local macro_rules | `(tactic| walk_at "rd") => `(tactic| repeat (first | refine ⟨_, rfl, ?_⟩ | refine ⟨_, _, rfl, rfl, ?_⟩ | refine ⟨rfl, ?_⟩ | (refine ⟨?cc, ?_⟩; (case cc => walk_at "cc"))))
theorem zT{VL:List (Option Nat)}{r:Nat}{o:Option Nat}(h:VL[r]?=some o):(VL.map oN)[r]?=some (oN o):=by rw[DK,h];rfl
theorem FI.even{n:Nat}{ls:List Lk}{s M:Nat}{T:List (Option Int)}{vv:List (Option Nat)}(I:FI n ls s M T vv [] (fun _ _=>False)){r k:Nat}(h:vv[r]?=some (some k)):∃(l:Lk)(x y:Int),ls[k]?=some l/\g7 l r/\T[r]?=some (some x)/\T[bey l r]?=some (some y)/\y+l.2.2=x:=by
 obtain⟨l,x,y,e1,e2,e3,e4,e5⟩:=I.pr r k h
 rcases I.rl (bey l r) y k l e4 (by simp) e1 (n9 e2)with h' | ⟨x',h',hx⟩
 ·exact h'.elim
 ·rw[kT e2,e3]at h';cases h'
  exact⟨l,x,y,e1,e2,e3,e4,by omega⟩
inductive Pth(ls:List Lk)(vv:List (Option Nat))(s:Nat):Nat->List Nat->Prop where
 |root:Pth ls vv s s []
 |step {r k:Nat} {l:Lk} {ks:List Nat} (hv:vv[r]?=some (some k)) (hl:ls[k]?=some l) (h:Pth ls vv s (bey l r) ks):Pth ls vv s r (k::ks)
theorem Up.path{ls:List Lk}{vv:List (Option Nat)}{s j r:Nat}(h:Up ls vv s j r):∃ ks,Pth ls vv s r ks/\ks.length=j:=by
 induction h with
 |root=>exact⟨[],.root,rfl⟩
 |step hv hl _ ih =>
  obtain⟨ks,p,e⟩:=ih
  exact⟨_::ks,.step hv hl p,by rw[DZ,e]⟩
theorem Pth.up{ls:List Lk}{vv:List (Option Nat)}{s r:Nat}{ks:List Nat}(h:Pth ls vv s r ks):Up ls vv s ks.length r:=by
 induction h with
 |root=>exact .root
 |step hv hl _ ih=>exact .step hv hl ih
def lkA(ls:List Lk)(k:Nat):Lk:=ls.getD k (0,0,0)
theorem xq{ls:List Lk}{k:Nat}{l:Lk}(h:ls[k]?=some l):lkA ls k=l:=by unfold lkA;rw[DD,h];rfl
def endX(l:Lk):Nat:=2^l.1^^^2^l.2.1
def oddE(ls:List Lk)(u:Nat):Nat->Nat
 |0=>0
 |i+1=>if u.testBit i=true then oddE ls u i^^^endX (lkA ls i) else oddE ls u i
def cstU(ls:List Lk)(u:Nat):Nat->Int
 |0=>0
 |i+1=>if u.testBit i=true then cstU ls u i+(lkA ls i).2.2 else cstU ls u i
theorem mK(x a:Nat):(bl (x^^^2^a)).Perm (tog (bl x) a):=by
 refine(FD (ij _) (tog_nd (ij x) a)).mpr fun y=>?_
 rw[CG (ij x),cM,E3,Em,cM,cM]
 by_cases c:y=a
 ·subst c
  cases x.testBit y<;>simp
 ·have c':¬ a=y:=fun z=>c z.symm
  cases x.testBit y<;>simp[c,c']
theorem nh(ls:List Lk)(u v:Nat):∀ i,oddE ls (u^^^v) i=oddE ls u i^^^oddE ls v i
 |0=>(F0 0).symm
 |i+1=>by
  unfold oddE
  rw[nh ls u v i,E3]
  have x4:∀ a b e:Nat,(a^^^e)^^^(b^^^e)=a^^^b:=fun a b e=>by rw[Ge b e,← ET,ET a e e,F0,G0]
  cases u.testBit i<;>cases v.testBit i<;>simp
  ·rw[ET]
  ·rw[ET,ET,Ge (oddE ls v i)]
  ·exact(x4 _ _ _).symm
theorem nQ(ls:List Lk)(hw:∀ l∈ls,0<=l.2.2)(u v:Nat):∀ i,i<=ls.length->cstU ls (u^^^v) i<=cstU ls u i+cstU ls v i
 |0,_=>EL _
 |i+1,h=>by
  have ih:=nQ ls hw u v i (by omega)
  obtain⟨l,e⟩:∃ l,ls[i]?=some l:=⟨_,DB (by omega)⟩
  have w0:=hw l (DH e)
  unfold cstU
  rw[E3,xq e]
  cases u.testBit i<;>cases v.testBit i<;>simp<;>omega
inductive Wk(ls:List Lk):Nat->Nat->Int->Prop where
 |nil (a:Nat):Wk ls a a 0
 |step {a b i:Nat} {x:Int} {l:Lk} (h:Wk ls a b x) (hl:ls[i]?=some l) (he:g7 l b):Wk ls a (bey l b) (x+l.2.2)
theorem Wk.trans{ls:List Lk}{a b c:Nat}{x y:Int}(h:Wk ls a b x)(g:Wk ls b c y):Wk ls a c (x+y):=by
 induction g with
 |nil=>rw[Int.add_zero];exact h
 |step _ hl he ih =>
  rw[← Int.add_assoc]
  exact .step ih hl he
theorem Wk.link{ls:List Lk}{a i:Nat}{l:Lk}(hl:ls[i]?=some l)(he:g7 l a):Wk ls a (bey l a) l.2.2:=by
 have:=Wk.step (.nil a) hl he
 rw[FO]at this
 exact this
theorem Wk.rev{ls:List Lk}{a b:Nat}{x:Int}(h:Wk ls a b x):Wk ls b a x:=by
 induction h with
 |nil=>exact .nil _
 | @step b i x l h hl he ih =>
  have g:=Wk.link hl (n9 he)
  rw[kT he]at g
  rw[Int.add_comm]
  exact g.trans ih
theorem Wk.nn{ls:List Lk}(hw:∀ l∈ls,0<=l.2.2){a b:Nat}{x:Int}(h:Wk ls a b x):0<=x:=by
 induction h with
 |nil=>exact EL _
 |step _ hl _ ih=>have:=hw _ (DH hl);omega
theorem Wk.rel{n:Nat}{ls:List Lk}{s M:Nat}{T:List (Option Int)}{vv:List (Option Nat)}(I:FI n ls s M T vv [] (fun _ _=>False)){a b:Nat}{x:Int}(h:Wk ls a b x):∀ y,T[a]?=some (some y)->∃ z,T[b]?=some (some z)/\z<=y+x:=by
 induction h with
 |nil=>intro y hy;exact⟨y,hy,by omega⟩
 | @step b i x l h hl he ih =>
  intro y hy
  obtain⟨z,h1,h2⟩:=ih y hy
  rcases I.rl b z i l h1 (by simp) hl he with q | ⟨z',h3,h4⟩
  ·exact q.elim
  ·exact⟨z',h3,by omega⟩
theorem Up.wk{n:Nat}{ls:List Lk}{s M:Nat}{T:List (Option Int)}{vv:List (Option Nat)}(I:FI n ls s M T vv [] (fun _ _=>False)){j r:Nat}(h:Up ls vv s j r):∀ x,T[r]?=some (some x)->Wk ls s r x:=by
 induction h with
 |root=>intro x hx;rw[I.st]at hx;cases hx;exact .nil _
 | @step j r k l hv hl h ih =>
  intro x hx
  obtain⟨l',x',y,e1,e2,e3,e4,e5⟩:=I.even hv
  rw[hl]at e1;cases e1
  rw[hx]at e3;cases e3
  have g:=Wk.step (ih y e4) hl (n9 e2)
  rw[kT e2,e5]at g
  exact g
theorem xr{P:Nat->Prop}(h:∃ n,P n):∃ n,P n/\∀ m,P m->n<=m:=by
 obtain⟨n,hn⟩:=h
 induction n using Nat.strongRecOn with
 |ind n ih =>
  by_cases c:∃ m,m<n/\P m
  ·obtain⟨m,h1,h2⟩:=c
   exact ih m h1 h2
  ·exact⟨n,hn,fun m hm=>Gn fun z=>c ⟨m,z,hm⟩⟩
open Classical in
noncomputable def farD (ls:List Lk) (a b:Nat):Int:=if h:∃ x:Nat,Wk ls a b (x:Int) then((Classical.choose (xr h):Nat):Int) else 0
theorem g9{ls:List Lk}(hw:∀ l∈ls,0<=l.2.2){a b:Nat}{x:Int}(h:Wk ls a b x):Wk ls a b (farD ls a b)/\∀ y,Wk ls a b y->farD ls a b<=y:=by
 have x0:=h.nn hw
 have ex:∃ x:Nat,Wk ls a b (x:Int):=⟨x.toNat,by rw[Int.toNat_of_nonneg x0];exact h⟩
 have e:farD ls a b=((Classical.choose (xr ex):Nat):Int):=by unfold farD;rw[dif_pos ex]
 obtain⟨c1,c2⟩:=GA (xr ex)
 rw[e]
 refine⟨c1,fun y hy=>?_⟩
 have y0:=hy.nn hw
 have:=c2 y.toNat (by rw[Int.toNat_of_nonneg y0];exact hy)
 omega
theorem xR(ls:List Lk)(a b:Nat):farD ls a b=farD ls b a:=by
 have e:∀ x:Nat,Wk ls a b (x:Int)=Wk ls b a (x:Int):=fun x=>propext ⟨Wk.rev,Wk.rev⟩
 have e2:(fun x:Nat=>Wk ls a b (x:Int))=fun x:Nat=>Wk ls b a (x:Int):=funext e
 unfold farD
 by_cases h:∃ x:Nat,Wk ls a b (x:Int)
 ·have h':∃ x:Nat,Wk ls b a (x:Int):=h.imp fun x z=>z.rev
  rw[dif_pos h,dif_pos h']
  have c1:=GA (xr h)
  have c2:=GA (xr h')
  have l1:=c1.2 _ c2.1.rev
  have l2:=c2.2 _ c1.1.rev
  omega
 ·have h':¬ ∃ x:Nat,Wk ls b a (x:Int):=fun z=>h (z.imp fun x y=>y.rev)
  rw[dif_neg h,dif_neg h']
def Conn(n:Nat)(ls:List Lk):Prop:=∀ b,b<n->∃ x,Wk ls 0 b x
theorem Conn.two{n:Nat}{ls:List Lk}(h:Conn n ls){a b:Nat}(ha:a<n)(hb:b<n):∃ x,Wk ls a b x:=by
 obtain⟨x,hx⟩:=h a ha
 obtain⟨y,hy⟩:=h b hb
 exact⟨_,hx.rev.trans hy⟩
theorem C0{n:Nat}{ls:List Lk}(hw:∀ l∈ls,0<=l.2.2)(hc:Conn n ls):Met n (farD ls) where
 sy:=xR ls
 nn:=fun a b=>by
  unfold farD
  split
  ·omega
  ·exact EL _
 tr:=fun a b c ha hb hc'=>by
  obtain⟨x,hx⟩:=hc.two ha hb
  obtain⟨y,hy⟩:=hc.two hb hc'
  exact(g9 hw (hx.trans hy)).2 _ ((g9 hw hx).1.trans (g9 hw hy).1)
theorem FI.is{n:Nat}{ls:List Lk}{s M:Nat}{T:List (Option Int)}{vv:List (Option Nat)}(I:FI n ls s M T vv [] (fun _ _=>False))(hc:Conn n ls)(hs:s<n){r:Nat}(hr:r<n):T[r]?=some (some (farD ls s r)):=by
 have hw:∀ l∈ls,0<=l.2.2:=fun l hl=>(I.w0 l hl).1
 obtain⟨x,hx⟩:=hc.two hs hr
 obtain⟨z,h1,h2⟩:=hx.rel I 0 I.st
 obtain⟨j,u⟩:=I.up r z h1
 have wz:=u.wk I z h1
 obtain⟨f1,f2⟩:=g9 hw hx
 obtain⟨z',h3,h4⟩:=f1.rel I 0 I.st
 rw[h1]at h3;cases h3
 have:=f2 z wz
 have e:z=farD ls s r:=by omega
 rw[← e]
 exact h1
def dZ(ks:List Nat):Nat:=ks.foldl (fun m k=>m|||2^k) 0
theorem fc(ks:List Nat)(i:Nat):(dZ ks).testBit i=decide (i∈ks):=by
 have gen:∀(ks:List Nat)(m:Nat),(ks.foldl (fun m k=>m|||2^k) m).testBit i=(m.testBit i||decide (i∈ks)):=by
  intro ks
  induction ks with
  |nil=>intro m;simp
  |cons k ks ih =>
   intro m
   rw[Gz,ih,Ft,Em]
   by_cases c:k=i
   ·subst c;simp
   ·have c':¬ i=k:=fun z=>c z.symm
    simp[c,c']
 unfold dZ
 rw[gen]
 simp
theorem sP(ls:List Lk)(k:Nat):∀ i,oddE ls (2^k) i=if k<i then endX (lkA ls k) else 0
 |0=>by rw[if_neg (Fh _)];rfl
 |i+1=>by
  unfold oddE
  rw[sP ls k i,Em]
  by_cases c:k=i
  ·subst c
   rw[if_pos (by simp),if_neg (Ey _),if_pos (EF _),Nat.zero_xor]
  ·rw[if_neg (by simpa using c)]
   by_cases d:k<i
   ·rw[if_pos d,if_pos (by omega)]
   ·rw[if_neg d,if_neg (by omega)]
theorem tL(ls:List Lk)(k:Nat):∀ i,cstU ls (2^k) i=if k<i then(lkA ls k).2.2 else 0
 |0=>by rw[if_neg (Fh _)];rfl
 |i+1=>by
  unfold cstU
  rw[tL ls k i,Em]
  by_cases c:k=i
  ·subst c
   rw[if_pos (by simp),if_neg (Ey _),if_pos (EF _),FO]
  ·rw[if_neg (by simpa using c)]
   by_cases d:k<i
   ·rw[if_pos d,if_pos (by omega)]
   ·rw[if_neg d,if_neg (by omega)]
theorem jP(ls:List Lk):∀ i,oddE ls 0 i=0
 |0=>rfl
 |i+1=>by unfold oddE;rw[E5,if_neg DW];exact jP ls i
theorem kF(ls:List Lk):∀ i,cstU ls 0 i=0
 |0=>rfl
 |i+1=>by unfold cstU;rw[E5,if_neg DW];exact kF ls i
theorem Pth.node{ls:List Lk}{vv:List (Option Nat)}{s r:Nat}{ks:List Nat}(h:Pth ls vv s r ks):∀ k∈ks,∃ q j,vv[q]?=some (some k)/\Up ls vv s j q/\j<=ks.length:=by
 induction h with
 |root=>intro k hk;cases hk
 | @step r k l ks hv hl h ih =>
  intro k' hk
  rcases DI.mp hk with rfl | hk
  ·exact⟨r,_,hv,.step hv hl h.up,DF _⟩
  ·obtain⟨q,j,h1,h2,h3⟩:=ih k' hk
   exact⟨q,j,h1,h2,by rw[DZ];omega⟩
theorem Pth.join{n:Nat}{ls:List Lk}{s M:Nat}{T:List (Option Int)}{vv:List (Option Nat)}(I:FI n ls s M T vv [] (fun _ _=>False)){r:Nat}{ks:List Nat}(h:Pth ls vv s r ks) :
  (∀ k∈ks,k<ls.length)/\oddE ls (dZ ks) ls.length=2^s^^^2^r/\∀ x,T[r]?=some (some x)->cstU ls (dZ ks) ls.length<=x:=by
 induction h with
 |root =>
  refine⟨(fun k hk=>nomatch hk),?_,fun x hx=>?_⟩
  ·show oddE ls 0 ls.length=_
   rw[jP,F0]
  ·rw[I.st]at hx;cases hx
   show cstU ls 0 ls.length<=0
   rw[kF];exact EL _
 | @step r k l ks hv hl h ih =>
  obtain⟨h0,h1,h2⟩:=ih
  obtain⟨l',x,y,e1,e2,e3,e4,e5⟩:=I.even hv
  rw[hl]at e1;cases e1
  have kl:k<ls.length:=(DC.mp hl).1
  have me:Up ls vv s (ks.length+1) r:=.step hv hl h.up
  have nk:k∉ks:=fun z=>by
   obtain⟨q,j,g1,g2,g3⟩:=h.node k z
   obtain⟨l2,_,_,f1,f2,_⟩:=I.pr q k g1
   rw[hl]at f1;cases f1
   have qr:q≠r:=fun w=>by
    subst w
    have:=Up.uniq I.vs me g2
    omega
   have eb:bey l q=r:=by
    unfold bey
    rcases f2 with z1 | z1<;>rcases e2 with z2 | z2
    ·exact absurd (z1.trans z2.symm) qr
    ·rw[if_pos z1];exact z2.symm
    ·rw[if_neg (fun w=>qr (w.trans z2.symm))];exact z2.symm
    ·exact absurd (z1.trans z2.symm) qr
   have:Up ls vv s (ks.length+1+1) q:=.step g1 hl (by rw[eb];exact me)
   have:=Up.uniq I.vs this g2
   omega
  have em:dZ (k::ks)=dZ ks^^^2^k:=EE fun i=>by
   rw[fc,E3,fc,Em]
   by_cases c:i=k
   ·subst c;simp[nk]
   ·have c':¬ k=i:=fun z=>c z.symm
    simp[c,c']
  rw[em]
  refine⟨fun k' hk=>?_,?_,fun x' hx'=>?_⟩
  ·rcases DI.mp hk with rfl | hk
   ·exact kl
   ·exact h0 k' hk
  ·rw[nh,h1,sP,if_pos kl,xq hl]
   have ee:endX l=2^bey l r^^^2^r:=by
    unfold endX bey
    rcases e2 with z | z
    ·rw[if_pos z,z,Ge]
    ·by_cases w:r=l.1
     ·rw[if_pos w,w,Ge]
     ·rw[if_neg w,z]
   rw[ee,← ET,ET (2^s),F0,G0]
  ·rw[hx']at e3;cases e3
   have g1:=nQ ls (fun l hl=>(I.w0 l hl).1) (dZ ks) (2^k) ls.length (DF _)
   have g2:=h2 y e4
   rw[tL,if_pos kl,xq hl]at g1
   omega
end KF
namespace KF
open PySem L2
local macro_rules | `(tactic| walk_at "cc") => `(tactic| first | exact ⟨by decide, by decide⟩ | (show (0 : Int) < _; decide) | (show (0 : Int) < _; omega) | (show (0 : Int) ≤ _; omega) | exact ⟨by decide, by decide, by decide⟩ | exact ⟨by omega, by omega, by decide⟩ | exact Or.inl ⟨by decide, by decide⟩ | exact Or.inl ⟨by omega, by omega⟩)
local macro_rules | `(tactic| walk_at "rd") => `(tactic| repeat (first | refine ⟨_, rfl, ?_⟩ | refine ⟨_, _, rfl, rfl, ?_⟩ | refine ⟨rfl, ?_⟩ | (refine ⟨?cc, ?_⟩; (case cc => walk_at "cc"))))
def pF(l:Lk):Nat:=2^l.1|||2^l.2.1
def one1(m:Nat)(l:Lk):Nat:=if m&&&pF l=0 then m else m|||pF l
def bN(ls:List Lk)(m:Nat):Nat:=ls.foldl one1 m
inductive Run(ls:List Lk):Nat->Nat->Nat->Prop where
 |stop {m:Nat}:Run ls m m m
 |go {m a r:Nat} (h:m≠a) (n:Run ls (bN ls m) m r):Run ls m a r
theorem wK(m:Nat)(l:Lk):m<=one1 m l:=by
 unfold one1
 split
 ·exact DF _
 ·exact Nat.left_le_or
theorem wJ{n m:Nat}{l:Lk}(h:m<2^n)(h1:l.1<n)(h2:l.2.1<n):one1 m l<2^n:=by
 unfold one1 pF
 split
 ·exact h
 ·exact Gh h (Gh (EO (by decide) h1) (EO (by decide) h2))
theorem oU{ls:List Lk}{i:Nat}{l:Lk}{m:Nat}(h:ls[i]?=some l):bN (ls.take (i+1)) m=one1 (bN (ls.take i) m) l:=by
 unfold bN
 rw[Ez,h,GY]
 rfl
theorem orN(a b:Nat):Builtin.bitOr (a:Int) (b:Int)=((a|||b:Nat):Int):=by
 rw[PyProof.Rows.bitOr_and,andN]
 have q:=PyProof.Rows.nat_or_add_and a b
 omega
theorem endsV(l:Lk):Builtin.bitOr (1*2^((l.1:Nat):Int).toNat) (1*2^((l.2.1:Nat):Int).toNat)=((pF l:Nat):Int):=by rw[shlN,shlN,orN];rfl
def PaAt(H:Hp)(v:V)(l:Lk):Prop:=∃ t,v=.ref t/\H t=some (.tup [.int (l.1:Int),.int (l.2.1:Int)])
theorem x5(a b:Int):decide (V.int a=V.int b)=decide (a=b):=decide_eq_decide.mpr ⟨V.int.inj,congrArg V.int⟩
def qu:Sp:=fun vs H Q _=>∃(a:Addr)(ys:List V)(n:Nat)(ls:List Lk),vs = [.int 0,.ref a]/\H a=some (.lst ys)/\LsAt PaAt H ys ls/\Lok n ls/\1<=n/\∀ r:Nat,Run ls 1 0 r->Q (.int (r:Int)) H
def BO:Sp:=fun vs H Q _=>∃(v:V)(n:Nat)(ls:List Lk),vs = [.int (n:Int),v]/\LnAt H v ls/\Lok n ls/\1<=n/\∀(r:Nat) H',Run ls 1 0 r->Same H H'->Q (.bl (decide ((r:Int)=1*2^((n:Nat):Int).toNat-1))) H'
structure TxtR(mg:Str->Option Value):Prop where
 n_list:mg "list" = none
 n_reversed:mg "reversed" = none
section
variable{P:Program}{w:World}{K:DE}{mg:Str->Option Value}{base:Heap}
theorem bO:aJ ["start","pairs","mask","ahead","one","two","ends"] ["start","pairs"] (ak dG):=⟨rfl,rfl,rfl,by decide +kernel,rfl,by decide +kernel,by decide +kernel⟩
theorem uv{f:Addr}{fd:FuncData} (F:Fun K "reached" "reached" dG f fd):FnOk P w K mg base CX0 1 f fd ["start","pairs"] qu:=by
 refine F.ok bO (fun vs H Q E h=>?_) (fun cdv A outer s H vs Q E hr h=>?_)
 ·obtain⟨a,ys,n,ls,rfl,_⟩:=h
  rfl
 obtain⟨a,ys,n,ls,rfl,hA,hL,ok,n1,kk⟩:=h
 have n40:=ok.n1
 refine⟨_,(af (ar (i:=2) bO.nd rfl (Or.inl rfl) (au bW ah (pv 0)))
   (af (ar (i:=3) bO.nd rfl (Or.inl rfl) ah)
   (af (gP PassesOwn.never (aF qG (pv 2) (pv 3) (aN _)) (af (ar (i:=3) bO.nd rfl (Or.inl rfl) (pv 2))
   (aq (dM PassesOwn.never rfl (bu (pv 1)) (sM rfl (aW (aC (i:=4) bO.nd rfl (Or.inl rfl)) (aW (aC (i:=5) bO.nd rfl (Or.inl rfl)) eZ))) (af (ar (i:=6) bO.nd rfl (Or.inl rfl) (au wI (au bW ah (pv 4)) (au bW ah (pv 5))))
   (aq (di (aF qG (au oX (pv 2) (pv 6)) ah (aN _)) (aq (ar (i:=2) bO.nd rfl (Or.inl rfl) (au wI (pv 2) (pv 6)))) bf)))))))
   (aq (aV (pv 2)))))),?_⟩
 refine⟨_,rfl,_,_,rfl,rfl,⟨by decide,by decide,by decide⟩,?_⟩
 refine gK (fun σ H2=>∃(M Ah:Nat),∃ v4 v5 v6,H2=H/\σ = [some (.int 0),some (.ref a),some (.int (M:Int)),some (.int (Ah:Int)),v4,v5,v6]/\M<2^n/\∀ r,Run ls M Ah r->Run ls 1 0 r)
  (fun σ _=>match σ with | [_,_,some (.int M),some (.int Ah),_,_,_]=>2*((2^n:Nat)-M).toNat+(if M=Ah then 0 else 1) | _=>0) ⟨1,0,_,_,_,rfl,rfl,Nat.one_lt_two_pow (by omega),fun r z=>z⟩ ?_ ?_
 ·rintro σ H2 ⟨M,Ah,v4,v5,v6,rfl,rfl,hM,run⟩
  refine⟨_,rfl,_,rfl,rfl,_,rfl,?_⟩
  by_cases c':M=Ah
  ·subst c'
   refine uT rfl ?_
   exact⟨_,rfl,kk M (run M .stop)⟩
  refine ite2 (fun c=>?_) (fun c=>absurd (by rw[x5,decide_eq_false (fun z=>c' (by omega))];rfl) c)
  refine⟨_,rfl,?_⟩
  refine⟨_,rfl,a,rfl,⟨_,SqL.of hA⟩,c9 (K:=K) (xs:=ys) (fun i σ H3=>∃ v4 v5 v6,H3=H2/\σ = [some (.int 0),some (.ref a),some (.int ((bN (ls.take i) M:Nat):Int)),some (.int (M:Int)),v4,v5,v6]/\bN (ls.take i) M<2^n/\M<=bN (ls.take i) M) ⟨_,_,_,rfl,rfl,hM,DF _⟩ (fun i σ H3 _ ⟨_,_,_,z,_⟩=>by rw[z];exact SqL.of hA) ?_ ?_⟩
  ·rintro i x σ H3 hx ⟨v4,v5,v6,rfl,rfl,hM',hle⟩
   obtain⟨l,hl,p,rfl,hp⟩:=hL.get hx
   obtain⟨b1,b2⟩:=ok.sm l (DH hl)
   refine⟨p,_,rfl,SqT.of hp,rfl,_,_,rfl,_,_,rfl,rfl,?_⟩
   refine⟨_,rfl,_,_,rfl,rfl,⟨by omega,by omega,by decide⟩,_,rfl,_,_,rfl,rfl,⟨by omega,by omega,by decide⟩,_,_,rfl,rfl,?_⟩
   simp only[endsV]
   refine⟨_,rfl,_,rfl,_,_,rfl,rfl,rfl,_,rfl,?_⟩
   have ps:=oU (m:=M) hl
   have lt1:=wJ hM' b1 b2
   have le1:=wK (bN (ls.take i) M) l
   simp only[andN]
   by_cases z:bN (ls.take i) M&&&pF l=0
   ·refine uT (by rw[z];rfl) ?_
    have e:one1 (bN (ls.take i) M) l=bN (ls.take i) M:=by unfold one1;rw[if_pos z]
    exact⟨_,_,_,rfl,by rw[ps,e];rfl,by rw[ps];exact lt1,by rw[ps];omega⟩
   ·refine ite2 (fun _=>?_) (fun c=>absurd (by rw[x5,decide_eq_false (fun y=>z (by omega))];rfl) c)
    have e:one1 (bN (ls.take i) M) l=bN (ls.take i) M|||pF l:=by unfold one1;rw[if_neg z]
    refine⟨_,rfl,_,rfl,_,_,rfl,rfl,?_⟩
    simp only[orN]
    exact⟨_,_,_,rfl,by rw[ps,e];rfl,by rw[ps];exact lt1,by rw[ps];omega⟩
  ·rintro σ H3 ⟨v4,v5,v6,rfl,rfl,hM',hle⟩
   rw[hL.1,EG]at hM' hle ⊢
   refine⟨⟨_,M,_,_,_,rfl,rfl,hM',fun r z=>run r (.go c' z)⟩,?_⟩
   show 2*(((2^n:Nat):Int)-((bN ls M:Nat):Int)).toNat+(if((bN ls M:Nat):Int)=(M:Int) then 0 else 1)<2*(((2^n:Nat):Int)-(M:Int)).toNat+(if(M:Int)=(Ah:Int) then 0 else 1)
   rw[if_neg (show ¬ (M:Int)=(Ah:Int) from fun z=>c' (by omega))]
   generalize (2^n:Nat)=N at hM hM'
   split<;>omega
 ·rintro σ H4 Q1 Q2 hi ⟨v1,e1,v2,e2,e3,b,e4,q'⟩
  exact⟨v1,e1,v2,e2,e3,b,e4,hi _ _ q'⟩
theorem zo:aJ ["many","links"] ["many","links"] (ak iy):=⟨rfl,rfl,rfl,by decide +kernel,rfl,by decide +kernel,by decide +kernel⟩
theorem ok_whl{f f1:Addr}{fd fd1:FuncData} (F:Fun K "whole" "whole" iy f fd) (G_reached:Cal P w K mg base 1 "reached" ["start","pairs"] qu f1 fd1):FnOk P w K mg base CX0 2 f fd ["many","links"] BO:=by
 refine F.ok zo (fun vs H Q E h=>?_) (fun cdv A outer s H vs Q E hr h=>?_)
 ·obtain⟨v,n,ls,rfl,_⟩:=h
  rfl
 obtain⟨v,n,ls,rfl,⟨a,xs,rfl,hA,hL⟩,ok,n1,kk⟩:=h
 have n40:=ok.n1
 have l9:=ok.l9
 have xl:=hL.1
 refine⟨_,(aq (aV (wG f9 (ay G_reached.ok (hr.mono (by decide)) rfl G_reached.mg G_reached.kp G_reached.bn .nil aX (ae ah (ae (jM rfl (fr:=[]) (by exact cf.plain (by rfl) (by decide +kernel) (by rfl) (by decide +kernel) (by rfl) (by decide +kernel)) (bu (pv 1)) (fun C ex s H=>(iM (ae (aM (iG (K:=K) rfl) (pv 0) ah (fun _ _=>rfl)) (ae (aM (iG (K:=K) rfl) (pv 0) ah (fun _ _=>rfl)) ai))))) ai))) (au fO (au bW ah (pv 0)) ah) (aN _)))),?_⟩
 refine⟨_,rfl,a,rfl,⟨_,SqL.of hA⟩,kG (K:=K) (xs:=xs) (fun i zs H2=>Same H H2/\LsAt PaAt H2 zs (ls.take i)) (Ej (av (by omega))) ⟨fun _ _ e=>e,LsAt.nil⟩ (fun i zs H2 _ z=>SqL.of (z.1 _ _ hA)) ?_ ?_⟩
 ·rintro i x zs H2 hx ⟨s2,hZ⟩
  obtain⟨l,hl,p,rfl,hp⟩:=hL.get hx
  have hp2:=s2 _ _ hp
  refine⟨_,rfl,p,_,0,_,rfl,rfl,SqT.of hp2,a30,_,rfl,p,_,1,_,rfl,rfl,SqT.of hp2,a31,(by show 2<=sizeLine;decide),fun t ht=>?_⟩
  have s3:=ao ht (.tup [.int (l.1:Int),.int (l.2.1:Int)])
  refine⟨s2.trans s3,?_⟩
  rw[Ez,hl]
  exact(hZ.imp fun _ _ ⟨t,e,z⟩=>⟨t,e,s3 _ _ z⟩).snoc ⟨t,rfl,ag⟩
 rintro zs H2 _ ⟨s2,hZ⟩ D hD
 rw[xl,EG]at hZ
 have s3:=ao hD (.lst zs)
 refine⟨D,zs,n,ls,rfl,ag,hZ.imp fun _ _ ⟨t,e,z⟩=>⟨t,e,s3 _ _ z⟩,ok,n1,fun r run=>?_⟩
 refine⟨_,rfl,_,_,rfl,rfl,⟨by omega,by omega,by decide⟩,_,_,rfl,rfl,rfl,?_⟩
 rw[x5]
 exact kk r _ run (s2.trans s3)
end
structure ErrC(K:DE)(mg:Str->Option Value)(x:Str)(C:Addr):Prop where
 mg:mg x=some (.ref C)
 ec:ExC K C
structure TxtM(mg:Str->Option Value):Prop where
 most:∃ t,mg "MOST_MARKS" = some (.int 14 t)
theorem sf{M p q:Nat}:(M&&&(2^p|||2^q)=0↔M.testBit p=false/\M.testBit q=false)/\(M|||(2^p|||2^q)=M->M.testBit p=true/\M.testBit q=true):=by
 have b1:∀ i,(2^p|||2^q).testBit i=(decide (p=i)||decide (q=i)):=fun i=>by rw[Ft,Em,Em]
 refine⟨⟨fun h=>?_,fun⟨h1,h2⟩=>?_⟩,fun h=>?_⟩
 ·have h1:=congrArg (fun z=>Hd z p) h
  have h2:=congrArg (fun z=>Hd z q) h
  simp only[FQ,b1,E5]at h1 h2
  constructor
  ·simpa using h1
  ·simpa using h2
 ·refine EE fun i=>?_
  rw[FQ,b1,E5]
  by_cases z1:p=i
  ·subst z1;rw[h1];rfl
  ·by_cases z2:q=i
   ·subst z2;rw[h2];rfl
   ·simp[z1,z2]
 ·have h1:=congrArg (fun z=>Hd z p) h
  have h2:=congrArg (fun z=>Hd z q) h
  simp only[Ft (x:=M),b1]at h1 h2
  constructor
  ·simpa using h1.symm
  ·simpa using h2.symm
theorem xQ{M m:Nat}(h:M<2^m)(k:∀ p,p<m->M.testBit p=true):M=2^m-1:=by
 refine EE fun i=>?_
 rw[Fw]
 by_cases z:i<m
 ·rw[k i z,decide_eq_true z]
 ·rw[decide_eq_false z]
  exact Nat.testBit_lt_two_pow (Ei h (E4 (by decide) (by omega)))
theorem zE{X:Cx}{x:Str}{n:Int}{pos:Pos}(hg:Gl X x)(hm:∃ t,X.mg x=some (.int n t)) (hd:(x == ("__debug__" : Str))=false:=by decide):PE X (.Name x pos) (tC (.int n)):=by
 obtain⟨t,h⟩:=hm
 exact m7 hg h ⟨t,rfl⟩ hd
theorem iO{ls:List Lk}{m:Nat}:∀ i,m<=bN (ls.take i) m/\bN (ls.take i) m<=bN ls m:=fun i=>by
 have le:∀(l:List Lk)(m:Nat),m<=bN l m:=fun l=>by
  induction l with
  |nil=>intro m;exact DF _
  |cons x l ih=>intro m;exact E7 (wK m x) (ih _)
 refine⟨le _ _,?_⟩
 have e:bN ls m=bN (ls.drop i) (bN (ls.take i) m):=by
  unfold bN
  rw[← GY,D8]
 rw[e]
 exact le _ _
theorem rL{ls:List Lk}{r:Nat}(h:bN ls r=r){l:Lk}(hl:l∈ls):r.testBit l.1=r.testBit l.2.1:=by
 obtain⟨i,hi,e⟩:=EN hl
 have hi':ls[i]?=some l:=by rw[DB hi,e]
 have t1:=iO (ls:=ls) (m:=r) i
 have t2:=iO (ls:=ls) (m:=r) (i+1)
 have e1:bN (ls.take i) r=r:=by omega
 have e2:bN (ls.take (i+1)) r=r:=by omega
 rw[oU hi',e1]at e2
 obtain⟨b1,b2⟩:=sf (M:=r) (p:=l.1) (q:=l.2.1)
 unfold one1 pF at e2
 split at e2
 ·rename_i c
  obtain⟨z1,z2⟩:=b1.mp c
  rw[z1,z2]
 ·obtain⟨z1,z2⟩:=b2 e2
  rw[z1,z2]
theorem Run.shut{ls:List Lk}{n m a r:Nat}(h:Run ls m a r)(hl:∀ l∈ls,l.1<n/\l.2.1<n):(m=a->bN ls m=m)->m<2^n->bN ls r=r/\r<2^n/\(m.testBit 0=true->r.testBit 0=true):=by
 induction h with
 |stop=>intro h1 h2;exact⟨h1 rfl,h2,id⟩
 | @go m a r h nx ih =>
  intro _ h2
  have lt:∀(k:List Lk),(∀ l∈k,l.1<n/\l.2.1<n)->∀ m,m<2^n->bN k m<2^n:=fun k=>by
   induction k with
   |nil=>intro _ m hm;exact hm
   |cons x k ihk =>
    intro hk m hm
    obtain⟨b1,b2⟩:=hk x (DU ..)
    exact ihk (fun l hl=>hk l (DM _ hl)) _ (wJ hm b1 b2)
  have bit:∀(k:List Lk)(m:Nat),m.testBit 0=true->(bN k m).testBit 0=true:=fun k=>by
   induction k with
   |nil=>intro m hm;exact hm
   |cons x k ihk =>
    intro m hm
    refine ihk _ ?_
    unfold one1
    split
    ·exact hm
    ·rw[Ft,hm];rfl
  obtain⟨g1,g2,g3⟩:=ih (fun e=>by rw[e];exact e) (lt ls hl m h2)
  exact⟨g1,g2,fun z=>g3 (bit ls m z)⟩
theorem zt{ls:List Lk}{n r:Nat}(h:Run ls 1 0 r)(hl:∀ l∈ls,l.1<n/\l.2.1<n)(n1:1<=n)(hc:Conn n ls):r=2^n-1:=by
 obtain⟨g1,g2,g3⟩:=h.shut hl (fun z=>by cases z) (Nat.one_lt_two_pow (by omega))
 refine xQ g2 fun p hp=>?_
 obtain⟨x,hx⟩:=hc p hp
 have gen:∀{a b:Nat}{x:Int},Wk ls a b x->r.testBit a=r.testBit b:=fun h=>by
  induction h with
  |nil=>rfl
  | @step b i x l h' hl' he ih =>
   rw[ih]
   have cl:=rL g1 (DH hl')
   unfold bey
   rcases he with z | z
   ·rw[if_pos z,z];exact cl
   ·by_cases w:b=l.1
    ·rw[if_pos w,w];exact cl
    ·rw[if_neg w,z];exact cl.symm
 rw[← gen hx]
 exact g3 (by decide)
def so:Sp:=fun vs H Q _=>∃ n:Nat,vs = [.int (n:Int)]/\n<2^40/\∀ H',Same H H'->Q (.int (((bl n).length:Nat):Int)) H'
def BR:Sp:=fun vs H Q _=>∃ n:Nat,vs = [.int (n:Int)]/\n<2^40/\∀ H',Same H H'->Q (.int (((bl n).length:Nat)%2:Int)) H'
def vU(K:DE):Sp:=fun vs H Q _=>∃(a:Addr)(ks:List Nat),vs = [.ref a]/\SqL K H a (ks.map iV)/\(∀ k∈ks,k<80)/\Q (.int ((dZ ks:Nat):Int)) H
theorem Dr(l:Lk):bey l l.2.1=l.1:=by
 unfold bey
 split
 ·assumption
 ·rfl
theorem yF(l:Lk):bey l l.1=l.2.1:=by
 unfold bey
 rw[if_pos rfl]
theorem uu{ls:List Lk}{l:Lk}(hl:l∈ls){m:Nat}(h:∀ p,m.testBit p=true->∃ x,Wk ls 0 p x):∀ p,(one1 m l).testBit p=true->∃ x,Wk ls 0 p x:=by
 intro p hp
 unfold one1 pF at hp
 split at hp
 ·exact h p hp
 ·rename_i c
  obtain⟨i,hi,e⟩:=EN hl
  have hi':ls[i]?=some l:=by rw[DB hi,e]
  have h1:∃ x,Wk ls 0 l.1 x:=by
   cases z1:m.testBit l.1 with
   |true=>exact h _ z1
   |false =>
    cases z2:m.testBit l.2.1 with
    |true =>
     obtain⟨x,hx⟩:=h _ z2
     have:=hx.trans (Wk.link hi' (.inr rfl))
     rw[Dr]at this
     exact⟨_,this⟩
    |false=>exact absurd (sf.1.mpr ⟨z1,z2⟩) c
  have h2:∃ x,Wk ls 0 l.2.1 x:=by
   obtain⟨x,hx⟩:=h1
   have:=hx.trans (Wk.link hi' (.inl rfl))
   rw[yF]at this
   exact⟨_,this⟩
  rw[Ft,Ft,Em,Em]at hp
  by_cases z1:l.1=p
  ·exact z1▸h1
  ·by_cases z2:l.2.1=p
   ·exact z2▸h2
   ·rw[decide_eq_false z1,decide_eq_false z2]at hp
    exact h p (by simpa using hp)
theorem ma{ls:List Lk}:∀(k:List Lk),(∀ l∈k,l∈ls)->∀ m:Nat,(∀ p,m.testBit p=true->∃ x,Wk ls 0 p x)->∀ p,(bN k m).testBit p=true->∃ x,Wk ls 0 p x
 |[],_,_,h=>h
 |l::k,hk,m,h=>ma k (fun x hx=>hk x (DM _ hx)) (one1 m l) (uu (hk l (DU ..)) h)
theorem Run.reach{ls:List Lk}{m a r:Nat}(h:Run ls m a r):(∀ p,m.testBit p=true->∃ x,Wk ls 0 p x)->∀ p,r.testBit p=true->∃ x,Wk ls 0 p x:=by
 induction h with
 |stop=>exact id
 |go _ _ ih=>exact fun z=>ih (ma ls (fun _ h=>h) _ z)
theorem zu{ls:List Lk}{n r:Nat}(h:Run ls 1 0 r)(e:r=2^n-1):Conn n ls:=fun b hb=>by
 refine h.reach (fun p hp=>?_) b ?_
 ·have e1:(1:Nat).testBit p=decide (0=p):=by have:=Em (n:=0) (m:=p);simpa using this
  rw[e1]at hp
  have hp:=of_decide_eq_true hp
  subst hp
  exact⟨_,Wk.nil _⟩
 ·rw[e,Fw]
  exact decide_eq_true hb
def Rfs(OM PD TR:Addr)(n mk:Nat)(ls:List Lk)(H:Hp)(E:XK):Prop:=((bl mk).length%2=1->∀ H',Same H H'->E (.ref OM) none H')/\((bl mk).length%2=0->¬ Conn n ls->∀ H',Same H H'->E (.ref PD) none H')/\((bl mk).length%2=0->Conn n ls->14<(bl mk).length->∀ H',Same H H'->E (.ref TR) none H')
def sk(OM PD TR:Addr):Sp:=fun vs H Q E=>∃(v:V)(n mk:Nat)(ls:List Lk),vs = [.int (n:Int),v,.int (mk:Int)]/\LnAt H v ls/\Lok n ls/\1<=n/\mk<2^n/\Rfs OM PD TR n mk ls H E/\((bl mk).length%2=0->Conn n ls->(bl mk).length<=14->∀ H',Same H H'->Q .non H')
section
variable{P:Program}{w:World}{K:DE}{mg:Str->Option Value}{base:Heap}
theorem BY:aJ ["mask"] ["mask"] (ak l6):=⟨rfl,rfl,rfl,by decide +kernel,rfl,by decide +kernel,by decide +kernel⟩
theorem Cq{f f1:Addr}{fd fd1:FuncData} (F:Fun K "ones" "ones" l6 f fd) (T:Txt mg) (G_bits:Cal P w K mg base 1 "bits" ["mask"] gM f1 fd1):FnOk P w K mg base CX0 2 f fd ["mask"] so:=by
 refine F.ok BY (fun vs H Q E h=>?_) (fun cdv A outer s H vs Q E hr h=>?_)
 ·obtain⟨n,rfl,_⟩:=h
  rfl
 obtain⟨n,rfl,hn,kk⟩:=h
 have e40:(2:Nat)^40=1099511627776:=by decide
 refine⟨_,(aq (aV (aP bC (by rfl) T.n_len kR (ae (ay G_bits.ok (hr.mono (by decide)) rfl G_bits.mg G_bits.kp G_bits.bn .nil aX (ae (pv 0) ai)) ai)))),?_⟩
 refine⟨_,rfl,_,rfl,by omega,by omega,fun r H1 s1 _ hr1=>?_⟩
 refine⟨r,_,rfl,.inl (SqL.of hr1),?_⟩
 rw[DG,DV]
 exact kk _ s1
theorem sc_odd:aJ ["mask"] ["mask"] (ak uh):=⟨rfl,rfl,rfl,by decide +kernel,rfl,by decide +kernel,by decide +kernel⟩
theorem ok_odd{f f1:Addr}{fd fd1:FuncData} (F:Fun K "odd" "odd" uh f fd) (G_ones:Cal P w K mg base 2 "ones" ["mask"] so f1 fd1):FnOk P w K mg base CX0 3 f fd ["mask"] BR:=by
 refine F.ok sc_odd (fun vs H Q E h=>?_) (fun cdv A outer s H vs Q E hr h=>?_)
 ·obtain⟨n,rfl,_⟩:=h
  rfl
 obtain⟨n,rfl,hn,kk⟩:=h
 refine⟨_,(aq (aV (au bP (ay G_ones.ok (hr.mono (by decide)) rfl G_ones.mg G_ones.kp G_ones.bn .nil aX (ae (pv 0) ai)) ah))),?_⟩
 exact⟨_,rfl,n,rfl,hn,fun H1 s1=>⟨_,_,rfl,rfl,(by show(0:Int)<2;decide),kk _ s1⟩⟩
theorem fz:aJ ["places","mask","place"] ["places"] (ak dH):=⟨rfl,rfl,rfl,by decide +kernel,rfl,by decide +kernel,by decide +kernel⟩
theorem Cr{f:Addr}{fd:FuncData} (F:Fun K "mask_of" "mask_of" dH f fd):FnOk P w K mg base CX0 1 f fd ["places"] (vU K):=by
 refine F.ok fz (fun vs H Q E h=>?_) (fun cdv A outer s H vs Q E hr h=>?_)
 ·obtain⟨a,ks,rfl,_⟩:=h
  rfl
 obtain⟨a,ks,rfl,hS,k80,q⟩:=h
 refine⟨_,(af (ar (i:=1) fz.nd rfl (Or.inl rfl) ah)
   (af (dM PassesOwn.never rfl (bu (pv 0)) (aC (i:=2) fz.nd rfl (Or.inl rfl)) (aq (ar (i:=1) fz.nd rfl (Or.inl rfl) (au wI (pv 1) (au bW ah (pv 2))))))
   (aq (aV (pv 1))))),?_⟩
 refine⟨_,rfl,a,rfl,⟨_,hS⟩,c9 (K:=K) (xs:=ks.map iV) (fun i σ H2=>∃ v2,σ = [some (.ref a),some (.int ((dZ (ks.take i):Nat):Int)),v2]/\H2=H) ⟨_,rfl,rfl⟩ (fun i σ H2 _ ⟨_,_,z⟩=>by rw[z];exact hS) ?_ ?_⟩
 ·rintro i x σ H2 hx ⟨v2,rfl,rfl⟩
  rw[DK]at hx
  obtain⟨k,hk,rfl⟩:=Ec.mp hx
  have kb:=k80 k (DH hk)
  refine⟨_,rfl,_,rfl,_,_,rfl,rfl,⟨by show(0:Int)<=(k:Int);omega,by show(k:Int)<=1000000;omega,by decide⟩,_,_,rfl,rfl,?_⟩
  have e:Builtin.bitOr ((dZ (ks.take i):Nat):Int) (1*2^((k:Nat):Int).toNat)=((dZ (ks.take (i+1)):Nat):Int):=by
   rw[shlN,orN]
   unfold dZ
   rw[Ez,hk,GY]
   rfl
  simp only[e]
  exact⟨_,rfl,rfl⟩
 ·rintro σ H2 ⟨v2,rfl,rfl⟩
  rw[DG,EG]
  exact⟨_,rfl,q⟩
theorem jG:aJ ["many","links","marks"] ["many","links","marks"] (ak bo):=⟨rfl,rfl,rfl,by decide +kernel,rfl,by decide +kernel,by decide +kernel⟩
theorem Cp{f f1 f2 f3 OM PD TR:Addr}{fd fd1 fd2 fd3:FuncData} (F:Fun K "refuse_marks" "refuse_marks" bo f fd) (T:TxtM mg) (X_OddMarks:ErrC K mg "OddMarks" OM) (X_Parted:ErrC K mg "Parted" PD) (X_TooRough:ErrC K mg "TooRough" TR) (G_odd:Cal P w K mg base 3 "odd" ["mask"] BR f1 fd1) (G_whole:Cal P w K mg base 2 "whole" ["many","links"] BO f2 fd2) (G_ones:Cal P w K mg base 2 "ones" ["mask"] so f3 fd3):FnOk P w K mg base (CXr P w) 4 f fd ["many","links","marks"] (sk OM PD TR):=by
 refine F.okX jG (fun vs H Q E h=>?_) (fun cdv A outer s H vs Q E hr h=>?_)
 ·obtain⟨v,n,mk,ls,rfl,_⟩:=h
  rfl
 obtain⟨v,n,mk,ls,rfl,hV,ok,n1,hmk,⟨r1,r2,r3⟩,kk⟩:=h
 have n40:=ok.n1
 have mlt:mk<2^40:=Ei hmk (E4 (by decide) n40)
 refine⟨_,(af (di (aF f9 (ay G_odd.ok (hr.mono (by decide)) rfl G_odd.mg G_odd.kp G_odd.bn .nil aX (ae (pv 2) ai)) ah (aN _)) (aq (jH X_OddMarks.ec X_OddMarks.mg rfl lX rfl rfl (ae cG ai))) bf)
   (af (di (wo (wm (ay G_whole.ok (hr.mono (by decide)) rfl G_whole.mg G_whole.kp G_whole.bn .nil aX (ae (pv 0) (ae (pv 1) ai))))) (aq (jH X_Parted.ec X_Parted.mg rfl lX rfl rfl (ae cG ai))) bf)
   (aq (di (aF zH (ay G_ones.ok (hr.mono (by decide)) rfl G_ones.mg G_ones.kp G_ones.bn .nil aX (ae (pv 2) ai)) (zE rfl T.most) (aN _)) (aq (jH X_TooRough.ec X_TooRough.mg rfl lX rfl rfl (ae cG ai))) bf)))),?_⟩
 refine⟨_,rfl,mk,rfl,mlt,fun H1 s1=>?_⟩
 refine⟨rfl,_,rfl,ite2 (fun z=>?_) (fun z=>?_)⟩
 ·have z':=V.int.inj (of_decide_eq_true z)
  exact⟨(by decide:(1:Nat)<=sizeLine),r1 (by omega) _ s1⟩
 have ev:(bl mk).length%2=0:=by
  have:¬ ((((bl mk).length:Nat)%2:Int)=1):=fun y=>z (decide_eq_true (congrArg V.int y))
  omega
 refine⟨_,rfl,_,rfl,v,n,ls,rfl,hV.mono s1,ok,n1,fun r H2 run s2=>?_⟩
 have p2:=Fb n
 by_cases er:r=2^n-1
 ·have eb:decide ((r:Int)=1*2^((n:Nat):Int).toNat-1)=true:=decide_eq_true (by
   rw[shlN,er]
   omega)
  have hc:=zu run er
  rw[eb]
  refine⟨_,rfl,iteF ?_⟩
  refine⟨_,rfl,mk,rfl,mlt,fun H3 s3=>?_⟩
  refine⟨_,_,rfl,rfl,_,rfl,ite2 (fun z=>?_) (fun z=>?_)⟩
  ·have z':=of_decide_eq_true z
   exact⟨(by decide:(1:Nat)<=sizeLine),r3 ev hc (by have z':(((bl mk).length:Nat):Int) > 14:=z';omega) _ (s1.trans (s2.trans s3))⟩
  ·exact kk ev hc (by
    have:¬ (((bl mk).length:Nat):Int) > 14:=fun y=>z (decide_eq_true y)
    omega) _ (s1.trans (s2.trans s3))
 ·have eb:decide ((r:Int)=1*2^((n:Nat):Int).toNat-1)=false:=decide_eq_false (fun y=>er (by
   rw[shlN]at y
   omega))
  rw[eb]
  refine⟨_,rfl,ite2 (fun _=>?_) (fun z=>absurd rfl z)⟩
  exact⟨(by decide:(1:Nat)<=sizeLine),r2 ev (fun hc=>er (zt run ok.sm n1 hc)) _ (s1.trans s2)⟩
end
end KF
namespace KF
open PySem L2
local macro_rules | `(tactic| walk_at "cc") => `(tactic| first | exact ⟨by decide, by decide⟩ | (show (0 : Int) < _; decide) | (show (0 : Int) < _; omega) | (show (0 : Int) ≤ _; omega) | exact ⟨by decide, by decide, by decide⟩ | exact ⟨by omega, by omega, by decide⟩ | exact Or.inl ⟨by decide, by decide⟩ | exact Or.inl ⟨by omega, by omega⟩)
local macro_rules | `(tactic| walk_at "rd") => `(tactic| repeat (first | refine ⟨_, rfl, ?_⟩ | refine ⟨_, _, rfl, rfl, ?_⟩ | refine ⟨rfl, ?_⟩ | (refine ⟨?cc, ?_⟩; (case cc => walk_at "cc"))))
def BQ:Sp:=fun vs H Q _=>∃(v:V)(va:Addr)(r s:Nat)(ls:List Lk)(VL:List (Option Nat))(ks:List Nat),vs = [v,.ref va,.int (r:Int)]/\LnAt H v ls/\H va=some (.lst (VL.map oN))/\VL[s]?=some none/\Pth ls VL s r ks/\ks.length<=40/\∀ q H',Same H H'->H' q=some (.lst (ks.reverse.map iV))->Q (.ref q) H'
section
variable{P:Program}{w:World}{K:DE}{mg:Str->Option Value}{base:Heap}
theorem gN:aJ ["links","via","room","back","here"] ["links","via","room"] (ak fA):=⟨rfl,rfl,rfl,by decide +kernel,rfl,by decide +kernel,by decide +kernel⟩
theorem ok_row{f f1:Addr}{fd fd1:FuncData} (F:Fun K "row_to" "row_to" fA f fd) (T:TxtR mg) (G_beyond:Cal P w K mg base 1 "beyond" ["link","room"] zf f1 fd1):FnOk P w K mg base CX0 2 f fd ["links","via","room"] BQ:=by
 refine F.ok gN (fun vs H Q E h=>?_) (fun cdv A outer s H vs Q E hr h=>?_)
 ·obtain⟨v,va,r,s0,ls,VL,ks,rfl,_⟩:=h
  rfl
 obtain⟨v,va,r,s0,ls,VL,ks,rfl,⟨a,xs,rfl,hA,hL⟩,hva,hs0,hP,k40,kk⟩:=h
 refine⟨_,(af (ar (i:=3) gN.nd rfl (Or.inl rfl) (fN ai))
   (af (ar (i:=4) gN.nd rfl (Or.inl rfl) (pv 2))
   (af (gP PassesOwn.never (aF Cj (aM aL (pv 1) (pv 4) (fun _ _=>rfl)) iN (aN _)) (af (bM (iY Es EW EV cW (pv 3) (ae (aM aL (pv 1) (pv 4) (fun _ _=>rfl)) ai)))
   (aq (ar (i:=4) gN.nd rfl (Or.inl rfl) (ay G_beyond.ok (hr.mono (by decide)) rfl G_beyond.mg G_beyond.kp G_beyond.bn .nil aX (ae (aM aL (pv 0) (aM aL (pv 1) (pv 4) (fun _ _=>rfl)) (fun _ _=>rfl)) (ae (pv 4) ai)))))))
   (aq (aV (l8 rfl rfl T.n_list rfl T.n_reversed (pv 3))))))),?_⟩
 refine⟨(by show 0<=sizeLine;decide),fun l hl=>?_⟩
 have lv:l≠va:=fun z=>by rw[z,hva]at hl;cases hl
 refine⟨_,rfl,gK (fun σ H2=>∃(here:Nat)(pre rest:List Nat),σ = [some (.ref a),some (.ref va),some (.int (r:Int)),some (.ref l),some (.int (here:Int))]/\H2 l=some (.lst (pre.map iV))/\pre++rest=ks/\Pth ls VL s0 here rest/\Same H H2)
  (fun _ H2=>match H2 l with | some (.lst zs)=>100-zs.length | _=>0) ⟨r,[],ks,rfl,ag,rfl,hP,ao hl _⟩ ?_ ?_⟩
 ·rintro σ H2 ⟨here,pre,rest,rfl,hp,hpr,hc,s2⟩
  have hpl:pre.length+rest.length<=40:=by
   have:=congrArg GK hpr
   rw[DL]at this
   omega
  have hva2:=s2 _ _ hva
  cases hc with
  |root =>
   refine⟨_,rfl,_,rfl,va,_,_,_,rfl,rfl,SqL.of hva2,aH (zT hs0),rfl,_,rfl,iteF ?_⟩
   rw[Fz]at hpr
   subst hpr
   refine⟨_,rfl,l,_,rfl,SqL.of hp,fun q hq=>?_⟩
   refine kk q _ (s2.trans (ao hq _)) ?_
   rw[ag,List.map_reverse]
  | @step _ k lk rest' hv hlk hc' =>
   obtain⟨lv',hlv,lt,rfl,hlt⟩:=hL.2 k lk hlk
   refine⟨_,rfl,_,rfl,va,_,_,_,rfl,rfl,SqL.of hva2,aH (zT hv),rfl,_,rfl,iteT ?_⟩
   rw[DZ]at hpl
   refine⟨_,rfl,.inl ⟨rfl,_,SqL.of hp⟩,_,rfl,_,rfl,va,_,_,_,rfl,rfl,SqL.of hva2,aH (zT hv),l,_,_,rfl,rfl,hp,av (by rw[DG];omega),?_⟩
   have s3:=bQ s2 hl (.lst (pre.map iV++[.int (k:Int)]))
   refine⟨_,rfl,_,rfl,_,rfl,va,_,_,_,rfl,rfl,SqL.of (s3 _ _ hva),aH (zT hv),a,_,_,_,rfl,rfl,SqL.of (s3 _ _ hA),aH hlv,_,rfl,.ref lt,lk,here,rfl,⟨lt,rfl,s3 _ _ hlt⟩,?_⟩
   refine⟨⟨bey lk here,pre++[k],rest',rfl,?_,?_,hc',s3⟩,?_⟩
   ·rw[ag,Ex];rfl
   ·rw[D9];exact hpr
   ·rw[hp]
    show(match(upd H2 l (.lst (pre.map iV++[.int (k:Int)]))) l with | some (.lst zs)=>100-zs.length | _=>0)<100-(pre.map iV).length
    rw[ag]
    show 100-(pre.map iV++[V.int (k:Int)]).length<100-(pre.map iV).length
    rw[DL,DG,Fl]
    omega
 ·rintro σ H2 Q1 Q2 hi ⟨v',e,i,j,a',b',c',d',f',g',h',i',j',k',l',q⟩
  exact⟨v',e,i,j,a',b',c',d',f',g',h',i',j',k',l',hi _ _ q⟩
end
def RM(rho:Nat->Nat)(c:Nat):Nat->Nat
 |0=>0
 |i+1=>if c.testBit i=true then RM rho c i^^^2^rho i else RM rho c i
theorem yT(rho:Nat->Nat)(u v:Nat):∀ i,RM rho (u^^^v) i=RM rho u i^^^RM rho v i
 |0=>(F0 0).symm
 |i+1=>by
  unfold RM
  rw[yT rho u v i,E3]
  have x4:∀ a b e:Nat,(a^^^e)^^^(b^^^e)=a^^^b:=fun a b e=>by rw[Ge b e,← ET,ET a e e,F0,G0]
  cases u.testBit i<;>cases v.testBit i<;>simp
  ·rw[ET]
  ·rw[ET,ET,Ge (RM rho v i)]
  ·exact(x4 _ _ _).symm
theorem yU(rho:Nat->Nat)(k:Nat):∀ i,RM rho (2^k) i=if k<i then 2^rho k else 0
 |0=>by rw[if_neg (Fh _)];rfl
 |i+1=>by
  unfold RM
  rw[yU rho k i,Em]
  by_cases c:k=i
  ·subst c
   rw[if_pos (by simp),if_neg (Ey _),if_pos (EF _),Nat.zero_xor]
  ·rw[if_neg (by simpa using c)]
   by_cases d:k<i
   ·rw[if_pos d,if_pos (by omega)]
   ·rw[if_neg d,if_neg (by omega)]
theorem yS(rho:Nat->Nat):∀ i,RM rho 0 i=0
 |0=>rfl
 |i+1=>by unfold RM;rw[E5,if_neg DW];exact yS rho i
theorem yV{l:List Nat}(nd:l.Nodup)(x:Nat):∀ i,i<=l.length->(RM (fun i=>l.getD i 0) (2^l.length-1) i).testBit x=decide (x∈l.take i)
 |0,_=>by rw[GG];show(0:Nat).testBit x=_;rw[E5];simp
 |i+1,h=>by
  unfold RM
  rw[if_pos (by rw[Fw];exact decide_eq_true (by omega)),E3,yV nd x i (by omega),Em]
  have e:l[i]?=some l[i]:=DB (by omega)
  have eg:l.getD i 0=l[i]:=by rw[DD,e];rfl
  rw[eg]
  have nm:l[i]∉l.take i:=fun z=>by
   obtain⟨k,hk,ek⟩:=EN z
   rw[DY]at hk
   rw[FV]at ek
   have:=(List.getElem_inj nd).mp ek
   omega
  have mm:x∈l.take (i+1)↔(x∈l.take i∨x=l[i]):=by
   rw[Ez,e]
   exact DN.trans (or_congr Iff.rfl DP)
  by_cases c:x=l[i]
  ·rw[decide_eq_false (fun z=>nm (c▸z)),decide_eq_true c.symm,decide_eq_true (mm.mpr (.inr c))]
   rfl
  ·rw[decide_eq_false (show ¬ l[i]=x from fun z=>c z.symm),Bool.xor_false]
   exact decide_eq_decide.mpr ⟨fun h=>mm.mpr (.inl h),fun h=>(mm.mp h).resolve_right c⟩
theorem RM_all(mk:Nat):RM (fun i=>(bl mk).getD i 0) (2^(bl mk).length-1) (bl mk).length=mk:=EE fun x=>by
 rw[yV (ij mk) x _ (DF _),EG]
 cases z:mk.testBit x with
 |true=>exact decide_eq_true (cM.mpr z)
 |false=>exact decide_eq_false fun y=>by rw[cM,z]at y;cases y
theorem yi{c f g:Nat}(hf:f∈bl c)(hg:g∈bl c)(n:f≠g):cut2 c f g<c:=by
 have sub:cut2 c f g&&&c=cut2 c f g:=EE fun i=>by
  rw[FQ]
  cases z:(cut2 c f g).testBit i with
  |false=>rfl
  |true =>
   have:=(jv hf hg n i).mp (cM.mpr z)
   rw[cM.mp this.1]
   rfl
 have le:cut2 c f g<=c:=by rw[← sub];exact Nat.and_le_right
 have ne:cut2 c f g≠c:=fun z=>by
  have:=(jv hf hg n f).mp (by rw[z];exact hf)
  exact this.2.1 rfl
 omega
theorem Cs.map{d:Nat->Nat->Int}{rho:Nat->Nat}{l:List Nat}{c:Int}(h:Cs (fun i j=>d (rho i) (rho j)) l c):Cs d (l.map rho) c:=by
 obtain⟨PL,p,e⟩:=h
 refine⟨PL.map fun q=>(rho q.1,rho q.2),?_,?_⟩
 ·have ef:∀ PL:List (Nat×Nat),flat (PL.map fun q=>(rho q.1,rho q.2))=(flat PL).map rho:=fun PL=>by
   induction PL with
   |nil=>rfl
   |cons q r ih=>rw[D6,cJ,cJ,ih,D6,D6]
  rw[ef]
  exact p.map rho
 ·rw[← e]
  unfold cst
  rw[FN]
  rfl
theorem Cs.back{d:Nat->Nat->Int}{rho ix:Nat->Nat}{l:List Nat}{c:Int}(hi:∀ i∈l,ix (rho i)=i)(h:Cs d (l.map rho) c):Cs (fun i j=>d (rho i) (rho j)) l c:=by
 obtain⟨PL,p,e⟩:=h
 have mem:∀ x∈flat PL,rho (ix x)=x:=fun x hx=>by
  obtain⟨i,hi',rfl⟩:=ED.mp (p.mem_iff.mp hx)
  rw[hi i hi']
 refine⟨PL.map fun q=>(ix q.1,ix q.2),?_,?_⟩
 ·have ef:∀ PL:List (Nat×Nat),flat (PL.map fun q=>(ix q.1,ix q.2))=(flat PL).map ix:=fun PL=>by
   induction PL with
   |nil=>rfl
   |cons q r ih=>rw[D6,cJ,cJ,ih,D6,D6]
  rw[ef]
  refine(p.map ix).trans ?_
  rw[FN]
  have:l.map (ix∘rho)=l:=by
   conv=>rhs;rw[← List.map_id l]
   exact Ga fun i hi'=>hi i hi'
  rw[this]
 ·rw[← e]
  unfold cst
  rw[FN]
  refine congrArg List.sum (Ga fun q hq=>?_)
  have m1:q.1∈flat PL:=by
   unfold flat
   exact List.mem_flatMap.mpr ⟨q,hq,DU ..⟩
  have m2:q.2∈flat PL:=by
   unfold flat
   exact List.mem_flatMap.mpr ⟨q,hq,DM _ (DU ..)⟩
  show d (rho (ix q.1)) (rho (ix q.2))=d q.1 q.2
  rw[mem _ m1,mem _ m2]
theorem n6(m:Nat):(bl (2^m-1)).Perm (EA m):=by
 refine(FD (ij _) (List.nodup_range)).mpr fun x=>?_
 rw[cM,Fw,E2,decide_eq_true_iff]
theorem Opt.rooms{d:Nat->Nat->Int}{l:List Nat}(nd:l.Nodup){t:Int}(h:Opt (fun i j=>d (l.getD i 0) (l.getD j 0)) (bl (2^l.length-1)) t):Opt d l t:=by
 have h':=h.perm (n6 l.length)
 have em:(EA l.length).map (fun i=>l.getD i 0)=l:=by
  refine G7 (by rw[DG,EH]) fun i h1 h2=>?_
  rw[List.getElem_map,List.getElem_range,DD,DB h2]
  rfl
 have ix:∀ i∈EA l.length,l.idxOf (l.getD i 0)=i:=fun i hi=>by
  have hi':=E2.mp hi
  rw[DD,DB hi']
  exact nd.idxOf_getElem i hi'
 refine⟨?_,fun c hc=>h'.2 c (Cs.back (rho:=fun i=>l.getD i 0) (ix:=fun x=>l.idxOf x) ix (by rw[em];exact hc))⟩
 have:=Cs.map (rho:=fun i=>l.getD i 0) h'.1
 rw[em]at this
 exact this
def jc:Sp:=fun vs H Q _=>∃(ta r:Addr)(xs vals:List V)(ks:List Nat),vs = [.ref ta,.ref r]/\H ta=some (.lst xs)/\H r=some (.lst (ks.map iV))/\vals.length=ks.length/\ks.length<=900/\(∀(i k:Nat),ks[i]?=some k->∃ y,xs[k]?=some y/\vals[i]?=some y)/\∀ q H',Same H H'->H q=none->H' q=some (.lst vals)->Q (.ref q) H'
def mQ:Sp:=fun vs H Q _=>vs = []/\∀ p t H',Same H H'->H p=none->H' p=some (.dK [(.inl ((0:Nat):Int),.ref t)])->H' t=some (.tup [.int 0,.non,.non])->Q (.ref p) H'
section
variable{P:Program}{w:World}{K:DE}{mg:Str->Option Value}{base:Heap}
theorem oK:aJ ["entries","numbers"] ["entries","numbers"] (ak cn):=⟨rfl,rfl,rfl,by decide +kernel,rfl,by decide +kernel,by decide +kernel⟩
theorem wN{f:Addr}{fd:FuncData} (F:Fun K "chosen_of" "chosen_of" cn f fd):FnOk P w K mg base CX0 1 f fd ["entries","numbers"] jc:=by
 refine F.ok oK (fun vs H Q E h=>?_) (fun cdv A outer s H vs Q E hr h=>?_)
 ·obtain⟨ta,r,xs,vals,ks,rfl,_⟩:=h
  rfl
 obtain⟨ta,r,xs,vals,ks,rfl,hta,hr',vl,k9,hv,kk⟩:=h
 refine⟨_,(aq (aV (jM rfl (fr:=[("entries",0)]) (by exact cf.one (by rfl) (by decide +kernel) (by rfl) (by decide +kernel) (by rfl) (by decide +kernel) (by rfl) (by rfl) (by decide +kernel) (by rfl)) (bu (pv 1)) (fun C ex s H=>(aM (gZ (K:=K) rfl) (pv 1) (pv 0) (fun _ _=>rfl)))))),?_⟩
 refine⟨_,rfl,r,rfl,⟨_,SqL.of hr'⟩,kG (K:=K) (xs:=ks.map iV) (fun i zs H2=>H2=H/\zs=vals.take i) (Ej (av (by rw[DG];omega))) ⟨rfl,rfl⟩ (fun i zs H2 _ z=>by rw[z.1];exact SqL.of hr') ?_ ?_⟩
 ·rintro i x zs H2 hx ⟨rfl,rfl⟩
  rw[DK]at hx
  obtain⟨k,hk,rfl⟩:=Ec.mp hx
  obtain⟨y,h1,h2⟩:=hv i k hk
  refine⟨_,rfl,_,rfl,ta,_,_,_,rfl,rfl,SqL.of hta,aH h1,rfl,?_⟩
  rw[Ez,h2]
  rfl
 rintro zs H2 _ ⟨rfl,rfl⟩ q hq
 rw[DG,← vl,EG]
 exact kk q _ (ao hq _) hq ag
theorem oJ:aJ [] [] (ak cj):=⟨rfl,rfl,rfl,by decide +kernel,rfl,by decide +kernel,by decide +kernel⟩
theorem zI{f:Addr}{fd:FuncData} (F:Fun K "new_table" "new_table" cj f fd):FnOk P w K mg base CX0 1 f fd [] mQ:=by
 refine F.ok oJ (fun vs H Q E h=>?_) (fun cdv A outer s H vs Q E hr h=>?_)
 ·rw[h.1];rfl
 obtain⟨rfl,kk⟩:=h
 refine⟨_,(aq (aV (wF (sL ah (iM (ae ah (ae iN (ae iN ai)))) wt) rfl rfl (fun z=>by cases z) (by decide)))),?_⟩
 intro p hp
 refine⟨(by show 3<=sizeLine;decide),fun t ht=>?_⟩
 have z1:=ao hp (.dK [])
 have z2:=ao ht (.tup [.int 0,.non,.non])
 have pt:p≠t:=fun z=>by rw[← z,ag]at ht;cases ht
 refine⟨by rw[aj pt];exact ag,[(.inl ((0:Nat):Int),.ref t)],rfl,(by show 1<=15;decide),?_⟩
 refine kk p t _ (bQ (z1.trans z2) hp _) hp ag ?_
 rw[aj (Ne.symm pt)]
 exact ag
end
end KF
namespace KF
open PySem L2
local macro_rules | `(tactic| walk_at "cc") => `(tactic| first | exact ⟨by decide, by decide⟩ | (show (0 : Int) < _; decide) | (show (0 : Int) < _; omega) | (show (0 : Int) ≤ _; omega) | exact ⟨by decide, by decide, by decide⟩ | exact ⟨by omega, by omega, by decide⟩ | exact Or.inl ⟨by decide, by decide⟩ | exact Or.inl ⟨by omega, by omega⟩)
local macro_rules | `(tactic| walk_at "rd") => `(tactic| repeat (first | refine ⟨_, rfl, ?_⟩ | refine ⟨_, _, rfl, rfl, ?_⟩ | refine ⟨rfl, ?_⟩ | (refine ⟨?cc, ?_⟩; (case cc => walk_at "cc"))))
def FdAt(n:Nat)(ls:List Lk)(H:Hp)(v:V)(s:Nat):Prop:=∃ t ta va TL VL,v=.ref t/\H t=some (.tup [.ref ta,.ref va])/\H ta=some (.lst (TL.map oV))/\H va=some (.lst (VL.map oN))/\FI n ls s MM TL VL [] (fun _ _=>False)
theorem aZ{q:Str}{lp:Pos}{TT:Addr}{H H':Hp}(h:Tb q lp TT H)(s:Same H H'):Tb q lp TT H':=by
 rcases h with y | ⟨c',y1,y2⟩
 ·exact .inl (s _ _ y)
 ·exact .inr ⟨c',s _ _ y1,s _ _ y2⟩
theorem tb_ne{q:Str}{lp:Pos}{TT:Addr}{H:Hp}(h:Tb q lp TT H){b:Addr}{o:HO}(e:H b=some o)(n:∀ ps,o≠.tbl ps):b≠TT:=fun z=>by
 rw[z]at e
 rcases h with y | ⟨_,y,_⟩<;>rw[y]at e<;>cases e<;>exact n _ rfl
def SmT(H H':Hp):Prop:=∀ b o,(∀ ps,o≠.tbl ps)->H b=some o->H' b=some o
theorem SmT.trans{H H1 H2:Hp}(a:SmT H H1)(b:SmT H1 H2):SmT H H2:=fun c o n e=>b c o n (a c o n e)
theorem SmT.of{H H':Hp}(s:Same H H'):SmT H H':=fun c o _ e=>s c o e
theorem TbS.smT{q:Str}{lp:Pos}{TT:Addr}{H H':Hp}(s:TbS TT H H')(h:Tb q lp TT H):SmT H H':=fun b o n e=>s b o (tb_ne h e n) e
theorem SmT.lst{H H':Hp}(s:SmT H H'){b:Addr}{xs:List V}(e:H b=some (.lst xs)):H' b=some (.lst xs):=s _ _ (fun ps z=>by cases z) e
theorem SmT.tup{H H':Hp}(s:SmT H H'){b:Addr}{xs:List V}(e:H b=some (.tup xs)):H' b=some (.tup xs):=s _ _ (fun ps z=>by cases z) e
theorem FdAt.mono{n:Nat}{ls:List Lk}{H H':Hp}{v:V}{s:Nat}(h:FdAt n ls H v s)(sm:SmT H H'):FdAt n ls H' v s:=by
 obtain⟨t,ta,va,TL,VL,e,h1,h2,h3,h4⟩:=h
 exact⟨t,ta,va,TL,VL,e,sm.tup h1,sm.lst h2,sm.lst h3,h4⟩
theorem LnAt.smT{H H':Hp}{v:V}{r:List Lk}(h:LnAt H v r)(s:SmT H H'):LnAt H' v r:=by
 obtain⟨a,ys,e,z,l⟩:=h
 exact⟨a,ys,e,s.lst z,l.imp fun _ _ ⟨t,e,q⟩=>⟨t,e,s.tup q⟩⟩
def LT(H H':Hp):Prop:=(∀ b xs,H b=some (.lst xs)->H' b=some (.lst xs))/\∀ b xs,H b=some (.tup xs)->H' b=some (.tup xs)
theorem LT.same{H H':Hp}(s:Same H H'):LT H H':=⟨fun _ _ e=>s _ _ e,fun _ _ e=>s _ _ e⟩
theorem LT.tbS{H H':Hp}{tb:Addr}{kvs:List (Key×V)}(s:TbS tb H H')(h:H tb=some (.dK kvs)):LT H H':=⟨fun b xs e=>s _ _ (fun z=>by rw[z,h]at e;cases e) e,fun b xs e=>s _ _ (fun z=>by rw[z,h]at e;cases e) e⟩
theorem FdAt.lt{n:Nat}{ls:List Lk}{H H':Hp}{v:V}{s:Nat}(h:FdAt n ls H v s)(sm:LT H H'):FdAt n ls H' v s:=by
 obtain⟨t,ta,va,TL,VL,e,h1,h2,h3,h4⟩:=h
 exact⟨t,ta,va,TL,VL,e,sm.2 _ _ h1,sm.1 _ _ h2,sm.1 _ _ h3,h4⟩
theorem iL.uniq{H:Hp}{v:V}{t t':Int}(h:iL H v t)(h':iL H v t'):t=t':=by
 obtain⟨a,y,z,e,q⟩:=h
 obtain⟨a',y',z',e',q'⟩:=h'
 rw[e]at e'
 cases e'
 rw[q]at q'
 cases q'
 rfl
theorem zZ{ks:List Nat}{N:Nat}(h:∀ k∈ks,k<N):dZ ks<2^N:=Nat.lt_pow_two_of_testBit _ fun i hi=>by
 rw[fc]
 exact decide_eq_false fun z=>by have:=h i z;omega
theorem xh(ks:List Nat):dZ ks.reverse=dZ ks:=EE fun i=>by
 rw[fc,fc]
 exact decide_eq_decide.mpr G5
def PrI(v:V)(n mk m N:Nat)(ls:List Lk)(r fa bv tb:Addr)(kvs:List (Key×V))(t:Int)(H8:Hp)(σ:St)(H:Hp):Prop:=∃(c u:Nat)(v10 v11:Option V)(w:V)(tc:Int),σ = [some (.int (n:Int)),some v,some (.int (mk:Int)),some (.ref r),some (.ref fa),some (.ref bv),some (.ref tb),some (.int (c:Int)),some (.int t),some (.int (u:Int)),v10,v11]/\Same H8 H/\valV kvs (.inl (c:Int))=some w/\iL H8 w tc/\u<2^N/\oddE ls u N=mk^^^RM (fun i=>(bl mk).getD i 0) c m/\cstU ls u N<=t-tc
def jC(OM PD TR TT:Addr):Sp:=fun vs H Q E=>∃(v:V)(n mk:Nat)(ls:List Lk),vs = [.int (n:Int),v,.int (mk:Int)]/\LnAt H v ls/\Lok n ls/\1<=n/\mk<2^n/\Rfs OM PD TR n mk ls H E/\Tb lqF lpF TT H /\
 ((bl mk).length%2=0->Conn n ls->(bl mk).length<=14->∀(t:Addr)(cost:Int)(u:Nat) H',SmT H H'->Tb lqF lpF TT H'->H' t=some (.tup [.int cost,.int (u:Int)])->u<2^ls.length->oddE ls u ls.length=mk->Opt (farD ls) (bl mk) cost->cstU ls u ls.length<=cost->Q (.ref t) H')
def RwA(ls:List Lk)(mk:Nat)(H:Hp)(v:V)(s:Nat):Prop:=∃ p,v=V.ref p/\H p=some (.lst ((bl mk).map fun x=>V.int (farD ls s x)))
noncomputable def dR (ls:List Lk) (mk:Nat) (i j:Nat):Int:=farD ls ((bl mk).getD i 0) ((bl mk).getD j 0)
section
variable{P:Program}{w:World}{K:DE}{mg:Str->Option Value}{base:Heap}
theorem bh:aJ ["many","links","marks","rooms","found","between","table","left","cost","used","first","mate"] ["many","links","marks"] (ak fB):=⟨rfl,rfl,rfl,by decide +kernel,rfl,by decide +kernel,by decide +kernel⟩
theorem uw{OM PD TR TT f f1 f2 f3 f4 f5 f6 f7 f8:Addr}{fd fd1 fd2 fd3 fd4 fd5 fd6 fd7 fd8:FuncData} (F:Fun K "paired" "paired" fB f fd) (T:Txt mg) (G_refuse_marks:CalX P w K mg base 4 "refuse_marks" ["many","links","marks"] (sk OM PD TR) f1 fd1) (G_bits:Cal P w K mg base 1 "bits" ["mask"] gM f2 fd2) (G_fares:Cal P w K mg base 2 "fares" ["many","links","start"] (mR TT) f3 fd3)
  (G_chosen_of:Cal P w K mg base 1 "chosen_of" ["entries","numbers"] jc f4 fd4) (G_new_table:Cal P w K mg base 1 "new_table" [] mQ f5 fd5) (GL:∀(D:Nat->Nat->Int)(m:Nat),(∀ a b,D a b=D b a)->Cal P w K mg base 10 "laid_in_pairs" ["between","chosen","table"] (lY D m 8) f6 fd6)
  (G_mask_of:Cal P w K mg base 1 "mask_of" ["places"] (vU K) f7 fd7) (G_row_to:Cal P w K mg base 2 "row_to" ["links","via","room"] BQ f8 fd8):FnOk P w K mg base (CXr P w) 11 f fd ["many","links","marks"] (jC OM PD TR TT):=by
 refine F.okX bh (fun vs H Q E h=>?_) (fun cdv A outer s H vs Q E hr h=>?_)
 ·obtain⟨v,n,mk,ls,rfl,_⟩:=h
  rfl
 obtain⟨v,n,mk,ls,rfl,hV,ok,n1,hmk,rf,tb0,kx⟩:=h
 have hu:=uU hr
 have n40:=ok.n1
 have l60:=ok.l9
 have G_laid_in_pairs:=GL (dR ls mk) (bl mk).length (fun a b=>xR _ _ _)
 have mlt:mk<1099511627776:=by
  have h1:2^n<=2^40:=E4 (by decide) n40
  have e40:(2:Nat)^40=1099511627776:=by decide
  omega
 have rlt:∀ x∈bl mk,x<n:=fun x hx=>lQ hmk hx
 refine⟨_,(af (bM (m8 G_refuse_marks.ok (hr.mono (by decide)) rfl G_refuse_marks.mg G_refuse_marks.kp G_refuse_marks.bn .nil lX rfl (ae (pv 0) (ae (pv 1) (ae (pv 2) ai)))))
   (af (ar (i:=3) bh.nd rfl (Or.inr rfl) (ay G_bits.ok (hr.mono (by decide)) rfl G_bits.mg G_bits.kp G_bits.bn .nil aX (ae (pv 2) ai)))
   (af (bL (i:=4) rfl bh.nd rfl rfl (fr:=[("many",0),("links",1)]) (xs:=["room"]) (eQ.of (by rfl) (by decide +kernel) (by rfl) (by decide +kernel) (by intro p hp;simp only[DI,D7,or_false]at hp;rcases hp with rfl | rfl<;>exact⟨rfl,rfl⟩) (by decide +kernel) (by intro p hp;simp only[DI,D7,or_false]at hp;rcases hp with rfl | rfl<;>rfl)) (bu (pv 3)) (fun C ex s H=>(aC (i:=0) (show(["room","many","links"]:List Str).Nodup from by decide +kernel) rfl (Or.inl rfl))) (fun C ex s H=>de) (fun C ex s H=>(ay G_fares.ok (hr.mono (by decide)) rfl G_fares.mg G_fares.kp G_fares.bn .nil aX (ae (pv 1) (ae (pv 2) (ae (pv 0) ai))))))
   (af (bL (i:=5) rfl bh.nd rfl rfl (fr:=[("rooms",3)]) (xs:=["told","via"]) (eQ.of (by rfl) (by decide +kernel) (by rfl) (by decide +kernel) (by intro p hp;simp only[DI,D7,or_false]at hp;rcases hp with rfl<;>exact⟨rfl,rfl⟩) (by decide +kernel) (by intro p hp;simp only[DI,D7,or_false]at hp;rcases hp with rfl<;>rfl)) (bu (pv 4)) (fun C ex s H=>(jL (n:=2) (K:=K) rfl rfl (aW (aC (i:=0) (show(["told","via","rooms"]:List Str).Nodup from by decide +kernel) rfl (Or.inl rfl)) (aW (aC (i:=1) (show(["told","via","rooms"]:List Str).Nodup from by decide +kernel) rfl (Or.inl rfl)) eZ)))) (fun C ex s H=>de) (fun C ex s H=>(ay G_chosen_of.ok (hr.mono (by decide)) rfl G_chosen_of.mg G_chosen_of.kp G_chosen_of.bn .nil aX (ae (pv 0) (ae (pv 2) ai)))))
   (af (ar (i:=6) bh.nd rfl (Or.inl rfl) (sO G_new_table.ok (hr.mono (by decide)) rfl G_new_table.mg G_new_table.kp G_new_table.bn .nil aX))
   (af (ar (i:=7) bh.nd rfl (Or.inl rfl) (au fO (au bW ah (aP bC (by rfl) T.n_len kR (ae (pv 3) ai))) ah))
   (af (ar (i:=8) bh.nd rfl (Or.inl rfl) (aM cI (ay G_laid_in_pairs.ok (hr.mono (by decide)) rfl G_laid_in_pairs.mg G_laid_in_pairs.kp G_laid_in_pairs.bn .nil aX (ae (pv 5) (ae (pv 7) (ae (pv 6) ai)))) ah (fun _ _=>rfl)))
   (af (ar (i:=9) bh.nd rfl (Or.inl rfl) ah)
   (af (gP PassesOwn.leaving (aF qG (pv 7) ah (aN _)) (af (ar (i:=10) bh.nd rfl (Or.inl rfl) (aM cI (qF hu (pv 6) (pv 7) (fun _ _=>rfl)) ah (fun _ _=>rfl)))
   (af (ar (i:=11) bh.nd rfl (Or.inl rfl) (aM cI (qF hu (pv 6) (pv 7) (fun _ _=>rfl)) ah (fun _ _=>rfl)))
   (af (ar (i:=9) bh.nd rfl (Or.inl rfl) (au iP (pv 9) (ay G_mask_of.ok (hr.mono (by decide)) rfl G_mask_of.mg G_mask_of.kp G_mask_of.bn .nil aX (ae (ay G_row_to.ok (hr.mono (by decide)) rfl G_row_to.mg G_row_to.kp G_row_to.bn .nil aX (ae (pv 1) (ae (aM cI (aM aL (pv 4) (pv 10) (fun _ _=>rfl)) ah (fun _ _=>rfl)) (ae (aM aL (pv 3) (pv 11) (fun _ _=>rfl)) ai)))) ai))))
   (aq (ar (i:=7) bh.nd rfl (Or.inl rfl) (au iP (au iP (pv 7) (au bW ah (pv 10))) (au bW ah (pv 11)))))))))
   (aq (aV (iM (ae (pv 8) (ae (pv 9) ai)))))))))))))),?_⟩
 refine⟨_,rfl,_,rfl,_,rfl,v,n,mk,ls,rfl,hV,ok,n1,hmk,rf,fun ev hc few H1 s1=>?_⟩
 have kk:=kx ev hc few
 refine⟨_,rfl,(mk:Int),rfl,by omega,by omega,fun r H2 s2 hr0 hr2=>?_⟩
 rw[DV]at hr2
 have s12:=s1.trans s2
 have tb2:=aZ tb0 s12
 have hr2':H2 r=some (.lst ((bl mk).map iV)):=hr2
 have lenm:((bl mk).map iV).length=(bl mk).length:=DG ..
 refine⟨_,rfl,r,rfl,⟨_,SqL.of hr2'⟩,cq (K:=K) (xs:=(bl mk).map iV) (fun i zs H3=>SmT H2 H3/\Tb lqF lpF TT H3/\LsAt (FdAt n ls) H3 zs ((bl mk).take i)) (Ej (av (by omega))) ⟨fun _ _ _ e=>e,tb2,LsAt.nil⟩ (fun i zs H3 _ z=>SqL.of (z.1.lst hr2')) ?_ ?_ ?_⟩
 ·rintro i x zs H3 hx ⟨sm3,tb3,hZ⟩
  rw[DK]at hx
  obtain⟨k,hk,rfl⟩:=Ec.mp hx
  refine⟨rfl,yesT ⟨_,rfl,_,rfl,_,rfl,v,n,k,ls,rfl,LnAt.smT (hV.mono s12) sm3,ok,rlt k (DH hk),tb3,fun t ta va TL VL H4 sm4 tb4 _ _ ht hta hva fi=>?_⟩⟩
  have sm34:=TbS.smT sm4 tb3
  refine⟨sm3.trans sm34,tb4,?_⟩
  rw[Ez,hk]
  exact(hZ.imp fun _ _ q=>q.mono sm34).snoc ⟨t,ta,va,TL,VL,rfl,ht,hta,hva,fi⟩
 ·rintro zs H3 ⟨sm3,tb3,hZ⟩ fa hfa
  rw[lenm,EG]at hZ
  have z4:=ao hfa (.lst zs)
  have sm24:SmT H2 (upd H3 fa (.lst zs)):=sm3.trans (.of z4)
  have tb4:=aZ tb3 z4
  have hZ4:LsAt (FdAt n ls) (upd H3 fa (.lst zs)) zs (bl mk):=hZ.imp fun _ _ q=>q.mono (.of z4)
  have gfa:(upd H3 fa (.lst zs)) fa=some (.lst zs):=ag
  generalize upd H3 fa (.lst zs)=H4 at sm24 tb4 hZ4 gfa
  have zl:=hZ4.1
  have hr4:=sm24.lst hr2'
  refine⟨_,rfl,fa,rfl,⟨_,SqL.of gfa⟩,cq (K:=K) (xs:=zs) (fun i ws H5=>Same H4 H5/\LsAt (RwA ls mk) H5 ws ((bl mk).take i)) (Ej (av (by omega))) ⟨fun _ _ e=>e,LsAt.nil⟩ (fun i ws H5 _ z=>SqL.of (z.1 _ _ gfa)) ?_ ?_ ?_⟩
  ·rintro i x ws H5 hx ⟨s5,hW⟩
   obtain⟨s0,hs0,t,ta,va,TL,VL,rfl,ht,hta,hva,fi⟩:=hZ4.get hx
   have slt:=rlt s0 (DH hs0)
   refine⟨t,_,rfl,SqT.of (s5 _ _ ht),rfl,_,_,rfl,_,_,rfl,rfl,rfl,yesT ⟨_,rfl,_,rfl,ta,r,_,(bl mk).map fun x=>V.int (farD ls s0 x),bl mk,rfl,s5 _ _ hta,s5 _ _ hr4,DG ..,by omega,fun j k hk=>?_,fun q H6 s6 hq0 hq=>?_⟩⟩
   ·refine⟨.int (farD ls s0 k),?_,by rw[DK,hk];rfl⟩
    exact qL (fi.is hc slt (rlt k (DH hk)))
   ·refine⟨s5.trans s6,?_⟩
    rw[Ez,hs0]
    exact(hW.imp fun _ _ ⟨p,e,z⟩=>⟨p,e,s6 _ _ z⟩).snoc ⟨q,rfl,hq⟩
  ·rintro ws H5 ⟨s5,hW⟩ bv hbv
   rw[zl,EG]at hW
   have z6:=ao hbv (.lst ws)
   refine⟨rfl,fun tb t0 H7 s7 htb0 htb ht0=>?_⟩
   have s57:Same H4 H7:=s5.trans (z6.trans s7)
   have hW7:LsAt (RwA ls mk) H7 ws (bl mk):=hW.imp fun _ _ ⟨p,e,z⟩=>⟨p,e,s7 _ _ (z6 _ _ z)⟩
   have hbv7:H7 bv=some (.lst ws):=s7 _ _ ag
   have at':∀ i,i<(bl mk).length->(bl mk)[i]?=some ((bl mk).getD i 0):=fun i hi=>by rw[DD,DB hi];rfl
   have bt:BtAt H7 (.ref bv) (dR ls mk) (bl mk).length:=⟨bv,ws,rfl,hbv7,fun i hi=>by
    obtain⟨y,hy,p,rfl,hp⟩:=hW7.2 i _ (at' i hi)
    exact⟨p,_,hy,hp,fun k hk=>by rw[DK,at' k hk];rfl⟩⟩
   have ti:TI H7 (dR ls mk) (bl mk).length [(.inl ((0:Nat):Int),.ref t0)]:=⟨(fun k w e=>by
    by_cases c:(Sum.inl ((0:Nat):Int):Key)=k
    ·rw[aY c]at e
     cases e
     exact⟨0,c.symm,Fb _,.inl ⟨rfl,t0,_,_,rfl,ht0⟩⟩
    ·rw[a9 c]at e
     cases e),⟨_,aY rfl⟩,Eo.mpr ⟨(by simp),Fu⟩⟩
   have hr7:=s57 _ _ hr4
   have tb7:=aZ tb4 s57
   have eL:(1:Int)*2^((((bl mk).map iV).length:Nat):Int).toNat-1=((2^(bl mk).length-1:Nat):Int):=by
    rw[lenm,shlN]
    have:=Fb (bl mk).length
    omega
   refine⟨_,rfl,r,_,rfl,.inl (SqL.of hr7),_,_,rfl,rfl,⟨by omega,by rw[lenm];omega,by decide⟩,_,_,rfl,rfl,?_⟩
   simp only[eL]
   have lfull:(bl (2^(bl mk).length-1)).length=(bl mk).length:=by rw[(n6 _).length_eq,EH]
   refine⟨_,rfl,_,rfl,_,rfl,.ref bv,tb,2^(bl mk).length-1,_,rfl,bt,htb,ti,by have:=Fb (bl mk).length;omega,few,by rw[lfull];omega,by rw[lfull];exact ev,fun w t kvs' H8 sT hT' ti' gr hv cv op=>?_⟩
   have lt78:=LT.tbS sT htb
   obtain⟨va,y,z,rfl,hva⟩:=id cv
   refine⟨va,_,0,_,rfl,rfl,SqT.of hva,a30,?_⟩
   have optR:Opt (farD ls) (bl mk) t:=Opt.rooms (ij mk) op
   have tb8:Tb lqF lpF TT H8:=jA tb7 fun b hb=>by
    have hs:∃ o,H7 b=some o/\b≠tb:=by
     rcases hb with rfl | ⟨c',hb⟩
     ·rcases tb7 with q | ⟨_,q,_⟩
      ·exact⟨_,q,fun z=>by rw[z,htb]at q;cases q⟩
      ·exact⟨_,q,fun z=>by rw[z,htb]at q;cases q⟩
     ·exact⟨_,hb,fun z=>by rw[z,htb]at hb;cases hb⟩
    obtain⟨o,h1,h2⟩:=hs
    rw[h1]
    exact sT _ _ h2 h1
   have smT8:SmT H H8:=fun b o no e=>by
    have e4:=sm24 b o no (s12 _ _ e)
    have e7:=s57 _ _ e4
    refine sT _ _ (fun z=>?_) e7
    subst z
    have:=cK (s5.trans z6) htb0
    rw[this]at e4;cases e4
   have hZ8:LsAt (FdAt n ls) H8 zs (bl mk):=hZ4.imp fun _ _ q=>(q.lt (LT.same s57)).lt lt78
   have hfa8:=lt78.1 _ _ (s57 _ _ gfa)
   have hr8:=lt78.1 _ _ hr7
   have hV8:LnAt H8 v ls:=(LnAt.smT hV smT8)
   refine gK (PrI v n mk (bl mk).length ls.length ls r fa bv tb kvs' t H8) (fun σ _=>match σ with | [_,_,_,_,_,_,_,some (.int c),_,_,_,_]=>c.toNat | _=>0) ⟨2^(bl mk).length-1,0,_,_,_,t,rfl,fun _ _ e=>e,hv,cv,Fb _,by rw[jP,RM_all,F0],by rw[kF];omega⟩ ?_ ?_
   ·rintro σ H9 ⟨c,u,v10,v11,w,tc,rfl,s9,hw,cw,ult,ou,cu⟩
    obtain⟨c',ec',clt,en⟩:=ti'.en _ _ hw
    have ecc:c'=c:=by
     have:(c:Int)=(c':Int):=by injection ec'
     omega
    subst ecc
    refine⟨_,rfl,rfl,_,rfl,?_⟩
    by_cases c0:c'=0
    ·subst c0
     refine uT rfl ?_
     have t0':tc=0:=by
      rcases en with⟨_,q⟩ | ⟨_,f,_,_,_,_,_,_,q,_⟩
      ·exact cw.uniq q
      ·rw[rQ]at q;cases q
     refine⟨_,rfl,_,rfl,(by show 2<=sizeLine;decide),fun t9 ht9=>?_⟩
     have z9:=ao ht9 (.tup [.int t,.int (u:Int)])
     refine kk t9 t u _ (smT8.trans (.of (s9.trans z9))) (aZ tb8 (s9.trans z9)) ag ult ?_ optR (by omega)
     rw[ou,yS,G0]
    ·refine ite2 (fun _=>?_) (fun z=>absurd (by rw[decide_eq_false (fun y=>c0 (by have:=V.int.inj y;omega))];rfl) z)
     obtain⟨tt,f,g,a,vr,tr,rfl,ha,hf,hg,fg,hvr,cvr,ett,_⟩:∃(t:Int)(f g:Nat)(a:Addr)(vr:V)(tr:Int),w=.ref a/\H8 a=some (.tup [.int t,.int (f:Int),.int (g:Int)])/\f∈bl c'/\g∈bl c'/\f≠g/\valV kvs' (.inl ((cut2 c' f g:Nat):Int))=some vr/\iL H8 vr tr/\t=dR ls mk f g+tr/\Opt (dR ls mk) (bl c') t:=by
      rcases en with⟨q,_⟩ | q
      ·exact absurd q c0
      ·exact q
     have etc:tc=tt:=cw.uniq ⟨a,_,_,rfl,ha⟩
     have flt:=lQ clt hf
     have glt:=lQ clt hg
     have hT9:=s9 _ _ hT'
     have ha9:=s9 _ _ ha
     have dg:DGet H9 tb (.int (c':Int)) (some (.ref a)):=by have:=DGet.k (k:=.inl ((c':Nat):Int)) hT9;rw[hw]at this;exact this
     refine⟨_,rfl,_,rfl,tb,_,rfl,dg,a,_,1,_,rfl,rfl,SqT.of ha9,a31,?_⟩
     refine⟨_,rfl,_,rfl,tb,_,rfl,dg,a,_,2,_,rfl,rfl,SqT.of ha9,a32,?_⟩
     obtain⟨y,hy,tF,taF,vaF,TL,VL,rfl,htF,htaF,hvaF,fi⟩:=hZ8.2 f _ (at' f flt)
     have gl:=rlt _ (DH (at' g glt))
     have fl:=rlt _ (DH (at' f flt))
     have xg:=fi.is hc fl gl
     obtain⟨j,up⟩:=fi.up _ _ xg
     obtain⟨ks,pth,kl⟩:=up.path
     have sh:=up.short fi.vs
     have vl:=fi.vl
     obtain⟨j1,j2,j3⟩:=pth.join fi
     have j3':=j3 _ xg
     refine⟨_,rfl,_,rfl,_,rfl,_,rfl,fa,_,_,_,rfl,rfl,SqL.of (s9 _ _ hfa8),aH hy,tF,_,1,_,rfl,rfl,SqT.of (s9 _ _ htF),at1,_,rfl,_,rfl,r,_,_,_,rfl,rfl,SqL.of (s9 _ _ hr8),aH (show((bl mk).map iV)[g]?=some (V.int (((bl mk).getD g 0:Nat):Int)) by rw[DK,at' g glt];rfl),v,vaF,(bl mk).getD g 0,(bl mk).getD f 0,ls,VL,ks,rfl,hV8.mono s9,s9 _ _ hvaF,fi.vs,pth,by omega,fun q H10 s10 hq=>?_⟩
     refine⟨q,ks.reverse,rfl,SqL.of hq,fun k hk=>by have:=j1 k (G5.mp hk);omega,_,_,rfl,rfl,?_⟩
     have ex:Builtin.bitXor (u:Int) ((dZ ks.reverse:Nat):Int)=((u^^^dZ ks:Nat):Int):=by rw[xh,xorN]
     simp only[ex]
     refine⟨_,rfl,_,rfl,_,_,rfl,rfl,⟨by omega,by omega,by decide⟩,_,_,rfl,rfl,_,rfl,_,_,rfl,rfl,⟨by omega,by omega,by decide⟩,_,_,rfl,rfl,?_⟩
     have ec:Builtin.bitXor (Builtin.bitXor (c':Int) (1*2^((f:Nat):Int).toNat)) (1*2^((g:Nat):Int).toNat)=((cut2 c' f g:Nat):Int):=by rw[shlN,shlN,xorN,xorN];rfl
     simp only[ec]
     have cx:=nQ ls (fun l hl=>(ok.w0 l hl).1) u (dZ ks) ls.length (DF _)
     refine⟨⟨cut2 c' f g,u^^^dZ ks,some (.int (f:Int)),some (.int (g:Int)),vr,tr,rfl,s9.trans s10,hvr,cvr,FP ult (zZ j1),?_,?_⟩,?_⟩
     ·rw[nh,ou,j2]
      unfold cut2
      rw[yT,yT,yU,yU,if_pos flt,if_pos glt,ET,ET]
     ·have ed:dR ls mk f g=farD ls ((bl mk).getD f 0) ((bl mk).getD g 0):=rfl
      omega
     ·show((cut2 c' f g:Nat):Int).toNat<((c':Nat):Int).toNat
      have:=yi hf hg fg
      omega
   ·rintro σ H9 Q1 Q2 hi ⟨v1,e1,e2,b,e3,q⟩
    exact⟨v1,e1,e2,b,e3,hi _ _ q⟩
  ·rintro i ws H5 ⟨_,hW⟩
   rw[hW.1,DY]
   omega
 ·rintro i zs H3 ⟨_,_,hZ⟩
  rw[hZ.1,DY]
  omega
end
end KF
namespace KF
open PySem L2
local macro_rules | `(tactic| walk_at "cc") => `(tactic| first | exact ⟨by decide, by decide⟩ | (show (0 : Int) < _; decide) | (show (0 : Int) < _; omega) | (show (0 : Int) ≤ _; omega) | exact ⟨by decide, by decide, by decide⟩ | exact ⟨by omega, by omega, by decide⟩ | exact Or.inl ⟨by decide, by decide⟩ | exact Or.inl ⟨by omega, by omega⟩)
local macro_rules | `(tactic| walk_at "rd") => `(tactic| repeat (first | refine ⟨_, rfl, ?_⟩ | refine ⟨_, _, rfl, rfl, ?_⟩ | refine ⟨rfl, ?_⟩ | (refine ⟨?cc, ?_⟩; (case cc => walk_at "cc"))))
def c6(ns:List Int)(k:Nat):Int:=ns.getD k 0
def sx(K:DE):Sp:=fun vs H Q _=>∃(a:Addr)(k:Nat)(ns:List Int),vs = [.ref a,.int (k:Int)]/\SqL K H a (ns.map V.int)/\Q (.int (c6 ns k)) H
def qv:Sp:=fun vs H Q _=>∃(c:Int)(n:Nat),vs = [.int c,.int (n:Int)]/\n<=40/\∀(p:Addr)(rs:List Nat) H',Same H H'->H p=none->H' p=some (.lst (rs.map iV))->rs.length=n->rs.Nodup->(∀ x∈rs,x<n)->Q (.ref p) H'
section
variable{P:Program}{w:World}{K:DE}{mg:Str->Option Value}{base:Heap}
theorem lD:aJ ["script","k"] ["script","k"] (ak bF):=⟨rfl,rfl,rfl,by decide +kernel,rfl,by decide +kernel,by decide +kernel⟩
theorem Cv{f:Addr}{fd:FuncData} (F:Fun K "_law_cell_at" "_law_cell_at" bF f fd) (T:Txt mg):FnOk P w K mg base CX0 1 f fd ["script","k"] (sx K):=by
 refine F.ok lD (fun vs H Q E h=>?_) (fun cdv A outer s H vs Q E hr h=>?_)
 ·obtain⟨a,k,ns,rfl,_⟩:=h
  rfl
 obtain⟨a,k,ns,rfl,hS,q⟩:=h
 refine⟨_,(af (di (aF Ck (pv 1) (aP bC (by rfl) T.n_len kR (ae (pv 0) ai)) (aN _)) (aq (aV (aM aL (pv 0) (pv 1) (fun _ _=>rfl)))) bf)
   (aq (aV ah))),?_⟩
 refine⟨_,rfl,_,rfl,a,_,rfl,.inl hS,_,_,rfl,rfl,_,rfl,?_⟩
 refine ite2 (fun c=>?_) (fun c=>?_)
 ·have c':(k:Int)<((ns.map V.int).length:Int):=of_decide_eq_true c
  rw[DG]at c'
  have hk:k<ns.length:=by omega
  have hat:atI (ns.map V.int) (k:Int)=some (.int (c6 ns k)):=aH (by rw[DK,DB hk];unfold c6;rw[DD,DB hk];rfl)
  exact⟨_,rfl,_,rfl,a,_,_,_,rfl,rfl,hS,hat,q⟩
 ·have c':¬ (k:Int)<((ns.map V.int).length:Int):=fun z=>c (decide_eq_true z)
  rw[DG]at c'
  have e:c6 ns k=0:=by unfold c6;rw[DD,F1 (by omega)];rfl
  rw[e]at q
  exact q
theorem c7:aJ ["cell","many","names","room","mixed"] ["cell","many"] (ak cm):=⟨rfl,rfl,rfl,by decide +kernel,rfl,by decide +kernel,by decide +kernel⟩
theorem zJ{f:Addr}{fd:FuncData} (F:Fun K "_law_names" "_law_names" cm f fd) (T:Txt mg):FnOk P w K mg base CX0 1 f fd ["cell","many"] qv:=by
 refine F.ok c7 (fun vs H Q E h=>?_) (fun cdv A outer s H vs Q E hr h=>?_)
 ·obtain⟨c,n,rfl,_⟩:=h
  rfl
 obtain⟨c,n,rfl,n40,kk⟩:=h
 refine⟨_,(af (ar (i:=2) c7.nd rfl (Or.inl rfl) (fN ai))
   (af (dM PassesOwn.never rfl (bV rfl T.n_range (ae (pv 1) ai)) (aC (i:=3) c7.nd rfl (Or.inl rfl)) (af (ar (i:=4) c7.nd rfl (Or.inl rfl) (au bP (au jO (au jO (au cH (au bP (pv 0) ah) ah) (au cH (pv 3) ah)) ah) ah))
   (aq (bM (iY Es PySem.F.slot_list_insert PySem.F.type_list_insert w4 (pv 2) (ae (au bP (pv 4) (au cH (pv 3) ah)) (ae (pv 3) ai)))))))
   (aq (aV (pv 2))))),?_⟩
 refine⟨(by show 0<=sizeLine;decide),fun l hl=>?_⟩
 refine⟨_,rfl,_,rfl,by omega,by omega,kj (n:=n) (fun i σ H2=>∃(v3 v4:Option V)(rs:List Nat),σ = [some (.int c),some (.int (n:Int)),some (.ref l),v3,v4]/\Same H H2/\H2 l=some (.lst (rs.map iV))/\rs.length=i/\rs.Nodup/\∀ x∈rs,x<i) ⟨_,_,[],rfl,ao hl _,ag,rfl,Fu,fun x h=>nomatch h⟩ ?_ ?_⟩
 ·rintro i σ H2 hi ⟨v3,v4,rs,rfl,s2,hl2,rl,nd,lt⟩
  have e0:(0:Int)+(i:Int)=(i:Int):=FO _
  rw[e0]
  refine⟨_,rfl,_,_,rfl,rfl,(by show(0:Int)<1000000007;decide),_,_,rfl,rfl,_,rfl,_,_,rfl,rfl,_,_,rfl,rfl,.inr ⟨by show -(2^64:Int)<(i:Int)+3;omega,by show(i:Int)+3<(2^64:Int);omega⟩,_,_,rfl,rfl,.inr ⟨by decide,by decide⟩,_,_,rfl,rfl,(by show(0:Int)<2147483647;decide),?_⟩
  obtain⟨mx,emx⟩:∃ mx,(c%1000000007+77)*((i:Int)+3)*48271%2147483647=mx:=⟨_,rfl⟩
  simp only[emx]
  have ip:(0:Int)<(i:Int)+1:=by omega
  have k0:=ES mx (show(i:Int)+1≠0 by omega)
  have k1:=Fe mx ip
  refine⟨_,rfl,.inl ⟨rfl,_,SqL.of hl2⟩,_,rfl,_,rfl,_,_,rfl,rfl,_,_,rfl,rfl,ip,_,rfl,l,_,_,_,rfl,rfl,hl2,k0,by rw[DG,rl];omega,av (by rw[DG];omega),?_⟩
  have ev:(rs.map iV).take (mx%((i:Int)+1)).toNat++V.int (i:Int)::(rs.map iV).drop (mx%((i:Int)+1)).toNat=(rs.take (mx%((i:Int)+1)).toNat++i::rs.drop (mx%((i:Int)+1)).toNat).map iV:=by
   rw[Ex,D6,List.map_take,List.map_drop]
   rfl
  rw[ev]
  have pm:(rs.take (mx%((i:Int)+1)).toNat++i::rs.drop (mx%((i:Int)+1)).toNat).Perm (i::rs):=by
   have:=List.perm_middle (a:=i) (l₁:=rs.take (mx%((i:Int)+1)).toNat) (l₂:=rs.drop (mx%((i:Int)+1)).toNat)
   rw[D8]at this
   exact this
  refine⟨_,_,_,rfl,bQ s2 hl _,ag,by rw[pm.length_eq,DZ,rl],pm.nodup_iff.mpr (Eo.mpr ⟨fun z=>by have:=lt i z;omega,nd⟩),fun x hx=>?_⟩
  rcases DI.mp (pm.mem_iff.mp hx)with z | z
  ·omega
  ·have:=lt x z;omega
 ·rintro σ H2 ⟨v3,v4,rs,rfl,s2,hl2,rl,nd,lt⟩
  exact⟨_,rfl,kk l rs H2 s2 hl hl2 rl nd lt⟩
end
end KF
namespace KF
open PySem L2
local macro_rules | `(tactic| walk_at "cc") => `(tactic| first | exact ⟨by decide, by decide⟩ | (show (0 : Int) < _; decide) | (show (0 : Int) < _; omega) | (show (0 : Int) ≤ _; omega) | exact ⟨by decide, by decide, by decide⟩ | exact ⟨by omega, by omega, by decide⟩ | exact Or.inl ⟨by decide, by decide⟩ | exact Or.inl ⟨by omega, by omega⟩)
local macro_rules | `(tactic| walk_at "rd") => `(tactic| repeat (first | refine ⟨_, rfl, ?_⟩ | refine ⟨_, _, rfl, rfl, ?_⟩ | refine ⟨rfl, ?_⟩ | (refine ⟨?cc, ?_⟩; (case cc => walk_at "cc"))))
structure TxtL(mg:Str->Option Value):Prop extends Txt mg where
 n_max:mg "max" = none
 n_sum:mg "sum" = none
 n_dict:mg "dict" = none
theorem Wk.mem{es ls:List Lk}(h:∀ l∈es,l∈ls){a b:Nat}{x:Int}(w:Wk es a b x):Wk ls a b x:=by
 induction w with
 |nil=>exact .nil _
 |step _ hl he ih =>
  obtain⟨j,hj,e⟩:=EN (h _ (DH hl))
  exact .step ih (by rw[DB hj,e]) he
theorem nd_all{n:Nat}{rs:List Nat}(nd:rs.Nodup)(lt:∀ x∈rs,x<n)(l:rs.length=n){b:Nat}(hb:b<n):b∈rs:=by
 by_cases c:b∈rs
 ·exact c
 ·have:=fG n (b::rs) (Eo.mpr ⟨c,nd⟩) fun x hx=>by
   rcases DI.mp hx with rfl | hx
   ·exact hb
   ·exact lt x hx
  rw[DZ]at this
  omega
theorem ls_rot{H:Hp}{ys:List V}{es:List Lk}(h:LsAt LkAt H ys es)(c:Nat):LsAt LkAt H (ys.drop c++ys.take c) (es.drop c++es.take c):=by
 have hl:=h.1
 refine⟨by rw[DL,DL,Ek,Ek,DY,DY,hl],fun i x e=>?_⟩
 rw[List.getElem?_append,Ek]at e ⊢
 rw[← hl]at e
 by_cases z:i<ys.length-c
 ·rw[if_pos z,Fm]at e ⊢
  exact h.2 _ _ e
 ·rw[if_neg z,Fv]at e ⊢
  by_cases z2:i-(ys.length-c)<c
  ·rw[if_pos z2]at e ⊢
   exact h.2 _ _ e
  ·rw[if_neg z2]at e;cases e
theorem LkAt.put{H:Hp}{v:V}{p:Lk}{q:Addr}{us zs:List V}(h:LkAt H v p)(hq:H q=some (.lst us)):LkAt (upd H q (.lst zs)) v p:=by
 obtain⟨t,e,z⟩:=h
 exact⟨t,e,by rw[aj (fun y=>by rw[y,hq]at z;cases z)];exact z⟩
theorem cut_hi{xs:List V}{c:Nat}(h:c<=xs.length):cutV xs (some (c:Int)) none=xs.drop c:=by
 unfold cutV
 rw[HT.sIx_nat,Fo h]
 show(xs.drop c).take (xs.length-c)=_
 exact Er (by rw[Ek];exact DF _)
theorem cut_lo{xs:List V}{c:Nat}(h:c<=xs.length):cutV xs none (some (c:Int))=xs.take c:=by
 unfold cutV
 rw[HT.sIx_nat,Fo h]
 show(xs.drop 0).take (c-0)=_
 rw[FY,Nat.sub_zero]
structure DrI(n:Nat)(rs:List Nat)(es:List Lk)(i:Nat):Prop where
 len:es.length=i
 sm:∀ x∈es,x.1<n/\x.2.1<n
 w0:∀ x∈es,0<=x.2.2/\x.2.2<=(MM:Int)
 co:∀ k,k<=i->k<n->∃ x,Wk es (rs.getD 0 0) (rs.getD k 0) x
theorem DrI.put{n:Nat}{rs:List Nat}{es:List Lk}{i:Nat}(h:DrI n rs es i){l:Lk}{o t:Nat}(hn:rs.length=n)(hlt:∀ x∈rs,x<n)(ho:o<n)(ht:t<n)(w0:0<=l.2.2/\l.2.2<=(MM:Int))(e1:l.1=rs.getD o 0)(e2:l.2.1=rs.getD t 0)
  (g:i<n-1->(o=i+1/\t<=i)∨(t=i+1/\o<=i)):DrI n rs (es++[l]) (i+1) where
 len:=by rw[DL,h.len];rfl
 sm:=fun x hx=>by
  have at':∀ k,k<n->rs.getD k 0<n:=fun k hk=>by
   rw[DD,DB (by omega)]
   exact hlt _ (Ew _)
  rcases DN.mp hx with hx | hx
  ·exact h.sm x hx
  ·rw[DP.mp hx,e1,e2]
   exact⟨at' o ho,at' t ht⟩
 w0:=fun x hx=>by
  rcases DN.mp hx with hx | hx
  ·exact h.w0 x hx
  ·rw[DP.mp hx];exact w0
 co:=fun k hk kn=>by
  have old:∀ k,k<=i->k<n->∃ x,Wk (es++[l]) (rs.getD 0 0) (rs.getD k 0) x:=fun k a b=>by
   obtain⟨x,hx⟩:=h.co k a b
   exact⟨x,hx.mem fun l hl=>EC _ hl⟩
  by_cases c:k<=i
  ·exact old k c kn
  ·have ek:k=i+1:=by omega
   have hl:(es++[l])[i]?=some l:=by rw[D5 (by rw[h.len];exact DF _),h.len,E6];rfl
   rcases g (by omega) with⟨g1,g2⟩ | ⟨g1,g2⟩
   ·obtain⟨x,hx⟩:=old t g2 ht
    have w:=Wk.link hl (.inl rfl:g7 l l.1)
    have eb:bey l l.1=l.2.1:=by unfold bey;rw[if_pos rfl]
    rw[eb]at w
    have w':=w.rev
    rw[e1,e2]at w'
    rw[ek,← g1]
    exact⟨_,hx.trans w'⟩
   ·obtain⟨x,hx⟩:=old o g2 ho
    have w:=Wk.link hl (.inl rfl:g7 l l.1)
    have eb:bey l l.1=l.2.1:=by unfold bey;rw[if_pos rfl]
    rw[eb,e1,e2]at w
    rw[ek,← g1]
    exact⟨_,hx.trans w⟩
theorem DrI.conn{n:Nat}{rs:List Nat}{es:List Lk}{i:Nat}(h:DrI n rs es i)(hn:rs.length=n)(nd:rs.Nodup)(hlt:∀ x∈rs,x<n)(n1:1<=n)(hi:n-1<=i){ls:List Lk}(hm:∀ l∈es,l∈ls):Conn n ls:=by
 have one:∀ b,b<n->∃ x,Wk es (rs.getD 0 0) b x:=fun b hb=>by
  obtain⟨k,hk,e⟩:=EN (nd_all nd hlt hn hb)
  obtain⟨x,hx⟩:=h.co k (by omega) (by omega)
  rw[DD (i:=k),DB hk,e]at hx
  exact⟨x,hx⟩
 intro b hb
 obtain⟨x,hx⟩:=one 0 (by omega)
 obtain⟨y,hy⟩:=one b hb
 exact⟨_,(hx.rev.trans hy).mem hm⟩
def LbI(a l nm:Addr)(f0 n most:Nat)(rs:List Nat)(H:Hp)(i:Nat)(σ:St)(H3:Hp):Prop:=∃(v6 v7 v8 v9 v10 v11:Option V)(ys:List V)(es:List Lk),σ = [some (.ref a),some (.int (f0:Int)),some (.int (n:Int)),some (.int (most:Int)),some (.ref l),some (.ref nm),v6,v7,v8,v9,v10,v11]/\Same H H3/\H3 nm=some (.lst (rs.map iV))/\H3 l=some (.lst ys)/\LsAt LkAt H3 ys es/\DrI n rs es i
def rLb(a:Addr)(f0 n most:Nat)(H:Hp):TS:=fun D0 σ H3=>∃(l nm:Addr)(rs:List Nat)(i:Nat)(c mx:Int)(o t:Nat)(v11:Option V)(ys:List V)(es:List Lk),σ = [some (.ref a),some (.int (f0:Int)),some (.int (n:Int)),some (.int (most:Int)),some (.ref l),some (.ref nm),some (.int (i:Int)),some (.int c),some (.int mx),some (.int (o:Int)),some (.int (t:Int)),v11]/\H l=none/\rs.length=n/\(∀ x∈rs,x<n)/\Same H H3/\H3 nm=some (.lst (rs.map iV))/\H3 l=some (.lst ys)/\LsAt LkAt H3 ys es/\DrI n rs es i/\i<40/\l≠nm/\o<n/\t<n/\(i<n-1->(o=i+1/\t<=i)∨(t=i+1/\o<=i))/\∀ σ' H',LbI a l nm f0 n most rs H (i+1) σ' H'->D0.nx σ' H'
def spLb(K:DE):Sp:=fun vs H Q _=>∃(a:Addr)(f0 n most:Nat)(ns:List Int),vs = [.ref a,.int (f0:Int),.int (n:Int),.int (most:Int)]/\SqL K H a (ns.map V.int)/\ns.length<=63/\1<=n/\n<=40/\f0<=4/\most<=40/\n-1<=most /\
 ∀(l:Addr)(ys:List V) H' (ls:List Lk),Same H H'->H l=none->H' l=some (.lst ys)->LsAt LkAt H' ys ls->Lok n ls->ls.length<=40->Conn n ls->Q (.ref l) H'
section
variable{P:Program}{w:World}{K:DE}{mg:Str->Option Value}{base:Heap}
theorem aB:aJ ["script","first","many","most","links","names","k","cell","mixed","one","two","start"] ["script","first","many","most"] (ak bq):=⟨rfl,rfl,rfl,by decide +kernel,rfl,by decide +kernel,by decide +kernel⟩
theorem ok_lb{f f1 f2:Addr}{fd fd1 fd2:FuncData} (F:Fun K "_law_links_by" "_law_links_by" bq f fd) (T:TxtL mg) (G_law_cell_at:Cal P w K mg base 1 "_law_cell_at" ["script","k"] (sx K) f1 fd1) (G_law_names:Cal P w K mg base 1 "_law_names" ["cell","many"] qv f2 fd2):FnOk P w K mg base CX0 2 f fd ["script","first","many","most"] (spLb K):=by
 refine F.ok aB (fun vs H Q E h=>?_) (fun cdv A outer s H vs Q E hr h=>?_)
 ·obtain⟨a,f0,n,most,ns,rfl,_⟩:=h
  rfl
 obtain⟨a,f0,n,most,ns,rfl,hS,h63,n1,n40,hf0,hm40,hmost,kk⟩:=h
 have nl:(ns.map V.int).length=ns.length:=DG ..
 refine⟨_,(af (ar (i:=4) aB.nd rfl (Or.inl rfl) (fN ai))
   (af (ar (i:=5) aB.nd rfl (Or.inl rfl) (ay G_law_names.ok (hr.mono (by decide)) rfl G_law_names.mg G_law_names.kp G_law_names.bn .nil aX (ae (ay G_law_cell_at.ok (hr.mono (by decide)) rfl G_law_cell_at.mg G_law_cell_at.kp G_law_cell_at.bn .nil aX (ae (pv 0) (ae ah ai))) (ae (pv 2) ai))))
   (af (dM PassesOwn.never rfl (bV rfl T.n_range (ae (aP (yz rfl) (by rfl) T.n_min tP (ae (pv 3) (ae (aP (pS rfl) (by rfl) T.n_max Bu (ae (au fO (pv 2) ah) (ae (au iC (au cH (au fO (aP bC (by rfl) T.n_len kR (ae (pv 0) ai)) (pv 1)) ah) ah) ai))) ai))) ai)) (aC (i:=6) aB.nd rfl (Or.inl rfl)) (af (ar (i:=7) aB.nd rfl (Or.inl rfl) (ay G_law_cell_at.ok (hr.mono (by decide)) rfl G_law_cell_at.mg G_law_cell_at.kp G_law_cell_at.bn .nil aX (ae (pv 0) (ae (au cH (pv 1) (au jO ah (pv 6))) ai))))
   (af (ar (i:=8) aB.nd rfl (Or.inl rfl) (au bP (au jO (au bP (pv 7) ah) ah) ah))
   (af (ar (i:=9) aB.nd rfl (Or.inl rfl) (au bP (pv 8) (pv 2)))
   (af (ar (i:=10) aB.nd rfl (Or.inl rfl) (au bP (au bP (au jO (pv 8) (pv 8)) ah) (pv 2)))
   (af (di (aF Ck (pv 6) (au fO (pv 2) ah) (aN _)) (af (ar (i:=9) aB.nd rfl (Or.inl rfl) (au cH (pv 6) ah))
   (aq (ar (i:=10) aB.nd rfl (Or.inl rfl) (au bP (pv 8) (au cH (pv 6) ah))))) bf)
   (dh (t2:=rLb a f0 n most H) (af (di (aF f9 (au bP (au iC (pv 7) ah) ah) ah (aN _)) (aq (ps_par (i:=9) (j:=10) rfl aB.nd rfl rfl (by decide) rfl rfl (ae (pv 10) (ae (pv 9) ai)) rfl)) bf)
   (dh (t2:=rLb a f0 n most H) (aq (bM (iY Es EW EV cW (pv 4) (ae (iM (ae (aM aL (pv 5) (pv 9) (fun _ _=>rfl)) (ae (aM aL (pv 5) (pv 10) (fun _ _=>rfl)) (ae (au bP (ay G_law_cell_at.ok (hr.mono (by decide)) rfl G_law_cell_at.mg G_law_cell_at.kp G_law_cell_at.bn .nil aX (ae (pv 0) (ae (au cH (au cH (pv 1) (au jO ah (pv 6))) ah) ai))) (au cH (au op_pow ah ah) ah)) ai)))) ai)))) (fun D0 S0 H0 h0=>?restb))) (fun D0 S0 H0 h0=>?resta))))))))
   (af (ar (i:=11) aB.nd rfl (Or.inl rfl) (au bP (au iC (ay G_law_cell_at.ok (hr.mono (by decide)) rfl G_law_cell_at.mg G_law_cell_at.kp G_law_cell_at.bn .nil aX (ae (pv 0) (ae ah ai))) ah) (aP (pS rfl) (by rfl) T.n_max Bu (ae ah (ae (aP bC (by rfl) T.n_len kR (ae (pv 4) ai)) ai)))))
   (aq (aV (au Cm (jd mT (pv 4) (m5 (pv 11)) m6) (jd mT (pv 4) m6 (m5 (pv 11)))))))))),?_⟩
 case restb =>
  obtain⟨l,nm,rs,i,c,mx,o,t,v11,ys,es,rfl,hl,rl,rlt,s3,hnm,hl3,hY,dr,i40,lnm,ob,tb,g,kn⟩:=h0
  have at':∀ k,k<n->(rs.map iV)[k]?=some (iV (rs.getD k 0)):=fun k hk=>by rw[DK,DD,DB (by omega +splitDisjunctions)];rfl
  have hS3:=s3.seq hS
  have e1:(f0:Int)+2*(i:Int)+1=((f0+2*i+1:Nat):Int):=by push_cast;rfl
  refine⟨_,rfl,.inl ⟨rfl,_,SqL.of hl3⟩,_,rfl,_,rfl,nm,_,_,_,rfl,rfl,SqL.of hnm,aH (at' o ob),_,rfl,_,rfl,nm,_,_,_,rfl,rfl,SqL.of hnm,aH (at' t tb),_,rfl,_,rfl,_,rfl,_,_,rfl,rfl,.inr ⟨by omega +splitDisjunctions,by omega +splitDisjunctions⟩,_,_,rfl,rfl,_,_,rfl,rfl,a,f0+2*i+1,ns,congrArg (fun z=>[V.ref a,V.int z]) e1,hS3,_,_,rfl,rfl,⟨by decide,by decide,by decide⟩,_,_,rfl,rfl,_,_,rfl,rfl,(by show(0:Int)<10^(31:Int).toNat+1;decide),(by show 3<=sizeLine;decide),fun tt htt=>?_⟩
  have w0:=ES (c6 ns (f0+2*i+1)) (show(10:Int)^(31:Int).toNat+1≠0 by decide)
  have w1:=Fe (c6 ns (f0+2*i+1)) (show(0:Int)<10^(31:Int).toNat+1 by decide)
  have eM:((MM:Nat):Int)=10^(31:Int).toNat:=by unfold MM;rfl
  obtain⟨lk,elk⟩:∃ lk:Lk,lk=(rs.getD o 0,rs.getD t 0,c6 ns (f0+2*i+1)%(10^(31:Int).toNat+1)):=⟨_,rfl⟩
  have s4:=ao htt (.tup [iV (rs.getD o 0),iV (rs.getD t 0),.int (c6 ns (f0+2*i+1)%(10^(31:Int).toNat+1))])
  have dl:=dr.len
  have yl:=hY.1
  refine⟨l,ys,_,rfl,rfl,s4 _ _ hl3,av (by omega +splitDisjunctions),?_⟩
  refine kn _ _ ⟨_,_,_,_,_,_,_,es++[lk],rfl,bQ (s3.trans s4) hl _,by rw[aj (Ne.symm lnm)];exact s4 _ _ hnm,ag,?_,dr.put rl rlt ob tb (by rw[elk];exact⟨w0,by rw[eM];exact Int.lt_add_one_iff.mp w1⟩) (by rw[elk]) (by rw[elk]) g⟩
  exact((hY.imp fun _ _ y=>y.mono s4).snoc (x:=lk) ⟨tt,rfl,by rw[elk];exact ag⟩).imp fun _ _ y=>y.put (s4 _ _ hl3)
 case resta =>
  obtain⟨l,nm,rs,i,c,mx,o,t,v11,ys,es,rfl,hl,rl,rlt,s3,hnm,hl3,hY,dr,i40,lnm,ob,tb,g,kn⟩:=h0
  refine⟨_,rfl,_,_,rfl,rfl,⟨by decide,by decide⟩,_,_,rfl,rfl,(by show(0:Int)<2;decide),rfl,_,rfl,?_⟩
  refine ite2 (fun _=>?_) (fun _=>?_)
  ·exact⟨_,rfl,_,rfl,_,_,rfl,l,nm,rs,i,c,mx,t,o,v11,ys,es,rfl,hl,rl,rlt,s3,hnm,hl3,hY,dr,i40,lnm,tb,ob,fun z=>(g z).symm,kn⟩
  ·exact⟨l,nm,rs,i,c,mx,o,t,v11,ys,es,rfl,hl,rl,rlt,s3,hnm,hl3,hY,dr,i40,lnm,ob,tb,g,kn⟩
 refine⟨(by show 0<=sizeLine;decide),fun l hl=>?_⟩
 have s1:=ao hl (.lst [])
 refine⟨_,rfl,a,1,ns,rfl,s1.seq hS,_,rfl,c6 ns 1,n,rfl,n40,fun nm rs H2 s2 hnm0 hnm rl nd rlt=>?_⟩
 have s12:=s1.trans s2
 have lnm:l≠nm:=fun z=>by rw[z,ag]at hnm0;cases hnm0
 refine⟨_,rfl,_,rfl,_,_,rfl,rfl,_,rfl,a,_,rfl,.inl (s12.seq hS),_,rfl,_,_,rfl,rfl,_,_,rfl,rfl,_,_,rfl,rfl,⟨by decide,by decide⟩,_,_,rfl,_,_,rfl,?_⟩
 have hM:(if(if(((ns.map V.int).length:Int)-(f0:Int)+1)/2 > (n:Int)-1 then(((ns.map V.int).length:Int)-(f0:Int)+1)/2 else(n:Int)-1)<(most:Int) then(if(((ns.map V.int).length:Int)-(f0:Int)+1)/2 > (n:Int)-1 then(((ns.map V.int).length:Int)-(f0:Int)+1)/2 else(n:Int)-1) else(most:Int))<=40/\(n:Int)-1<=(if(if(((ns.map V.int).length:Int)-(f0:Int)+1)/2 > (n:Int)-1 then(((ns.map V.int).length:Int)-(f0:Int)+1)/2 else(n:Int)-1)<(most:Int) then(if(((ns.map V.int).length:Int)-(f0:Int)+1)/2 > (n:Int)-1 then(((ns.map V.int).length:Int)-(f0:Int)+1)/2 else(n:Int)-1) else(most:Int)):=by
  generalize (((ns.map V.int).length:Int)-(f0:Int)+1)/2=q
  by_cases c1:q > (n:Int)-1
  ·rw[if_pos c1]
   by_cases c2:q<(most:Int)
   ·rw[if_pos c2];omega +splitDisjunctions
   ·rw[if_neg c2];omega +splitDisjunctions
  ·rw[if_neg c1]
   by_cases c2:(n:Int)-1<(most:Int)
   ·rw[if_pos c2];omega +splitDisjunctions
   ·rw[if_neg c2];omega +splitDisjunctions
 generalize (if(if(((ns.map V.int).length:Int)-(f0:Int)+1)/2 > (n:Int)-1 then(((ns.map V.int).length:Int)-(f0:Int)+1)/2 else(n:Int)-1)<(most:Int) then(if(((ns.map V.int).length:Int)-(f0:Int)+1)/2 > (n:Int)-1 then(((ns.map V.int).length:Int)-(f0:Int)+1)/2 else(n:Int)-1) else(most:Int))=Z at hM
 obtain⟨M,rfl⟩:∃ M:Nat,Z=(M:Int):=⟨Z.toNat,by omega +splitDisjunctions⟩
 have M2:n-1<=M:=by omega +splitDisjunctions
 have M1:M<=40:=by omega +splitDisjunctions
 refine⟨_,rfl,by omega +splitDisjunctions,by omega +splitDisjunctions,?_⟩
 refine kj (lo:=0) (n:=M) (LbI a l nm f0 n most rs H) ⟨_,_,_,_,_,_,[],[],rfl,s12,hnm,s2 _ _ ag,LsAt.nil,⟨rfl,(fun x h=>nomatch h),(fun x h=>nomatch h),fun k hk _=>by
  have:k=0:=by omega +splitDisjunctions
  subst this
  exact⟨0,.nil _⟩⟩⟩ ?_ ?_
 ·rintro i σ H3 hi ⟨v6,v7,v8,v9,v10,v11,ys,es,rfl,s3,hnm3,hl3,hY,dr⟩
  have e0:(0:Int)+(i:Int)=(i:Int):=FO _
  rw[e0]
  have e2:(f0:Int)+2*(i:Int)=((f0+2*i:Nat):Int):=by push_cast;rfl
  have np:(0:Int)<(n:Int):=by omega +splitDisjunctions
  refine⟨_,rfl,_,rfl,_,rfl,_,_,rfl,rfl,.inr ⟨by omega +splitDisjunctions,by omega +splitDisjunctions⟩,_,_,rfl,rfl,a,f0+2*i,ns,congrArg (fun z=>[V.ref a,V.int z]) e2,s3.seq hS,?_⟩
  generalize c6 ns (f0+2*i)=c
  refine⟨_,rfl,_,_,rfl,rfl,(by show(0:Int)<1000000007;decide),_,_,rfl,rfl,.inr ⟨by decide,by decide⟩,_,_,rfl,rfl,(by show(0:Int)<2147483647;decide),?_⟩
  have mx0:=ES (c%1000000007*48271) (show(2147483647:Int)≠0 by decide)
  have mx1:=Fe (c%1000000007*48271) (show(0:Int)<2147483647 by decide)
  obtain⟨mx,emx⟩:∃ mx,c%1000000007*48271%2147483647=mx:=⟨_,rfl⟩
  rw[emx]at mx0 mx1
  simp only[emx]
  refine⟨_,rfl,_,rfl,_,_,rfl,rfl,np,?_⟩
  obtain⟨o,eo,ob⟩:∃ o:Nat,mx%(n:Int)=(o:Int)/\o<n:=⟨(mx%(n:Int)).toNat,by have:=ES mx (show(n:Int)≠0 by omega +splitDisjunctions);omega +splitDisjunctions,by have:=Fe mx np;have:=ES mx (show(n:Int)≠0 by omega +splitDisjunctions);omega +splitDisjunctions⟩
  simp only[eo]
  refine⟨_,rfl,_,rfl,_,_,rfl,rfl,.inr ⟨by omega +splitDisjunctions,by omega +splitDisjunctions⟩,_,_,rfl,rfl,(by show(0:Int)<1000003;decide),_,rfl,_,_,rfl,rfl,np,?_⟩
  obtain⟨t,et,tb⟩:∃ t:Nat,mx*mx%1000003%(n:Int)=(t:Int)/\t<n:=⟨(mx*mx%1000003%(n:Int)).toNat,by have:=ES (mx*mx%1000003) (show(n:Int)≠0 by omega +splitDisjunctions);omega +splitDisjunctions,by have:=Fe (mx*mx%1000003) np;have:=ES (mx*mx%1000003) (show(n:Int)≠0 by omega +splitDisjunctions);omega +splitDisjunctions⟩
  simp only[et]
  refine⟨_,rfl,_,rfl,_,_,rfl,rfl,_,_,rfl,rfl,_,rfl,?_⟩
  refine ite2 (fun z=>?_) (fun z=>?_)
  ·have z':(i:Int)<(n:Int)-1:=of_decide_eq_true z
   have ip:(0:Int)<(i:Int)+1:=by omega +splitDisjunctions
   refine⟨_,rfl,_,_,rfl,rfl,_,rfl,_,rfl,_,_,rfl,rfl,_,_,rfl,rfl,ip,?_⟩
   obtain⟨t2,et2,tb2⟩:∃ t:Nat,mx%((i:Int)+1)=(t:Int)/\t<=i:=⟨(mx%((i:Int)+1)).toNat,by have:=ES mx (show(i:Int)+1≠0 by omega +splitDisjunctions);omega +splitDisjunctions,by have:=Fe mx ip;have:=ES mx (show(i:Int)+1≠0 by omega +splitDisjunctions);omega +splitDisjunctions⟩
   simp only[et2]
   exact⟨l,nm,rs,i,c,mx,i+1,t2,v11,ys,es,rfl,hl,rl,rlt,s3,hnm3,hl3,hY,dr,by omega +splitDisjunctions,lnm,by omega +splitDisjunctions,by omega +splitDisjunctions,fun _=>.inl ⟨rfl,tb2⟩,fun σ' H' z=>z⟩
  ·have z':¬ (i:Int)<(n:Int)-1:=fun y=>z (decide_eq_true y)
   exact⟨l,nm,rs,i,c,mx,o,t,v11,ys,es,rfl,hl,rl,rlt,s3,hnm3,hl3,hY,dr,by omega +splitDisjunctions,lnm,ob,tb,fun y=>by omega +splitDisjunctions,fun σ' H' z=>z⟩
 ·rintro σ H3 ⟨v6,v7,v8,v9,v10,v11,ys,es,rfl,s3,hnm3,hl3,hY,dr⟩
  have dl:=dr.len
  have yl:=hY.1
  refine⟨_,rfl,a,1,ns,rfl,s3.seq hS,_,_,rfl,rfl,⟨by decide,by decide⟩,_,rfl,l,_,rfl,.inl (SqL.of hl3),_,_,rfl,?_⟩
  obtain⟨m,em,m1,m2⟩:∃ m:Nat,(if((ys.length:Nat):Int) > 1 then((ys.length:Nat):Int) else 1)=(m:Int)/\1<=m/\m<=ys.length+1/\(ys.length≠0->m<=ys.length):=by
   by_cases c:((ys.length:Nat):Int) > 1
   ·rw[if_pos c];exact⟨ys.length,rfl,by omega +splitDisjunctions,by omega +splitDisjunctions,fun _=>DF _⟩
   ·rw[if_neg c];exact⟨1,rfl,by omega +splitDisjunctions,by omega +splitDisjunctions,fun _=>by omega +splitDisjunctions⟩
  simp only[em]
  have mp:(0:Int)<(m:Int):=by omega +splitDisjunctions
  refine⟨_,_,rfl,rfl,mp,?_⟩
  obtain⟨st,est,sb⟩:∃ t:Nat,c6 ns 1/7%(m:Int)=(t:Int)/\t<m:=⟨(c6 ns 1/7%(m:Int)).toNat,by have:=ES (c6 ns 1/7) (show(m:Int)≠0 by omega +splitDisjunctions);omega +splitDisjunctions,by have:=Fe (c6 ns 1/7) mp;have:=ES (c6 ns 1/7) (show(m:Int)≠0 by omega +splitDisjunctions);omega +splitDisjunctions⟩
  simp only[est]
  have sl:st<=ys.length:=by omega +splitDisjunctions
  refine⟨_,rfl,_,rfl,_,rfl,l,_,rfl,SqL.of hl3,fun p1 hp1=>?_⟩
  rw[cut_hi sl]
  have t1:=ao hp1 (.lst (ys.drop st))
  refine⟨_,rfl,_,rfl,_,rfl,l,_,rfl,SqL.of (t1 _ _ hl3),fun p2 hp2=>?_⟩
  rw[cut_lo sl]
  have t2:=ao hp2 (.lst (ys.take st))
  refine⟨p1,p2,_,_,rfl,rfl,SqL.of (t2 _ _ ag),SqL.of ag,Ej (av (by rw[Ek,DY];omega +splitDisjunctions)),fun p3 hp3=>?_⟩
  have t3:=ao hp3 (.lst (ys.drop st++ys.take st))
  have s5:=s3.trans (t1.trans (t2.trans t3))
  have mem:∀ x,x∈es.drop st++es.take st↔x∈es:=fun x=>by
   rw[DN]
   constructor
   ·rintro(h | h)
    ·exact EK h
    ·exact ER h
   ·intro h
    rw[← D8 st es]at h
    rcases DN.mp h with h | h
    ·exact .inr h
    ·exact .inl h
  have ll:(es.drop st++es.take st).length=es.length:=by rw[DL,Ek,DY];omega +splitDisjunctions
  exact kk p3 _ _ (es.drop st++es.take st) s5 (cK (s3.trans (t1.trans t2)) hp3) ag ((ls_rot hY st).imp fun _ _ y=>y.mono (t1.trans (t2.trans t3))) ⟨n40,by omega +splitDisjunctions,fun x hx=>dr.sm x ((mem x).mp hx),fun x hx=>dr.w0 x ((mem x).mp hx)⟩ (by omega +splitDisjunctions) (dr.conn rl nd rlt n1 M2 fun x hx=>(mem x).mpr hx)
end
end KF
namespace KF
open PySem L2
local macro_rules | `(tactic| walk_at "cc") => `(tactic| first | exact ⟨by decide, by decide⟩ | (show (0 : Int) < _; decide) | (show (0 : Int) < _; omega) | (show (0 : Int) ≤ _; omega) | exact ⟨by decide, by decide, by decide⟩ | exact ⟨by omega, by omega, by decide⟩ | exact Or.inl ⟨by decide, by decide⟩ | exact Or.inl ⟨by omega, by omega⟩)
local macro_rules | `(tactic| walk_at "rd") => `(tactic| repeat (first | refine ⟨_, rfl, ?_⟩ | refine ⟨_, _, rfl, rfl, ?_⟩ | refine ⟨rfl, ?_⟩ | (refine ⟨?cc, ?_⟩; (case cc => walk_at "cc"))))
section
variable{X:Cx}
end
section
variable{P:Program}{w:World}{K:DE}{mg:Str->Option Value}{base:Heap}
end
end KF
namespace KF
open PySem L2
local macro_rules | `(tactic| walk_at "cc") => `(tactic| first | exact ⟨by decide, by decide⟩ | (show (0 : Int) < _; decide) | (show (0 : Int) < _; omega) | (show (0 : Int) ≤ _; omega) | exact ⟨by decide, by decide, by decide⟩ | exact ⟨by omega, by omega, by decide⟩ | exact Or.inl ⟨by decide, by decide⟩ | exact Or.inl ⟨by omega, by omega⟩)
local macro_rules | `(tactic| walk_at "rd") => `(tactic| repeat (first | refine ⟨_, rfl, ?_⟩ | refine ⟨_, _, rfl, rfl, ?_⟩ | refine ⟨rfl, ?_⟩ | (refine ⟨?cc, ?_⟩; (case cc => walk_at "cc"))))
def bsum(m:Nat):Nat->Int
 |0=>0
 |i+1=>bsum m i+(if m.testBit i=true then 1 else 0)
theorem yC(m:Nat):∀ i,bsum m i=((((EA i).filter fun j=>m.testBit j).length:Nat):Int)
 |0=>rfl
 |i+1=>by
  unfold bsum
  rw[yC m i,List.range_succ,List.filter_append,DL]
  by_cases c:m.testBit i=true
  ·rw[if_pos c,Hy c]
   push_cast
   rfl
  ·rw[if_neg c,Hz c]
   rfl
theorem Dq{m n:Nat}(h:m<2^n):bsum m n=(((bl m).length:Nat):Int):=by
 rw[yC]
 have p:((EA n).filter fun j=>m.testBit j).Perm (bl m):=(FD (List.nodup_range.filter _) (ij m)).mpr fun x=>by
  rw[Gy,E2,cM]
  exact⟨fun z=>z.2,fun z=>⟨lQ h (cM.mpr z),z⟩⟩
 rw[p.length_eq]
section
variable{P:Program}{w:World}{K:DE}{mg:Str->Option Value}{base:Heap}
theorem Bg{H:Hp}{a:Addr}{xs:List V}{es:List Lk}(h:SqL K H a xs)(hE:LsAt LkAt H xs es):RdD K H (.ref a) (.list (es.map fun e=>PyData.tuple [.int (e.1:Int),.int (e.2.1:Int),.int e.2.2])):=by
 refine RdD.lst h (by rw[DG];exact hE.1) fun i x d e1 e2=>?_
 rw[DK]at e2
 obtain⟨e,he,rfl⟩:=Ec.mp e2
 obtain⟨y,a1,p,rfl,a2⟩:=hE.2 i e he
 rw[e1]at a1
 cases a1
 refine RdD.tup (SqT.of a2) rfl fun j x d' q1 q2=>?_
 match j with
 |0=>cases q1;cases q2;exact .int _
 |1=>cases q1;cases q2;exact .int _
 |2=>cases q1;cases q2;exact .int _
 |j+3=>cases q1
theorem uK(es:List Lk):SeqAt.shaped (.list (es.map fun e=>PyData.tuple [.int (e.1:Int),.int (e.2.1:Int),.int e.2.2]))=true:=qz fun d hd=>by
 obtain⟨l,_,rfl⟩:=ED.mp hd
 exact flat3 _ _ _
end
theorem Opt.turn{n:Nat}{d:Nat->Nat->Int}(M:Met n d)(z:∀ a,d a a=0){S:List Nat}(nd:S.Nodup)(lt:∀ s∈S,s<n){x:Nat}(hx:x<n){R:Nat->Int}(hR:∀ s∈S,Opt d (S.erase s) (R s)){m:Int}(hm:∃ s∈S,m=d s x+R s)(hl:∀ s∈S,m<=d s x+R s):Opt d (tog S x) m:=by
 obtain⟨s0,h0,e0⟩:=hm
 unfold tog
 by_cases c:x∈S
 ·rw[if_pos c]
  have h1:=hl x c
  rw[z x]at h1
  obtain⟨c',g1,g2⟩:=(hR s0 h0).1.two M (nd.erase _) (fun y hy=>lt y (Gx hy)) (lt s0 h0) hx
  have ns:s0∉S.erase s0:=Hn nd
  have e1:tog (S.erase s0) s0=s0::S.erase s0:=by unfold tog;rw[if_neg ns]
  have p1:(tog (tog (S.erase s0) s0) x).Perm (S.erase x):=by
   rw[e1]
   have:=mO (F5 h0).symm x
   refine this.trans ?_
   unfold tog
   rw[if_pos c]
  have h2:=(hR x c).2 _ (g1.perm p1)
  have:m=R x:=by omega
  rw[this]
  exact hR x c
 ·rw[if_neg c]
  have e:m=d x s0+R s0:=by rw[e0,M.sy x s0]
  rw[e]
  refine Opt.step M.sy h0 (hR s0 h0) fun t ht=>⟨R t,hR t ht,?_⟩
  have:=hl t ht
  rw[← e,M.sy x t]
  exact this
theorem Aq{ls:List Lk}(hw:∀ l∈ls,0<=l.2.2)(a:Nat):farD ls a a=0:=by
 have h1:=(g9 hw (Wk.nil (ls:=ls) a)).2 0 (.nil a)
 have h2:0<=farD ls a a:=by
  unfold farD
  split
  ·omega
  ·exact EL _
 omega
theorem Opt.map{d:Nat->Nat->Int}{rho ix:Nat->Nat}{L:List Nat}{t:Int}(hi:∀ i∈L,ix (rho i)=i)(h:Opt (fun i j=>d (rho i) (rho j)) L t):Opt d (L.map rho) t :=
 ⟨Cs.map h.1,fun c hc=>h.2 c (Cs.back hi hc)⟩
theorem Opt.but{d:Nat->Nat->Int}{l:List Nat}(nd:l.Nodup){k:Nat}(hk:k<l.length){t:Int}(h:Opt (fun i j=>d (l.getD i 0) (l.getD j 0)) (bl ((2^l.length-1)^^^2^k)) t):Opt d (l.erase (l.getD k 0)) t:=by
 have em:(EA l.length).map (fun i=>l.getD i 0)=l:=by
  refine G7 (by rw[DG,EH]) fun i h1 h2=>?_
  rw[List.getElem_map,List.getElem_range,DD,DB h2]
  rfl
 have ix:∀ i∈EA l.length,l.idxOf (l.getD i 0)=i:=fun i hi=>by
  have hi':=E2.mp hi
  rw[DD,DB hi']
  exact nd.idxOf_getElem i hi'
 have p1:(bl ((2^l.length-1)^^^2^k)).Perm ((EA l.length).erase k):=by
  refine(mK _ _).trans ((mO (n6 _) k).trans ?_)
  unfold tog
  rw[if_pos (E2.mpr hk)]
 have h2:=(h.perm p1).map (rho:=fun i=>l.getD i 0) (ix:=fun x=>l.idxOf x) fun i hi=>ix i (Gx hi)
 refine h2.perm ?_
 have p2:=(F5 (E2.mpr hk)).map (fun i=>l.getD i 0)
 rw[em,D6]at p2
 have p3:=p2.erase (l.getD k 0)
 rw[Fg]at p3
 exact p3.symm
theorem Dp{m k:Nat}(hk:k<m):(bl ((2^m-1)^^^2^k)).length=m-1:=by
 have p1:(bl ((2^m-1)^^^2^k)).Perm ((EA m).erase k):=by
  refine(mK _ _).trans ((mO (n6 _) k).trans ?_)
  unfold tog
  rw[if_pos (E2.mpr hk)]
 rw[p1.length_eq,GV,if_pos (E2.mpr hk),EH]
def XL(l:List Nat):Nat:=l.foldr (fun s m=>2^s^^^m) 0
theorem Bw:∀{l:List Nat},l.Nodup->∀ x,(XL l).testBit x=decide (x∈l)
 |[],_,x=>by rw[show XL []=0 from rfl,E5];simp
 |s::l,nd,x=>by
  obtain⟨h1,h2⟩:=Eo.mp nd
  show(2^s^^^XL l).testBit x=_
  rw[E3,Em,Bw h2 x]
  by_cases c:s=x
  ·subst c
   simp[h1]
  ·have c':¬ x=s:=fun z=>c z.symm
   simp[c,c']
theorem XL_bl(m:Nat):XL (bl m)=m:=EE fun x=>by
 rw[Bw (ij m)]
 cases h:m.testBit x with
 |true=>exact decide_eq_true (cM.mpr h)
 |false=>exact decide_eq_false fun z=>by rw[cM.mp z]at h;cases h
theorem y9{n:Nat}{ls:List Lk}(ok:Lok n ls)(hc:Conn n ls){l:List Nat}(nd:l.Nodup)(lt:∀ s∈l,s<n){js:List Int}(hI:∀ k,k<l.length->Opt (fun i j=>farD ls (l.getD i 0) (l.getD j 0)) (bl ((2^l.length-1)^^^2^k)) (js.getD k 0)){x:Nat}(hx:x<n){m:Int}
  (h1:m∈(EA l.length).map fun k=>farD ls (l.getD k 0) x+js.getD k 0) (h2:∀ y∈(EA l.length).map fun k=>farD ls (l.getD k 0) x+js.getD k 0,m<=y):Opt (farD ls) (tog l x) m:=by
 have hw:∀ l∈ls,0<=l.2.2:=fun l hl=>(ok.w0 l hl).1
 have at':∀ s∈l,l.idxOf s<l.length/\l.getD (l.idxOf s) 0=s:=fun s hs=>by
  have h:=List.idxOf_lt_length_of_mem hs
  refine⟨h,?_⟩
  rw[DD,DB h]
  exact List.getElem_idxOf h
 have mem':∀ k,k<l.length->l.getD k 0∈l:=fun k hk=>by
  rw[DD,DB hk]
  exact Ew _
 refine Opt.turn (C0 hw hc) (Aq hw) nd lt hx (R:=fun s=>js.getD (l.idxOf s) 0) (fun s hs=>?_) ?_ (fun s hs=>?_)
 ·obtain⟨g1,g2⟩:=at' s hs
  have:=Opt.but nd g1 (hI _ g1)
  rw[g2]at this
  exact this
 ·obtain⟨k,hk,e⟩:=ED.mp h1
  have hk':=E2.mp hk
  refine⟨l.getD k 0,mem' k hk',?_⟩
  have ei:l.idxOf (l.getD k 0)=k:=by
   rw[DD,DB hk']
   exact nd.idxOf_getElem k hk'
  rw[← e]
  show _=farD ls (l.getD k 0) x+js.getD (l.idxOf (l.getD k 0)) 0
  rw[ei]
 ·obtain⟨g1,g2⟩:=at' s hs
  have:=h2 _ (ED.mpr ⟨l.idxOf s,E2.mpr g1,rfl⟩)
  rw[g2]at this
  exact this
end KF
namespace KF
open PySem L2
local macro_rules | `(tactic| walk_at "cc") => `(tactic| first | exact ⟨by decide, by decide⟩ | (show (0 : Int) < _; decide) | (show (0 : Int) < _; omega) | (show (0 : Int) ≤ _; omega) | exact ⟨by decide, by decide, by decide⟩ | exact ⟨by omega, by omega, by decide⟩ | exact Or.inl ⟨by decide, by decide⟩ | exact Or.inl ⟨by omega, by omega⟩)
local macro_rules | `(tactic| walk_at "rd") => `(tactic| repeat (first | refine ⟨_, rfl, ?_⟩ | refine ⟨_, _, rfl, rfl, ?_⟩ | refine ⟨rfl, ?_⟩ | (refine ⟨?cc, ?_⟩; (case cc => walk_at "cc"))))
structure TxtZ(mg:Str->Option Value):Prop extends Txt mg where
 n_zip:mg "zip" = none
def bT(mk:Nat):Nat:=(bl mk).getD 0 0
theorem mY{mk n:Nat}(h:mk<2^n)(n1:1<=n):bT mk<n:=by
 unfold bT
 rw[DD]
 cases e:(bl mk)[0]? with
 |none=>exact n1
 |some x=>exact lQ h (DH e)
theorem wg{mk n:Nat}(h:mk<2^n)(n1:1<=n)(ev:(bl mk).length%2=0)(few:(bl mk).length<=14):(mk^^^2^bT mk)<2^n/\(bl (mk^^^2^bT mk)).length<=14/\(bl (mk^^^2^bT mk)).length%2=1/\1<=(bl (mk^^^2^bT mk)).length:=by
 have hl:=mY h n1
 refine⟨FP h (EO (by decide) hl),?_⟩
 have e:=(mK mk (bT mk)).length_eq
 rw[e]
 unfold tog
 by_cases c:bT mk∈bl mk
 ·rw[if_pos c,GV,if_pos c]
  have:0<(bl mk).length:=Gq c
  omega
 ·rw[if_neg c,DZ]
  have e0:(bl mk).length=0:=by
   cases z:bl mk with
   |nil=>rfl
   |cons x r =>
    refine absurd ?_ c
    unfold bT
    rw[z]
    exact DU ..
  omega
def TdAt(n:Nat)(ls:List Lk)(H:Hp)(v:V)(s:Nat):Prop:=∃ ta TL VL,v=.ref ta/\H ta=some (.lst (TL.map oV))/\FI n ls s MM TL VL [] (fun _ _=>False)
theorem TdAt.lt{n:Nat}{ls:List Lk}{H H':Hp}{v:V}{s:Nat}(h:TdAt n ls H v s)(k:∀ b xs,H b=some (.lst xs)->H' b=some (.lst xs)):TdAt n ls H' v s:=by
 obtain⟨ta,TL,VL,e,h1,h2⟩:=h
 exact⟨ta,TL,VL,e,k _ _ h1,h2⟩
theorem AV{TT tb:Addr}{H H':Hp}{kvs:List (Key×V)}(h:Tb lqF lpF TT H)(htb:H tb=some (.dK kvs))(sT:TbS tb H H'):Tb lqF lpF TT H':=jA h fun b hb=>by
 have hs:∃ o,H b=some o/\b≠tb:=by
  rcases hb with rfl | ⟨c',hb⟩
  ·rcases h with q | ⟨_,q,_⟩
   ·exact⟨_,q,fun z=>by rw[z,htb]at q;cases q⟩
   ·exact⟨_,q,fun z=>by rw[z,htb]at q;cases q⟩
  ·exact⟨_,hb,fun z=>by rw[z,htb]at hb;cases hb⟩
 obtain⟨o,h1,h2⟩:=hs
 rw[h1]
 exact sT _ _ h2 h1
noncomputable def dO (ls:List Lk) (l:List Nat) (i j:Nat):Int:=farD ls (l.getD i 0) (l.getD j 0)
def RwO(ls:List Lk)(l:List Nat)(H:Hp)(v:V)(s:Nat):Prop:=∃ p,v=V.ref p/\H p=some (.lst (l.map fun x=>V.int (farD ls s x)))
def sj:Sp:=fun vs H Q _=>∃ mk:Nat,vs = [.int (mk:Int)]/\mk<1099511627776/\∀ H',Same H H'->Q (.int ((bT mk:Nat):Int)) H'
def sr(OM PD TR TT:Addr):Sp:=fun vs H Q E=>∃(v:V)(n mk:Nat)(ls:List Lk),vs = [.int (n:Int),v,.int (mk:Int)]/\LnAt H v ls/\Lok n ls/\1<=n/\mk<2^n/\Rfs OM PD TR n mk ls H E/\Tb lqF lpF TT H /\
 ((bl mk).length%2=0->Conn n ls->(bl mk).length<=14->∀(p:Addr)(cs:List Int) H',SmT H H'->Tb lqF lpF TT H'->H' p=some (.lst (cs.map fun c=>V.int (cs.getD (bT mk) 0-c)))->cs.length=n->(∀ x,x<n->Opt (farD ls) (bl (mk^^^2^bT mk^^^2^x)) (cs.getD x 0))->Q (.ref p) H')
section
variable{P:Program}{w:World}{K:DE}{mg:Str->Option Value}{base:Heap}
theorem ug:aJ ["marks"] ["marks"] (ak dE):=⟨rfl,rfl,rfl,by decide +kernel,rfl,by decide +kernel,by decide +kernel⟩
theorem Co{f f1:Addr}{fd fd1:FuncData} (F:Fun K "root_of" "root_of" dE f fd) (G_bits:Cal P w K mg base 1 "bits" ["mask"] gM f1 fd1):FnOk P w K mg base CX0 2 f fd ["marks"] sj:=by
 refine F.ok ug (fun vs H Q E h=>?_) (fun cdv A outer s H vs Q E hr h=>?_)
 ·obtain⟨mk,rfl,_⟩:=h
  rfl
 obtain⟨mk,rfl,mlt,kk⟩:=h
 refine⟨_,(aq (aV (je (aF qG (pv 0) ah (aN _)) (aM aL (ay G_bits.ok (hr.mono (by decide)) rfl G_bits.mg G_bits.kp G_bits.bn .nil aX (ae (pv 0) ai)) ah (fun _ _=>rfl)) ah))),?_⟩
 refine⟨_,rfl,rfl,_,rfl,?_⟩
 by_cases c0:mk=0
 ·subst c0
  refine uT rfl ?_
  have e:bT 0=0:=by unfold bT;rw[rQ];rfl
  have:=kk H fun _ _ e=>e
  rw[e]at this
  exact this
 ·refine ite2 (fun _=>?_) (fun z=>absurd (by rw[decide_eq_false (fun y=>c0 (by have:=V.int.inj y;omega))];rfl) z)
  refine⟨_,rfl,(mk:Int),rfl,by omega,by omega,fun r H1 s1 _ hr1=>?_⟩
  rw[DV]at hr1
  obtain⟨x,hx⟩:∃ x,(bl mk)[0]?=some x:=by
   cases z:(bl mk)[0]? with
   |some x=>exact⟨x,rfl⟩
   |none =>
    have:bl mk = []:=by rw[List.getElem?_eq_none_iff]at z;exact Ff (by omega)
    have h2:=XL_bl mk
    rw[this]at h2
    exact absurd h2.symm c0
  have e:bT mk=x:=by unfold bT;rw[DD,hx];rfl
  have hat:atI ((bl mk).map iV) 0=some (iV x):=aH (j:=0) (by rw[DK,hx];rfl)
  have:=kk H1 s1
  rw[e]at this
  exact⟨r,_,_,_,rfl,rfl,SqL.of hr1,hat,this⟩
theorem bj:aJ ["many","links","marks","root","others","found","between","table","everyone","rests","costs","room"] ["many","links","marks"] (ak dI):=⟨rfl,rfl,rfl,by decide +kernel,rfl,by decide +kernel,by decide +kernel⟩
theorem Cu{OM PD TR TT f f1 f2 f3 f4 f5 f6 f8:Addr}{fd fd1 fd2 fd3 fd4 fd5 fd6 fd8:FuncData} (F:Fun K "heights" "heights" dI f fd) (T:TxtZ mg) (G_refuse_marks:CalX P w K mg base 4 "refuse_marks" ["many","links","marks"] (sk OM PD TR) f1 fd1) (G_bits:Cal P w K mg base 1 "bits" ["mask"] gM f2 fd2) (G_fares:Cal P w K mg base 2 "fares" ["many","links","start"] (mR TT) f3 fd3)
  (G_chosen_of:Cal P w K mg base 1 "chosen_of" ["entries","numbers"] jc f4 fd4) (G_new_table:Cal P w K mg base 1 "new_table" [] mQ f5 fd5) (GL:∀(D:Nat->Nat->Int)(m:Nat),(∀ a b,D a b=D b a)->Cal P w K mg base 10 "laid_in_pairs" ["between","chosen","table"] (lY D m 8) f6 fd6)
  (G_root_of:Cal P w K mg base 2 "root_of" ["marks"] sj f8 fd8):FnOk P w K mg base (CXr P w) 11 f fd ["many","links","marks"] (sr OM PD TR TT):=by
 refine F.okX bj (fun vs H Q E h=>?_) (fun cdv A outer s H vs Q E hr h=>?_)
 ·obtain⟨v,n,mk,ls,rfl,_⟩:=h
  rfl
 obtain⟨v,n,mk,ls,rfl,hV,ok,n1,hmk,rf,tb0,kx⟩:=h
 have hu:=uU hr
 have n40:=ok.n1
 have l60:=ok.l9
 obtain⟨l,el⟩:∃ l,l=bl (mk^^^2^bT mk):=⟨_,rfl⟩
 have nd:l.Nodup:=by rw[el];exact ij _
 have G_laid_in_pairs:=GL (dO ls l) l.length (fun a b=>xR _ _ _)
 have e40:(2:Nat)^40=1099511627776:=by decide
 have h1:2^n<=2^40:=E4 (by decide) n40
 have mlt:mk<1099511627776:=by omega
 have rn:=mY hmk n1
 refine⟨_,(af (bM (m8 G_refuse_marks.ok (hr.mono (by decide)) rfl G_refuse_marks.mg G_refuse_marks.kp G_refuse_marks.bn .nil lX rfl (ae (pv 0) (ae (pv 1) (ae (pv 2) ai)))))
   (af (ar (i:=3) bj.nd rfl (Or.inr rfl) (ay G_root_of.ok (hr.mono (by decide)) rfl G_root_of.mg G_root_of.kp G_root_of.bn .nil aX (ae (pv 2) ai)))
   (af (ar (i:=4) bj.nd rfl (Or.inr rfl) (ay G_bits.ok (hr.mono (by decide)) rfl G_bits.mg G_bits.kp G_bits.bn .nil aX (ae (au iP (pv 2) (au bW ah (pv 3))) ai)))
   (af (bL (i:=5) rfl bj.nd rfl rfl (fr:=[("many",0),("links",1)]) (xs:=["room"]) (eQ.of (by rfl) (by decide +kernel) (by rfl) (by decide +kernel) (by intro p hp;simp only[DI,D7,or_false]at hp;rcases hp with rfl | rfl<;>exact⟨rfl,rfl⟩) (by decide +kernel) (by intro p hp;simp only[DI,D7,or_false]at hp;rcases hp with rfl | rfl<;>rfl)) (bu (pv 4)) (fun C ex s H=>(aC (i:=0) (show(["room","many","links"]:List Str).Nodup from by decide +kernel) rfl (Or.inl rfl))) (fun C ex s H=>de) (fun C ex s H=>(aM (iG (K:=K) rfl) (ay G_fares.ok (hr.mono (by decide)) rfl G_fares.mg G_fares.kp G_fares.bn .nil aX (ae (pv 1) (ae (pv 2) (ae (pv 0) ai)))) ah (fun _ _=>rfl))))
   (af (ar (i:=6) bj.nd rfl (Or.inr rfl) (jM rfl (fr:=[("others",4)]) (by exact cf.one (by rfl) (by decide +kernel) (by rfl) (by decide +kernel) (by rfl) (by decide +kernel) (by rfl) (by rfl) (by decide +kernel) (by rfl)) (bu (pv 5)) (fun C ex s H=>(ay G_chosen_of.ok (hr.mono (by decide)) rfl G_chosen_of.mg G_chosen_of.kp G_chosen_of.bn .nil aX (ae (pv 0) (ae (pv 1) ai))))))
   (af (ar (i:=7) bj.nd rfl (Or.inr rfl) (sO G_new_table.ok (hr.mono (by decide)) rfl G_new_table.mg G_new_table.kp G_new_table.bn .nil aX))
   (af (ar (i:=8) bj.nd rfl (Or.inr rfl) (au fO (au bW ah (aP bC (by rfl) T.n_len kR (ae (pv 4) ai))) ah))
   (af (bL (i:=9) rfl bj.nd rfl rfl (fr:=[("table",7),("everyone",8),("between",6)]) (xs:=["number"]) (eQ.of (by rfl) (by decide +kernel) (by rfl) (by decide +kernel) (by intro p hp;simp only[DI,D7,or_false]at hp;rcases hp with rfl | rfl | rfl<;>exact⟨rfl,rfl⟩) (by decide +kernel) (by intro p hp;simp only[DI,D7,or_false]at hp;rcases hp with rfl | rfl | rfl<;>rfl)) (bV rfl T.n_range (ae (aP bC (by rfl) T.n_len kR (ae (pv 4) ai)) ai)) (fun C ex s H=>(aC (i:=0) (show(["number","table","everyone","between"]:List Str).Nodup from by decide +kernel) rfl (Or.inl rfl))) (fun C ex s H=>de) (fun C ex s H=>(aM (iG (K:=K) rfl) (ay G_laid_in_pairs.ok (hr.mono (by decide)) rfl G_laid_in_pairs.mg G_laid_in_pairs.kp G_laid_in_pairs.bn .nil aX (ae (pv 3) (ae (au iP (pv 2) (au bW ah (pv 0))) (ae (pv 1) ai)))) ah (fun _ _=>rfl))))
   (af (ar (i:=10) bj.nd rfl (Or.inr rfl) (fN ai))
   (af (dM PassesOwn.leaving rfl (bV rfl T.n_range (ae (pv 0) ai)) (aC (i:=11) bj.nd rfl (Or.inr rfl)) (aq (bM (iY Es EW EV cW (pv 10) (ae (aP (yw rfl) (by rfl) T.n_min tP (ae (jf rfl (fr:=[("room",11)]) (xs:=["told","rest"]) (eQ.of (by rfl) (by decide +kernel) (by rfl) (by decide +kernel) (by intro p hp;simp only[DI,D7,or_false]at hp;rcases hp with rfl<;>exact⟨rfl,rfl⟩) (by decide +kernel) (by intro p hp;simp only[DI,D7,or_false]at hp;rcases hp with rfl<;>rfl)) (Bd rfl T.n_zip (ae (pv 5) (ae (pv 9) ai))) (fun C ex s H=>(jL (n:=2) (K:=K) rfl rfl (aW (aC (i:=0) (show(["told","rest","room"]:List Str).Nodup from by decide +kernel) rfl (Or.inl rfl)) (aW (aC (i:=1) (show(["told","rest","room"]:List Str).Nodup from by decide +kernel) rfl (Or.inl rfl)) eZ)))) (fun C ex s H=>de) (fun C ex s H=>(au cH (aM (gZ (K:=K) rfl) (pv 0) (pv 2) (fun _ _=>rfl)) (pv 1)))) ai)) ai)))))
   (aq (aV (jf rfl (fr:=[("root",3),("costs",10)]) (xs:=["cost"]) (eQ.of (by rfl) (by decide +kernel) (by rfl) (by decide +kernel) (by intro p hp;simp only[DI,D7,or_false]at hp;rcases hp with rfl | rfl<;>exact⟨rfl,rfl⟩) (by decide +kernel) (by intro p hp;simp only[DI,D7,or_false]at hp;rcases hp with rfl | rfl<;>rfl)) (bu (pv 10)) (fun C ex s H=>(aC (i:=0) (show(["cost","root","costs"]:List Str).Nodup from by decide +kernel) rfl (Or.inl rfl))) (fun C ex s H=>de) (fun C ex s H=>(au fO (aM (gZ (K:=K) rfl) (pv 2) (pv 1) (fun _ _=>rfl)) (pv 0)))))))))))))))),?_⟩
 refine⟨_,rfl,_,rfl,_,rfl,v,n,mk,ls,rfl,hV,ok,n1,hmk,rf,fun ev hc few H1 s1=>?_⟩
 obtain⟨ob,o14,o2,o1⟩:=wg hmk n1 ev few
 rw[← el]at o14 o2 o1
 have rlt:∀ x∈l,x<n:=fun x hx=>by rw[el]at hx;exact lQ ob hx
 have kk:=kx ev hc few
 refine⟨_,rfl,mk,rfl,mlt,fun H1' s1'=>?_⟩
 have ex:Builtin.bitXor (mk:Int) (1*2^((bT mk:Nat):Int).toNat)=((mk^^^2^bT mk:Nat):Int):=by rw[shlN,xorN]
 refine⟨_,rfl,_,rfl,_,_,rfl,rfl,⟨by omega,by omega,by decide⟩,_,_,rfl,rfl,?_⟩
 simp only[ex]
 refine⟨((mk^^^2^bT mk:Nat):Int),rfl,by omega,by omega,fun r H2 s2 hr0 hr2=>?_⟩
 rw[DV]at hr2
 have hr2':H2 r=some (.lst (l.map iV)):=by rw[el];exact hr2
 have s12:=s1.trans (s1'.trans s2)
 have tb2:=aZ tb0 s12
 have lenm:(l.map iV).length=l.length:=DG ..
 refine⟨_,rfl,r,rfl,⟨_,SqL.of hr2'⟩,cq (K:=K) (xs:=l.map iV) (fun i zs H3=>SmT H2 H3/\Tb lqF lpF TT H3/\LsAt (TdAt n ls) H3 zs (l.take i)) (Ej (av (by omega))) ⟨fun _ _ _ e=>e,tb2,LsAt.nil⟩ (fun i zs H3 _ z=>SqL.of (z.1.lst hr2')) ?_ ?_ ?_⟩
 ·rintro i x zs H3 hx ⟨sm3,tb3,hZ⟩
  rw[DK]at hx
  obtain⟨k,hk,rfl⟩:=Ec.mp hx
  refine⟨rfl,yesT ⟨_,rfl,_,rfl,_,rfl,v,n,k,ls,rfl,LnAt.smT (hV.mono s12) sm3,ok,rlt k (DH hk),tb3,fun t ta va TL VL H4 sm4 tb4 _ _ ht hta hva fi=>?_⟩⟩
  have sm34:=TbS.smT sm4 tb3
  refine⟨t,_,0,_,rfl,rfl,SqT.of ht,at0,sm3.trans sm34,tb4,?_⟩
  rw[Ez,hk]
  exact(hZ.imp fun _ _ q=>q.lt fun _ _ e=>sm34.lst e).snoc ⟨ta,TL,VL,rfl,hta,fi⟩
 ·rintro zs H3 ⟨sm3,tb3,hZ⟩ fa hfa
  rw[lenm,EG]at hZ
  have z4:=ao hfa (.lst zs)
  have sm24:SmT H2 (upd H3 fa (.lst zs)):=sm3.trans (.of z4)
  have tb4:=aZ tb3 z4
  have hZ4:LsAt (TdAt n ls) (upd H3 fa (.lst zs)) zs l:=hZ.imp fun _ _ q=>q.lt fun _ _ e=>z4 _ _ e
  have gfa:(upd H3 fa (.lst zs)) fa=some (.lst zs):=ag
  generalize upd H3 fa (.lst zs)=H4 at sm24 tb4 hZ4 gfa
  have zl:=hZ4.1
  have hr4:=sm24.lst hr2'
  have at':∀ i,i<l.length->l[i]?=some (l.getD i 0):=fun i hi=>by rw[DD,DB hi];rfl
  refine⟨_,rfl,fa,rfl,⟨_,SqL.of gfa⟩,kG (K:=K) (xs:=zs) (fun i ws H5=>Same H4 H5/\LsAt (RwO ls l) H5 ws (l.take i)) (Ej (av (by omega))) ⟨fun _ _ e=>e,LsAt.nil⟩ (fun i ws H5 _ z=>SqL.of (z.1 _ _ gfa)) ?_ ?_⟩
  ·rintro i x ws H5 hx ⟨s5,hW⟩
   obtain⟨s0,hs0,ta,TL,VL,rfl,hta,fi⟩:=hZ4.get hx
   have slt:=rlt s0 (DH hs0)
   refine⟨_,rfl,_,rfl,ta,r,_,l.map fun x=>V.int (farD ls s0 x),l,rfl,s5 _ _ hta,s5 _ _ hr4,DG ..,by omega,fun j k hk=>?_,fun q H6 s6 hq0 hq=>?_⟩
   ·refine⟨.int (farD ls s0 k),?_,by rw[DK,hk];rfl⟩
    exact qL (fi.is hc slt (rlt k (DH hk)))
   ·refine⟨s5.trans s6,?_⟩
    rw[Ez,hs0]
    exact(hW.imp fun _ _ ⟨p,e,z⟩=>⟨p,e,s6 _ _ z⟩).snoc ⟨q,rfl,hq⟩
  ·rintro ws H5 _ ⟨s5,hW⟩ bv hbv
   rw[zl,EG]at hW
   have z6:=ao hbv (.lst ws)
   refine⟨rfl,fun tb t0 H7 s7 htb0 htb ht0=>?_⟩
   have s57:Same H4 H7:=s5.trans (z6.trans s7)
   have hW7:LsAt (RwO ls l) H7 ws l:=hW.imp fun _ _ ⟨p,e,z⟩=>⟨p,e,s7 _ _ (z6 _ _ z)⟩
   have hbv7:H7 bv=some (.lst ws):=s7 _ _ ag
   have bt:BtAt H7 (.ref bv) (dO ls l) l.length:=⟨bv,ws,rfl,hbv7,fun i hi=>by
    obtain⟨y,hy,p,rfl,hp⟩:=hW7.2 i _ (at' i hi)
    exact⟨p,_,hy,hp,fun k hk=>by rw[DK,at' k hk];rfl⟩⟩
   have ti:TI H7 (dO ls l) l.length [(.inl ((0:Nat):Int),.ref t0)]:=⟨(fun k w e=>by
    by_cases c:(Sum.inl ((0:Nat):Int):Key)=k
    ·rw[aY c]at e
     cases e
     exact⟨0,c.symm,Fb _,.inl ⟨rfl,t0,_,_,rfl,ht0⟩⟩
    ·rw[a9 c]at e
     cases e),⟨_,aY rfl⟩,Eo.mpr ⟨(by simp),Fu⟩⟩
   have hr7:=s57 _ _ hr4
   have tb7:=aZ tb4 s57
   have eL:(1:Int)*2^(((l.map iV).length:Nat):Int).toNat-1=((2^l.length-1:Nat):Int):=by
    rw[lenm,shlN]
    have:=Fb l.length
    omega
   refine⟨_,rfl,r,_,rfl,.inl (SqL.of hr7),_,_,rfl,rfl,⟨by omega,by rw[lenm];omega,by decide⟩,_,_,rfl,rfl,?_⟩
   simp only[eL]
   refine⟨_,rfl,r,_,rfl,.inl (SqL.of hr7),_,rfl,by omega,by omega,rJ (k:=(l.map iV).length) (fun i ys H9=>∃(kvs2:List (Key×V))(js:List Int),TbS tb H7 H9/\H9 tb=some (.dK kvs2)/\TI H9 (dO ls l) l.length kvs2/\ys=js.map V.int/\js.length=i/\∀ k,k<i->Opt (dO ls l) (bl ((2^l.length-1)^^^2^k)) (js.getD k 0)) (Ej (av (by omega))) ⟨_,[],fun _ _ _ e=>e,htb,ti,rfl,rfl,fun k hk=>absurd hk (Fh _)⟩ ?_ ?_ ?_⟩
   ·rintro i ys H9 hi ⟨kvs2,js,sT,htb9,ti9,rfl,jl,hO⟩
    rw[lenm]at hi
    have e0:(0:Int)+(i:Int)=(i:Int):=FO _
    rw[e0]
    have ex2:Builtin.bitXor ((2^l.length-1:Nat):Int) (1*2^((i:Nat):Int).toNat)=(((2^l.length-1)^^^2^i:Nat):Int):=by rw[shlN,xorN]
    refine⟨rfl,yesT ⟨_,rfl,_,rfl,_,rfl,_,_,rfl,rfl,⟨by omega,by omega,by decide⟩,_,_,rfl,rfl,?_⟩⟩
    simp only[ex2]
    have bl1:=Dp hi
    have p2:=Fb l.length
    refine⟨_,rfl,.ref bv,tb,(2^l.length-1)^^^2^i,kvs2,rfl,bt.mono htb sT,htb9,ti9,FP (by omega) (EO (by decide) hi),o14,by rw[bl1];omega,by rw[bl1];omega,fun w t kvs' H8 sT' hT' ti' gr hv cv op=>?_⟩
    obtain⟨va,y,z,rfl,hva⟩:=id cv
    refine⟨va,_,0,_,rfl,rfl,SqT.of hva,a30,kvs',js++[t],fun b o n e=>sT' b o n (sT b o n e),hT',ti',by rw[Ex];rfl,by rw[DL,jl];rfl,fun k hk=>?_⟩
    by_cases c:k=i
    ·subst c
     rw[DD,D5 (by omega),jl,E6]
     exact op
    ·have:=hO k (by omega)
     rw[DD]at this ⊢
     rw[Eh (by omega)]
     exact this
   ·rintro ys H9 ⟨kvs2,js,sT,htb9,ti9,rfl,jl,hO⟩ ra hra
    rw[lenm]at jl hO
    have lt79:=LT.tbS sT htb
    have tb9:=AV tb7 htb sT
    have zA:=ao hra (.lst (js.map V.int))
    have hra':upd H9 ra (.lst (js.map V.int)) ra=some (.lst (js.map V.int)):=ag
    have smA:SmT H (upd H9 ra (.lst (js.map V.int))):=(show SmT H H9 from fun b o no e=>by
     have e4:=sm24 b o no (s12 _ _ e)
     refine sT _ _ (fun z=>?_) (s57 _ _ e4)
     subst z
     rw[cK (s5.trans z6) htb0]at e4;cases e4).trans (.of zA)
    have tbA:=aZ tb9 zA
    have hfaA:upd H9 ra (.lst (js.map V.int)) fa=some (.lst zs):=zA _ _ (lt79.1 _ _ (s57 _ _ gfa))
    have hZA:LsAt (TdAt n ls) (upd H9 ra (.lst (js.map V.int))) zs l:=hZ4.imp fun _ _ q=>q.lt fun _ _ e=>zA _ _ (lt79.1 _ _ (s57 _ _ e))
    generalize upd H9 ra (.lst (js.map V.int))=HA at hra' smA tbA hfaA hZA
    refine⟨(by show 0<=sizeLine;decide),fun ca hca=>?_⟩
    have zB:=ao hca (.lst [])
    refine⟨_,rfl,_,rfl,by omega,by omega,kj (n:=n) (fun i σ H3=>∃(v11:Option V)(cs:List Int),σ = [some (.int (n:Int)),some v,some (.int (mk:Int)),some (.int ((bT mk:Nat):Int)),some (.ref r),some (.ref fa),some (.ref bv),some (.ref tb),some (.int ((2^l.length-1:Nat):Int)),some (.ref ra),some (.ref ca),v11]/\Same HA H3/\H3 ca=some (.lst (cs.map V.int))/\cs.length=i/\∀ x,x<i->Opt (farD ls) (tog l x) (cs.getD x 0)) ⟨_,[],rfl,zB,ag,rfl,fun x hx=>absurd hx (Fh _)⟩ ?_ ?_⟩
    ·rintro i σ H3 hi ⟨v11,cs,rfl,s3,hca3,cl,hO3⟩
     have e0:(0:Int)+(i:Int)=(i:Int):=FO _
     rw[e0]
     refine⟨_,rfl,.inl ⟨rfl,_,SqL.of hca3⟩,_,rfl,_,rfl,fa,ra,rfl,⟨_,SqL.of (s3 _ _ hfaA)⟩,⟨_,SqL.of (s3 _ _ hra')⟩,yp (K:=K) (xs:=zs) (zs:=js.map V.int) (fun j ys H5=>Same H3 H5/\ys=((EA j).map fun k=>farD ls (l.getD k 0) i+js.getD k 0).map V.int) (Ej (av (by omega))) (by rw[DG];omega) ⟨fun _ _ e=>e,rfl⟩ (fun j ys H5 _ z=>⟨SqL.of (z.1 _ _ (s3 _ _ hfaA)),SqL.of (z.1 _ _ (s3 _ _ hra'))⟩) ?_ ?_ ?_⟩
     ·rintro j x z ys H5 T5 hx hz ⟨s5',rfl⟩ hT5
      obtain⟨s0,hs0,ta,TL,VL,rfl,hta,fi⟩:=hZA.get hx
      have slt:=rlt s0 (DH hs0)
      have jlt:j<js.length:=by
       have:=(DC.mp hz).1
       rw[DG]at this
       exact this
      have ez:z=.int (js.getD j 0):=by
       rw[DK,DB jlt]at hz
       cases hz
       rw[DD,DB jlt]
       rfl
      subst ez
      have es0:s0=l.getD j 0:=by rw[DD,hs0];rfl
      have s6:=ao hT5 (.tup [.ref ta,.int (js.getD j 0)])
      refine⟨T5,_,rfl,SqT.of ag,rfl,_,_,rfl,_,_,rfl,rfl,rfl,yesT ⟨_,rfl,_,rfl,ta,_,_,_,rfl,rfl,SqL.of (s6 _ _ (s5' _ _ (s3 _ _ hta))),aH (qL (fi.is hc slt hi)),_,rfl,_,_,rfl,rfl,s5'.trans s6,?_⟩⟩
      rw[List.range_succ,Ex,Ex,es0]
      rfl
     ·rintro ys H5 ⟨s5',rfl⟩ q hq
      have zq:=ao hq (.lst (((EA zs.length).map fun k=>farD ls (l.getD k 0) i+js.getD k 0).map V.int))
      refine⟨q,_,rfl,SqL.of ag,by rw[DG,EH,zl];omega,fun m hm1 hm2=>?_⟩
      rw[zl]at hm1 hm2
      have om:=y9 ok hc nd rlt hO hi hm1 hm2
      have hca5:=zq _ _ (s5' _ _ hca3)
      refine⟨ca,_,_,rfl,rfl,hca5,av (by rw[DG];omega),?_⟩
      refine⟨_,cs++[m],rfl,bQ (s3.trans (s5'.trans zq)) hca _,by rw[ag,Ex];rfl,by rw[DL,cl];rfl,fun x hx=>?_⟩
      by_cases c:x=i
      ·subst c
       rw[DD,D5 (by omega),cl,E6]
       exact om
      ·have:=hO3 x (by omega)
       rw[DD]at this ⊢
       rw[Eh (by omega)]
       exact this
     ·rintro j ys H5 ⟨_,rfl⟩
      rw[DG,DG,EH]
      exact DF _
    ·rintro σ H3 ⟨v11,cs,rfl,s3,hca3,cl,hO3⟩
     have csat:∀ k,k<n->(cs.map V.int)[k]?=some (.int (cs.getD k 0)):=fun k hk=>by rw[DK,DD,DB (by omega)];rfl
     refine⟨_,rfl,ca,rfl,⟨_,SqL.of hca3⟩,cq (K:=K) (xs:=cs.map V.int) (fun i zs H4=>H4=H3/\zs=(cs.take i).map fun c=>V.int (cs.getD (bT mk) 0-c)) (Ej (av (by rw[DG];omega))) ⟨rfl,rfl⟩ (fun i zs H4 _ z=>by rw[z.1];exact SqL.of hca3) ?_ ?_ ?_⟩
     ·rintro i x zs H4 hx ⟨rfl,rfl⟩
      rw[DK]at hx
      obtain⟨k,hk,rfl⟩:=Ec.mp hx
      refine⟨rfl,yesT ⟨_,rfl,_,rfl,ca,_,_,_,rfl,rfl,SqL.of hca3,aH (csat _ rn),_,rfl,_,_,rfl,rfl,rfl,?_⟩⟩
      rw[Ez,hk,Ex]
      rfl
     ·rintro zs H4 ⟨rfl,rfl⟩ p hp
      rw[DG,EG]
      have zp:=ao hp (.lst (cs.map fun c=>V.int (cs.getD (bT mk) 0-c)))
      refine kk p cs _ (smA.trans (.of (s3.trans zp))) (aZ tbA (s3.trans zp)) ag cl fun x hx=>?_
      refine(hO3 x hx).perm ?_
      rw[el]
      exact(mK _ _).symm
     ·rintro i zs H4 ⟨_,rfl⟩
      rw[DG,DY]
      omega
   ·rintro i ys H9 ⟨kvs2,js,_,_,_,rfl,jl,_⟩
    rw[DG,jl]
    exact DF _
 ·rintro i zs H3 ⟨_,_,hZ⟩
  rw[hZ.1,DY]
  omega
end
end KF
namespace KF
open PySem L2
local macro_rules | `(tactic| walk_at "cc") => `(tactic| first | exact ⟨by decide, by decide⟩ | (show (0 : Int) < _; decide) | (show (0 : Int) < _; omega) | (show (0 : Int) ≤ _; omega) | exact ⟨by decide, by decide, by decide⟩ | exact ⟨by omega, by omega, by decide⟩ | exact Or.inl ⟨by decide, by decide⟩ | exact Or.inl ⟨by omega, by omega⟩)
local macro_rules | `(tactic| walk_at "rd") => `(tactic| repeat (first | refine ⟨_, rfl, ?_⟩ | refine ⟨_, _, rfl, rfl, ?_⟩ | refine ⟨rfl, ?_⟩ | (refine ⟨?cc, ?_⟩; (case cc => walk_at "cc"))))
theorem Ao{K:DE}{a b:Addr}{xs zs:List V}{g:TG}{tb:TS}{D:Ends}{σ:St}{H:Hp}(n:Nat)(Pv:Nat->St->Hp->Prop)(h0:Pv 0 σ H)(h1:n<=xs.length)(h3:zs.length=n)(hl:∀ i σ H,i<=n->Pv i σ H->SqL K H a xs/\SqL K H b zs)
  (hs:∀ i x z σ H T,xs[i]?=some x->zs[i]?=some z->Pv i σ H->H T=none->g (.ref T) σ (upd H T (.tup [x,z])) fun σ2 H2=>tb { D with nx:=Pv (i+1),ct:=Pv (i+1),bk:=D.nx } σ2 H2) (hd:∀ σ H,Pv n σ H->D.nx σ H) :
  ∃ W:Nat->Nat->St->Hp->Prop,(∃ m,W 0 m σ H)/\∀ i m σ H,W i m σ H ->
   ((Itz K a b).stop i H/\D.nx σ H)∨((Itz K a b).go i H/\∃ N:St->Hp->Prop,(∀ σ' H',N σ' H'->∃ m',m'<m/\W (i+1) m' σ' H')/\∀ x H',(Itz K a b).yld i H x H'->g x σ H' fun σ2 H2=>tb { D with nx:=N,ct:=N,bk:=D.nx } σ2 H2):=by
 refine⟨fun i m σ H=>m=n-i/\i<=n/\Pv i σ H,⟨n,by simp,Eu _,h0⟩,?_⟩
 rintro i m σ H ⟨rfl,hi,p⟩
 obtain⟨q1,q3⟩:=hl i σ H hi p
 by_cases hlt:i<n
 ·have l1:i<xs.length:=by omega
  have l3:i<zs.length:=by omega
  refine .inr ⟨⟨xs,zs,xs[i],zs[i],q1,q3,by simp[l1],by simp[l3]⟩,Pv (i+1),fun σ' H' p'=>⟨n-(i+1),by omega,rfl,hlt,p'⟩,fun v H' y=>?_⟩
  obtain⟨T,x,z,hT,rfl,rfl,y1,y3⟩:=y
  exact hs i x z σ _ T (y1 xs q1) (y3 zs q3) p hT
 ·have e:i=n:=by omega
  subst e
  exact .inl ⟨⟨xs,zs,q1,q3,.inr (by omega)⟩,hd σ H p⟩
theorem AA(xs:List V):cutV xs (some 1) none=xs.drop 1:=by
 unfold cutV
 have q:=HT.sIx_nat xs.length 0 1
 rw[show((1:Nat):Int)=(1:Int) from rfl]at q
 rw[q,HT.sIx_none]
 rw[Er (by rw[Ek];omega)]
 by_cases h:1<=xs.length
 ·rw[Fo h]
 ·have e:xs = []:=FR.mp (by omega)
  subst e
  rfl
theorem zr{H H2:Hp}(s:Same H H2){l:Addr}(hl:H l=none)(o:HO):Same H (upd H2 l o):=fun b u e=>by
 rw[aj (fun z=>by rw[z,hl]at e;cases e)]
 exact s _ _ e
theorem Bf{α:Type} [DecidableEq α]:∀{l ps:List α},l.Nodup->(∀ x∈l,x∈ps)->l.length<=ps.length
 |[],_,_,_=>Eu _
 |x::l,ps,h,k=>by
  obtain⟨h1,h2⟩:=Eo.mp h
  have m:=k x (DU ..)
  have:=Bf (l:=l) (ps:=ps.erase x) h2 fun y hy=>(List.mem_erase_of_ne (fun(e:y=x)=>h1 (by rw[← e];exact hy))).mpr (k y (DM _ hy))
  rw[Hm m]at this
  have p:=Gq m
  rw[DZ]
  omega
def PrM(n:Nat)(H:Hp)(v:V):Prop:=∃(t:Addr)(i:Int)(j:Nat),v=.ref t/\H t=some (.tup [.int i,.int (j:Int)])/\j<2^n
theorem PrM.mono{n:Nat}{H H':Hp}{v:V}(h:PrM n H v)(s:Same H H'):PrM n H' v:=by
 obtain⟨t,i,j,e,q,l⟩:=h
 exact⟨t,i,j,e,s _ _ q,l⟩
structure TxtH(mg:Str->Option Value):Prop extends TxtZ mg where
 n_reversed:mg "reversed" = none
 n_sorted:mg "sorted" = none
 n_set:mg "set" = none
def BS:Sp:=fun vs H Q _=>∃(v:V)(ta:Addr)(n:Nat)(ls:List Lk)(tops:List Int),vs = [v,.ref ta]/\LnAt H v ls/\Lok n ls/\H ta=some (.lst (tops.map V.int))/\tops.length=n/\n+ls.length<64 /\
 ∀(q:Addr)(out:List V) H',Same H H'->H' q=some (.lst out)->out.length=n+ls.length->(∀ y∈out,PrM n H' y)->Q (.ref q) H'
def vV:Sp:=fun vs H Q _=>∃(p:Addr)(n rm:Nat)(ps:List Nat),vs = [.ref p,.int (rm:Int)]/\H p=some (.lst (ps.map iV))/\ps.length=n/\(∀ x∈ps,x<2^n)/\rm<2^n/\n<=40 /\
 ∀(q:Addr)(qs:List Nat) H',Same H H'->H' q=some (.lst (qs.map iV))->qs.length=n->(∀ x∈qs,x<2^n)->Q (.ref q) H'
def qw(OM PD TR TT:Addr):Sp:=fun vs H Q E=>∃(v:V)(n mk:Nat)(ls:List Lk),vs = [.int (n:Int),v,.int (mk:Int)]/\LnAt H v ls/\Lok n ls/\1<=n/\mk<2^n/\n+ls.length<64/\Rfs OM PD TR n mk ls H E/\Tb lqF lpF TT H /\
 ((bl mk).length%2=0->Conn n ls->(bl mk).length<=14->∀(u:V) H',SmT H H'->Tb lqF lpF TT H'->Q u H')
section
variable{P:Program}{w:World}{K:DE}{mg:Str->Option Value}{base:Heap}
theorem l5:aJ ["links","tops","found"] ["links","tops"] (ak dJ):=⟨rfl,rfl,rfl,by decide +kernel,rfl,by decide +kernel,by decide +kernel⟩
theorem ok_dry{f:Addr}{fd:FuncData} (F:Fun K "dryings" "dryings" dJ f fd) (T:TxtH mg):FnOk P w K mg base CX0 1 f fd ["links","tops"] BS:=by
 refine F.ok l5 (fun vs H Q E h=>?_) (fun cdv A outer s H vs Q E hr h=>?_)
 ·obtain⟨v,ta,n,ls,tops,rfl,_⟩:=h
  rfl
 obtain⟨v,ta,n,ls,tops,rfl,hV,ok,hta,tl,few,kk⟩:=h
 have n40:=ok.n1
 have hu64:=hr.units
 obtain⟨la,ys,rfl,hla,hL⟩:=id hV
 refine⟨_,(af (bL (i:=2) rfl l5.nd rfl rfl (fr:=[]) (xs:=["room","top"]) (eQ.of (by rfl) (by decide +kernel) (by rfl) (by decide +kernel) (fun p hp=>nomatch hp) (by decide +kernel) (fun p hp=>nomatch hp)) (qE rfl T.n_enumerate (ae (pv 1) ai)) (fun C ex s H=>(jL (n:=2) (K:=K) rfl rfl (aW (aC (i:=0) (show(["room","top"]:List Str).Nodup from by decide +kernel) rfl (Or.inl rfl)) (aW (aC (i:=1) (show(["room","top"]:List Str).Nodup from by decide +kernel) rfl (Or.inl rfl)) eZ)))) (fun C ex s H=>de) (fun C ex s H=>(iM (ae (au jO ah (pv 1)) (ae (au bW ah (pv 0)) ai)))))
   (af (bM (iY Es PySem.F.slot_list_extend PySem.F.type_list_extend w6 (pv 2) (ae (jf rfl (fr:=[("tops",1)]) (xs:=["one","two","length"]) (eQ.of (by rfl) (by decide +kernel) (by rfl) (by decide +kernel) (by intro p hp;simp only[DI,D7,or_false]at hp;rcases hp with rfl<;>exact⟨rfl,rfl⟩) (by decide +kernel) (by intro p hp;simp only[DI,D7,or_false]at hp;rcases hp with rfl<;>rfl)) (bu (pv 0)) (fun C ex s H=>(jL (n:=3) (K:=K) rfl rfl (aW (aC (i:=0) (show(["one","two","length","tops"]:List Str).Nodup from by decide +kernel) rfl (Or.inl rfl)) (aW (aC (i:=1) (show(["one","two","length","tops"]:List Str).Nodup from by decide +kernel) rfl (Or.inl rfl)) (aW (aC (i:=2) (show(["one","two","length","tops"]:List Str).Nodup from by decide +kernel) rfl (Or.inl rfl)) eZ))))) (fun C ex s H=>de) (fun C ex s H=>(iM (ae (au fO (au cH (aM (gZ (K:=K) rfl) (pv 3) (pv 0) (fun _ _=>rfl)) (aM (gZ (K:=K) rfl) (pv 3) (pv 1) (fun _ _=>rfl))) (pv 2)) (ae (au wI (au bW ah (pv 0)) (au bW ah (pv 1))) ai))))) ai)))
   (aq (aV (l8 rfl rfl T.n_list rfl T.n_reversed (aP vm (by rfl) T.n_sorted pU (ae (pv 2) ai))))))),?_⟩
 have tlm:(tops.map V.int).length=n:=by rw[DG,tl]
 refine⟨_,rfl,ta,rfl,⟨_,SqL.of hta⟩,mw (K:=K) (xs:=tops.map V.int) (fun i zs H2=>Same H H2/\zs.length=i/\∀ y∈zs,PrM n H2 y) (Ej (av (by omega))) ⟨fun _ _ e=>e,rfl,fun y hy=>nomatch hy⟩ (fun i zs H2 _ z=>SqL.of (z.1 _ _ hta)) ?_ ?_ (fun i zs H2 z=>by omega)⟩
 ·rintro i x zs H2 T2 hx ⟨s2,zl,hZ⟩ hT2
  have hi:i<n:=by rw[← tlm];exact(DC.mp hx).1
  have sT:=ao hT2 (.tup [.int (i:Int),x])
  rw[DK]at hx
  obtain⟨tp,htp,rfl⟩:=Ec.mp hx
  refine⟨T2,_,rfl,SqT.of ag,rfl,_,_,rfl,_,_,rfl,rfl,rfl,yesT ?_⟩
  refine⟨_,rfl,_,_,rfl,rfl,.inl ⟨by decide,by decide⟩,_,rfl,_,_,rfl,rfl,⟨by omega,by omega,by decide⟩,(by show 2<=sizeLine;decide),fun t7 ht7=>?_⟩
  have s7:=sT.trans (ao ht7 (.tup [.int (2*tp),.int (1*2^((i:Nat):Int).toNat)]))
  refine⟨s2.trans s7,by rw[DL,zl];rfl,fun y hy=>?_⟩
  rcases DN.mp hy with hy | hy
  ·exact(hZ y hy).mono s7
  ·rw[DP.mp hy]
   refine⟨t7,2*tp,2^i,rfl,?_,EO (by decide) hi⟩
   rw[← shlN i]
   exact ag
 rintro zs H2 ⟨s2,zl,hZ⟩ fa hfa
 rw[tlm]at zl
 have nfa:H fa=none:=cK s2 hfa
 have z3:=ao hfa (.lst zs)
 have s3:=s2.trans z3
 have hZ3:∀ y∈zs,PrM n (upd H2 fa (.lst zs)) y:=fun y hy=>(hZ y hy).mono z3
 have gfa:(upd H2 fa (.lst zs)) fa=some (.lst zs):=ag
 generalize upd H2 fa (.lst zs)=H3 at s3 hZ3 gfa
 have hL3:LsAt LkAt H3 ys ls:=hL.imp fun _ _ y=>y.mono s3
 have yl:=hL3.1
 refine⟨_,rfl,.inl ⟨rfl,_,SqL.of gfa⟩,_,rfl,la,rfl,⟨_,SqL.of (s3 _ _ hla)⟩,cq (K:=K) (xs:=ys) (fun i ws H4=>Same H3 H4/\ws.length=i/\∀ y∈ws,PrM n H4 y) (Ej (av (by omega))) ⟨fun _ _ e=>e,rfl,fun y hy=>nomatch hy⟩ (fun i ws H4 _ z=>SqL.of (z.1 _ _ (s3 _ _ hla))) ?_ ?_ (fun i ws H4 z=>by omega)⟩
 ·rintro i x ws H4 hx ⟨s4,wl,hW⟩
  obtain⟨l,hl,t,rfl,ht⟩:=hL3.get hx
  obtain⟨l1,l2⟩:=ok.sm l (DH hl)
  have at':∀ k,k<n->(tops.map V.int)[k]?=some (.int (tops.getD k 0)):=fun k hk=>by
   rw[DK,DD,DB (by omega)]
   rfl
  have hta4:=s4 _ _ (s3 _ _ hta)
  refine⟨t,_,rfl,SqT.of (s4 _ _ ht),rfl,_,_,rfl,_,_,rfl,_,_,rfl,rfl,rfl,yesT ?_⟩
  refine⟨_,rfl,_,rfl,ta,_,_,_,rfl,rfl,SqL.of hta4,aH (at' _ l1),_,rfl,_,rfl,ta,_,_,_,rfl,rfl,SqL.of hta4,aH (at' _ l2),_,_,rfl,rfl,_,rfl,_,_,rfl,rfl,?_⟩
  refine⟨_,rfl,_,_,rfl,rfl,⟨by omega,by omega,by decide⟩,_,rfl,_,_,rfl,rfl,⟨by omega,by omega,by decide⟩,_,_,rfl,rfl,(by show 2<=sizeLine;decide),fun t7 ht7=>?_⟩
  have ex:Builtin.bitOr (1*2^((l.1:Nat):Int).toNat) (1*2^((l.2.1:Nat):Int).toNat)=((2^l.1|||2^l.2.1:Nat):Int):=by rw[shlN,shlN,orN]
  have s7:=ao ht7 (.tup [.int (tops.getD l.1 0+tops.getD l.2.1 0-l.2.2),.int (Builtin.bitOr (1*2^((l.1:Nat):Int).toNat) (1*2^((l.2.1:Nat):Int).toNat))])
  refine⟨s4.trans s7,by rw[DL,wl];rfl,fun y hy=>?_⟩
  rcases DN.mp hy with hy | hy
  ·exact(hW y hy).mono s7
  ·rw[DP.mp hy]
   refine⟨t7,tops.getD l.1 0+tops.getD l.2.1 0-l.2.2,2^l.1|||2^l.2.1,rfl,?_,Gh (EO (by decide) l1) (EO (by decide) l2)⟩
   rw[← ex]
   exact ag
 rintro ws H4 ⟨s4,wl,hW⟩ D hD
 have sD:=ao hD (.lst ws)
 have fD:fa≠D:=fun z=>by rw[← z,s4 _ _ gfa]at hD;cases hD
 have s35:=s4.trans sD
 refine⟨fa,D,zs,ws,rfl,rfl,s35 _ _ gfa,ag,Ej (av (by omega)),?_⟩
 have s6:Same H (upd (upd H4 D (.lst ws)) fa (.lst (zs++ws))):=zr (s3.trans s35) nfa _
 have pk:∀ y,PrM n (upd H4 D (.lst ws)) y->PrM n (upd (upd H4 D (.lst ws)) fa (.lst (zs++ws))) y:=fun y ⟨t,i,j,e,q,l⟩=>⟨t,i,j,e,by rw[aj (fun z=>by rw[z,s35 _ _ gfa]at q;cases q)];exact q,l⟩
 have hp:∀ y∈zs++ws,PrM n (upd (upd H4 D (.lst ws)) fa (.lst (zs++ws))) y:=fun y hy=>by
  refine pk y ?_
  rcases DN.mp hy with hy | hy
  ·exact(hZ3 y hy).mono s35
  ·exact(hW y hy).mono sD
 have ghf:(upd (upd H4 D (.lst ws)) fa (.lst (zs++ws))) fa=some (.lst (zs++ws)):=ag
 generalize upd (upd H4 D (.lst ws)) fa (.lst (zs++ws))=H6 at s6 hp ghf
 have lenA:(zs++ws).length=n+ls.length:=by rw[DL,zl,wl,yl]
 refine⟨_,rfl,fa,zs++ws,rfl,SqL.of ghf,fun y hy=>?_,by omega,fun l out hl ol om=>?_⟩
 ·obtain⟨t,i,j,e,q,_⟩:=hp y hy
  exact⟨t,i,_,e,q⟩
 have s7:=ao hl (.lst out)
 refine⟨l,out,rfl,SqL.of ag,fun q hq=>?_⟩
 have s8:=ao hq (.lst out.reverse)
 exact kk q out.reverse _ (s6.trans (s7.trans s8)) ag (by rw[GJ,ol,lenA]) fun y hy=>(hp y (om y (G5.mp hy))).mono (s7.trans s8)
theorem gO:aJ ["pieces","rooms","piece","room"] ["pieces","rooms"] (ak fE):=⟨rfl,rfl,rfl,by decide +kernel,rfl,by decide +kernel,by decide +kernel⟩
theorem Ct{f f1:Addr}{fd fd1:FuncData} (F:Fun K "joined" "joined" fE f fd) (T:Txt mg) (G_bits:Cal P w K mg base 1 "bits" ["mask"] gM f1 fd1):FnOk P w K mg base CX0 2 f fd ["pieces","rooms"] vV:=by
 refine F.ok gO (fun vs H Q E h=>?_) (fun cdv A outer s H vs Q E hr h=>?_)
 ·obtain⟨p,n,rm,ps,rfl,_⟩:=h
  rfl
 obtain⟨p,n,rm,ps,rfl,hp,pl,pb,rb,n40,kk⟩:=h
 have e40:(2:Nat)^40=1099511627776:=by decide
 have h1:2^n<=2^40:=E4 (by decide) n40
 refine⟨_,(af (ar (i:=2) gO.nd rfl (Or.inr rfl) (pv 1))
   (af (dM PassesOwn.never rfl (bu (ay G_bits.ok (hr.mono (by decide)) rfl G_bits.mg G_bits.kp G_bits.bn .nil aX (ae (pv 1) ai))) (aC (i:=3) gO.nd rfl (Or.inl rfl)) (aq (ar (i:=2) gO.nd rfl (Or.inr rfl) (au wI (pv 2) (aM aL (pv 0) (pv 3) (fun _ _=>rfl))))))
   (aq (aV (jf rfl (fr:=[("piece",2)]) (xs:=["room","before"]) (eQ.of (by rfl) (by decide +kernel) (by rfl) (by decide +kernel) (by intro p hp;simp only[DI,D7,or_false]at hp;rcases hp with rfl<;>exact⟨rfl,rfl⟩) (by decide +kernel) (by intro p hp;simp only[DI,D7,or_false]at hp;rcases hp with rfl<;>rfl)) (qE rfl T.n_enumerate (ae (pv 0) ai)) (fun C ex s H=>(jL (n:=2) (K:=K) rfl rfl (aW (aC (i:=0) (show(["room","before","piece"]:List Str).Nodup from by decide +kernel) rfl (Or.inl rfl)) (aW (aC (i:=1) (show(["room","before","piece"]:List Str).Nodup from by decide +kernel) rfl (Or.inl rfl)) eZ)))) (fun C ex s H=>de) (fun C ex s H=>(je (aF f9 (au oX (au oW (pv 2) (pv 0)) ah) ah (aN _)) (pv 2) (pv 1)))))))),?_⟩
 refine⟨_,rfl,_,rfl,(rm:Int),rfl,by omega,by omega,fun r H1 s1 _ hr1=>?_⟩
 rw[DV]at hr1
 have hr1':H1 r=some (.lst ((bl rm).map iV)):=hr1
 have hp1:=s1 _ _ hp
 have at':∀ k,k<n->(ps.map iV)[k]?=some (iV (ps.getD k 0))/\ps.getD k 0<2^n:=fun k hk=>by
  rw[DK,DD,DB (by omega)]
  exact⟨rfl,pb _ (Ew _)⟩
 refine⟨r,rfl,⟨_,SqL.of hr1'⟩,c9 (K:=K) (xs:=(bl rm).map iV) (fun i σ H2=>∃(v3:Option V)(pc:Nat),σ = [some (.ref p),some (.int (rm:Int)),some (.int (pc:Int)),v3]/\H2=H1/\pc<2^n) ⟨_,rm,rfl,rfl,rb⟩ (fun i σ H2 _ ⟨_,_,_,z,_⟩=>by rw[z];exact SqL.of hr1') ?_ ?_⟩
 ·rintro i x σ H2 hx ⟨v3,pc,rfl,rfl,pcb⟩
  rw[DK]at hx
  obtain⟨k,hk,rfl⟩:=Ec.mp hx
  have kn:=lQ rb (DH hk)
  obtain⟨a1,a2⟩:=at' k kn
  have ex:Builtin.bitOr (pc:Int) ((ps.getD k 0:Nat):Int)=((pc|||ps.getD k 0:Nat):Int):=orN _ _
  refine⟨_,rfl,_,rfl,_,rfl,p,_,_,_,rfl,rfl,SqL.of hp1,aH a1,_,_,rfl,rfl,?_⟩
  simp only[ex]
  exact⟨_,_,rfl,rfl,Gh pcb a2⟩
 rintro σ H2 ⟨v3,pc,rfl,rfl,pcb⟩
 have plm:(ps.map iV).length=n:=by rw[DG,pl]
 refine⟨_,rfl,p,rfl,⟨_,SqL.of hp1⟩,mw (K:=K) (xs:=ps.map iV) (fun i zs H3=>Same H2 H3/\∃ qs:List Nat,zs=qs.map iV/\qs.length=i/\∀ x∈qs,x<2^n) (Ej (av (by omega))) ⟨fun _ _ e=>e,[],rfl,rfl,fun x hx=>nomatch hx⟩ (fun i zs H3 _ z=>SqL.of (z.1 _ _ hp1)) ?_ ?_ (fun i zs H3 ⟨_,qs,e,ql,_⟩=>by rw[e,DG,ql];exact DF _)⟩
 ·rintro i x zs H3 T2 hx ⟨s3,qs,rfl,ql,qb⟩ hT2
  have hi:i<n:=by rw[← plm];exact(DC.mp hx).1
  have sT:=ao hT2 (.tup [.int (i:Int),x])
  rw[DK]at hx
  obtain⟨b,hb,rfl⟩:=Ec.mp hx
  have bb:=pb b (DH hb)
  have step:∀ y:Nat,y<2^n->∃ qs':List Nat,qs.map iV++[iV y]=qs'.map iV/\qs'.length=i+1/\∀ x∈qs',x<2^n:=fun y hy=>⟨qs++[y],by rw[Ex];rfl,by rw[DL,ql];rfl,fun x hx=>by
   rcases DN.mp hx with hx | hx
   ·exact qb x hx
   ·rw[DP.mp hx];exact hy⟩
  refine⟨T2,_,rfl,SqT.of ag,rfl,_,_,rfl,_,_,rfl,rfl,rfl,yesT ?_⟩
  refine⟨_,rfl,_,rfl,_,_,rfl,rfl,(show(0:Int)<=(i:Int) by omega),_,_,rfl,rfl,rfl,_,rfl,ite2 (fun c=>?_) (fun c=>?_)⟩
  ·exact⟨_,rfl,s3.trans sT,step pc pcb⟩
  ·exact⟨_,rfl,s3.trans sT,step b bb⟩
 rintro zs H3 ⟨s3,qs,rfl,ql,qb⟩ D hD
 exact kk D qs _ (s1.trans (s3.trans (ao hD _))) ag (by rw[ql,plm]) qb
theorem cy:aJ ["many","links","marks","row","root","pieces","prices","drying","lower","levels","piece"] ["many","links","marks"] (ak iA):=⟨rfl,rfl,rfl,by decide +kernel,rfl,by decide +kernel,by decide +kernel⟩
theorem zL{OM PD TR TT f f1 f2 f3 f4:Addr}{fd fd1 fd2 fd3 fd4:FuncData} (F:Fun K "hills" "hills" iA f fd) (T:TxtH mg) (G_heights:CalX P w K mg base 11 "heights" ["many","links","marks"] (sr OM PD TR TT) f1 fd1) (G_dryings:Cal P w K mg base 1 "dryings" ["links","tops"] BS f2 fd2) (G_root_of:Cal P w K mg base 2 "root_of" ["marks"] sj f3 fd3) (G_joined:Cal P w K mg base 2 "joined" ["pieces","rooms"] vV f4 fd4):FnOk P w K mg base (CXr P w) 12 f fd ["many","links","marks"] (qw OM PD TR TT):=by
 refine F.okX cy (fun vs H Q E h=>?_) (fun cdv A outer s H vs Q E hr h=>?_)
 ·obtain⟨v,n,mk,ls,rfl,_⟩:=h
  rfl
 obtain⟨v,n,mk,ls,rfl,hV,ok,n1,hmk,few,rf,tb0,kx⟩:=h
 have hu:=uU hr
 have n40:=ok.n1
 have e40:(2:Nat)^40=1099511627776:=by decide
 have h1:2^n<=2^40:=E4 (by decide) n40
 refine⟨_,(af (ar (i:=3) cy.nd rfl (Or.inl rfl) (ay G_dryings.ok (hr.mono (by decide)) rfl G_dryings.mg G_dryings.kp G_dryings.bn .nil aX (ae (pv 1) (ae (m8 G_heights.ok (hr.mono (by decide)) rfl G_heights.mg G_heights.kp G_heights.bn .nil lX rfl (ae (pv 0) (ae (pv 1) (ae (pv 2) ai)))) ai))))
   (af (ar (i:=4) cy.nd rfl (Or.inl rfl) (ay G_root_of.ok (hr.mono (by decide)) rfl G_root_of.mg G_root_of.kp G_root_of.bn .nil aX (ae (pv 2) ai)))
   (af (iB (i:=5) rfl cy.nd rfl rfl (fr:=[]) (by exact cf.plain (by rfl) (by decide +kernel) (by rfl) (by decide +kernel) (by rfl) (by decide +kernel)) (bV rfl T.n_range (ae (pv 0) ai)) (fun C ex s H=>ah))
   (af (ar (i:=6) cy.nd rfl (Or.inl rfl) sN)
   (af (dM PassesOwn.leaving rfl (Bd rfl T.n_zip (ae (pv 3) (ae (jd mT (pv 3) (m5 ah) m6) ai))) (sM rfl (aW (aC (i:=7) cy.nd rfl (Or.inl rfl)) (aW (aC (i:=8) cy.nd rfl (Or.inl rfl)) eZ))) (af (ar (i:=5) cy.nd rfl (Or.inl rfl) (ay G_joined.ok (hr.mono (by decide)) rfl G_joined.mg G_joined.kp G_joined.bn .nil aX (ae (pv 5) (ae (aM cI (pv 7) ah (fun _ _=>rfl)) ai))))
   (af (ar (i:=9) cy.nd rfl (Or.inl rfl) (au fO (aM cI (pv 7) ah (fun _ _=>rfl)) (aM cI (pv 8) ah (fun _ _=>rfl))))
   (aq (dM PassesOwn.leaving rfl (bu (aP (vk rfl rfl rfl) (by rfl) T.n_sorted pU (ae (jN (yu rfl rfl rfl rfl) (by rfl) T.n_set bt_set (ae (pv 5) ai)) ai))) (aC (i:=10) cy.nd rfl (Or.inl rfl)) (aq (di (PW.pt (Bb (aF zH (pv 9) ah (aN _)) (Bb (aF qG (pv 10) ah (aN _)) (Cc (aF f9 (au oX (au oW (pv 10) (pv 4)) ah) ah (aN _)))))) (aq (qB hu (pv 6) (pv 10) (au cH (zG hu (pv 6) (pv 10) ah ⟨rfl,rfl,rfl,rfl⟩) (pv 9)) rfl)) bf)))))))
   (aq (aV (jN (vn rfl) (by rfl) T.n_list nY (ae (pe_bm0 Gk Hu PySem.F.type_dict_items zV (pv 6)) ai))))))))),?_⟩
 refine⟨_,rfl,_,rfl,_,rfl,_,rfl,v,n,mk,ls,rfl,hV,ok,n1,hmk,rf,tb0,fun ev hc fw p cs H1 sm1 tb1 hp cl _=>?_⟩
 have kk:=kx ev hc fw
 refine⟨v,p,n,ls,cs.map fun c=>cs.getD (bT mk) 0-c,rfl,hV.smT sm1,ok,by rw[hp,FN];rfl,by rw[DG,cl],few,fun q out H2 s2 hq ol op=>?_⟩
 refine⟨_,rfl,mk,rfl,by omega,fun H3 s3=>?_⟩
 have rn:=mY hmk n1
 refine⟨_,rfl,_,rfl,by omega,by omega,dP (n:=n) (fun i zs H4=>H4=H3/\zs=(DJ i 0).map iV) (Ej (av (by omega))) ⟨rfl,rfl⟩ ?_ ?_⟩
 ·rintro i zs H4 hi ⟨rfl,rfl⟩
  refine⟨rfl,?_⟩
  rw[F4,Ex]
  rfl
 rintro zs H4 _ ⟨rfl,rfl⟩ pp hpp
 have s5:=ao hpp (.lst ((DJ n 0).map iV))
 refine fun d hd=>?_
 have sd:=ao hd (.dK [])
 have s25:Same H2 (upd (upd H4 pp (.lst ((DJ n 0).map iV))) d (.dK [])):=s3.trans (s5.trans sd)
 have hq6:=s25 _ _ hq
 have hpp6:=sd _ _ (show upd H4 pp (.lst ((DJ n 0).map iV)) pp=_ from ag)
 have nd2:H2 d=none:=cK (s3.trans s5) hd
 have gd:(upd (upd H4 pp (.lst ((DJ n 0).map iV))) d (.dK [])) d=some (.dK []):=ag
 have op6:∀ y∈out,PrM n (upd (upd H4 pp (.lst ((DJ n 0).map iV))) d (.dK [])) y:=fun y hy=>(op y hy).mono s25
 generalize upd (upd H4 pp (.lst ((DJ n 0).map iV))) d (.dK [])=H6 at s25 hq6 hpp6 gd op6
 refine⟨_,rfl,_,rfl,_,rfl,q,_,rfl,SqL.of hq6,fun q7 hq7=>?_⟩
 rw[AA]
 have s7:=ao hq7 (.lst (out.drop 1))
 have q7d:q7≠d:=fun z=>by rw[z,gd]at hq7;cases hq7
 have hq7':(upd H6 q7 (.lst (out.drop 1))) q7=some (.lst (out.drop 1)):=ag
 have gd7:=s7 _ _ gd
 have s27:=s25.trans s7
 have hpp7:=s7 _ _ hpp6
 have hqd:q≠d:=fun z=>by rw[z,gd]at hq6;cases hq6
 have op7:∀ y∈out,PrM n (upd H6 q7 (.lst (out.drop 1))) y:=fun y hy=>(op6 y hy).mono s7
 have hq7r:=s7 _ _ hq6
 generalize upd H6 q7 (.lst (out.drop 1))=H7 at s7 hq7' gd7 s27 hpp7 op7 hq7r
 have dl:(out.drop 1).length=out.length-1:=Ek ..
 have inOut:∀{i:Nat}{x:V},(out.drop 1)[i]?=some x->x∈out:=fun{i x} e=>EK (DH e)
 have prd:∀{H9:Hp}{x:V},TbS d H7 H9->x∈out->PrM n H9 x:=fun{H9 x} sT hx=>by
  obtain⟨t,i,j,e,z,l⟩:=op7 x hx
  exact⟨t,i,j,e,sT _ _ (fun y=>by rw[y,gd7]at z;cases z) z,l⟩
 refine⟨q,q7,rfl,⟨_,SqL.of hq7r⟩,⟨_,SqL.of hq7'⟩,Ao (K:=K) (xs:=out) (zs:=out.drop 1) (out.length-1) (fun i σ H9=>∃(v7 v8 v9 v10:Option V)(pa:Addr)(ps:List Nat)(kvs:List (Key×V)),σ = [some (.int (n:Int)),some v,some (.int (mk:Int)),some (.ref q),some (.int ((bT mk:Nat):Int)),some (.ref pa),some (.ref d),v7,v8,v9,v10]/\TbS d H7 H9/\H9 d=some (.dK kvs)/\(∀ k w,valV kvs k=some w->∃ x,w=V.int x)/\kvs.length<=40*i/\H9 pa=some (.lst (ps.map iV))/\ps.length=n/\∀ x∈ps,x<2^n)
  ⟨_,_,_,_,pp,DJ n 0,[],rfl,fun _ _ _ e=>e,gd7,(fun k w e=>by cases e),DF _,hpp7,Fc,fun x hx=>by rw[List.eq_of_mem_replicate hx];exact Fb n⟩ (Nat.sub_le _ _) dl (fun i σ H9 _ ⟨_,_,_,_,_,_,_,_,sT,_⟩=>⟨SqL.of (sT _ _ hqd hq7r),SqL.of (sT _ _ q7d hq7')⟩) ?_ ?_⟩
 ·rintro i x z σ H9 T9 hx hz ⟨v7,v8,v9,v10,pa,ps,kvs,rfl,sT,hd9,hint,kl,hpa,pl,pb⟩ hT9
  have hi:i<out.length-1:=by rw[← dl];exact(DC.mp hz).1
  obtain⟨tx,ix,jx,rfl,htx,jxb⟩:=prd sT (DH hx)
  obtain⟨tz,iz,jz,rfl,htz,jzb⟩:=prd sT (inOut hz)
  have s9:=ao hT9 (.tup [.ref tx,.ref tz])
  refine⟨T9,_,rfl,SqT.of ag,rfl,_,_,rfl,_,_,rfl,rfl,?_⟩
  refine⟨_,rfl,_,rfl,tx,_,1,_,rfl,rfl,SqT.of (s9 _ _ htx),at1,pa,n,jx,ps,rfl,s9 _ _ hpa,pl,pb,jxb,n40,fun qa qs HA sA hqa ql qb=>?_⟩
  have s9A:=s9.trans sA
  refine⟨_,rfl,tx,_,0,_,rfl,rfl,SqT.of (s9A _ _ htx),at0,_,rfl,tz,_,0,_,rfl,rfl,SqT.of (s9A _ _ htz),at0,_,_,rfl,rfl,?_⟩
  have en:qs.map iV=(qs.map fun x:Nat=>(x:Int)).map V.int:=by rw[FN];rfl
  have nl:(qs.map fun x:Nat=>(x:Int)).length=n:=by rw[DG,ql]
  refine⟨_,rfl,qa,qs.map fun x:Nat=>(x:Int),rfl,SqL.of (by rw[hqa,en]),by omega,fun a ha=>?_⟩
  have hdA:HA d=some (.dK kvs):=s9A _ _ hd9
  refine⟨a,_,rfl,ag,fun l hs hl mem pw=>?_⟩
  have ld:l≠d:=fun y=>by
   subst y
   have h2:=(ao ha (setO P w a ((qs.map fun x:Nat=>(x:Int)).foldl addN []))) _ _ hdA
   cases (hl.symm.trans h2)
  have qd:qa≠d:=fun y=>by
   rw[y,hdA]at hqa;cases hqa
  have hsl:hs.length<=n:=by
   have h5:=Bf (l:=hs) (ps:=qs.map fun x:Nat=>(x:Int)) (pw.imp fun h e=>by omega) fun x hx=>by
    have:=(mem x).mp hx
    rw[AO]at this
    rcases this with h | h
    ·cases h
    ·exact h
   omega
  refine⟨l,rfl,⟨_,SqL.of ag⟩,c9 (K:=K) (xs:=hs.map V.int) (fun j σ HX=>∃(v10:Option V)(kvs':List (Key×V)),σ = [some (.int (n:Int)),some v,some (.int (mk:Int)),some (.ref q),some (.int ((bT mk:Nat):Int)),some (.ref qa),some (.ref d),some (.ref tx),some (.ref tz),some (.int (ix-iz)),v10]/\TbS d HA HX/\HX l=some (.lst (hs.map V.int))/\HX d=some (.dK kvs')/\(∀ k w,valV kvs' k=some w->∃ x,w=V.int x)/\kvs'.length<=40*i+j) ⟨_,kvs,rfl,fun b o _ e=>((ao ha _).trans (ao hl _)) _ _ e,ag,((ao ha _).trans (ao hl _)) _ _ hdA,hint,kl⟩ (fun j σ HX _ ⟨_,_,_,_,z,_⟩=>SqL.of z) ?_ ?_⟩
  ·rintro j y σ HX hy ⟨v10,kvs',rfl,sX,hlX,hdX,hintX,klX⟩
   have hj:j<hs.length:=by
    have:=(DC.mp hy).1
    rw[DG]at this
    exact this
   rw[DK]at hy
   obtain⟨yv,hyv,rfl⟩:=Ec.mp hy
   have no:∃(v10:Option V)(kvs':List (Key×V)),[some (V.int (n:Int)),some v,some (.int (mk:Int)),some (.ref q),some (.int ((bT mk:Nat):Int)),some (.ref qa),some (.ref d),some (.ref tx),some (.ref tz),some (.int (ix-iz)),some (.int yv)] = [some (.int (n:Int)),some v,some (.int (mk:Int)),some (.ref q),some (.int ((bT mk:Nat):Int)),some (.ref qa),some (.ref d),some (.ref tx),some (.ref tz),some (.int (ix-iz)),v10]/\TbS d HA HX/\HX l=some (.lst (hs.map V.int))/\HX d=some (.dK kvs')/\(∀ k w,valV kvs' k=some w->∃ x,w=V.int x)/\kvs'.length<=40*i+(j+1):=⟨_,kvs',rfl,sX,hlX,hdX,hintX,by omega⟩
   refine⟨_,rfl,_,_,rfl,rfl,_,rfl,ite2 (fun c1=>?_) (fun c1=>no)⟩
   refine⟨_,rfl,rfl,_,rfl,ite2 (fun c2=>?_) (fun c2=>no)⟩
   refine⟨_,rfl,_,rfl,_,_,rfl,rfl,(show(0:Int)<=((bT mk:Nat):Int) by omega),_,_,rfl,rfl,rfl,_,rfl,ite2 (fun c3=>?_) (fun c3=>no)⟩
   obtain⟨xv,hxv⟩:∃ xv,(valV kvs' (.inl yv)).getD (.int 0)=V.int xv:=by
    cases z:valV kvs' (.inl yv) with
    |none=>exact⟨0,rfl⟩
    |some w =>
     obtain⟨x,rfl⟩:=hintX _ _ z
     exact⟨x,rfl⟩
   have big:kvs'.length<sizeLine:=by
    have:kvs'.length<3000:=by omega
    exact Fj this (by decide)
   refine⟨_,rfl,d,rfl,.inl ⟨_,.inl hdX⟩,_,rfl,_,DGet.k (k:=.inl yv) hdX,_,rfl,_,_,hxv,rfl,_,rfl,_,rfl,d,_,rfl,DPut.k (k:=.inl yv) hdX big,?_⟩
   refine⟨_,putK kvs' (.inl yv) (.int (xv+(ix-iz))),rfl,(fun b o nb e=>by rw[aj nb];exact sX b o nb e),by rw[aj ld];exact hlX,ag,fun k w e=>?_,?_⟩
   ·rw[gL]at e
    split at e
    ·cases e;exact⟨_,rfl⟩
    ·exact hintX _ _ e
   ·have:=d5 kvs' (.inl yv) (V.int (xv+(ix-iz)))
    omega
  ·rintro σ HX ⟨v10,kvs',rfl,sX,_,hdX,hintX,klX⟩
   rw[DG]at klX
   exact⟨_,_,_,_,qa,qs,kvs',rfl,fun b o nb e=>sX b o nb (s9A _ _ (sT b o nb e)),hdX,hintX,by omega,sX _ _ qd hqa,ql,qb⟩
 ·rintro σ H9 ⟨v7,v8,v9,v10,pa,ps,kvs,rfl,sT,hd9,_⟩
  refine⟨_,rfl,.inr (.inr (.inl ⟨rfl,.inl ⟨_,hd9⟩⟩)),d,_,rfl,rfl,hd9,True.intro,fun vw hvw=>?_⟩
  have sv:=ao hvw (tw vw d)
  refine⟨vw,d,kvs,rfl,ag,sv _ _ hd9,fun l hl=>?_⟩
  have tb7:Tb lqF lpF TT H7:=aZ (aZ tb1 s2) s27
  refine kk _ _ (fun b o no e=>?_) (aZ (AV tb7 gd7 sT) sv)
  have e2:=s2 _ _ (sm1 b o no e)
  exact sv _ _ (sT b o (fun z=>by rw[z,nd2]at e2;cases e2) (s27 _ _ e2))
end
end KF
namespace L2
open PySem PySem.Spec PyProof.Rows
theorem pE{prog:Program}{w:World}{A:Around}{E:Value->Shared->Prop}{s:Shared}{a b:Bool}{Q:Bool->Shared->Prop}(h:Q (a == b) s):wpAny (model prog w) A (eqBool (.bool a) (.bool b)) Q E s:=by
 unfold eqBool
 show wpAny _ _ (if(Value.bool a == Value.bool b)=true then _ else _) Q E s
 by_cases hab:(Value.bool a == Value.bool b)=true
 ·rw[if_pos hab]
  have e:a=b:=by have:=eq_of_beq hab;injection this
  subst e
  exact wpAny_bind (wpAny_rule (wpAny_pure (by simpa using h)))
 ·rw[if_neg hab]
  exact wpAny_bind (eq_bool (wpAny_truthy_bool h))
def isB(k:Bool):Value->Bool
 |.bool c=>c == k
 |_=>false
theorem yD:∀{bs:List Bool}{us:List Value},Vals (bs.map V.bl) us->us=bs.map Value.bool
 |[],_,.nil=>rfl
 |b::bs,_,.cons r rr=>by
  cases (show _=Value.bool b from r)
  rw[yD rr]
  rfl
section
variable{X:Cx}
def B9(K:DE):V->List V->Hp->VK->Prop:=fun x vs H Q=>∃(l:Addr)(bs:List Bool)(k:Bool),x=.ref l/\vs = [.bl k]/\SqL K H l (bs.map V.bl)/\Q (.int ((bs.count k:Nat):Int)) H
theorem w8:MtM X "list.count" (B9 X.K):=by
 intro pins s σ H x vs v us Q I rx rv h
 obtain⟨l,bs,k,rfl,rfl,hq,q⟩:=h
 cases rx
 obtain⟨u,rfl,ru⟩:=rv.one
 cases ru
 obtain⟨its,r,pl,hz⟩:=I.list hq
 have eu:=yD r
 obtain⟨⟨cls,dd,data,sl⟩,ho,hc,n,hd⟩:=id pl.isList
 simp only at hc hd
 subst hc hd
 refine call_meets Gj ⟨_,ho,rfl⟩ PySem.F.entry_list_count (PySem.F.args_list_count_2 _ _) (SeqAt.list_countAt l _ n dd sl (.bool k) (isB k)) ⟨ho,fun y hy=>?_,?_⟩
 ·have hy':y∈bs.map Value.bool:=by rw[← eu];simpa using hy
  obtain⟨c,_,rfl⟩:=ED.mp hy'
  have g:MeetsSeq.EqGives (.bool c) (.bool k) (c == k):=fun _ _ _ _ _ _ h=>pE h
  exact g.at _ _
 ·have e:∀ bs:List Bool,(bs.map Value.bool).countP (isB k)=bs.count k:=fun bs=>by
   induction bs with
   |nil=>rfl
   |cons b bs ih=>simp[List.countP_cons,Hf,isB,ih]
  have e2:its.toArray.toList.countP (isB k)=bs.count k:=by rw[eu];exact e bs
  rw[e2]
  exact⟨.int _,H,I.tok _,⟨_,rfl⟩,q⟩
def B7(K:DE):V->List V->Hp->VK->Prop:=fun x vs H Q=>∃(l:Addr)(bs:List Bool)(k:Bool)(j:Nat),x=.ref l/\vs = [.bl k]/\SqL K H l (bs.map V.bl)/\bs.length<=1000/\bs[j]?=some k/\(∀ m,m<j->bs[m]?≠some k)/\Q (.int (j:Int)) H
theorem w5:MtM X "list.index" (B7 X.K):=by
 intro pins s σ H x vs v us Q I rx rv h
 obtain⟨l,bs,k,j,rfl,rfl,hq,few,hj,hno,q⟩:=h
 cases rx
 obtain⟨u,rfl,ru⟩:=rv.one
 cases ru
 obtain⟨its,r,pl,hz⟩:=I.list hq
 have eu:=yD r
 obtain⟨⟨cls,dd,data,sl⟩,ho,hc,n,hd⟩:=id pl.isList
 simp only at hc hd
 subst hc hd
 have jl:=(DC.mp hj).1
 have sz:its.length=bs.length:=by rw[eu,DG]
 have at':∀ m (hm:m<its.length),∃ c,bs[m]?=some c/\its[m]=Value.bool c:=fun m hm=>by
  have h1:its[m]?=some its[m]:=DB hm
  have h2:(bs.map Value.bool)[m]?=some its[m]:=by rw[← eu];exact h1
  rw[DK]at h2
  obtain⟨c,e1,e2⟩:=Ec.mp h2
  exact⟨c,e1,e2.symm⟩
 refine call_meets Ht ⟨_,ho,rfl⟩ PySem.F.entry_list_index (PySem.F.args_list_index_2 _ _)
  (SeqAt.list_indexAt l _ n dd sl (.bool k) (isB k) j (by simpa using(show j<its.length by omega)) (by omega) ?_ ?_) ⟨ho,fun y hy=>?_,⟨.int _,H,I.tok _,⟨_,rfl⟩,q⟩⟩
 ·obtain⟨c,e1,e2⟩:=at' j (by omega)
  rw[hj]at e1
  cases e1
  simp[e2,isB]
 ·intro m hm hlt
  obtain⟨c,e1,e2⟩:=at' m (by simpa using hm)
  have:c≠k:=fun z=>hno m hlt (by rw[e1,z])
  simp[e2,isB,this]
 ·have hy':y∈bs.map Value.bool:=by rw[← eu];simpa using hy
  obtain⟨c,_,rfl⟩:=ED.mp hy'
  have g:MeetsSeq.EqGives (.bool c) (.bool k) (c == k):=fun _ _ _ _ _ _ h=>pE h
  exact g.at _ _
end
end L2
namespace KF
open PySem L2
local macro_rules | `(tactic| walk_at "cc") => `(tactic| first | exact ⟨by decide, by decide⟩ | (show (0 : Int) < _; decide) | (show (0 : Int) < _; omega) | (show (0 : Int) ≤ _; omega) | exact ⟨by decide, by decide, by decide⟩ | exact ⟨by omega, by omega, by decide⟩ | exact Or.inl ⟨by decide, by decide⟩ | exact Or.inl ⟨by omega, by omega⟩)
local macro_rules | `(tactic| walk_at "rd") => `(tactic| repeat (first | refine ⟨_, rfl, ?_⟩ | refine ⟨_, _, rfl, rfl, ?_⟩ | refine ⟨rfl, ?_⟩ | (refine ⟨?cc, ?_⟩; (case cc => walk_at "cc"))))
structure Jn(n:Nat)(ls:List Lk)(k:Nat)(ns:List Nat):Prop where
 len:ns.length=n
 way:∀ a b,a<n->b<n->ns.getD a 0=ns.getD b 0->∃ x,Wk ls a b x
 one:∀ i l,i<k->ls[i]?=some l->ns.getD l.1 0=ns.getD l.2.1 0
def renL(ns:List Nat)(o t:Nat):List Nat:=ns.map fun x=>if x=o then t else x
theorem mZ{ns:List Nat}{o t a:Nat}(h:a<ns.length):(renL ns o t).getD a 0=if ns.getD a 0=o then t else ns.getD a 0:=by
 unfold renL
 rw[DD,DD,DK,DB h]
 rfl
theorem Jn.zero{n:Nat}{ls:List Lk}:Jn n ls 0 (EA n):=by
 have at':∀ a,a<n->(EA n).getD a 0=a:=fun a h=>by rw[DD,List.getElem?_range h];rfl
 refine⟨EH ..,fun a b ha hb e=>?_,fun i l h=>absurd h (Fh _)⟩
 rw[at' a ha,at' b hb]at e
 subst e
 exact⟨_,Wk.nil _⟩
theorem Jn.step{n k:Nat}{ls:List Lk}{ns:List Nat}{l:Lk}(h:Jn n ls k ns)(ok:∀ l∈ls,l.1<n/\l.2.1<n)(hl:ls[k]?=some l):Jn n ls (k+1) (renL ns (ns.getD l.1 0) (ns.getD l.2.1 0)):=by
 obtain⟨l1,l2⟩:=ok l (DH hl)
 have hn:=h.len
 have lk:Wk ls l.1 l.2.1 l.2.2:=by
  have:=Wk.link hl (a:=l.1) (.inl rfl)
  rw[yF]at this
  exact this
 have lr:=lk.rev
 refine⟨by unfold renL;rw[DG,hn],fun a b ha hb e=>?_,fun i m hi hm=>?_⟩
 ·rw[mZ (by omega),mZ (by omega)]at e
  by_cases ca:ns.getD a 0=ns.getD l.1 0
  ·obtain⟨x,hx⟩:=h.way a l.1 ha l1 ca
   by_cases cb:ns.getD b 0=ns.getD l.1 0
   ·exact h.way a b ha hb (ca.trans cb.symm)
   ·rw[if_pos ca,if_neg cb]at e
    obtain⟨y,hy⟩:=h.way l.2.1 b l2 hb e
    exact⟨_,(hx.trans lk).trans hy⟩
  ·by_cases cb:ns.getD b 0=ns.getD l.1 0
   ·rw[if_neg ca,if_pos cb]at e
    obtain⟨x,hx⟩:=h.way a l.2.1 ha l2 e
    obtain⟨y,hy⟩:=h.way l.1 b l1 hb cb.symm
    exact⟨_,(hx.trans lr).trans hy⟩
   ·rw[if_neg ca,if_neg cb]at e
    exact h.way a b ha hb e
 ·obtain⟨m1,m2⟩:=ok m (DH hm)
  rw[mZ (by omega),mZ (by omega)]
  by_cases c:i<k
  ·rw[h.one i m c hm]
  ·have:i=k:=by omega
   subst this
   rw[hl]at hm
   cases hm
   rw[if_pos rfl]
   split<;>rfl
theorem Jn.end'{n:Nat}{ls:List Lk}{ns:List Nat}(h:Jn n ls ls.length ns)(n1:1<=n):ns.count (ns.getD 0 0)=n↔Conn n ls:=by
 have hn:=h.len
 constructor
 ·intro e b hb
  have all:=List.count_eq_length.mp (e.trans hn.symm)
  refine h.way 0 b (by omega) hb ?_
  rw[DD (i:=b),DB (by omega)]
  exact all _ (Ew _)
 ·intro hc
  have same:∀{a b:Nat}{x:Int},Wk ls a b x->ns.getD a 0=ns.getD b 0:=fun w=>by
   induction w with
   |nil=>rfl
   | @step b i x l h' hl' he ih =>
    rw[ih]
    have o:=h.one i l (DC.mp hl').1 hl'
    unfold bey
    rcases he with z | z
    ·rw[if_pos z,z];exact o
    ·by_cases w:b=l.1
     ·rw[if_pos w,w];exact o
     ·rw[if_neg w,z];exact o.symm
  refine(List.count_eq_length.mpr fun y hy=>?_).trans hn
  obtain⟨b,hb,e⟩:=EN hy
  obtain⟨x,hx⟩:=hc b (by omega)
  have:=same hx
  rw[this,DD,DB hb,← e]
  rfl
def BP:Sp:=fun vs H Q _=>∃(v:V)(n:Nat)(ls:List Lk),vs = [.int (n:Int),v]/\LnAt H v ls/\Lok n ls/\1<=n/\∀(b:Bool) H',Same H H'->(b=true↔Conn n ls)->Q (.bl b) H'
section
variable{P:Program}{w:World}{K:DE}{mg:Str->Option Value}{base:Heap}
theorem a7:aJ ["many","links","names","link","one","two"] ["many","links"] (ak bp):=⟨rfl,rfl,rfl,by decide +kernel,rfl,by decide +kernel,by decide +kernel⟩
theorem ok_tog{f:Addr}{fd:FuncData} (F:Fun K "_law_together" "_law_together" bp f fd) (T:Txt mg):FnOk P w K mg base CX0 1 f fd ["many","links"] BP:=by
 refine F.ok a7 (fun vs H Q E h=>?_) (fun cdv A outer s H vs Q E hr h=>?_)
 ·obtain⟨v,n,ls,rfl,_⟩:=h
  rfl
 obtain⟨v,n,ls,rfl,hV,ok,n1,kk⟩:=h
 have n40:=ok.n1
 have l60:=ok.l9
 obtain⟨la,ys,rfl,hla,hL⟩:=id hV
 have yl:=hL.1
 refine⟨_,(af (ar (i:=2) a7.nd rfl (Or.inl rfl) (oS rfl rfl T.n_list rfl T.n_range (pv 0)))
   (af (dM PassesOwn.never rfl (bu (pv 1)) (aC (i:=3) a7.nd rfl (Or.inl rfl)) (af (ar (i:=4) a7.nd rfl (Or.inr rfl) (aM aL (pv 2) (aM cI (pv 3) ah (fun _ _=>rfl)) (fun _ _=>rfl)))
   (af (ar (i:=5) a7.nd rfl (Or.inr rfl) (aM aL (pv 2) (aM cI (pv 3) ah (fun _ _=>rfl)) (fun _ _=>rfl)))
   (aq (bL (i:=2) rfl a7.nd rfl rfl (fr:=[("two",5),("one",4)]) (xs:=["name"]) (eQ.of (by rfl) (by decide +kernel) (by rfl) (by decide +kernel) (by intro p hp;simp only[DI,D7,or_false]at hp;rcases hp with rfl | rfl<;>exact⟨rfl,rfl⟩) (by decide +kernel) (by intro p hp;simp only[DI,D7,or_false]at hp;rcases hp with rfl | rfl<;>rfl)) (bu (pv 2)) (fun C ex s H=>(aC (i:=0) (show(["name","two","one"]:List Str).Nodup from by decide +kernel) rfl (Or.inl rfl))) (fun C ex s H=>de) (fun C ex s H=>(je (aF f9 (pv 0) (pv 2) (aN _)) (pv 1) (pv 0))))))))
   (aq (aV (wG f9 (iY Es Gj Hr zW (pv 2) (ae (aM aL (pv 2) ah (fun _ _=>rfl)) ai)) (pv 0) (aN _)))))),?_⟩
 refine⟨_,rfl,n,rfl,by omega,fun q hq=>?_⟩
 have sq:=ao hq (.lst ((EA n).map fun(i:Nat)=>V.int ((i:Nat):Int)))
 refine⟨_,rfl,la,rfl,⟨_,SqL.of (sq _ _ hla)⟩,c9 (K:=K) (xs:=ys) (fun i σ H2=>∃(v3 v4 v5:Option V)(p:Addr)(ns:List Nat),σ = [some (.int (n:Int)),some (.ref la),some (.ref p),v3,v4,v5]/\Same H H2/\H2 p=some (.lst (ns.map iV))/\Jn n ls i ns) ⟨_,_,_,q,EA n,rfl,sq,ag,Jn.zero⟩ (fun i σ H2 _ ⟨_,_,_,_,_,_,z,_⟩=>SqL.of (z _ _ hla)) ?_ ?_⟩
 ·rintro i x σ H2 hx ⟨v3,v4,v5,p,ns,rfl,s2,hp,J⟩
  obtain⟨l,hl,t,rfl,ht0⟩:=hL.get hx
  have ht:=s2 _ _ ht0
  obtain⟨l1,l2⟩:=ok.sm l (DH hl)
  have nl:=J.len
  have at':∀ k,k<n->(ns.map iV)[k]?=some (V.int ((ns.getD k 0:Nat):Int)):=fun k hk=>by
   rw[DK,DD,DB (by omega)]
   rfl
  refine⟨_,rfl,_,rfl,t,_,0,_,rfl,rfl,SqT.of ht,a30,p,_,_,_,rfl,rfl,SqL.of hp,aH (at' _ l1),?_⟩
  refine⟨_,rfl,_,rfl,t,_,1,_,rfl,rfl,SqT.of ht,a31,p,_,_,_,rfl,rfl,SqL.of hp,aH (at' _ l2),?_⟩
  have nlm:(ns.map iV).length=n:=by rw[DG,nl]
  refine⟨_,rfl,p,rfl,⟨_,SqL.of hp⟩,cq (K:=K) (xs:=ns.map iV) (fun j zs H3=>H3=H2/\zs=(renL (ns.take j) (ns.getD l.1 0) (ns.getD l.2.1 0)).map iV) (Ej (av (by omega))) ⟨rfl,rfl⟩ (fun j zs H3 _ z=>by rw[z.1];exact SqL.of hp) ?_ ?_ (fun j zs H3 z=>by
   rw[z.2]
   unfold renL
   rw[DG,DG,DY]
   omega)⟩
  ·rintro j y zs H3 hy ⟨rfl,rfl⟩
   rw[DK]at hy
   obtain⟨u,hu,rfl⟩:=Ec.mp hy
   have et:renL (ns.take (j+1)) (ns.getD l.1 0) (ns.getD l.2.1 0)=renL (ns.take j) (ns.getD l.1 0) (ns.getD l.2.1 0)++[if u=ns.getD l.1 0 then ns.getD l.2.1 0 else u]:=by
    unfold renL
    rw[Ez,hu,Ex]
    rfl
   rw[et,Ex]
   refine⟨rfl,yesT ?_⟩
   refine⟨_,rfl,_,rfl,rfl,_,rfl,ite2 (fun c=>?_) (fun c=>?_)⟩
   ·have c':u=ns.getD l.1 0:=by have:=V.int.inj (of_decide_eq_true c);omega
    rw[if_pos c']
    exact⟨_,rfl,rfl,rfl⟩
   ·have c':¬ u=ns.getD l.1 0:=fun z=>c (decide_eq_true (congrArg (fun z:Nat=>V.int (z:Int)) z))
    rw[if_neg c']
    exact⟨_,rfl,rfl,rfl⟩
  ·rintro zs H3 ⟨rfl,rfl⟩ D hD
   rw[nlm,Er (by omega)]
   exact⟨_,_,_,D,_,rfl,s2.trans (ao hD _),ag,J.step ok.sm hl⟩
 ·rintro σ H2 ⟨v3,v4,v5,p,ns,rfl,s2,hp,J⟩
  rw[yl]at J
  have nl:=J.len
  have at0':atI (ns.map iV) 0=some (V.int ((ns.getD 0 0:Nat):Int)):=aH (j:=0) (by
   rw[DK,DD,DB (by omega)]
   rfl)
  have en:ns.map iV=(ns.map fun x:Nat=>(x:Int)).map V.int:=by rw[FN];rfl
  refine⟨_,rfl,.inl ⟨rfl,_,SqL.of hp⟩,_,rfl,p,_,0,_,rfl,rfl,SqL.of hp,at0',p,ns.map fun x:Nat=>(x:Int),_,rfl,rfl,SqL.of (by rw[hp,en]),_,rfl,rfl,?_⟩
  refine kk _ _ s2 ?_
  have ec:(ns.map fun x:Nat=>(x:Int)).count ((ns.getD 0 0:Nat):Int)=ns.count (ns.getD 0 0):=by
   generalize ns.getD 0 0=k
   clear J nl at0' en hp
   induction ns with
   |nil=>rfl
   |cons a ns ih =>
    rw[D6,Hf,Hf,ih]
    congr 1
    by_cases c:a=k
    ·subst c;simp
    ·have c2:¬ (a:Int)=(k:Int):=fun z=>c (by omega)
     simp[c,c2]
  rw[ec,← J.end' n1]
  constructor
  ·intro c
   have:=V.int.inj (of_decide_eq_true c)
   omega
  ·intro c
   exact decide_eq_true (congrArg V.int (by omega))
end
end KF
namespace KF
open PySem L2
local macro_rules | `(tactic| walk_at "cc") => `(tactic| first | exact ⟨by decide, by decide⟩ | (show (0 : Int) < _; decide) | (show (0 : Int) < _; omega) | (show (0 : Int) ≤ _; omega) | exact ⟨by decide, by decide, by decide⟩ | exact ⟨by omega, by omega, by decide⟩ | exact Or.inl ⟨by decide, by decide⟩ | exact Or.inl ⟨by omega, by omega⟩)
local macro_rules | `(tactic| walk_at "rd") => `(tactic| repeat (first | refine ⟨_, rfl, ?_⟩ | refine ⟨_, _, rfl, rfl, ?_⟩ | refine ⟨rfl, ?_⟩ | (refine ⟨?cc, ?_⟩; (case cc => walk_at "cc"))))
def rY(n mk:Nat)(ls:List Lk)(s:Str):Prop:=((bl mk).length%2=1/\s = "odd")∨((bl mk).length%2=0/\¬ Conn n ls/\s = "parted")∨((bl mk).length%2=0/\Conn n ls/\14<(bl mk).length/\s = "rough")∨((bl mk).length%2=0/\Conn n ls/\(bl mk).length<=14/\s = "taken")
theorem rY.uniq{n mk:Nat}{ls:List Lk}{s t:Str}(h:rY n mk ls s)(g:rY n mk ls t):s=t:=by
 rcases h with⟨a,e⟩ | ⟨a,b,e⟩ | ⟨a,b,c,e⟩ | ⟨a,b,c,e⟩<;>rcases g with⟨a',e'⟩ | ⟨a',b',e'⟩ | ⟨a',b',c',e'⟩ | ⟨a',b',c',e'⟩<;>first | exact e.trans e'.symm | (exfalso;omega) | exact absurd b' b | exact absurd b b'
structure TxtE(mg:Str->Option Value)(OM PD TR:Addr):Prop extends Txt mg where
 g_OddMarks:mg "OddMarks" = some (.ref OM)
 g_Parted:mg "Parted" = some (.ref PD)
 g_TooRough:mg "TooRough" = some (.ref TR)
 n_ValueError:mg "ValueError" = none
structure KitE(K:DE)(OM PD TR FE:Addr):Prop where
 er:∀ k,k=OM∨k=PD∨k=TR->ErC K k/\Eg K (.ref k) (.type "ValueError")=some true/\ExC K k/\EM K k (.ref FE)=some true
 oo:Eg K (.ref OM) (.ref OM)=some true
 op:Eg K (.ref OM) (.ref PD)=some false
 ot:Eg K (.ref OM) (.ref TR)=some false
 po:Eg K (.ref PD) (.ref OM)=some false
 pp:Eg K (.ref PD) (.ref PD)=some true
 pt:Eg K (.ref PD) (.ref TR)=some false
 to:Eg K (.ref TR) (.ref OM)=some false
 tp:Eg K (.ref TR) (.ref PD)=some false
 tt:Eg K (.ref TR) (.ref TR)=some true
theorem nZ:bootBuiltins "ValueError" = some (.type "ValueError"):=by decide +kernel
theorem vo{X:Cx}:gG X (.builtin "isinstance") (fun xs H Q=>∃ x c T b,xs = [.ref x,.ty T]/\H x=some (excO x c)/\ErC X.K c/\Eg X.K (.ref c) (.type T)=some b/\Q (.bl b) H):=by
 intro pins s σ H xs us Q I r h
 obtain⟨x,c,T,b,rfl,hx,ec,ek,q⟩:=h
 obtain⟨v1,v2,rfl,r1,r2⟩:=tY r
 cases r1
 cases r2
 obtain⟨p,_,_⟩:=(show bD X.prog X.w H s.heap x (excO x c) from I.hok x _ hx)
 exact PySem.W.kia_one (sZ ec) I.kIn p ek (fun z=>nomatch z) fun tk=>⟨.bl b,H,I.tok tk,rfl,q⟩
def vS(TT:Addr):Sp:=fun vs H Q _=>∃(nm:Str)(v:V)(n mk:Nat)(ls:List Lk),vs = [.str nm,.int (n:Int),v,.int (mk:Int)]/\LnAt H v ls/\Lok n ls/\1<=n/\mk<2^n/\n+ls.length<64/\Tb lqF lpF TT H /\
 ∀(s:Str) H',rY n mk ls s->SmT H H'->Tb lqF lpF TT H'->Q (.str s) H'
def B0(OM PD TR:Addr):TS:=fun D σ H=>∃(a b c d v5:Option V)(u4:V),σ = [a,b,c,d,some u4,v5,none]/\((u4=.non/\D.rt (.str "taken") H)∨∃(x k:Addr),u4=.ref x/\H x=some (excO x k) /\
 ((k=OM/\∀ H',Same H H'->D.rt (.str "odd") H')∨(k=PD/\∀ H',Same H H'->D.rt (.str "parted") H')∨(k=TR/\∀ H',Same H H'->D.rt (.str "rough") H')))
section
variable{P:Program}{w:World}{K:DE}{mg:Str->Option Value}{base:Heap}
theorem cV:aJ ["name","many","links","marks","found","e","kinds"] ["name","many","links","marks"] (ak cU):=⟨rfl,rfl,rfl,by decide +kernel,rfl,by decide +kernel,by decide +kernel⟩
theorem Cn{FE OM PD TR TT f f1 f2 f3:Addr}{fd fd1 fd2 fd3:FuncData} (F:Fun K "_law_told" "_law_told" cU f fd) (T:TxtE mg OM PD TR) (KE:KitE K OM PD TR FE) (X_FloorError:ErrC K mg "FloorError" FE) (G_paired:CalX P w K mg base 11 "paired" ["many","links","marks"] (jC OM PD TR TT) f1 fd1) (G_heights:CalX P w K mg base 11 "heights" ["many","links","marks"] (sr OM PD TR TT) f2 fd2) (G_hills:CalX P w K mg base 12 "hills" ["many","links","marks"] (qw OM PD TR TT) f3 fd3):FnOk P w K mg base CX0 13 f fd ["name","many","links","marks"] (vS TT):=by
 have hCs:∀ c,(c=OM∨c=PD∨c=TR)->ExC K c/\EM K c (.ref FE)=some true:=fun c hc=>(KE.er c hc).2.2
 refine F.ok cV (fun vs H Q E h=>?_) (fun cdv A outer s H vs Q E hr h=>?_)
 ·obtain⟨nm,v,n,mk,ls,rfl,_⟩:=h
  rfl
 obtain⟨nm,v,n,mk,ls,rfl,hV,ok,n1,hmk,few,tb0,kk⟩:=h
 refine⟨_,(af (ar (i:=4) cV.nd rfl (Or.inl rfl) iN)
   (af (zw (ie:=5) (Cs:=(fun c=>c=OM∨c=PD∨c=TR)) rfl rfl rfl cV.nd rfl rfl rfl X_FloorError.mg X_FloorError.ec hCs (fun pins XE W ws=>(aq (di (aF f9 (pv 0) cG (aN _)) (aq (bM (m9 G_paired.ok (hr.mono (by decide)) rfl G_paired.mg G_paired.kp G_paired.bn .nil ws rfl (ae (pv 1) (ae (pv 2) (ae (pv 3) ai)))))) (aq (di (aF f9 (pv 0) cG (aN _)) (aq (bM (m9 G_heights.ok (hr.mono (by decide)) rfl G_heights.mg G_heights.kp G_heights.bn .nil ws rfl (ae (pv 1) (ae (pv 2) (ae (pv 3) ai)))))) (aq (bM (m9 G_hills.ok (hr.mono (by decide)) rfl G_hills.mg G_hills.kp G_hills.bn .nil ws rfl (ae (pv 1) (ae (pv 2) (ae (pv 3) ai))))))))))) (fun v=>(aq (ar (i:=4) cV.nd rfl (Or.inl rfl) (pv 5)))))
   (dh (t2:=B0 OM PD TR) (af (di (aF Be (pv 4) iN (aN _)) (aq (aV cG)) bf)
   (af (ar (i:=6) cV.nd rfl (Or.inl rfl) (fN (ae (aP kK (by rfl) T.n_isinstance cR (ae (pv 4) (ae (m7 (v:=.ref _) rfl T.g_OddMarks rfl) ai))) (ae (aP kK (by rfl) T.n_isinstance cR (ae (pv 4) (ae (m7 (v:=.ref _) rfl T.g_Parted rfl) ai))) (ae (aP kK (by rfl) T.n_isinstance cR (ae (pv 4) (ae (m7 (v:=.ref _) rfl T.g_TooRough rfl) ai))) ai)))))
   (af (di (PW.pt (Cb (wo (wm (aP vo (by rfl) T.n_isinstance cR (ae (pv 4) (ae (Ci (v:=.ty "ValueError") rfl T.n_ValueError nZ rfl) ai))))) (wj (aF qG (iY Es Gj Hr w8 (pv 6) (ae ur ai)) ah (aN _))))) (aq (aV cG)) bf)
   (aq (aV (aM aL (fN (ae cG (ae cG (ae cG ai)))) (iY Es Ht PySem.F.type_list_index w5 (pv 6) (ae ur ai)) (fun _ _=>rfl))))))) (fun D0 S0 H0 h0=>?restf)))),?_⟩
 case restf =>
  obtain⟨a,b,c,d,v5,u4,rfl,h0⟩:=h0
  rcases h0 with⟨rfl,k⟩ | ⟨x,kc,rfl,hx,hk⟩
  ·exact⟨_,rfl,rfl,_,rfl,ite2 (fun _=>k) (fun c=>absurd rfl c)⟩
  obtain⟨b1,b2,b3,j,sv,e1,e2,e3,er,kv,cnt,hj,hno,hs,kq⟩:∃(b1 b2 b3:Bool)(j:Nat)(sv:Str),Eg K (.ref kc) (.ref OM)=some b1/\Eg K (.ref kc) (.ref PD)=some b2/\Eg K (.ref kc) (.ref TR)=some b3/\ErC K kc/\Eg K (.ref kc) (.type "ValueError")=some true/\[b1,b2,b3].count true=1/\[b1,b2,b3][j]?=some true/\(∀ m,m<j->[b1,b2,b3][m]?≠some true)/\atI [V.str "odd",V.str "parted",V.str "rough"] (j:Int)=some (.str sv)/\∀ H',Same H0 H'->D0.rt (.str sv) H':=by
   rcases hk with⟨rfl,q⟩ | ⟨rfl,q⟩ | ⟨rfl,q⟩
   ·exact⟨true,false,false,0,"odd",KE.oo,KE.op,KE.ot,(KE.er _ (.inl rfl)).1,(KE.er _ (.inl rfl)).2.1,rfl,rfl,fun m h=>absurd h (Fh _),rfl,q⟩
   ·exact⟨false,true,false,1,"parted",KE.po,KE.pp,KE.pt,(KE.er _ (.inr (.inl rfl))).1,(KE.er _ (.inr (.inl rfl))).2.1,rfl,rfl,(fun m h=>by
     rcases(show m=0 by omega)with rfl
     intro z;cases z),rfl,q⟩
   ·exact⟨false,false,true,2,"rough",KE.to,KE.tp,KE.tt,(KE.er _ (.inr (.inr rfl))).1,(KE.er _ (.inr (.inr rfl))).2.1,rfl,rfl,(fun m h=>by
     rcases(show m=0∨m=1 by omega)with rfl | rfl<;>(intro z;cases z)),rfl,q⟩
  refine⟨_,rfl,rfl,_,rfl,ite2 (fun c=>absurd (of_decide_eq_true c) (fun z=>by cases z)) (fun _=>?_)⟩
  refine⟨_,rfl,x,kc,OM,b1,rfl,hx,er,e1,_,rfl,x,kc,PD,b2,rfl,hx,er,e2,_,rfl,x,kc,TR,b3,rfl,hx,er,e3,(by show 3<=sizeLine;decide),fun l hl=>?_⟩
  have sl:=ao hl (.lst [.bl b1,.bl b2,.bl b3])
  have hl':(upd H0 l (.lst [.bl b1,.bl b2,.bl b3])) l=some (.lst ([b1,b2,b3].map V.bl)):=ag
  refine⟨_,rfl,x,kc,_,true,rfl,sl _ _ hx,er,kv,_,rfl,iteF ?_⟩
  refine⟨_,rfl,.inl ⟨rfl,_,SqL.of hl'⟩,l,[b1,b2,b3],true,rfl,rfl,SqL.of hl',rfl,_,rfl,uT (congrArg V.int (by rw[cnt];rfl)) ?_⟩
  refine⟨(by show 3<=sizeLine;decide),fun l2 hl2=>?_⟩
  have s2:=ao hl2 (.lst [.str "odd",.str "parted",.str "rough"])
  refine⟨_,rfl,.inl ⟨rfl,_,SqL.of (s2 _ _ hl')⟩,l,[b1,b2,b3],true,j,rfl,rfl,SqL.of (s2 _ _ hl'),(by show 3<=1000;decide),hj,hno,l2,_,_,_,rfl,rfl,SqL.of ag,hs,?_⟩
  exact kq _ (sl.trans s2)
 have eE:∀(D:Ends)(hD:∀ s H',Q (.str s) H'->D.rt (.str s) H')(a b c d v5:Option V)(k:Addr)(st:Str)(H':Hp)(x:Addr),Same H H'->H' x=none->rY n mk ls st->((k=OM/\st = "odd")∨(k=PD/\st = "parted")∨(k=TR/\st = "rough"))->B0 OM PD TR D [a,b,c,d,some (.ref x),v5,none] (upd H' x (excO x k)):=fun D hD a b c d v5 k st H' x s' hx du hk=>by
  have fin:∀ H9,Same (upd H' x (excO x k)) H9->D.rt (.str st) H9:=fun H9 s9=>by
   have sA:=s'.trans ((ao hx (excO x k)).trans s9)
   exact hD _ _ (kk st H9 du (.of sA) (aZ tb0 sA))
  refine⟨_,_,_,_,_,_,rfl,.inr ⟨x,k,rfl,ag,?_⟩⟩
  rcases hk with⟨rfl,rfl⟩ | ⟨rfl,rfl⟩ | ⟨rfl,rfl⟩
  ·exact .inl ⟨rfl,fin⟩
  ·exact .inr (.inl ⟨rfl,fin⟩)
  ·exact .inr (.inr ⟨rfl,fin⟩)
 have nE:∀(D:Ends)(hD:∀ s H',Q (.str s) H'->D.rt (.str s) H')(a b c d v5:Option V)(H':Hp),SmT H H'->Tb lqF lpF TT H'->(bl mk).length%2=0->Conn n ls->(bl mk).length<=14->B0 OM PD TR D [a,b,c,d,some .non,v5,none] H':=fun D hD a b c d v5 H' sm tb ev hc fw=>⟨_,_,_,_,_,_,rfl,.inl ⟨rfl,hD _ _ (kk _ _ (.inr (.inr (.inr ⟨ev,hc,fw,rfl⟩))) sm tb)⟩⟩
 refine⟨_,rfl,rfl,_,rfl,ite2 (fun _=>?_) (fun _=>?_)⟩
 ·refine⟨_,rfl,_,rfl,_,rfl,v,n,mk,ls,rfl,hV,ok,n1,hmk,⟨fun od H' s'=>⟨OM,rfl,.inl rfl,fun x hx=>⟨_,rfl,eE _ (fun _ _ q=>q) _ _ _ _ _ OM "odd" H' x s' hx (.inl ⟨od,rfl⟩) (.inl ⟨rfl,rfl⟩)⟩⟩,fun ev nc H' s'=>⟨PD,rfl,.inr (.inl rfl),fun x hx=>⟨_,rfl,eE _ (fun _ _ q=>q) _ _ _ _ _ PD "parted" H' x s' hx (.inr (.inl ⟨ev,nc,rfl⟩)) (.inr (.inl ⟨rfl,rfl⟩))⟩⟩,fun ev hc big H' s'=>⟨TR,rfl,.inr (.inr rfl),fun x hx=>⟨_,rfl,eE _ (fun _ _ q=>q) _ _ _ _ _ TR "rough" H' x s' hx (.inr (.inr (.inl ⟨ev,hc,big,rfl⟩))) (.inr (.inr ⟨rfl,rfl⟩))⟩⟩⟩,tb0,fun ev hc fw t cost u H' sm tb' _ _ _ _ _=>?_⟩
  exact nE _ (fun _ _ q=>q) _ _ _ _ _ H' sm tb' ev hc fw
 refine⟨_,rfl,rfl,_,rfl,ite2 (fun _=>?_) (fun _=>?_)⟩
 ·refine⟨_,rfl,_,rfl,_,rfl,v,n,mk,ls,rfl,hV,ok,n1,hmk,⟨fun od H' s'=>⟨OM,rfl,.inl rfl,fun x hx=>⟨_,rfl,eE _ (fun _ _ q=>q) _ _ _ _ _ OM "odd" H' x s' hx (.inl ⟨od,rfl⟩) (.inl ⟨rfl,rfl⟩)⟩⟩,fun ev nc H' s'=>⟨PD,rfl,.inr (.inl rfl),fun x hx=>⟨_,rfl,eE _ (fun _ _ q=>q) _ _ _ _ _ PD "parted" H' x s' hx (.inr (.inl ⟨ev,nc,rfl⟩)) (.inr (.inl ⟨rfl,rfl⟩))⟩⟩,fun ev hc big H' s'=>⟨TR,rfl,.inr (.inr rfl),fun x hx=>⟨_,rfl,eE _ (fun _ _ q=>q) _ _ _ _ _ TR "rough" H' x s' hx (.inr (.inr (.inl ⟨ev,hc,big,rfl⟩))) (.inr (.inr ⟨rfl,rfl⟩))⟩⟩⟩,tb0,fun ev hc fw p cs H' sm tb' _ _ _=>?_⟩
  exact nE _ (fun _ _ q=>q) _ _ _ _ _ H' sm tb' ev hc fw
 ·refine⟨_,rfl,_,rfl,_,rfl,v,n,mk,ls,rfl,hV,ok,n1,hmk,few,⟨fun od H' s'=>⟨OM,rfl,.inl rfl,fun x hx=>⟨_,rfl,eE _ (fun _ _ q=>q) _ _ _ _ _ OM "odd" H' x s' hx (.inl ⟨od,rfl⟩) (.inl ⟨rfl,rfl⟩)⟩⟩,fun ev nc H' s'=>⟨PD,rfl,.inr (.inl rfl),fun x hx=>⟨_,rfl,eE _ (fun _ _ q=>q) _ _ _ _ _ PD "parted" H' x s' hx (.inr (.inl ⟨ev,nc,rfl⟩)) (.inr (.inl ⟨rfl,rfl⟩))⟩⟩,fun ev hc big H' s'=>⟨TR,rfl,.inr (.inr rfl),fun x hx=>⟨_,rfl,eE _ (fun _ _ q=>q) _ _ _ _ _ TR "rough" H' x s' hx (.inr (.inr (.inl ⟨ev,hc,big,rfl⟩))) (.inr (.inr ⟨rfl,rfl⟩))⟩⟩⟩,tb0,fun ev hc fw u H' sm tb'=>?_⟩
  exact nE _ (fun _ _ q=>q) _ _ _ _ _ H' sm tb' ev hc fw
end
end KF
namespace KF
open PySem L2
local macro_rules | `(tactic| walk_at "cc") => `(tactic| first | exact ⟨by decide, by decide⟩ | (show (0 : Int) < _; decide) | (show (0 : Int) < _; omega) | (show (0 : Int) ≤ _; omega) | exact ⟨by decide, by decide, by decide⟩ | exact ⟨by omega, by omega, by decide⟩ | exact Or.inl ⟨by decide, by decide⟩ | exact Or.inl ⟨by omega, by omega⟩)
local macro_rules | `(tactic| walk_at "rd") => `(tactic| repeat (first | refine ⟨_, rfl, ?_⟩ | refine ⟨_, _, rfl, rfl, ?_⟩ | refine ⟨rfl, ?_⟩ | (refine ⟨?cc, ?_⟩; (case cc => walk_at "cc"))))
def rL1(K:DE)(a TT:Addr)(ns:List Int):TS:=fun D σ H=>∃(n:Nat)(la:Addr)(ys:List V)(ls:List Lk)(sd:Int),σ = [some (.ref a),some (.int (n:Int)),some (.ref la),some (.int sd),none,none,none,none,none]/\SqL K H a (ns.map V.int)/\H la=some (.lst ys)/\LsAt LkAt H ys ls/\Lok n ls/\1<=n/\n<=20/\ls.length<=40/\Tb lqF lpF TT H/\∀ H',D.rt (.bl true) H'
def rL2(a TT:Addr):TS:=fun D σ H=>∃(n mk:Nat)(la:Addr)(ys:List V)(ls:List Lk)(sd:Int),σ = [some (.ref a),some (.int (n:Int)),some (.ref la),some (.int sd),some (.int (mk:Int)),none,none,none,none]/\H la=some (.lst ys)/\LsAt LkAt H ys ls/\Lok n ls/\1<=n/\n<=20/\ls.length<=40/\mk<2^n/\Tb lqF lpF TT H/\∀ H',D.rt (.bl true) H'
def rL3(a TT:Addr):TS:=fun D σ H=>∃(n mk:Nat)(la:Addr)(ys:List V)(ls:List Lk)(sd:Int)(d1:Str),σ = [some (.ref a),some (.int (n:Int)),some (.ref la),some (.int sd),some (.int (mk:Int)),some (.int (((bl mk).length:Nat):Int)),some (.str d1),none,none]/\((14<(bl mk).length/\d1 = "rough")∨((bl mk).length<=14/\d1 = "taken"))/\H la=some (.lst ys)/\LsAt LkAt H ys ls/\Lok n ls/\1<=n/\n<=20/\ls.length<=40/\mk<2^n/\Tb lqF lpF TT H/\∀ H',D.rt (.bl true) H'
def rL4(a TT:Addr):TS:=fun D σ H=>∃(n mk:Nat)(la:Addr)(ys:List V)(ls:List Lk)(sd ct:Int)(d1:Str),σ = [some (.ref a),some (.int (n:Int)),some (.ref la),some (.int sd),some (.int (mk:Int)),some (.int ct),some (.str d1),none,none]/\rY n mk ls d1/\H la=some (.lst ys)/\LsAt LkAt H ys ls/\Lok n ls/\1<=n/\n<=20/\ls.length<=40/\mk<2^n/\Tb lqF lpF TT H/\∀ H',D.rt (.bl true) H'
def ze(K:DE)(TT:Addr):Sp:=fun vs H Q _=>∃(a:Addr)(ns:List Int),vs = [.ref a]/\SqL K H a (ns.map V.int)/\ns.length<=63/\Tb lqF lpF TT H/\∀ H',Q (.bl true) H'
section
variable{P:Program}{w:World}{K:DE}{mg:Str->Option Value}{base:Heap}
theorem c8:aJ ["script","many","links","side","marks","count","due","name","handed"] ["script"] (ak mV):=⟨rfl,rfl,rfl,by decide +kernel,rfl,by decide +kernel,by decide +kernel⟩
theorem ok_law{f f1 f2 f3 f4 TT:Addr}{fd fd1 fd2 fd3 fd4:FuncData} (F:Fun K "law" "law" mV f fd) (T:TxtL mg) (G_law_cell_at:Cal P w K mg base 1 "_law_cell_at" ["script","k"] (sx K) f1 fd1) (G_law_links_by:Cal P w K mg base 2 "_law_links_by" ["script","first","many","most"] (spLb K) f2 fd2) (G_law_together:Cal P w K mg base 1 "_law_together" ["many","links"] BP f3 fd3) (G_law_told:Cal P w K mg base 13 "_law_told" ["name","many","links","marks"] (vS TT) f4 fd4):FnOk P w K mg base CX0 14 f fd ["script"] (ze K TT):=by
 refine F.ok c8 (fun vs H Q E h=>?_) (fun cdv A outer s H vs Q E hr h=>?_)
 ·obtain⟨a,ns,rfl,_⟩:=h
  rfl
 obtain⟨a,ns,rfl,hS,h63,tb0,kl⟩:=h
 have hu64:=hr.units
 have hu:=uU hr
 have two:∀{n:Nat},(1:Int)*2^((n:Nat):Int).toNat=((2^n:Nat):Int):=fun{n}=>shlN n
 have pos2:∀ n:Nat,(0:Int)<((2^n:Nat):Int):=fun n=>by have:=Fb n;omega +splitDisjunctions
 refine⟨_,(af (ar (i:=1) c8.nd rfl (Or.inl rfl) (au cH ah (au bP (ay G_law_cell_at.ok (hr.mono (by decide)) rfl G_law_cell_at.mg G_law_cell_at.kp G_law_cell_at.bn .nil aX (ae (pv 0) (ae ah ai))) ah)))
   (af (ar (i:=2) c8.nd rfl (Or.inl rfl) (ay G_law_links_by.ok (hr.mono (by decide)) rfl G_law_links_by.mg G_law_links_by.kp G_law_links_by.bn .nil aX (ae (pv 0) (ae ah (ae (pv 1) (ae ah ai))))))
   (af (ar (i:=3) c8.nd rfl (Or.inr rfl) (au bP (au iC (ay G_law_cell_at.ok (hr.mono (by decide)) rfl G_law_cell_at.mg G_law_cell_at.kp G_law_cell_at.bn .nil aX (ae (pv 0) (ae ah ai))) ah) (au bW ah (pv 1))))
   (af (di (aF f9 (au bP (ay G_law_cell_at.ok (hr.mono (by decide)) rfl G_law_cell_at.mg G_law_cell_at.kp G_law_cell_at.bn .nil aX (ae (pv 0) (ae ah ai))) ah) ah (aN _)) (aq (bL (i:=2) rfl c8.nd rfl rfl (fr:=[("side",3)]) (xs:=["link"]) (eQ.of (by rfl) (by decide +kernel) (by rfl) (by decide +kernel) (by intro p hp;simp only[DI,D7,or_false]at hp;rcases hp with rfl<;>exact⟨rfl,rfl⟩) (by decide +kernel) (by intro p hp;simp only[DI,D7,or_false]at hp;rcases hp with rfl<;>rfl)) (bu (pv 2)) (fun C ex s H=>(aC (i:=0) (show(["link","side"]:List Str).Nodup from by decide +kernel) rfl (Or.inl rfl))) (fun C ex s H=>(Cd (aF f9 (au oX (au iP (au oW (pv 1) (aM (iG (K:=K) rfl) (pv 0) ah (fun _ _=>rfl))) (au oW (pv 1) (aM (iG (K:=K) rfl) (pv 0) ah (fun _ _=>rfl)))) ah) ah (aN _)))) (fun C ex s H=>(pv 0)))) bf)
   (dh (t2:=rL1 K a TT ns) (af (ar (i:=4) c8.nd rfl (Or.inr rfl) (au bP (au iC (ay G_law_cell_at.ok (hr.mono (by decide)) rfl G_law_cell_at.mg G_law_cell_at.kp G_law_cell_at.bn .nil aX (ae (pv 0) (ae ah ai))) ah) (au bW ah (pv 1))))
   (af (di (aF f9 (au bP (ay G_law_cell_at.ok (hr.mono (by decide)) rfl G_law_cell_at.mg G_law_cell_at.kp G_law_cell_at.bn .nil aX (ae (pv 0) (ae ah ai))) ah) ah (aN _)) (aq (ar (i:=4) c8.nd rfl (Or.inr rfl) (au fO (au bW ah (pv 1)) ah))) bf)
   (dh (t2:=rL2 a TT) (af (ar (i:=5) c8.nd rfl (Or.inl rfl) (aP (AF rfl) (by rfl) T.n_sum bt_sum (ae (jM rfl (fr:=[("marks",4)]) (by exact cf.one (by rfl) (by decide +kernel) (by rfl) (by decide +kernel) (by rfl) (by decide +kernel) (by rfl) (by rfl) (by decide +kernel) (by rfl)) (bV rfl T.n_range (ae (pv 1) ai)) (fun C ex s H=>(au oX (au oW (pv 1) (pv 0)) ah))) ai)))
   (af (ar (i:=6) c8.nd rfl (Or.inl rfl) cG)
   (af (di (aF zH (pv 5) ah (aN _)) (aq (ar (i:=6) c8.nd rfl (Or.inl rfl) cG)) bf)
   (dh (t2:=rL3 a TT) (af (di (wo (wm (ay G_law_together.ok (hr.mono (by decide)) rfl G_law_together.mg G_law_together.kp G_law_together.bn .nil aX (ae (pv 1) (ae (pv 2) ai))))) (aq (ar (i:=6) c8.nd rfl (Or.inl rfl) cG)) bf)
   (af (di (aF f9 (au bP (pv 5) ah) ah (aN _)) (aq (ar (i:=6) c8.nd rfl (Or.inl rfl) cG)) bf)
   (dh (t2:=rL4 a TT) (af (dM PassesOwn.never rfl (bu (fN (ae cG (ae cG (ae cG ai))))) (aC (i:=7) c8.nd rfl (Or.inl rfl)) (af (ar (i:=8) c8.nd rfl (Or.inl rfl) (jN pT (by rfl) T.n_list nY (ae (pv 2) ai)))
   (aq (di (PW.pt (Cb (aF qG (ay G_law_told.ok (hr.mono (by decide)) rfl G_law_told.mg G_law_told.kp G_law_told.bn .nil aX (ae (pv 7) (ae (pv 1) (ae (pv 8) (ae (pv 4) ai))))) (pv 6) (aN _)) (wj (aF (op_neD hu64) (pv 8) (pv 2) (aN _))))) (aq (aV ur)) bf))))
   (aq (aV ur))) (fun D0 S0 H0 h0=>?rest4)))) (fun D0 S0 H0 h0=>?rest3))))) (fun D0 S0 H0 h0=>?rest2)))) (fun D0 S0 H0 h0=>?rest1)))))),?_⟩
 case rest1 =>
  obtain⟨n,la,ys,ls,sd,rfl,hS,hla,hL,ok,n1,n20,l40,tb,kl⟩:=h0
  have p2:=pos2 n
  obtain⟨mk,em⟩:∃ m:Nat,c6 ns 3/4%((2^n:Nat):Int)=(m:Int):=⟨(c6 ns 3/4%((2^n:Nat):Int)).toNat,by have:=ES (c6 ns 3/4) (show((2^n:Nat):Int)≠0 by omega +splitDisjunctions);omega +splitDisjunctions⟩
  have mb:mk<2^n:=by have:=Fe (c6 ns 3/4) p2;omega +splitDisjunctions
  refine⟨_,rfl,a,3,ns,rfl,hS,_,_,rfl,rfl,⟨by decide,by decide⟩,_,rfl,_,_,rfl,rfl,⟨by omega +splitDisjunctions,by omega +splitDisjunctions,by decide⟩,_,_,rfl,rfl,(by show(0:Int)<1*2^((n:Nat):Int).toNat;rw[two];exact p2),?_⟩
  simp only[two,em]
  refine⟨_,rfl,a,3,ns,rfl,hS,_,_,rfl,rfl,(by show(0:Int)<2;decide),rfl,_,rfl,ite2 (fun c=>?_) (fun c=>?_)⟩
  ·refine⟨_,rfl,_,_,rfl,rfl,⟨by omega +splitDisjunctions,by omega +splitDisjunctions,by decide⟩,_,_,rfl,rfl,?_⟩
   have e1:(1:Int)*2^((n:Nat):Int).toNat-1=((2^n-1:Nat):Int):=by
    rw[two]
    omega +splitDisjunctions
   simp only[e1]
   exact⟨n,2^n-1,la,ys,ls,sd,rfl,hla,hL,ok,n1,n20,l40,by omega +splitDisjunctions,tb,kl⟩
  ·exact⟨n,mk,la,ys,ls,sd,rfl,hla,hL,ok,n1,n20,l40,mb,tb,kl⟩
 case rest2 =>
  obtain⟨n,mk,la,ys,ls,sd,rfl,hla,hL,ok,n1,n20,l40,mb,tb,kl⟩:=h0
  refine⟨_,rfl,_,rfl,by omega +splitDisjunctions,by omega +splitDisjunctions,dP (n:=n) (fun i zs H2=>H2=H0/\∃ is:List Int,zs=is.map V.int/\is.sum=bsum mk i) (Ej (av (by omega +splitDisjunctions))) ⟨rfl,[],rfl,rfl⟩ ?_ ?_⟩
  ·rintro i zs H2 hi ⟨rfl,is,rfl,ic⟩
   have e0:(0:Int)+(i:Int)=(i:Int):=FO _
   rw[e0]
   refine⟨_,rfl,_,rfl,_,_,rfl,rfl,(show(0:Int)<=(i:Int) by omega +splitDisjunctions),_,_,rfl,rfl,?_⟩
   refine⟨rfl,is++[Builtin.bitAnd ((mk:Int)/2^((i:Nat):Int).toNat) 1],by rw[Ex];rfl,?_⟩
   rw[List.sum_append,ic]
   show bsum mk i+(_+0)=bsum mk i+(if mk.testBit i=true then 1 else 0)
   have e1:(mk:Int)/2^((i:Nat):Int).toNat=((mk/2^i:Nat):Int):=by
    rw[DV]
    push_cast
    rfl
   have e3:Builtin.bitAnd ((mk/2^i:Nat):Int) 1=((mk/2^i&&&1:Nat):Int):=andN _ 1
   rw[e1,e3,Nat.and_one_is_mod,Nat.testBit_eq_decide_div_mod_eq]
   by_cases c:mk/2^i%2=1
   ·rw[c,if_pos (by simp)];omega +splitDisjunctions
   ·rw[if_neg (by simpa using c)];omega +splitDisjunctions
  ·rintro zs H2 _ ⟨rfl,is,rfl,ic⟩ p hp
   have s5:=ao hp (.lst (is.map V.int))
   refine⟨p,is,rfl,SqL.of ag,?_⟩
   rw[ic,Dq mb]
   refine⟨_,rfl,_,_,rfl,rfl,_,rfl,ite2 (fun c=>?_) (fun c=>?_)⟩
   ·exact⟨n,mk,la,ys,ls,sd,"rough",rfl,.inl ⟨by have c':=of_decide_eq_true c;have c':(((bl mk).length:Nat):Int) > 14:=c';omega +splitDisjunctions,rfl⟩,s5 _ _ hla,hL.imp fun _ _ y=>y.mono s5,ok,n1,n20,l40,mb,aZ tb s5,kl⟩
   ·exact⟨n,mk,la,ys,ls,sd,"taken",rfl,.inr ⟨by
     have:¬ (((bl mk).length:Nat):Int) > 14:=fun y=>c (decide_eq_true y)
     omega +splitDisjunctions,rfl⟩,s5 _ _ hla,hL.imp fun _ _ y=>y.mono s5,ok,n1,n20,l40,mb,aZ tb s5,kl⟩
 case rest3 =>
  obtain⟨n,mk,la,ys,ls,sd,d1,rfl,hd,hla,hL,ok,n1,n20,l40,mb,tb,kl⟩:=h0
  refine⟨_,rfl,_,rfl,.ref la,n,ls,rfl,⟨la,ys,rfl,hla,hL⟩,ok,n1,fun b H2 s2 hb=>?_⟩
  have fin:∀ d2:Str,rY n mk ls d2->rL4 a TT D0 [some (.ref a),some (.int (n:Int)),some (.ref la),some (.int sd),some (.int (mk:Int)),some (.int (((bl mk).length:Nat):Int)),some (.str d2),none,none] H2:=fun d2 du=>⟨n,mk,la,ys,ls,sd,_,d2,rfl,du,s2 _ _ hla,hL.imp fun _ _ y=>y.mono s2,ok,n1,n20,l40,mb,aZ tb s2,kl⟩
  have odd:(decide (V.int ((((bl mk).length:Nat):Int)%2)=V.int 1))=true↔(bl mk).length%2=1:=by
   constructor
   ·intro c
    have:=V.int.inj (of_decide_eq_true c)
    omega +splitDisjunctions
   ·intro c
    exact decide_eq_true (congrArg V.int (by omega +splitDisjunctions))
  cases b with
  |false =>
   have nc:¬ Conn n ls:=fun z=>DW (hb.mpr z)
   refine⟨_,rfl,ite2 (fun _=>?_) (fun c=>absurd rfl c)⟩
   refine⟨_,rfl,_,_,rfl,rfl,(by show(0:Int)<2;decide),rfl,_,rfl,ite2 (fun c=>fin _ (.inl ⟨odd.mp c,rfl⟩)) (fun c=>fin _ (.inr (.inl ⟨?_,nc,rfl⟩)))⟩
   have:¬ (bl mk).length%2=1:=fun z=>c (odd.mpr z)
   omega +splitDisjunctions
  |true =>
   have hc:=hb.mp rfl
   refine⟨_,rfl,iteF ?_⟩
   refine⟨_,rfl,_,_,rfl,rfl,(by show(0:Int)<2;decide),rfl,_,rfl,ite2 (fun c=>fin _ (.inl ⟨odd.mp c,rfl⟩)) (fun c=>fin _ ?_)⟩
   have ev:(bl mk).length%2=0:=by
    have:¬ (bl mk).length%2=1:=fun z=>c (odd.mpr z)
    omega +splitDisjunctions
   rcases hd with⟨g,e⟩ | ⟨g,e⟩
   ·exact .inr (.inr (.inl ⟨ev,hc,g,e⟩))
   ·exact .inr (.inr (.inr ⟨ev,hc,g,e⟩))
 case rest4 =>
  obtain⟨n,mk,la,ys,ls,sd,ct,d1,rfl,du,hla,hL,ok,n1,n20,l40,mb,tb,kl⟩:=h0
  refine⟨(by show 3<=sizeLine;decide),fun l hl=>?_⟩
  have s1:=ao hl (.lst [.str "paired",.str "heights",.str "hills"])
  refine⟨l,rfl,⟨_,SqL.of ag⟩,c9 (K:=K) (xs:=[.str "paired",.str "heights",.str "hills"]) (fun i σ H5=>∃ v7 v8,σ = [some (.ref a),some (.int (n:Int)),some (.ref la),some (.int sd),some (.int (mk:Int)),some (.int ct),some (.str d1),v7,v8]/\H5 l=some (.lst [.str "paired",.str "heights",.str "hills"])/\H5 la=some (.lst ys)/\LsAt LkAt H5 ys ls/\Tb lqF lpF TT H5) ⟨_,_,rfl,ag,s1 _ _ hla,hL.imp fun _ _ y=>y.mono s1,aZ tb s1⟩ (fun i σ H5 _ ⟨_,_,_,z,_⟩=>SqL.of z) ?_ ?_⟩
  ·rintro i x σ H5 hx ⟨v7,v8,rfl,hl5,hla5,hL5,tb5⟩
   obtain⟨nm,rfl⟩:∃ nm,x=V.str nm:=by
    match i,hx with
    |0,h=>exact⟨_,(El h).symm⟩
    |1,h=>exact⟨_,(El h).symm⟩
    |2,h=>exact⟨_,(El h).symm⟩
    |_+3,h=>cases h
   refine⟨_,rfl,la,ys,rfl,.inl (SqL.of hla5),fun lb hlb=>?_⟩
   have s6:=ao hlb (.lst ys)
   have hL6:LsAt LkAt (upd H5 lb (.lst ys)) ys ls:=hL5.imp fun _ _ y=>y.mono s6
   refine⟨_,rfl,_,rfl,_,rfl,_,rfl,nm,.ref lb,n,mk,ls,rfl,⟨lb,ys,rfl,ag,hL6⟩,ok,n1,mb,by omega +splitDisjunctions,aZ tb5 s6,fun st H7 dst sm7 tb7=>?_⟩
   have hL7:LsAt LkAt H7 ys ls:=hL6.imp fun _ _ ⟨t,e,z⟩=>⟨t,e,sm7.tup z⟩
   have hla7:=sm7.lst (s6 _ _ hla5)
   have hlb7:H7 lb=some (.lst ys):=sm7.lst ag
   refine⟨_,rfl,rfl,_,rfl,uT (congrArg V.str (dst.uniq du)) ?_⟩
   refine⟨_,rfl,_,rfl,_,Bg (SqL.of hlb7) hL7,Bg (SqL.of hla7) hL7,uK _,_,rfl,iteF ?_⟩
   exact⟨_,_,rfl,sm7.lst (s6 _ _ hl5),hla7,hL7,tb7⟩
  ·rintro σ H5 ⟨v7,v8,rfl,_⟩
   exact kl _
 obtain⟨n,en,n1,n20⟩:∃ n:Nat,1+c6 ns 0%20=(n:Int)/\1<=n/\n<=20:=⟨(1+c6 ns 0%20).toNat,by omega +splitDisjunctions,by omega +splitDisjunctions,by omega +splitDisjunctions⟩
 have p2:=pos2 n
 refine⟨_,rfl,a,0,ns,rfl,hS,_,_,rfl,rfl,(by show(0:Int)<20;decide),_,_,rfl,rfl,?_⟩
 simp only[en]
 refine⟨_,rfl,_,rfl,a,4,n,30,ns,rfl,hS,h63,n1,by omega +splitDisjunctions,by decide,by decide,by omega +splitDisjunctions,fun la ys H1 ls s1 hla0 hla hL ok l40 hc=>?_⟩
 have tb1:=aZ tb0 s1
 have hS1:=s1.seq hS
 refine⟨_,rfl,a,2,ns,rfl,hS1,_,_,rfl,rfl,⟨by decide,by decide⟩,_,rfl,_,_,rfl,rfl,⟨by omega +splitDisjunctions,by omega +splitDisjunctions,by decide⟩,_,_,rfl,rfl,(by show(0:Int)<1*2^((n:Nat):Int).toNat;rw[two];exact p2),?_⟩
 refine⟨_,rfl,a,2,ns,rfl,hS1,_,_,rfl,rfl,(by show(0:Int)<3;decide),rfl,_,rfl,ite2 (fun c=>?_) (fun c=>?_)⟩
 ·have yl:=hL.1
  refine⟨_,rfl,la,rfl,⟨_,SqL.of hla⟩,cq (K:=K) (xs:=ys) (fun i zs H2=>H2=H1/\∃ es:List Lk,LsAt LkAt H1 zs es/\es.length<=i/\∀ l∈es,l∈ls) (Ej (av (by omega +splitDisjunctions))) ⟨rfl,[],LsAt.nil,DF _,fun l hl=>nomatch hl⟩ (fun i zs H2 _ z=>by rw[z.1];exact SqL.of hla) ?_ ?_ (fun i zs H2 ⟨_,es,z,el,_⟩=>by rw[z.1];exact el)⟩
  ·rintro i x zs H2 hx ⟨rfl,es,hE,el,eb⟩
   obtain⟨l,hl,t,rfl,ht⟩:=hL.get hx
   refine⟨rfl,_,rfl,_,rfl,t,_,0,_,rfl,rfl,SqT.of ht,a30,_,_,rfl,rfl,(show(0:Int)<=(l.1:Int) by omega +splitDisjunctions),_,rfl,_,rfl,t,_,1,_,rfl,rfl,SqT.of ht,a31,_,_,rfl,rfl,(show(0:Int)<=(l.2.1:Int) by omega +splitDisjunctions),_,_,rfl,rfl,_,_,rfl,rfl,rfl,_,rfl,ite2 (fun c=>?_) (fun c=>?_)⟩
   ·refine⟨_,rfl,rfl,es++[l],hE.snoc ⟨t,rfl,ht⟩,by rw[DL];exact Nat.succ_le_succ el,fun m hm=>?_⟩
    rcases DN.mp hm with hm | hm
    ·exact eb m hm
    ·rw[DP.mp hm];exact DH hl
   ·exact⟨rfl,es,hE,by omega +splitDisjunctions,eb⟩
  ·rintro zs H2 ⟨rfl,es,hE,el,eb⟩ D hD
   have s3:=ao hD (.lst zs)
   rw[yl]at el
   exact⟨n,D,zs,es,_,rfl,s3.seq hS1,ag,hE.imp fun _ _ y=>y.mono s3,⟨ok.n1,by have:=ok.l9;omega +splitDisjunctions,fun l hl=>ok.sm l (eb l hl),fun l hl=>ok.w0 l (eb l hl)⟩,n1,n20,by omega +splitDisjunctions,aZ tb1 s3,kl⟩
 ·exact⟨n,la,ys,ls,_,rfl,hS1,hla,hL,ok,n1,n20,l40,tb1,kl⟩
end
end KF
namespace KF
open PySem L2
def tvB(K:DE)(D:Addr):Bool:=Eg K (.ref D) (.type "ValueError") == some true
theorem BI{K:DE}{D:Addr}(h:tvB K D=true):Eg K (.ref D) (.type "ValueError")=some true:=by
 unfold tvB at h
 exact beq_iff_eq.mp h
theorem zc{K:DE}{x:Str}{f c T:Addr}{o1 o3:Value}{o2 o4:Option Addr}{o5 o6:Array (Option Value)}{fd:FuncData}{vs:Array Value}(a:DS K mainGlobals x=some (some (.ref f)))(l:K.lookup f=some ⟨o1,o2,.func fd,o5⟩)(e:fd.code=.ref c)(lc:K.lookup c=some ⟨o3,o4,.fields vs,o6⟩)(v:vs[11]?=some (.ref T)):FA K x=some (c,T):=by
 unfold FA
 rw[a]
 simp only[l,e,lc,v]
theorem all_mk{l:Hc}{w:World}{K:DE}{h:Heap}{mg:Str->Option Value}{fa bE ax aK aw hU jt fJ nN jo nL tH tG Ar hX cD eF b8 eh jq hG h7 h9 jr nM cQ eB cF cE fK C9:Addr}{cT TT:Addr}{oT:Value}{dT:Option Addr}{vT:Array Value}{sT:Array (Option Value)}(X:K.In h)(G:h.Ns mainGlobals mg) (hfa:mg "law" = some (.ref fa))
  {uy vy wV yP qH rU zP AN wQ yM zN AL CA Dx Cz Dw od_odd an_odd uz vz jQ kU o7 p8 iZ i8 oY p6 wR yN ux vx uA vA uB vB wU yO zO AM lF lV oZ p7 jS kX jR kW qI rV od_law Bv:Option Addr} {uc wb qx zk vX zh BV BU sl_odd ud jD oG iW oE vY t8 ue uf vZ zj lC oF jF jE qy sl_law:Array (Option Value)} {uD uP u6 uj mz vf wZ xE ye wB pR yn qJ qY rD qC kH rG zS Ai Az zD nR AE wW xB yb wx pO yj zQ Af Ax zy tN AB CC CV Dh Cf yt Dl CB CU Dg Ce yq Dk oc_odd kV_odd dc_odd pm_odd Bt ct_odd uE uQ u9 uk mB vg jT j7 kr jI fm kC pd pz pI oP iT pL i3 i4 i6 iX eU i7 o8 pj pG oM iR pJ wX xC yc wy pP yk uC uO u5 ui my ve uF uR vc uo mD vh uG uS vd uq mE vi wY xD yd wA pQ ym zR Ag Ay zC tO AD lG lL lN lE fQ lP o9 pq pH oO iS pK jV j9 kA jK fq kE jU j8 ku jJ fo kD qK qZ rE qD kJ rH oc_law Bk Bq Bc yr Br:Value}
  {ti_most:Tok}
  (eJ:DS K mainGlobals "FloorError" = some (some (.ref bE)))
  (gF:DS K mainGlobals "OddMarks" = some (some (.ref ax)))
  (lj:DS K mainGlobals "Parted" = some (some (.ref aK)))
  (gE:DS K mainGlobals "TooRough" = some (some (.ref aw)))
  (kZ:DS K mainGlobals "reached" = some (some (.ref hU)))
  (jY:K.lookup hU=some ⟨uD,uy,.func (Ee "reached" "reached" (aG dG) (aD dG) (ak dG) .none uP u6 uj vy mz vf),uc⟩)
  (kM:Eb K mz "reached" = true)
  (gU:D4 K (.ref hU)=true)
  (oq:DS K mainGlobals "beyond" = some (some (.ref jt)))
  (nC:K.lookup jt=some ⟨wZ,wV,.func (Ee "beyond" "beyond" (aG fF) (aD fF) (ak fF) .none xE ye wB yP pR yn),wb⟩)
  (nX:Eb K pR "beyond" = true)
  (jj:D4 K (.ref jt)=true)
  (iJ:DS K mainGlobals "links_at" = some (some (.ref fJ)))
  (iE:K.lookup fJ=some ⟨qJ,qH,.func (Ee "links_at" "links_at" (aG cS) (aD cS) (ak cS) .none qY rD qC rU kH rG),qx⟩)
  (iH:Eb K kH "links_at" = true)
  (fH:D4 K (.ref fJ)=true)
  (lg:DS K mainGlobals "fares" = some (some (.ref nN)))
  (nB:K.lookup nN=some ⟨zS,zP,.func (Ee "fares" "fares" (aG fY) (aD fY) (ak fY) .none Ai Az zD AN nR AE),zk⟩)
  (rO:Eb K nR "fares" = true)
  (nJ:D4 K (.ref nN)=true)
  (oh:DS K mainGlobals "row_to" = some (some (.ref jo)))
  (nu:K.lookup jo=some ⟨wW,wQ,.func (Ee "row_to" "row_to" (aG fA) (aD fA) (ak fA) .none xB yb wx yM pO yj),vX⟩)
  (nU:Eb K pO "row_to" = true)
  (jg:D4 K (.ref jo)=true)
  (rW:DS K mainGlobals "whole" = some (some (.ref nL)))
  (qV:K.lookup nL=some ⟨zQ,zN,.func (Ee "whole" "whole" (aG iy) (aD iy) (ak iy) .none Af Ax zy AL tN AB),zh⟩)
  (rM:Eb K tN "whole" = true)
  (nG:D4 K (.ref nL)=true)
  (yR:DS K mainGlobals "bits" = some (some (.ref tH)))
  (xw:K.lookup tH=some ⟨CC,CA,.func (Ee "bits" "bits" (aG l7) (aD l7) (ak l7) .none CV Dh Cf Dx yt Dl),BV⟩)
  (yB:Eb K yt "bits" = true)
  (tu:D4 K (.ref tH)=true)
  (yQ:DS K mainGlobals "ones" = some (some (.ref tG)))
  (xu:K.lookup tG=some ⟨CB,Cz,.func (Ee "ones" "ones" (aG l6) (aD l6) (ak l6) .none CU Dg Ce Dw yq Dk),BU⟩)
  (yA:Eb K yq "ones" = true)
  (tj:D4 K (.ref tG)=true)
  (Dz:DS K mainGlobals "odd" = some (some (.ref Ar)))
  (CM:K.lookup Ar=some ⟨oc_odd,od_odd,.func (Ee "odd" "odd" (aG uh) (aD uh) (ak uh) .none kV_odd dc_odd pm_odd an_odd Bt ct_odd),sl_odd⟩)
  (Dm:Eb K Bt "odd" = true)
  (Ae:D4 K (.ref Ar)=true)
  (k7:DS K mainGlobals "mask_of" = some (some (.ref hX)))
  (jZ:K.lookup hX=some ⟨uE,uz,.func (Ee "mask_of" "mask_of" (aG dH) (aD dH) (ak dH) .none uQ u9 uk vz mB vg),ud⟩)
  (kN:Eb K mB "mask_of" = true)
  (gW:D4 K (.ref hX)=true)
  (dz:DS K mainGlobals "refuse_marks" = some (some (.ref cD)))
  (dk:K.lookup cD=some ⟨jT,jQ,.func (Ee "refuse_marks" "refuse_marks" (aG bo) (aD bo) (ak bo) .none j7 kr jI kU fm kC),jD⟩)
  (dv:Eb K fm "refuse_marks" = true)
  (cz:D4 K (.ref cD)=true)
  (gD:DS K mainGlobals "chosen_of" = some (some (.ref eF)))
  (gk:K.lookup eF=some ⟨pd,o7,.func (Ee "chosen_of" "chosen_of" (aG cn) (aD cn) (ak cn) .none pz pI oP p8 iT pL),oG⟩)
  (gA:Eb K iT "chosen_of" = true)
  (d9:D4 K (.ref eF)=true)
  (c5:DS K mainGlobals "laid_in_pairs" = some (some (.ref b8)))
  (cX:K.lookup b8=some ⟨i3,iZ,.func (Ee "laid_in_pairs" "laid_in_pairs" (aG aR) (aD aR) (ak aR) .none i4 i6 iX i8 eU i7),iW⟩)
  (cZ:Eb K eU "laid_in_pairs" = true)
  (bA:D4 K (.ref b8)=true)
  (gB:DS K mainGlobals "new_table" = some (some (.ref eh)))
  (gf:K.lookup eh=some ⟨o8,oY,.func (Ee "new_table" "new_table" (aG cj) (aD cj) (ak cj) .none pj pG oM p6 iR pJ),oE⟩)
  (gy:Eb K iR "new_table" = true)
  (d7:D4 K (.ref eh)=true)
  (oi:DS K mainGlobals "paired" = some (some (.ref jq)))
  (nz:K.lookup jq=some ⟨wX,wR,.func (Ee "paired" "paired" (aG fB) (aD fB) (ak fB) .none xC yc wy yN pP yk),vY⟩)
  (nV:Eb K pP "paired" = true)
  (jh:D4 K (.ref jq)=true)
  (kY:DS K mainGlobals "root_of" = some (some (.ref hG)))
  (jX:K.lookup hG=some ⟨uC,ux,.func (Ee "root_of" "root_of" (aG dE) (aD dE) (ak dE) .none uO u5 ui vx my ve),t8⟩)
  (kL:Eb K my "root_of" = true)
  (gR:D4 K (.ref hG)=true)
  (k8:DS K mainGlobals "heights" = some (some (.ref h7)))
  (j4:K.lookup h7=some ⟨uF,uA,.func (Ee "heights" "heights" (aG dI) (aD dI) (ak dI) .none uR vc uo vA mD vh),ue⟩)
  (kP:Eb K mD "heights" = true)
  (gX:D4 K (.ref h7)=true)
  (lh:DS K mainGlobals "dryings" = some (some (.ref h9)))
  (j6:K.lookup h9=some ⟨uG,uB,.func (Ee "dryings" "dryings" (aG dJ) (aD dJ) (ak dJ) .none uS vd uq vB mE vi),uf⟩)
  (kQ:Eb K mE "dryings" = true)
  (gY:D4 K (.ref h9)=true)
  (oj:DS K mainGlobals "joined" = some (some (.ref jr)))
  (nA:K.lookup jr=some ⟨wY,wU,.func (Ee "joined" "joined" (aG fE) (aD fE) (ak fE) .none xD yd wA yO pQ ym),vZ⟩)
  (nW:Eb K pQ "joined" = true)
  (ji:D4 K (.ref jr)=true)
  (rX:DS K mainGlobals "hills" = some (some (.ref nM)))
  (qW:K.lookup nM=some ⟨zR,zO,.func (Ee "hills" "hills" (aG iA) (aD iA) (ak iA) .none Ag Ay zC AM tO AD),zj⟩)
  (rN:Eb K tO "hills" = true)
  (nH:D4 K (.ref nM)=true)
  (eI:DS K mainGlobals "_law_cell_at" = some (some (.ref cQ)))
  (d6:K.lookup cQ=some ⟨lG,lF,.func (Ee "_law_cell_at" "_law_cell_at" (aG bF) (aD bF) (ak bF) .none lL lN lE lV fQ lP),lC⟩)
  (eG:Eb K fQ "_law_cell_at" = true)
  (cP:D4 K (.ref cQ)=true)
  (gC:DS K mainGlobals "_law_names" = some (some (.ref eB)))
  (gh:K.lookup eB=some ⟨o9,oZ,.func (Ee "_law_names" "_law_names" (aG cm) (aD cm) (ak cm) .none pq pH oO p7 iS pK),oF⟩)
  (gz:Eb K iS "_law_names" = true)
  (d8:D4 K (.ref eB)=true)
  (dB:DS K mainGlobals "_law_links_by" = some (some (.ref cF)))
  (dt:K.lookup cF=some ⟨jV,jS,.func (Ee "_law_links_by" "_law_links_by" (aG bq) (aD bq) (ak bq) .none j9 kA jK kX fq kE),jF⟩)
  (dy:Eb K fq "_law_links_by" = true)
  (cC:D4 K (.ref cF)=true)
  (dA:DS K mainGlobals "_law_together" = some (some (.ref cE)))
  (dq:K.lookup cE=some ⟨jU,jR,.func (Ee "_law_together" "_law_together" (aG bp) (aD bp) (ak bp) .none j8 ku jJ kW fo kD),jE⟩)
  (dw:Eb K fo "_law_together" = true)
  (cA:D4 K (.ref cE)=true)
  (iK:DS K mainGlobals "_law_told" = some (some (.ref fK)))
  (iF:K.lookup fK=some ⟨qK,qI,.func (Ee "_law_told" "_law_told" (aG cU) (aD cU) (ak cU) .none qZ rE qD rV kJ rH),qy⟩)
  (iI:Eb K kJ "_law_told" = true)
  (fI:D4 K (.ref fK)=true)
  (AR:DS K mainGlobals "law" = some (some (.ref C9)))
  (CN:K.lookup C9=some ⟨oc_law,od_law,.func (Ee "law" "law" (aG mV) (aD mV) (ak mV) .none Bk Bq Bc Bv yr Br),sl_law⟩)
  (Dn:Eb K yr "law" = true)
  (CQ:D4 K (.ref C9)=true)
  (dU:F7 K bE veM "ValueError.__new__" = true)
  (dS:F7 K ax veM "ValueError.__new__" = true)
  (bx:EM K ax (.ref bE)=some true)
  (ga_OddMarks:E1 K (.ref ax) "__getattribute__" = some (some (.builtin "BaseException.__getattribute__")))
  (gt_OddMarks:E1 K (.ref ax) "__getattr__" = some none)
  (hb_OddMarks:EM K ax (.type "BaseException")=some true)
  (gq:Gg K ax=true)
  (gu:E1 K (.ref ax) "__class__" = some (some (.builtin "object.__class__")))
  (gn:EM K ax (.type "object")=some true)
  (bK:Eg K (.ref ax) (.ref ax)=some true)
  (b7:Eg K (.ref ax) (.ref aK)=some false)
  (bJ:Eg K (.ref ax) (.ref aw)=some false)
  (gH:F7 K aK veM "ValueError.__new__" = true)
  (bG:EM K aK (.ref bE)=some true)
  (ga_Parted:E1 K (.ref aK) "__getattribute__" = some (some (.builtin "BaseException.__getattribute__")))
  (gt_Parted:E1 K (.ref aK) "__getattr__" = some none)
  (hb_Parted:EM K aK (.type "BaseException")=some true)
  (kh:Gg K aK=true)
  (ki:E1 K (.ref aK) "__class__" = some (some (.builtin "object.__class__")))
  (ke:EM K aK (.type "object")=some true)
  (bZ:Eg K (.ref aK) (.ref ax)=some false)
  (cL:Eg K (.ref aK) (.ref aK)=some true)
  (bY:Eg K (.ref aK) (.ref aw)=some false)
  (dQ:F7 K aw veM "ValueError.__new__" = true)
  (bw:EM K aw (.ref bE)=some true)
  (ga_TooRough:E1 K (.ref aw) "__getattribute__" = some (some (.builtin "BaseException.__getattribute__")))
  (gt_TooRough:E1 K (.ref aw) "__getattr__" = some none)
  (hb_TooRough:EM K aw (.type "BaseException")=some true)
  (gp:Gg K aw=true)
  (gs:E1 K (.ref aw) "__class__" = some (some (.builtin "object.__class__")))
  (gm:EM K aw (.type "object")=some true)
  (bI:Eg K (.ref aw) (.ref ax)=some false)
  (bX:Eg K (.ref aw) (.ref aK)=some false)
  (bH:Eg K (.ref aw) (.ref aw)=some true)
  (hn_:PySem.W.specialIn K (.builtin "object.__class__") "__get__" = some (some (.builtin "getset_descriptor.__get__")))
  (htk_:PySem.W.takesIn K (.builtin "object.__class__")=some true)
  (gi_most:DS K mainGlobals "MOST_MARKS" = some (some (.int 14 ti_most)))
  (kv1_:tvB K ax=true)
  (kv2_:tvB K aK=true)
  (kv3_:tvB K aw=true)
  (BE:DS K mainGlobals "len" = some none)
  (BF:DS K mainGlobals "int" = some none)
  (vG:DS K mainGlobals "bool" = some none)
  (vE:DS K mainGlobals "list" = some none)
  (qh:DS K mainGlobals "tuple" = some none)
  (qi:DS K mainGlobals "range" = some none)
  (BC:DS K mainGlobals "min" = some none)
  (BG:DS K mainGlobals "abs" = some none)
  (fW:DS K mainGlobals "enumerate" = some none)
  (eX:DS K mainGlobals "isinstance" = some none)
  (BD:DS K mainGlobals "max" = some none)
  (BA:DS K mainGlobals "sum" = some none)
  (vF:DS K mainGlobals "dict" = some none)
  (Bz:DS K mainGlobals "zip" = some none)
  (iq:DS K mainGlobals "reversed" = some none)
  (mJ:DS K mainGlobals "sorted" = some none)
  (BB:DS K mainGlobals "set" = some none)
  (eY:DS K mainGlobals "ValueError" = some none)
  (tbc:nR=.ref cT) (tbl:K.lookup cT=some ⟨oT,dT,.fields vT,sT⟩) (tbv:vT[11]?=some (.ref TT)) (tbn:K.lookup TT=none)
  : ∃ fd:FuncData,(∀(s:Shared)(v:Value),BindsTo s fd ⟨[v],[]⟩ [("script",v)])/\∃ c T,FA K "fares" = some (c,T)/\K.lookup T=none/\∀ base:Heap,K.In base->base.Ns mainGlobals mg->Fs base c T->Bm mg base->FnOk l.prog w K mg base CX0 14 fa fd ["script"] (ze K T):=by
 have tbi:=zc lg nB tbc tbl tbv
 have e:=hfa.symm.trans (Ea X G AR)
 cases e
 have qc:=a8 (st:=dG) jY kM gU
 have yH:=qc.binds (ps:=["start","pairs"]) fun _ _ _ _ _ _ us hl=>by obtain⟨x0,x1,rfl⟩:=jW hl;rfl
 have tW:=a8 (st:=fF) nC nX jj
 have AK:=tW.binds (ps:=["link","room"]) fun _ _ _ _ _ _ us hl=>by obtain⟨x0,x1,rfl⟩:=jW hl;rfl
 have mH:=a8 (st:=cS) iE iH fH
 have vp:=mH.binds (ps:=["many","links"]) fun _ _ _ _ _ _ us hl=>by obtain⟨x0,x1,rfl⟩:=jW hl;rfl
 have yY:=a8 (st:=fY) nB rO nJ
 have Dv:=yY.binds (ps:=["many","links","start"]) fun _ _ _ _ _ _ us hl=>by obtain⟨x0,x1,x2,rfl⟩:=pg hl;rfl
 have tS:=a8 (st:=fA) nu nU jg
 have AH:=tS.binds (ps:=["links","via","room"]) fun _ _ _ _ _ _ us hl=>by obtain⟨x0,x1,x2,rfl⟩:=pg hl;rfl
 have yW:=a8 (st:=iy) qV rM nG
 have Dt:=yW.binds (ps:=["many","links"]) fun _ _ _ _ _ _ us hl=>by obtain⟨x0,x1,rfl⟩:=jW hl;rfl
 have By:=a8 (st:=l7) xw yB tu
 have b_bits:=By.binds (ps:=["mask"]) fun _ _ _ _ _ _ us hl=>by obtain⟨x0,rfl⟩:=uM hl;rfl
 have Bx:=a8 (st:=l6) xu yA tj
 have b_ones:=Bx.binds (ps:=["mask"]) fun _ _ _ _ _ _ us hl=>by obtain⟨x0,rfl⟩:=uM hl;rfl
 have F_odd:=a8 (st:=uh) CM Dm Ae
 have b_odd:=F_odd.binds (ps:=["mask"]) fun _ _ _ _ _ _ us hl=>by obtain⟨x0,rfl⟩:=uM hl;rfl
 have qe:=a8 (st:=dH) jZ kN gW
 have yI:=qe.binds (ps:=["places"]) fun _ _ _ _ _ _ us hl=>by obtain⟨x0,rfl⟩:=uM hl;rfl
 have fT:=a8 (st:=bo) dk dv cz
 have lR:=fT.binds (ps:=["many","links","marks"]) fun _ _ _ _ _ _ us hl=>by obtain⟨x0,x1,x2,rfl⟩:=pg hl;rfl
 have lA:=a8 (st:=cn) gk gA d9
 have rT:=lA.binds (ps:=["entries","numbers"]) fun _ _ _ _ _ _ us hl=>by obtain⟨x0,x1,rfl⟩:=jW hl;rfl
 have fx:=a8 (st:=aR) cX cZ bA
 have fu:=fx.binds (ps:=["between","chosen","table"]) fun _ _ _ _ _ _ us hl=>by obtain⟨x0,x1,x2,rfl⟩:=pg hl;rfl
 have lx:=a8 (st:=cj) gf gy d7
 have rR:=lx.binds (ps:=[]) fun _ _ _ _ _ _ us hl=>by cases len_0 hl;rfl
 have tU:=a8 (st:=fB) nz nV jh
 have AI:=tU.binds (ps:=["many","links","marks"]) fun _ _ _ _ _ _ us hl=>by obtain⟨x0,x1,x2,rfl⟩:=pg hl;rfl
 have p9:=a8 (st:=dE) jX kL gR
 have yG:=p9.binds (ps:=["marks"]) fun _ _ _ _ _ _ us hl=>by obtain⟨x0,rfl⟩:=uM hl;rfl
 have qf:=a8 (st:=dI) j4 kP gX
 have yJ:=qf.binds (ps:=["many","links","marks"]) fun _ _ _ _ _ _ us hl=>by obtain⟨x0,x1,x2,rfl⟩:=pg hl;rfl
 have qg:=a8 (st:=dJ) j6 kQ gY
 have yK:=qg.binds (ps:=["links","tops"]) fun _ _ _ _ _ _ us hl=>by obtain⟨x0,x1,rfl⟩:=jW hl;rfl
 have tV:=a8 (st:=fE) nA nW ji
 have AJ:=tV.binds (ps:=["pieces","rooms"]) fun _ _ _ _ _ _ us hl=>by obtain⟨x0,x1,rfl⟩:=jW hl;rfl
 have yX:=a8 (st:=iA) qW rN nH
 have Du:=yX.binds (ps:=["many","links","marks"]) fun _ _ _ _ _ _ us hl=>by obtain⟨x0,x1,x2,rfl⟩:=pg hl;rfl
 have ik:=a8 (st:=bF) d6 eG cP
 have og:=ik.binds (ps:=["script","k"]) fun _ _ _ _ _ _ us hl=>by obtain⟨x0,x1,rfl⟩:=jW hl;rfl
 have ly:=a8 (st:=cm) gh gz d8
 have rS:=ly.binds (ps:=["cell","many"]) fun _ _ _ _ _ _ us hl=>by obtain⟨x0,x1,rfl⟩:=jW hl;rfl
 have fV:=a8 (st:=bq) dt dy cC
 have lU:=fV.binds (ps:=["script","first","many","most"]) fun _ _ _ _ _ _ us hl=>by obtain⟨x0,x1,x2,x3,rfl⟩:=CK hl;rfl
 have fU:=a8 (st:=bp) dq dw cA
 have lT:=fU.binds (ps:=["many","links"]) fun _ _ _ _ _ _ us hl=>by obtain⟨x0,x1,rfl⟩:=jW hl;rfl
 have mI:=a8 (st:=cU) iF iI fI
 have vq:=mI.binds (ps:=["name","many","links","marks"]) fun _ _ _ _ _ _ us hl=>by obtain⟨x0,x1,x2,x3,rfl⟩:=CK hl;rfl
 have F_law:=a8 (st:=mV) CN Dn CQ
 refine⟨Ee "law" "law" (aG mV) (aD mV) (ak mV) .none Bk Bq Bc Bv yr Br,fun s v=>.of_eq rfl,cT,TT,tbi,tbn,fun base _ _ hcd hbm=>?_⟩
 have xj:=Ea X G kZ
 have z8:=Ea X G oq
 have uI:=Ea X G iJ
 have CJ:=Ea X G lg
 have z0:=Ea X G oh
 have CH:=Ea X G rW
 have m_bits:=Ea X G yR
 have m_ones:=Ea X G yQ
 have m_odd:=Ea X G Dz
 have xk:=Ea X G k7
 have lH:=Ea X G dz
 have qS:=Ea X G gD
 have fe:=Ea X G c5
 have qQ:=Ea X G gB
 have z5:=Ea X G oi
 have xi:=Ea X G kY
 have xm:=Ea X G k8
 have xn:=Ea X G lh
 have z7:=Ea X G oj
 have CI:=Ea X G rX
 have nj:=Ea X G eI
 have qR:=Ea X G gC
 have lK:=Ea X G dB
 have lJ:=Ea X G dA
 have uJ:=Ea X G iK
 have m_law:=Ea X G AR
 have pf:=Ea X G eJ
 have mi:=Ea X G gF
 have sY:=Ea X G lj
 have mh:=Ea X G gE
 have most:=Ea X G gi_most
 have n_len:=En X G BE
 have n_int:=En X G BF
 have n_bool:=En X G vG
 have n_list:=En X G vE
 have n_tuple:=En X G qh
 have n_range:=En X G qi
 have n_min:=En X G BC
 have n_abs:=En X G BG
 have n_enumerate:=En X G fW
 have n_isinstance:=En X G eX
 have n_max:=En X G BD
 have n_sum:=En X G BA
 have n_dict:=En X G vF
 have n_zip:=En X G Bz
 have n_reversed:=En X G iq
 have n_sorted:=En X G mJ
 have n_set:=En X G BB
 have n_ValueError:=En X G eY
 have T:Txt mg:=⟨n_len,n_int,n_bool,n_list,n_tuple,n_range,n_min,n_abs,n_enumerate,n_isinstance⟩
 have TL:TxtL mg:=⟨T,n_max,n_sum,n_dict⟩
 have TZ:TxtZ mg:=⟨T,n_zip⟩
 have TH:TxtH mg:={ TZ with n_reversed:=n_reversed,n_sorted:=n_sorted,n_set:=n_set }
 have TE:TxtE mg ax aK aw:={ T with g_OddMarks:=mi,g_Parted:=sY,g_TooRough:=mh,n_ValueError:=n_ValueError }
 have XF:ErrC K mg "FloorError" bE:=⟨pf,dU⟩
 have XO:ErrC K mg "OddMarks" ax:=⟨mi,dS⟩
 have XP:ErrC K mg "Parted" aK:=⟨sY,gH⟩
 have XR:ErrC K mg "TooRough" aw:=⟨mh,dQ⟩
 have eO:ErC K ax:=⟨ga_OddMarks,gt_OddMarks,hb_OddMarks,gq,gu,hn_,htk_,gn⟩
 have eP:ErC K aK:=⟨ga_Parted,gt_Parted,hb_Parted,kh,ki,hn_,htk_,ke⟩
 have eR:ErC K aw:=⟨ga_TooRough,gt_TooRough,hb_TooRough,gp,gs,hn_,htk_,gm⟩
 have KE:KitE K ax aK aw bE:=⟨(fun k hk=>by
  rcases hk with rfl | rfl | rfl
  ·exact⟨eO,BI kv1_,dS,bx⟩
  ·exact⟨eP,BI kv2_,gH,bG⟩
  ·exact⟨eR,BI kv3_,dQ,bw⟩),bK,b7,bJ,bZ,cL,bY,bI,bX,bH⟩
 have A1:Cal l.prog w K mg base 1 "beyond" _ zf jt _:=⟨ok_bey tW,AK,z8,jj⟩
 have A2:Cal l.prog w K mg base 1 "links_at" _ spAt fJ _:=⟨ok_at mH T,vp,uI,fH⟩
 have A3:Cal l.prog w K mg base 2 "fares" _ (mR TT) nN _:=⟨zM yY T tbi lg hcd hbm A2 A1,Dv,CJ,nJ⟩
 have A4:Cal l.prog w K mg base 1 "reached" _ qu hU _:=⟨uv qc,yH,xj,gU⟩
 have A5:Cal l.prog w K mg base 2 "whole" _ BO nL _:=⟨ok_whl yW A4,Dt,CH,nG⟩
 have A6:Cal l.prog w K mg base 2 "row_to" _ BQ jo _:=⟨ok_row tS ⟨n_list,n_reversed⟩ A1,AH,z0,jg⟩
 have A7:Cal l.prog w K mg base 1 "bits" _ gM tH _:=⟨Cw By,b_bits,m_bits,tu⟩
 have A8:Cal l.prog w K mg base 2 "ones" _ so tG _:=⟨Cq Bx T A7,b_ones,m_ones,tj⟩
 have A9:Cal l.prog w K mg base 3 "odd" _ BR Ar _:=⟨ok_odd F_odd A8,b_odd,m_odd,Ae⟩
 have C1:Cal l.prog w K mg base 1 "mask_of" _ (vU K) hX _:=⟨Cr qe,yI,xk,gW⟩
 have C2:CalX l.prog w K mg base 4 "refuse_marks" _ (sk ax aK aw) cD _:=⟨Cp fT ⟨⟨_,most⟩⟩ XO XP XR A9 A5 A8,lR,lH,cz⟩
 have C3:Cal l.prog w K mg base 1 "chosen_of" _ jc eF _:=⟨wN lA,rT,qS,d9⟩
 have C4:Cal l.prog w K mg base 1 "new_table" _ mQ eh _:=⟨zI lx,rR,qQ,d7⟩
 have C5:∀(D:Nat->Nat->Int)(m:Nat),(∀ a b,D a b=D b a)->Cal l.prog w K mg base 10 "laid_in_pairs" _ (lY D m 8) b8 _:=fun D m sy=>⟨wL sy fx T A7 fu fe bA 8,fu,fe,bA⟩
 have C6:CalX l.prog w K mg base 11 "paired" _ (jC ax aK aw TT) jq _:=⟨uw tU T C2 A7 A3 C3 C4 C5 C1 A6,AI,z5,jh⟩
 have C7:Cal l.prog w K mg base 2 "root_of" _ sj hG _:=⟨Co p9 A7,yG,xi,gR⟩
 have C8:CalX l.prog w K mg base 11 "heights" _ (sr ax aK aw TT) h7 _:=⟨Cu qf TZ C2 A7 A3 C3 C4 C5 C7,yJ,xm,gX⟩
 have D1:Cal l.prog w K mg base 1 "dryings" _ BS h9 _:=⟨ok_dry qg TH,yK,xn,gY⟩
 have D2:Cal l.prog w K mg base 2 "joined" _ vV jr _:=⟨Ct tV T A7,AJ,z7,ji⟩
 have D3:CalX l.prog w K mg base 12 "hills" _ (qw ax aK aw TT) nM _:=⟨zL yX TH C8 D1 C7 D2,Du,CI,nH⟩
 have B1:Cal l.prog w K mg base 1 "_law_cell_at" _ (sx K) cQ _:=⟨Cv ik T,og,nj,cP⟩
 have B3:Cal l.prog w K mg base 1 "_law_names" _ qv eB _:=⟨zJ ly T,rS,qR,d8⟩
 have B4:Cal l.prog w K mg base 2 "_law_links_by" _ (spLb K) cF _:=⟨ok_lb fV TL B1 B3,lU,lK,cC⟩
 have B5:Cal l.prog w K mg base 1 "_law_together" _ BP cE _:=⟨ok_tog fU T,lT,lJ,cA⟩
 have B6:Cal l.prog w K mg base 13 "_law_told" _ (vS TT) fK _:=⟨Cn mI TE KE XF C6 C8 D3,vq,uJ,fI⟩
 exact ok_law F_law TL B1 B4 B5 B6
theorem walk{l:Hc}{q:Program}{loose:List Str}{XP:(Str->Option Value)->Heap->Prop}{YP:World->Heap->Prop}{d:DefRec}{K:Params->DE}(hn:l.most=some 63)(hdf:d.params.defaults = [])
  (hY:∀(w:World)(h:Heap),YP w h->(K w.params).In h) (hrec:((PyProof.Rows.recsOf q).find? (fun e=>e.name == ("fares" : Str))).isSome=true)
  (F:∀(w:World)(mg:Str->Option Value)(fa:Addr)(h:Heap),(K w.params).In h->h.Ns mainGlobals mg->mg d.name=some (.ref fa) ->
   ∃ fd:FuncData,(∀(s:Shared)(u:Value),BindsTo s fd ⟨[u],[]⟩ [("script",u)])/\∃ c T,FA (K w.params) "fares" = some (c,T)/\(K w.params).lookup T=none/\∀ base:Heap,(K w.params).In base->base.Ns mainGlobals mg->Fs base c T->Bm mg base->FnOk l.prog w (K w.params) mg base CX0 14 fa fd ["script"] (ze (K w.params) T)) :
  PySem.W.WalkO q loose XP YP l.row.toRowW d [] (fun f vs=>PySem.call f vs) :=
 L2.walk_ofT (n:=63) (k:=14) (x:="script") (CX:=CX0) (sp:=fun K T=>ze K T) hn (by decide) hdf ⟨rfl,by decide,by decide⟩ hY (Option.some_get hrec).symm F (fun _ _ _ a ns hl hT hS=>⟨a,ns,rfl,hS,hl,.inl hT,fun _=>rfl⟩) fun _ _ _ _ z=>z
end KF
def PySem.W.Fast.tw178646491116017571:Nat:=0
def PySem.W.Fast.tw6407557852875948068:Nat:=0
def PySem.W.Fast.tw489515687518728869:Nat:=0
def PySem.W.Fast.tw5966052697043057161:Nat:=0
def PySem.W.Fast.tw10743990350629592238:Nat:=0
def PySem.W.Fast.tw5308219996348909235:Nat:=0
def PySem.W.Fast.tw779017376239896983:Nat:=0
def PySem.W.Fast.tw7019014738913307512:Nat:=0
def PySem.W.Fast.tw12221485729124419935:Nat:=0
def PySem.W.Fast.tw2438540182188778111:Nat:=0
namespace PySem.W.Fast
def tw13243124107925978112:=0
def tw597896317597473024:=0
def tw9865085142708206880:=0
def tw15443069909315888896:=0
def tw1792820570690203681:=0
def tw7727618480453410849:=0
def tw4086349059323036833:=0
def tw16850070368203736289:=0
def tw91630097448562913:=0
def tw6858172739048223169:=0
def tw10629774969002140161:=0
def tw6109347893489709633:=0
def tw146392071011593921:=0
def tw11406618816230061058:=0
def tw17838749992106150018:=0
def tw15221820155726223522:=0
def tw10529307679393490146:=0
def tw18237294020701057698:=0
def tw886704993517691682:=0
def tw18339221484303043426:=0
def tw13171412518487489506:=0
def tw6456025875991088098:=0
def tw16972357160083088611:=0
def tw16353890861422140867:=0
def tw10328043775040255587:=0
def tw6807675303753932868:=0
def tw18343175503878944196:=0
def tw13175208846641953316:=0
def tw6077349837731399332:=0
def tw6309320907845750468:=0
def tw2892259308160826276:=0
def tw9192541229732776932:=0
def tw15976994352464370789:=0
def tw18012253395947106565:=0
def tw4585923743736712645:=0
def tw5781592815940559557:=0
def tw4824981828550366949:=0
def tw97705139263971077:=0
def tw2942673828404308901:=0
def tw4705658554583037861:=0
def tw4438996485151299525:=0
def tw18362675264841309190:=0
def tw9751212236542152774:=0
def tw905224862088430022:=0
def tw2929458445987327462:=0
def tw8981892585245351430:=0
def tw14218816546039584326:=0
def tw14456495760520625958:=0
def tw12880595557551977286:=0
def tw17203669987176868871:=0
def tw8463348903908020615:=0
def tw4578254402943340007:=0
def tw9485598557826391527:=0
def tw321081218902396903:=0
def tw344804651396447464:=0
def tw13990106364390287688:=0
def tw3990415644357848392:=0
def tw13314319492668692840:=0
def tw222153435330618728:=0
def tw16795020984931995080:=0
def tw13067980438591423272:=0
def tw11602586737130421064:=0
def tw7400592128266876840:=0
def tw3993669735391887465:=0
def tw12122019078606570953:=0
def tw16837617889554130409:=0
def tw5678836500319976969:=0
def tw10232620773255251657:=0
def tw4427091315650509834:=0
def tw1798112475121972266:=0
def tw3656511587204618346:=0
def tw17179745203159691626:=0
def tw3193398514229602058:=0
def tw16403004322937238539:=0
def tw3911752564090614891:=0
def tw7822321340369840363:=0
def tw16357001527524094347:=0
def tw17231759732594760491:=0
def tw13012724952600917132:=0
def tw9668838423387761932:=0
def tw6467803197905143148:=0
def tw9697569030792111468:=0
def tw16194223538815969004:=0
def tw13079578269330882316:=0
def tw5511056982857720684:=0
def tw12421477710684763052:=0
def tw16535780698775435212:=0
def tw5797468519247520973:=0
def tw1879654797381037325:=0
def tw8940013627036739981:=0
def tw18362832289894631438:=0
def tw8956150227070330990:=0
def tw13741863669154968974:=0
def tw17260843082595377934:=0
def tw12985206755899391854:=0
def tw10105591785603141647:=0
def tw7015910282023050287:=0
def tw13747854737913460783:=0
def tw14234365487756927087:=0
def tw182432552646692207:=0
def tw17717691492567225007:=0
def tw11956215009707397839:=0
def tw61655872104001295:=0
def tw1095223242897240879:=0
def tw646201365055458352:=0
def tw12431179475543062704:=0
def tw1814823617946436912:=0
def tw4993060349356685808:=0
def tw1379445729382403664:=0
def tw14637032793571266192:=0
def tw3933713089161617328:=0
def tw7812578380053394384:=0
def tw2276887137553682416:=0
def tw6636615008617118737:=0
def tw13875488711179216945:=0
def tw8304417671862872145:=0
def tw10536965209600708881:=0
def tw18179704931894542833:=0
def tw13438307746216104817:=0
def tw408684355405517681:=0
def tw156593596568274865:=0
def tw15484079480761581521:=0
def tw7480250450770954322:=0
def tw16944915038347024018:=0
def tw2138887708142360370:=0
def tw6776662039645003762:=0
def tw8492647061267103923:=0
def tw2731600432885852403:=0
def tw11361755621386424659:=0
def tw2535280272455903891:=0
def tw2483179529772226387:=0
def tw16772550523937703763:=0
def tw10013812697917406195:=0
def tw3225086036893236468:=0
def tw10529387530012716340:=0
def tw7223663146905206100:=0
def tw1778545643776989652:=0
def tw15471956433150707220:=0
def tw11495555517839572596:=0
def tw2070271377063303924:=0
def tw9965857960222001908:=0
def tw5393880775790376692:=0
def tw15985458739379686324:=0
def tw10134564574217765909:=0
def tw7289115315997998101:=0
def tw8210606706473439509:=0
def tw30737971951415893:=0
def tw5727515541298222773:=0
def tw9274372046912105526:=0
def tw16454190326324451542:=0
def tw9277336559399916086:=0
def tw10614222583078452822:=0
def tw16186051919503816662:=0
def tw16326098822980450262:=0
def tw9412631233685381367:=0
def tw290823999543042359:=0
def tw10226616818433076727:=0
def tw18099005028255787639:=0
def tw17758415293358961527:=0
def tw989579795598760855:=0
def tw4365013853392071736:=0
def tw17089675018338503800:=0
def tw6543945498987969752:=0
def tw5853451864462495032:=0
def tw15967670046423547384:=0
def tw5761966172758784568:=0
def tw3554894045959540376:=0
def tw12815602820018770712:=0
def tw13219998936860356408:=0
def tw2638961783075927193:=0
def tw12474543276671756697:=0
def tw10774094307515664857:=0
def tw9807752382483212793:=0
def tw1758657062916141657:=0
def tw9244332887984116313:=0
def tw16984513892737804985:=0
def tw6914079302377362105:=0
def tw14739687008783473433:=0
def tw17541548641291793209:=0
def tw4250688377445910329:=0
def tw14028613051203507097:=0
def tw9627052665395763129:=0
def tw3715448896886474713:=0
def tw17769979895323605050:=0
def tw13263119535774811482:=0
def tw16854584511110549946:=0
def tw13751644588952345018:=0
def tw16517288960770144730:=0
def tw6314893620148070938:=0
def tw16803232965606581818:=0
def tw7463606419526335226:=0
def tw7557615300971696922:=0
def tw16061384977533156154:=0
def tw18420341492048338810:=0
def tw1060810888396443578:=0
def tw10401758589798591450:=0
def tw7673804855499778075:=0
def tw3621231346605104219:=0
def tw7975051508669388891:=0
def tw17976182855411518619:=0
def tw1369568769037788699:=0
def tw12972823566359336571:=0
def tw9830500720761235067:=0
def tw11299981841433978619:=0
def tw16959067587305563963:=0
def tw14920460249675270075:=0
def tw14358463197533155484:=0
def tw2209907538885682492:=0
def tw15407769529940771228:=0
def tw7999443237741547004:=0
def tw17634142797447025468:=0
def tw8905655746653859901:=0
def tw4379134031949113469:=0
def tw8845683604647724413:=0
def tw6917685139937921725:=0
def tw6560647741732357885:=0
def tw820267208215181598:=0
def tw9842137896641282366:=0
def tw13005692947892585854:=0
def tw521283830313957022:=0
def tw6208150648684168894:=0
def tw15671836261509199710:=0
def tw12245676929683835902:=0
def tw10506771919332987007:=0
def tw12117253075005449375:=0
def tw2424018903048615167:=0
def tw13125737070487727423:=0
def tw4870923003273506207:=0
def tw17208536975091700159:=0
def tw15511632173414781375:=0
def tw15355492868791785087:=0
def tw10832236177590062783:=0
def tw8150787467939557119:=0
def tw7885666025050428287:=0
def tw13181426185364890790:=0
end PySem.W.Fast
open PySem PySem.W PyProof.Rows
set_option maxRecDepth 100000 in
set_option maxHeartbeats 0 in
theorem PySem.Challenge.cw_spinfloor_k24_joinings_refused_holds : PySem.Challenge.rw_spinfloor_k24_joinings_refused.Holds := by
 w_on;o_law;k_head;(case hw=>w_witness2)
 k_fill
 refine KF.walk (l:=PySem.Challenge.rw_spinfloor_k24_joinings_refused) rfl rfl (fun w h Y=>PySem.W.km_in_of Y) ?R ?F
 (case R=>kernel_rfl)
 case F =>
  intro w mg fa h KX G hmg
  refine' KF.all_mk KX G hmg ?eJ ?gF ?lj ?gE ?kZ ?jY ?kM ?gU ?oq ?nC ?nX ?jj ?iJ ?iE ?iH ?fH ?lg ?nB ?rO ?nJ ?oh ?nu ?nU ?jg ?rW ?qV ?rM ?nG ?yR ?xw ?yB ?tu ?yQ ?xu ?yA ?tj ?Dz ?CM ?Dm ?Ae ?k7 ?jZ ?kN ?gW ?dz ?dk ?dv ?cz ?gD ?gk ?gA ?d9 ?c5 ?cX ?cZ ?bA ?gB ?gf ?gy ?d7 ?oi ?nz ?nV ?jh ?kY ?jX ?kL ?gR ?k8 ?j4 ?kP ?gX ?lh ?j6 ?kQ ?gY ?oj ?nA ?nW ?ji ?rX ?qW ?rN ?nH ?eI ?d6 ?eG ?cP ?gC ?gh ?gz ?d8 ?dB ?dt ?dy ?cC ?dA ?dq ?dw ?cA ?iK ?iF ?iI ?fI ?AR ?CN ?Dn ?CQ ?dU ?dS ?bx ?ga_OddMarks ?gt_OddMarks ?hb_OddMarks ?gq ?gu ?gn ?bK ?b7 ?bJ ?gH ?bG ?ga_Parted ?gt_Parted ?hb_Parted ?kh ?ki ?ke ?bZ ?cL ?bY ?dQ ?bw ?ga_TooRough ?gt_TooRough ?hb_TooRough ?gp ?gs ?gm ?bI ?bX ?bH ?hn_ ?htk_ ?gi_most ?kv1_ ?kv2_ ?kv3_ ?BE ?BF ?vG ?vE ?qh ?qi ?BC ?BG ?fW ?eX ?BD ?BA ?vF ?Bz ?iq ?mJ ?BB ?eY ?tbc ?tbl ?tbv ?tbn
  (case eJ=>k_is)
  (case gF=>k_is)
  (case lj=>k_is)
  (case gE=>k_is)
  (case kZ=>k_is)
  (case jY=>k_is)
  (case kM=>k_is)
  (case gU=>k_is)
  (case oq=>k_is)
  (case nC=>k_is)
  (case nX=>k_is)
  (case jj=>k_is)
  (case iJ=>k_is)
  (case iE=>k_is)
  (case iH=>k_is)
  (case fH=>k_is)
  (case lg=>k_is)
  (case nB=>k_is)
  (case rO=>k_is)
  (case nJ=>k_is)
  (case oh=>k_is)
  (case nu=>k_is)
  (case nU=>k_is)
  (case jg=>k_is)
  (case rW=>k_is)
  (case qV=>k_is)
  (case rM=>k_is)
  (case nG=>k_is)
  (case yR=>k_is)
  (case xw=>k_is)
  (case yB=>k_is)
  (case tu=>k_is)
  (case yQ=>k_is)
  (case xu=>k_is)
  (case yA=>k_is)
  (case tj=>k_is)
  (case Dz=>k_is)
  (case CM=>k_is)
  (case Dm=>k_is)
  (case Ae=>k_is)
  (case k7=>k_is)
  (case jZ=>k_is)
  (case kN=>k_is)
  (case gW=>k_is)
  (case dz=>k_is)
  (case dk=>k_is)
  (case dv=>k_is)
  (case cz=>k_is)
  (case gD=>k_is)
  (case gk=>k_is)
  (case gA=>k_is)
  (case d9=>k_is)
  (case c5=>k_is)
  (case cX=>k_is)
  (case cZ=>k_is)
  (case bA=>k_is)
  (case gB=>k_is)
  (case gf=>k_is)
  (case gy=>k_is)
  (case d7=>k_is)
  (case oi=>k_is)
  (case nz=>k_is)
  (case nV=>k_is)
  (case jh=>k_is)
  (case kY=>k_is)
  (case jX=>k_is)
  (case kL=>k_is)
  (case gR=>k_is)
  (case k8=>k_is)
  (case j4=>k_is)
  (case kP=>k_is)
  (case gX=>k_is)
  (case lh=>k_is)
  (case j6=>k_is)
  (case kQ=>k_is)
  (case gY=>k_is)
  (case oj=>k_is)
  (case nA=>k_is)
  (case nW=>k_is)
  (case ji=>k_is)
  (case rX=>k_is)
  (case qW=>k_is)
  (case rN=>k_is)
  (case nH=>k_is)
  (case eI=>k_is)
  (case d6=>k_is)
  (case eG=>k_is)
  (case cP=>k_is)
  (case gC=>k_is)
  (case gh=>k_is)
  (case gz=>k_is)
  (case d8=>k_is)
  (case dB=>k_is)
  (case dt=>k_is)
  (case dy=>k_is)
  (case cC=>k_is)
  (case dA=>k_is)
  (case dq=>k_is)
  (case dw=>k_is)
  (case cA=>k_is)
  (case iK=>k_is)
  (case iF=>k_is)
  (case iI=>k_is)
  (case fI=>k_is)
  (case AR=>k_is)
  (case CN=>k_is)
  (case Dn=>k_is)
  (case CQ=>k_is)
  (case dU=>k_exc)
  (case dS=>k_exc)
  (case bx=>k_is)
  (case ga_OddMarks=>k_is)
  (case gt_OddMarks=>k_is)
  (case hb_OddMarks=>k_is)
  (case gq=>k_is)
  (case gu=>k_is)
  (case gn=>k_is)
  (case bK=>kit_is)
  (case b7=>kit_is)
  (case bJ=>kit_is)
  (case gH=>k_exc)
  (case bG=>k_is)
  (case ga_Parted=>k_is)
  (case gt_Parted=>k_is)
  (case hb_Parted=>k_is)
  (case kh=>k_is)
  (case ki=>k_is)
  (case ke=>k_is)
  (case bZ=>kit_is)
  (case cL=>kit_is)
  (case bY=>kit_is)
  (case dQ=>k_exc)
  (case bw=>k_is)
  (case ga_TooRough=>k_is)
  (case gt_TooRough=>k_is)
  (case hb_TooRough=>k_is)
  (case gp=>k_is)
  (case gs=>k_is)
  (case gm=>k_is)
  (case bI=>kit_is)
  (case bX=>kit_is)
  (case bH=>kit_is)
  (case hn_=>k_is)
  (case htk_=>k_is)
  (case gi_most=>k_is)
  (case kv1_=>kernel_rfl)
  (case kv2_=>kernel_rfl)
  (case kv3_=>kernel_rfl)
  (case BE=>k_is)
  (case BF=>k_is)
  (case vG=>k_is)
  (case vE=>k_is)
  (case qh=>k_is)
  (case qi=>k_is)
  (case BC=>k_is)
  (case BG=>k_is)
  (case fW=>k_is)
  (case eX=>k_is)
  (case BD=>k_is)
  (case BA=>k_is)
  (case vF=>k_is)
  (case Bz=>k_is)
  (case iq=>k_is)
  (case mJ=>k_is)
  (case BB=>k_is)
  (case eY=>k_is)
  (case tbc=>rfl)
  (case tbl=>k_is)
  (case tbv=>rfl)
  (case tbn=>kernel_rfl)
