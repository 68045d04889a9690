import PyProof.Rows.All
import Wide.All
import OpenK.AllK
import Wide.FinOn
import Lean
import PyProof.EqAt
import PyProof.EqKinds
import PyProof.TupleCall
import PySem.Challenge.RW_spinfloor_k56_whole_climbs
open Array renaming length_toList → JR, toList_append → Kf, getElem?_toList → KC, getElem?_eq_getElem → KR, toList_push → Le, toList_reverse → LF, toList_extract → LV, getD_eq_getD_getElem? → L6, perm_iff_toList_perm → L8, getElem?_eq_none → Mq, getD → MA, toList_setIfInBounds → Nd, getElem?_eq_some_iff → Nf, size_setIfInBounds → Nq
open Bool renaming false_ne_true → JZ, false_eq_true → Kt, not_eq_true' → Ld, eq_iff_iff → My, false_and → MI, xor_assoc → Nk, xor_comm → Nv, not_true → Nw
open Classical renaming byContradiction → Nj
open Int renaming toNat_natCast → JC, emod_lt_of_pos → KP, le_of_lt → K2, le_refl → K4, zero_add → K9, emod_nonneg → La, toNat_of_nonneg → Lg, natCast_nonneg → MP, fdiv_eq_ediv_of_nonneg → Nc
open List renaming getElem?_eq_some_iff → Jo, getElem?_eq_getElem → Jp, mem_of_getElem? → Jq, length_map → Jr, length_append → Jt, mem_cons → Ju, getElem?_append_right → Jv, getElem?_append_left → Jx, getElem?_map → Jy, nodup_cons → Jz, mem_append → JA, mem_cons_of_mem → JB, mem_cons_self → JD, nodup_append → JE, length_singleton → JF, mem_singleton → JI, mem_append_right → JK, length_take → JP, flatten_cons → JS, take_append_drop → JT, size_toArray → JW, map_append → JX, append_assoc → J1, length_cons → J2, getD_eq_getElem?_getD → Ka, mem_map → Kb, getElem?_set → Kc, mem_iff_getElem? → Kd, length_set → Ke, take_of_length_le → Kg, mem_append_left → Kh, map_cons → Kl, length_drop → Km, perm_append_comm → Kr, mem_flatten → Ks, take_add_one → Kv, pairwise_iff_getElem → Kw, pairwise_append → Kx, not_mem_nil → KG, mem_of_mem_take → KH, mem_of_mem_drop → KI, append_nil → KJ, take_length → KL, getElem_mem → KN, range → KO, drop_eq_getElem_cons → KQ, flatten_append → KU, replicate → K5, nodup_nil → K6, getElem?_drop → Lc, getElem_of_mem → Lf, length_pos_of_mem → Lh, cons_append → Lj, getElem?_take → Ll, length_nil → Lo, getElem?_replicate → Lq, drop_drop → Lv, map_map → Ly, find?_cons → Lz, length_range → LC, extract_eq_drop_take → LI, getElem?_range → LJ, length_eq_zero_iff → LK, getElem?_set_self → LL, getElem_take → LO, drop_zero → LQ, drop_take → LR, getElem?_eq_none → LS, take_add → LW, map_take → LX, map_drop → LY, lookup → L3, filterMap_cons → L4, perm_ext_iff_of_nodup → L7, pairwise_cons → Ma, append_of_mem → Mb, take_take → Mc, mem_range → Md, mem_or_eq_of_mem_set → Me, idxOf_lt_length_iff → Mg, pairwise_singleton → Mj, getElem_map → Mn, head?_eq_getElem? → Mo, drop_eq_nil_of_le → Mp, set_append_right → Mu, range_succ → Mv, nil_append → Mw, getElem?_reverse → Mx, map → Mz, set_append_left → MC, idxOf_cons_self → MD, getElem?_set_ne → ME, length_reverse → MM, any_cons → MO, getElem_drop → MT, ext_getElem? → MU, take_append_of_le_length → MX, mem_reverse → MY, isEmpty_nil → MZ, eq_nil_of_length_eq_zero → M0, drop_append → M1, of_mem_zip → M7, mem_filter → M8, length → M9, foldl_cons → Na, length_eraseIdx_of_lt → Nb, getLast?_eq_getElem? → Nh
open List.Pairwise renaming nil → Mh
open List.Perm renaming append_left → KY, swap → MH, refl → Ni
open Nat renaming le_refl → Jw, ne_of_lt → JN, sub_self → JV, lt_of_lt_of_le → Ki, le_of_lt → Kk, zero_le → Ku, le_trans → Ky, lt_succ_self → KA, lt_irrefl → KD, lt_succ_of_lt → KW, min_eq_left → K1, ne_of_gt → K7, mod_eq_of_lt → Li, lt_of_le_of_lt → Lk, not_lt_zero → Ln, lt_trans → Lp, le_succ → Lx, eq_of_testBit_eq → LD, not_lt_of_le → LU, lt_trichotomy → Mf, xor_assoc → Mi, zero_testBit → Mm, testBit_and → Ms, mod_self → Mt, pow_le_pow_right → MB, testBit_or → MG, testBit_two_pow → MK, pos_of_ne_zero → MN, testBit_xor → M5, testBit → M6, mod_lt → Np
open Nat.succ renaming inj → MV
open Option renaming map_eq_some_iff → Kj, map_some → Mr, isSome_map → MR, isSome_iff_exists → Nn
open Option.some renaming inj → JL
open PySem renaming Spec → JM, mem_of_lookup → KS
open PySem.F renaming plainAttrs_list → JY, type_list_append → Ko, slot_list_append → Kq, plain_extend_loop → LG, type_list_insert → Nl, slot_list_insert → Nm, type_list_index → Nr, slot_list_index → Nt, plain_list_iadd → Nu
open PySem.W renaming Frag → Js, keepIn → JG, nsIn → JH, codeIn → JJ, fnOf → JO, mg_of → JQ, findIn → JU, mg_none_of → Kz, kla_obj → KZ, kia_one → K0, emptyDict → K3, instObj → Lm, plainGet → Lr, CodeHd → Lu, isFn → Lw, tabIn → LA, hasDictIn → LB, plainOver → LN, kitOne → LP, makesIn → LZ, callWith_K → L9, lookIn → MF, plainGet_of → MJ, methodObj → MQ, takerIn → M3, OpenLaw → M4, tabObj → Ng
set_option Elab.async false
set_option linter.all false
set_option maxRecDepth 100000
local macro_rules | `(tactic| omega) => `(tactic| first | assumption | lia | omega +splitDisjunctions)
namespace L2
open PySem PySem.Spec PyProof.Rows
abbrev Key:=Sum Int Str
def zm:Key->Value->Bool
 |.inl k,v=>Value.isInt k v
 |.inr x,v=>Value.isStrOf x v
def keyH(w:World):Key->Int
 |.inl k=>hashInt k
 |.inr x=>hashStr w x
theorem bq:∀{k:Key}{v:Value},zm k v=true->(∃ i t,k=Sum.inl i/\v=Value.int i t)∨(∃ x t,k=Sum.inr x/\v=Value.str x t)
 |.inl i,v,h=>by
  obtain⟨t,e⟩:=Value.isInt_shape (k:=i) (v:=v) h
  exact .inl ⟨i,t,rfl,e⟩
 |.inr x,v,h=>by
  obtain⟨t,e⟩:=Value.isStrOf_shape (x:=x) (v:=v) h
  exact .inr ⟨x,t,rfl,e⟩
theorem Ep(i:Int)(t:Tok):zm (.inl i) (.int i t)=true:=by simp[zm,Value.isInt]
theorem Eo(x:Str)(t:Tok):zm (.inr x) (.str x t)=true:=by simp[zm,Value.isStrOf]
theorem key_ll(a b:Int):decide ((Sum.inl a:Key)=Sum.inl b)=(a == b):=by
 by_cases e:a=b
 ·subst e;simp
 ·have h:¬ (Sum.inl a:Key)=Sum.inl b:=fun q=>e (Sum.inl.inj q)
  rw[decide_eq_false h]
  exact(beq_eq_false_iff_ne.mpr e).symm
theorem key_rr(a b:Str):decide ((Sum.inr a:Key)=Sum.inr b)=decide (a=b):=by
 by_cases e:a=b
 ·subst e;simp
 ·have h:¬ (Sum.inr a:Key)=Sum.inr b:=fun q=>e (Sum.inr.inj q)
  rw[decide_eq_false h,decide_eq_false e]
theorem key_lr(a:Int)(b:Str):decide ((Sum.inl a:Key)=Sum.inr b)=false:=decide_eq_false (fun q=>nomatch q)
theorem key_rl(a:Str)(b:Int):decide ((Sum.inr a:Key)=Sum.inl b)=false:=decide_eq_false (fun q=>nomatch q)
def bL(prog:Program)(w:World):PySem.KeyKind prog w Key where
 is:=zm
 hash:=keyH w
 inj:=fun v a b ha hb=>by
  rcases bq ha with⟨i,t,rfl,rfl⟩ | ⟨x,t,rfl,rfl⟩
  ·rcases bq hb with⟨j,u,rfl,e⟩ | ⟨y,u,rfl,e⟩
   ·injection e with e1 _;rw[e1]
   ·exact nomatch e
  ·rcases bq hb with⟨j,u,rfl,e⟩ | ⟨y,u,rfl,e⟩
   ·exact nomatch e
   ·injection e with e1 _;rw[e1]
 byValue:=fun k v h=>by
  rcases bq h with⟨i,t,rfl,rfl⟩ | ⟨x,t,rfl,rfl⟩<;>rfl
 pyHash:=fun hv h=>by
  rcases bq hv with⟨i,t,rfl,rfl⟩ | ⟨x,t,rfl,rfl⟩
  ·exact wpAny_pyHash_int h
  ·exact wpAny_pyHash_str h
 eqBool:=fun hu hv h=>by
  rcases bq hu with⟨i,t,rfl,rfl⟩ | ⟨x,t,rfl,rfl⟩
  ·rcases bq hv with⟨j,u,rfl,rfl⟩ | ⟨y,u,rfl,rfl⟩
   ·rw[key_ll]at h;exact wpAny_eqBool_int h
   ·rw[key_lr]at h;exact SeqAt.EqAt.int_str i t y u _ _ _ _ h
  ·rcases bq hv with⟨j,u,rfl,rfl⟩ | ⟨y,u,rfl,rfl⟩
   ·rw[key_rl]at h;exact SeqAt.EqAt.str_int x t j u _ _ _ _ h
   ·rw[key_rr]at h;exact wpAny_eqBool_str h
 «strs»:=fun k x t v h=>by
  rcases bq h with⟨i,u,rfl,e⟩ | ⟨y,u,rfl,e⟩
  ·exact nomatch e
  ·injection e with e1 _
   subst e1
   cases v<;>rfl
theorem y4(prog:Program)(w:World)(i:Int)(t:Tok):(bL prog w).is (.inl i) (.int i t)=true:=Ep i t
theorem yZ(prog:Program)(w:World)(x:Str)(t:Tok):(bL prog w).is (.inr x) (.str x t)=true:=Eo x t
end L2
namespace L2
open PySem PySem.Spec PyProof.Rows
inductive V where
 |non | bl (b:Bool) | int (i:Int) | str (x:Str) | byt (b:Array UInt8) | flt (b:UInt64) | ref (a:Addr) | ty (n:String)
 deriving DecidableEq
def RelV:V->Value->Prop
 |.non,u=>u=Value.none
 |.bl b,u=>u=Value.bool b
 |.int i,u=>∃ t,u=Value.int i t
 |.str x,u=>∃ t,u=Value.str x t
 |.byt b,u=>∃ t,u=Value.bytes b t
 |.flt b,u=>∃ t,u=Value.float b t
 |.ref a,u=>u=Value.ref a
 |.ty n,u=>u=Value.type n
abbrev Vals:List V->List Value->Prop:=Paired RelV
theorem Vals.length{xs:List V}{us:List Value}(r:Vals xs us):xs.length=us.length:=Paired.length r
theorem Vals.get:∀{xs:List V}{us:List Value}{i:Nat}{x:V},Vals xs us->xs[i]?=some x->∃ u,us[i]?=some u/\RelV x u
 |_,_,_,_,.nil,e=>by simp at e
 |_,_,0,_,.cons r _,e=>by simp at e;subst e;exact⟨_,rfl,r⟩
 |_,_,i+1,x,.cons _ t,e=>by
  obtain⟨u,h1,h2⟩:=Vals.get (i:=i) (x:=x) t (by simpa using e)
  exact⟨u,by simpa using h1,h2⟩
theorem Vals.set{x:V}{u:Value}(r:RelV x u):∀{xs:List V}{us:List Value}(i:Nat),Vals xs us->Vals (xs.set i x) (us.set i u)
 |_,_,_,.nil=>.nil
 |_,_,0,.cons _ t=>.cons r t
 |_,_,i+1,.cons q t=>.cons q (Vals.set r i t)
theorem Vals.append:∀{xs ys:List V}{us ws:List Value},Vals xs us->Vals ys ws->Vals (xs++ys) (us++ws)
 |_,_,_,_,.nil,s=>s
 |_,_,_,_,.cons r t,s=>.cons r (Vals.append t s)
theorem Vals.take:∀{xs:List V}{us:List Value}(n:Nat),Vals xs us->Vals (xs.take n) (us.take n)
 |_,_,0,_=>.nil
 |_,_,_+1,.nil=>.nil
 |_,_,n+1,.cons r t=>.cons r (Vals.take n t)
theorem Vals.drop:∀{xs:List V}{us:List Value}(n:Nat),Vals xs us->Vals (xs.drop n) (us.drop n)
 |_,_,0,r=>r
 |_,_,_+1,.nil=>.nil
 |_,_,n+1,.cons _ t=>Vals.drop n t
def RelO:Option V->Option Value->Prop
 |some v,some u=>RelV v u
 |none,none=>True
 |_,_=>False
def KV{κ:Type}:List (κ×V)->List (κ×Value)->Prop:=Paired fun(p:κ×V) (q:κ×Value)=>p.1=q.1/\RelV p.2 q.2
def kV:Key->V
 |.inl i=>.int i
 |.inr x=>.str x
inductive HO where
  |lst (xs:List V)
  |tup (xs:List V)
  |dK (kvs:List (Key×V)) | dT (kvs:List (List Key×V))
  |set (S:Int->Bool) (n:Nat)
  |ins (C dx:Addr) (fs:List (Str×V))
  |own (x:Addr)
  |xd (fs:List (Str×V))
  |met (f x:Addr)
  |rng (lo hi:Int)
  |frz (o:Obj) (u:HO)
  |tbl (ps:Array Value)
  |ext (φ:Heap->Prop)
abbrev Hp:=Addr->Option HO
def upd(H:Hp)(a:Addr)(o:HO):Hp:=fun b=>if b=a then some o else H b
theorem ae{H:Hp}{a:Addr}{o:HO}:upd H a o a=some o:=by unfold upd;rw[if_pos rfl]
theorem ak{H:Hp}{a b:Addr}{o:HO}(h:b≠a):upd H a o b=H b:=by unfold upd;rw[if_neg h]
theorem ne_of{H:Hp}{a b:Addr}{o u:HO}(h:H a=some o)(h':H b=some u)(d:o≠u):a≠b:=by
 intro e;subst e;rw[h]at h';exact d (JL h')
theorem aK{H:Hp}{a b:Addr}{o:HO}(h:H a=some o)(h':H b=none):a≠b:=by
 intro e;subst e;rw[h]at h';cases h'
section
variable(P:Program)(w:World)
def bI(H:Hp)(h:Heap)(a:Addr):HO->Prop
 |.lst xs=>xs.length<=sizeLine/\∃(its:List Value)(n:Nat),Vals xs its/\h.get? a=some { cls:=.type "list",data:=.seq its.toArray n }
 |.tup xs=>xs.length<=sizeLine/\∃ its:List Value,Vals xs its/\IsTup h a its.toArray
 |.dK kvs=>kvs.length<=sizeLine/\(a == sysModules)=false/\∃ vs,KV kvs vs/\h.DictOf (bL P w) a vs
 |.dT kvs=>kvs.length<=sizeLine/\(a == sysModules)=false/\∃ xs:List (List Key×Addr×Value),
   Paired (fun(p:List Key×V) (q:List Key×Addr×Value)=>p.1=q.1/\H q.2.1=some (.tup (p.1.map kV))/\RelV p.2 q.2.2) kvs xs /\
   ∃ o es ep,h.get? a=some o/\o.ExactDict/\o.data=.dict es ep/\es.toList=xs.map (entryOfKey (tupleKind (bL P w)))/\(xs.map (·.1)).Nodup
 |.set S n=>h.SetOf (intKind P w) a S n
 |.ins C dx fs=>H dx=some (.own a)/\fs.length<=1000/\dx≠a/\h.get? a=some (Lm C dx) /\
   ∃ mA,h.Ns1 dx mA/\(∀ f,RelO (fs.lookup f) (mA f))/\PySem.Within mA (fs.map (·.1))
 |.own _=>∃ o,h.get? a=some o
 |.xd fs=>∃ mA,h.Ns1 a mA/\∀ f,RelO (fs.lookup f) (mA f)
 |.rng lo hi=>∃ t u v,h.get? a=some { cls:=.type "range",data:=.fields #[.int lo t,.int hi u,.int 1 v] }
 |.frz o u=>h.get? a=some o/\bI H h a u
 |.tbl ps=>h.get? a=some { cls:=.none,data:=.fields ps }
 |.met f x=>h.get? a=some (MQ (.ref f) (.ref x))
 |.ext φ=>φ h/\(∃ o,h.get? a=some o)/\∀ h1 h2:Heap,φ h1->(∀ o,h1.get? a=some o->h2.get? a=some o)->φ h2
def HOk(H:Hp)(h:Heap):Prop:=∀ a o,H a=some o->bI P w H h a o
end
section
variable{P:Program}{w:World}{H H':Hp}{h h':Heap}{a:Addr}{o:HO}
theorem bI.lt(x:bI P w H h a o):a<h.objs.size:=by
 cases o with
 |lst xs=>obtain⟨_,_,_,_,e⟩:=x;exact Heap.lt_size e
 |tup xs=>obtain⟨_,_,_,p⟩:=x;exact p.lt
 |dK kvs=>obtain⟨_,_,_,_,o,_,_,e,_⟩:=x;exact Heap.lt_size e
 |dT kvs=>obtain⟨_,_,_,_,o,_,_,e,_⟩:=x;exact Heap.lt_size e
 |set S n=>obtain⟨o,_,_,_,e,_⟩:=x;exact Heap.lt_size e
 |ins C dx fs=>obtain⟨_,_,_,e,_⟩:=x;exact Heap.lt_size e
 |own y=>obtain⟨_,e⟩:=x;exact Heap.lt_size e
 |xd fs=>obtain⟨_,⟨_,_,_,e,_⟩,_⟩:=x;exact Heap.lt_size e
 |rng lo hi=>obtain⟨_,_,_,e⟩:=x;exact Heap.lt_size e
 |frz ob u=>obtain⟨e,_⟩:=x;exact Heap.lt_size e
 |tbl ps=>exact Heap.lt_size (show h.get? a=some _ from x)
 |met f y=>exact Heap.lt_size (show h.get? a=some _ from x)
 |ext φ=>obtain⟨_,⟨_,e⟩,_⟩:=x;exact Heap.lt_size e
theorem Paired.mapP{α β:Type}{F G:α->β->Prop}:∀{l₁:List α}{l₂:List β},Paired F l₁ l₂->(∀ a b,F a b->G a b)->Paired G l₁ l₂
 |_,_,.nil,_=>.nil
 |_,_,.cons r t,f=>.cons (f _ _ r) (Paired.mapP t f)
theorem bI.stay(x:bI P w H h a o)(k:∀ b u,(b=a∨H b=some (.own a))->h.get? b=some u->h'.get? b=some u)
  (ho:∀ b,H b=some (.own a)->H' b=some (.own a)) (ht:∀ b xs,H b=some (.tup xs)->H' b=some (.tup xs)):bI P w H' h' a o:=by
 induction o with
 |lst xs=>obtain⟨z,its,n,r,e⟩:=x;exact⟨z,its,n,r,k _ _ (.inl rfl) e⟩
 |tup xs=>obtain⟨z,its,r,ob,e,c⟩:=x;exact⟨z,its,r,ob,k _ _ (.inl rfl) e,c⟩
 |dK kvs=>obtain⟨z,y,vs,r,ob,es,ep,e,c⟩:=x;exact⟨z,y,vs,r,ob,es,ep,k _ _ (.inl rfl) e,c⟩
 |dT kvs =>
  obtain⟨z,y,xs,r,ob,es,ep,e,c⟩:=x
  exact⟨z,y,xs,Paired.mapP r fun p q z=>⟨z.1,ht _ _ z.2.1,z.2.2⟩,ob,es,ep,k _ _ (.inl rfl) e,c⟩
 |set S n=>obtain⟨ob,es,ep,t,e,c⟩:=x;exact⟨ob,es,ep,t,k _ _ (.inl rfl) e,c⟩
 |ins C dx fs =>
  obtain⟨d,z,ne,e,mA,⟨od,es,ep,e2,c⟩,r⟩:=x
  exact⟨ho _ d,z,ne,k _ _ (.inl rfl) e,mA,⟨od,es,ep,k _ _ (.inr d) e2,c⟩,r⟩
 |own y=>obtain⟨ob,e⟩:=x;exact⟨ob,k _ _ (.inl rfl) e⟩
 |xd fs=>obtain⟨mA,⟨od,es,ep,e,c⟩,r⟩:=x;exact⟨mA,⟨od,es,ep,k _ _ (.inl rfl) e,c⟩,r⟩
 |rng lo hi=>obtain⟨t,u,v,e⟩:=x;exact⟨t,u,v,k _ _ (.inl rfl) e⟩
 |frz ob u ih=>obtain⟨e,q⟩:=x;exact⟨k _ _ (.inl rfl) e,ih q⟩
 |tbl ps =>
  have e:h.get? a=some { cls:=.none,data:=.fields ps }:=x
  show h'.get? a=some { cls:=.none,data:=.fields ps }
  exact k a _ (.inl rfl) e
 |met f y =>
  have e:h.get? a=some (MQ (.ref f) (.ref y)):=x
  show h'.get? a=some (MQ (.ref f) (.ref y))
  exact k a _ (.inl rfl) e
 |ext φ=>obtain⟨p,⟨o,e⟩,st⟩:=x;exact⟨st _ _ p fun o q=>k _ _ (.inl rfl) q,⟨o,k _ _ (.inl rfl) e⟩,st⟩
theorem HOk.lt(x:HOk P w H h)(e:H a=some o):a<h.objs.size:=(x a o e).lt
theorem HOk.fresh(x:HOk P w H h)(e:h.objs.size<=a):H a=none:=by
 cases q:H a with
 |none=>rfl
 |some u=>exact absurd (Ki (x.lt q) e) (KD _)
theorem HOk.kept(x:HOk P w H h)(k:∀ b u,h.get? b=some u->h'.get? b=some u):HOk P w H h':=fun a o e =>
 (x a o e).stay (fun b u _ q=>k b u q) (fun _ q=>q) fun _ _ q=>q
theorem HOk.laid(x:HOk P w H h)(k:∀ b u,h.get? b=some u->h'.get? b=some u)(hp:h.objs.size<=a)(new:bI P w (upd H a o) h' a o):HOk P w (upd H a o) h':=fun b u e=>by
 have hn:=x.fresh hp
 by_cases hb:b=a
 ·subst hb;rw[ae]at e;cases e;exact new
 ·rw[ak hb]at e
  exact(x b u e).stay (fun c v _ q=>k c v q) (fun c q=>by rw[ak (aK q hn)];exact q) fun c xs q=>by rw[ak (aK q hn)];exact q
end
def Rd(H:Hp)(a:Addr)(u:HO):Prop:=H a=some u∨∃ o,H a=some (.frz o u)
theorem Rd.ok{P:Program}{w:World}{H:Hp}{h:Heap}{a:Addr}{u:HO}(r:Rd H a u)(x:HOk P w H h):bI P w H h a u:=by
 rcases r with r | ⟨o,r⟩
 ·exact x a u r
 ·obtain⟨_,q⟩:=x a _ r
  exact q
def Mut:Option HO->Prop
 |some (.lst _)=>True
 |some (.dK _)=>True
 |some (.dT _)=>True
 |some (.set _ _)=>True
 |some (.ins _ _ _)=>True
 |some (.ext _)=>True
 |_=>False
section
variable{P:Program}{w:World}{H:Hp}{h h':Heap}{x e:Addr}{o':HO}
theorem HOk.write(ok:HOk P w H h)(mu:Mut (H x))(he:e=x∨H e=some (.own x))(k:∀ b u,b≠e->h.get? b=some u->h'.get? b=some u)(heo:∃ u,h'.get? e=some u)
  (new:bI P w (upd H x o') h' x o'):HOk P w (upd H x o') h':=fun b u q=>by
 have nown:∀ c y,H c=some (.own y)->c≠x:=fun c y r z=>by subst z;rw[r]at mu;exact mu
 have ntup:∀ c xs,H c=some (.tup xs)->c≠x:=fun c xs r z=>by subst z;rw[r]at mu;exact mu
 by_cases hb:b=x
 ·subst hb;rw[ae]at q;cases q;exact new
 ·rw[ak hb]at q
  by_cases hbe:b=e
  ·have q':H b=some (.own x):=by
    rcases he with z | z
    ·exact absurd (hbe.trans z) hb
    ·rw[hbe];exact z
   rw[q]at q';cases q'
   obtain⟨v,hv⟩:=heo
   exact⟨v,by rw[hbe];exact hv⟩
  ·refine(ok b u q).stay (fun c v hc r=>k c v ?_ r) (fun c r=>by rw[ak (nown c b r)];exact r) fun c xs r=>by rw[ak (ntup c xs r)];exact r
   rcases hc with rfl | hc
   ·exact hbe
   ·rintro rfl
    rcases he with z | z
    ·exact nown c b hc z
    ·rw[hc]at z;cases z;exact hb rfl
end
structure Un(fs ex:List Addr)(H H':Hp)(h h':Heap):Prop where
 keep:∀ b o,h.get? b=some o->H b=none->b∉fs->b∉ex->h'.get? b=some o
 slot:∀ b o,h.get? b=some o->H b=none->b∈fs->b∉ex->∃ sl,h'.get? b=some { o with slots:=sl }
 free:∀ b o,h.get? b=some o->H b=none->b∉ex->H' b=none
 there:∀ b o,h.get? b=some o->b∉ex->∃ o',h'.get? b=some o'
 tups:∀ b xs,H b=some (.tup xs)->H' b=some (.tup xs)
 frzs:∀ b o u,H b=some (.frz o u)->H' b=some (.frz o u)
 tbls:∀ b ps,H b=some (.tbl ps)->∃ more,H' b=some (.tbl (ps++more))
section
variable{fs fs' ex ex':List Addr}{H H1 H2:Hp}{h h1 h2 h':Heap}{a x e:Addr}{o:HO}
theorem Un.any(u:Un fs ex H H1 h h1){b:Addr}{ob:Obj}(q:h.get? b=some ob)(n:H b=none)(hx:b∉ex):∃ sl,h1.get? b=some { ob with slots:=sl }:=by
 by_cases hb:b∈fs
 ·exact u.slot b ob q n hb hx
 ·exact⟨ob.slots,u.keep b ob q n hb hx⟩
theorem Un.kept(k:∀ b u,h.get? b=some u->h'.get? b=some u):Un fs ex H H h h' :=
 ⟨fun b ob q _ _ _=>k b ob q,fun b ob q _ _ _=>⟨ob.slots,k b ob q⟩,fun _ _ _ n _=>n,fun b ob q _=>⟨ob,k b ob q⟩,fun _ _ q=>q,fun _ _ _ q=>q,fun _ ps q=>⟨#[],by rw[q];simp⟩⟩
theorem Un.refl:Un fs ex H H h h:=Un.kept fun _ _ q=>q
theorem Un.laid(k:∀ b u,h.get? b=some u->h'.get? b=some u)(hp:h.objs.size<=a)(hn:H a=none):Un fs ex H (upd H a o) h h' where
 keep:=fun b u q _ _ _=>k b u q
 slot:=fun b u q _ _ _=>⟨u.slots,k b u q⟩
 free:=fun b u q n _=>by rw[ak (JN (Ki (Heap.lt_size q) hp))];exact n
 there:=fun b u q _=>⟨u,k b u q⟩
 tups:=fun b xs q=>by rw[ak (aK q hn)];exact q
 frzs:=fun b u xs q=>by rw[ak (aK q hn)];exact q
 tbls:=fun b ps q=>⟨#[],by rw[ak (aK q hn),q];simp⟩
theorem Un.write(mu:Mut (H x))(he:e=x∨H e=some (.own x))(k:∀ b u,b≠e->h.get? b=some u->h'.get? b=some u)(heo:∃ u,h'.get? e=some u):Un fs ex H (upd H x o) h h':=by
 have hx:∀ b,H b=none->b≠x:=fun b n z=>by subst z;rw[n]at mu;exact mu
 have hb:∀ b,H b=none->b≠e:=fun b n z=>by
  subst z
  rcases he with r | r
  ·exact hx b n r
  ·rw[n]at r;cases r
 have hm:∀ b u,H b=some u->¬ Mut (some u)->b≠x:=fun b u q nm z=>by subst z;rw[q]at mu;exact nm mu
 refine⟨fun b u q n _ _=>k b u (hb b n) q,fun b u q n _ _=>⟨u.slots,k b u (hb b n) q⟩,fun b u q n _=>by rw[ak (hx b n)];exact n,fun b u q _=>?_,
  fun b xs q=>by rw[ak (hm b _ q fun z=>z)];exact q,fun b u xs q=>by rw[ak (hm b _ q fun z=>z)];exact q,fun b ps q=>⟨#[],by rw[ak (hm b _ q fun z=>z),q];simp⟩⟩
 by_cases hbe:b=e
 ·subst hbe;exact heo
 ·exact⟨u,k b u hbe q⟩
end
def trk(h:Heap)(H:Hp):List Addr:=(KO h.objs.size).filter fun a=>(H a).isSome
def hidT(h:Heap)(H:Hp):Heap:=PySem.W.hideAll h (trk h H)
theorem EF(h:Heap)(H:Hp):(hidT h H).objs.size=h.objs.size:=PySem.W.hideAll_size _ _
theorem n9{h:Heap}{H:Hp}{b:Addr}{o:Obj}(e:h.get? b=some o)(n:H b=none):(hidT h H).get? b=some o :=
 PySem.W.hideAll_get _ e fun hm=>by
  have q:(H b).isSome=true:=(M8.mp hm).2
  rw[n]at q;simp at q
theorem Iu{h:Heap}{H:Hp}{b:Addr}{o:Obj}(e:(hidT h H).get? b=some o):h.get? b=some o/\H b=none:=by
 have e':h.get? b=some o:=PySem.W.of_hideAll (trk h H) e
 refine⟨e',?_⟩
 cases q:H b with
 |none=>rfl
 |some x =>
  have hm:b∈trk h H:=M8.mpr ⟨Md.mpr (Heap.lt_size e'),by simp[q]⟩
  have z:(hidT h H).get? b=none:=PySem.W.hideAll_none (trk h H) hm
  rw[z]at e;cases e
end L2
namespace L2
open PySem PySem.Spec PyProof.Rows
structure Mod(K:Js)(mg:Str->Option Value)(base:Heap):Prop where
 kin:K.In base
 glob:base.Ns mainGlobals mg
 blt:∃ mb,base.Ns builtinsNs mb/\∀ x:Str,x≠"__name__"->mb x=bootBuiltins x
 nolimit:base.NoLimit
structure Cx where
 prog:Program
 w:World
 K:Js
 mg:Str->Option Value
 base:Heap
 A:Around
 N:List Str
 s₀:Shared
 H₀:Hp
 env:Env
 outer:List Env
 stack:List Env
 ex:List Addr
 fn:Str->Bool
 calm:Bool
 pn:List (Addr×Obj)
 xe:Value->Shared->Prop
def frs(l:List Env):List Addr:=l.filterMap (·.frame)
abbrev Cx.fs(X:Cx):List Addr:=frs X.outer
def Vis(sc:Scope)(x:Str):Prop:=sc.names.lookup x=some .local∨sc.names.lookup x=some .cell∨sc.names.lookup x=some .free
def Loc(sc:Scope)(x:Str):Prop:=sc.names.lookup x=some .local∨sc.names.lookup x=some .cell
def Look(env:Env)(h:Heap)(m:Str->Option Value)(x:Str)(u:Value):Prop :=
 (env.kindOf x=some .local/\m x=some u)∨((env.kindOf x=some .cell∨env.kindOf x=some .free)/\∃ c,env.cells.lookup x=some c/\h.IsCell c (some u))
structure Cx.Ok(X:Cx):Prop where
 mod:Mod X.K X.mg X.base
 kind:X.env.scope.kind=.function
 glob:X.env.globals=mainGlobals
 blt:X.env.builtins=builtinsNs
 above:X.s₀.heap.objs.size<=X.env.locals
 inj:∀ x y c,X.env.cells.lookup x=some c->X.env.cells.lookup y=some c->x=y
 has:∀ x,(X.env.kindOf x=some .cell∨X.env.kindOf x=some .free)->∃ c,X.env.cells.lookup x=some c
 cab:∀ x c,X.fn x=true->X.env.cells.lookup x=some c->X.s₀.heap.objs.size<=c
 hd:X.calm=true->X.A.handled=none
 frames:X.A.frames=some X.stack
 stk:X.stack=X.outer∨(X.stack=X.env::X.outer/\X.env.frame=some X.env.locals)
 exf:∀ b∈X.ex,b≠X.env.locals/\∀ x c,X.env.cells.lookup x=some c->c≠b
 bs:∀ b o,X.base.get? b=some o->X.s₀.heap.get? b=some o/\X.H₀ b=none
 bsz:X.base.objs.size<=X.s₀.heap.objs.size
 noex:∀ b o,X.base.get? b=some o->b∉X.ex
 exfs:∀ b∈X.ex,b∉X.fs
 funs:X.s₀.heap.FunFrames X.base X.outer
 frf:∀ b∈X.fs,X.H₀ b=none
structure Inv(X:Cx)(pins:List (Addr×Obj))(σ:List (Option V))(H:Hp)(s:Shared):Prop where
 ok:X.Ok
 os:s.os=X.s₀.os
 bare:AllBare s.gens
 base:Un X.fs X.ex X.H₀ H X.s₀.heap s.heap
 loc:∃ m,s.heap.Ns X.env.locals m/\∀(i:Nat)(x:Str)(v:V),X.N[i]?=some x->σ[i]?=some (some v)->Vis X.env.scope x->∃ u,RelV v u/\Look X.env s.heap m x u
 cell:∀ x c,X.env.cells.lookup x=some c->∃ v,s.heap.IsCell c v
 free:H X.env.locals=none
 freeC:∀ x c,X.env.cells.lookup x=some c->H c=none
 pin:∀ p∈X.pn++pins,s.heap.get? p.1=some p.2/\H p.1=none/\p.1≠X.env.locals/\p.1∉X.fs/\∀ v,p.2.data≠.cell v
 hok:HOk X.prog X.w H s.heap
 len:σ.length=X.N.length
section
variable{X:Cx}{pins:List (Addr×Obj)}{σ:List (Option V)}{H H':Hp}{s:Shared}{h':Heap}
theorem Cx.Ok.nofr(ok:X.Ok){b:Addr}{o:Obj}(e:X.base.get? b=some o):b∉X.fs:=fun hb=>by
 have:=(ok.funs.mem hb).1
 rw[e]at this;cases this
theorem Inv.bs(I:Inv X pins σ H s):∀ b o,X.base.get? b=some o->s.heap.get? b=some o/\H b=none:=fun b o e =>
 ⟨I.base.keep b o (I.ok.bs b o e).1 (I.ok.bs b o e).2 (I.ok.nofr e) (I.ok.noex b o e),I.base.free b o (I.ok.bs b o e).1 (I.ok.bs b o e).2 (I.ok.noex b o e)⟩
theorem Inv.bk(I:Inv X pins σ H s):∀ b o,X.base.get? b=some o->s.heap.get? b=some o:=fun b o e=>(I.bs b o e).1
theorem Inv.mod(I:Inv X pins σ H s):Mod X.K X.mg X.base:=I.ok.mod
theorem Inv.kIn(I:Inv X pins σ H s):X.K.In s.heap:=I.ok.mod.kin.keeps I.bk
theorem Inv.nolimit(I:Inv X pins σ H s):s.heap.NoLimit:=I.ok.mod.nolimit.keeps I.bk
theorem Inv.lt(I:Inv X pins σ H s):X.env.locals<s.heap.objs.size:=let ⟨_,hn,_⟩:=I.loc;hn.lt
theorem Inv.sz(I:Inv X pins σ H s):X.s₀.heap.objs.size<=s.heap.objs.size:=Ky I.ok.above (Kk I.lt)
theorem Inv.nofs(I:Inv X pins σ H s){a:Addr}(h:s.heap.objs.size<=a):a∉X.fs:=fun hb=>by
 obtain⟨_,o,ho,_⟩:=I.ok.funs.mem hb
 exact absurd (Ki (Heap.lt_size ho) (Ky I.sz h)) (KD _)
theorem Inv.cne(I:Inv X pins σ H s):∀ x c,X.env.cells.lookup x=some c->c≠X.env.locals:=fun x c e z=>by
 obtain⟨v,o,ho,hd⟩:=I.cell x c e
 obtain⟨m,⟨o',es,ep,ho',hd',_⟩,_⟩:=I.loc
 rw[z,ho']at ho;cases ho;rw[hd']at hd;cases hd
theorem Inv.funs(I:Inv X pins σ H s):s.heap.FunFrames X.base X.outer:=by
 have all:∀(l:List Env),(∀ b∈frs l,b∈X.fs)->X.s₀.heap.FunFrames X.base l->s.heap.FunFrames X.base l:=by
  intro l
  induction l with
  |nil=>intro _ _;trivial
  |cons env r ih =>
   intro hs hl
   obtain⟨hk,⟨L,o,hf,hn,ho,hd⟩,hr⟩:=hl
   have hL:L∈X.fs:=hs L (by unfold frs;rw[L4,hf];exact JD)
   obtain⟨sl,e⟩:=I.base.slot L o ho (I.ok.frf L hL) hL fun z=>I.ok.exfs L z hL
   exact⟨hk,⟨L,_,hf,hn,e,hd⟩,ih (fun b hb=>hs b (by unfold frs;rw[L4,hf];exact JB _ hb)) hr⟩
 exact all X.outer (fun _ hb=>hb) I.ok.funs
theorem Inv.stack(I:Inv X pins σ H s):s.heap.FunFrames X.base X.stack:=by
 rcases I.ok.stk with e | ⟨e,hf⟩
 ·rw[e];exact I.funs
 ·rw[e]
  obtain⟨m,hn,_⟩:=I.loc
  refine .cons (by rw[I.ok.kind];decide) hf hn ?_ I.funs
  exact Heap.get?_none_of_le (Ky I.ok.bsz I.ok.above)
theorem Inv.stkSub(I:Inv X pins σ H s):∀ b∈frs X.stack,b∈X.env.locals::X.fs:=fun b hb=>by
 rcases I.ok.stk with e | ⟨e,hf⟩
 ·rw[e]at hb;exact JB _ hb
 ·rw[e]at hb
  unfold frs at hb
  rw[L4,hf]at hb
  exact hb
theorem Inv.stkFree(I:Inv X pins σ H s):∀ b∈frs X.stack,H b=none:=fun b hb=>by
 rcases Ju.mp (I.stkSub b hb)with e | hb
 ·rw[e];exact I.free
 ·obtain⟨_,o,ho,_⟩:=I.ok.funs.mem hb
  exact I.base.free b o ho (I.ok.frf b hb) fun z=>I.ok.exfs b z hb
theorem Inv.step{g':Array GenState}{t':Nat}{d':Drawn}{ch:List Addr}(I:Inv X pins σ H s)
  (hch:∀ b∈ch,(b∈X.ex∨X.s₀.heap.objs.size<=b)/\b≠X.env.locals/\(∀ x c,X.env.cells.lookup x=some c->c≠b)/\∀ p∈X.pn++pins,p.1≠b)
  (keep:∀ b o,b≠X.env.locals->b∉X.fs->b∉ch->s.heap.get? b=some o->H b=none->h'.get? b=some o)
  (slot:∀ b o,b≠X.env.locals->b∈X.fs->b∉ch->s.heap.get? b=some o->H b=none->∃ sl,h'.get? b=some { o with slots:=sl }) (free:∀ b o,b∉ch->s.heap.get? b=some o->H b=none->H' b=none)
  (there:∀ b o,b∉ch->s.heap.get? b=some o->∃ o',h'.get? b=some o')
  (tups:∀ b xs,H b=some (.tup xs)->H' b=some (.tup xs)) (frzs:∀ b o u,H b=some (.frz o u)->H' b=some (.frz o u)) (tbls:∀ b ps,H b=some (.tbl ps)->∃ more,H' b=some (.tbl (ps++more)))
  (ns:∀ m,s.heap.Ns X.env.locals m->h'.Ns X.env.locals m) (hok:HOk X.prog X.w H' h') (hg:AllBare g') :
  Inv X pins σ H' { s with heap:=h',gens:=g',drawn:=d',toks:=t' }:=by
 have neL:∀ b o,X.s₀.heap.get? b=some o->b≠X.env.locals:=fun b o e=>JN (Ki (Heap.lt_size e) I.ok.above)
 have neC:∀ b o,X.s₀.heap.get? b=some o->b∉X.ex->b∉ch:=fun b o e hx hb=>by
  rcases(hch b hb).1 with z | z
  ·exact hx z
  ·exact absurd (Ki (Heap.lt_size e) z) (KD _)
 have cellK:∀ x c,X.env.cells.lookup x=some c->∀ v,s.heap.IsCell c v->h'.IsCell c v:=fun x c e v ⟨o,ho,hd⟩=>by
  have nch:c∉ch:=fun z=>(hch c z).2.2.1 x c e rfl
  by_cases hc:c∈X.fs
  ·obtain⟨sl,q⟩:=slot c o (I.cne x c e) hc nch ho (I.freeC x c e)
   exact⟨_,q,hd⟩
  ·exact⟨o,keep c o (I.cne x c e) hc nch ho (I.freeC x c e),hd⟩
 refine⟨I.ok,I.os,hg,⟨fun b o e n hb hx=>?_,fun b o e n hb hx=>?_,fun b o e n hx=>?_,fun b o e hx=>?_,fun b xs e=>tups b xs (I.base.tups b xs e),fun b o xs e=>frzs b o xs (I.base.frzs b o xs e),fun b ps e=>?_⟩,?_,fun x c e=>?_,?_,fun x c e=>?_,fun p hp=>?_,hok,I.len⟩
 ·exact keep b o (neL b o e) hb (neC b o e hx) (I.base.keep b o e n hb hx) (I.base.free b o e n hx)
 ·obtain⟨sl,e1⟩:=I.base.slot b o e n hb hx
  obtain⟨sl',e2⟩:=slot b _ (neL b o e) hb (neC b o e hx) e1 (I.base.free b o e n hx)
  exact⟨sl',e2⟩
 ·obtain⟨o',e1⟩:=I.base.there b o e hx
  exact free b o' (neC b o e hx) e1 (I.base.free b o e n hx)
 ·obtain⟨o',e1⟩:=I.base.there b o e hx
  exact there b o' (neC b o e hx) e1
 ·obtain⟨m1,e1⟩:=I.base.tbls b ps e
  obtain⟨m2,e2⟩:=tbls b _ e1
  exact⟨m1++m2,by rw[e2,Array.append_assoc]⟩
 ·obtain⟨m,hn,hl⟩:=I.loc
  refine⟨m,ns m hn,fun i x v e1 e2 e3=>?_⟩
  obtain⟨u,r,l⟩:=hl i x v e1 e2 e3
  refine⟨u,r,?_⟩
  rcases l with l | ⟨k,c,e,z⟩
  ·exact .inl l
  ·exact .inr ⟨k,c,e,cellK x c e _ z⟩
 ·obtain⟨v,z⟩:=I.cell x c e
  exact⟨v,cellK x c e v z⟩
 ·obtain⟨m,⟨o,_,_,ho,_⟩,_⟩:=I.loc
  exact free _ o (fun z=>(hch _ z).2.1 rfl) ho I.free
 ·obtain⟨v,o,ho,hd⟩:=I.cell x c e
  exact free c o (fun z=>(hch c z).2.2.1 x c e rfl) ho (I.freeC x c e)
 ·obtain⟨e,n,ne,nf,d⟩:=I.pin p hp
  have nch:p.1∉ch:=fun z=>(hch p.1 z).2.2.2 p hp rfl
  exact⟨keep p.1 p.2 ne nf nch e n,free p.1 p.2 nch e n,ne,nf,d⟩
theorem Inv.un{t':Nat}(I:Inv X pins σ H s)(u:Un X.fs [] H H' s.heap h')(hok:HOk X.prog X.w H' h'):Inv X pins σ H' { s with heap:=h',toks:=t' }:=by
 obtain⟨m,⟨o,es,ep,ho,r⟩,_⟩:=id I.loc
 obtain⟨sl,hL⟩:=u.any ho I.free (by simp)
 exact I.step (g':=s.gens) (d':=s.drawn) (ch:=[]) (fun _ z=>nomatch z) (fun b o _ hb _ e n=>u.keep b o e n hb (by simp)) (fun b o _ hb _ e n=>u.slot b o e n hb (by simp)) (fun b o _ e n=>u.free b o e n (by simp)) (fun b o _ e=>u.there b o e (by simp)) u.tups u.frzs u.tbls (fun m' hm=>by
  obtain⟨o',es',ep',ho',r'⟩:=hm
  rw[ho]at ho';cases ho'
  exact⟨_,es',ep',hL,r'⟩) hok I.bare
theorem Inv.call{g':Array GenState}{t':Nat}{d':Drawn}{ch:List Addr}(I:Inv X pins σ H s)(u:Un (frs X.stack) ch H H' s.heap h')(hok:HOk X.prog X.w H' h')(hg:AllBare g')
  (hch:∀ b∈ch,(b∈X.ex∨X.s₀.heap.objs.size<=b)/\b≠X.env.locals/\(∀ x c,X.env.cells.lookup x=some c->c≠b)/\∀ p∈X.pn++pins,p.1≠b) :
  Inv X pins σ H' { s with heap:=h',gens:=g',drawn:=d',toks:=t' }:=by
 obtain⟨m,⟨o,es,ep,ho,r⟩,_⟩:=id I.loc
 obtain⟨sl,hL⟩:=u.any ho I.free fun z=>(hch _ z).2.1 rfl
 exact I.step (ch:=ch) hch (fun b o hL hb hc e n=>u.keep b o e n (fun z=>(Ju.mp (I.stkSub b z)).elim hL hb) hc) (fun b o _ _ hc e n=>u.any e n hc) (fun b o hc e n=>u.free b o e n hc) (fun b o hc e=>u.there b o e hc) u.tups u.frzs u.tbls (fun m' hm=>by
  obtain⟨o',es',ep',ho',r'⟩:=hm
  rw[ho]at ho';cases ho'
  exact⟨_,es',ep',hL,r'⟩) hok hg
theorem Inv.turned{t':Nat}{it:Addr}(I:Inv X pins σ H s)(k:∀ b o,b≠it->s.heap.get? b=some o->h'.get? b=some o)(hn:H it=none)(hL:it≠X.env.locals)
  (h1:it∈X.ex∨X.s₀.heap.objs.size<=it) (h2:∀ x c,X.env.cells.lookup x=some c->c≠it) (h3:∀ p∈X.pn++pins,p.1≠it):Inv X pins σ H { s with heap:=h',toks:=t' }:=by
 have nit:∀ b u,H b=some u->b≠it:=fun b u e z=>by rw[z,hn]at e;cases e
 refine I.step (g':=s.gens) (d':=s.drawn) (ch:=[it]) (fun b hb=>?_) (fun b o _ _ hc e _=>k b o (fun z=>hc (by simp[z])) e) (fun b o _ _ hc e _=>⟨o.slots,k b o (fun z=>hc (by simp[z])) e⟩) (fun _ _ _ _ n=>n)
  (fun b o hc e=>⟨o,k b o (fun z=>hc (by simp[z])) e⟩) (fun _ _ e=>e) (fun _ _ _ e=>e) (fun b ps e=>⟨#[],by rw[e];simp⟩) (fun m hm=>?_) (fun b u e=>?_) I.bare
 ·have e:b=it:=by simpa using hb
  subst e
  exact⟨h1,hL,h2,h3⟩
 ·obtain⟨o,es,ep,ho,r⟩:=hm
  exact⟨o,es,ep,k _ o (Ne.symm hL) ho,r⟩
 ·refine(I.hok b u e).stay (fun c v hc q=>k c v ?_ q) (fun _ q=>q) fun _ _ q=>q
  rcases hc with z | z
  ·rw[z];exact nit b u e
  ·exact nit c _ z
theorem Inv.tok(I:Inv X pins σ H s)(t:Nat):Inv X pins σ H { s with toks:=t }:=I.un (h':=s.heap) (t':=t) Un.refl I.hok
theorem Inv.kept{t':Nat}(I:Inv X pins σ H s)(k:∀ b u,s.heap.get? b=some u->h'.get? b=some u):Inv X pins σ H { s with heap:=h',toks:=t' }:=I.un (Un.kept k) (I.hok.kept k)
theorem Inv.laid{a:Addr}{o:HO}{t':Nat}(I:Inv X pins σ H s)(k:∀ b u,s.heap.get? b=some u->h'.get? b=some u)(hp:s.heap.objs.size<=a)(new:bI X.prog X.w (upd H a o) h' a o) :
  Inv X pins σ (upd H a o) { s with heap:=h',toks:=t' }:=I.un (Un.laid k hp (I.hok.fresh hp)) (I.hok.laid k hp new)
theorem Inv.write{x e:Addr}{o:HO}{t':Nat}(I:Inv X pins σ H s)(mu:Mut (H x))(he:e=x∨H e=some (.own x))(k:∀ b u,b≠e->s.heap.get? b=some u->h'.get? b=some u)(heo:∃ u,h'.get? e=some u)
  (new:bI X.prog X.w (upd H x o) h' x o):Inv X pins σ (upd H x o) { s with heap:=h',toks:=t' }:=I.un (Un.write mu he k heo) (I.hok.write mu he k heo new)
theorem Inv.weak{σ':List (Option V)}(I:Inv X pins σ H s)(hl:σ'.length=σ.length)(w:∀ (i:Nat) v,σ'[i]?=some (some v)->σ[i]?=some (some v)):Inv X pins σ' H s :=
 ⟨I.ok,I.os,I.bare,I.base,let ⟨m,hn,hl'⟩:=I.loc;⟨m,hn,fun i x v e1 e2 e3=>hl' i x v e1 (w i v e2) e3⟩,I.cell,I.free,I.freeC,I.pin,I.hok,hl.trans I.len⟩
theorem Inv.pins_of{pins':List (Addr×Obj)}(I:Inv X pins σ H s)(h:∀ p∈pins',s.heap.get? p.1=some p.2/\H p.1=none/\p.1≠X.env.locals/\p.1∉X.fs/\∀ v,p.2.data≠.cell v):Inv X pins' σ H s :=
 ⟨I.ok,I.os,I.bare,I.base,I.loc,I.cell,I.free,I.freeC,fun p hp=>(JA.mp hp).elim (fun z=>I.pin p (Kh _ z)) (h p),I.hok,I.len⟩
theorem A3{N:List Str}(hN:N.Nodup){i j:Nat}{x:Str}(a:N[i]?=some x)(b:N[j]?=some x):i=j:=by
 obtain⟨h1,e1⟩:=Jo.mp a
 obtain⟨h2,e2⟩:=Jo.mp b
 exact(List.getElem_inj hN).mp (e1.trans e2.symm)
theorem Dn{M:Model}{A:Around}{E:Value->Shared->Prop}{i:Nat}{x:Str}{v:V}{u:Value}{Q:Unit->Shared->Prop}(I:Inv X pins σ H s)(hN:X.N.Nodup)(hi:X.N[i]?=some x)(hx:Loc X.env.scope x)(r:RelV v u)
  (h:∀ s',Inv X pins (σ.set i (some v)) H s'->(∃ a,Heap.SameBut a s.heap s'.heap/\(a=X.env.locals∨X.env.cells.lookup x=some a))->Q () s') (hf:X.fn x=true∨X.env.scope.names.lookup x=some .local:=by first | exact .inl rfl | exact .inr rfl | assumption):wpAny M A (storeName X.env x u) Q E s:=by
 obtain⟨m,hn,hl⟩:=id I.loc
 have hcls:(X.env.scope.kind == .class||(X.env.scope.kind == .module&&X.env.locals != X.env.globals))=false:=by rw[I.ok.kind];rfl
 have hiσ:i<σ.length:=by rw[I.len];exact(Jo.mp hi).1
 have cne:=I.cne
 have tracked:∀{a:Addr}{h':Heap},(∃ o,s.heap.get? a=some o/\H a=none)->Heap.SameBut a s.heap h'->HOk X.prog X.w H h':=fun{a h'} ha hs b ob e=>by
  obtain⟨_,_,hfree⟩:=ha
  refine(I.hok b ob e).stay (fun c w' hc q=>(hs.2 c ?_).trans q) (fun _ q=>q) fun _ _ q=>q
  rintro rfl
  rcases hc with rfl | hc
  ·rw[hfree]at e;cases e
  ·rw[hfree]at hc;cases hc
 rcases hx with hk | hk
 ·refine wpAny_storeName_local hk hn (fun h' hn' hs=>?_) hcls
  obtain⟨oL,_,_,hoL,_⟩:=id hn
  refine h _ ⟨I.ok,I.os,I.bare,⟨fun b o e n hb hx=>?_,fun b o e n hb hx=>?_,I.base.free,fun b o e hx=>?_,I.base.tups,I.base.frzs,I.base.tbls⟩,⟨_,hn',fun j y v' e1 e2 e3=>?_⟩,fun y c e=>?_,I.free,I.freeC,fun p hp=>?_,tracked ⟨oL,hoL,I.free⟩ hs,by simpa using I.len⟩ ⟨_,hs,.inl rfl⟩
  ·exact(hs.2 b (JN (Ki (Heap.lt_size e) I.ok.above))).trans (I.base.keep b o e n hb hx)
  ·obtain⟨sl,e1⟩:=I.base.slot b o e n hb hx
   exact⟨sl,(hs.2 b (JN (Ki (Heap.lt_size e) I.ok.above))).trans e1⟩
  ·obtain⟨o',e1⟩:=I.base.there b o e hx
   exact⟨o',(hs.2 b (JN (Ki (Heap.lt_size e) I.ok.above))).trans e1⟩
  ·by_cases hj:j=i
   ·subst hj
    rw[hi]at e1;cases e1
    rw[LL hiσ]at e2
    cases e2
    exact⟨u,r,.inl ⟨hk,by simp⟩⟩
   ·rw[ME (Ne.symm hj)]at e2
    obtain⟨u',r',q⟩:=hl j y v' e1 e2 e3
    refine⟨u',r',?_⟩
    rcases q with⟨k,e⟩ | ⟨k,c,e,z⟩
    ·refine .inl ⟨k,?_⟩
     have:y≠x:=fun e=>hj (A3 hN e1 (e▸hi))
     simp[this,e]
    ·exact .inr ⟨k,c,e,z.sameBut hs (cne y c e)⟩
  ·obtain⟨w',z⟩:=I.cell y c e
   exact⟨w',z.sameBut hs (cne y c e)⟩
  ·obtain⟨e,n,ne,nf,d⟩:=I.pin p hp
   exact⟨(hs.2 p.1 ne).trans e,n,ne,nf,d⟩
 ·have hfn:X.fn x=true:=by
   rcases hf with z | z
   ·exact z
   ·rw[z]at hk;cases hk
  obtain⟨c,hc⟩:=I.ok.has x (.inl hk)
  obtain⟨w',z⟩:=I.cell x c hc
  refine wpAny_storeName_cell I.ok.kind hk hc z (fun h' hc' hs=>?_)
  obtain⟨oc,hoc,hocd⟩:=id z
  refine h { s with heap:=h' } ⟨I.ok,I.os,I.bare,⟨fun b o e n hb hx=>?_,fun b o e n hb hx=>?_,I.base.free,fun b o e hx=>?_,I.base.tups,I.base.frzs,I.base.tbls⟩,⟨m,hn.sameBut hs (Ne.symm (cne x c hc)),fun j y v' e1 e2 e3=>?_⟩,fun y c' e=>?_,I.free,I.freeC,fun p hp=>?_,tracked ⟨oc,hoc,I.freeC x c hc⟩ hs,by simpa using I.len⟩ ⟨c,hs,.inr hc⟩
  ·exact(hs.2 b (JN (Ki (Heap.lt_size e) (I.ok.cab x c hfn hc)))).trans (I.base.keep b o e n hb hx)
  ·obtain⟨sl,e1⟩:=I.base.slot b o e n hb hx
   exact⟨sl,(hs.2 b (JN (Ki (Heap.lt_size e) (I.ok.cab x c hfn hc)))).trans e1⟩
  ·obtain⟨o',e1⟩:=I.base.there b o e hx
   exact⟨o',(hs.2 b (JN (Ki (Heap.lt_size e) (I.ok.cab x c hfn hc)))).trans e1⟩
  ·by_cases hj:j=i
   ·subst hj
    rw[hi]at e1;cases e1
    rw[LL hiσ]at e2
    cases e2
    exact⟨u,r,.inr ⟨.inl hk,c,hc,hc'⟩⟩
   ·rw[ME (Ne.symm hj)]at e2
    obtain⟨u',r',q⟩:=hl j y v' e1 e2 e3
    refine⟨u',r',?_⟩
    rcases q with q | ⟨k,c',e,z'⟩
    ·exact .inl q
    ·refine .inr ⟨k,c',e,z'.sameBut hs ?_⟩
     rintro rfl
     exact hj (A3 hN e1 (I.ok.inj _ _ _ e hc▸hi))
  ·by_cases hcc:c'=c
   ·subst hcc;exact⟨_,hc'⟩
   ·obtain⟨w2,z2⟩:=I.cell y c' e
    exact⟨w2,z2.sameBut hs hcc⟩
  ·obtain⟨e,n,ne,nf,d⟩:=I.pin p hp
   refine⟨(hs.2 p.1 ?_).trans e,n,ne,nf,d⟩
   intro q
   rw[q,hoc]at e
   have q':oc=p.2:=JL e
   exact d w' (by rw[← q'];exact hocd)
theorem rR{M:Model}{A:Around}{E:Value->Shared->Prop}{i:Nat}{x:Str}{v:V}{u:Value}{Q:Unit->Shared->Prop}(I:Inv X pins σ H s)(hN:X.N.Nodup)(hi:X.N[i]?=some x)(hx:Loc X.env.scope x)(r:RelV v u)
  (h:∀ s',Inv X pins (σ.set i (some v)) H s'->Q () s') (hf:X.fn x=true∨X.env.scope.names.lookup x=some .local:=by first | exact .inl rfl | exact .inr rfl | assumption):wpAny M A (storeName X.env x u) Q E s :=
 Dn I hN hi hx r (fun s' I' _=>h s' I') hf
theorem Inv.call'{s':Shared}{ch:List Addr}(I:Inv X pins σ H s)(ho:s'.os=s.os)(u:Un (frs X.stack) ch H H' s.heap s'.heap)(hok:HOk X.prog X.w H' s'.heap)(hg:AllBare s'.gens)
  (hch:∀ b∈ch,(b∈X.ex∨X.s₀.heap.objs.size<=b)/\b≠X.env.locals/\(∀ x c,X.env.cells.lookup x=some c->c≠b)/\∀ p∈X.pn++pins,p.1≠b):Inv X pins σ H' s':=by
 obtain⟨h',g',d',t',o'⟩:=s'
 have e:o'=s.os:=ho
 subst e
 exact I.call (g':=g') (t':=t') (d':=d') u hok hg hch
end
abbrev XK:=Value->Option Addr->Hp->Prop
abbrev St:=List (Option V)
abbrev VK:=V->Hp->Prop
abbrev TE:=St->Hp->VK->Prop
abbrev TT:=St->Hp->(Bool->Hp->Prop)->Prop
abbrev TA:=St->Hp->(List V->Hp->Prop)->Prop
structure Ends where
 nx:St->Hp->Prop
 rt:VK
 bk:St->Hp->Prop:=fun _ _=>False
 ct:St->Hp->Prop:=fun _ _=>False
abbrev TS:=Ends->St->Hp->Prop
def EP(X:Cx)(pins:List (Addr×Obj))(σ:St)(Q:VK)(u:Value)(s':Shared):Prop:=∃ v H',Inv X pins σ H' s'/\RelV v u/\Q v H'
def TP(X:Cx)(pins:List (Addr×Obj))(σ:St)(Q:Bool->Hp->Prop)(b:Bool)(s':Shared):Prop:=∃ H',Inv X pins σ H' s'/\Q b H'
def AP(X:Cx)(pins:List (Addr×Obj))(σ:St)(Q:List V->Hp->Prop)(us:List Value)(s':Shared):Prop:=∃ vs H',Inv X pins σ H' s'/\Vals vs us/\Q vs H'
def SP(X:Cx)(pins:List (Addr×Obj))(D:Ends)(f:Flow)(s':Shared):Prop :=
 match f with
 |.next=>∃ σ' H',Inv X pins σ' H' s'/\D.nx σ' H'
 |.brk=>∃ σ' H',Inv X pins σ' H' s'/\D.bk σ' H'
 |.cont=>∃ σ' H',Inv X pins σ' H' s'/\D.ct σ' H'
 |.ret u=>∃ v σ' H',Inv X pins σ' H' s'/\RelV v u/\D.rt v H'
def PE(X:Cx)(e:Expr)(t:TE):Prop :=
 ∀(pins:List (Addr×Obj))(s:Shared)(σ:St)(H:Hp)(Q:VK),Inv X pins σ H s->t σ H Q->wpAny (model X.prog X.w) X.A (eval e X.env) (EP X pins σ Q) X.xe s
def PT(X:Cx)(e:Expr)(t:TT):Prop :=
 ∀(pins:List (Addr×Obj))(s:Shared)(σ:St)(H:Hp)(Q:Bool->Hp->Prop),Inv X pins σ H s->t σ H Q->wpAny (model X.prog X.w) X.A (isTrue e X.env (eval e X.env)) (TP X pins σ Q) X.xe s
def PW(X:Cx)(e:Expr)(t:TT):Prop :=
 ∀(whole:Sem Value)(pins:List (Addr×Obj))(s:Shared)(σ:St)(H:Hp)(Q:Bool->Hp->Prop),Inv X pins σ H s->t σ H Q->wpAny (model X.prog X.w) X.A (isTrue e X.env whole) (TP X pins σ Q) X.xe s
theorem PW.pt{X:Cx}{e:Expr}{t:TT}(h:PW X e t):PT X e t:=h _
def PA(X:Cx)(es:List Expr)(t:TA):Prop :=
 ∀(pos:Pos)(pins:List (Addr×Obj))(s:Shared)(σ:St)(H:Hp)(Q:List V->Hp->Prop),Inv X pins σ H s->t σ H Q->wpAny (model X.prog X.w) X.A (spliced (backTo pos (starEach es X.env))) (AP X pins σ Q) X.xe s
def PS(X:Cx)(st:Stmt)(t:TS):Prop :=
 ∀(pins:List (Addr×Obj))(s:Shared)(σ:St)(H:Hp)(D:Ends),Inv X pins σ H s->t D σ H->wpAny (model X.prog X.w) X.A (exec st X.env) (SP X pins D) X.xe s
def PSs(X:Cx)(st:List Stmt)(t:TS):Prop :=
 ∀(pins:List (Addr×Obj))(s:Shared)(σ:St)(H:Hp)(D:Ends),Inv X pins σ H s->t D σ H->wpAny (model X.prog X.w) X.A (execs st X.env) (SP X pins D) X.xe s
theorem thn{α:Type}{t:Sem α}{Q Q':α->Shared->Prop}{M:Model}{A:Around}{E:Value->Shared->Prop}{s:Shared}(h:wpAny M A t Q E s)(hQ:∀ a s,Q a s->Q' a s):wpAny M A t Q' E s:=wpAny_mono h hQ fun _ _ x=>x
end L2
namespace L2
open PySem PySem.Spec PyProof.Rows
section
variable{X:Cx}
def tVar(i:Nat):TE:=fun σ H Q=>∃ v,σ[i]?=some (some v)/\Q v H
def tC(v:V):TE:=fun _ H Q=>Q v H
theorem pe_var{i:Nat}{x:Str}{pos:Pos}(hN:X.N[i]?=some x)(hv:Vis X.env.scope x) (hd:(x == ("__debug__" : Str))=false:=by decide) (hcd:(x == ("__classdict__" : Str))=false:=by decide):PE X (.Name x pos) (tVar i):=by
 intro pins s σ H Q I h
 obtain⟨v,e,h⟩:=h
 obtain⟨m,hn,hl⟩:=I.loc
 obtain⟨u,r,l⟩:=hl i x v hN e hv
 have fin:EP X pins σ Q u s:=⟨v,H,I,r,h⟩
 rcases l with⟨hk,hm⟩ | ⟨hk,c,hc,hcell⟩
 ·exact wpAny_Name (wpAny_loadName_local I.ok.kind hk hn hm fin) hd
 ·rcases hk with hk | hk
  ·exact wpAny_Name (wpAny_loadName_cell I.ok.kind hk hc hcell fin) hd
  ·exact wpAny_Name (wpAny_loadName_free I.ok.kind hk hc hcell fin hcd) hd
theorem ai{i j pos}:PE X (.Constant (.int i) j pos) (tC (.int i)):=fun _ _ _ H _ I h=>wpAny_Constant_int ⟨.int i,H,I.tok _,⟨_,rfl⟩,h⟩
theorem jE{b j pos}:PE X (.Constant (.bool b) j pos) (tC (.bl b)):=fun _ _ _ H _ I h=>Constant_bool ⟨.bl b,H,I,rfl,h⟩
theorem Hi{j pos}:PE X (.Constant .none j pos) (tC .non):=fun _ _ _ H _ I h=>Constant_none ⟨.non,H,I,rfl,h⟩
def Gl(X:Cx)(x:Str):Prop:=X.env.kindOf x=some .globalImplicit
theorem tF{E:Value->Shared->Prop}{pins:List (Addr×Obj)}{s:Shared}{σ:St}{H:Hp}{x:Str}{u:Value}{pos:Pos}{Q:Value->Shared->Prop}(I:Inv X pins σ H s)(hg:Gl X x)(hm:X.mg x=some u)(h:Q u s)
  (hd:(x == ("__debug__" : Str))=false:=by decide):wpAny (model X.prog X.w) X.A (eval (.Name x pos) X.env) Q E s :=
 Calls.Name_function_global I.ok.kind hg (Calls.loadGlobal_global (by rw[I.ok.glob];exact I.mod.glob.keeps I.bk) hm h) hd
theorem oX{E:Value->Shared->Prop}{pins:List (Addr×Obj)}{s:Shared}{σ:St}{H:Hp}{x:Str}{u:Value}{pos:Pos}{Q:Value->Shared->Prop}(I:Inv X pins σ H s)(hg:Gl X x)(hm:X.mg x=none)(hv:bootBuiltins x=some u)(h:Q u s)
  (hn:x≠"__name__":=by decide) (hd:(x == ("__debug__" : Str))=false:=by decide):wpAny (model X.prog X.w) X.A (eval (.Name x pos) X.env) Q E s:=by
 obtain⟨mb,h1,h2⟩:=I.mod.blt
 exact Calls.Name_function_global I.ok.kind hg (Calls.loadGlobal_builtin (by rw[I.ok.glob];exact I.mod.glob.keeps I.bk) hm (by rw[I.ok.blt];exact h1.keeps I.bk) ((h2 x hn).trans hv) h) hd
theorem Ic{x:Str}{v:V}{u:Value}{pos:Pos}(hg:Gl X x)(hm:X.mg x=some u)(r:RelV v u) (hd:(x == ("__debug__" : Str))=false:=by decide):PE X (.Name x pos) (tC v) :=
 fun _ _ _ H _ I h=>tF I hg hm ⟨v,H,I,r,h⟩ hd
theorem oG{x:Str}{v:V}{u:Value}{pos:Pos}(hg:Gl X x)(hm:X.mg x=none)(hv:bootBuiltins x=some u)(r:RelV v u) (hn:x≠"__name__":=by decide) (hd:(x == ("__debug__" : Str))=false:=by decide):PE X (.Name x pos) (tC v) :=
 fun _ _ _ H _ I h=>oX I hg hm hv ⟨v,H,I,r,h⟩ hn hd
variable{a b:Expr}{ta tb:TE}{pos:Pos}
def PC(X:Cx)(op:CmpOp)(a b:Expr)(t:TE):Prop :=
 ∀(pins:List (Addr×Obj))(s:Shared)(σ:St)(H:Hp)(Q:VK),Inv X pins σ H s->t σ H Q ->
  wpAny (model X.prog X.w) X.A (eval a X.env) (fun v s₁=>wpAny (model X.prog X.w) X.A (eval b X.env) (fun u s₂=>wpAny (model X.prog X.w) X.A (compareOp op v u) (EP X pins σ Q) X.xe s₂) X.xe s₁) X.xe s
def tB(t:TE):TT:=fun σ H Q=>t σ H fun x H1=>∃ c,x=.bl c/\Q c H1
theorem pe_cmp{op:CmpOp}{t:TE}(h:PC X op a b t)(h1:behindInMarks op b=false:=by first | exact nobehind _ (by decide) (by decide) | rfl):PE X (.Compare a [op] [b] pos) t:=fun pins s σ H Q I hw=>wpAny_Compare1 (h pins s σ H Q I hw) h1
theorem qY{op:CmpOp}{t:TE}(h:PC X op a b t)(h1:behindInMarks op b=false:=by first | exact nobehind _ (by decide) (by decide) | rfl):PT X (.Compare a [op] [b] pos) (tB t):=by
 intro pins s σ H Q I hw
 refine wpAny_isTrue_Compare1 (thn (h pins s σ H _ I hw) fun v s1 h1=>thn h1 fun u s2 h2=>thn h2 fun c s3 ⟨x,H1,I1,r1,q1⟩=>?_) h1
 obtain⟨d,rfl,q⟩:=q1
 cases r1
 exact wpAny_truthy_bool ⟨H1,I1,q⟩
theorem jw{e:Expr}{t:TE}(h:PE X e t)(he:∀ whole,isTrue e X.env whole=(do let v ← whole;standAt e.pos;holding [v] (truthy v)):=by intro _;rfl):PT X e (tB t):=by
 intro pins s σ H Q I hw
 refine isTrue_plain (thn (h pins s σ H _ I hw) fun v s1 ⟨x,H1,I1,r1,q1⟩=>?_) (he _)
 obtain⟨d,rfl,q⟩:=q1
 cases r1
 exact wpAny_truthy_bool ⟨H1,I1,q⟩
variable{tA tB':TT}{rest:List Expr}
def tAnd(t u:TT):TT:=fun σ H Q=>t σ H fun c H1=>if c=true then u σ H1 Q else Q false H1
def tOr(t u:TT):TT:=fun σ H Q=>t σ H fun c H1=>if c=true then Q true H1 else u σ H1 Q
def tNot(t:TT):TT:=fun σ H Q=>t σ H fun c H1=>Q (!c) H1
theorem yk(ha:PT X a tA):PW X (.BoolOp .And [a] pos) tA:=by
 intro wh pins s σ H Q I h
 refine isTrue_and (thn (ha pins s σ H Q I h) fun c s1 e=>?_)
 cases c with
 |true=>exact isTrue_and_nil e
 |false=>exact e
theorem mz(ha:PT X a tA):PW X (.BoolOp .Or [a] pos) tA:=by
 intro wh pins s σ H Q I h
 refine isTrue_or (thn (ha pins s σ H Q I h) fun c s1 e=>?_)
 cases c with
 |false=>exact isTrue_or_nil e
 |true=>exact e
theorem DL(ha:PT X a tA)(hb:PW X (.BoolOp .And (b::rest) pos) tB'):PW X (.BoolOp .And (a::b::rest) pos) (tAnd tA tB'):=by
 intro wh pins s σ H Q I h
 refine isTrue_and (thn (ha pins s σ H _ I h) fun c s1 ⟨H1,I1,q1⟩=>?_)
 cases c with
 |true=>exact hb wh pins s1 σ H1 Q I1 q1
 |false=>exact⟨H1,I1,q1⟩
theorem lB(ha:PT X a tA)(hb:PW X (.BoolOp .Or (b::rest) pos) tB'):PW X (.BoolOp .Or (a::b::rest) pos) (tOr tA tB'):=by
 intro wh pins s σ H Q I h
 refine isTrue_or (thn (ha pins s σ H _ I h) fun c s1 ⟨H1,I1,q1⟩=>?_)
 cases c with
 |true=>exact⟨H1,I1,q1⟩
 |false=>exact hb wh pins s1 σ H1 Q I1 q1
theorem mB(ha:PT X a tA):PT X (.UnaryOp .Not a pos) (tNot tA):=by
 intro pins s σ H Q I h
 exact isTrue_not (ha pins s σ H (fun c H1=>Q (!c) H1) I h)
def tAndV(ta tb:TE):TE:=fun σ H Q=>ta σ H fun x H1=>∃ c,x=.bl c/\if c=true then tb σ H1 Q else Q (.bl false) H1
def tNotV(ta:TE):TE:=fun σ H Q=>ta σ H fun x H1=>∃ c,x=.bl c/\Q (.bl (!c)) H1
theorem Hh{op}{t:TE}(h:PE X a t):PE X (.BoolOp op [a] pos) t:=fun pins s σ H Q I hw=>BoolOp_one (h pins s σ H Q I hw)
theorem Hj(ha:PE X a ta)(hb:PE X (.BoolOp .And (b::rest) pos) tb):PE X (.BoolOp .And (a::b::rest) pos) (tAndV ta tb):=by
 intro pins s σ H Q I h
 refine BoolOp_and (thn (ha pins s σ H _ I h) fun v s1 ⟨x,H1,I1,r1,q1⟩=>?_)
 obtain⟨c,rfl,q1⟩:=q1
 cases r1
 refine wpAny_truthy_bool ?_
 cases c with
 |true=>exact hb pins s1 σ H1 Q I1 q1
 |false=>exact⟨.bl false,H1,I1,rfl,q1⟩
theorem pe_not(ha:PE X a ta):PE X (.UnaryOp .Not a pos) (tNotV ta):=by
 intro pins s σ H Q I h
 refine UnaryOp_ (thn (ha pins s σ H _ I h) fun v s1 ⟨x,H1,I1,r1,q1⟩=>?_)
 obtain⟨c,rfl,q1⟩:=q1
 cases r1
 exact not_of (wpAny_truthy_bool ⟨.bl (!c),H1,I1,rfl,q1⟩)
def tIf(t:TT)(ta tb:TE):TE:=fun σ H Q=>t σ H fun c H1=>if c=true then ta σ H1 Q else tb σ H1 Q
theorem sO{c:Expr}(hc:PT X c tA)(ha:PE X a ta)(hb:PE X b tb):PE X (.IfExp c a b pos) (tIf tA ta tb):=by
 intro pins s σ H Q I h
 refine wpAny_IfExp (thn (hc pins s σ H _ I h) fun d s1 ⟨H1,I1,q1⟩=>?_)
 cases d with
 |true=>exact ha pins s1 σ H1 Q I1 q1
 |false=>exact hb pins s1 σ H1 Q I1 q1
end
end L2
namespace L2
open PySem PySem.Spec PyProof.Rows
def SqL(K:Js)(H:Hp)(a:Addr)(xs:List V):Prop :=
 Rd H a (.lst xs) ∨
  ∃(o:Obj)(its:Array Value)(n:Nat),K.lookup a=some o/\o.cls=.type "list"/\o.dict=none/\o.data=.seq its n/\its.size<=sizeLine/\Vals xs its.toList
def SqT(K:Js)(H:Hp)(a:Addr)(xs:List V):Prop :=
 Rd H a (.tup xs) ∨
  ∃(o:Obj)(its:Array Value)(n:Nat),K.lookup a=some o/\o.cls=.type "tuple"/\o.data=.seq its n/\its.size<=sizeLine/\Vals xs its.toList
def absV:Value->Option V
 |.none=>some .non
 |.bool b=>some (.bl b)
 |.int i _=>some (.int i)
 |.str x _=>some (.str x)
 |.bytes b _=>some (.byt b)
 |.float b _=>some (.flt b)
 |.ref a=>some (.ref a)
 |.type n=>some (.ty n)
 |_=>none
theorem RelV.abs{x:V}{u:Value}(r:RelV x u):absV u=some x:=by
 cases x with
 |non=>cases r;rfl
 |bl _=>cases r;rfl
 |int _=>obtain⟨t,rfl⟩:=r;rfl
 |str _=>obtain⟨t,rfl⟩:=r;rfl
 |byt _=>obtain⟨t,rfl⟩:=r;rfl
 |flt _=>obtain⟨t,rfl⟩:=r;rfl
 |ref _=>cases r;rfl
 |ty _=>cases r;rfl
theorem RelV.inj{x y:V}{u:Value}(r:RelV x u)(q:RelV y u):x=y:=JL (r.abs.symm.trans q.abs)
theorem Vals.inj:∀{xs ys:List V}{us:List Value},Vals xs us->Vals ys us->xs=ys
 |_,_,_,.nil,.nil=>rfl
 |_,_,_,.cons r t,.cons r' t'=>by rw[r.inj r',Vals.inj t t']
section
variable{X:Cx}{pins:List (Addr×Obj)}{σ:St}{H:Hp}{s:Shared}{a:Addr}{xs ys:List V}
theorem SqL.of{K:Js}(h:H a=some (.lst xs)):SqL K H a xs:=.inl (.inl h)
theorem SqT.of{K:Js}(h:H a=some (.tup xs)):SqT K H a xs:=.inl (.inl h)
theorem Inv.list(I:Inv X pins σ H s)(h:SqL X.K H a xs):∃ its:List Value,Vals xs its/\PlainL s.heap a its.toArray/\xs.length<=sizeLine:=by
 rcases h with h | ⟨o,its,n,hk,hc,hd,hs,hz,r⟩
 ·obtain⟨z,its,n,r,e⟩:=h.ok I.hok
  exact⟨its,r,⟨_,n,e,rfl,rfl,rfl⟩,z⟩
 ·refine⟨its.toList,r,⟨o,n,I.kIn a o hk,hc,hd,by simpa using hs⟩,?_⟩
  have e:=r.length
  simp only[JR]at e
  omega
theorem Inv.tuple(I:Inv X pins σ H s)(h:SqT X.K H a xs):∃ its:List Value,Vals xs its/\IsTup s.heap a its.toArray/\xs.length<=sizeLine:=by
 rcases h with h | ⟨o,its,n,hk,hc,hs,hz,r⟩
 ·obtain⟨z,its,r,p⟩:=h.ok I.hok
  exact⟨its,r,p,z⟩
 ·refine⟨its.toList,r,⟨o,I.kIn a o hk,hc,n,by simpa using hs⟩,?_⟩
  have e:=r.length
  simp only[JR]at e
  omega
theorem Inv.list_inj(I:Inv X pins σ H s)(h:SqL X.K H a xs)(h':SqL X.K H a ys):xs=ys:=by
 obtain⟨its,r,⟨o,n,e,_,_,d⟩,_⟩:=I.list h
 obtain⟨its',r',⟨o',n',e',_,_,d'⟩,_⟩:=I.list h'
 rw[e]at e';cases e'
 rw[d]at d'
 injection d' with d1 _
 have:its=its':=by simpa using congrArg Array.toList d1
 subst this
 exact r.inj r'
end
abbrev Cx.wish(X:Cx)(E:Value->Shared->Prop):Cx:={ X with xe:=E }
abbrev Cx.nox(X:Cx):Cx:=X.wish fun _ _=>False
theorem Cx.Ok.wish{X:Cx}(ok:X.Ok)(E:Value->Shared->Prop):(X.wish E).Ok :=
 ⟨ok.mod,ok.kind,ok.glob,ok.blt,ok.above,ok.inj,ok.has,ok.cab,ok.hd,ok.frames,ok.stk,ok.exf,ok.bs,ok.bsz,ok.noex,ok.exfs,ok.funs,ok.frf⟩
theorem Cx.Ok.unwish{X:Cx}{E:Value->Shared->Prop}(ok:(X.wish E).Ok):X.Ok :=
 ⟨ok.mod,ok.kind,ok.glob,ok.blt,ok.above,ok.inj,ok.has,ok.cab,ok.hd,ok.frames,ok.stk,ok.exf,ok.bs,ok.bsz,ok.noex,ok.exfs,ok.funs,ok.frf⟩
section
variable{X:Cx}{pins:List (Addr×Obj)}{σ:St}{H:Hp}{s:Shared}{E:Value->Shared->Prop}
theorem Inv.wish(I:Inv X pins σ H s)(E:Value->Shared->Prop):Inv (X.wish E) pins σ H s:=⟨I.ok.wish E,I.os,I.bare,I.base,I.loc,I.cell,I.free,I.freeC,I.pin,I.hok,I.len⟩
theorem Inv.unwish(I:Inv (X.wish E) pins σ H s):Inv X pins σ H s:=⟨I.ok.unwish,I.os,I.bare,I.base,I.loc,I.cell,I.free,I.freeC,I.pin,I.hok,I.len⟩
theorem SP.unwish{D:Ends}{f:Flow}{s':Shared}(h:SP (X.wish E) pins D f s'):SP X pins D f s':=by
 cases f with
 |next=>obtain⟨σ',H',I,q⟩:=h;exact⟨σ',H',I.unwish,q⟩
 |brk=>obtain⟨σ',H',I,q⟩:=h;exact⟨σ',H',I.unwish,q⟩
 |cont=>obtain⟨σ',H',I,q⟩:=h;exact⟨σ',H',I.unwish,q⟩
 |ret u=>obtain⟨v,σ',H',I,r,q⟩:=h;exact⟨v,σ',H',I.unwish,r,q⟩
theorem PSs.nox{st:List Stmt}{t:TS}(h:PSs X.nox st t):PSs X st t:=fun pins s σ H D I hw =>
 wpAny_mono (h pins s σ H D (I.wish _) hw) (fun _ _ q=>q.unwish) fun _ _ z=>False.elim z
end
section
variable{X:Cx}{st:Stmt}{rest:List Stmt}{t u:TS}{e:Expr}{te:TE}{pos:Pos}
def tNext:TS:=fun D σ H=>D.nx σ H
def tSeq(t u:TS):TS:=fun D σ H=>t { D with nx:=u D } σ H
theorem aR:PSs X [] tNext:=fun _ _ σ H _ I h=>wpAny_execs_nil ⟨σ,H,I,h⟩
theorem af(h1:PS X st t)(h2:PSs X rest u):PSs X (st::rest) (tSeq t u):=by
 intro pins s σ H D I h
 refine wpAny_execs_cons (thn (h1 pins s σ H { D with nx:=u D } I h) fun f s1 q=>?_)
 cases f with
 |next =>
  obtain⟨σ',H',I',q⟩:=q
  exact h2 pins s1 σ' H' D I' q
 |ret v=>exact q
 |brk=>exact q
 |cont=>exact q
theorem ao(h1:PS X st t):PSs X [st] t:=by
 intro pins s σ H D I h
 refine wpAny_execs_cons (thn (h1 pins s σ H D I h) fun f s1 q=>?_)
 cases f with
 |next=>exact wpAny_execs_nil q
 |ret v=>exact q
 |brk=>exact q
 |cont=>exact q
theorem Inv.quiet{pins:List (Addr×Obj)}{σ:St}{H:Hp}{s:Shared}(I:Inv X pins σ H s):interactive X.env=false:=by simp[interactive,I.ok.kind]
def tDrop(te:TE):TS:=fun D σ H=>te σ H fun _ H1=>D.nx σ H1
theorem bp(he:PE X e te)(hs:swapsWith e none pos.line X.env=pure false:=by rfl):PS X (.Expr e pos) (tDrop te):=by
 intro pins s σ H D I h
 exact wpAny_Expr_any (thn (he pins s σ H _ I h) fun v s1 ⟨x,H1,I1,r1,q1⟩=>⟨σ,H1,I1,q1⟩) I.quiet hs
def tRet(te:TE):TS:=fun D σ H=>te σ H D.rt
theorem aM(he:PE X e te):PS X (.Return (some e) pos) (tRet te):=by
 intro pins s σ H D I h
 exact wpAny_Return_some (thn (he pins s σ H _ I h) fun v s1 ⟨x,H1,I1,r1,q1⟩=>⟨x,σ,H1,I1,r1,q1⟩)
def tRetN:TS:=fun D _ H=>D.rt .non H
theorem HY:PS X (.Return none pos) tRetN:=fun _ _ σ H _ I h=>wpAny_Return_none ⟨.non,σ,H,I,rfl,h⟩
def tIfS(c:TT)(t u:TS):TS:=fun D σ H=>c σ H fun b H1=>if b=true then t D σ H1 else u D σ H1
theorem bV{c:Expr}{a b:List Stmt}{tc:TT}(hc:PT X c tc)(ha:PSs X a t)(hb:PSs X b u):PS X (.If c a b pos) (tIfS tc t u):=by
 intro pins s σ H D I h
 refine wpAny_If (thn (hc pins s σ H _ I h) fun d s1 ⟨H1,I1,q1⟩=>?_)
 cases d with
 |true=>exact ha pins s1 σ H1 D I1 q1
 |false=>exact hb pins s1 σ H1 D I1 q1
def tNever:TS:=fun _ _ _=>False
theorem fg:PS X st tNever:=fun _ _ _ _ _ _ h=>h.elim
end
abbrev TG:=V->St->Hp->(St->Hp->Prop)->Prop
abbrev TGs:=List V->St->Hp->(St->Hp->Prop)->Prop
def PG(X:Cx)(target:Expr)(t:TG):Prop :=
 ∀(pins:List (Addr×Obj))(s:Shared)(σ:St)(H:Hp)(v:V)(u:Value)(Q:St->Hp->Prop),Inv X pins σ H s->RelV v u->t v σ H Q ->
  wpAny (model X.prog X.w) X.A (assign target X.env u) (fun _ s'=>∃ σ' H',Inv X pins σ' H' s'/\Q σ' H') X.xe s
def PGs(X:Cx)(ts:List Expr)(t:TGs):Prop :=
 ∀(pins:List (Addr×Obj))(s:Shared)(σ:St)(H:Hp)(vs:List V)(us:List Value)(Q:St->Hp->Prop),Inv X pins σ H s->Vals vs us->t vs σ H Q ->
  wpAny (model X.prog X.w) X.A (assignInOrder ((assignEach ts X.env).map (·.2)) us) (fun _ s'=>∃ σ' H',Inv X pins σ' H' s'/\Q σ' H') X.xe s
abbrev TSet:=V->V->V->Hp->(Hp->Prop)->Prop
def PSet(X:Cx)(t:TSet):Prop :=
 ∀(pins:List (Addr×Obj))(s:Shared)(σ:St)(H:Hp)(o i v:V)(ov iv u:Value)(Q:Hp->Prop),Inv X pins σ H s->RelV o ov->RelV i iv->RelV v u->t o i v H Q ->
  wpAny (model X.prog X.w) X.A (setItem ov iv u) (fun _ s'=>∃ H',Inv X pins σ H' s'/\Q H') X.xe s
section
variable{X:Cx}{pos:Pos}
def gName(i:Nat):TG:=fun v σ H Q=>Q (σ.set i (some v)) H
theorem aX{i:Nat}{x:Str}(hN:X.N.Nodup)(hi:X.N[i]?=some x)(hx:Loc X.env.scope x)(hf:X.fn x=true∨X.env.scope.names.lookup x=some .local:=by first | exact .inl rfl | exact .inr rfl | assumption):PG X (.Name x pos) (gName i):=by
 intro pins s σ H v u Q I r h
 exact wpAny_assign_Name (rR I hN hi hx r (fun s' I'=>⟨_,H,I',h⟩) hf)
def gNil:TGs:=fun vs σ H Q=>vs = []/\Q σ H
def gCons(t:TG)(u:TGs):TGs:=fun vs σ H Q=>∃ v r,vs=v::r/\t v σ H fun σ' H'=>u r σ' H' Q
theorem yA:PGs X [] gNil:=by
 intro pins s σ H vs us Q I r h
 obtain⟨e,h⟩:=h
 subst e
 cases r
 exact assignInOrder_nil ⟨σ,H,I,h⟩
theorem jb{e:Expr}{es:List Expr}{t:TG}{u:TGs}(h1:PG X e t)(h2:PGs X es u)
  (hs:(assignEach (e::es) X.env).map (·.2)=assign e X.env::(assignEach es X.env).map (·.2):=by rfl):PGs X (e::es) (gCons t u):=by
 intro pins s σ H vs us Q I r h
 obtain⟨v,vr,e1,h⟩:=h
 subst e1
 cases r with
 |cons r rr =>
  rw[hs]
  refine assignInOrder_cons (thn (h1 pins s σ H _ _ _ I r h) fun _ s1 ⟨σ1,H1,I1,q1⟩=>?_)
  exact h2 pins s1 σ1 H1 _ _ Q I1 rr q1
def gTup(K:Js)(n:Nat)(t:TGs):TG:=fun v σ H Q=>∃ a xs,v=.ref a/\SqT K H a xs/\xs.length=n/\t xs σ H Q
theorem DR{es:List Expr}{k:Nat}{t:TGs}{n:Nat}(hc:X.calm=true)(h:PGs X es t)
  (hn:(assignEach es X.env).length=n:=by rfl) (hst:(assignEach es X.env).findIdx? (·.1)=none:=by rfl):PG X (.Tuple es k pos) (gTup X.K n t):=by
 intro pins s σ H v u Q I r hw
 obtain⟨a,xs,e1,hq,hl,hw⟩:=hw
 subst e1
 cases r
 obtain⟨its,rv,ht,hz⟩:=I.tuple hq
 refine assign_Tuple_tuple (I.ok.hd hc) ht (by simp[hn,← hl,rv.length]) hst fun h' hx=>?_
 have I1:Inv X pins σ H { s with heap:=h' }:=I.kept (t':=s.toks) fun b o e=>hx b o (JN (Heap.lt_size e)) e
 exact h pins _ σ H xs _ Q I1 (by simpa using rv) hw
def gSub(to ti:TE)(t:TSet):TG:=fun v σ H Q=>to σ H fun o H1=>ti σ H1 fun i H2=>t o i v H2 fun H3=>Q σ H3
theorem vk{o i:Expr}{to ti:TE}{t:TSet}(ho:PE X o to)(hi:PE X i ti)(hs:PSet X t)
  (ha:∀ v,assign (.Subscript o i pos) X.env v=(do
   let ov ← holding [v] (eval o X.env)
   let iv ← holding [v,ov] (eval i X.env)
   standAt pos
   holding [v,ov,iv] (setItem ov iv v)
   release [v,ov,iv] []):=by intro _;rfl):PG X (.Subscript o i pos) (gSub to ti t):=by
 intro pins s σ H v u Q I r h
 rw[ha]
 refine wpAny_bind (wpAny_holding (thn (ho pins s σ H _ I h) fun ov s1 ⟨x,H1,I1,r1,q1⟩=>?_))
 refine wpAny_bind (wpAny_holding (thn (hi pins s1 σ H1 _ I1 q1) fun iv s2 ⟨y,H2,I2,r2,q2⟩=>?_))
 refine wpAny_bind (wpAny_standAt (wpAny_bind (wpAny_holding (thn (hs pins s2 σ H2 x y v ov iv u _ I2 r1 r2 r q2) fun _ s3 ⟨H3,I3,q3⟩=>?_))))
 exact wpAny_release ⟨σ,H3,I3,q3⟩
def tAsg(te:TE)(g:TG):TS:=fun D σ H=>te σ H fun x H1=>g x σ H1 D.nx
theorem u5{tg e:Expr}{te:TE}{g:TG}(he:PE X e te)(hg:PG X tg g)(hs:swapsWithSole [tg] e pos.line X.env=pure false:=by rfl)(hw:swappedStores [tg] e X.env=pure none:=by rfl)
  (h1:(assignEach [tg] X.env).map (·.2) = [assign tg X.env]:=by rfl):PS X (.Assign [tg] e pos) (tAsg te g):=by
 intro pins s σ H D I h
 refine wpAny_Assign_stores (thn (he pins s σ H _ I h) fun v s1 ⟨x,H1,I1,r1,q1⟩=>?_) hs hw
 rw[h1]
 exact thn (hg pins s1 σ H1 x v _ I1 r1 q1) fun _ s2 q=>q
theorem ar{i:Nat}{x:Str}{e:Expr}{te:TE}{pos':Pos}(hN:X.N.Nodup)(hi:X.N[i]?=some x)(hx:Loc X.env.scope x)(he:PE X e te)(hs:swapsWith e (some (.Name x pos')) pos.line X.env=pure false:=by rfl)(hf:X.fn x=true∨X.env.scope.names.lookup x=some .local:=by first | exact .inl rfl | exact .inr rfl | assumption) :
  PS X (.Assign [.Name x pos'] e pos) (tAsg te (gName i)):=by
 intro pins s σ H D I h
 refine wpAny_Assign_Name (thn (he pins s σ H _ I h) fun v s1 ⟨y,H1,I1,r1,q1⟩=>?_) hs
 exact rR I1 hN hi hx r1 (fun s2 I2=>⟨_,H1,I2,q1⟩) hf
end
section
variable{X:Cx}{pos:Pos}
def G9(c:TT)(tb:TS):TS:=fun D σ H=>∃ W:Nat->St->Hp->Prop,(∃ m,W m σ H)/\∀ m σ H,W m σ H ->
 c σ H fun b H1=>if b=true then ∃ N:St->Hp->Prop,(∀ σ' H',N σ' H'->∃ m',m'<m/\W m' σ' H')/\tb { D with nx:=N,ct:=N,bk:=D.nx } σ H1 else D.nx σ H1
theorem kq{c:Expr}{body:List Stmt}{tc:TT}{tb:TS}(hp:PassesOwn (model X.prog X.w) X.A X.env X.xe)(hc:PT X c tc)(hb:PSs X body tb):PS X (.While c body [] pos) (G9 tc tb):=by
 intro pins s σ H D I h
 obtain⟨W,⟨m0,w0⟩,turn⟩:=h
 refine wpAny_While (codeAny_whileLoop (fun n s'=>∃ σ' H',Inv X pins σ' H' s'/\W n σ' H') ?_ m0 ⟨σ,H,I,w0⟩)
 rintro n s1 ⟨σ1,H1,I1,w1⟩
 refine wpAny_passesOwn hp (thn (hc pins s1 σ1 H1 _ I1 (turn n σ1 H1 w1)) fun b s2 ⟨H2,I2,q2⟩=>?_)
 cases b with
 |true =>
  obtain⟨N,hN,q2⟩:=q2
  rw[if_pos rfl]
  refine wpAny_passesOwn hp (thn (hb pins s2 σ1 H2 _ I2 q2) fun f s3 q3=>?_)
  cases f with
  |next =>
   obtain⟨σ3,H3,I3,n3⟩:=q3
   obtain⟨m',hm,w3⟩:=hN σ3 H3 n3
   exact⟨m',hm,σ3,H3,I3,w3⟩
  |cont =>
   obtain⟨σ3,H3,I3,n3⟩:=q3
   obtain⟨m',hm,w3⟩:=hN σ3 H3 n3
   exact⟨m',hm,σ3,H3,I3,w3⟩
  |brk=>exact q3
  |ret v=>exact q3
 |false =>
  rw[if_neg JZ]
  exact wpAny_execs_nil ⟨σ1,H2,I2,q2⟩
end
structure It where
 go:Nat->Hp->Prop
 yld:Nat->Hp->V->Hp->Prop
 stop:Nat->Hp->Prop
def FpOk(X:Cx)(pins:List (Addr×Obj))(H:Hp)(b:Addr):Prop :=
 H b=none/\b≠X.env.locals/\b∉X.fs/\(b∈X.ex∨X.s₀.heap.objs.size<=b)/\(∀ x c,X.env.cells.lookup x=some c->c≠b)/\∀ p∈X.pn++pins,p.1≠b
theorem Inv.fpOk{X:Cx}{pins:List (Addr×Obj)}{σ:St}{H H':Hp}{s:Shared}{b:Addr}(I:Inv X pins σ H s)(hb:s.heap.objs.size<=b)(hn:H' b=none):FpOk X pins H' b:=by
 refine⟨hn,K7 (Ki I.lt hb),I.nofs hb,.inr (Ky I.sz hb),fun x c e z=>?_,fun p hp z=>?_⟩
 ·obtain⟨v,q⟩:=I.cell x c e
  exact absurd (Ki q.lt (by rw[z];exact hb)) (KD _)
 ·exact absurd (Ki (Heap.lt_size (I.pin p hp).1) (by rw[z];exact hb)) (KD _)
structure Turn(P:Program)(w:World)(K:Js)(tg:Expr)(J:It)(fp:List Addr)(it:Addr)(tn:Nat->Heap->Prop):Prop where
 mem:it∈fp
 obj:∀ i h,tn i h->∀ b∈fp,∃ o,h.get? b=some o/\∀ v,o.data≠.cell v
 keep:∀ i h h',tn i h->(∀ b∈fp,∀ o,h.get? b=some o->h'.get? b=some o)->tn i h'
 item:∀(X:Cx),X.prog=P->X.w=w->X.K=K->X.calm=true->∀(i:Nat)(pins:List (Addr×Obj))(s:Shared)(σ:St)(H:Hp)(E:Value->Shared->Prop),Inv X pins σ H s->(∀ b∈fp,FpOk X pins H b)->tn i s.heap->J.go i H ->
  wpAny (model P w) X.A (pyNext (.ref it)) (fun r s1=>∃ u,r=some u /\
   wpAny (model P w) X.A (letOwnedTupleGo tg (.ref it) u) (fun _ s2=>∃ x H',Inv X pins σ H' s2/\RelV x u/\J.yld i H x H'/\tn (i+1) s2.heap/\∀ b∈fp,H' b=none) E s1) E s
 done:∀(X:Cx),X.prog=P->X.w=w->X.K=K->X.calm=true->∀(i:Nat)(pins:List (Addr×Obj))(s:Shared)(σ:St)(H:Hp)(E:Value->Shared->Prop),Inv X pins σ H s->(∀ b∈fp,FpOk X pins H b)->tn i s.heap->J.stop i H ->
  wpAny (model P w) X.A (pyNext (.ref it)) (fun r s1=>r=none/\Inv X pins σ H s1) E s
 self:∀(A:Around)(i:Nat)(s:Shared)(Q:Value->Shared->Prop)(E:Value->Shared->Prop),tn i s.heap->Q (.ref it) s->wpAny (model P w) A (pyIter (.ref it)) Q E s
abbrev TI:=St->Hp->(It->Hp->Prop)->Prop
def PIE(X:Cx)(pins:List (Addr×Obj))(σ:St)(tg:Expr)(R:It->Hp->Prop)(itv:Value)(s2:Shared):Prop :=
 ∃(it:Addr)(fp:List Addr)(tn:Nat->Heap->Prop)(J:It)(H':Hp),itv=.ref it/\Inv X pins σ H' s2/\Turn X.prog X.w X.K tg J fp it tn/\tn 0 s2.heap/\(∀ b∈fp,FpOk X pins H' b)/\R J H'
def PI(X:Cx)(tg iter:Expr)(wi:TI):Prop :=
 ∀(pins:List (Addr×Obj))(s:Shared)(σ:St)(H:Hp)(R:It->Hp->Prop),Inv X pins σ H s->wi σ H R ->
  wpAny (model X.prog X.w) X.A (eval iter X.env) (fun v s1=>wpAny (model X.prog X.w) X.A (pyIter v) (PIE X pins σ tg R) X.xe s1) X.xe s
theorem go_of{M:Model}{A:Around}{E:Value->Shared->Prop}{s:Shared}{tg:Expr}{it:Addr}{u:Value}{o:Obj}{n:String}{vs:Array Value}{Q:Unit->Shared->Prop}(ho:s.heap.get? it=some o)(hc:o.cls=.type n)(hd:o.data=.fields vs)
  (hn : ["enumerate","zip","dict_itemiterator","dict_reverseitemiterator","odict_iterator","itertools.zip_longest","itertools.pairwise"].contains n=false) (hQ:Q () s):wpAny M A (letOwnedTupleGo tg (.ref it) u) Q E s:=by
 unfold letOwnedTupleGo
 cases tg<;>first
  |exact wpAny_pure hQ
  | (cases u<;>first
    |exact wpAny_pure hQ
    | (refine wpAny_bind (wpAny_load ho ?_)
       rw[hc,hd]
       show wpAny M A (if(["enumerate","zip","dict_itemiterator","dict_reverseitemiterator","odict_iterator","itertools.zip_longest","itertools.pairwise"].contains n&&vs[0]? == some (rawInt _))=true then _ else _) Q E s
       rw[if_neg (by intro h;rw[hn,MI]at h;cases h)]
       exact wpAny_pure hQ))
def Itl(K:Js)(a:Addr):It :=
 ⟨fun i H=>∃ xs x,SqL K H a xs/\xs[i]?=some x,fun i H x H'=>H'=H/\∀ xs,SqL K H a xs->xs[i]?=some x,fun i H=>∃ xs,SqL K H a xs/\xs.length<=i⟩
def Itr(lo:Int)(n:Nat):It:=⟨fun i _=>i<n,fun i H x H'=>H'=H/\x=.int (lo+i),fun i _=>n<=i⟩
theorem Dk{P:Program}{w:World}{K:Js}{tg:Expr}(a it:Addr):Turn P w K tg (Itl K a) [it] it (fun i h=>h.IsListIter it a i) where
 mem:=by simp
 obj:=fun i h st b hb=>by
  have e:b=it:=by simpa using hb
  subst e
  obtain⟨o,e,c,d⟩:=st
  exact⟨o,e,fun v z=>by rw[d]at z;cases z⟩
 keep:=fun i h h' st k=>st.at fun o e=>k it (by simp) o e
 item:=by
  intro X hP hw hK hc i pins s σ H E I hf st hg
  subst hP hw hK
  obtain⟨xs,x,hq,hx⟩:=hg
  obtain⟨its,rv,p,hz⟩:=I.list hq
  obtain⟨u,hu,ru⟩:=rv.get hx
  obtain⟨f0,f1,f2,f3,f4,f5⟩:=hf it (by simp)
  refine wpAny_pyNext_list_item st p.isList (x:=u) (by simpa using hu) fun h' st' sb=>?_
  have I1:Inv X pins σ H { s with heap:=h' }:=I.turned (t':=s.toks) (fun b o hb e=>(sb.2 b hb).trans e) f0 f1 f3 f4 f5
  obtain⟨o,e,c,d⟩:=id st'
  exact⟨u,rfl,go_of (s:={ s with heap:=h' }) e c d (by decide) ⟨x,H,I1,ru,⟨rfl,fun ys hy=>by rw[I.list_inj hy hq];exact hx⟩,st',fun b hb=>(hf b hb).1⟩⟩
 done:=by
  intro X hP hw hK hc i pins s σ H E I hf st hg
  subst hP hw hK
  obtain⟨xs,hq,hx⟩:=hg
  obtain⟨its,rv,p,hz⟩:=I.list hq
  obtain⟨f0,f1,f2,f3,f4,f5⟩:=hf it (by simp)
  have hl:=rv.length
  exact wpAny_pyNext_list_end (I.ok.hd hc) st p.isList (by simp;omega) fun h' eb=>⟨rfl,I.turned (t':=s.toks) (fun b o hb e=>eb b o hb e) f0 f1 f3 f4 f5⟩
 self:=fun _ _ _ _ _ st h=>wpAny_pyIter_listiter st h
theorem Bw{P:Program}{w:World}{K:Js}{tg:Expr}(it:Addr)(lo:Int)(n:Nat):Turn P w K tg (Itr lo n) [it] it (fun i h=>IsRangeIter h it (lo+(i:Nat)*1) ((n:Int)-(i:Nat)) 1) where
 mem:=by simp
 obj:=fun i h st b hb=>by
  have e:b=it:=by simpa using hb
  subst e
  exact⟨_,st,fun v z=>by
   have z':Data.fields _=Data.cell v:=z
   cases z'⟩
 keep:=fun i h h' st k=>k it (by simp) _ st
 item:=by
  intro X hP hw hK hc i pins s σ H E I hf st hg
  subst hP hw hK
  obtain⟨f0,f1,f2,f3,f4,f5⟩:=hf it (by simp)
  have W:=Walks.range (prog:=X.prog) (w:=X.w) (I.ok.hd hc) it lo 1 n
  refine W.item i s _ _ hg st fun v h' tk hv st' kk=>?_
  obtain⟨t,rfl⟩:=hv
  have I1:Inv X pins σ H { s with heap:=h',toks:=tk }:=I.turned (fun b o hb e=>kk b o (by simpa using hb) e) f0 f1 f3 f4 f5
  refine⟨_,rfl,go_of (s:={ s with heap:=h',toks:=tk }) (n:="range_iterator") st' rfl rfl (by decide) ⟨.int (lo+i),H,I1,⟨t,?_⟩,⟨rfl,rfl⟩,st',fun b hb=>(hf b hb).1⟩⟩
  rw[Int.mul_one]
 done:=by
  intro X hP hw hK hc i pins s σ H E I hf st hg
  subst hP hw hK
  obtain⟨f0,f1,f2,f3,f4,f5⟩:=hf it (by simp)
  exact wpAny_pyNext_range_end (I.ok.hd hc) st (by have:n<=i:=hg;omega) fun h' eb=>⟨rfl,I.turned (t':=s.toks) (fun b o hb e=>eb b o hb e) f0 f1 f3 f4 f5⟩
 self:=fun _ _ _ _ _ st h=>wpAny_pyIter_rangeiter st h
end L2
namespace L2
open PySem PySem.Spec PyProof.Rows
section
variable{X:Cx}{tg:Expr}
def iList(K:Js)(tl:TE):TI:=fun σ H R=>tl σ H fun x H1=>∃ a,x=.ref a/\(∃ xs,SqL K H1 a xs)/\R (Itl K a) H1
theorem bx{l:Expr}{tl:TE}(hl:PE X l tl):PI X tg l (iList X.K tl):=by
 intro pins s σ H R I h
 refine thn (hl pins s σ H _ I h) fun v s1 ⟨x,H1,I1,r1,q1⟩=>?_
 obtain⟨a,e,⟨xs,hq⟩,q⟩:=q1
 subst e
 cases r1
 obtain⟨its,rv,p,hz⟩:=I1.list hq
 refine wpAny_pyIter_list p.isList ?_
 refine⟨s1.heap.objs.size,[s1.heap.objs.size],_,_,H1,rfl,I1.kept (t':=s1.toks) fun b o e=>Heap.get?_push_of_some _ e,Dk a _,⟨_,Heap.get?_push_size _ rfl,rfl,rfl⟩,fun b hb=>?_,q⟩
 have e:b=s1.heap.objs.size:=by simpa using hb
 subst e
 exact I1.fpOk (Jw _) (I1.hok.fresh (Jw _))
theorem FD{pins:List (Addr×Obj)}{σ:St}{H:Hp}{s:Shared}{R:It->Hp->Prop}{E:Value->Shared->Prop}{lo hi:Int}{t u v:Tok}{tk:Nat}(I:Inv X pins σ H s)(h1 : -(2^62)<=lo)(h2:lo<2^62)(h3 : -(2^62)<=hi)(h4:hi<2^62)
  (q:R (Itr lo (hi-lo).toNat) H):wpAny (model X.prog X.w) X.A (pyIter (.ref s.heap.objs.size)) (PIE X pins σ tg R) E { s with heap:=s.heap.push { cls:=.type "range",data:=.fields #[.int lo t,.int hi u,.int 1 v] },toks:=tk }:=by
 refine wpAny_pyIter_range (IsRange.new ..) (small_one h1 h2 h3 h4) ?_
 have I1:Inv X pins σ H { s with heap:=s.heap.push { cls:=.type "range",data:=.fields #[.int lo t,.int hi u,.int 1 v] },toks:=tk }:=I.kept fun b o e=>Heap.get?_push_of_some _ e
 refine⟨(s.heap.push { cls:=.type "range",data:=.fields #[.int lo t,.int hi u,.int 1 v] }).objs.size,[(s.heap.push { cls:=.type "range",data:=.fields #[.int lo t,.int hi u,.int 1 v] }).objs.size],_,_,H,rfl,
  I1.kept (t':=tk) fun b o e=>Heap.get?_push_of_some _ e,Bw _ lo (hi-lo).toNat,?_,fun b hb=>?_,q⟩
 ·have e1:lo+((0:Nat):Int)*1=lo:=by simp
  have e2:(((hi-lo).toNat:Nat):Int)-((0:Nat):Int)=Builtin.Range.rangeSize lo hi 1:=by rw[rangeSize_one];split<;>omega +splitDisjunctions
  show IsRangeIter _ _ (lo+((0:Nat):Int)*1) ((((hi-lo).toNat:Nat):Int)-((0:Nat):Int)) 1
  rw[e1,e2]
  exact Heap.get?_push_size _ rfl
 ·have e:b=(s.heap.push { cls:=.type "range",data:=.fields #[.int lo t,.int hi u,.int 1 v] }).objs.size:=by simpa using hb
  subst e
  exact I1.fpOk (Jw _) (I1.hok.fresh (Jw _))
def iRng1(ta:TA):TI:=fun σ H R=>ta σ H fun vs H1=>∃ j:Int,vs = [.int j]/\-(2^62)<=j/\j<2^62/\R (Itr 0 j.toNat) H1
theorem a9{a:Expr}{ta:TA}{p pos:Pos} (hg:Gl X "range") (hm:X.mg "range" = none) (ha:PA X [a] ta) (hs:starEach [a] X.env = [(false,eval a X.env)]:=by rfl):PI X tg (.Call (.Name "range" p) [a] [] pos) (iRng1 ta):=by
 intro pins s σ H R I h
 refine Call_ (oX I hg hm boot_range (PyProof.Rows.callWith_type1 (thn (ha pos pins s σ H _ I h) fun us s1 ⟨vs,H1,I1,r1,q1⟩=>?_) hs rfl))
 obtain⟨j,e,q1,q2,q⟩:=q1
 subst e
 cases r1 with
 |cons r rr =>
  cases rr
  obtain⟨t,rfl⟩:=r
  exact call_range_1 (FD I1 (by omega) (by omega) q1 q2 (by simpa using q))
def tFor(wi:TI)(g:TG)(tb:TS):TS:=fun D σ H=>wi σ H fun J H1=>∃ W:Nat->Nat->St->Hp->Prop,(∃ m,W 0 m σ H1)/\∀ i m σ H,W i m σ H ->
 (J.stop i H/\D.nx σ H)∨(J.go i H/\∃ N:St->Hp->Prop,(∀ σ' H',N σ' H'->∃ m',m'<m/\W (i+1) m' σ' H')/\∀ x H',J.yld i H x H'->g x σ H' fun σ2 H2=>tb { D with nx:=N,ct:=N,bk:=D.nx } σ2 H2)
def vi(fp:List Addr)(h:Heap):List (Addr×Obj):=fp.filterMap fun b=>(h.get? b).map fun o=>(b,o)
theorem gz{fp:List Addr}{h:Heap}{b:Addr}{o:Obj}(hb:b∈fp)(e:h.get? b=some o):(b,o)∈vi fp h:=List.mem_filterMap.mpr ⟨b,hb,by rw[e];rfl⟩
theorem D3{fp:List Addr}{h:Heap}{p:Addr×Obj}(hp:p∈vi fp h):p.1∈fp/\h.get? p.1=some p.2:=by
 obtain⟨b,hb,e⟩:=List.mem_filterMap.mp hp
 cases q:h.get? b with
 |none=>rw[q]at e;cases e
 |some o =>
  rw[q]at e
  have e':(b,o)=p:=JL e
  subst e'
  exact⟨hb,q⟩
theorem Inv.pinned{pins:List (Addr×Obj)}{σ:St}{H:Hp}{s:Shared}{fp:List Addr}(I:Inv X pins σ H s)(hf:∀ b∈fp,FpOk X pins H b)(ho:∀ b∈fp,∃ o,s.heap.get? b=some o/\∀ v,o.data≠.cell v):Inv X (pins++vi fp s.heap) σ H s :=
 I.pins_of fun p hp=>(JA.mp hp).elim (fun z=>I.pin p (JK _ z)) fun z=>by
  obtain⟨hb,e⟩:=D3 z
  obtain⟨f0,f1,f2,_⟩:=hf p.1 hb
  obtain⟨o,e',d⟩:=ho p.1 hb
  rw[e]at e';cases e'
  exact⟨e,f0,f1,f2,d⟩
theorem Inv.unpinned{pins pl:List (Addr×Obj)}{σ:St}{H:Hp}{s:Shared}(I:Inv X (pins++pl) σ H s):Inv X pins σ H s:=I.pins_of fun p hp=>I.pin p (JK _ (Kh _ hp))
theorem bW{iter:Expr}{body:List Stmt}{wi:TI}{g:TG}{tb:TS}{pos:Pos}(hp:PassesOwn (model X.prog X.w) X.A X.env X.xe)(hc:X.calm=true)(hi:PI X tg iter wi)(hg:PG X tg g)(hb:PSs X body tb)
  (hs:∀ x,foldedSetIterable iter X.env x=pure x:=by intro _;rfl):PS X (.For tg iter body [] pos) (tFor wi g tb):=by
 intro pins s σ H D I h
 refine wpAny_For (thn (hi pins s σ H _ I h) fun v s1 h1=>thn h1 fun itv s2 h2=>?_) hs
 obtain⟨it,fp,tn,J,H2,e,I2,T,st2,f2,W,⟨m0,w0⟩,turn⟩:=h2
 subst e
 have stat:∀{H':Hp},(∀ b∈fp,H' b=none)->∀ b∈fp,FpOk X pins H' b:=fun hn b hb=>⟨hn b hb,(f2 b hb).2⟩
 refine codeAny_forLoop_any (fun n s'=>∃ i σ' H',Inv X pins σ' H' s'/\tn i s'.heap/\(∀ b∈fp,H' b=none)/\W i n σ' H') ?_ m0 ⟨0,σ,H2,I2,st2,fun b hb=>(f2 b hb).1,w0⟩
 rintro n s3 ⟨i,σ3,H3,I3,st3,fr3,w3⟩
 rcases turn i n σ3 H3 w3 with⟨stop,qn⟩ | ⟨go,N,hN,step⟩
 ·refine wpAny_passesOwn hp (thn (T.done X rfl rfl rfl hc i pins s3 σ3 H3 X.xe I3 (stat fr3) st3 stop) fun r s4 ⟨hr,I4⟩=>?_)
  subst hr
  exact wpAny_execs_nil ⟨σ3,H3,I4,qn⟩
 ·refine wpAny_passesOwn hp (thn (T.item X rfl rfl rfl hc i pins s3 σ3 H3 X.xe I3 (stat fr3) st3 go) fun r s4 ⟨u,hr,h4⟩=>?_)
  subst hr
  refine wpAny_passesOwn hp (thn h4 fun _ s5 ⟨x,H5,I5,r5,y5,st5,fr5⟩=>?_)
  have I5':=I5.pinned (stat fr5) (T.obj _ _ st5)
  refine wpAny_passesOwn hp (thn (hg _ s5 σ3 H5 x u _ I5' r5 (step x H5 y5)) fun _ s6 ⟨σ6,H6,I6,q6⟩=>?_)
  refine wpAny_passesOwn hp (thn (hb _ s6 σ6 H6 _ I6 q6) fun f s7 q7=>?_)
  have again:∀{σ7:St}{H7:Hp},Inv X (pins++vi fp s5.heap) σ7 H7 s7->N σ7 H7->∃ m,m<n/\∃ i σ' H',Inv X pins σ' H' s7/\tn i s7.heap/\(∀ b∈fp,H' b=none)/\W i m σ' H':=fun{σ7 H7} I7 n7=>by
   obtain⟨m',hm,w7⟩:=hN σ7 H7 n7
   refine⟨m',hm,i+1,σ7,H7,I7.unpinned,T.keep _ _ _ st5 fun b hb o e=>(I7.pin (b,o) (JK _ (JK _ (gz hb e)))).1,fun b hb=>?_,w7⟩
   obtain⟨o,e,d⟩:=T.obj _ _ st5 b hb
   exact(I7.pin (b,o) (JK _ (JK _ (gz hb e)))).2.1
  cases f with
  |next=>obtain⟨σ7,H7,I7,n7⟩:=q7;exact again I7 n7
  |cont=>obtain⟨σ7,H7,I7,n7⟩:=q7;exact again I7 n7
  |brk=>obtain⟨σ7,H7,I7,q7⟩:=q7;exact⟨σ7,H7,I7.unpinned,q7⟩
  |ret v=>obtain⟨x7,σ7,H7,I7,r7,q7⟩:=q7;exact⟨x7,σ7,H7,I7.unpinned,r7,q7⟩
end
theorem dj{K:Js}{a:Addr}{xs:List V}{g:TG}{tb:TS}{D:Ends}{σ:St}{H:Hp}(Pv:Nat->St->Hp->Prop)(h0:Pv 0 σ H)(hl:∀ i σ H,i<=xs.length->Pv i σ H->SqL K H a xs)
  (hs:∀ i x σ H,xs[i]?=some x->Pv i σ H->g x σ H fun σ2 H2=>tb { D with nx:=Pv (i+1),ct:=Pv (i+1),bk:=D.nx } σ2 H2) (hd:∀ σ H,Pv xs.length σ H->D.nx σ H) :
  ∃ W:Nat->Nat->St->Hp->Prop,(∃ m,W 0 m σ H)/\∀ i m σ H,W i m σ H ->
   ((Itl K a).stop i H/\D.nx σ H)∨((Itl K a).go i H/\∃ N:St->Hp->Prop,(∀ σ' H',N σ' H'->∃ m',m'<m/\W (i+1) m' σ' H')/\∀ x H',(Itl K a).yld i H x H'->g x σ H' fun σ2 H2=>tb { D with nx:=N,ct:=N,bk:=D.nx } σ2 H2):=by
 refine⟨fun i m σ H=>m=xs.length-i/\i<=xs.length/\Pv i σ H,⟨xs.length,by simp,Ku _,h0⟩,?_⟩
 rintro i m σ H ⟨rfl,hi,p⟩
 have q:=hl i σ H hi p
 by_cases hlt:i<xs.length
 ·refine .inr ⟨⟨xs,xs[i],q,by simp[hlt]⟩,Pv (i+1),fun σ' H' p'=>⟨xs.length-(i+1),by omega,rfl,hlt,p'⟩,fun x H' y=>?_⟩
  obtain⟨e,y⟩:=y
  subst e
  exact hs i x σ _ (y xs q) p
 ·have e:i=xs.length:=by omega
  subst e
  exact .inl ⟨⟨xs,q,Jw _⟩,hd σ H p⟩
theorem cK{lo:Int}{n:Nat}{g:TG}{tb:TS}{D:Ends}{σ:St}{H:Hp}(Pv:Nat->St->Hp->Prop)(h0:Pv 0 σ H)
  (hs:∀ i σ H,i<n->Pv i σ H->g (.int (lo+i)) σ H fun σ2 H2=>tb { D with nx:=Pv (i+1),ct:=Pv (i+1),bk:=D.nx } σ2 H2) (hd:∀ σ H,Pv n σ H->D.nx σ H) :
  ∃ W:Nat->Nat->St->Hp->Prop,(∃ m,W 0 m σ H)/\∀ i m σ H,W i m σ H ->
   ((Itr lo n).stop i H/\D.nx σ H)∨((Itr lo n).go i H/\∃ N:St->Hp->Prop,(∀ σ' H',N σ' H'->∃ m',m'<m/\W (i+1) m' σ' H')/\∀ x H',(Itr lo n).yld i H x H'->g x σ H' fun σ2 H2=>tb { D with nx:=N,ct:=N,bk:=D.nx } σ2 H2):=by
 refine⟨fun i m σ H=>m=n-i/\i<=n/\Pv i σ H,⟨n,by simp,Ku _,h0⟩,?_⟩
 rintro i m σ H ⟨rfl,hi,p⟩
 by_cases hlt:i<n
 ·refine .inr ⟨hlt,Pv (i+1),fun σ' H' p'=>⟨n-(i+1),by omega,rfl,hlt,p'⟩,fun x H' y=>?_⟩
  obtain⟨e,y⟩:=y
  subst e y
  exact hs i σ _ hlt p
 ·have e:i=n:=by omega
  subst e
  exact .inl ⟨Jw _,hd σ H p⟩
theorem AB{c:TT}{tb:TS}{D:Ends}{σ:St}{H:Hp}(Pv:St->Hp->Prop)(μ:St->Hp->Nat)(h0:Pv σ H)
  (hs:∀ σ H,Pv σ H->c σ H fun b H1=>if b=true then tb { D with nx:=fun σ' H'=>Pv σ' H'/\μ σ' H'<μ σ H,ct:=fun σ' H'=>Pv σ' H'/\μ σ' H'<μ σ H,bk:=D.nx } σ H1 else D.nx σ H1)
  (mono:∀ σ H Q Q',(∀ b H1,Q b H1->Q' b H1)->c σ H Q->c σ H Q'):G9 c tb D σ H:=by
 refine⟨fun m σ H=>m=μ σ H/\Pv σ H,⟨_,rfl,h0⟩,?_⟩
 rintro m σ H ⟨rfl,p⟩
 refine mono σ H _ _ (fun b H1 q=>?_) (hs σ H p)
 cases b with
 |true=>exact⟨_,fun σ' H' ⟨p',l⟩=>⟨_,l,rfl,p'⟩,q⟩
 |false=>exact q
end L2
namespace L2
open PySem PySem.Spec PyProof.Rows
abbrev R2:=V->V->Hp->VK->Prop
def OpR(X:Cx)(f:Value->Value->Sem Value)(r:R2):Prop :=
 ∀(pins:List (Addr×Obj))(s:Shared)(σ:St)(H:Hp)(x y:V)(v u:Value)(Q:VK),Inv X pins σ H s->RelV x v->RelV y u->r x y H Q ->
  wpAny (model X.prog X.w) X.A (f v u) (EP X pins σ Q) X.xe s
def UnR(X:Cx)(f:Value->Sem Value)(r:V->Hp->VK->Prop):Prop :=
 ∀(pins:List (Addr×Obj))(s:Shared)(σ:St)(H:Hp)(x:V)(v:Value)(Q:VK),Inv X pins σ H s->RelV x v->r x H Q ->
  wpAny (model X.prog X.w) X.A (f v) (EP X pins σ Q) X.xe s
def kY(X:Cx)(f:Value)(r:List V->Hp->VK->Prop):Prop :=
 ∀(pins:List (Addr×Obj))(s:Shared)(σ:St)(H:Hp)(xs:List V)(us:List Value)(Q:VK),Inv X pins σ H s->Vals xs us->r xs H Q ->
  wpAny (model X.prog X.w) X.A (call f us) (EP X pins σ Q) X.xe s
def tOp(r:R2)(ta tb:TE):TE:=fun σ H Q=>ta σ H fun x H1=>tb σ H1 fun y H2=>r x y H2 Q
def tUn(r:V->Hp->VK->Prop)(ta:TE):TE:=fun σ H Q=>ta σ H fun x H1=>r x H1 Q
def rI(C:Int->Int->Prop)(g:Int->Int->V):R2:=fun x y H Q=>∃ i j,x=.int i/\y=.int j/\C i j/\Q (g i j) H
def rI0(g:Int->Int->V):R2:=fun x y H Q=>∃ i j,x=.int i/\y=.int j/\Q (g i j) H
def rU(g:Int->V):V->Hp->VK->Prop:=fun x H Q=>∃ i,x=.int i/\Q (g i) H
section
variable{X:Cx}{a b c:Expr}{ta tb tc:TE}{pos:Pos}
theorem binT(ha:PE X a ta)(hb:PE X b tb){pins:List (Addr×Obj)}{s:Shared}{σ:St}{H:Hp}{R:V->V->Hp->Prop}(I:Inv X pins σ H s)
  (h:ta σ H fun x H1=>tb σ H1 fun y H2=>R x y H2) {Q:Value->Shared->Prop} {f:Value->Value->Sem Value}
  (hf:∀ v u s2 x y H2,Inv X pins σ H2 s2->RelV x v->RelV y u->R x y H2->wpAny (model X.prog X.w) X.A (f v u) Q X.xe s2) :
  wpAny (model X.prog X.w) X.A (eval a X.env) (fun v s₁=>wpAny (model X.prog X.w) X.A (eval b X.env) (fun u s₂=>wpAny (model X.prog X.w) X.A (f v u) Q X.xe s₂) X.xe s₁) X.xe s:=by
 refine thn (ha pins s σ H _ I h) fun v s1 ⟨x,H1,I1,r1,q1⟩=>?_
 refine thn (hb pins s1 σ H1 _ I1 q1) fun u s2 ⟨y,H2,I2,r2,q2⟩=>?_
 exact hf v u s2 x y H2 I2 r1 r2 q2
theorem av{op:Operator}{r:R2}(ho:OpR X (binaryOp op) r)(ha:PE X a ta)(hb:PE X b tb):PE X (.BinOp a op b pos) (tOp r ta tb):=by
 intro pins s σ H Q I h
 exact wpAny_BinOp (binT ha hb I h fun v u s2 x y H2 I2 rx ry q=>ho pins s2 σ H2 x y v u Q I2 rx ry q)
theorem pe_un{op:UnaryOp}{r:V->Hp->VK->Prop}(ho:UnR X (unaryOp op) r)(ha:PE X a ta):PE X (.UnaryOp op a pos) (tUn r ta):=by
 intro pins s σ H Q I h
 exact UnaryOp_ (thn (ha pins s σ H _ I h) fun v s1 ⟨x,H1,I1,r1,q1⟩=>ho pins s1 σ H1 x v Q I1 r1 q1)
theorem opI{f:Value->Value->Sem Value}{C:Int->Int->Prop}{g:Int->Int->Int}
  (rule:∀(i j:Int)(t u:Tok)(s:Shared)(Q:Value->Shared->Prop)(E:Value->Shared->Prop),C i j->Q (.int (g i j) s.toks) { s with toks:=s.toks+1 }->wpAny (model X.prog X.w) X.A (f (.int i t) (.int j u)) Q E s) :
  OpR X f (rI C fun i j=>.int (g i j)):=by
 intro pins s σ H x y v u Q I rx ry h
 obtain⟨i,j,rfl,rfl,hc,q⟩:=h
 obtain⟨t,rfl⟩:=rx
 obtain⟨t',rfl⟩:=ry
 exact rule i j t t' s _ _ hc ⟨.int (g i j),H,I.tok _,⟨_,rfl⟩,q⟩
theorem opI0{f:Value->Value->Sem Value}{g:Int->Int->Int}
  (rule:∀(i j:Int)(t u:Tok)(s:Shared)(Q:Value->Shared->Prop)(E:Value->Shared->Prop),Q (.int (g i j) s.toks) { s with toks:=s.toks+1 }->wpAny (model X.prog X.w) X.A (f (.int i t) (.int j u)) Q E s) :
  OpR X f (rI0 fun i j=>.int (g i j)):=by
 intro pins s σ H x y v u Q I rx ry h
 obtain⟨i,j,rfl,rfl,q⟩:=h
 obtain⟨t,rfl⟩:=rx
 obtain⟨t',rfl⟩:=ry
 exact rule i j t t' s _ _ ⟨.int (g i j),H,I.tok _,⟨_,rfl⟩,q⟩
theorem opB0{f:Value->Value->Sem Value}{g:Int->Int->Bool}
  (rule:∀(i j:Int)(t u:Tok)(s:Shared)(Q:Value->Shared->Prop)(E:Value->Shared->Prop),Q (.bool (g i j)) s->wpAny (model X.prog X.w) X.A (f (.int i t) (.int j u)) Q E s) :
  OpR X f (rI0 fun i j=>.bl (g i j)):=by
 intro pins s σ H x y v u Q I rx ry h
 obtain⟨i,j,rfl,rfl,q⟩:=h
 obtain⟨t,rfl⟩:=rx
 obtain⟨t',rfl⟩:=ry
 exact rule i j t t' s _ _ ⟨.bl (g i j),H,I,rfl,q⟩
def CDiv(i j:Int):Prop:=0<j/\j<1073741824
def CPow(i j:Int):Prop:=0<=j/\j<=1000000/\i.natAbs<2^64
def CMul(i j:Int):Prop:=(-(2^64)<i/\i<2^64)∨(-(2^64)<j/\j<2^64)
theorem CMul.ok{i j:Int}(h:CMul i j):IntMulOk i j:=by
 rcases h with⟨h1,h2⟩ | ⟨h1,h2⟩
 ·exact .of_left (intBits_le_64 h1 h2)
 ·exact .of_right (intBits_le_64 h1 h2)
theorem Bv(k:Nat):(0:Int)<=2^k:=by
 rw[two_pow_cast]
 exact MP _
theorem bA:OpR X (binaryOp .Add) (rI0 fun i j=>.int (i+j)):=opI0 fun _ _ _ _ _ _ _ q=>add_int q
theorem mD:OpR X (binaryOp .Sub) (rI0 fun i j=>.int (i-j)):=opI0 fun _ _ _ _ _ _ _ q=>sub_int q
theorem fj:OpR X (binaryOp .Mult) (rI CMul fun i j=>.int (i*j)):=opI fun _ _ _ _ _ _ _ hc q=>mul_int q hc.ok
theorem cE:OpR X (binaryOp .FloorDiv) (rI CDiv fun i j=>.int (i/j)):=opI fun i j _ _ _ _ _ hc q=>by
 have h1:(0:Int)<j:=hc.1
 have h2:j<1073741824:=hc.2
 exact floordiv_int (by omega) (by rw[Nc i (by omega)];exact q) (.inl (PyProof.noPylong_small (by omega)))
theorem bD:OpR X (binaryOp .Mod) (rI (fun _ j=>0<j) fun i j=>.int (i%j)):=opI fun i j _ _ _ _ _ hc q=>by
 have h1:(0:Int)<j:=hc
 exact mod_int' (by omega) (by rw[Int.fmod_eq_emod_of_nonneg i (by omega)];exact q)
theorem op_pow:OpR X (binaryOp .Pow) (rI CPow fun i j=>.int (i^j.toNat)):=opI fun _ _ _ _ _ _ _ hc q=>pow_int_small hc.1 hc.2.1 hc.2.2 q
theorem mF:OpR X (binaryOp .LShift) (rI CPow fun i j=>.int (i*2^j.toNat)):=opI fun _ _ _ _ _ _ _ hc q=>lshift_int_small hc.1 hc.2.1 hc.2.2 q
theorem AX:OpR X (binaryOp .RShift) (rI (fun _ j=>0<=j) fun i j=>.int (i/2^j.toNat)):=opI fun i j _ _ _ _ _ hc q =>
 rshift_int hc (by rw[Nc i (Bv _)];exact q)
theorem AY:OpR X (binaryOp .BitAnd) (rI0 fun i j=>.int (Builtin.bitAnd i j)):=opI0 fun _ _ _ _ _ _ _ q=>and_int q
theorem op_or:OpR X (binaryOp .BitOr) (rI0 fun i j=>.int (Builtin.bitOr i j)):=opI0 fun _ _ _ _ _ _ _ q=>or_int q
theorem vm:OpR X (binaryOp .BitXor) (rI0 fun i j=>.int (Builtin.bitXor i j)):=opI0 fun _ _ _ _ _ _ _ q=>xor_int q
theorem unI{f:Value->Sem Value}{g:Int->Int}
  (rule:∀(i:Int)(t:Tok)(s:Shared)(Q:Value->Shared->Prop)(E:Value->Shared->Prop),Q (.int (g i) s.toks) { s with toks:=s.toks+1 }->wpAny (model X.prog X.w) X.A (f (.int i t)) Q E s) :
  UnR X f (rU fun i=>.int (g i)):=by
 intro pins s σ H x v Q I rx h
 obtain⟨i,rfl,q⟩:=h
 obtain⟨t,rfl⟩:=rx
 exact rule i t s _ _ ⟨.int (g i),H,I.tok _,⟨_,rfl⟩,q⟩
theorem un_neg:UnR X (unaryOp .USub) (rU fun i=>.int (-i)):=unI fun _ _ _ _ _ q=>neg_int q
end
def scal:V->V->Bool
 |.non,.non=>true | .non,.int _=>true | .int _,.non=>true | .non,.bl _=>true | .bl _,.non=>true | .non,.str _=>true | .str _,.non=>true
 |.int _,.int _=>true | .bl _,.bl _=>true | .str _,.str _=>true | .byt _,.byt _=>true
 |.int _,.str _=>true | .str _,.int _=>true | .bl _,.str _=>true | .str _,.bl _=>true
 |_,_=>false
def rEq:R2:=fun x y H Q=>scal x y=true/\Q (.bl (decide (x=y))) H
def rNe:R2:=fun x y H Q=>scal x y=true/\Q (.bl (!decide (x=y))) H
theorem EO{i j:Int}:decide (V.int i=V.int j)=(i == j):=by
 rw[My]
 simp
theorem Hr{i j:Bool}:decide (V.bl i=V.bl j)=(i == j):=by
 rw[My]
 simp
theorem EN{i j:Str}:decide (V.str i=V.str j)=(i == j):=by
 rw[My]
 simp
theorem ER{i j:Array UInt8}:decide (V.byt i=V.byt j)=(i.toList == j.toList):=by
 rw[My]
 cases i
 cases j
 simp
section
variable{X:Cx}{a b c:Expr}{ta tb tc:TE}{pos:Pos}
theorem bb{pins:List (Addr×Obj)}{σ:St}{H:Hp}{s:Shared}{Q:VK}{k k':Bool}(I:Inv X pins σ H s)(q:Q (.bl k) H)(e:k=k'):EP X pins σ Q (.bool k') s:=by
 subst e
 exact⟨.bl k,H,I,rfl,q⟩
theorem oI:OpR X (compareOp .Eq) rEq:=by
 intro pins s σ H x y v u Q I rx ry h
 obtain⟨hs,q⟩:=h
 cases x with
 |non =>
  cases rx
  cases y with
  |non=>cases ry;exact PySem.EqNone.eq_none_none (bb I q (by simp))
  |bl j=>cases ry;exact PySem.EqNone.eq_none_bool (bb I q (by simp))
  |int j=>obtain⟨t',rfl⟩:=ry;exact PySem.EqNone.eq_none_int (bb I q (by simp))
  |str j=>obtain⟨t',rfl⟩:=ry;exact PySem.EqNone.eq_none_str (bb I q (by simp))
  |_=>exact absurd (show false=true from hs) JZ
 |bl i =>
  cases rx
  cases y with
  |non=>cases ry;exact PySem.EqNone.eq_bool_none (bb I q (by simp))
  |bl j=>cases ry;exact eq_bool (bb I q Hr)
  |str j=>obtain⟨t',rfl⟩:=ry;exact PySem.EqMixed.eq_bool_str (bb I q (by simp))
  |_=>exact absurd (show false=true from hs) JZ
 |int i =>
  obtain⟨t,rfl⟩:=rx
  cases y with
  |non=>cases ry;exact PySem.EqNone.eq_int_none (bb I q (by simp))
  |int j=>obtain⟨t',rfl⟩:=ry;exact eq_int (bb I q EO)
  |str j=>obtain⟨t',rfl⟩:=ry;exact PySem.EqMixed.eq_int_str (bb I q (by simp))
  |_=>exact absurd (show false=true from hs) JZ
 |str i =>
  obtain⟨t,rfl⟩:=rx
  cases y with
  |non=>cases ry;exact PySem.EqNone.eq_str_none (bb I q (by simp))
  |bl j=>cases ry;exact PySem.EqMixed.eq_str_bool (bb I q (by simp))
  |int j=>obtain⟨t',rfl⟩:=ry;exact PySem.EqMixed.eq_str_int (bb I q (by simp))
  |str j=>obtain⟨t',rfl⟩:=ry;exact eq_str (bb I q EN)
  |_=>exact absurd (show false=true from hs) JZ
 |byt i =>
  obtain⟨t,rfl⟩:=rx
  cases y with
  |byt j=>obtain⟨t',rfl⟩:=ry;exact PySem.W.eq_bytes (bb I q ER)
  |_=>exact absurd (show false=true from hs) JZ
 |_=>cases y<;>exact absurd (show false=true from hs) JZ
theorem nt:OpR X (compareOp .NotEq) rNe:=by
 intro pins s σ H x y v u Q I rx ry h
 obtain⟨hs,q⟩:=h
 cases x with
 |non =>
  cases rx
  cases y with
  |non=>cases ry;exact PySem.EqNone.ne_none_none (bb I q (by simp))
  |bl j=>cases ry;exact PySem.EqNone.ne_none_bool (bb I q (by simp))
  |int j=>obtain⟨t',rfl⟩:=ry;exact PySem.EqNone.ne_none_int (bb I q (by simp))
  |str j=>obtain⟨t',rfl⟩:=ry;exact PySem.EqNone.ne_none_str (bb I q (by simp))
  |_=>exact absurd (show false=true from hs) JZ
 |bl i =>
  cases rx
  cases y with
  |non=>cases ry;exact PySem.EqNone.ne_bool_none (bb I q (by simp))
  |bl j=>cases ry;exact ne_bool (bb I q (congrArg not Hr))
  |str j=>obtain⟨t',rfl⟩:=ry;exact PySem.EqMixed.ne_bool_str (bb I q (by simp))
  |_=>exact absurd (show false=true from hs) JZ
 |int i =>
  obtain⟨t,rfl⟩:=rx
  cases y with
  |non=>cases ry;exact PySem.EqNone.ne_int_none (bb I q (by simp))
  |int j=>obtain⟨t',rfl⟩:=ry;exact ne_int (bb I q (congrArg not EO))
  |str j=>obtain⟨t',rfl⟩:=ry;exact PySem.EqMixed.ne_int_str (bb I q (by simp))
  |_=>exact absurd (show false=true from hs) JZ
 |str i =>
  obtain⟨t,rfl⟩:=rx
  cases y with
  |non=>cases ry;exact PySem.EqNone.ne_str_none (bb I q (by simp))
  |bl j=>cases ry;exact PySem.EqMixed.ne_str_bool (bb I q (by simp))
  |int j=>obtain⟨t',rfl⟩:=ry;exact PySem.EqMixed.ne_str_int (bb I q (by simp))
  |str j=>obtain⟨t',rfl⟩:=ry;exact ne_str (bb I q (congrArg not EN))
  |_=>exact absurd (show false=true from hs) JZ
 |byt i =>
  obtain⟨t,rfl⟩:=rx
  cases y with
  |byt j=>obtain⟨t',rfl⟩:=ry;exact PySem.W.ne_bytes (bb I q (congrArg not ER))
  |_=>exact absurd (show false=true from hs) JZ
 |_=>cases y<;>exact absurd (show false=true from hs) JZ
theorem sQ:OpR X (compareOp .Lt) (rI0 fun i j=>.bl (decide (i<j))):=opB0 fun _ _ _ _ _ _ _ q=>lt_int q
theorem op_gt:OpR X (compareOp .Gt) (rI0 fun i j=>.bl (decide (j<i))):=opB0 fun _ _ _ _ _ _ _ q=>gt_int q
theorem vn:OpR X (compareOp .GtE) (rI0 fun i j=>.bl (decide (j<=i))):=opB0 fun _ _ _ _ _ _ _ q=>ge_int q
theorem Ig:OpR X (compareOp .IsNot) (fun x y H Q=>y=.non/\Q (.bl (!decide (x=.non))) H):=by
 intro pins s σ H x y v u Q I rx ry h
 obtain⟨rfl,q⟩:=h
 cases ry
 refine isnot_none_gen (bb I q ?_)
 cases x<;>first
  | (cases rx;rfl)
  | (obtain⟨t,rfl⟩:=rx;rfl)
theorem aN(b:Expr){op:CmpOp}(h:op≠.In:=by decide)(h2:op≠.NotIn:=by decide):behindInMarks op b=false:=by
 have e1:(op == CmpOp.In)=false:=by cases op<;>first | rfl | exact absurd rfl h
 have e2:(op == CmpOp.NotIn)=false:=by cases op<;>first | rfl | exact absurd rfl h2
 cases b<;>simp[behindInMarks,e1,e2]
theorem sP{op:CmpOp}{r:R2}(ho:OpR X (compareOp op) r)(ha:PE X a ta)(hb:PE X b tb)(hm:behindInMarks op b=false):PE X (.Compare a [op] [b] pos) (tOp r ta tb):=by
 intro pins s σ H Q I h
 exact wpAny_Compare1 (binT ha hb I h fun v u s2 x y H2 I2 rx ry q=>ho pins s2 σ H2 x y v u Q I2 rx ry q) hm
def tTest(t:TE):TT:=fun σ H Q=>t σ H fun x H'=>∃ k,x=.bl k/\Q k H'
theorem aF{op:CmpOp}{r:R2}(ho:OpR X (compareOp op) r)(ha:PE X a ta)(hb:PE X b tb)(hm:behindInMarks op b=false):PT X (.Compare a [op] [b] pos) (tTest (tOp r ta tb)):=by
 intro pins s σ H Q I h
 refine wpAny_isTrue_Compare1 (thn (ha pins s σ H _ I h) fun v s1 ⟨x,H1,I1,r1,q1⟩=>thn (hb pins s1 σ H1 _ I1 q1) fun u s2 ⟨y,H2,I2,r2,q2⟩ =>
  thn (ho pins s2 σ H2 x y v u _ I2 r1 r2 q2) fun c s3 ⟨z,H3,I3,r3,k,e,q3⟩=>?_) hm
 subst e
 cases r3
 exact wpAny_truthy_bool ⟨H3,I3,q3⟩
theorem qZ:(sizeLine:Nat)<2^63:=by rw[sizeLine_eq];decide
theorem rQ{x:V}{us:List Value}(r:Vals [x] us):∃ u,us = [u]/\RelV x u:=by
 cases r with
 |cons r1 r2=>cases r2;exact⟨_,rfl,r1⟩
theorem vals2{x y:V}{us:List Value}(r:Vals [x,y] us):∃ u w',us = [u,w']/\RelV x u/\RelV y w':=by
 cases r with
 |cons r1 r2 =>
  cases r2 with
  |cons r3 r4=>cases r4;exact⟨_,_,rfl,r1,r3⟩
theorem wM(hc:X.calm=true):kY X (.builtin "max") (fun xs H Q=>∃ i j,xs = [.int i,.int j]/\Q (.int (if j > i then j else i)) H):=by
 intro pins s σ H xs us Q I r h
 obtain⟨i,j,rfl,q⟩:=h
 obtain⟨u,w',rfl,⟨t,rfl⟩,⟨t',rfl⟩⟩:=vals2 r
 refine max_two_ints (I.ok.hd hc) fun h' tk k=>⟨_,H,I.kept k,?_,q⟩
 by_cases hj:j > i
 ·rw[if_pos hj,if_pos hj];exact⟨_,rfl⟩
 ·rw[if_neg hj,if_neg hj];exact⟨_,rfl⟩
end
end L2
namespace L2
open PySem PySem.Spec PyProof.Rows
structure ObjM(h:Heap)(x dx C:Addr)(mA:Str->Option Value):Prop where
 obj:h.get? x=some (Lm C dx)
 ns:h.Ns1 dx mA
 ne:dx≠x
theorem Ei{h:Heap}{dx:Addr}{mA:Str->Option Value}(n:h.Ns1 dx mA):∃ od,h.get? dx=some od/\∀ name,MF name od=some (mA name):=by
 obtain⟨o,es,ep,ho,hd,hk,_,hm⟩:=n
 refine⟨o,ho,fun name=>?_⟩
 have e:=hm name
 unfold nsFind findBy at e
 rw[← Array.find?_toList]at e
 unfold MF
 rw[hd]
 dsimp only
 split
 ·rename_i y q
  rw[q]at e
  exact congrArg some e
 ·rename_i q
  rw[q]at e
  have a:es.toList.any (·.refKey)=false:=by
   rw[List.any_eq_false]
   intro y hy
   obtain⟨z,t,hkey⟩:=hk y (Array.mem_toList_iff.mp hy)
   simp[DictEntry.refKey,hkey]
  have a':¬ es.toList.any (·.refKey)=true:=by rw[a];exact JZ
  rw[if_neg a']
  exact congrArg some e
theorem ObjM.look{h:Heap}{x dx C:Addr}{mA:Str->Option Value}(I:ObjM h x dx C mA):∃ od,PySem.W.InstAt h x (Lm C dx) C (some od)/\∀ name,MF name od=some (mA name) :=
 let ⟨od,ho,hl⟩:=Ei I.ns
 ⟨od,⟨I.obj,rfl,rfl,ho⟩,hl⟩
section
variable{prog:Program}{w:World}{A:Around}{E:Value->Shared->Prop}{s:Shared}{K:Js}{x dx C f:Addr}{mA:Str->Option Value}{name:Str}{v:Value}
theorem IS{expr:Bool}{Q:Value->Shared->Prop}(X:K.In s.heap)(I:ObjM s.heap x dx C mA)(hg:Lr K C name=true)(hh:LB K C=true)
  (ha:JU K (.ref C) name=some none) (hv:mA name=some v) (hv':PySem.W.handedIn v=true) (h:Q v { s with toks:=s.toks+1 }) :
  wpAny (model prog w) A (getAttr (.ref x) name expr) Q E s:=by
 obtain⟨od,J,hl⟩:=I.look
 exact PySem.W.get_value X J (MJ hg).1 (PySem.W.findObj_own hh ha rfl (by rw[hl,hv])) hv' h
theorem GD{pl:Sem Bool}{Q:Value×List Value->Shared->Prop}(X:K.In s.heap)(I:ObjM s.heap x dx C mA)(hg:Lr K C name=true)
  (hf:JU K (.ref C) name=some (some (.ref f))) (ht:Lw K (.ref f)=true) (hv:mA name=none) (h:Q (.ref f,[.ref x]) s) :
  wpAny (model prog w) A (getMethod (.ref x) name pl) Q E s:=by
 obtain⟨od,J,hl⟩:=I.look
 exact PySem.W.method_fn X J (MJ hg).1 (MJ hg).2 hf (beq_iff_eq.mp ht) (by show(MF name od).map (·.isSome)=some false;rw[hl,hv];rfl) h
theorem HR{ns:List Str}{Q:Unit->Shared->Prop}(X:K.In s.heap)(I:ObjM s.heap x dx C mA)
  (hs:JU K (.ref C) "__setattr__" = some (some (.builtin "object.__setattr__"))) (hp:LN K C=true) (ht:M3 K C name=some none) (hh:LB K C=true)
  (hw:PySem.Within mA ns) (hsz:ns.length<=sizeLine)
  (h:∀ h',ObjM h' x dx C (fun y=>if y=name then some v else mA y)->Heap.SameBut dx s.heap h'->Q () { s with heap:=h',toks:=s.toks+2 }) :
  wpAny (model prog w) A (setAttr (.ref x) name v) Q E s:=by
 obtain⟨od,J,hl⟩:=I.look
 refine PySem.W.set_plain X J hs (PySem.W.osa_open (s:={ s with toks:=s.toks+1 }) (r:=none) X J hp ht fun b=>?_)
 obtain⟨cd,hc,hd'⟩:=PySem.W.any_some hh
 have hx:s.heap.get? x=some ⟨.ref C,some dx,.plain,#[]⟩:=I.obj
 refine wpAny_bind (wpAny_pure (wpAny_bind (wpAny_bind (wpAny_loadPart hx (wpAny_bind (PySem.W.Looks.here (s:={ s with toks:=s.toks+1 }) (PySem.W.looks_clsIn X hc) ?_))))))
 rw[hd']
 refine wpAny_pure (a:=some dx) (wpAny_bind (wpAny_pure (wpAny_bind ?_)))
 refine wpAny_nsSet1 (s:={ s with toks:=s.toks+1 }) I.ns fun h' hn2 hs2=>?_
 obtain⟨oD,esD,epD,hoD,hdD,hcD⟩:=hn2.count (PySem.Within.cons name v hw)
 refine wpAny_bind (wpAny_lookBehind hoD (by rw[hdD];exact pastItsLine_dict (Ky hcD (by rw[J2];omega))) ?_)
 exact wpAny_pure (h _ ⟨(hs2.2 _ (Ne.symm I.ne)).trans I.obj,hn2,I.ne⟩ hs2)
theorem Gj{R:Result->Shared->Prop}{vs:List Value}{kw:List (Str×Value)}(X:K.In s.heap)(hm:LZ K C=true)
  (hi:JU K (.ref C) "__init__" = some (some (.ref f))) (hf:PySem.W.typeIn K (.ref f)=some (.type "function"))
  (h:codeAny (model prog w) (A.under (.builtin "type.__call__" ⟨.ref C::vs,kw⟩)) (.call (.ref f) ⟨.ref (s.heap.objs.size+1)::vs,kw⟩) (PySem.W.InitBack (s.heap.objs.size+1) R)
   { s with heap:=(s.heap.push K3).push (Lm C s.heap.objs.size) }) :
  codeAny (model prog w) A (.call (.ref C) ⟨vs,kw⟩) R s:=by
 obtain⟨hh,g,d,t,os⟩:=s
 exact PySem.W.make_core (PySem.W.makes_of X hm) (PySem.W.looks_findIn X hi) (fun self=>PySem.W.bind_fn X self hf) (.inl rfl) h
end
def putF(f:Str)(v:V):List (Str×V)->List (Str×V)
 |[]=>[(f,v)]
 | (g,x)::r=>if g=f then(g,v)::r else(g,x)::putF f v r
theorem aw(f g:Str)(v:V):∀ fs:List (Str×V),(putF f v fs).lookup g=if g=f then some v else fs.lookup g
 |[]=>by
  show L3 g [(f,v)]=_
  by_cases h:g=f
  ·have hb:(g == f)=true:=beq_iff_eq.mpr h
   simp only[L3,hb,if_pos h]
  ·have hb:(g == f)=false:=beq_eq_false_iff_ne.mpr h
   simp only[L3,hb,if_neg h]
 | (k,x)::r=>by
  have ih:=aw f g v r
  rw[show putF f v ((k,x)::r)=(if k=f then(k,v)::r else(k,x)::putF f v r) from rfl]
  by_cases hk:k=f
  ·rw[if_pos hk]
   by_cases h:g=k
   ·have hb:(g == k)=true:=beq_iff_eq.mpr h
    simp only[L3,hb,if_pos (h.trans hk)]
   ·have hb:(g == k)=false:=beq_eq_false_iff_ne.mpr h
    simp only[L3,hb,if_neg (fun e:g=f=>h (e.trans hk.symm))]
  ·rw[if_neg hk]
   by_cases h:g=k
   ·have hb:(g == k)=true:=beq_iff_eq.mpr h
    simp only[L3,hb,if_neg (fun e:g=f=>hk (h.symm.trans e))]
   ·have hb:(g == k)=false:=beq_eq_false_iff_ne.mpr h
    simp only[L3,hb]
    exact ih
theorem pf(f:Str)(v:V):∀ fs:List (Str×V),f∈(putF f v fs).map (·.1)/\∀ g,g∈fs.map (·.1)->g∈(putF f v fs).map (·.1)
 |[]=>⟨by simp[putF],fun g h=>by simp at h⟩
 | (k,x)::r=>by
  obtain⟨i1,i2⟩:=pf f v r
  rw[show putF f v ((k,x)::r)=(if k=f then(k,v)::r else(k,x)::putF f v r) from rfl]
  by_cases hk:k=f
  ·rw[if_pos hk]
   subst hk
   exact⟨by simp,fun g h=>by simpa using h⟩
  ·rw[if_neg hk]
   refine⟨?_,fun g h=>?_⟩
   ·rw[Kl]
    exact JB _ i1
   ·rw[Kl]at h ⊢
    rcases Ju.mp h with e | e
    ·exact Ju.mpr (.inl e)
    ·exact JB _ (i2 g e)
theorem oU(f:Str)(v:V):∀ fs:List (Str×V),(putF f v fs).length<=fs.length+1
 |[]=>by simp[putF]
 | (k,x)::r=>by
  have ih:=oU f v r
  rw[show putF f v ((k,x)::r)=(if k=f then(k,v)::r else(k,x)::putF f v r) from rfl]
  by_cases hk:k=f
  ·rw[if_pos hk,J2,J2];omega
  ·rw[if_neg hk,J2,J2];omega
theorem RelO.some_of{v:V}{o:Option Value}(r:RelO (some v) o):∃ u,o=some u/\RelV v u:=by
 cases o with
 |none=>exact(show False from r).elim
 |some u=>exact⟨u,rfl,r⟩
theorem RelO.none_of{o:Option Value}(r:RelO none o):o=none:=by
 cases o with
 |none=>rfl
 |some u=>exact(show False from r).elim
theorem EI{v:V}{u:Value}(r:RelV v u):PySem.W.handedIn u=true:=by
 cases v with
 |non=>cases (show u=Value.none from r);rfl
 |bl b=>cases (show u=Value.bool b from r);rfl
 |int i=>obtain⟨t,e⟩:=(show ∃ t,u=Value.int i t from r);cases e;rfl
 |str x=>obtain⟨t,e⟩:=(show ∃ t,u=Value.str x t from r);cases e;rfl
 |byt b=>obtain⟨t,e⟩:=(show ∃ t,u=Value.bytes b t from r);cases e;rfl
 |flt b=>obtain⟨t,e⟩:=(show ∃ t,u=Value.float b t from r);cases e;rfl
 |ref a=>cases (show u=Value.ref a from r);rfl
 |ty n=>cases (show u=Value.type n from r);rfl
section
variable{P:Program}{w:World}{H H':Hp}{h h':Heap}{a C dx:Addr}{fs fs':List (Str×V)}
theorem tU(hok:HOk P w H h)(e:H a=some (.ins C dx fs)):∃ mA,ObjM h a dx C mA/\(∀ f,RelO (fs.lookup f) (mA f))/\PySem.Within mA (fs.map (·.1))/\fs.length<=1000/\H dx=some (.own a):=by
 obtain⟨d,z,ne,ob,mA,n,r,q⟩:=(show bI P w H h a (.ins C dx fs) from hok a _ e)
 exact⟨mA,⟨ob,n,ne⟩,r,q,z,d⟩
end
structure Cls(K:Js)(C:Addr):Prop where
 pg:Lr K C Str.empty=true
 hd:LB K C=true
 po:LN K C=true
 sa:JU K (.ref C) "__setattr__" = some (some (.builtin "object.__setattr__"))
theorem Cls.get{K:Js}{C:Addr}(c:Cls K C)(f:Str):Lr K C f=true:=c.pg
def fP(K:Js)(C:Addr)(f:Str):Prop:=JU K (.ref C) f=some none
theorem fP.taker{K:Js}{C:Addr}{f:Str}(n:fP K C f):M3 K C f=some none:=by
 unfold M3
 rw[show JU K (.ref C) f=some none from n]
 rfl
structure Meth(K:Js)(C:Addr)(m:Str)(f:Addr):Prop where
 at_:JU K (.ref C) m=some (some (.ref f))
 fn:Lw K (.ref f)=true
 kp:JG K (.ref f)=true
section
variable{X:Cx}{pins:List (Addr×Obj)}{σ:St}{H:Hp}{s:Shared}{a C dx:Addr}{fs:List (Str×V)}{f:Str}{v:V}{A:Around}{E:Value->Shared->Prop}
theorem Cn{b:Bool}{Q:Value->Shared->Prop}(I:Inv X pins σ H s)(e:H a=some (.ins C dx fs))(c:Cls X.K C)(n:fP X.K C f)(l:fs.lookup f=some v)
  (h:∀ u s',Inv X pins σ H s'->RelV v u->Q u s'):wpAny (model X.prog X.w) A (getAttr (.ref a) f b) Q E s:=by
 obtain⟨mA,O,r,_,_,_⟩:=tU I.hok e
 obtain⟨u,hu,ru⟩:=RelO.some_of (v:=v) (o:=mA f) (by rw[← l];exact r f)
 exact IS I.kIn O (c.get f) c.hd n hu (EI ru) (h u _ (I.tok _) ru)
theorem q9{m:Str}{g:Addr}{pl:Sem Bool}{Q:Value×List Value->Shared->Prop}(I:Inv X pins σ H s)(e:H a=some (.ins C dx fs))(c:Cls X.K C)(k:Meth X.K C m g)(l:fs.lookup m=none)
  (h:Q (.ref g,[.ref a]) s):wpAny (model X.prog X.w) A (getMethod (.ref a) m pl) Q E s:=by
 obtain⟨mA,O,r,_,_,_⟩:=tU I.hok e
 have hn:mA m=none:=RelO.none_of (by rw[← l];exact r m)
 exact GD I.kIn O (c.get m) k.at_ k.fn hn h
theorem BD{y:V}{u:Value}{Q:Unit->Shared->Prop}(I:Inv X pins σ H s)(e:H a=some (.ins C dx fs))(c:Cls X.K C)(n:fP X.K C f)(hl:fs.length<1000)(ry:RelV y u)
  (h:∀ s',Inv X pins σ (upd H a (.ins C dx (putF f y fs))) s'->Q () s'):wpAny (model X.prog X.w) A (setAttr (.ref a) f u) Q E s:=by
 obtain⟨mA,O,r,wi,_,ho⟩:=tU I.hok e
 have hz:(fs.map (·.1)).length<=sizeLine:=by rw[Jr,sizeLine_eq];omega
 refine HR I.kIn O c.sa c.po n.taker c.hd wi hz fun h' O' sb=>h _ ?_
 have hd:∃ o,h'.get? dx=some o:=let ⟨o,_,_,e',_⟩:=O'.ns;⟨o,e'⟩
 refine I.write (x:=a) (e:=dx) (by rw[e];exact True.intro) (.inr ho) (fun b q hb z=>(sb.2 b hb).trans z) hd ?_
 refine⟨by rw[ak O.ne];exact ho,?_,O.ne,O'.obj,_,O'.ns,fun g=>?_,fun g hg=>?_⟩
 ·have:=oU f y fs;omega
 ·show RelO ((putF f y fs).lookup g) (if g=f then some u else mA g)
  rw[aw]
  by_cases q:g=f
  ·rw[if_pos q,if_pos q];exact ry
  ·rw[if_neg q,if_neg q];exact r g
 ·by_cases q:g=f
  ·rw[q];exact(pf f y fs).1
  ·refine(pf f y fs).2 g (wi g fun z=>hg ?_)
   show(if g=f then some u else mA g)=none
   rw[if_neg q];exact z
theorem Inv.made(I:Inv X pins σ H s):Inv X pins σ (upd (upd H s.heap.objs.size (.own (s.heap.objs.size+1))) (s.heap.objs.size+1) (.ins C s.heap.objs.size []))
  { s with heap:=(s.heap.push K3).push (Lm C s.heap.objs.size) }:=by
 have e1:(s.heap.push K3).get? s.heap.objs.size=some K3:=Heap.get?_push_size s.heap rfl
 have e2:((s.heap.push K3).push (Lm C s.heap.objs.size)).get? (s.heap.objs.size+1)=some (Lm C s.heap.objs.size):=by
  have:=Heap.get?_push_size (s.heap.push K3) (o:=Lm C s.heap.objs.size) rfl
  rwa[Heap.size_push]at this
 have e3:(s.heap.push K3).Ns s.heap.objs.size (fun _=>none):=⟨K3,#[],_,e1,rfl,(fun e he=>absurd he (by simp)),fun _=>rfl⟩
 have I1:=I.laid (a:=s.heap.objs.size) (o:=.own (s.heap.objs.size+1)) (h':=s.heap.push K3) (t':=s.toks) (fun b u q=>Heap.get?_push_of_some _ q) (Jw _) ⟨_,e1⟩
 refine I1.laid (a:=s.heap.objs.size+1) (o:=.ins C s.heap.objs.size []) (t':=s.toks) (fun b u q=>Heap.get?_push_of_some _ q) (Nat.le_of_eq (Heap.size_push _ _)) ?_
 have ne:s.heap.objs.size≠s.heap.objs.size+1:=JN (KA _)
 refine⟨by rw[ak ne,ae],Ku _,ne,e2,fun _=>none,(Heap.Ns1.of_empty e3).at fun o q=>Heap.get?_push_of_some _ q,fun _=>True.intro,fun y hy=>absurd rfl hy⟩
theorem Jj{prog:Program}{w:World}{env:Env}{e:Expr}{f:Str}{pos:Pos}{s:Shared}{Q:Value->Shared->Prop}(hb:attributeBase e f env (eval e env)=eval e env)
  (h:wpAny (model prog w) A (eval e env) (fun o s₁=>wpAny (model prog w) A (getAttr o f true) Q E s₁) E s):wpAny (model prog w) A (eval (.Attribute e f pos) env) Q E s :=
 Attribute_any_ h (by rw[arm_eval_Attribute,hb])
end
def tFld(K:Js)(ta:TE)(f:Str):TE:=fun σ H Q=>ta σ H fun x H1=>∃ a C dx fs v,x=.ref a/\H1 a=some (.ins C dx fs)/\Cls K C/\fP K C f/\fs.lookup f=some v/\Q v H1
def sFld(K:Js)(ta tv:TE)(f:Str):TS:=fun D σ H=>tv σ H fun y H1=>ta σ H1 fun x H2=>∃ a C dx fs,x=.ref a/\H2 a=some (.ins C dx fs)/\Cls K C/\fP K C f/\fs.length<1000 /\
 D.nx σ (upd H2 a (.ins C dx (putF f y fs)))
section
variable{X:Cx}{o e value:Expr}{f:Str}{pos pos' tpos:Pos}{ta tv:TE}
theorem eF(he:PE X e ta)(hb:attributeBase e f X.env (eval e X.env)=eval e X.env):PE X (.Attribute e f pos) (tFld X.K ta f):=by
 intro pins s σ H Q I h
 refine Jj hb (thn (he pins s σ H _ I h) fun u s1 ⟨x,H1,I1,rx,a,C,dx,fs,v,ex,ea,c,n,l,q⟩=>?_)
 subst ex
 obtain rfl:u=Value.ref a:=rx
 exact Cn I1 ea c n l fun u' s2 I2 ru=>⟨v,H1,I2,ru,q⟩
theorem mC(ha:PE X o ta)(hv:PE X value tv)(hs:swapsWith value (some (.Attribute o f pos')) pos.line X.env=pure false):PS X (.Assign [.Attribute o f pos'] value pos) (sFld X.K ta tv f):=by
 intro pins s σ H D I h
 refine plainObj_wpAny_Assign_Attribute (thn (hv pins s σ H _ I h) fun u s1 ⟨y,H1,I1,ry,q⟩=>thn (ha pins s1 σ H1 _ I1 q) fun ov s2 ⟨x,H2,I2,rx,a,C,dx,fs,ex,ea,c,n,l,q2⟩=>?_) hs
 subst ex
 obtain rfl:ov=Value.ref a:=rx
 exact BD I2 ea c n l ry fun s3 I3=>⟨σ,_,I3,q2⟩
end
section
variable{X:Cx}{pins:List (Addr×Obj)}{σ:St}{H:Hp}{s:Shared}{A:Around}{E:Value->Shared->Prop}{Q:Value->Shared->Prop}{c:Value}{b:Bool}
inductive TyOf(K:Js)(H:Hp):V->Value->Prop where
 |non:TyOf K H .non (.type "NoneType")
 |bl (x:Bool):TyOf K H (.bl x) (.type "bool")
 |int (i:Int):TyOf K H (.int i) (.type "int")
 |str (x:Str):TyOf K H (.str x) (.type "str")
 |flt (x:UInt64):TyOf K H (.flt x) (.type "float")
 |lst {a:Addr} {xs:List V} (e:H a=some (.lst xs)):TyOf K H (.ref a) (.type "list")
 |frz {a:Addr} {o:Obj} {xs:List V} (e:H a=some (.frz o (.lst xs))):TyOf K H (.ref a) (.type "list")
 |tup {a:Addr} {xs:List V} (e:H a=some (.tup xs)):TyOf K H (.ref a) (.type "tuple")
 |dK {a:Addr} {kvs:List (Key×V)} (e:H a=some (.dK kvs)):TyOf K H (.ref a) (.type "dict")
 |dT {a:Addr} {kvs:List (List Key×V)} (e:H a=some (.dT kvs)):TyOf K H (.ref a) (.type "dict")
 |ins {a C dx:Addr} {fs:List (Str×V)} (e:H a=some (.ins C dx fs)) (cl:Cls K C) (ha:JU K (.ref C) "__class__" = some (some (.builtin "object.__class__")))
   (hn:PySem.W.specialIn K (.builtin "object.__class__") "__get__" = some (some (.builtin "getset_descriptor.__get__"))) (htk:PySem.W.takesIn K (.builtin "object.__class__")=some true)
   (hm:PySem.W.mroIn K C (.type "object")=some true):TyOf K H (.ref a) (.ref C)
theorem Ew{x:V}{u t:Value}(I:Inv X pins σ H s)(rx:RelV x u)(ty:TyOf X.K H x t)(e:LP X.K t c=some b)(h:∀ tk,Q (.bool b) { s with toks:=tk }) :
  wpAny (model X.prog X.w) A (call (.builtin "isinstance") [u,c]) Q E s:=by
 cases ty with
 |non=>cases (show u=Value.none from rx);exact K0 PySem.W.kitx_none I.kIn True.intro e (fun z=>nomatch z) h
 |bl y=>cases (show u=Value.bool y from rx);exact K0 PySem.W.kitx_bool I.kIn True.intro e (fun z=>nomatch z) h
 |int i=>obtain⟨t,q⟩:=(show ∃ t,u=Value.int i t from rx);cases q;exact K0 PySem.W.kitx_int I.kIn True.intro e (fun z=>nomatch z) h
 |str y=>obtain⟨t,q⟩:=(show ∃ t,u=Value.str y t from rx);cases q;exact K0 PySem.W.kitx_str I.kIn True.intro e (fun z=>nomatch z) h
 |flt y=>obtain⟨t,q⟩:=(show ∃ t,u=Value.float y t from rx);cases q;exact K0 PySem.W.kitx_float I.kIn True.intro e (fun z=>nomatch z) h
 | @lst a xs ea =>
  cases (show u=Value.ref a from rx)
  obtain⟨_,_,n,_,h1⟩:=(show bI X.prog X.w H s.heap a (.lst xs) from I.hok a _ ea)
  exact K0 PySem.W.kitx_list I.kIn ⟨_,h1,rfl⟩ e (fun z=>nomatch z) h
 | @frz a ob xs ea =>
  cases (show u=Value.ref a from rx)
  obtain⟨_,_,_,n,_,h1⟩:=(show bI X.prog X.w H s.heap a (.frz ob (.lst xs)) from I.hok a _ ea)
  exact K0 PySem.W.kitx_list I.kIn ⟨_,h1,rfl⟩ e (fun z=>nomatch z) h
 | @tup a xs ea =>
  cases (show u=Value.ref a from rx)
  obtain⟨_,_,_,p⟩:=(show bI X.prog X.w H s.heap a (.tup xs) from I.hok a _ ea)
  obtain⟨o,h1,h2,_⟩:=p
  exact K0 PySem.W.kitx_tuple I.kIn ⟨o,h1,h2⟩ e (fun z=>nomatch z) h
 | @dK a kvs ea =>
  cases (show u=Value.ref a from rx)
  obtain⟨_,_,vs,_,p⟩:=(show bI X.prog X.w H s.heap a (.dK kvs) from I.hok a _ ea)
  obtain⟨o,es,ep,h1,h2,_⟩:=p
  exact K0 PySem.W.kitx_dict I.kIn ⟨o,h1,h2.1⟩ e (fun z=>nomatch z) h
 | @dT a kvs ea =>
  cases (show u=Value.ref a from rx)
  obtain⟨_,_,xs,_,o,es,ep,h1,h2,_⟩:=(show bI X.prog X.w H s.heap a (.dT kvs) from I.hok a _ ea)
  exact K0 PySem.W.kitx_dict I.kIn ⟨o,h1,h2.1⟩ e (fun z=>nomatch z) h
 | @ins a C dx fs ea cl ha hn htk hm =>
  cases (show u=Value.ref a from rx)
  obtain⟨mA,O,_⟩:=tU I.hok ea
  obtain⟨od,J,_⟩:=O.look
  exact K0 (PySem.W.kitx_own (cl.get _) cl.hd ha hn htk hm) I.kIn J e (fun z=>nomatch z) h
end
end L2
namespace L2
open PySem PySem.Spec PyProof.Rows
structure Room(k:Nat)(A:Around):Prop where
 hd:A.handled=none
 dp:A.depth+3*k+5<recursionLimit
 un:A.units+16*k+200<cLine
theorem Room.mono{j k:Nat}{A:Around}(r:Room k A)(h:j<=k):Room j A:=⟨r.hd,by have:=r.dp;omega,by have:=r.un;omega⟩
theorem Room.deeper{k:Nat}{A:Around}(r:Room (k+1) A)(env:Env):Room k (A.deeper env) :=
 ⟨r.hd,by have:=r.dp;show A.depth+1+3*k+5<_;omega,by have:=r.un;show A.units+3+16*k+200<_;omega⟩
theorem B6{A:Around}{C:Addr}{us:List Value}{kw:List (Str×Value)}:(A.under (.builtin "type.__call__" ⟨.ref C::us,kw⟩)).depth=A.depth+1:=by
 first | rfl | simp[Around.under,Code.weight,Code.isCreation,Code.isGuard,Code.isCaller,Code.frames,Code.isFrame,guardIds]
theorem B5{A:Around}{C:Addr}{us:List Value}{kw:List (Str×Value)}:(A.under (.builtin "type.__call__" ⟨.ref C::us,kw⟩)).units=A.units+1:=by
 first | rfl | simp[Around.under,Code.cUnits,Code.frames,Code.isFrame]
theorem Room.make{k:Nat}{A:Around}(r:Room (k+1) A)(C:Addr)(us:List Value)(kw:List (Str×Value)):Room k (A.under (.builtin "type.__call__" ⟨.ref C::us,kw⟩)) :=
 ⟨r.hd,by have:=r.dp;rw[B6];omega,by have:=r.un;rw[B5];omega⟩
theorem Room.depth{k:Nat}{A:Around}(r:Room k A):A.depth<recursionLimit:=by have:=r.dp;omega
theorem Room.units{k:Nat}{A:Around}(r:Room k A):A.units+64<cLine:=by have:=r.un;omega
def tNil:TA:=fun _ H Q=>Q [] H
def tCons(ta:TE)(tr:TA):TA:=fun σ H Q=>ta σ H fun x H1=>tr σ H1 fun xs H2=>Q (x::xs) H2
section
variable{X:Cx}{e:Expr}{es:List Expr}{te:TE}{t:TA}{pos:Pos}
theorem ag:PA X [] tNil:=fun _ _ _ _ H Q I h=>Calls.spliced_nil ⟨[],H,I,.nil,h⟩
theorem aa(ha:PE X e te)(hr:PA X es t)(hs:starEach (e::es) X.env=(false,eval e X.env)::starEach es X.env:=by rfl):PA X (e::es) (tCons te t):=by
 intro pos pins s σ H Q I h
 rw[hs]
 show wpAny _ _ (spliced ((false,eval e X.env)::backTo pos (starEach es X.env))) _ _ s
 refine Calls.spliced_cons (thn (ha pins s σ H _ I h) fun u s1 ⟨x,H1,I1,r1,q1⟩=>?_)
 exact thn (hr pos pins s1 σ H1 _ I1 q1) fun us s2 ⟨xs,H2,I2,r2,q2⟩=>⟨x::xs,H2,I2,.cons r1 r2,q2⟩
def tTup(t:TA):TE:=fun σ H Q=>t σ H fun xs H1=>xs.length<=sizeLine/\∀ p,H1 p=none->Q (.ref p) (upd H1 p (.tup xs))
def tLst(t:TA):TE:=fun σ H Q=>t σ H fun xs H1=>xs.length<=sizeLine/\∀ p,H1 p=none->Q (.ref p) (upd H1 p (.lst xs))
theorem jx{x1}(h:PA X es t):PE X (.Tuple es x1 pos) (tTup t):=by
 intro pins s σ H Q I hq
 refine wpAny_Tuple_spliced (thn (h pos pins s σ H _ I hq) fun us s1 ⟨xs,H1,I1,r,z,q⟩=>⟨by rw[← r.length];exact z,?_⟩)
 have hf:H1 s1.heap.objs.size=none:=I1.hok.fresh (Jw _)
 refine⟨.ref s1.heap.objs.size,upd H1 s1.heap.objs.size (.tup xs),I1.laid (t':=s1.toks) (fun b u e=>Heap.get?_push_of_some _ e) (Jw _) ?_,rfl,q _ hf⟩
 exact⟨z,us,r,⟨_,Heap.get?_push_size _ rfl,rfl,_,rfl⟩⟩
theorem bK(h:PA X es t):PE X (.List es pos) (tLst t):=by
 intro pins s σ H Q I hq
 refine wpAny_List_spliced (thn (h pos pins s σ H _ I hq) fun us s1 ⟨xs,H1,I1,r,z,q⟩=>⟨by rw[← r.length];exact z,?_⟩)
 have hf:H1 s1.heap.objs.size=none:=I1.hok.fresh (Jw _)
 refine⟨.ref s1.heap.objs.size,upd H1 s1.heap.objs.size (.lst xs),I1.laid (t':=s1.toks) (fun b u e=>Heap.get?_push_of_some _ e) (Jw _) ?_,rfl,q _ hf⟩
 exact⟨z,us,0,r,Heap.get?_push_size _ rfl⟩
end
abbrev Sp:=List V->Hp->VK->XK->Prop
abbrev CXT:=List Env->Hp->Shared->XK->Value->Shared->Prop
structure Env0(P:Program)(w:World)(K:Js)(mg:Str->Option Value)(base:Heap)(A:Around)(outer:List Env)(s:Shared)(H:Hp):Prop where
 frames:A.frames=some outer
 mod:Mod K mg base
 bs:∀ b o,base.get? b=some o->s.heap.get? b=some o/\H b=none
 bsz:base.objs.size<=s.heap.objs.size
 funs:s.heap.FunFrames base outer
 frf:∀ b∈frs outer,H b=none
 hok:HOk P w H s.heap
 bare:AllBare s.gens
def CE(outer:List Env)(P:Program)(w:World)(H:Hp)(s:Shared)(Q:VK)(u:Value)(s':Shared):Prop :=
 ∃ v H',s'.os=s.os/\AllBare s'.gens/\Un (frs outer) [] H H' s.heap s'.heap/\HOk P w H' s'.heap/\RelV v u/\Q v H'
def CR(CX:CXT)(outer:List Env)(P:Program)(w:World)(H:Hp)(s:Shared)(Q:VK)(E:XK)(r:Result)(s':Shared):Prop :=
 match r with
 |.ok (.ret u)=>CE outer P w H s Q u s'
 |.ok _=>False
 |.error e=>CX outer H s E e s'
structure FnOk(P:Program)(w:World)(K:Js)(mg:Str->Option Value)(base:Heap)(CX:CXT)(k:Nat)(f:Addr)(fd:FuncData)(ps:List Str)(sp:Sp):Prop where
 len:∀ vs H Q E,sp vs H Q E->vs.length=ps.length
 run:∀(A:Around)(outer:List Env)(s:Shared)(H:Hp)(args:Args)(us:List Value)(vs:List V)(Q:VK)(E:XK),Room k A->Env0 P w K mg base A outer s H->BindsTo s fd args (ps.zip us)->Vals vs us->sp vs H Q E ->
  codeAny (model P w) A (.call (.ref f) args) (CR CX outer P w H s Q E) s
theorem Env0.make{P:Program}{w:World}{K:Js}{mg:Str->Option Value}{base:Heap}{A:Around}{outer:List Env}{s:Shared}{H:Hp}(e:Env0 P w K mg base A outer s H)(C:Addr)(us:List Value)(kw:List (Str×Value)) :
  Env0 P w K mg base (A.under (.builtin "type.__call__" ⟨.ref C::us,kw⟩)) outer s H:=⟨by first | exact e.frames | (simpa[Around.under,Code.envs,Code.isFrame,pushEnvs] using e.frames),e.mod,e.bs,e.bsz,e.funs,e.frf,e.hok,e.bare⟩
section
variable{X:Cx}{pins:List (Addr×Obj)}{σ:St}{H:Hp}{s s':Shared}
theorem Inv.env0(I:Inv X pins σ H s):Env0 X.prog X.w X.K X.mg X.base X.A X.stack s H :=
 ⟨I.ok.frames,I.ok.mod,I.bs,Ky I.ok.bsz I.sz,I.stack,I.stkFree,I.hok,I.bare⟩
theorem Inv.after{Q:VK}{u:Value}(I:Inv X pins σ H s)(h:CE X.stack X.prog X.w H s Q u s'):EP X pins σ Q u s':=by
 obtain⟨v,H',os,bare,un,hok,r,q⟩:=h
 obtain⟨hh,g,d,t,os'⟩:=s'
 obtain rfl:os'=s.os:=os
 exact⟨v,H',I.call (h':=hh) (g':=g) (d':=d) (t':=t) (ch:=[]) un hok bare (fun b z=>absurd z (by simp)),r,q⟩
end
def tCall(sp:Sp)(dvs:List V)(E:XK)(t:TA):TE:=fun σ H Q=>t σ H fun vs H1=>sp (vs++dvs) H1 Q E
def tMeth(C:Addr)(m:Str)(sp:Sp)(dvs:List V)(E:XK)(ta:TE)(t:TA):TE:=fun σ H Q=>ta σ H fun x H1=>∃ a dx fs,x=.ref a/\H1 a=some (.ins C dx fs)/\fs.lookup m=none /\
 t σ H1 fun vs H2=>sp (x::(vs++dvs)) H2 Q E
def tMake(C:Addr)(sp:Sp)(dvs:List V)(E:XK)(t:TA):TE:=fun σ H Q=>t σ H fun vs H1=>∀ x dx,H1 x=none->H1 dx=none->dx≠x ->
 sp (.ref x::(vs++dvs)) (upd (upd H1 dx (.own x)) x (.ins C dx [])) (fun v H2=>v=.non/\Q (.ref x) H2) E
def kZ(K:Js)(fd:FuncData)(ps:List Str)(ds:List Value):Prop :=
 ∀(s:Shared)(us:List Value),K.In s.heap->(us++ds).length=ps.length->BindsTo s fd ⟨us,[]⟩ (ps.zip (us++ds))
theorem kZ.all{K:Js}{fd:FuncData}{ps:List Str}(h:∀ us:List Value,us.length=ps.length->bindArgs fd ⟨us,[]⟩=pure (ps.zip us)):kZ K fd ps []:=fun s us _ hl=>by
 rw[KJ]at hl ⊢
 exact .of_eq (h us hl)
def qp(CX:CXT)(X:Cx)(E:XK):Prop:=∀(pins:List (Addr×Obj))(σ:St)(H:Hp)(s:Shared)(e:Value)(s':Shared),Inv X pins σ H s->CX X.stack H s E e s'->X.xe e s'
section
variable{X:Cx}{CX:CXT}{k:Nat}{f C:Addr}{fd:FuncData}{ps:List Str}{sp:Sp}{dvs:List V}{ds:List Value}{E:XK}{x m:Str}{p pos apos:Pos}{e o:Expr}{es:List Expr}{ta:TE}{t:TA}
theorem DI{pins:List (Addr×Obj)}{σ:St}{H:Hp}{s:Shared}{Q:VK}{us:List Value}{vs:List V}(F:FnOk X.prog X.w X.K X.mg X.base CX k f fd ps sp)(hr:Room k X.A)(hb:kZ X.K fd ps ds)(hd:Vals dvs ds)(hx:qp CX X E)
  (I:Inv X pins σ H s) (r:Vals vs us) (h:sp (vs++dvs) H Q E):wpAny (model X.prog X.w) X.A (call (.ref f) us) (EP X pins σ Q) X.xe s:=by
 have r2:Vals (vs++dvs) (us++ds):=r.append hd
 have hl:(us++ds).length=ps.length:=by rw[← r2.length];exact F.len _ _ _ _ h
 refine wpAny_call (codeAny_mono (F.run X.A X.stack s H ⟨us,[]⟩ (us++ds) (vs++dvs) Q E hr I.env0 (hb s us I.kIn hl) r2 h) fun r s' hq=>?_)
 cases r with
 |error e=>exact hx pins σ H s e s' I hq
 |ok fl =>
  cases fl with
  |ret u=>exact I.after hq
  |next=>exact False.elim hq
  |brk=>exact False.elim hq
  |cont=>exact False.elim hq
theorem aA(F:FnOk X.prog X.w X.K X.mg X.base CX k f fd ps sp)(hr:Room k X.A)(hg:Gl X x)(hm:X.mg x=some (.ref f))(hk:JG X.K (.ref f)=true)(hb:kZ X.K fd ps ds)(hd:Vals dvs ds)(hx:qp CX X E)
  (ha:PA X (e::es) t) (hdb:(x == ("__debug__" : Str))=false:=by decide) (he:starEach (e::es) X.env=(false,eval e X.env)::starEach es X.env:=by rfl) (hpl:(backTo pos (starEach es X.env)).any (·.1)=false:=by rfl) :
  PE X (.Call (.Name x p) (e::es) [] pos) (tCall sp dvs E t):=by
 intro pins s σ H Q I h
 refine wpAny_Call_Name_kw (tF I hg hm ?_ hdb)
 refine L9 (h₀:=X.base) I.ok.mod.kin hk (thn (ha pos pins s σ H _ I h) fun us s1 ⟨vs,H1,I1,r,q⟩=>⟨I1.kIn,?_⟩) he hpl
 exact DI F hr hb hd hx I1 r q
theorem yD{pl:Sem Bool}(he:PE X o ta)(c:Cls X.K C)(hm:Meth X.K C m f)(F:FnOk X.prog X.w X.K X.mg X.base CX k f fd ps sp)(hr:Room k X.A)(hb:kZ X.K fd ps ds)(hd:Vals dvs ds)(hx:qp CX X E)(ha:PA X (e::es) t)
  (hst:starEach (e::es) X.env=(false,eval e X.env)::starEach es X.env:=by rfl) (hpl:(backTo pos (starEach es X.env)).any (·.1)=false:=by rfl)
  (ht:eval (.Call (.Attribute o m apos) (e::es) [] pos) X.env=(do
   let ov ← eval o X.env
   standAt apos.atName
   let (f,first) ← holding [ov] (getMethod ov m pl)
   callWith pos f first (backTo pos (starEach (e::es) X.env)) (backToKw pos (keywordEach [] X.env))):=by rfl) :
  PE X (.Call (.Attribute o m apos) (e::es) [] pos) (tMeth C m sp dvs E ta t):=by
 intro pins s σ H Q I h
 refine PySem.W.methodCall_KW (pl:=pl) (thn (he pins s σ H _ I h) fun u s1 ⟨x,H1,I1,rx,a,dx,fs,ex,ea,l,q⟩=>?_) ht
 subst ex
 obtain rfl:u=Value.ref a:=rx
 refine q9 I1 ea c hm l ?_
 refine L9 (first:=[.ref a]) (h₀:=X.base) I.ok.mod.kin hm.kp (thn (ha pos pins s1 σ H1 _ I1 q) fun us s2 ⟨vs,H2,I2,r,q2⟩=>⟨I2.kIn,?_⟩) hst hpl
 exact DI (us:=.ref a::us) (vs:=.ref a::vs) F hr hb hd hx I2 (.cons rfl r) q2
theorem FL{pl:Sem Bool}(he:PE X o ta)(c:Cls X.K C)(hm:Meth X.K C m f)(F:FnOk X.prog X.w X.K X.mg X.base CX k f fd ps sp)(hr:Room k X.A)(hb:kZ X.K fd ps ds)(hd:Vals dvs ds)(hx:qp CX X E)
  (ht:eval (.Call (.Attribute o m apos) [] [] pos) X.env=(do
   let ov ← eval o X.env
   standAt apos.atName
   let (f,first) ← holding [ov] (getMethod ov m pl)
   callWith pos f first (backTo pos (starEach [] X.env)) (backToKw pos (keywordEach [] X.env))):=by rfl) :
  PE X (.Call (.Attribute o m apos) [] [] pos) (tMeth C m sp dvs E ta tNil):=by
 intro pins s σ H Q I h
 refine PySem.W.methodCall_KW (pl:=pl) (thn (he pins s σ H _ I h) fun u s1 ⟨x,H1,I1,rx,a,dx,fs,ex,ea,l,q⟩=>?_) ht
 subst ex
 obtain rfl:u=Value.ref a:=rx
 refine q9 I1 ea c hm l ?_
 exact PySem.W.callWith_K0 (first:=[.ref a]) I1.kIn hm.kp (DI (us:=[.ref a]) (vs:=[.ref a]) F hr hb hd hx I1 (.cons rfl .nil) q)
structure Mk(K:Js)(C f:Addr):Prop where
 makes:LZ K C=true
 init:JU K (.ref C) "__init__" = some (some (.ref f))
 fn:Lw K (.ref f)=true
 kp:JG K (.ref C)=true
theorem Fz{pins:List (Addr×Obj)}{σ:St}{H:Hp}{s:Shared}{Q:VK}{us:List Value}{vs:List V}(M:Mk X.K C f)(F:FnOk X.prog X.w X.K X.mg X.base CX k f fd ps sp)(hr:Room (k+1) X.A)(hb:kZ X.K fd ps ds)(hd:Vals dvs ds)
  (hx:qp CX X E) (I:Inv X pins σ H s) (r:Vals vs us)
  (h:∀ x dx,H x=none->H dx=none->dx≠x->sp (.ref x::(vs++dvs)) (upd (upd H dx (.own x)) x (.ins C dx [])) (fun v H2=>v=.non/\Q (.ref x) H2) E) :
  wpAny (model X.prog X.w) X.A (call (.ref C) us) (EP X pins σ Q) X.xe s:=by
 have hq:=h (s.heap.objs.size+1) s.heap.objs.size (I.hok.fresh (Lx _)) (I.hok.fresh (Jw _)) (JN (KA _))
 have I2:=Inv.made (C:=C) I
 have r2:Vals (V.ref (s.heap.objs.size+1)::(vs++dvs)) (Value.ref (s.heap.objs.size+1)::(us++ds)):=.cons rfl (r.append hd)
 have hl:(Value.ref (s.heap.objs.size+1)::us++ds).length=ps.length:=by
  have e:=r2.length
  rw[F.len _ _ _ _ hq]at e
  exact e.symm
 refine wpAny_call (Gj (f:=f) I.kIn M.makes M.init (beq_iff_eq.mp M.fn) (codeAny_mono (F.run _ X.stack _ _ ⟨Value.ref (s.heap.objs.size+1)::us,[]⟩ (Value.ref (s.heap.objs.size+1)::(us++ds)) _ _ E (hr.make C us [])
  (I2.env0.make C us []) (hb _ (Value.ref (s.heap.objs.size+1)::us) I2.kIn hl) r2 hq) fun r s' hq'=>?_))
 cases r with
 |error e=>exact hx pins σ _ _ e s' I2 hq'
 |ok fl =>
  cases fl with
  |ret u =>
   obtain⟨v,H',I3,rv,ev,q3⟩:=I2.after hq'
   subst ev
   exact⟨rv,⟨V.ref (s.heap.objs.size+1),H',I3,rfl,q3⟩⟩
  |next=>exact False.elim hq'
  |brk=>exact False.elim hq'
  |cont=>exact False.elim hq'
theorem yE(M:Mk X.K C f)(F:FnOk X.prog X.w X.K X.mg X.base CX k f fd ps sp)(hr:Room (k+1) X.A)(hg:Gl X x)(hm:X.mg x=some (.ref C))(hb:kZ X.K fd ps ds)(hd:Vals dvs ds)(hx:qp CX X E)
  (ha:PA X (e::es) t) (hdb:(x == ("__debug__" : Str))=false:=by decide) (he:starEach (e::es) X.env=(false,eval e X.env)::starEach es X.env:=by rfl) (hpl:(backTo pos (starEach es X.env)).any (·.1)=false:=by rfl) :
  PE X (.Call (.Name x p) (e::es) [] pos) (tMake C sp dvs E t):=by
 intro pins s σ H Q I h
 refine wpAny_Call_Name_kw (tF I hg hm ?_ hdb)
 refine L9 (h₀:=X.base) I.ok.mod.kin M.kp (thn (ha pos pins s σ H _ I h) fun us s1 ⟨vs,H1,I1,r,q⟩=>⟨I1.kIn,?_⟩) he hpl
 exact Fz M F hr hb hd hx I1 r q
end
section
variable{X:Cx}{CX:CXT}{k:Nat}{f C:Addr}{fd:FuncData}{ps ks:List Str}{sp:Sp}{E:XK}{x m:Str}{p pos apos kpos:Pos}{e o:Expr}{es:List Expr}{kws:List Keyword}{te ta:TE}{t tk:TA}{nm:Option Str}
variable{g:List Value->List Value->List Value}{gV:List V->List V->List V}
end
structure aE(N P:List Str)(sc:Scope):Prop where
 kind:sc.kind=.function
 co:sc.isCoroutine=false
 gen:sc.isGenerator=false
 nd:N.Nodup
 pre:N.take P.length=P
 par:∀ x∈P,sc.names.lookup x=some .local∨sc.names.lookup x=some .cell
 nofree:∀ y∈sc.names,y.2≠.free
theorem wQ{kindOf:Str->Option NameKind}{x:Str}:∀{binds:List (Str×Value)}{m:Str->Option Value},(∀ v,(x,v)∉binds)->bindL kindOf binds m x=m x
 |[],_,_=>rfl
 | (n,v)::r,m,h=>by
  unfold bindL
  rw[wQ fun w hw=>h w (JB _ hw)]
  split
  ·have:x≠n:=by rintro rfl;exact h v JD
   simp[this]
  ·rfl
theorem wU{kindOf:Str->Option NameKind}{x:Str}:∀{binds:List (Str×Value)}{m:Str->Option Value},(∀ v,(x,v)∉binds)->bindC kindOf binds m x=m x
 |[],_,_=>rfl
 | (n,v)::r,m,h=>by
  unfold bindC
  rw[wU fun w hw=>h w (JB _ hw)]
  split
  ·rfl
  ·have:x≠n:=by rintro rfl;exact h v JD
   simp[this]
theorem wR{kindOf:Str->Option NameKind}{x:Str}{v:Value}:∀{P:List Str}{vs:List Value}{i:Nat}{m:Str->Option Value},P.Nodup->P[i]?=some x->vs[i]?=some v->kindOf x=some .local ->
  bindL kindOf (P.zip vs) m x=some v
 |[],_,_,_,_,h,_,_=>by simp at h
 |_::_,[],_,_,_,_,h,_=>by simp at h
 |p::P,w::vs,0,m,nd,h1,h2,hk=>by
  simp at h1 h2;subst h1;subst h2
  show bindL kindOf ((p,w)::P.zip vs) m p=_
  unfold bindL
  rw[wQ fun v hv=>(Jz.mp nd).1 (M7 hv).1,if_pos hk]
  simp
 |p::P,w::vs,i+1,m,nd,h1,h2,hk=>by
  show bindL kindOf ((p,w)::P.zip vs) m x=_
  unfold bindL
  exact wR (i:=i) (Jz.mp nd).2 (by simpa using h1) (by simpa using h2) hk
theorem wV{kindOf:Str->Option NameKind}{x:Str}{v:Value}:∀{P:List Str}{vs:List Value}{i:Nat}{m:Str->Option Value},P.Nodup->P[i]?=some x->vs[i]?=some v->kindOf x≠some .local ->
  bindC kindOf (P.zip vs) m x=some v
 |[],_,_,_,_,h,_,_=>by simp at h
 |_::_,[],_,_,_,_,h,_=>by simp at h
 |p::P,w::vs,0,m,nd,h1,h2,hk=>by
  simp at h1 h2;subst h1;subst h2
  show bindC kindOf ((p,w)::P.zip vs) m p=_
  unfold bindC
  rw[wU fun v hv=>(Jz.mp nd).1 (M7 hv).1,if_neg hk]
  simp
 |p::P,w::vs,i+1,m,nd,h1,h2,hk=>by
  show bindC kindOf ((p,w)::P.zip vs) m x=_
  unfold bindC
  exact wV (i:=i) (Jz.mp nd).2 (by simpa using h1) (by simpa using h2) hk
def start(N:List Str)(vs:List V):St:=vs.map some++K5 (N.length-vs.length) none
def cxOf(CX:CXT)(P:Program)(w:World)(K:Js)(mg:Str->Option Value)(base:Heap)(N:List Str)(qual:Str)(scope:Scope)(f:Addr)(cd:Value)(A:Around)(outer:List Env)(s:Shared)(H:Hp)(E:XK):Cx where
 prog:=P
 w:=w
 K:=K
 mg:=mg
 base:=base
 A:=A.deeper (envOfC qual scope s.heap.objs.size f cd)
 N:=N
 s₀:=s
 H₀:=H
 env:=envOfC qual scope s.heap.objs.size f cd
 outer:=outer
 stack:=envOfC qual scope s.heap.objs.size f cd::outer
 ex:=[]
 calm:=true
 fn:=fun _=>true
 pn:=[]
 xe:=fun e s'=>wpAny (model P w) (A.deeper (envOfC qual scope s.heap.objs.size f cd)) (leaving (envOfC qual scope s.heap.objs.size f cd) e) (fun _ s''=>CX outer H s E e s'') (fun e' s''=>CX outer H s E e' s'') s'
theorem Bl{sc:Scope}{n:Nat}{x:Str}(h:sc.names.lookup x=some .cell):∃ c,(cellsFrom n sc.names []).lookup x=some c:=by
 have q:=PySem.W.cellsFrom_some sc.names n [] (.inl h)
 exact Nn.mp q
theorem Ex{CX:CXT}{P:Program}{w:World}{K:Js}{mg:Str->Option Value}{base:Heap}{N ps:List Str}{qual:Str}{scope:Scope}{f:Addr}{cd:Value}{A:Around}{outer:List Env}{s s1:Shared}{H:Hp}{E:XK}{us:List Value}{vs:List V}
  (S:aE N ps scope) (hd:A.handled=none) (e0:Env0 P w K mg base A outer s H) (hl:vs.length=ps.length) (r:Vals vs us)
  (x:InCallC s s.heap.objs.size (bindL (envOfC qual scope s.heap.objs.size f cd).kindOf (ps.zip us) fun _=>none) (cellsFrom (s.heap.objs.size+1) scope.names []) (bindC (envOfC qual scope s.heap.objs.size f cd).kindOf (ps.zip us) fun _=>none) s1) :
  Inv (cxOf CX P w K mg base N qual scope f cd A outer s H E) [] (start N vs) H s1:=by
 have hpl:ps.length<=N.length:=by have:=congrArg M9 S.pre;rw[JP]at this;omega
 obtain⟨h1,tk,rfl,hk⟩:=x.done
 have noA:∀ b:Addr,b∉(cxOf CX P w K mg base N qual scope f cd A outer s H E).ex:=fun b z=>absurd (show b∈([]:List Addr) from z) (by simp)
 refine⟨⟨e0.mod,S.kind,rfl,rfl,Jw _,fun y z c h1 h2=>?_,fun y hy=>?_,fun y c _ h=>?_,fun _=>hd,Around.frames_deeper e0.frames,.inr ⟨rfl,rfl⟩,fun b z=>absurd z (noA b),e0.bs,e0.bsz,fun b _ _=>noA b,fun b z=>absurd z (noA b),e0.funs,e0.frf⟩,
  rfl,e0.bare,Un.kept hk,⟨_,x.toInCall.ns,fun i y v h1 h2 h3=>?_⟩,fun y c h=>⟨_,x.cell y c h⟩,e0.hok.fresh (Jw _),fun y c h=>?_,fun p hp=>absurd (show p∈([]:List (Addr×Obj)) from hp) (by simp),e0.hok.kept hk,?_⟩
 ·exact name_of_addr x.apart (KS h1) (KS h2)
 ·have hy:scope.names.lookup y=some .cell∨scope.names.lookup y=some .free:=hy
  rcases hy with hy | hy
  ·exact Bl hy
  ·exact absurd rfl (S.nofree _ (KS hy))
 ·exact Kk (x.above y c (KS h))
 ·have hi:i<vs.length:=by
   unfold start at h2
   by_cases hi:i<vs.length
   ·exact hi
   ·rw[Jv (by simpa using hi)]at h2
    rw[Lq]at h2
    split at h2<;>cases h2
  have ha:vs[i]?=some v:=by
   unfold start at h2
   rw[Jx (by simpa using hi),Jy]at h2
   cases e:vs[i]? with
   |none=>rw[e]at h2;cases h2
   |some a=>rw[e]at h2;cases h2;rfl
  obtain⟨u,hu,rv⟩:=r.get ha
  have hp:ps[i]?=some y:=by
   rw[← S.pre,List.getElem?_take_of_lt (by omega)];exact h1
  have ndP:ps.Nodup:=by rw[← S.pre];exact S.nd.sublist (List.take_sublist _ _)
  refine⟨u,rv,?_⟩
  rcases S.par y (Jq hp)with k | k
  ·exact .inl ⟨k,wR ndP hp hu k⟩
  ·obtain⟨c,e⟩:=Bl (n:=s.heap.objs.size+1) k
   refine .inr ⟨.inl k,c,e,?_⟩
   have q:=x.cell y c e
   rw[wV ndP hp hu (by show scope.names.lookup y≠_;rw[k];decide)]at q
   exact q
 ·exact e0.hok.fresh (Kk (x.above y c (KS h)))
 ·unfold start
  show _=N.length
  rw[Jt,Jr,List.length_replicate]
  omega
theorem fn_of{CX:CXT}{P:Program}{w:World}{K:Js}{mg:Str->Option Value}{base:Heap}{k:Nat}{f:Addr}{name qual:Str}{params:Arguments}{body:List Stmt}{scope:Scope}{dV kV doc pm cdv ct oc:Value}{an od:Option Addr}
  {osl:Array (Option Value)} {N ps:List Str} {sp:Sp} (lk:K.lookup f=some ⟨oc,od,.func (JO name qual params body scope dV kV doc pm an cdv ct),osl⟩) (hcd:JJ K cdv qual=true) (S:aE N ps scope)
  (len:∀ vs H Q E,sp vs H Q E->vs.length=ps.length)
  (hbody:∀(A:Around)(outer:List Env)(s:Shared)(H:Hp)(vs:List V)(Q:VK)(E:XK),Room k (A.deeper (envOfC qual scope s.heap.objs.size f cdv))->sp vs H Q E ->
   ∃ t,PSs (cxOf CX P w K mg base N qual scope f cdv A outer s H E) body t/\t { nx:=fun _ H'=>Q .non H',rt:=Q } (start N vs) H) :
  FnOk P w K mg base CX (k+1) f (JO name qual params body scope dV kV doc pm an cdv ct) ps sp:=by
 refine⟨len,fun A outer s H args us vs Q E hr e0 hb r hsp=>?_⟩
 have hl:=len _ _ _ _ hsp
 have KX:K.In s.heap:=e0.mod.kin.keeps fun b o e=>(e0.bs b o e).1
 have lim:s.heap.NoLimit:=e0.mod.nolimit.keeps fun b o e=>(e0.bs b o e).1
 have hkind:∀ y∈ps.zip us,scope.names.lookup y.1=some .local∨(scope.names.lookup y.1=some .cell/\((cellsFrom (s.heap.objs.size+1) scope.names []).lookup y.1).isSome=true):=fun⟨n,v⟩ hy=>by
  rcases S.par n (M7 hy).1 with q | q
  ·exact .inl q
  ·exact .inr ⟨q,PySem.W.cellsFrom_some _ _ _ (.inl q)⟩
 refine codeAny_call_function hr.depth (KX _ _ lk) rfl S.co S.gen rfl (PySem.W.codeRec_of KX hcd) (hb _ _ _ _ ?_)
 refine wpAny_newFunctionEnv_cells S.kind hkind fun env he s1 x=>?_
 subst he
 refine⟨lim.keeps x.toInCall.keep,codeAny_func ?_⟩
 obtain⟨t,ht,hq⟩:=hbody A outer s H vs Q E (hr.deeper _) hsp
 have I:Inv (cxOf CX P w K mg base N qual scope f cdv A outer s H E) [] (start N vs) H s1:=Ex S hr.hd e0 hl r x
 refine wpAny_mono (ht [] s1 (start N vs) H _ I hq) (fun fl s' hs=>?_) fun e s' hs=>hs
 have fin:∀{σ':St}{H':Hp}{v:V}{u:Value},Inv (cxOf CX P w K mg base N qual scope f cdv A outer s H E) [] σ' H' s'->RelV v u->Q v H'->CE outer P w H s Q u s' :=
  fun{σ' H' v u} J rv q=>⟨v,H',J.os,J.bare,J.base,J.hok,rv,q⟩
 cases fl with
 |ret u =>
  obtain⟨v,σ',H',J,rv,q⟩:=hs
  exact fin J rv q
 |next =>
  obtain⟨σ',H',J,q⟩:=hs
  exact fin (v:=V.non) (u:=Value.none) J rfl q
 |brk =>
  obtain⟨_,_,_,q⟩:=hs
  exact False.elim q
 |cont =>
  obtain⟨_,_,_,q⟩:=hs
  exact False.elim q
end L2
namespace L2
open PySem PySem.Spec PyProof.Rows
section
variable{X:Cx}{x:Str}{p pos:Pos}{e:Expr}{es:List Expr}{t:TA}{id T:String}{r:List V->Hp->VK->Prop}
def tCB(r:List V->Hp->VK->Prop)(t:TA):TE:=fun σ H Q=>t σ H fun vs H1=>r vs H1 Q
theorem au(hc:kY X (.builtin id) r)(hg:Gl X x)(hm:X.mg x=none)(hv:bootBuiltins x=some (.builtin id))(ha:PA X (e::es) t) (hn:x≠"__name__":=by decide) (hdb:(x == ("__debug__" : Str))=false:=by decide)
  (he:starEach (e::es) X.env=(false,eval e X.env)::starEach es X.env:=by rfl) (hpl:(backTo pos (starEach es X.env)).any (·.1)=false:=by rfl):PE X (.Call (.Name x p) (e::es) [] pos) (tCB r t):=by
 intro pins s σ H Q I h
 refine wpAny_Call_Name_kw (oX I hg hm hv ?_ hn hdb)
 exact PyProof.Rows.callWith_builtin1 (thn (ha pos pins s σ H _ I h) fun us s1 ⟨vs,H1,I1,r1,q1⟩=>hc pins s1 σ H1 vs us Q I1 r1 q1) he hpl
theorem gy(hc:kY X (.type T) r)(hg:Gl X x)(hm:X.mg x=none)(hv:bootBuiltins x=some (.type T))(ha:PA X (e::es) t) (hn:x≠"__name__":=by decide) (hdb:(x == ("__debug__" : Str))=false:=by decide)
  (he:starEach (e::es) X.env=(false,eval e X.env)::starEach es X.env:=by rfl) (hpl:(backTo pos (starEach es X.env)).any (·.1)=false:=by rfl):PE X (.Call (.Name x p) (e::es) [] pos) (tCB r t):=by
 intro pins s σ H Q I h
 refine wpAny_Call_Name_kw (oX I hg hm hv ?_ hn hdb)
 exact PyProof.Rows.callWith_type1 (thn (ha pos pins s σ H _ I h) fun us s1 ⟨vs,H1,I1,r1,q1⟩=>hc pins s1 σ H1 vs us Q I1 r1 q1) he hpl
end
end L2
namespace HT
open PySem PyProof.Rows
section
open PySem.SeqAt
open PySem.AutoSeq1 (wpAny_loadPart')
open PySem.MeetsSeq PySem.MeetsSeq2 PySem.MeetsSeq3
end
section
variable{prog:Program}{w:World}{A:Around}{E:Value->Shared->Prop}{s:Shared}
def sIx(n d:Nat):Option Int->Nat
 |none=>d
 |some v=>if v<0 then(v+(n:Int)).toNat else min v.toNat n
theorem sIx_nat(n d k:Nat):sIx n d (some (k:Int))=min k n:=by
 show(if(k:Int)<0 then((k:Int)+(n:Int)).toNat else min (k:Int).toNat n)=min k n
 rw[if_neg (by omega),JC]
end
end HT
namespace L2
open PySem PySem.Spec PyProof.Rows
abbrev TO:=St->Hp->(Option Int->Hp->Prop)->Prop
def PO(X:Cx)(e:Option Expr)(t:TO):Prop :=
 ∀(pins:List (Addr×Obj))(s:Shared)(σ:St)(H:Hp)(Q:Option Int->Hp->Prop),Inv X pins σ H s->t σ H Q ->
  wpAny (model X.prog X.w) X.A (evalPart e X.env) (fun u s'=>∃ o H',Inv X pins σ H' s'/\IsPart u o/\Q o H') X.xe s
def HG:TO:=fun _ H Q=>Q none H
def tPart(t:TE):TO:=fun σ H Q=>t σ H fun x H1=>∃ i,x=.int i/\Q (some i) H1
section
variable{X:Cx}{e:Expr}{te:TE}{lo hi:Option Expr}{tl th:TO}{pos p2:Pos}
theorem lD:PO X none HG:=by
 intro pins s σ H Q I h
 rw[evalPart_none]
 exact wpAny_pure ⟨none,H,I,.none,h⟩
theorem fQ(h:PE X e te):PO X (some e) (tPart te):=by
 intro pins s σ H Q I hw
 rw[evalPart_some]
 refine thn (h pins s σ H _ I hw) fun u s1 ⟨x,H1,I1,r1,q1⟩=>?_
 obtain⟨i,rfl,q⟩:=q1
 obtain⟨t,rfl⟩:=r1
 exact⟨some i,H1,I1,.int i t,q⟩
def SlR(X:Cx)(r:V->Option Int->Option Int->Hp->VK->Prop):Prop :=
 ∀(pins:List (Addr×Obj))(s:Shared)(σ:St)(H:Hp)(x:V)(v vl vu:Value)(lo hi:Option Int)(sl:Addr)(Q:VK),Inv X pins σ H s->RelV x v->s.heap.IsSliceOf sl vl vu .none->IsPart vl lo->IsPart vu hi->r x lo hi H Q ->
  ∃ T id,typeLookup (.type T) "__getitem__" = pure (some (.builtin id))/\s.TypeIs v T/\wpAny (model X.prog X.w) X.A (getItem v (.ref sl)) (EP X pins σ Q) X.xe s
def tSl(r:V->Option Int->Option Int->Hp->VK->Prop)(te:TE)(tl th:TO):TE:=fun σ H Q=>te σ H fun x H1=>tl σ H1 fun l H2=>th σ H2 fun u H3=>r x l u H3 Q
theorem fi{r:V->Option Int->Option Int->Hp->VK->Prop}(hr:SlR X r)(he:PE X e te)(hl:PO X lo tl)(hu:PO X hi th):PE X (.Subscript e (.Slice lo hi none p2) pos) (tSl r te tl th):=by
 intro pins s σ H Q I h
 refine Subscript_ (thn (he pins s σ H _ I h) fun v s1 ⟨x,H1,I1,r1,q1⟩=>?_)
 refine wpAny_Slice (thn (hl pins s1 σ H1 _ I1 q1) fun vl s2 ⟨l,H2,I2,pl,q2⟩=>thn (hu pins s2 σ H2 _ I2 q2) fun vu s3 ⟨u,H3,I3,pu,q3⟩=>?_)
 rw[evalPart_none]
 refine wpAny_pure ?_
 have I4:Inv X pins σ H3 { s3 with heap:=s3.heap.push { cls:=.type "slice",data:=.fields #[vl,vu,.none] } }:=I3.kept (t':=s3.toks) fun b ob q=>Heap.get?_push_of_some _ q
 obtain⟨T,id,hT,ht,hg⟩:=hr pins { s3 with heap:=s3.heap.push { cls:=.type "slice",data:=.fields #[vl,vu,.none] } } σ H3 x v vl vu l u s3.heap.objs.size Q I4 r1 (Heap.IsSliceOf.new ..) pl pu q3
 show wpAny (model X.prog X.w) X.A (subscriptTail e (.Slice lo hi none p2) v (.ref s3.heap.objs.size)) (EP X pins σ Q) X.xe { s3 with heap:=s3.heap.push { cls:=.type "slice",data:=.fields #[vl,vu,.none] } }
 exact tail_any (ops:=[.ref s3.heap.objs.size,v]) ht hT hg (by with_unfolding_all rfl)
def cutV(xs:List V)(lo hi:Option Int):List V:=(xs.drop (HT.sIx xs.length 0 lo)).take (HT.sIx xs.length xs.length hi-HT.sIx xs.length 0 lo)
theorem zQ(xs:List V)(lo hi:Option Int):(cutV xs lo hi).length<=xs.length:=by
 unfold cutV
 rw[JP,Km]
 omega
end
end L2
namespace L2
open PySem PySem.Spec PyProof.Rows
def ixN(n:Nat)(i:Int):Option Nat:=if 0<=i then(if i<n then some i.toNat else none) else if -(n:Int)<=i then some (i+n).toNat else none
def atI{α:Type}(xs:List α)(i:Int):Option α:=(ixN xs.length i).bind fun j=>xs[j]?
theorem Et{n:Nat}{i:Int}{j:Nat}(h:ixN n i=some j):seqIndex? i n=some j/\j<n/\-(n:Int)<=i/\i<n:=by
 unfold ixN at h
 by_cases h0:0<=i
 ·rw[if_pos h0]at h
  by_cases h1:i<n
  ·rw[if_pos h1]at h
   have e:i.toNat=j:=JL h
   exact⟨by rw[seqIndex_of h0 h1,e],by omega,by omega,h1⟩
  ·rw[if_neg h1]at h;cases h
 ·rw[if_neg h0]at h
  by_cases h1 : -(n:Int)<=i
  ·rw[if_pos h1]at h
   have e:(i+n).toNat=j:=JL h
   exact⟨by rw[seqIndex_neg (by omega) h1,e],by omega,h1,by omega⟩
  ·rw[if_neg h1]at h;cases h
theorem Fb{α:Type}{xs:List α}{i:Int}{v:α}(h:atI xs i=some v):∃ j,seqIndex? i xs.length=some j/\xs[j]?=some v/\j<xs.length/\-(xs.length:Int)<=i/\i<xs.length:=by
 unfold atI at h
 cases e:ixN xs.length i with
 |none=>rw[e]at h;cases h
 |some j =>
  rw[e]at h
  obtain⟨h1,h2,h3,h4⟩:=Et e
  exact⟨j,h1,h,h2,h3,h4⟩
theorem ay{α:Type}{xs:List α}{j:Nat}{v:α}(h:xs[j]?=some v):atI xs (j:Int)=some v:=by
 have hj:j<xs.length:=(Jo.mp h).1
 have e:ixN xs.length (j:Int)=some j:=by
  unfold ixN
  rw[if_pos (by omega),if_pos (by omega)];simp
 unfold atI;rw[e];exact h
def Jm(b:Expr):Prop:=∀ o i,subscripted b false o i=operate [o,i] (getItem o i)
def IxR(X:Cx)(r:R2):Prop :=
 ∀(value slice:Expr)(pins:List (Addr×Obj))(s:Shared)(σ:St)(H:Hp)(x y:V)(v u:Value)(Q:VK),Inv X pins σ H s->RelV x v->RelV y u->r x y H Q ->
  subscripted slice false v u=operate [v,u] (getItem v u)->wpAny (model X.prog X.w) X.A (subscriptTail value slice v u) (EP X pins σ Q) X.xe s
def MtR(X:Cx)(id:String)(r:V->List V->Hp->VK->Prop):Prop :=
 ∀(pins:List (Addr×Obj))(s:Shared)(σ:St)(H:Hp)(x:V)(xs:List V)(v:Value)(us:List Value)(Q:VK),Inv X pins σ H s->RelV x v->Vals xs us->r x xs H Q ->
  wpAny (model X.prog X.w) X.A (call (.builtin id) (v::us)) (EP X pins σ Q) X.xe s
section
variable{X:Cx}{a b:Expr}{ta tb:TE}{pos:Pos}
theorem aD{r:R2}(hr:IxR X r)(ha:PE X a ta)(hb:PE X b tb)(hs:Jm b):PE X (.Subscript a b pos) (tOp r ta tb):=by
 intro pins s σ H Q I h
 exact Subscript_ (binT ha hb I h fun v u s2 x y H2 I2 rx ry q=>hr a b pins s2 σ H2 x y v u Q I2 rx ry q (hs _ _))
def rIxL(K:Js):R2:=fun x y H Q=>∃ p xs i v,x=.ref p/\y=.int i/\SqL K H p xs/\atI xs i=some v/\Q v H
def rIxT(K:Js):R2:=fun x y H Q=>∃ p xs i v,x=.ref p/\y=.int i/\SqT K H p xs/\atI xs i=some v/\Q v H
theorem az:IxR X (rIxL X.K):=by
 intro value slice pins s σ H x y v u Q I rx ry h hs
 obtain⟨p,xs,i,z,rfl,rfl,hq,he,q⟩:=h
 cases rx
 obtain⟨t,rfl⟩:=ry
 obtain⟨its,r,pl,hz⟩:=I.list hq
 obtain⟨j,h1,h2,h3,h4,h5⟩:=Fb he
 obtain⟨w,ew,rw'⟩:=r.get h2
 have hl:=r.length
 have hn:=qZ
 have fin:EP X pins σ Q w s:=⟨z,H,I,rw',q⟩
 by_cases h0:0<=i
 ·have hj:i.toNat=j:=by
   rw[seqIndex_of h0 h5]at h1
   exact JL h1
  exact item_listR pl.isList h0 (by omega) (by rw[hj];simpa using ew) fin hs
 ·have hj:(i+(its.toArray.size:Int)).toNat=j:=by
   rw[seqIndex_neg (by omega) h4]at h1
   rw[JW,← hl]
   exact JL h1
  exact subscriptTail_builtinR (x:=w) pl.isList.typeIs slot_list_getitem.lookup
   (wpAny_getItem_list_neg (Q:=fun r s'=>r=w/\EP X pins σ Q r s') pl.isList (by omega) (by rw[JW]<;>omega) (by omega) (by rw[hj];simpa using ew) ⟨rfl,fin⟩) hs
theorem aW:IxR X (rIxT X.K):=by
 intro value slice pins s σ H x y v u Q I rx ry h hs
 obtain⟨p,xs,i,z,rfl,rfl,hq,he,q⟩:=h
 cases rx
 obtain⟨t,rfl⟩:=ry
 obtain⟨its,r,pl,hz⟩:=I.tuple hq
 obtain⟨j,h1,h2,h3,h4,h5⟩:=Fb he
 obtain⟨w,ew,rw'⟩:=r.get h2
 have hl:=r.length
 have hn:=qZ
 have fin:EP X pins σ Q w s:=⟨z,H,I,rw',q⟩
 exact subscriptTail_builtinR (x:=w) pl.typeIs slot_tuple_getitem.lookup
  (getItem_tuple (j:=j) (Q:=fun r s'=>r=w/\EP X pins σ Q r s') pl (by omega) (by omega) (by rw[JW,← hl];exact h1) (by simpa using ew) ⟨rfl,fin⟩) hs
theorem B4(its:List Value)(n j:Nat)(u:Value):Obj.mapSeq (·.setIfInBounds j u) { cls:=.type "list",data:=.seq its.toArray n }={ cls:=.type "list",data:=.seq (its.set j u).toArray n }:=by
 simp[Obj.mapSeq]
theorem Inv.lst{pins:List (Addr×Obj)}{σ:St}{H:Hp}{s:Shared}{p:Addr}{xs:List V}(I:Inv X pins σ H s)(h:H p=some (.lst xs)) :
  ∃(its:List Value)(n:Nat),Vals xs its/\s.heap.get? p=some { cls:=.type "list",data:=.seq its.toArray n }/\xs.length<=sizeLine:=by
 obtain⟨z,its,n,r,e⟩:=I.hok p _ h
 exact⟨its,n,r,e,z⟩
theorem Inv.lstUpd{pins:List (Addr×Obj)}{σ:St}{H:Hp}{s:Shared}{p:Addr}{xs ys:List V}{its its':List Value}{n n':Nat}{f:Obj->Obj}(I:Inv X pins σ H s)(h:H p=some (.lst xs))
  (ho:s.heap.get? p=some { cls:=.type "list",data:=.seq its.toArray n }) (hf:f { cls:=.type "list",data:=.seq its.toArray n }={ cls:=.type "list",data:=.seq its'.toArray n' }) (r:Vals ys its') (hz:ys.length<=sizeLine) (t:Nat) :
  Inv X pins σ (upd H p (.lst ys)) { s with heap:=s.heap.update p f,toks:=t }:=by
 have e:(s.heap.update p f).get? p=some { cls:=.type "list",data:=.seq its'.toArray n' }:=by
  rw[Heap.get?_update_self f ho (by rw[hf]<;>rfl),hf]
 refine I.write (x:=p) (e:=p) (by rw[h];trivial) (.inl rfl) (fun b u hb q=>(Heap.get?_update_other _ _ (Ne.symm hb)).trans q) ⟨_,e⟩ ?_
 exact⟨hz,its',n',r,e⟩
def rSetL:V->V->V->Hp->(Hp->Prop)->Prop:=fun o i v H Q=>∃ p xs k j,o=.ref p/\i=.int k/\H p=some (.lst xs)/\ixN xs.length k=some j/\Q (upd H p (.lst (xs.set j v)))
theorem kg:PSet X rSetL:=by
 intro pins s σ H o i v ov iv u Q I ro ri rv h
 obtain⟨p,xs,k,j,rfl,rfl,hp,hj,q⟩:=h
 cases ro
 obtain⟨t,rfl⟩:=ri
 obtain⟨its,n,r,ho,hz⟩:=I.lst hp
 obtain⟨h1,h2,h3,h4⟩:=Et hj
 have hl:=r.length
 have hn:=qZ
 have I':Inv X pins σ (upd H p (.lst (xs.set j v))) { s with heap:=s.heap.update p (Obj.mapSeq (·.setIfInBounds j u)) } :=
  I.lstUpd hp ho (B4 its n j u) (r.set rv j) (by rw[Ke];exact hz) s.toks
 by_cases h0:0<=k
 ·have hk:k.toNat=j:=by
   rw[seqIndex_of h0 h4]at h1
   exact JL h1
  exact PySem.W.ki_setAt ho h0 (by omega) (by rw[JW,← hl];exact h4) (by rw[hk];exact⟨_,I',q⟩)
 ·have hk:(k+(its.toArray.size:Int)).toNat=j:=by
   rw[seqIndex_neg (by omega) h3]at h1
   rw[JW,← hl]
   exact JL h1
  exact PySem.W.ki_setBack ho (by omega) (by rw[JW,← hl];exact h3) (by omega) (by rw[hk];exact⟨_,I',q⟩)
theorem uM(lo hi:Option Int)(n:Nat):(sliceBounds lo hi none n).1=((HT.sIx n 0 lo:Nat):Int)/\(sliceBounds lo hi none n).2.1=((HT.sIx n n hi:Nat):Int)/\(sliceBounds lo hi none n).2.2=1:=by
 refine⟨?_,?_,rfl⟩
 ·cases lo with
  |none=>simp[sliceBounds,HT.sIx]
  |some i =>
   simp only[sliceBounds,HT.sIx,Option.getD_none,show(1:Int) > 0 by decide,if_true]
   by_cases h:i<0
   ·simp only[h,if_true]<;>omega
   ·simp only[h,if_false]<;>omega
 ·cases hi with
  |none=>simp[sliceBounds,HT.sIx]
  |some i =>
   simp only[sliceBounds,HT.sIx,Option.getD_none,show(1:Int) > 0 by decide,if_true]
   by_cases h:i<0
   ·simp only[h,if_true]<;>omega
   ·simp only[h,if_false]<;>omega
theorem r6(its:List Value)(lo hi:Option Int):slicePick its.toArray lo hi none=((its.drop (HT.sIx its.length 0 lo)).take (HT.sIx its.length its.length hi-HT.sIx its.length 0 lo)).toArray:=by
 obtain⟨h1,h2,h3⟩:=uM lo hi its.toArray.size
 unfold slicePick
 rw[h1,h2,h3]
 simp only[sliceRange_one,pick_run,JW]<;>rfl
def rSlL(K:Js):V->Option Int->Option Int->Hp->VK->Prop:=fun x lo hi H Q=>∃ a xs,x=.ref a/\SqL K H a xs/\∀ p,H p=none->Q (.ref p) (upd H p (.lst (cutV xs lo hi)))
theorem ig:SlR X (rSlL X.K):=by
 intro pins s σ H x v vl vu lo hi sl Q I rx hs pl pu h
 obtain⟨a,xs,rfl,hx,q⟩:=h
 cases rx
 obtain⟨its,r,ht,hz⟩:=I.list hx
 have hlen:=r.length
 refine⟨"list",_,slot_list_getitem.lookup,ht.isList.typeIs,?_⟩
 refine wpAny_getItem_list_slice ht.isList hs pl pu .none (by simp) ?_ (by rw[JW]<;>omega)
 rw[r6,← hlen]
 refine⟨.ref s.heap.objs.size,_,I.laid (t':=s.toks) (o:=.lst (cutV xs lo hi)) (fun b ob q=>Heap.get?_push_of_some _ q) (Jw _) ?_,rfl,q _ (I.hok.fresh (Jw _))⟩
 exact⟨Ky (zQ xs lo hi) hz,_,0,(r.drop (HT.sIx xs.length 0 lo)).take (HT.sIx xs.length xs.length hi-HT.sIx xs.length 0 lo),Heap.get?_push_size _ rfl⟩
theorem aq:kY X (.builtin "len") (fun xs H Q=>∃ p ys,xs = [.ref p]/\(SqL X.K H p ys∨SqT X.K H p ys)/\Q (.int ys.length) H):=by
 intro pins s σ H xs us Q I r h
 obtain⟨p,ys,rfl,hq,q⟩:=h
 obtain⟨u,rfl,rx⟩:=rQ r
 cases rx
 have hn:=qZ
 rcases hq with hq | hq
 ·obtain⟨its,r',pl,hz⟩:=I.list hq
  have hlen:=r'.length
  exact Calls.call_len_list pl.isList (by simp only[JW]<;>omega) ⟨.int ys.length,H,I.tok _,⟨s.toks+1,by rw[JW,hlen]⟩,q⟩
 ·obtain⟨its,r',pl,hz⟩:=I.tuple hq
  have hlen:=r'.length
  exact len_tuple pl (by simp only[JW]<;>omega) ⟨.int ys.length,H,I.tok _,⟨s.toks+1,by rw[JW,hlen]⟩,q⟩
theorem fM:kY X (.type "list") (fun xs H Q=>∃ p ys,xs = [.ref p]/\(SqL X.K H p ys∨SqT X.K H p ys)/\∀ l,H l=none->Q (.ref l) (upd H l (.lst ys))):=by
 intro pins s σ H xs us Q I r h
 obtain⟨p,ys,rfl,hq,q⟩:=h
 obtain⟨u,rfl,rx⟩:=rQ r
 cases rx
 have fin:∀(its:List Value),Vals ys its->ys.length<=sizeLine->∀(h':Heap)(c':Nat),(∀ b o',s.heap.get? b=some o'->h'.get? b=some o') ->
   h'.get? s.heap.objs.size=some { cls:=.type "list",dict:=none,data:=.seq its.toArray c',slots:=#[] }->EP X pins σ Q (.ref s.heap.objs.size) { s with heap:=h' }:=fun its r' hz h' c' kp e =>
  ⟨.ref s.heap.objs.size,_,I.laid (t':=s.toks) kp (Jw _) (show bI X.prog X.w _ h' _ (.lst ys) from⟨hz,its,c',r',e⟩),rfl,q _ (I.hok.fresh (Jw _))⟩
 rcases hq with hq | hq
 ·obtain⟨its,r',pl,hz⟩:=I.list hq
  have hlen:=r'.length
  obtain⟨o,ho,hc,n,hd⟩:=pl.isList
  exact call_list_seq p (.inl rfl) ho hc hd (fun h' c' kp e=>fin its r' hz h' c' kp e) (by simp only[JW]<;>omega)
 ·obtain⟨its,r',pl,hz⟩:=I.tuple hq
  have hlen:=r'.length
  obtain⟨o,ho,hc,n,hd⟩:=pl
  exact call_list_seq p (.inr rfl) ho hc hd (fun h' c' kp e=>fin its r' hz h' c' kp e) (by simp only[JW]<;>omega)
def tyV(K:Js)(T:String)(x:V)(H:Hp):Prop:=match x with
 |.str _=>T = "str"
 |.int _=>T = "int"
 |.ref p=>(T = "list"/\∃ xs,SqL K H p xs)∨(T = "tuple"/\∃ o,K.lookup p=some o/\o.cls=.type "tuple"/\o.dict=none) ∨
   (T = "dict"/\((∃ kvs,H p=some (.dK kvs))∨∃ kvs,H p=some (.dT kvs)))∨(T = "set"/\∃ S n,H p=some (.set S n))
 |_=>False
theorem tyV_is{pins:List (Addr×Obj)}{σ:St}{H:Hp}{s:Shared}{T:String}{x:V}{v:Value}(I:Inv X pins σ H s)(r:RelV x v)(ty:tyV X.K T x H) :
  s.TypeIs v T/\∀ a,v=.ref a->∃ ob,s.heap.get? a=some ob/\ob.dict=none:=by
 cases x with
 |str z =>
  obtain⟨t,rfl⟩:=r
  cases (show T = "str" from ty)
  exact⟨typeIs_str s z t,fun _ e=>nomatch e⟩
 |int i =>
  obtain⟨t,rfl⟩:=r
  cases (show T = "int" from ty)
  exact⟨typeIs_int s i t,fun _ e=>nomatch e⟩
 |ref p =>
  cases r
  rcases ty with⟨rfl,xs,hq⟩ | ⟨rfl,o,hk,hc,hd⟩ | ⟨rfl,hk⟩ | ⟨rfl,S,n,hk⟩
  ·obtain⟨its,_,pl,_⟩:=I.list hq
   refine⟨pl.isList.typeIs,fun a e=>?_⟩
   cases e
   obtain⟨o,n,e,c,hd,_⟩:=pl
   exact⟨o,e,hd⟩
  ·refine⟨⟨o,I.kIn p o hk,hc⟩,fun a e=>?_⟩
   cases e
   exact⟨o,I.kIn _ o hk,hd⟩
  ·have z:∃ o,s.heap.get? p=some o/\o.ExactDict:=by
    rcases hk with⟨kvs,hk⟩ | ⟨kvs,hk⟩
    ·obtain⟨_,_,_,_,o,_,_,e,ex,_⟩:=I.hok p _ hk
     exact⟨o,e,ex⟩
    ·obtain⟨_,_,_,_,o,_,_,e,ex,_⟩:=I.hok p _ hk
     exact⟨o,e,ex⟩
   obtain⟨o,e,ex⟩:=z
   refine⟨⟨o,e,ex.1⟩,fun a e2=>?_⟩
   cases e2
   exact⟨o,e,ex.2.1⟩
  ·obtain⟨o,_,_,_,e,ex,_⟩:=I.hok p _ hk
   refine⟨⟨o,e,ex.1⟩,fun a e2=>?_⟩
   cases e2
   exact⟨o,e,ex.2.1⟩
 |_=>exact False.elim ty
def tBM(K:Js)(T:String)(r:V->List V->Hp->VK->Prop)(to:TE)(t:TA):TE:=fun σ H Q=>to σ H fun x H1=>tyV K T x H1/\t σ H1 fun xs H2=>r x xs H2 Q
variable{o e:Expr}{es:List Expr}{to:TE}{t:TA}{name:Str}{apos cpos:Pos}{T id:String}{r:V->List V->Hp->VK->Prop}
theorem ij(pa:PlainAttrs T)(slot:Slot T name id) (hty:typeOf (.builtin id)=pure (.type "method_descriptor")) (hm:MtR X id r) (ho:PE X o to) (ha:PA X (e::es) t)
  (hbase:attributeBase o name X.env (eval o X.env)=eval o X.env:=by rfl)
  (hfew:((backTo cpos (starEach (e::es) X.env)).all (fun x=>!x.1)&&(backToKw cpos (keywordEach [] X.env)).all (fun x=>x.1.isSome)
   && decide ((e::es).length+([]:List Keyword).length+(if([]:List Keyword).isEmpty then 0 else 1)<30))=true:=by rfl)
  (hline:(apos.endLine == cpos.line)=true:=by rfl) (hs:starEach (e::es) X.env=(false,eval e X.env)::starEach es X.env:=by rfl) (hplain:(backTo cpos (starEach es X.env)).any (·.1)=false:=by rfl) :
  PE X (.Call (.Attribute o name apos) (e::es) [] cpos) (tBM X.K T r to t):=by
 intro pins s σ H Q I h
 refine wpAny_Call_method_late hbase hfew hline rfl (thn (ho pins s σ H _ I h) fun v s1 ⟨x,H1,I1,r1,ty,q1⟩=>?_)
 obtain⟨h1,h2⟩:=tyV_is I1 r1 ty
 refine⟨T,id,pa,slot,hty,h1,h2,?_⟩
 have hA:=ha cpos pins s1 σ H1 _ I1 q1
 rw[hs]at hA ⊢
 refine Calls.callWith_builtin (by show(false||(backTo cpos (starEach es X.env)).any (·.1))=false;rw[hplain]<;>rfl) (Calls.evalArgs_plain ?_)
 exact thn hA fun us s2 ⟨vs,H2,I2,r2,q2⟩=>hm pins s2 σ H2 x vs v us Q I2 r1 r2 q2
end
end L2
namespace L2
open PySem PySem.Spec PyProof.Rows
def MtM(X:Cx)(id:String)(r:V->List V->Hp->VK->Prop):Prop :=
 ∀(pins:List (Addr×Obj))(s:Shared)(σ:St)(H:Hp)(x:V)(xs:List V)(v:Value)(us:List Value)(Q:VK),Inv X pins σ H s->RelV x v->Vals xs us->r x xs H Q ->
  wpAny (model X.prog X.w) X.A (call (.builtin id) (v::us)) (EP X pins σ Q) X.xe s
theorem Vals.one:∀{x:V}{us:List Value},Vals [x] us->∃ u,us = [u]/\RelV x u
 |_,_,.cons r .nil=>⟨_,rfl,r⟩
theorem Vals.two:∀{x y:V}{us:List Value},Vals [x,y] us->∃ u v,us = [u,v]/\RelV x u/\RelV y v
 |_,_,_,.cons r (.cons q .nil)=>⟨_,_,rfl,r,q⟩
theorem Vals.reverse{xs:List V}{us:List Value}(h:Vals xs us):Vals xs.reverse us.reverse:=by
 induction h with
 |nil=>exact .nil
 |cons r t ih=>rw[List.reverse_cons,List.reverse_cons];exact Vals.append ih (.cons r .nil)
section
variable{X:Cx}{pins:List (Addr×Obj)}{σ:St}{H:Hp}{s:Shared}{l b:Addr}{xs ys zs:List V}
theorem Inv.lset{its its':List Value}{n:Nat}{f:Array Value->Array Value}{t':Nat}(I:Inv X pins σ H s)(hH:H l=some (.lst xs))
  (e:s.heap.get? l=some { cls:=.type "list",data:=.seq its.toArray n }) (hf:f its.toArray=its'.toArray) (hv:Vals ys its') (hz:ys.length<=sizeLine) :
  Inv X pins σ (upd H l (.lst ys)) { s with heap:=s.heap.update l (Obj.mapSeq f),toks:=t' }:=by
 have q:=PySem.IsL.update e f
 rw[hf]at q
 refine I.write (x:=l) (e:=l) (by rw[hH];exact trivial) (.inl rfl) (fun b' u hb hu=>(Heap.get?_update_other s.heap (Obj.mapSeq f) (Ne.symm hb)).trans hu) ⟨_,q⟩ ?_
 exact⟨hz,its',_,hv,q⟩
theorem Inv.lnew{its:List Value}{t':Nat}(I:Inv X pins σ H s)(hv:Vals ys its)(hz:ys.length<=sizeLine) :
  Inv X pins σ (upd H s.heap.objs.size (.lst ys)) { s with heap:=s.heap.push { cls:=.type "list",data:=.seq its.toArray },toks:=t' } :=
 I.laid (fun _ _ q=>Heap.get?_push_of_some _ q) (Jw _) ⟨hz,its,0,hv,Heap.get?_push_size _ rfl⟩
theorem Inv.fresh(I:Inv X pins σ H s):H s.heap.objs.size=none:=I.hok.fresh (Jw _)
theorem Inv.lstM(I:Inv X pins σ H s)(hH:H l=some (.lst xs)):xs.length<=sizeLine/\∃(its:List Value)(n:Nat),Vals xs its/\xs.length=its.length/\s.heap.get? l=some { cls:=.type "list",data:=.seq its.toArray n }:=by
 obtain⟨z,its,n,r,e⟩:=I.hok l _ hH
 exact⟨z,its,n,r,r.length,e⟩
end
section
variable{X:Cx}
def HV:V->List V->Hp->VK->Prop:=fun x vs H Q=>∃ l xs y,x=.ref l/\vs = [y]/\H l=some (.lst xs)/\xs.length<sizeLine/\Q .non (upd H l (.lst (xs++[y])))
theorem bz:MtM X "list.append" HV:=by
 intro pins s σ H x vs v us Q I rx rv h
 obtain⟨l,xs,y,rfl,rfl,hH,hz,q⟩:=h
 cases rx
 obtain⟨u,rfl,ru⟩:=rv.one
 obtain⟨z,its,n,r,hl,e⟩:=I.lstM hH
 refine call_meets F.slot_list_append ⟨_,e,rfl⟩ F.entry_list_append (F.args_list_append_2 _ _) (PySem.list_append l its.toArray n u (by rw[JW];omega)) ⟨e,?_⟩
 refine⟨.non,_,I.lset (its':=its++[u]) hH e (by simp) (r.append (.cons ru .nil)) ?_,rfl,q⟩
 rw[Jt,JF]
 omega
def rCat:R2:=fun x y H Q=>∃ l b xs zs,x=.ref l/\y=.ref b/\H l=some (.lst xs)/\H b=some (.lst zs)/\xs.length+zs.length<=sizeLine/\∀ p,H p=none->Q (.ref p) (upd H p (.lst (xs++zs)))
theorem op_cat:OpR X (binaryOp .Add) rCat:=by
 intro pins s σ H x y v u Q I rx ry h
 obtain⟨l,b,xs,zs,rfl,rfl,hH,hB,hz,q⟩:=h
 cases rx
 cases ry
 obtain⟨z,its,n,r,hl,e⟩:=I.lstM hH
 obtain⟨z2,its2,n2,r2,hl2,e2⟩:=I.lstM hB
 refine PySem.P.add_list e e2 ?_ (by rw[JW,JW];omega)
 have ea:its.toArray++its2.toArray=(its++its2).toArray:=by simp
 rw[ea]
 exact⟨.ref _,_,I.lnew (t':=s.toks) (r.append r2) (by rw[Jt];omega),rfl,q _ I.fresh⟩
end
section
variable{prog:Program}{w:World}{A:Around}{E:Value->Shared->Prop}{s:Shared}
end
section
variable{X:Cx}
end
end L2
namespace Att
open PySem PySem.W PySem.Calls PyProof.Rows
theorem pA{P:Params}{h:Heap}:∀(ns:List Int)(vs:List Value),WellAll P h vs (ns.map WData.int)->IntsAre vs ns:=by
 intro ns
 induction ns with
 |nil =>
  intro vs w
  rw[List.map_nil]at w
  cases w
  exact .nil
 |cons n ns ih =>
  intro vs w
  rw[Kl]at w
  cases w with
  |cons a b =>
   cases a
   exact .cons _ _ (ih _ b)
theorem DF{l:OpenLaw}{n:Nat}(hn:l.most=some n){P:Params}{h:Heap}{args:List WData}{vals:List Value}
  (hpre:l.row.toRowW.claim.pre args=true) (hwl:WellAll P h vals args) :
  ∃ a vs ns,vals = [Value.ref a]/\args = [WData.list (ns.map WData.int)]/\h.get? a=some { cls:=.type "list",data:=.seq vs.toArray }/\IntsAre vs ns/\ns.length<=n:=by
 have hsh:WShape.hasAll [] args [.list .int]=true:=(pre_splitW hpre).1
 have hc:l.pre.holds [] { args:=args }=true:=(pre_splitW hpre).2
 obtain⟨d,r,rfl,h1,h2⟩:=hasAllW_cons hsh
 obtain rfl:=hasAllW_nil h2
 obtain⟨xs,rfl,h3⟩:=hasW_list h1
 obtain⟨ns,rfl⟩:=items_int h3
 have hlen:ns.length<=n:=by
  unfold OpenLaw.pre at hc
  have h4:(WTm.not (.lt (.lit (.int (n:Int))) (.len (.arg 0)))).holds [] { args:=[.list (ns.map .int)] }=true:=by
   have h4:=(holds_andW hc).1
   rw[hn]at h4
   exact h4
  have h5:=condW_of h4 (w_not (w_lt w_lit (w_len_list (w_arg rfl))))
  rw[Jr]at h5
  refine Nat.le_of_not_lt fun q=>?_
  have q':(n:Int)<((ns.length:Nat):Int):=by omega
  first
   | (rw[decide_eq_true q']at h5;exact absurd h5 (by decide))
   | (simp at h5;omega)
 cases hwl with
 |cons w1 w2 =>
  cases w2
  cases w1 with
  |list ho hall=>exact⟨_,_,ns,rfl,rfl,ho,pA ns _ hall,hlen⟩
theorem DM(l:OpenLaw)(args:List WData):l.row.toRowW.claim.post args (.bool true) args=true :=
 postW_of (r:=l.row.toRowW) (X:=(true == true))
  (show WShape.has [] (.bool true) .bool=true by first | rfl | decide | simp[WShape.has,WShape.arms,WShape.armsAll])
  (show(WTm.eq .res (.lit (.bool true))).value [] { args:=args,res:=some (.bool true),after:=args }=some (.bool (true == true)) from w_eq_bool (w_res rfl) w_lit) rfl
theorem attach_call{l:OpenLaw}{n:Nat}{q:Program}{loose:List Str}{XP:(Str->Option Value)->Heap->Prop}{YP:World->Heap->Prop}{d:DefRec}
  (hn:l.most=some n) (hdf:d.params.defaults = [])
  (call:∀(w:World)(s₀ s₁:Shared)(mg mb:Str->Option Value)(fa:Addr)(o:Obj)(pm cd doc:Value)(a:Addr)(vs:List Value)(ns:List Int),
   Ground q loose [] XP w s₀ mg mb s₁.heap->YP w s₁.heap ->
   s₁.heap.get? fa=some o->o.data=.func (docDef d.name d.params d.body d.scope pm cd doc)->s₁.heap.CodeRec cd d.name->mg d.name=some (.ref fa) ->
   s₁.heap.get? a=some { cls:=.type "list",data:=.seq vs.toArray }->IntsAre vs ns->ns.length<=n->s₁.gens=#[] ->
   codeAny (model l.prog w) callerA (.call (.ref fa) ⟨[.ref a],[]⟩) (fun r s'=>r=.ok (.ret (.bool true))/\OldK s₁.heap s'.heap/\s'.os=s₁.os/\AllBare s'.gens) s₁) :
  WalkO q loose XP YP l.row.toRowW d [] (fun f vs=>PySem.call f vs):=by
 intro w s₀ s₁ mg mb G Y fa o pm cd doc dV kV ho hd hcd hD hmg hg args vals as hpre hlay hrd hwl hlo
 obtain rfl:dV=.none:=Dflts.none hD hdf
 obtain rfl:kV=.none:=Dflts.noKw hD
 obtain⟨a,vs,ns,rfl,rfl,hobj,hints,hlen⟩:=DF hn hpre hwl
 refine enter_call (codeAny_mono (call w s₀ s₁ mg mb fa o pm cd doc a vs ns G Y ho (fd_plain hd) hcd hmg hobj hints hlen hg) fun r s' hq=>?_)
 obtain⟨rfl,h2,h3,h4⟩:=hq
 exact⟨.inl ⟨.bool true,.bool true,[],rfl,fun _=>rfl,.bool true,DM l _,fun _=>⟨Mh,fun _ hm=>(nomatch hm)⟩⟩,h2,h3,h4⟩
section
variable{prog:Program}{w:World}{A:Around}{E:Value->Shared->Prop}{s:Shared}{K:Frag}
end
end Att
namespace L2
open PySem PySem.Spec PyProof.Rows
theorem uF:∀{vs:List Value}{ns:List Int},IntsAre vs ns->Vals (ns.map V.int) vs
 |_,_,.nil=>.nil
 |_,_,.cons n t h=>.cons ⟨t,rfl⟩ (uF h)
end L2
namespace L2
open PySem PySem.Spec PyProof.Rows
end L2
namespace L2
open PySem PySem.Spec PyProof.Rows
def lQ(s:Stmt)(j:Nat):Stmt:=match s with
 |.ClassDef _ _ _ body _ _ _ _ _ _ _=>body.getD j (.Pass ⟨0,0,0,0⟩)
 |_=>.Pass ⟨0,0,0,0⟩
def aC(s:Stmt):Arguments:=match s with
 |.FunctionDef _ a _ _ _ _ _ _ _ _=>a
 |_=>{ posonlyargs:=[],args:=[],vararg:=none,kwonlyargs:=[],kw_defaults:=[],kwarg:=none,defaults:=[] }
def aB(s:Stmt):List Stmt:=match s with
 |.FunctionDef _ _ b _ _ _ _ _ _ _=>b
 |_=>[]
def ah(s:Stmt):Scope:=match s with
 |.FunctionDef _ _ _ _ _ _ sc _ _ _=>sc
 |_=>{ kind:=.function,names:=[],isGenerator:=false,isCoroutine:=false }
abbrev CX0:CXT:=fun _ _ _ _ _ _=>False
abbrev E0:XK:=fun _ _ _=>False
theorem aY{X:Cx}:qp CX0 X E0:=fun _ _ _ _ _ _ _ h=>h.elim
structure Fun(K:Js)(x qual:Str)(st:Stmt)(f:Addr)(fd:FuncData):Prop where
 ex:∃(oc:Value)(od:Option Addr)(kV doc pm:Value)(an:Option Addr)(cdv ct:Value)(osl:Array (Option Value)),
  fd=JO x qual (aC st) (aB st) (ah st) .none kV doc pm an cdv ct/\K.lookup f=some ⟨oc,od,.func fd,osl⟩/\JJ K cdv qual=true
 kp:JG K (.ref f)=true
section
variable{P:Program}{w:World}{K:Js}{mg:Str->Option Value}{base:Heap}
theorem Fun.ok{x qual:Str}{st:Stmt}{f:Addr}{fd:FuncData}{N ps:List Str}{k:Nat}{sp:Sp}(F:Fun K x qual st f fd)(S:aE N ps (ah st))(len:∀ vs H Q E,sp vs H Q E->vs.length=ps.length)
  (hbody:∀(cdv:Value)(A:Around)(outer:List Env)(s:Shared)(H:Hp)(vs:List V)(Q:VK)(E:XK),Room k (A.deeper (envOfC qual (ah st) s.heap.objs.size f cdv))->sp vs H Q E ->
   ∃ t,PSs (cxOf CX0 P w K mg base N qual (ah st) f cdv A outer s H E).nox (aB st) t/\t { nx:=fun _ H'=>Q .non H',rt:=Q } (start N vs) H):FnOk P w K mg base CX0 (k+1) f fd ps sp:=by
 obtain⟨oc,od,kV,doc,pm,an,cdv,ct,osl,rfl,lk,hcd⟩:=F.ex
 refine fn_of lk hcd S len fun A outer s H vs Q E hr hsp=>?_
 obtain⟨t,h,q⟩:=hbody cdv A outer s H vs Q E hr hsp
 exact⟨t,h.nox,q⟩
theorem Fun.binds{x qual:Str}{st:Stmt}{f:Addr}{fd:FuncData}{ps:List Str}(F:Fun K x qual st f fd)
  (h:∀(kV doc pm:Value)(an:Option Addr)(cdv ct:Value)(us:List Value),us.length=ps.length->bindArgs (JO x qual (aC st) (aB st) (ah st) .none kV doc pm an cdv ct) ⟨us,[]⟩=pure (ps.zip us)):kZ K fd ps []:=by
 obtain⟨oc,od,kV,doc,pm,an,cdv,ct,osl,rfl,lk,hcd⟩:=F.ex
 exact .all (h kV doc pm an cdv ct)
theorem aP{x qual:Str}{st:Stmt}{f:Addr}{oc:Value}{od an:Option Addr}{osl:Array (Option Value)}{kV doc pm cdv ct:Value}(l:K.lookup f=some ⟨oc,od,.func (JO x qual (aC st) (aB st) (ah st) .none kV doc pm an cdv ct),osl⟩)
  (c:JJ K cdv qual=true) (k:JG K (.ref f)=true):Fun K x qual st f (JO x qual (aC st) (aB st) (ah st) .none kV doc pm an cdv ct):=⟨⟨oc,od,kV,doc,pm,an,cdv,ct,osl,rfl,l,c⟩,k⟩
end
theorem wb{A:Around}{k:Nat}(hr:Room k A):A.units+1<cLine:=Lk (Nat.add_le_add_left (by decide:1<=64) _) hr.units
theorem ax{n:Nat}(h:n<=1000):n<sizeLine:=Lk h (by decide)
section
variable{X:Cx}
theorem pv(i:Nat){x:Str}{pos:Pos}(hN:X.N[i]?=some x:=by rfl)(hv:Vis X.env.scope x:=by first | exact Or.inl rfl | exact Or.inr (Or.inl rfl) | exact Or.inr (Or.inr rfl)) (hd:(x == ("__debug__" : Str))=false:=by decide)
  (hcd:(x == ("__classdict__" : Str))=false:=by decide):PE X (.Name x pos) (tVar i):=pe_var hN hv hd hcd
end
theorem iteF{A B:Prop}(h:B):if false=true then A else B:=by
 rw[if_neg JZ]
 exact h
theorem iteT{A B:Prop}(h:A):if true=true then A else B:=by
 rw[if_pos rfl]
 exact h
theorem ite2{c A B:Prop} [Decidable c] (h1:c->A) (h2:¬ c->B):if c then A else B:=by
 by_cases h:c
 ·rw[if_pos h]
  exact h1 h
 ·rw[if_neg h]
  exact h2 h
theorem iteNS{c A B:Prop} [Decidable c] (hc:c) (h:B):if(!decide c)=true then A else B:=by
 rw[decide_eq_true hc]
 exact iteF h
def Same(H H':Hp):Prop:=∀ b o,H b=some o->H' b=some o
theorem Same.trans{H H1 H2:Hp}(a:Same H H1)(b:Same H1 H2):Same H H2:=fun c o h=>b c o (a c o h)
theorem Same.seq{K:Js}{H H':Hp}{a:Addr}{xs:List V}(e:Same H H')(h:SqL K H a xs):SqL K H' a xs:=by
 rcases h with(h | ⟨o,h⟩) | h
 ·exact .inl (.inl (e _ _ h))
 ·exact .inl (.inr ⟨o,e _ _ h⟩)
 ·exact .inr h
end L2
set_option maxRecDepth 100000
set_option maxHeartbeats 4000000
namespace L2
open PySem PySem.Spec PyProof.Rows
end L2
namespace L2
open PySem PySem.Spec PyProof.Rows
section
variable(P:Program)(w:World)
end
section
variable{P:Program}{w:World}{H H':Hp}{h h':Heap}{a:Addr}{o:HO}
end
section
variable{P:Program}{w:World}{H:Hp}{h h':Heap}{x e:Addr}{o':HO}
end
section
variable{fs fs' ex ex':List Addr}{H H1 H2:Hp}{h h1 h2 h':Heap}{a x e:Addr}{o:HO}
end
end L2
namespace L2
open PySem PySem.Spec PyProof.Rows
section
variable{X:Cx}{pins:List (Addr×Obj)}{σ:List (Option V)}{H H':Hp}{s:Shared}{h':Heap}
end
end L2
namespace L2
open PySem PySem.Spec PyProof.Rows
section
variable{X:Cx}
variable{a b:Expr}{ta tb:TE}{pos:Pos}
variable{tA tB':TT}{rest:List Expr}
end
end L2
namespace L2
open PySem PySem.Spec PyProof.Rows
section
variable{X:Cx}{pins:List (Addr×Obj)}{σ:St}{H:Hp}{s:Shared}{a:Addr}{xs ys:List V}
end
section
variable{X:Cx}{pins:List (Addr×Obj)}{σ:St}{H:Hp}{s:Shared}{E:Value->Shared->Prop}
end
section
variable{X:Cx}{st:Stmt}{rest:List Stmt}{t u:TS}{e:Expr}{te:TE}{pos:Pos}
end
section
variable{X:Cx}{pos:Pos}
end
section
variable{X:Cx}{pos:Pos}
end
end L2
namespace L2
open PySem PySem.Spec PyProof.Rows
section
variable{X:Cx}{tg:Expr}
end
end L2
namespace L2
open PySem PySem.Spec PyProof.Rows
section
variable{X:Cx}{a b c:Expr}{ta tb tc:TE}{pos:Pos}
end
section
variable{X:Cx}{a b c:Expr}{ta tb tc:TE}{pos:Pos}
end
end L2
namespace L2
open PySem PySem.Spec PyProof.Rows
section
variable{prog:Program}{w:World}{A:Around}{E:Value->Shared->Prop}{s:Shared}{K:Js}{x dx C f:Addr}{mA:Str->Option Value}{name:Str}{v:Value}
end
section
variable{P:Program}{w:World}{H H':Hp}{h h':Heap}{a C dx:Addr}{fs fs':List (Str×V)}
end
section
variable{X:Cx}{pins:List (Addr×Obj)}{σ:St}{H:Hp}{s:Shared}{a C dx:Addr}{fs:List (Str×V)}{f:Str}{v:V}{A:Around}{E:Value->Shared->Prop}
end
section
variable{X:Cx}{o e value:Expr}{f:Str}{pos pos' tpos:Pos}{ta tv:TE}
end
section
variable{X:Cx}{pins:List (Addr×Obj)}{σ:St}{H:Hp}{s:Shared}{A:Around}{E:Value->Shared->Prop}{Q:Value->Shared->Prop}{c:Value}{b:Bool}
end
end L2
namespace L2
open PySem PySem.Spec PyProof.Rows
section
variable{X:Cx}{e:Expr}{es:List Expr}{te:TE}{t:TA}{pos:Pos}
end
section
variable{X:Cx}{pins:List (Addr×Obj)}{σ:St}{H:Hp}{s s':Shared}
end
section
variable{X:Cx}{CX:CXT}{k:Nat}{f C:Addr}{fd:FuncData}{ps:List Str}{sp:Sp}{dvs:List V}{ds:List Value}{E:XK}{x m:Str}{p pos apos:Pos}{e o:Expr}{es:List Expr}{ta:TE}{t:TA}
end
section
variable{X:Cx}{CX:CXT}{k:Nat}{f C:Addr}{fd:FuncData}{ps ks:List Str}{sp:Sp}{E:XK}{x m:Str}{p pos apos kpos:Pos}{e o:Expr}{es:List Expr}{kws:List Keyword}{te ta:TE}{t tk:TA}{nm:Option Str}
variable{g:List Value->List Value->List Value}{gV:List V->List V->List V}
end
end L2
namespace L2
open PySem PySem.Spec PyProof.Rows
section
variable{X:Cx}{x:Str}{p pos:Pos}{e:Expr}{es:List Expr}{t:TA}{id T:String}{r:List V->Hp->VK->Prop}
end
end L2
namespace L2
open PySem PySem.Spec PyProof.Rows
section
variable{κ:Type} [DecidableEq κ]
def valV(kvs:List (κ×V))(k:κ):Option V:=(kvs.find? fun kv=>decide (kv.1=k)).map (·.2)
def putK(kvs:List (κ×V))(k:κ)(v:V):List (κ×V) :=
 if(kvs.any fun kv=>decide (kv.1=k))=true then kvs.map (fun kv=>if kv.1=k then(kv.1,v) else kv) else kvs++[(k,v)]
theorem cA{p:κ×V}{r:List (κ×V)}{k:κ}(e:p.1=k):valV (p::r) k=some p.2:=by simp[valV,Lz,e]
theorem cC{p:κ×V}{r:List (κ×V)}{k:κ}(e:¬ p.1=k):valV (p::r) k=valV r k:=by simp[valV,Lz,e]
theorem i6(k:κ):∀ kvs:List (κ×V),(kvs.any fun kv=>decide (kv.1=k))=(valV kvs k).isSome
 |[]=>rfl
 |p::r=>by
  rw[MO]
  by_cases e:p.1=k
  ·simp only[cA e,decide_eq_true e,Bool.true_or,Option.isSome_some]
  ·rw[cC e,decide_eq_false e,Bool.false_or];exact i6 k r
theorem AD(k j:κ)(y:V):∀ kvs:List (κ×V),valV (kvs.map fun kv=>if kv.1=k then(kv.1,y) else kv) j=(valV kvs j).map fun x=>if j=k then y else x
 |[]=>rfl
 |p::r=>by
  have ih:=AD k j y r
  rw[Kl]
  by_cases h:p.1=k
  ·rw[if_pos h]
   by_cases e:p.1=j
   ·rw[cA (p:=(p.1,y)) e,cA e,Mr,if_pos (e.symm.trans h)]
   ·rw[cC (p:=(p.1,y)) e,cC e,ih]
  ·rw[if_neg h]
   by_cases e:p.1=j
   ·rw[cA (p:=p) e,cA e,Mr,if_neg (fun z=>h (e.trans z))]
   ·rw[cC (p:=p) e,cC e,ih]
theorem uG(k j:κ)(y:V):∀ kvs:List (κ×V),valV kvs k=none->valV (kvs++[(k,y)]) j=if j=k then some y else valV kvs j
 |[],_=>by
  by_cases e:k=j
  ·rw[if_pos e.symm];exact cA (p:=(k,y)) e
  ·rw[if_neg (fun z=>e z.symm)];exact cC (p:=(k,y)) e
 |p::r,hn=>by
  rw[Lj]
  have hk:¬ p.1=k:=fun z=>by rw[cA z]at hn;cases hn
  rw[cC hk]at hn
  have ih:=uG k j y r hn
  by_cases e:p.1=j
  ·rw[cA e,cA e,if_neg (fun z=>hk (e.trans z))]
  ·rw[cC e,cC e,ih]
theorem ke(kvs:List (κ×V))(k j:κ)(y:V):valV (putK kvs k y) j=if j=k then some y else valV kvs j:=by
 unfold putK
 by_cases a:(kvs.any fun kv=>decide (kv.1=k))=true
 ·rw[if_pos a,AD]
  rw[i6]at a
  by_cases e:j=k
  ·obtain⟨x,hx⟩:=Nn.mp a
   rw[if_pos e,e,hx,Mr,if_pos rfl]
  ·rw[if_neg e]
   cases valV kvs j with
   |none=>rfl
   |some x=>rw[Mr,if_neg e]
 ·rw[if_neg a]
  refine uG k j y kvs ?_
  rw[i6]at a
  cases q:valV kvs k with
  |none=>rfl
  |some x=>rw[q]at a;exact(a rfl).elim
theorem b9(kvs:List (κ×V))(k:κ)(v:V):(putK kvs k v).length<=kvs.length+1:=by
 unfold putK
 split
 ·rw[Jr];omega
 ·rw[Jt,J2,Lo];omega
theorem FE{kvs:List (κ×V)}{k:κ}(v:V)(h:valV kvs k=none):putK kvs k v=kvs++[(k,v)]:=by
 unfold putK
 rw[i6,h]
 exact if_neg (by decide)
theorem RelO.isSome_eq{o:Option V}{u:Option Value}(r:RelO o u):o.isSome=u.isSome:=by
 cases o with
 |none=>cases u with
  |none=>rfl
  |some _=>exact(show False from r).elim
 |some _=>cases u with
  |none=>exact(show False from r).elim
  |some _=>rfl
theorem KV.val{kvs:List (κ×V)}{vs:List (κ×Value)}(r:KV kvs vs)(k:κ):RelO (valV kvs k) (valueAt vs k):=by
 unfold KV at r
 induction r with
 |nil=>exact True.intro
 | @cons p q ps qs h t ih =>
  obtain⟨h1,h2⟩:=h
  by_cases e:p.1=k
  ·have e':q.1=k:=h1.symm.trans e
   have b:valueAt (q::qs) k=some q.2:=by simp[valueAt,Lz,e']
   rw[cA e,b];exact h2
  ·have e':¬ q.1=k:=fun z=>e (h1.trans z)
   have b:valueAt (q::qs) k=valueAt qs k:=by simp[valueAt,Lz,e']
   rw[cC e,b];exact ih
theorem KV.any{kvs:List (κ×V)}{vs:List (κ×Value)}(r:KV kvs vs)(k:κ):(kvs.any fun kv=>decide (kv.1=k))=vs.any fun kv=>decide (kv.1=k):=by
 unfold KV at r
 induction r with
 |nil=>rfl
 |cons h t ih=>rw[MO,MO,ih,h.1]
theorem KV.repl{kvs:List (κ×V)}{vs:List (κ×Value)}(r:KV kvs vs)(k:κ){y:V}{u:Value}(ry:RelV y u) :
  KV (kvs.map fun kv=>if kv.1=k then(kv.1,y) else kv) (vs.map fun kv=>if kv.1=k then(kv.1,u) else kv):=by
 unfold KV at r ⊢
 induction r with
 |nil=>exact .nil
 | @cons p q ps qs h t ih =>
  rw[Kl,Kl]
  refine .cons ?_ ih
  obtain⟨h1,h2⟩:=h
  by_cases e:p.1=k
  ·rw[if_pos e,if_pos (h1.symm.trans e)];exact⟨h1,ry⟩
  ·rw[if_neg e,if_neg (fun z=>e (h1.trans z))];exact⟨h1,h2⟩
theorem KV.put{kvs:List (κ×V)}{vs:List (κ×Value)}(r:KV kvs vs)(k:κ){y:V}{u:Value}(ry:RelV y u):KV (putK kvs k y) (stored vs k u):=by
 unfold putK stored
 rw[r.any k]
 by_cases e:(vs.any fun kv=>decide (kv.1=k))=true
 ·rw[if_pos e,if_pos e];exact r.repl k ry
 ·rw[if_neg e,if_neg e];exact Paired.snoc r ⟨rfl,ry⟩
theorem KV.length{kvs:List (κ×V)}{vs:List (κ×Value)}(r:KV kvs vs):kvs.length=vs.length:=Paired.length r
end
theorem Ck{P:Program}{w:World}{k:Key}{u:Value}(r:RelV (kV k) u):(bL P w).is k u=true:=by
 cases k with
 |inl i=>obtain⟨t,e⟩:=(show ∃ t,u=Value.int i t from r);subst e;exact y4 P w i t
 |inr x=>obtain⟨t,e⟩:=(show ∃ t,u=Value.str x t from r);subst e;exact yZ P w x t
theorem vX{P:Program}{w:World}:∀{ks:List Key}{us:List Value},Vals (ks.map kV) us->ItemsAre (bL P w) ks us
 |[],_,r=>by rw[List.map_nil]at r;cases r;exact .nil
 |k::ks,_,r=>by
  rw[Kl]at r
  cases r with
  |cons h t=>exact .cons (Ck h) (vX t)
abbrev KT(H:Hp):List (List Key×V)->List (List Key×Addr×Value)->Prop:=Paired fun p q=>p.1=q.1/\H q.2.1=some (.tup (p.1.map kV))/\RelV p.2 q.2.2
theorem KT.val{H:Hp}{kvs:List (List Key×V)}{xs:List (List Key×Addr×Value)}(r:KT H kvs xs)(k:List Key):RelO (valV kvs k) ((atKey xs k).map (·.2)):=by
 induction r with
 |nil=>exact True.intro
 | @cons p q ps qs h t ih =>
  obtain⟨h1,_,h2⟩:=h
  by_cases e:p.1=k
  ·have e':q.1=k:=h1.symm.trans e
   have b:atKey (q::qs) k=some q.2:=by simp[atKey,Lz,e']
   rw[cA e,b];exact h2
  ·have e':¬ q.1=k:=fun z=>e (h1.trans z)
   have b:atKey (q::qs) k=atKey qs k:=by simp[atKey,Lz,e']
   rw[cC e,b];exact ih
theorem KT.repl{H:Hp}{kvs:List (List Key×V)}{xs:List (List Key×Addr×Value)}(r:KT H kvs xs)(k:List Key){y:V}{u:Value}(ry:RelV y u) :
  KT H (kvs.map fun kv=>if kv.1=k then(kv.1,y) else kv) (xs.map (putAt k u)):=by
 induction r with
 |nil=>exact .nil
 | @cons p q ps qs h t ih =>
  rw[Kl,Kl]
  refine .cons ?_ ih
  obtain⟨h1,h2,h3⟩:=h
  unfold putAt
  by_cases e:p.1=k
  ·rw[if_pos e,if_pos (h1.symm.trans e)];exact⟨h1,h2,ry⟩
  ·rw[if_neg e,if_neg (fun z=>e (h1.trans z))];exact⟨h1,h2,h3⟩
theorem KT.put{H:Hp}{kvs:List (List Key×V)}{xs:List (List Key×Addr×Value)}(r:KT H kvs xs)(k:List Key){b:Addr}{y:V}{u:Value}(hb:H b=some (.tup (k.map kV)))(ry:RelV y u) :
  KT H (putK kvs k y) (storedH xs k b u):=by
 have e:(kvs.any fun kv=>decide (kv.1=k))=(atKey xs k).isSome:=by
  rw[i6,(r.val k).isSome_eq,MR]
 unfold putK storedH
 rw[e]
 by_cases q:(atKey xs k).isSome=true
 ·rw[if_pos q,if_pos q];exact r.repl k ry
 ·rw[if_neg q,if_neg q];exact Paired.snoc r ⟨rfl,hb,ry⟩
theorem KT.keeps{H H':Hp}{kvs:List (List Key×V)}{xs:List (List Key×Addr×Value)}(r:KT H kvs xs)(ht:∀ b ys,H b=some (.tup ys)->H' b=some (.tup ys)):KT H' kvs xs :=
 Paired.mapP r fun _ _ z=>⟨z.1,ht _ _ z.2.1,z.2.2⟩
section
variable{P:Program}{w:World}{H:Hp}{h:Heap}{a:Addr}
theorem rd_of{u:HO}(ok:HOk P w H h)(e:Rd H a u):bI P w H h a u:=e.ok ok
theorem Cq{kvs:List (Key×V)}(ok:HOk P w H h)(e:Rd H a (.dK kvs)):kvs.length<=sizeLine/\(a == sysModules)=false/\∃ vs,KV kvs vs/\h.DictOf (bL P w) a vs :=
 show bI P w H h a (.dK kvs) from rd_of ok e
theorem dk_of{kvs:List (Key×V)}(ok:HOk P w H h)(e:H a=some (.dK kvs)):kvs.length<=sizeLine/\(a == sysModules)=false/\∃ vs,KV kvs vs/\h.DictOf (bL P w) a vs:=Cq ok (.inl e)
theorem vN{ks:List Key}(ok:HOk P w H h)(e:H a=some (.tup (ks.map kV))):(tupleKind (bL P w)).is h ks a:=by
 obtain⟨_,its,r,o,h1,h2,n,h3⟩:=(show bI P w H h a (.tup (ks.map kV)) from ok a _ e)
 exact⟨o,its.toArray,n,h1,h2,h3,by simpa using vX r⟩
theorem EL{kvs:List (List Key×V)}(ok:HOk P w H h)(e:Rd H a (.dT kvs)):kvs.length<=sizeLine/\(a == sysModules)=false /\
  ∃ xs,KT H kvs xs/\h.DictOfH (tupleKind (bL P w)) a xs:=by
 obtain⟨z,y,xs,r,o,es,ep,h1,h2,h3,h4,h5⟩:=(show bI P w H h a (.dT kvs) from rd_of ok e)
 refine⟨z,y,xs,r,o,es,ep,h1,h2,h3,h4,fun x hx=>?_,h5⟩
 have all:∀{l:List (List Key×V)}{m:List (List Key×Addr×Value)},KT H l m->∀ x∈m,(tupleKind (bL P w)).is h x.1 x.2.1:=by
  intro l m q
  induction q with
  |nil=>intro x hx;exact nomatch hx
  | @cons p q ps qs hq t ih =>
   intro x hx
   rcases Ju.mp hx with e | hx
   ·subst e
    exact vN ok (by rw[← hq.1];exact hq.2.1)
   ·exact ih x hx
 exact all r x hx
theorem dt_of{kvs:List (List Key×V)}(ok:HOk P w H h)(e:H a=some (.dT kvs)):kvs.length<=sizeLine/\(a == sysModules)=false /\
  ∃ xs,KT H kvs xs/\h.DictOfH (tupleKind (bL P w)) a xs:=EL ok (.inl e)
end
def DGet(H:Hp)(a:Addr)(y:V)(r:Option V):Prop :=
 (∃ kvs k,Rd H a (.dK kvs)/\y=kV k/\r=valV kvs k)∨∃ kvs k b,Rd H a (.dT kvs)/\y=.ref b/\H b=some (.tup (k.map kV))/\r=valV kvs k
def DPut(H:Hp)(a:Addr)(y v:V)(H':Hp):Prop :=
 (∃ kvs k,H a=some (.dK kvs)/\y=kV k/\kvs.length<sizeLine/\H'=upd H a (.dK (putK kvs k v))) ∨
 ∃ kvs k b,H a=some (.dT kvs)/\y=.ref b/\H b=some (.tup (k.map kV))/\kvs.length<sizeLine/\H'=upd H a (.dT (putK kvs k v))
theorem DGet.k{H:Hp}{a:Addr}{kvs:List (Key×V)}{k:Key}(e:H a=some (.dK kvs)):DGet H a (kV k) (valV kvs k):=.inl ⟨kvs,k,.inl e,rfl,rfl⟩
theorem DPut.k{H:Hp}{a:Addr}{kvs:List (Key×V)}{k:Key}{v:V}(e:H a=some (.dK kvs))(hl:kvs.length<sizeLine):DPut H a (kV k) v (upd H a (.dK (putK kvs k v))):=.inl ⟨kvs,k,e,rfl,hl,rfl⟩
section
variable{X:Cx}{pins:List (Addr×Obj)}{σ:St}{H:Hp}{s:Shared}{a:Addr}{y v:V}{u r:Value}{o:Option V}{A:Around}{E:Value->Shared->Prop}
theorem Inv.big(I:Inv X pins σ H s):sysModules<s.heap.objs.size:=by
 have h:mainGlobals<s.heap.objs.size:=(I.mod.glob.keeps I.bk).lt
 exact Lp (by decide) h
theorem EU{Q:Value->Shared->Prop}(hu:A.units+1<cLine)(I:Inv X pins σ H s)(g:DGet H a y (some v))(ry:RelV y u)(h:∀ w' s',Inv X pins σ H s'->RelV v w'->Q w' s') :
  wpAny (model X.prog X.w) A (getItem (.ref a) u) Q E s:=by
 rcases g with⟨kvs,k,e,ey,l⟩ | ⟨kvs,k,b,e,ey,eb,l⟩
 ·subst ey
  obtain⟨z,hd,vs,rel,dd⟩:=Cq I.hok e
  obtain⟨w',hw,rw'⟩:=RelO.some_of (v:=v) (o:=valueAt vs k) (by rw[l];exact rel.val k)
  exact wpAny_getItem_of (Ck ry) dd.mapOf hw (h w' _ (I.tok _) rw')
 ·subst ey
  cases (show u=Value.ref b from ry)
  obtain⟨z,hd,xs,rel,dd⟩:=EL I.hok e
  obtain⟨w',hw,rw'⟩:=RelO.some_of (v:=v) (o:=(atKey xs k).map (·.2)) (by rw[l];exact rel.val k)
  obtain⟨p,hp,hp2⟩:=Kj.mp hw
  refine wpAny_getItem_heap (tupleKind_room_in1 hu) (vN I.hok eb) dd hp ?_
  rw[hp2]
  exact h w' _ (I.tok _) rw'
theorem d_in{Q:Value->Shared->Prop}(hu:A.units+1<cLine)(I:Inv X pins σ H s)(g:DGet H a y o)(ry:RelV y u)(h:∀ s',Inv X pins σ H s'->Q (.bool o.isSome) s') :
  wpAny (model X.prog X.w) A (compareOp .In u (.ref a)) Q E s:=by
 rcases g with⟨kvs,k,e,ey,l⟩ | ⟨kvs,k,b,e,ey,eb,l⟩
 ·subst ey
  obtain⟨z,hd,vs,rel,dd⟩:=Cq I.hok e
  refine wpAny_in_of (Ck ry) hd dd.mapOf ?_
  rw[← (rel.val k).isSome_eq,← l]
  exact h _ (I.tok _)
 ·subst ey
  cases (show u=Value.ref b from ry)
  obtain⟨z,hd,xs,rel,dd⟩:=EL I.hok e
  refine wpAny_in_heap (tupleKind_room_in1 hu) (vN I.hok eb) hd dd ?_
  have q:=(rel.val k).isSome_eq
  rw[MR]at q
  rw[← q,← l]
  exact h _ (I.tok _)
theorem I9{Q:Value->Shared->Prop}(hu:A.units+1<cLine)(I:Inv X pins σ H s)(g:DGet H a y o)(ry:RelV y u)(h:∀ s',Inv X pins σ H s'->Q (.bool (!o.isSome)) s') :
  wpAny (model X.prog X.w) A (compareOp .NotIn u (.ref a)) Q E s:=by
 rcases g with⟨kvs,k,e,ey,l⟩ | ⟨kvs,k,b,e,ey,eb,l⟩
 ·subst ey
  obtain⟨z,hd,vs,rel,dd⟩:=Cq I.hok e
  refine wpAny_notIn_of (Ck ry) hd dd.mapOf ?_
  rw[← (rel.val k).isSome_eq,← l]
  exact h _ (I.tok _)
 ·subst ey
  cases (show u=Value.ref b from ry)
  obtain⟨z,hd,xs,rel,dd⟩:=EL I.hok e
  refine wpAny_notIn_heap (tupleKind_room_in1 hu) (vN I.hok eb) hd dd ?_
  have q:=(rel.val k).isSome_eq
  rw[MR]at q
  rw[← q,← l]
  exact h _ (I.tok _)
theorem zP{h':Heap}{t':Nat}{ob:HO}(I:Inv X pins σ H s)(mu:Mut (H a))(hs:Heap.SameBut a s.heap h')(he:∃ q,h'.get? a=some q)(new:bI X.prog X.w (upd H a ob) h' a ob) :
  Inv X pins σ (upd H a ob) { s with heap:=h',toks:=t' } :=
 I.write (x:=a) (e:=a) mu (.inl rfl) (fun b q hb z=>(hs.2 b hb).trans z) he new
theorem Hq{P:Program}{w:World}{H':Hp}{h':Heap}{kvs:List (Key×V)}{vs:List (Key×Value)}(z:kvs.length<=sizeLine)(hd:(a == sysModules)=false)(rel:KV kvs vs)(dd:h'.DictOf (bL P w) a vs) :
  bI P w H' h' a (.dK kvs):=⟨z,hd,vs,rel,dd⟩
theorem ET{H':Hp}{Q:Unit->Shared->Prop}(hu:A.units+1<cLine)(I:Inv X pins σ H s)(g:DPut H a y v H')(ry:RelV y u)(rv:RelV v r)(h:∀ s',Inv X pins σ H' s'->Q () s') :
  wpAny (model X.prog X.w) A (setItem (.ref a) u r) Q E s:=by
 rcases g with⟨kvs,k,e,ey,l,eH⟩ | ⟨kvs,k,b,e,ey,eb,l,eH⟩
 ·subst ey eH
  obtain⟨z,hd,vs,rel,dd⟩:=dk_of I.hok e
  have hz:vs.length<=sizeLine:=by rw[← rel.length];exact z
  have hl:(putK kvs k v).length<=sizeLine:=by have:=b9 kvs k v;omega
  refine wpAny_setItem_pairs (hsz:=hz) (Ck ry) dd fun h' dd' hs=>h _ ?_
  have he:∃ q,h'.get? a=some q:=let ⟨q,_,_,hq,_⟩:=dd';⟨q,hq⟩
  exact zP I (by rw[e];exact True.intro) hs he (Hq hl hd (rel.put k rv) dd')
 ·subst ey eH
  cases (show u=Value.ref b from ry)
  obtain⟨z,hd,xs,rel,dd⟩:=dt_of I.hok e
  have hz:xs.length<=sizeLine:=by rw[← Paired.length rel];exact z
  have hl:(putK kvs k v).length<=sizeLine:=by have:=b9 kvs k v;omega
  refine wpAny_setItem_heap (hsz:=hz) (tupleKind_room_in1 hu) (vN I.hok eb) dd fun h' dd' hs=>h _ ?_
  obtain⟨q,es,ep,hq,h2,h3,h4,_,h5⟩:=dd'
  refine zP I (by rw[e];exact True.intro) hs ⟨q,hq⟩ ⟨hl,hd,_,(rel.put k eb rv).keeps fun c ys ec=>?_,q,es,ep,hq,h2,h3,h4,h5⟩
  rw[ak (ne_of ec e (fun z=>nomatch z))]
  exact ec
end
section
variable{X:Cx}{pins:List (Addr×Obj)}{σ:St}{H:Hp}{s:Shared}{a:Addr}{kvs:List (Key×V)}{k:Key}{u:Value}{A:Around}{E:Value->Shared->Prop}
end
def NoSl(i:Expr):Prop:=∀ ov iv,subscripted i false ov iv=operate [ov,iv] (getItem ov iv)
theorem HI{prog:Program}{w:World}{A:Around}{E:Value->Shared->Prop}{s:Shared}{env:Env}{value slice:Expr}{pos:Pos}{T id:String}{Q:Value->Shared->Prop}
  (hl:typeLookup (.type T) "__getitem__" = pure (some (.builtin id))) (hs:NoSl slice)
  (h:wpAny (model prog w) A (eval value env) (fun o s₁=>wpAny (model prog w) A (eval slice env) (fun i s₂=>s₂.TypeIs o T/\wpAny (model prog w) A (getItem o i) Q E s₂) E s₁) E s) :
  wpAny (model prog w) A (eval (.Subscript value slice pos) env) Q E s:=by
 refine Subscript_ (wpAny_mono h (fun o s₁ h₁=>wpAny_mono h₁ (fun i s₂ h₂=>?_) fun _ _ x=>x) fun _ _ x=>x)
 obtain⟨hT,h₂⟩:=h₂
 unfold subscriptTail
 refine wpAny_bind ?_
 rw[getitemInPython_of_ne hT.not_modules]
 refine wpAny_bind (wpAny_specialOf hT hl ?_)
 have fin:wpAny (model prog w) A (subscripted slice false o i) (fun r s₃=>wpAny (model prog w) A (letTemporaryGo value o r >>= fun _=>pure r) Q E s₃) E s₂:=by
  rw[hs o i]
  exact wpAny_operating (wpAny_mono h₂ (fun r s₃ h₃=>wpAny_bind (wpAny_letTemporaryGo (wpAny_pure h₃))) fun _ _ x=>x)
 first
  |exact wpAny_pure (wpAny_bind fin)
  |exact wpAny_bind (wpAny_pure (wpAny_bind fin))
  |exact wpAny_bind fin
theorem zH{X:Cx}{pins:List (Addr×Obj)}{σ:St}{H:Hp}{s:Shared}{a:Addr}{y:V}{o:Option V}(I:Inv X pins σ H s)(g:DGet H a y o):s.TypeIs (.ref a) "dict":=by
 rcases g with⟨kvs,k,e,_,_⟩ | ⟨kvs,k,b,e,_,_,_⟩
 ·obtain⟨_,_,vs,_,dd⟩:=Cq I.hok e
  exact dd.typeIs
 ·obtain⟨_,_,xs,_,dd⟩:=EL I.hok e
  exact dd.typeIs
def tDGet(td ty:TE):TE:=fun σ H Q=>td σ H fun x H1=>ty σ H1 fun y H2=>∃ a v,x=.ref a/\DGet H2 a y (some v)/\Q v H2
def tDIn(ty td:TE):TE:=fun σ H Q=>ty σ H fun y H1=>td σ H1 fun x H2=>∃ a o,x=.ref a/\DGet H2 a y o/\Q (.bl o.isSome) H2
def HH(ty td:TE):TE:=fun σ H Q=>ty σ H fun y H1=>td σ H1 fun x H2=>∃ a o,x=.ref a/\DGet H2 a y o/\Q (.bl (!o.isSome)) H2
def sDPut(td ty tv:TE):TS:=fun D σ H=>tv σ H fun v H1=>td σ H1 fun x H2=>ty σ H2 fun y H3=>∃ a H4,x=.ref a/\DPut H3 a y v H4/\D.nx σ H4
section
variable{X:Cx}{o i e value:Expr}{pos pos' tpos:Pos}{td ty tv:TE}
theorem yF(hu:X.A.units+1<cLine)(ho:PE X o td)(hi:PE X i ty)(hs:NoSl i):PE X (.Subscript o i pos) (tDGet td ty):=by
 intro pins s σ H Q I h
 refine HI PySem.F.slot_dict_getitem.lookup hs (thn (ho pins s σ H _ I h) fun u s1 ⟨x,H1,I1,rx,q1⟩=>thn (hi pins s1 σ H1 _ I1 q1) fun iv s2 ⟨y,H2,I2,ry,a,v,ex,g,q2⟩=>?_)
 subst ex
 obtain rfl:u=Value.ref a:=rx
 exact⟨zH I2 g,EU hu I2 g ry fun w' s3 I3 rw'=>⟨v,H2,I3,rw',q2⟩⟩
theorem AV(hu:X.A.units+1<cLine)(hi:PE X i ty)(ho:PE X o td):PC X .In i o (tDIn ty td):=by
 intro pins s σ H Q I h
 refine thn (hi pins s σ H _ I h) fun iv s1 ⟨y,H1,I1,ry,q1⟩=>thn (ho pins s1 σ H1 _ I1 q1) fun u s2 ⟨x,H2,I2,rx,a,ov,ex,g,q2⟩=>?_
 subst ex
 obtain rfl:u=Value.ref a:=rx
 exact d_in hu I2 g ry fun s3 I3=>⟨.bl ov.isSome,H2,I3,rfl,q2⟩
theorem oH(hu:X.A.units+1<cLine)(hi:PE X i ty)(ho:PE X o td):PC X .NotIn i o (HH ty td):=by
 intro pins s σ H Q I h
 refine thn (hi pins s σ H _ I h) fun iv s1 ⟨y,H1,I1,ry,q1⟩=>thn (ho pins s1 σ H1 _ I1 q1) fun u s2 ⟨x,H2,I2,rx,a,ov,ex,g,q2⟩=>?_
 subst ex
 obtain rfl:u=Value.ref a:=rx
 exact I9 hu I2 g ry fun s3 I3=>⟨.bl (!ov.isSome),H2,I3,rfl,q2⟩
theorem oB(hu:X.A.units+1<cLine)(ho:PE X o td)(hi:PE X i ty)(hv:PE X value tv)(hs:swapsWith value (some (.Subscript o i pos')) pos.line X.env=pure false) :
  PS X (.Assign [.Subscript o i pos'] value pos) (sDPut td ty tv):=by
 intro pins s σ H D I h
 refine wpAny_Assign_Subscript (thn (hv pins s σ H _ I h) fun r s1 ⟨v,H1,I1,rv,q1⟩=>thn (ho pins s1 σ H1 _ I1 q1) fun u s2 ⟨x,H2,I2,rx,q2⟩=>thn (hi pins s2 σ H2 _ I2 q2) fun iv s3 ⟨y,H3,I3,ry,a,H4,ex,g,q3⟩=>?_) hs
 subst ex
 obtain rfl:u=Value.ref a:=rx
 exact ET hu I3 g ry rv fun s4 I4=>⟨σ,H4,I4,q3⟩
end
theorem Bh{P:Program}{w:World}{H:Hp}(h:Heap)(hb:sysModules<h.objs.size):bI P w H (h.push { cls:=.type "dict",data:=.dict #[] }) h.objs.size (.dK []) :=
 ⟨Ku _,beq_eq_false_iff_ne.mpr (Ne.symm (JN hb)),[],.nil,Heap.DictOf.new h⟩
def tDNewK:TE:=fun _ H Q=>∀ p,H p=none->Q (.ref p) (upd H p (.dK []))
section
variable{X:Cx}{pos:Pos}
theorem nZ:PE X (.Dict [] [] pos) tDNewK:=fun pins s σ H Q I h =>
 wpAny_Dict_empty ⟨.ref s.heap.objs.size,_,I.laid (a:=s.heap.objs.size) (o:=.dK []) (t':=s.toks) (fun _ _ q=>Heap.get?_push_of_some _ q) (Jw _) (Bh s.heap I.big),rfl,h _ (I.hok.fresh (Jw _))⟩
end
def Dm:List (TE×TE)->St->Hp->(List (V×V)->Hp->Prop)->Prop
 |[],_,H,Q=>Q [] H
 | (tk,tv)::r,σ,H,Q=>tk σ H fun x H1=>tv σ H1 fun y H2=>Dm r σ H2 fun ps H3=>Q ((x,y)::ps) H3
abbrev VV:List (V×V)->List (Value×Value)->Prop:=Paired fun p q=>RelV p.1 q.1/\RelV p.2 q.2
def PPs(X:Cx)(pos:Pos)(keys:List (Option Expr))(values:List Expr)(trs:List (TE×TE)):Prop :=
 ∀(pins:List (Addr×Obj))(s:Shared)(σ:St)(H:Hp)(Q:List (V×V)->Hp->Prop),Inv X pins σ H s->Dm trs σ H Q ->
  wpAny (model X.prog X.w) X.A (evalPairs (pairTrees keys values X.env pos)) (fun vs s'=>∃ ps H',Inv X pins σ H' s'/\VV ps vs/\Q ps H') X.xe s
theorem HZ{X:Cx}{pos:Pos}:PPs X pos [] [] []:=fun pins s σ H Q I h=>pairTrees_nil_walk ⟨[],H,I,.nil,h⟩
theorem FH{X:Cx}{pos:Pos}{k v:Expr}{ks:List (Option Expr)}{vs:List Expr}{tk tv:TE}{trs:List (TE×TE)}(hk:PE X k tk)(hv:PE X v tv)(hr:PPs X pos ks vs trs) :
  PPs X pos (some k::ks) (v::vs) ((tk,tv)::trs):=fun pins s σ H Q I h =>
 pairTrees_cons_walk (thn (hk pins s σ H _ I h) fun u s1 ⟨x,H1,I1,rx,q1⟩=>thn (hv pins s1 σ H1 _ I1 q1) fun w2 s2 ⟨y,H2,I2,ry,q2⟩ =>
  thn (hr pins s2 σ H2 _ I2 q2) fun ws s3 ⟨ps,H3,I3,rel,q3⟩=>⟨(x,y)::ps,H3,I3,.cons ⟨rx,ry⟩ rel,q3⟩)
def mG(kvs more:List (Key×V)):List (Key×V):=more.foldl (fun acc kv=>putK acc kv.1 kv.2) kvs
theorem KV.merge:∀{more:List (Key×V)}{rs:List (Key×Value)}{kvs:List (Key×V)}{vs:List (Key×Value)},KV more rs->KV kvs vs->KV (mG kvs more) (merged vs rs):=by
 intro more rs kvs vs r
 unfold KV at r
 induction r generalizing kvs vs with
 |nil=>intro q;exact q
 | @cons p q ps qs h t ih =>
  intro r0
  have e:KV (putK kvs p.1 p.2) (stored vs q.1 q.2):=by
   have:=r0.put p.1 h.2
   rw[← h.1];exact this
  exact ih e
theorem ku:∀(more kvs:List (Key×V)),(mG kvs more).length<=kvs.length+more.length
 |[],kvs=>by show kvs.length<=kvs.length+0;omega
 |p::r,kvs=>by
  have h1:=ku r (putK kvs p.1 p.2)
  have h2:=b9 kvs p.1 p.2
  show(mG (putK kvs p.1 p.2) r).length<=_
  rw[J2];omega
theorem rB{P:Program}{w:World}:∀{kvs:List (Key×V)}{ws:List (Value×Value)},VV (kvs.map fun kv=>(kV kv.1,kv.2)) ws->∃ rs,Carries (bL P w) ws rs/\KV kvs rs
 |[],_,r=>by rw[List.map_nil]at r;cases r;exact⟨[],True.intro,.nil⟩
 |p::kvs,_,r=>by
  rw[Kl]at r
  cases r with
  | @cons a b as bs h t =>
   obtain⟨rs,c,q⟩:=rB (P:=P) (w:=w) t
   obtain⟨b1,b2⟩:=b
   exact⟨(p.1,b2)::rs,⟨Ck h.1,rfl,c⟩,.cons ⟨rfl,h.2⟩ q⟩
def tDisp(trs:List (TE×TE)):TE:=fun σ H Q=>∀ p,H p=none->Dm trs σ (upd H p (.dK [])) fun ps H2=>H2 p=some (.dK [])/\∃ kvs:List (Key×V),ps=kvs.map (fun kv=>(kV kv.1,kv.2))/\kvs.length<=15/\Q (.ref p) (upd H2 p (.dK (mG [] kvs)))
theorem Ie{X:Cx}{pos:Pos}{keys:List (Option Expr)}{values:List Expr}{trs:List (TE×TE)}(h:PPs X pos keys values trs)(hall:keys.all (·.isSome)=true)(hl:keys.length=values.length)(h0:keys≠[])
  (h15:keys.length<=15):PE X (.Dict keys values pos) (tDisp trs):=by
 intro pins s σ H Q I q
 have hn:=I.hok.fresh (Jw s.heap.objs.size)
 have I1:=I.laid (a:=s.heap.objs.size) (o:=.dK []) (h':=s.heap.push { cls:=.type "dict",data:=.dict #[] }) (t':=s.toks) (fun _ _ q=>Heap.get?_push_of_some _ q) (Jw _) (Bh s.heap I.big)
 refine wpAny_Dict_walk (knd:=bL X.prog X.w) hall hl h0 h15 (thn (h pins _ σ _ _ I1 (q _ hn)) fun ws s2 ⟨ps,H2,I2,rel,e,kvs,ep,lk,q2⟩=>?_)
 subst ep
 obtain⟨rs,c,rk⟩:=rB (P:=X.prog) (w:=X.w) rel
 obtain⟨z,hd,vs0,r0,dd⟩:=dk_of I2.hok e
 cases r0
 refine⟨rs,c,dd,fun h' dd' hs=>⟨.ref s.heap.objs.size,_,?_,rfl,q2⟩⟩
 have hz:(mG [] kvs).length<=sizeLine:=by
  have h1:=ku kvs []
  rw[Lo]at h1
  rw[sizeLine_eq];omega
 have he:∃ q,h'.get? s.heap.objs.size=some q:=let ⟨q,_,_,hq,_⟩:=dd';⟨q,hq⟩
 exact zP I2 (by rw[e];exact True.intro) hs he (Hq hz hd (rk.merge .nil) dd')
section
variable{X:Cx}{pins:List (Addr×Obj)}{σ:St}{H:Hp}{s:Shared}{a:Addr}{y d:V}{u r:Value}{o:Option V}{A:Around}{E:Value->Shared->Prop}
end
section
variable{X:Cx}{o e f:Expr}{apos cpos:Pos}{td ty tx:TE}
end
section
variable{X:Cx}{pins:List (Addr×Obj)}{σ:St}{H:Hp}{s:Shared}{a:Addr}{kvs:List (Key×V)}{A:Around}{E:Value->Shared->Prop}
end
section
variable{X:Cx}{pins:List (Addr×Obj)}{σ:St}{H:Hp}{s:Shared}{a:Addr}{y:V}{u:Value}{A:Around}{E:Value->Shared->Prop}
end
end L2
namespace Att
open PySem PySem.W PySem.Calls PyProof.Rows
section
variable{prog:Program}{w:World}{A:Around}{E:Value->Shared->Prop}{s:Shared}{K:Frag}
end
end Att
namespace L2
open PySem PySem.Spec PyProof.Rows
end L2
namespace L2
open PySem PySem.Spec PyProof.Rows
end L2
namespace L2
open PySem PySem.Spec PyProof.Rows
section
variable{P:Program}{w:World}{K:Js}{mg:Str->Option Value}{base:Heap}
end
section
variable{X:Cx}
end
section
variable{κ:Type} [DecidableEq κ]
end
end L2
namespace L2
open PySem PySem.Spec PyProof.Rows
def clOf(env:Env)(fr:List (Str×Nat)):List (Str×Addr):=fr.map fun p=>(p.1,(env.cells.lookup p.1).getD 0)
def frOf(fr:List (Str×Nat))(σ:St):St:=fr.map fun p=>(σ[p.2]?).join
def dM(X:Cx)(scope:Scope)(fr:List (Str×Nat))(x:Str)(C:Addr)(ex:List Addr)(s:Shared)(H:Hp):Cx where
 prog:=X.prog
 w:=X.w
 K:=X.K
 mg:=X.mg
 base:=X.base
 A:=X.A
 N:=x::fr.map (·.1)
 s₀:=s
 H₀:=H
 env:=compEnvC scope (clOf X.env fr) C X.env
 outer:=X.stack
 stack:=X.stack
 ex:=ex
 fn:=fun _=>false
 calm:=X.calm
 pn:=[]
 xe:=fun _ _=>False
structure bJ(X:Cx)(scope:Scope)(fr:List (Str×Nat))(x:Str):Prop where
 clos:closureFor scope X.env=pure (clOf X.env fr)
 cell:∀ y∈scope.names,y.2≠.cell
 kind:scope.kind=.function
 names:∀ y∈scope.names,y.2=.local->scope.names.lookup y.1=some .local
 xl:scope.names.lookup x=some .local
 nd:(x::fr.map (·.1)).Nodup
 slot:∀ p∈fr,X.N[p.2]?=some p.1/\X.env.kindOf p.1=some .cell
 has:∀ y∈(relabel scope X.env).names,(y.2=.cell∨y.2=.free)->y.1∈fr.map (·.1)
 frk:∀ p∈fr,(relabel scope X.env).names.lookup p.1=some .cell
theorem bJ.plain{X:Cx}{scope:Scope}{x:Str}(clos:closureFor scope X.env=pure [])(cell:∀ y∈scope.names,y.2≠.cell)(kind:scope.kind=.function)(names:∀ y∈scope.names,y.2=.local->scope.names.lookup y.1=some .local)
  (hx:scope.names.lookup x=some .local) (nf:∀ y∈scope.names,y.2≠.free):bJ X scope [] x where
 clos:=clos
 cell:=cell
 kind:=kind
 names:=names
 xl:=hx
 nd:=by simp
 slot:=fun p hp=>nomatch hp
 has:=fun y hy hk=>by
  obtain⟨⟨n,k⟩,hz,e⟩:=Kb.mp (show y∈scope.names.map _ from hy)
  have h1:=nf _ hz
  have h2:=cell _ hz
  dsimp only at e h1 h2
  have hf:(k == NameKind.free)=false:=by simpa using h1
  rw[hf]at e
  simp only[MI,Kt,if_false]at e
  subst e
  exact(hk.elim h2 h1).elim
 frk:=fun p hp=>nomatch hp
theorem bJ.one{X:Cx}{scope:Scope}{x y:Str}{j:Nat}(clos:closureFor scope X.env=pure (clOf X.env [(y,j)]))(cell:∀ y∈scope.names,y.2≠.cell)(kind:scope.kind=.function)(names:∀ y∈scope.names,y.2=.local->scope.names.lookup y.1=some .local)
  (hx:scope.names.lookup x=some .local) (nd:([x,y]:List Str).Nodup) (hN:X.N[j]?=some y) (hk:X.env.kindOf y=some .cell) (nf:∀ z∈scope.names,z.2=.free->z.1=y) (hr:(relabel scope X.env).names.lookup y=some .cell):bJ X scope [(y,j)] x where
 clos:=clos
 cell:=cell
 kind:=kind
 names:=names
 xl:=hx
 nd:=nd
 slot:=fun p hp=>by
  have e:p=(y,j):=by simpa using hp
  subst e
  exact⟨hN,hk⟩
 has:=fun z hz hk=>by
  obtain⟨⟨n,k⟩,hm,e⟩:=Kb.mp (show z∈scope.names.map _ from hz)
  have h2:=cell _ hm
  dsimp only at e h2
  have hn:z.1=n:=by rw[← e];split<;>rfl
  have hf:k=.free:=by
   by_cases q:k=.free
   ·exact q
   ·have hb:(k == NameKind.free)=false:=by simpa using q
    rw[hb]at e
    simp only[MI,Kt,if_false]at e
    subst e
    exact(hk.elim h2 q).elim
  have:=nf _ hm hf
  rw[hn]
  simp[← this]
 frk:=fun p hp=>by
  have e:p=(y,j):=by simpa using hp
  subst e
  exact hr
theorem fU{env:Env}:∀{fr:List (Str×Nat)}{y:Str}{c:Addr},(clOf env fr).lookup y=some c->y∈fr.map (·.1)/\c=(env.cells.lookup y).getD 0
 |[],_,_,h=>by cases h
 |p::r,y,c,h=>by
  unfold clOf at h
  rw[Kl,List.lookup_cons]at h
  cases e:y == p.1 with
  |true =>
   rw[e]at h
   have ey:y=p.1:=eq_of_beq e
   cases h
   exact⟨by rw[ey];exact JD,by rw[ey]⟩
  |false =>
   rw[e]at h
   obtain⟨a,b⟩:=fU (env:=env) (fr:=r) h
   exact⟨JB _ a,b⟩
theorem bM{env:Env}:∀{fr:List (Str×Nat)}{y:Str},y∈fr.map (·.1)->(clOf env fr).lookup y=some ((env.cells.lookup y).getD 0)
 |[],_,h=>by cases h
 |p::r,y,h=>by
  unfold clOf
  rw[Kl,List.lookup_cons]
  cases e:y == p.1 with
  |true =>
   have ey:y=p.1:=eq_of_beq e
   rw[ey]
  |false =>
   have ny:y≠p.1:=fun z=>by rw[z]at e;simp at e
   rcases Ju.mp h with z | z
   ·exact absurd z ny
   ·exact bM (env:=env) (fr:=r) z
section
variable{X:Cx}{pins:List (Addr×Obj)}{σ:St}{H:Hp}{s:Shared}{scope:Scope}{fr:List (Str×Nat)}{x:Str}
theorem bJ.cells(O:bJ X scope fr x)(I:Inv X pins σ H s){y:Str}{c:Addr}(h:(clOf X.env fr).lookup y=some c):X.env.cells.lookup y=some c:=by
 obtain⟨hm,e⟩:=fU h
 obtain⟨p,hp,ep⟩:=Kb.mp hm
 have k:=(O.slot p hp).2
 rw[ep]at k
 obtain⟨c',e'⟩:=I.ok.has y (.inl k)
 rw[e']at e
 rw[e',e]
 rfl
theorem Gy{fp:List Addr}(O:bJ X scope fr x)(I:Inv X pins σ H s)(hf:∀ b∈fp,FpOk X pins H b)(hfs:∀ b∈fp,b<s.heap.objs.size){g h':Heap}{tk:Nat}(hg:g=s.heap.push (LCg.lst []))
  (hk:∀ b o,g.get? b=some o->h'.get? b=some o) (hC:h'.Ns g.objs.size fun _=>none) :
  Inv (dM X scope fr x g.objs.size (s.heap.objs.size::fp) { s with heap:=g } H) (X.pn++pins++[(s.heap.objs.size,LCg.lst [])]) (none::frOf fr σ) H { s with heap:=h',toks:=tk }:=by
 have hsz:g.objs.size=s.heap.objs.size+1:=by rw[hg,Heap.size_push]
 have kp:∀ b o,s.heap.get? b=some o->g.get? b=some o:=fun b o e=>by rw[hg];exact Heap.get?_push_of_some _ e
 have hk0:∀ b o,s.heap.get? b=some o->h'.get? b=some o:=fun b o e=>hk b o (kp b o e)
 have hDo:h'.get? s.heap.objs.size=some (LCg.lst []):=hk _ _ (by rw[hg];exact Heap.get?_push_size _ rfl)
 have neC:∀ b,b<s.heap.objs.size->b≠g.objs.size:=fun b e=>by rw[hsz];exact JN (KW e)
 have hDC:s.heap.objs.size≠g.objs.size:=by rw[hsz];exact JN (KA _)
 have hfr:H g.objs.size=none:=I.hok.fresh (by rw[hsz];exact Lx _)
 have hfD:H s.heap.objs.size=none:=I.hok.fresh (Jw _)
 have cne:∀ y c,X.env.cells.lookup y=some c->c<s.heap.objs.size:=fun y c e=>by
  obtain⟨v,q⟩:=I.cell y c e
  exact q.lt
 have nst:∀ b,b≠X.env.locals->b∉X.fs->b∉frs X.stack:=fun b h1 h2 z=>(Ju.mp (I.stkSub b z)).elim h1 h2
 have nstD:s.heap.objs.size∉frs X.stack:=nst _ (K7 I.lt) (I.nofs (Jw _))
 refine⟨⟨I.ok.mod,O.kind,I.ok.glob,I.ok.blt,Jw _,?_,?_,fun _ _ z _=>(by cases z),I.ok.hd,I.ok.frames,.inl rfl,?_,?_,?_,?_,?_,?_,I.stkFree⟩,rfl,I.bare,Un.kept hk,?_,?_,hfr,?_,?_,I.hok.kept hk0,?_⟩
 ·intro y z c h1 h2
  exact I.ok.inj y z c (O.cells I h1) (O.cells I h2)
 ·intro y hy
  have hm:y∈fr.map (·.1):=by
   rcases hy with hy | hy
   ·exact O.has (y,_) (KS hy) (.inl rfl)
   ·exact O.has (y,_) (KS hy) (.inr rfl)
  exact⟨_,bM hm⟩
 ·intro b hb
  rcases Ju.mp hb with rfl | hb
  ·exact⟨hDC,fun y c e=>JN (cne y c (O.cells I e))⟩
  ·exact⟨neC b (hfs b hb),fun y c e=>(hf b hb).2.2.2.2.1 y c (O.cells I e)⟩
 ·intro b o e
  exact⟨kp b o (I.bs b o e).1,(I.bs b o e).2⟩
 ·show X.base.objs.size<=g.objs.size
  rw[hsz]
  exact Nat.le_succ_of_le (Ky I.ok.bsz I.sz)
 ·intro b o e hb
  rcases Ju.mp hb with z | hb
  ·have:=Heap.lt_size (I.bs b o e).1
   rw[z]at this
   exact KD _ this
  ·rcases(hf b hb).2.2.2.1 with z | z
   ·exact I.ok.noex b o e z
   ·exact absurd (Ki (Heap.lt_size (I.ok.bs b o e).1) z) (KD _)
 ·intro b hb
  rcases Ju.mp hb with z | hb
  ·rw[z];exact nstD
  ·exact nst b (hf b hb).2.1 (hf b hb).2.2.1
 ·exact(I.kept (h':=g) (t':=s.toks) kp).stack
 ·refine⟨_,hC,fun i y v e1 e2 e3=>?_⟩
  cases i with
  |zero=>cases e2
  |succ k =>
   have e1':(fr.map (·.1))[k]?=some y:=e1
   have e2':(frOf fr σ)[k]?=some (some v):=e2
   unfold frOf at e2'
   rw[Jy]at e1' e2'
   cases q:fr[k]? with
   |none=>rw[q]at e1';cases e1'
   |some p =>
    rw[q]at e1' e2'
    have ey:p.1=y:=JL e1'
    have ev:(σ[p.2]?).join=some v:=JL e2'
    have hp:p∈fr:=Jq q
    obtain⟨hN,hK⟩:=O.slot p hp
    have hkk:=O.frk p hp
    rw[ey]at hN hK hkk
    have ev':σ[p.2]?=some (some v):=by
     cases q2:σ[p.2]? with
     |none=>rw[q2]at ev;cases ev
     |some w=>rw[q2]at ev;exact congrArg some ev
    obtain⟨m,hn,hl⟩:=I.loc
    obtain⟨u,r,l⟩:=hl p.2 y v hN ev' (.inr (.inl hK))
    refine⟨u,r,?_⟩
    rcases l with⟨k1,_⟩ | ⟨_,c,ec,z⟩
    ·rw[hK]at k1;cases k1
    ·have hm:y∈fr.map (·.1):=by rw[← ey];exact Kb.mpr ⟨p,hp,rfl⟩
     have el:=bM (env:=X.env) hm
     rw[ec]at el
     exact .inr ⟨.inl hkk,c,el,by obtain⟨o,ho,hd⟩:=z;exact⟨o,hk0 _ _ ho,hd⟩⟩
 ·intro y c e
  obtain⟨v,o,ho,hd⟩:=I.cell y c (O.cells I e)
  exact⟨v,o,hk0 _ _ ho,hd⟩
 ·intro y c e
  exact I.freeC y c (O.cells I e)
 ·intro p hp
  rcases JA.mp hp with hp | hp
  ·cases hp
  ·rcases JA.mp hp with hp | hp
   ·obtain⟨e,n,ne,nf,d⟩:=I.pin p hp
    exact⟨hk0 _ _ e,n,neC _ (Heap.lt_size e),nst _ ne nf,d⟩
   ·have ep:p=(s.heap.objs.size,LCg.lst []):=by simpa using hp
    subst ep
    exact⟨hDo,hfD,hDC,nstD,fun v z=>by cases z⟩
 ·show(none::frOf fr σ).length=(x::fr.map (·.1)).length
  unfold frOf
  simp
theorem vY{fp:List Addr}{g:Heap}{s':Shared}{H':Hp}{σ':St}{ys:List V}{us:List Value}(I:Inv X pins σ H s)(hf:∀ b∈fp,FpOk X pins H b)(hg:g=s.heap.push (LCg.lst []))
  (J:Inv (dM X scope fr x g.objs.size (s.heap.objs.size::fp) { s with heap:=g } H) (X.pn++pins++[(s.heap.objs.size,LCg.lst us)]) σ' H' s') (hv:Vals ys us) (hl:ys.length<=sizeLine) :
  Inv X pins σ (upd H' s.heap.objs.size (.lst ys)) s'/\H' s.heap.objs.size=none/\FpOk X pins (upd H' s.heap.objs.size (.lst ys)) g.objs.size/\∃ m,s'.heap.Ns g.objs.size m:=by
 have hsz:g.objs.size=s.heap.objs.size+1:=by rw[hg,Heap.size_push]
 have kp:∀ b o,s.heap.get? b=some o->g.get? b=some o:=fun b o e=>by rw[hg];exact Heap.get?_push_of_some _ e
 obtain⟨eD,nD,_,_,_⟩:=J.pin (s.heap.objs.size,LCg.lst us) (by simp)
 have hDC:g.objs.size≠s.heap.objs.size:=by rw[hsz];exact K7 (KA _)
 have nD':∀ b u,H' b=some u->b≠s.heap.objs.size:=fun b u e z=>by rw[z]at e;rw[e]at nD;cases nD
 have hx:∀ b o,s.heap.get? b=some o->b∉fp->b∉s.heap.objs.size::fp:=fun b o e hb z=>by
  rcases Ju.mp z with z | z
  ·have:=Heap.lt_size e
   rw[z]at this
   exact KD _ this
  ·exact hb z
 have bU:Un (frs X.stack) (s.heap.objs.size::fp) H H' g s'.heap:=J.base
 have ltD:∀ b o,s.heap.get? b=some o->b≠s.heap.objs.size:=fun b o e=>JN (Heap.lt_size e)
 have un:Un (frs X.stack) fp H (upd H' s.heap.objs.size (.lst ys)) s.heap s'.heap:=by
  refine⟨fun b o e n hb he=>bU.keep b o (kp b o e) n hb (hx b o e he),fun b o e n hb he=>bU.slot b o (kp b o e) n hb (hx b o e he),fun b o e n he=>?_,fun b o e he=>bU.there b o (kp b o e) (hx b o e he),fun b xs e=>?_,fun b o u e=>?_,fun b ps e=>?_⟩
  ·rw[ak (ltD b o e)];exact bU.free b o (kp b o e) n (hx b o e he)
  ·have q:=bU.tups b xs e
   rw[ak (nD' b _ q)];exact q
  ·have q:=bU.frzs b o u e
   rw[ak (nD' b _ q)];exact q
  ·obtain⟨more,q⟩:=bU.tbls b ps e
   exact⟨more,by rw[ak (nD' b _ q)];exact q⟩
 have hok:HOk X.prog X.w (upd H' s.heap.objs.size (.lst ys)) s'.heap:=fun b u e=>by
  by_cases hb:b=s.heap.objs.size
  ·rw[hb,ae]at e
   cases e
   rw[hb]
   exact⟨hl,us,us.length,hv,eD⟩
  ·rw[ak hb]at e
   exact(J.hok b u e).stay (fun c v _ q=>q) (fun c q=>by rw[ak (nD' c _ q)];exact q) fun c xs q=>by rw[ak (nD' c _ q)];exact q
 have os:s'.os=s.os:=J.os
 refine⟨I.call' os un hok J.bare fun b hb=>⟨(hf b hb).2.2.2.1,(hf b hb).2.1,(hf b hb).2.2.2.2⟩,nD,?_,?_⟩
 ·refine I.fpOk (H':=upd H' s.heap.objs.size (.lst ys)) (b:=g.objs.size) (by rw[hsz];exact Lx _) ?_
  rw[ak hDC]
  exact J.free
 ·obtain⟨m,hn,_⟩:=J.loc
  exact⟨m,hn⟩
end
def uI(te:TE)(fv:St)(J:It)(H1:Hp)(QQ:List V->Hp->Prop):Prop :=
 ∃ W:Nat->Nat->List V->Hp->Prop,(∃ m,W 0 m [] H1)/\∀ i m ys H,W i m ys H->ys.length<=sizeLine /\
  ((J.stop i H/\QQ ys H)∨(J.go i H/\∃ N:V->Hp->Prop,(∀ y H2,N y H2->∃ m',m'<m/\W (i+1) m' (ys++[y]) H2)/\∀ x H',J.yld i H x H'->te (some x::fv) H' N))
section
variable{X:Cx}{scope:Scope}{fr:List (Str×Nat)}{x:Str}{elt iter:Expr}{px pos:Pos}{te:TE}{wi:TI}
theorem wJ{pins:List (Addr×Obj)}{σ:St}{H:Hp}{s:Shared}{E:Value->Shared->Prop}{it:Addr}{fp:List Addr}{tn:Nat->Heap->Prop}{J:It}{RR:Value->Addr->Result->Shared->Prop}{QQ:List V->Hp->Prop}(hc:X.calm=true)(O:bJ X scope fr x)
  (he:∀ C ex s H,PE (dM X scope fr x C ex s H) elt te) (I:Inv X pins σ H s) (T:Turn X.prog X.w X.K (.Name x px) J fp it tn) (st:tn 0 s.heap) (hf:∀ b∈fp,FpOk X pins H b) (hq:uI te (frOf fr σ) J H QQ)
  (fin:∀ D C H4 ys s4 m,Inv X pins σ (upd H4 D (.lst ys)) s4->H4 D=none->FpOk X pins (upd H4 D (.lst ys)) C->s4.heap.Ns C m->QQ ys H4->RR (.ref D) C (.ok .next) s4) :
  wpAny (model X.prog X.w) X.A (newList []) (fun acc s₃=>wpAny (model X.prog X.w) X.A (newFunctionEnv scope X.env.globals (clOf X.env fr) [] X.env.qual none .none (some X.env)) (fun cenv s₄ =>
   codeAny (model X.prog X.w) X.A (.compStart (.ListComp elt [⟨.Name x px,iter,[],0⟩] scope pos) 0 (.ref it) acc { cenv with scope:=relabel scope X.env }) (RR acc cenv.locals) s₄) E s₃) E s:=by
 obtain⟨W,⟨m0,w0⟩,turn⟩:=hq
 have hfs:∀ b∈fp,b<s.heap.objs.size:=fun b hb=>by
  obtain⟨o,e,_⟩:=T.obj 0 s.heap st b hb
  exact Heap.lt_size e
 refine wpAny_newObj_type (wpAny_newFunctionEnv O.cell (by intro y hy;simp at hy) (fun h₁ hns₁ hsb₁=>?_) O.kind)
 dsimp only at hns₁ hsb₁ ⊢
 generalize hH2:s.heap.push { cls:=.type "list",dict:=none,data:=.seq ([]:List Value).toArray }=g at hns₁ hsb₁ ⊢
 have hg:g=s.heap.push (LCg.lst []):=hH2.symm
 have hsz:g.objs.size=s.heap.objs.size+1:=by rw[hg,Heap.size_push]
 have hk:∀ b o,g.get? b=some o->h₁.get? b=some o:=fun b o e=>hsb₁.extBut b o (JN (Heap.lt_size e)) (Heap.get?_push_of_some _ e)
 have kp:∀ b o,s.heap.get? b=some o->h₁.get? b=some o:=fun b o e=>hk b o (by rw[hg];exact Heap.get?_push_of_some _ e)
 have J0:=Gy (h':=h₁) (tk:=s.toks+([]:List (Str×Value)).length) O I hf hfs hg hk hns₁
 have stat:∀{H':Hp}{us:List Value},(∀ b∈fp,H' b=none)->∀ b∈fp,FpOk (dM X scope fr x g.objs.size (s.heap.objs.size::fp) { s with heap:=g } H) (X.pn++pins++[(s.heap.objs.size,LCg.lst us)]) H' b:=fun{H' us} hn b hb=>by
  obtain⟨_,f1,f2,f3,f4,f5⟩:=hf b hb
  refine⟨hn b hb,?_,fun z=>(Ju.mp (I.stkSub b z)).elim f1 f2,.inl (JB _ hb),fun y c e=>f4 y c (O.cells I e),fun p hp=>?_⟩
  ·show b≠g.objs.size
   rw[hsz];exact JN (KW (hfs b hb))
  ·rcases JA.mp hp with hp | hp
   ·cases hp
   ·rcases JA.mp hp with hp | hp
    ·exact f5 p hp
    ·have ep:p=(s.heap.objs.size,LCg.lst us):=by simpa using hp
     rw[ep]
     exact K7 (hfs b hb)
 have loop:codeAny (model X.prog X.w) X.A (.compLoop (.ListComp elt [⟨.Name x px,iter,[],0⟩] scope pos) 0 (.ref it) (.ref s.heap.objs.size) (compEnvC scope (clOf X.env fr) g.objs.size X.env))
   (RR (.ref s.heap.objs.size) g.objs.size) { s with heap:=h₁,toks:=s.toks+([]:List (Str×Value)).length }:=by
  refine codeAny_compLoop_tests (fun n s'=>∃ i ys us H',Inv (dM X scope fr x g.objs.size (s.heap.objs.size::fp) { s with heap:=g } H) (X.pn++pins++[(s.heap.objs.size,LCg.lst us)]) (none::frOf fr σ) H' s'/\Vals ys us/\tn i s'.heap/\(∀ b∈fp,H' b=none)/\W i n ys H') ?_ m0
   ⟨0,[],[],H,J0,.nil,T.keep 0 s.heap h₁ st fun b _ o e=>kp b o e,fun b hb=>(hf b hb).1,w0⟩
  rintro n s3 ⟨i,ys,us,H3,J3,hv,st3,fr3,w3⟩
  obtain⟨hlen,hh⟩:=turn i n ys H3 w3
  have none_err:∀{α:Type}{t:Sem α}{Q:α->Shared->Prop}{E':Value->Shared->Prop}{s:Shared},wpAny (model X.prog X.w) X.A t Q (fun _ _=>False) s->wpAny (model X.prog X.w) X.A t Q E' s:=fun h=>wpAny_mono h (fun _ _ q=>q) fun _ _ z=>z.elim
  rcases hh with⟨stop,qn⟩ | ⟨go,N,hN,step⟩
  ·refine none_err (thn (T.done (dM X scope fr x g.objs.size (s.heap.objs.size::fp) { s with heap:=g } H) rfl rfl rfl hc i _ s3 _ H3 _ J3 (stat fr3) st3 stop) fun r s4 ⟨hr,J4⟩=>?_)
   subst hr
   obtain⟨I4,nD,fC,m,hn⟩:=vY I hf hg J4 hv hlen
   exact fin _ _ H3 ys s4 m I4 nD fC hn qn
  ·refine none_err (thn (T.item (dM X scope fr x g.objs.size (s.heap.objs.size::fp) { s with heap:=g } H) rfl rfl rfl hc i _ s3 _ H3 _ J3 (stat fr3) st3 go) fun r s4 ⟨u,hr,h4⟩=>?_)
   subst hr
   have h4':=wpAny_bind (f:=fun _=>assign (.Name x px) (compEnvC scope (clOf X.env fr) g.objs.size X.env) u) (thn h4 (Q':=fun _ s5=>wpAny (model X.prog X.w) X.A (assign (.Name x px) (compEnvC scope (clOf X.env fr) g.objs.size X.env) u) (fun _ s6=>∃(σ6:St)(H6:Hp)(v:V)(s5':Shared)(H5:Hp),Inv (dM X scope fr x g.objs.size (s.heap.objs.size::fp) { s with heap:=g } H) (X.pn++pins++[(s.heap.objs.size,LCg.lst us)]++vi fp s5'.heap) σ6 H6 s6/\σ6=some v::frOf fr σ/\H6=H5/\J.yld i H3 v H5/\tn (i+1) s5'.heap) (fun _ _=>False) s5) fun _ s5 ⟨v,H5,J5,r5,y5,st5,fr5⟩=>by
    have J5':=J5.pinned (stat fr5) (T.obj _ _ st5)
    have hNd:(dM X scope fr x g.objs.size (s.heap.objs.size::fp) { s with heap:=g } H).N.Nodup:=O.nd
    have hxl:(dM X scope fr x g.objs.size (s.heap.objs.size::fp) { s with heap:=g } H).env.scope.names.lookup x=some .local:=lookup_relabel_local O.xl
    exact thn (aX (X:=dM X scope fr x g.objs.size (s.heap.objs.size::fp) { s with heap:=g } H) (i:=0) hNd rfl (.inl hxl) (.inr hxl) _ s5 _ H5 v u (fun σ6 H6=>σ6=some v::frOf fr σ/\H6=H5) J5' r5 ⟨rfl,rfl⟩) fun _ s6 ⟨σ6,H6,J6,e6,e7⟩=>⟨σ6,H6,v,s5,H5,J6,e6,e7,y5,st5⟩)
   refine none_err (thn h4' fun _ s6 ⟨σ6,H6,v,s5,H5,J6,e6,e7,y5,st5⟩=>?_)
   subst e6 e7
   refine wpAny_tests_nil ?_
   rw[if_pos rfl]
   refine none_err (thn (he _ _ _ _ _ s6 _ H6 _ J6 (step v H6 y5)) fun u7 s7 ⟨v7,H7,J7,r7,q7⟩=>?_)
   obtain⟨m',hm,w7⟩:=hN v7 H7 q7
   obtain⟨eD,nD,dC,dF,dd⟩:=J7.pin (s.heap.objs.size,LCg.lst us) (JK _ (Kh _ (JK _ (by simp))))
   have hvl:=hv.length
   refine append_at (hsz:=by show us.toArray.size<=sizeLine;rw[JW,← hvl];exact hlen) eD fun h8 hs8 hD8=>?_
   have pinD:∀ p∈X.pn++pins,p.1≠s.heap.objs.size:=fun p hp z=>by
    have:=Heap.lt_size (I.pin p hp).1
    rw[z]at this
    exact KD _ this
   have J7a:Inv (dM X scope fr x g.objs.size (s.heap.objs.size::fp) { s with heap:=g } H) (X.pn++pins) _ H7 s7:=J7.pins_of fun p hp=>J7.pin p (JK _ (Kh _ (Kh _ hp)))
   have J8:Inv (dM X scope fr x g.objs.size (s.heap.objs.size::fp) { s with heap:=g } H) (X.pn++pins) _ H7 { s7 with heap:=h8 }:=J7a.turned (t':=s7.toks) (fun b o hb e=>(hs8.2 b hb).trans e) nD dC (.inl JD) (fun y c e z=>by
    obtain⟨w',q⟩:=I.cell y c (O.cells I e)
    have:=q.lt
    rw[z]at this
    exact KD _ this) (fun p hp=>(JA.mp hp).elim (fun z=>by cases z) (pinD p))
   have J9:Inv (dM X scope fr x g.objs.size (s.heap.objs.size::fp) { s with heap:=g } H) (X.pn++pins++[(s.heap.objs.size,LCg.lst (us++[u7]))]) _ H7 { s7 with heap:=h8 }:=J8.pins_of fun p hp=>by
    rcases JA.mp hp with hp | hp
    ·exact J8.pin p (JK _ hp)
    ·have ep:p=(s.heap.objs.size,LCg.lst (us++[u7])):=by simpa using hp
     subst ep
     exact⟨hD8.trans (congrArg some (LCg.lst_snoc us u7)),nD,dC,dF,fun v z=>by cases z⟩
   have J10:=J9.weak (σ':=none::frOf fr σ) rfl fun i v e=>by
    cases i with
    |zero=>cases e
    |succ k=>exact e
   have pinF:∀ b∈fp,∀ o,s5.heap.get? b=some o->s7.heap.get? b=some o/\H7 b=none:=fun b hb o e=>by
    obtain⟨q1,q2,_⟩:=J7.pin (b,o) (JK _ (JK _ (gz hb e)))
    exact⟨q1,q2⟩
   refine⟨m',hm,i+1,ys++[v7],us++[u7],H7,J10,hv.append (.cons r7 .nil),T.keep _ _ _ st5 fun b hb o e=>(hs8.2 b (JN (hfs b hb))).trans (pinF b hb o e).1,fun b hb=>?_,w7⟩
   obtain⟨o,e,_⟩:=T.obj _ _ st5 b hb
   exact(pinF b hb o e).2
 exact codeAny_compStart_list loop (T.self X.A 0 _ _ _ (T.keep 0 s.heap h₁ st fun b _ o e=>kp b o e) loop)
def tComp(wi:TI)(te:TE)(fr:List (Str×Nat)):TE:=fun σ H Q=>wi σ H fun J H1=>uI te (frOf fr σ) J H1 fun ys H2=>∀ D,H2 D=none->Q (.ref D) (upd H2 D (.lst ys))
theorem eG(hc:X.calm=true)(O:bJ X scope fr x)(hi:PI X (.Name x px) iter wi)(he:∀ C ex s H,PE (dM X scope fr x C ex s H) elt te)(hs:∀ x,foldedSetIterable iter X.env x=pure x:=by intro _;rfl) :
  PE X (.ListComp elt [⟨.Name x px,iter,[],0⟩] scope pos) (tComp wi te fr):=by
 intro pins s σ H Q I h
 rw[eval_ListComp]
 refine wpAny_comprehension_free (use:=none) rfl hs O.clos O.kind O.names (thn (hi pins s σ H _ I h) fun xv s1 h1=>thn h1 fun itv s2 h2=>?_)
 obtain⟨it,fp,tn,J,H2,e,I2,T,st2,f2,q2⟩:=h2
 subst e
 refine wJ (RR:=fun acc C=>compPost (model X.prog X.w) X.A X.xe none (EP X pins σ Q) acc C) hc O he I2 T st2 f2 q2 ?_
 intro D C H4 ys s4 m I4 nD fC hn q4
 refine⟨m,hn,fun h' hs'=>?_⟩
 obtain⟨g0,g1,g2,g3,g4,g5⟩:=fC
 exact⟨.ref D,_,I4.turned (t':=s4.toks) (fun b o hb e=>(hs'.2 b hb).trans e) g0 g1 g3 g4 g5,rfl,q4 D nD⟩
def Ft(i:Nat)(wi:TI)(te:TE)(fr:List (Str×Nat)):TS:=fun D σ H=>wi σ H fun J H1=>uI te (frOf fr σ) J H1 fun ys H2=>∀ a,H2 a=none->D.nx (σ.set i (some (.ref a))) (upd H2 a (.lst ys))
theorem lC{i:Nat}{y:Str}{py spos:Pos}(hc:X.calm=true)(hN:X.N.Nodup)(hi':X.N[i]?=some y)(hy:X.env.scope.names.lookup y=some .local)(O:bJ X scope fr x)(hi:PI X (.Name x px) iter wi)(he:∀ C ex s H,PE (dM X scope fr x C ex s H) elt te)
  (hsw:swapsWith (.ListComp elt [⟨.Name x px,iter,[],0⟩] scope pos) (some (.Name y py)) spos.line X.env=pure true:=by rfl) (hs:∀ x,foldedSetIterable iter X.env x=pure x:=by intro _;rfl) :
  PS X (.Assign [.Name y py] (.ListComp elt [⟨.Name x px,iter,[],0⟩] scope pos) spos) (Ft i wi te fr):=by
 intro pins s σ H D I h
 rw[exec_Assign_Name_used _ _ _ _ hsw]
 refine wpAny_bind (wpAny_standAt (wpAny_bind ?_))
 show wpAny _ X.A (do let _ ← comprehension (.ListComp elt [⟨.Name x px,iter,[],0⟩] scope pos) scope X.env _ (newList []) false (eval iter X.env) (some (assign (.Name y py) X.env))) _ _ s
 refine wpAny_bind (thn (wpAny_comprehension_free (use:=some (assign (.Name y py) X.env)) (Q:=fun _ s'=>SP X pins D .next s') rfl hs O.clos O.kind O.names (thn (hi pins s σ H _ I h) fun xv s1 h1=>thn h1 fun itv s2 h2=>?_)) fun _ s' hq=>wpAny_pure (wpAny_pure hq))
 obtain⟨it,fp,tn,J,H2,e,I2,T,st2,f2,q2⟩:=h2
 subst e
 refine wJ (RR:=fun acc C=>compPost (model X.prog X.w) X.A X.xe (some (assign (.Name y py) X.env)) (fun _ s'=>SP X pins D .next s') acc C) hc O he I2 T st2 f2 q2 ?_
 intro a C H4 ys s4 m I4 nD fC hn q4
 obtain⟨g0,g1,g2,g3,g4,g5⟩:=fC
 obtain⟨oC,eC,hoC⟩:=LCg.ns_obj hn
 have I5:Inv X (pins++[(C,oC)]) σ (upd H4 a (.lst ys)) s4:=I4.pins_of fun p hp=>by
  rcases JA.mp hp with hp | hp
  ·exact I4.pin p (JK _ hp)
  ·have ep:p=(C,oC):=by simpa using hp
   subst ep
   obtain⟨es,epp,hd,_⟩:=hoC
   exact⟨eC,g0,g1,g2,fun v z=>by rw[hd]at z;cases z⟩
 show wpAny _ X.A (assign (.Name y py) X.env (.ref a)) _ _ _
 refine wpAny_assign_Name (rR I5 hN hi' (.inl hy) (v:=.ref a) rfl (fun s6 I6=>?_) (.inr hy))
 obtain⟨e6,_⟩:=I6.pin (C,oC) (JK _ (JK _ (by simp)))
 refine⟨m,hoC.ns e6,fun h' hs'=>?_⟩
 exact⟨_,_,I6.unpinned.turned (t':=s6.toks) (fun b o hb e=>(hs'.2 b hb).trans e) g0 g1 g3 g4 g5,q4 a nD⟩
end
theorem cN{K:Js}{a:Addr}{xs:List V}{te:TE}{fv:St}{H1:Hp}{QQ:List V->Hp->Prop}(Pv:Nat->List V->Hp->Prop)(hz:xs.length<=sizeLine)(h0:Pv 0 [] H1)(hl:∀ i ys H,i<=xs.length->Pv i ys H->SqL K H a xs)
  (hs:∀ i x ys H,xs[i]?=some x->Pv i ys H->te (some x::fv) H fun y H2=>Pv (i+1) (ys++[y]) H2) (hd:∀ ys H,ys.length=xs.length->Pv xs.length ys H->QQ ys H)
  : uI te fv (Itl K a) H1 QQ:=by
 refine⟨fun i m ys H=>m=xs.length-i/\i<=xs.length/\ys.length=i/\Pv i ys H,⟨xs.length,by simp,Ku _,rfl,h0⟩,?_⟩
 rintro i m ys H ⟨rfl,hi,hy,p⟩
 have q:=hl i ys H hi p
 refine⟨by omega,?_⟩
 by_cases hlt:i<xs.length
 ·refine .inr ⟨⟨xs,xs[i],q,by simp[hlt]⟩,fun y H2=>Pv (i+1) (ys++[y]) H2,fun y H2 p2=>⟨xs.length-(i+1),by omega,rfl,hlt,by rw[Jt,hy];rfl,p2⟩,fun x H' y=>?_⟩
  obtain⟨e,y⟩:=y
  subst e
  exact hs i x ys _ (y xs q) p
 ·have e:i=xs.length:=by omega
  subst e
  exact .inl ⟨⟨xs,q,Jw _⟩,hd ys H hy p⟩
theorem gB{lo:Int}{n:Nat}{te:TE}{fv:St}{H1:Hp}{QQ:List V->Hp->Prop}(Pv:Nat->List V->Hp->Prop)(hz:n<=sizeLine)(h0:Pv 0 [] H1)
  (hs:∀ i ys H,i<n->Pv i ys H->te (some (.int (lo+i))::fv) H fun y H2=>Pv (i+1) (ys++[y]) H2) (hd:∀ ys H,ys.length=n->Pv n ys H->QQ ys H)
  : uI te fv (Itr lo n) H1 QQ:=by
 refine⟨fun i m ys H=>m=n-i/\i<=n/\ys.length=i/\Pv i ys H,⟨n,by simp,Ku _,rfl,h0⟩,?_⟩
 rintro i m ys H ⟨rfl,hi,hy,p⟩
 refine⟨by omega,?_⟩
 by_cases hlt:i<n
 ·refine .inr ⟨hlt,fun y H2=>Pv (i+1) (ys++[y]) H2,fun y H2 p2=>⟨n-(i+1),by omega,rfl,hlt,by rw[Jt,hy];rfl,p2⟩,fun x H' y=>?_⟩
  obtain⟨e,y⟩:=y
  subst e y
  exact hs i ys _ hlt p
 ·have e:i=n:=by omega
  subst e
  exact .inl ⟨Jw _,hd ys H hy p⟩
end L2
namespace L2
open PySem PySem.Spec PyProof.Rows
theorem bt_int:bootBuiltins "int" = some (.type "int"):=by decide +kernel
theorem Jf:bootBuiltins "bool" = some (.type "bool"):=by decide +kernel
theorem iS:bootBuiltins "list" = some (.type "list"):=by decide +kernel
theorem GV:bootBuiltins "tuple" = some (.type "tuple"):=by decide +kernel
theorem a8:bootBuiltins "len" = some (.builtin "len"):=by decide +kernel
theorem cO:bootBuiltins "isinstance" = some (.builtin "isinstance"):=by decide +kernel
theorem pX:bootBuiltins "sorted" = some (.builtin "sorted"):=by decide +kernel
theorem Ac:bootBuiltins "reversed" = some (.type "reversed"):=by decide +kernel
theorem wO:bootBuiltins "enumerate" = some (.type "enumerate"):=by decide +kernel
structure Cal(P:Program)(w:World)(K:Js)(mg:Str->Option Value)(base:Heap)(k:Nat)(x:Str)(ps:List Str)(sp:Sp)(f:Addr)(fd:FuncData):Prop where
 ok:FnOk P w K mg base CX0 k f fd ps sp
 bn:kZ K fd ps []
 mg:mg x=some (.ref f)
 kp:JG K (.ref f)=true
structure Mak(P:Program)(w:World)(K:Js)(mg:Str->Option Value)(base:Heap)(k:Nat)(x:Str)(ps:List Str)(sp:Sp)(C f:Addr)(fd:FuncData):Prop where
 mkc:Mk K C f
 ok:FnOk P w K mg base CX0 k f fd ps sp
 bn:kZ K fd ps []
 mg:mg x=some (.ref C)
structure Met(P:Program)(w:World)(K:Js)(mg:Str->Option Value)(base:Heap)(k:Nat)(C:Addr)(m:Str)(ps:List Str)(sp:Sp)(f:Addr)(fd:FuncData):Prop where
 me:Meth K C m f
 ok:FnOk P w K mg base CX0 k f fd ps sp
 bn:kZ K fd ps []
theorem ym{X:Cx}{sts:List Stmt}{t t2:TS}(h:PSs X sts t)(i:∀ D σ H,t2 D σ H->t D σ H):PSs X sts t2:=fun pins s σ H D I q=>h pins s σ H D I (i D σ H q)
section
variable{X:Cx}
def rIsi(K:Js):List V->Hp->VK->Prop:=fun xs H Q=>∃ x c t b u,xs = [x,c]/\TyOf K H x t/\((∃ n,c=.ty n/\u=Value.type n)∨∃ a,c=.ref a/\u=Value.ref a)/\LP K t u=some b/\Q (.bl b) H
theorem kW:kY X (.builtin "isinstance") (rIsi X.K):=by
 intro pins s σ H xs us Q I r h
 obtain⟨x,c,t,b,u,rfl,ty,hu,e,q⟩:=h
 obtain⟨v1,v2,rfl,r1,r2⟩:=vals2 r
 have e2:v2=u:=by
  rcases hu with⟨n,rfl,rfl⟩ | ⟨a,rfl,rfl⟩
  ·exact r2
  ·exact r2
 subst e2
 exact Ew I r1 ty e fun tk=>⟨.bl b,H,I.tok tk,rfl,q⟩
theorem kit_ii(K:Js):LP K (.type "int") (.type "int")=some true:=by with_unfolding_all rfl
theorem kit_ib(K:Js):LP K (.type "int") (.type "bool")=some false:=by with_unfolding_all rfl
theorem Hl(K:Js):LP K (.type "list") (.type "list")=some true:=by with_unfolding_all rfl
theorem kit_tt(K:Js):LP K (.type "tuple") (.type "tuple")=some true:=by with_unfolding_all rfl
end
inductive RdD(K:Js)(H:Hp):V->PyData->Prop where
 |non:RdD K H .non .none
 |bl (b:Bool):RdD K H (.bl b) (.bool b)
 |int (i:Int):RdD K H (.int i) (.int i)
 |lst {a:Addr} {xs:List V} {ds:List PyData} (h:SqL K H a xs) (hl:xs.length=ds.length) (r:∀(i:Nat)(x:V)(d:PyData),xs[i]?=some x->ds[i]?=some d->RdD K H x d):RdD K H (.ref a) (.list ds)
 |tup {a:Addr} {xs:List V} {ds:List PyData} (h:SqT K H a xs) (hl:xs.length=ds.length) (r:∀(i:Nat)(x:V)(d:PyData),xs[i]?=some x->ds[i]?=some d->RdD K H x d):RdD K H (.ref a) (.tuple ds)
theorem jD{h:Heap}:∀{xs:List V}{us:List Value}{ds:List PyData},Vals xs us->xs.length=ds.length->(∀(i:Nat) x d,xs[i]?=some x->ds[i]?=some d->∀ u,RelV x u->∃ as,Reads h u d as)->∃ as,ReadsAll h us ds as
 |_,_,[],.nil,_,_=>⟨_,.nil⟩
 |_,_,_::_,.nil,e,_=>by cases e
 |_,_,[],.cons _ _,e,_=>by cases e
 |_,_,d::ds,.cons r rr,e,k=>by
  obtain⟨a1,q1⟩:=k 0 _ d rfl rfl _ r
  obtain⟨a2,q2⟩:=jD rr (MV e) fun i x d' e1 e2=>k (i+1) x d' e1 e2
  exact⟨_,.cons q1 q2⟩
section
variable{X:Cx}
theorem RdD.reads{pins:List (Addr×Obj)}{σ:St}{H:Hp}{s:Shared}(I:Inv X pins σ H s){x:V}{d:PyData}(r:RdD X.K H x d):∀ u,RelV x u->∃ as,Reads s.heap u d as:=by
 induction r with
 |non=>intro u hu;cases hu;exact⟨_,.none⟩
 |bl b=>intro u hu;cases hu;exact⟨_,.bool b⟩
 |int i=>intro u hu;obtain⟨t,rfl⟩:=hu;exact⟨_,.int i t⟩
 |lst h hl r ih =>
  intro u hu
  cases hu
  obtain⟨its,rv,p,_⟩:=I.list h
  obtain⟨as,q⟩:=jD (h:=s.heap) rv hl ih
  obtain⟨o,n,e,c,_,d⟩:=p
  exact⟨_,.list e c d (by simpa using q)⟩
 |tup h hl r ih =>
  intro u hu
  cases hu
  obtain⟨its,rv,p,_⟩:=I.tuple h
  obtain⟨as,q⟩:=jD (h:=s.heap) rv hl ih
  obtain⟨o,e,c,n,d⟩:=p
  exact⟨_,.tuple e c d (by simpa using q)⟩
def rSame(b:Bool)(K:Js):R2:=fun x y H Q=>∃ d,RdD K H x d/\RdD K H y d/\SeqAt.shaped d=true/\Q (.bl b) H
theorem op_neD(hu:X.A.units+64<cLine):OpR X (compareOp .NotEq) (rSame false X.K):=by
 intro pins s σ H x y v u Q I rx ry h
 obtain⟨d,r1,r2,hs,q⟩:=h
 obtain⟨as,q1⟩:=r1.reads I v rx
 obtain⟨bs,q2⟩:=r2.reads I u ry
 refine ne_dataH q1 q2 hs hs hu ?_
 rw[SeqAt.eqv_refl d (SeqAt.canLay_of_shaped hs)]
 exact⟨.bl false,H,I,rfl,q⟩
end
section
variable{X:Cx}{tg:Expr}
end
end L2
namespace L2
open PySem PySem.Spec PyProof.Rows
section
variable{P:Program}{w:World}{H:Hp}{h:Heap}{a:Addr}{o:HO}
theorem bI.get(x:bI P w H h a o):∃ ob,h.get? a=some ob:=by
 cases o with
 |lst xs=>obtain⟨_,_,_,_,e⟩:=x;exact⟨_,e⟩
 |tup xs=>obtain⟨_,_,_,ob,e,_⟩:=x;exact⟨_,e⟩
 |dK kvs=>obtain⟨_,_,_,_,o,_,_,e,_⟩:=x;exact⟨_,e⟩
 |dT kvs=>obtain⟨_,_,_,_,o,_,_,e,_⟩:=x;exact⟨_,e⟩
 |set S n=>obtain⟨o,_,_,_,e,_⟩:=x;exact⟨_,e⟩
 |ins C dx fs=>obtain⟨_,_,_,e,_⟩:=x;exact⟨_,e⟩
 |own y=>exact x
 |xd fs=>obtain⟨_,⟨_,_,_,e,_⟩,_⟩:=x;exact⟨_,e⟩
 |rng lo hi=>obtain⟨_,_,_,e⟩:=x;exact⟨_,e⟩
 |frz ob u=>exact⟨_,x.1⟩
 |tbl ps=>exact⟨_,(show h.get? a=some _ from x)⟩
 |met f y=>exact⟨_,(show h.get? a=some _ from x)⟩
 |ext φ=>exact x.2.1
theorem HOk.none_of(x:HOk P w H h)(e:h.get? a=none):H a=none:=by
 cases q:H a with
 |none=>rfl
 |some u =>
  obtain⟨ob,z⟩:=(x a u q).get
  rw[e]at z
  cases z
end
structure XOk(X:Cx)(pins:List (Addr×Obj))(H:Hp)(b:Addr):Prop where
 old:X.s₀.heap.get? b=none
 trk:H b=none
 nl:b≠X.env.locals
 nc:∀ x c,X.env.cells.lookup x=some c->c≠b
 np:∀ p∈X.pn++pins,p.1≠b
section
variable{X:Cx}{pins:List (Addr×Obj)}{σ:St}{H H':Hp}{s s':Shared}{b:Addr}
theorem Inv.xok(I:Inv X pins σ H s)(hx:X.ex = [])(e:s.heap.get? b=none)(n:H' b=none):XOk X pins H' b:=by
 refine⟨?_,n,fun z=>?_,fun x c q z=>?_,fun p hp z=>?_⟩
 ·cases q:X.s₀.heap.get? b with
  |none=>rfl
  |some o =>
   obtain⟨o',e'⟩:=I.base.there b o q (by rw[hx];simp)
   rw[e]at e'
   cases e'
 ·obtain⟨m,⟨o,_,_,ho,_⟩,_⟩:=I.loc
  rw[z,ho]at e
  cases e
 ·obtain⟨v,o,ho,_⟩:=I.cell x c q
  rw[z,e]at ho
  cases ho
 ·have:=(I.pin p hp).1
  rw[z,e]at this
  cases this
theorem Inv.xtrack{a:Addr}{o:HO}(I:Inv X pins σ H s)(f:XOk X pins H a)(new:bI X.prog X.w (upd H a o) s.heap a o):Inv X pins σ (upd H a o) s:=by
 have ne:∀ b u,H b=some u->b≠a:=fun b u e=>aK e f.trk
 have nb:∀ b u,s.heap.get? b=some u->b≠a->H b=none->upd H a o b=none:=fun b u _ n q=>by rw[ak n];exact q
 refine⟨I.ok,I.os,I.bare,⟨I.base.keep,I.base.slot,fun b ob e n hx=>?_,I.base.there,fun b xs e=>?_,fun b ob xs e=>?_,fun b ps e=>?_⟩,I.loc,I.cell,?_,fun x c e=>?_,fun p hp=>?_,fun b u e=>?_,I.len⟩
 ·rw[ak (fun z=>by rw[z,f.old]at e;cases e)]
  exact I.base.free b ob e n hx
 ·have:=I.base.tups b xs e
  rw[ak (ne _ _ this)]
  exact this
 ·have:=I.base.frzs b ob xs e
  rw[ak (ne _ _ this)]
  exact this
 ·obtain⟨m,q⟩:=I.base.tbls b ps e
  exact⟨m,by rw[ak (ne _ _ q)];exact q⟩
 ·rw[ak (Ne.symm f.nl)]
  exact I.free
 ·rw[ak (f.nc x c e)]
  exact I.freeC x c e
 ·obtain⟨e,n,r⟩:=I.pin p hp
  exact⟨e,by rw[ak (f.np p hp)];exact n,r⟩
 ·by_cases hb:b=a
  ·rw[hb,ae]at e
   cases e
   rw[hb]
   exact new
  ·rw[ak hb]at e
   exact(I.hok b u e).stay (fun c v _ q=>q) (fun c q=>by rw[ak (ne c _ q)];exact q) fun c xs q=>by rw[ak (ne c _ q)];exact q
end
section
variable{X:Cx}{pins:List (Addr×Obj)}{σ:St}{H:Hp}{s:Shared}{x:Addr}{C:Value}{E:Value->Shared->Prop}
end
section
variable{X:Cx}{k:Nat}{f C:Addr}{fd:FuncData}{ps:List Str}{sp:Sp}{dvs:List V}{ds:List Value}{W:WK}{x m:Str}{p pos apos:Pos}{e o:Expr}{es:List Expr}{ta:TE}{t:TA}
end
end L2
namespace L2
open PySem PySem.Spec PyProof.Rows
section
variable{X:Cx}{pins:List (Addr×Obj)}{σ:St}{H:Hp}{s:Shared}{x:Addr}{C:Value}
end
section
variable{M:Model}{A:Around}{E:Value->Shared->Prop}{h:Heap}{g:Array GenState}{d:Drawn}{t:Nat}{os:OsState}
end
section
variable{X:Cx}{pins pins':List (Addr×Obj)}{σ:St}{H:Hp}{s:Shared}{E:Value->Shared->Prop}{b:Addr}
end
section
variable{X:Cx}{k:Nat}{f:Addr}{fd:FuncData}{ps:List Str}{sp:Sp}{dvs:List V}{ds:List Value}{W:WK}{x:Str}{p pos:Pos}{e:Expr}{es:List Expr}{t:TA}
end
end L2
namespace L2
open PySem PySem.Spec PyProof.Rows
end L2
namespace L2
open PySem PySem.Spec PyProof.Rows
section
variable{prog:Program}{w:World}{A:Around}{E:Value->Shared->Prop}{s:Shared}
theorem Eh:typeLookup (.type "list_reverseiterator") "__len__" = pure none:=by rw[typeLookup_type,builtinLookup_eq_fast];kernel_rfl
theorem Gm:typeLookup (.type "list_reverseiterator") "__length_hint__" = pure (some (.builtin "list_reverseiterator.__length_hint__")):=by rw[typeLookup_type,builtinLookup_eq_fast];kernel_rfl
theorem GC{r:Addr}{Q:Bool->Shared->Prop} (hT:s.TypeIs (.ref r) "list_reverseiterator") (h:Q false s):wpAny (model prog w) A (Builtin.List.listLengthHint (.ref r)) Q E s:=by
 unfold Builtin.List.listLengthHint
 refine wpAny_bind (wpAny_specialOf hT Eh ?_)
 wp_delta
 refine wpAny_ite_split (fun hab=>absurd hab (by decide)) (fun _=>?_)
 refine wpAny_ite_split (fun hab=>absurd hab (by decide)) (fun _=>?_)
 refine wpAny_bind (wpAny_specialOf hT Gm ?_)
 generalize hid:("list_reverseiterator.__length_hint__" : String)=id0
 wp_delta
 rw[show splitId id0=some ("list_reverseiterator","__length_hint__") from by subst hid;decide +kernel]
 subst hid
 refine wpAny_bind (wpAny_isInstance (T:="list_reverseiterator") (b:=true) hT (by rw[isSubtype_type];kernel_rfl) ?_)
 refine wpAny_ite_split (fun hab=>absurd hab (by decide)) (fun _=>?_)
 refine wpAny_ite_split (fun _=>?_) (fun hab=>absurd (by decide +kernel) hab)
 refine wpAny_ite_split (fun hab=>absurd hab (by decide +kernel)) (fun _=>?_)
 exact wpAny_pure h
end
end L2
namespace L2
open PySem PySem.Spec PyProof.Rows
section
variable{prog:Program}{w:World}{A:Around}{E:Value->Shared->Prop}{s:Shared}
theorem Co{R:Result->Shared->Prop}{r l S:Addr}{items:Array Value}(hh:A.handled=none)(hit:s.heap.IsRevIter r l ((items.size:Int)-1))(hl:s.heap.IsList l items)(hSr:S≠r)(hSl:S≠l)(hrl:l≠r)(res:Value)(c0:Nat)
  (hS:s.heap.get? S=some { cls:=.type "list",data:=.seq #[] c0 })
  (hR:∀ h' tk acc' c',(∀ b o,b≠S->b≠r->s.heap.get? b=some o->h'.get? b=some o)->h'.get? S=some { cls:=.type "list",dict:=none,data:=.seq acc' c',slots:=#[] }->ItemsOf (fun i v=>items[items.size-1-i]?=some v) acc' items.size->R (.ok (.ret res)) { s with heap:=h',toks:=tk }) (hn:items.size<=sizeLine) :
  wpAny (model prog w) A.in1 (Builtin.List.listExtendWith (.ref S) (.ref r) res)
   (fun fin s'=>match fin with | .done f=>R (.ok f) s' | .again c'=>c'.quiet=true/\codeAny (model prog w) A c' R s') (fun e s'=>R (.error e) s') s:=by
 have W:=Walks.listRev (prog:=prog) (w:=w) (A:=A.in1) hh r l hrl items
 have hSf:S∉[r,l]:=by simp only[Ju,KG,or_false,not_or];exact⟨hSr,hSl⟩
 have key:∀(h:Heap)(c1 tk:Nat),(0<=items.size/\h.IsRevIter r l ((items.size:Int)-1-((0:Nat):Int))/\h.IsList l items)->(∀ b o,b≠S->b≠r->s.heap.get? b=some o->h.get? b=some o) ->
   h.get? S=some { cls:=.type "list",data:=.seq #[] c1 }->codeAny (model prog w) A (.builtin "list.extend.loop" ⟨[.ref S,.ref r,res],[]⟩) R { s with heap:=h,toks:=tk }:=by
  intro h c1 tk hst hk hS1
  refine codeAny_extend_loopS W.toS hn S hSf res items.size 0 _ #[] c1 rfl (Ku _) hst hS1 (ItemsOf.nil _) fun s' acc' c' hm hS' hacc=>?_
  rw[Moved.eq_with hm]
  refine hR s'.heap s'.toks acc' c' (fun b o hb hbr e=>hm.heap b o (fun hmem=>?_) (hk b o hb hbr e)) hS' hacc
  rcases Ju.mp hmem with e' | hmem
  ·exact hb e'
  ·exact hbr (JI.mp hmem)
 have hit0:s.heap.IsRevIter r l ((items.size:Int)-1-((0:Nat):Int)):=by
  have e:(items.size:Int)-1-((0:Nat):Int)=(items.size:Int)-1:=by omega
  rw[e];exact hit
 unfold Builtin.List.listExtendWith
 refine wpAny_bind (wpAny_typeOf (T:="list_reverseiterator") hit.typeIs ?_)
 have h1:Builtin.List.listSameRef (.ref S) (.ref r)=false:=by simp[Builtin.List.listSameRef,hSr]
 have h2:(Value.type "list_reverseiterator" == Value.type "list")=false:=by decide
 have h3:(Value.type "list_reverseiterator" == Value.type "tuple")=false:=by decide
 simp only[h1,h2,h3,Bool.or_false,Kt,if_false]
 refine wpAny_bind (wpAny_pyIter_revIter hit ?_)
 refine wpAny_bind (wpAny_holding (GC hit.typeIs ?_))
 refine wpAny_ite_split (fun _=>?_) (fun _=>wpAny_pure ⟨plainId_quiet LG _,key _ c0 _ ⟨Ku _,hit0,hl⟩ (fun b o _ _ e=>e) hS⟩)
 refine wpAny_bind (wpAny_rule ?_)
 refine wpAny_bind ?_
 show wpAny _ _ (updateSeq S (·.push .none) >>= fun _=>updateSeq S (·.pop)) _ _ _
 refine wpAny_bind (wpAny_updateSeq hS rfl ?_)
 have hS2:=Heap.get?_update_self (Obj.mapSeq (·.push Value.none)) hS rfl
 refine wpAny_updateSeq (hz:=by seq_fits) hS2 rfl ?_
 have hS3:=Heap.get?_update_self (Obj.mapSeq (·.pop)) hS2 rfl
 have oth:∀ b o,b≠S->s.heap.get? b=some o->((s.heap.update S (Obj.mapSeq (·.push Value.none))).update S (Obj.mapSeq (·.pop))).get? b=some o:=fun b o hb e=>(Heap.get?_update_other _ _ (Ne.symm hb)).trans ((Heap.get?_update_other _ _ (Ne.symm hb)).trans e)
 refine wpAny_pure ⟨plainId_quiet LG _,key _ _ _ ⟨Ku _,hit0.at fun o e=>oth r o (Ne.symm hSr) e,hl.at fun o e=>oth l o (Ne.symm hSl) e⟩ (fun b o hb _ e=>oth b o hb e) hS3⟩
theorem Gz{R:Result->Shared->Prop}{r l S:Addr}{items:Array Value}(hh:A.handled=none)(hit:s.heap.IsRevIter r l ((items.size:Int)-1))(hl:s.heap.IsList l items)(hSr:S≠r)(hSl:S≠l)(hrl:l≠r)
  (hS:s.heap.get? S=some { cls:=.type "list",data:=.seq #[] })
  (hR:∀ h' tk acc' c',(∀ b o,b≠S->b≠r->s.heap.get? b=some o->h'.get? b=some o)->h'.get? S=some { cls:=.type "list",dict:=none,data:=.seq acc' c',slots:=#[] }->ItemsOf (fun i v=>items[items.size-1-i]?=some v) acc' items.size->R (.ok (.ret .none)) { s with heap:=h',toks:=tk }) (hn:items.size<=sizeLine) :
  wpAny (model prog w) A.in1 (Builtin.«list.__init__» ⟨[.ref S,.ref r],[]⟩)
   (fun fin s'=>match fin with | .done f=>R (.ok f) s' | .again c'=>c'.quiet=true/\codeAny (model prog w) A c' R s') (fun e s'=>R (.error e) s') s:=by
 show wpAny _ _ (do let old ← Builtin.List.listItems (.ref S);Builtin.List.listUpdate (.ref S) (fun _=>#[]);letGo old.toList.reverse;Builtin.List.listExtendWith (.ref S) (.ref r) .none) _ _ s
 refine wpAny_bind ?_
 unfold Builtin.List.listItems
 refine wpAny_bind (wpAny_seqItems hS rfl (wpAny_pure ?_))
 show wpAny _ _ (updateSeq S (fun _=>#[]) >>= fun _=>letGo (#[]:Array Value).toList.reverse >>= fun _=>Builtin.List.listExtendWith (.ref S) (.ref r) .none) _ _ s
 refine wpAny_bind (wpAny_updateSeq hS rfl ?_)
 have hS2:=Heap.get?_update_self (Obj.mapSeq (fun _=>(#[]:Array Value))) hS rfl
 have oth:∀ b o,b≠S->s.heap.get? b=some o->(s.heap.update S (Obj.mapSeq (fun _=>(#[]:Array Value)))).get? b=some o:=fun b o hb e=>(Heap.get?_update_other _ _ (Ne.symm hb)).trans e
 refine wpAny_bind (wpAny_letGo ?_)
 refine Co hh (hit.at fun o e=>oth r o (Ne.symm hSr) e) (hl.at fun o e=>oth l o (Ne.symm hSl) e) hSr hSl hrl .none _ hS2 (fun h' tk acc' c' hk hS' hacc=>?_) hn
 exact hR h' tk acc' c' (fun b o hb hbr e=>hk b o hb hbr (oth b o hb e)) hS' hacc
theorem ze{r l:Addr}{items:Array Value}{Q:Value->Shared->Prop}(hh:A.handled=none)(hit:s.heap.IsRevIter r l ((items.size:Int)-1))(hl:s.heap.IsList l items)(hrl:l≠r)(hn:items.size<=sizeLine)
  (hQ:∀ h' tk acc' c',(∀ b o,b≠r->s.heap.get? b=some o->h'.get? b=some o)->h'.get? s.heap.objs.size=some { cls:=.type "list",dict:=none,data:=.seq acc' c',slots:=#[] }->ItemsOf (fun i v=>items[items.size-1-i]?=some v) acc' items.size->Q (.ref s.heap.objs.size) { s with heap:=h',toks:=tk }) :
  wpAny (model prog w) A (call (.type "list") [.ref r]) Q E s:=by
 refine callType_codes (Q₁:=fun obj s₁=>obj=.ref s.heap.objs.size/\s₁={ s with heap:=s.heap.push { cls:=.type "list",data:=.seq #[] } }) PySem.F.called_list (PySem.F.typeCall_list_1 _) PySem.F.entry_list_init
  (code_list_new _ ⟨rfl,rfl⟩) fun obj s₁ h₁=>?_
 obtain⟨rfl,rfl⟩:=h₁
 have hS:(s.heap.push { cls:=.type "list",data:=.seq #[] }).get? s.heap.objs.size=some { cls:=.type "list",data:=.seq #[] }:=Heap.get?_push_size _ rfl
 have hr:r<s.heap.objs.size:=let ⟨_,ho,_⟩:=hit;Heap.lt_size ho
 have hl':l<s.heap.objs.size:=let ⟨_,ho,_⟩:=hl;Heap.lt_size ho
 refine⟨⟨_,hS,rfl⟩,PySem.F.args_list_init_2 _ _,Gz (A:=A.in1) hh (hit.at fun o e=>Heap.get?_push_of_some _ e) (hl.push _) (K7 hr) (K7 hl') hrl hS (fun h' tk acc' c' hk hS' hacc=>?_) hn⟩
 exact⟨rfl,hQ h' tk acc' c' (fun b o hb e=>hk b o (JN (Heap.lt_size e)) hb (Heap.get?_push_of_some _ e)) hS' hacc⟩
end
section
variable{X:Cx}
theorem Inv.track{pins:List (Addr×Obj)}{σ:St}{H:Hp}{s:Shared}{a:Addr}{o:HO}(I:Inv X pins σ H s)(f:FpOk X pins H a)(new:bI X.prog X.w (upd H a o) s.heap a o):Inv X pins σ (upd H a o) s:=by
 obtain⟨f0,f1,f2,f3,f4,f5⟩:=f
 have ne:∀ b u,H b=some u->b≠a:=fun b u e=>aK e f0
 refine I.step (g':=s.gens) (t':=s.toks) (d':=s.drawn) (h':=s.heap) (ch:=[a]) (fun b hb=>?_) (fun b o _ _ _ e _=>e) (fun b o _ _ _ e _=>⟨o.slots,e⟩) (fun b o hc e n=>?_) (fun b o _ e=>⟨o,e⟩) (fun b xs e=>by rw[ak (ne b _ e)];exact e) (fun b o u e=>by rw[ak (ne b _ e)];exact e)
  (fun b ps e=>⟨#[],by rw[ak (ne b _ e),e];simp⟩) (fun m hm=>hm) (fun b u e=>?_) I.bare
 ·have eb:b=a:=by simpa using hb
  rw[eb]
  exact⟨f3,f1,f4,f5⟩
 ·rw[ak (fun z=>hc (by simp[z]))]
  exact n
 ·by_cases hb:b=a
  ·rw[hb,ae]at e
   cases e
   rw[hb]
   exact new
  ·rw[ak hb]at e
   exact(I.hok b u e).stay (fun c v _ q=>q) (fun c q=>by rw[ak (ne c _ q)];exact q) fun c xs q=>by rw[ak (ne c _ q)];exact q
theorem Fm{ys:List V}{its:List Value}{acc:Array Value}(rv:Vals ys its)(h:ItemsOf (fun i v=>its.toArray[its.toArray.size-1-i]?=some v) acc its.toArray.size):Vals ys.reverse acc.toList:=by
 have e:acc.toList=its.reverse:=by
  apply MU
  intro i
  by_cases hi:i<its.length
  ·have hacc:i<acc.size:=by rw[h.1];simpa using hi
   have q:=h.2 i acc[i] (KR hacc)
   rw[KC,KR hacc,Mx hi,← q]
   simp
  ·rw[LS (by rw[JR,h.1];simpa using hi),LS (by rw[MM];omega)]
 rw[e]
 exact rv.reverse
theorem BM{e:Expr}{te:TE}{p p2 pos pos2:Pos}(hc:X.calm=true) (hg:Gl X "list") (hm:X.mg "list" = none) (hg2:Gl X "reversed") (hm2:X.mg "reversed" = none) (he:PE X e te)
  (h1:starEach [.Call (.Name "reversed" p2) [e] [] pos2] X.env = [(false,eval (.Call (.Name "reversed" p2) [e] [] pos2) X.env)]:=by rfl) (h2:starEach [e] X.env=(false,eval e X.env)::starEach [] X.env:=by rfl) :
  PE X (.Call (.Name "list" p) [.Call (.Name "reversed" p2) [e] [] pos2] [] pos) (fun σ H Q=>te σ H fun x H1=>∃ l ys,x=.ref l/\SqL X.K H1 l ys/\∀ q,H1 q=none->Q (.ref q) (upd H1 q (.lst ys.reverse))):=by
 intro pins s σ H Q I h
 refine wpAny_Call_Name_kw (oX I hg hm iS ?_)
 refine PyProof.Rows.callWith_type1 ?_ h1 rfl
 rw[h1]
 refine Calls.spliced_cons ?_
 refine wpAny_Call_Name_kw (oX I hg2 hm2 Ac ?_)
 refine PyProof.Rows.callWith_type1 ?_ h2 rfl
 rw[h2]
 refine Calls.spliced_cons (thn (he pins s σ H _ I h) fun u s1 ⟨x,H1,I1,r1,q1⟩=>?_)
 obtain⟨l,ys,rfl,hq,q⟩:=q1
 cases r1
 refine Calls.spliced_nil ?_
 obtain⟨its,rv,pl,hz⟩:=I1.list hq
 have hn:its.toArray.size=ys.length:=by rw[JW,rv.length]
 refine call_reversed_list pl.isList ?_
 refine Calls.spliced_nil ?_
 have hlt:l<s1.heap.objs.size:=by
  obtain⟨o,n,e1,_⟩:=pl
  exact Heap.lt_size e1
 have I2:Inv X pins σ H1 { s1 with heap:=s1.heap.push (revObj l ((its.toArray.size:Int)-1)) }:=I1.kept (t':=s1.toks) fun b o e=>Heap.get?_push_of_some _ e
 have hit:(s1.heap.push (revObj l ((its.toArray.size:Int)-1))).IsRevIter s1.heap.objs.size l ((its.toArray.size:Int)-1):=⟨_,Heap.get?_push_size _ rfl,rfl,rfl⟩
 refine ze (I.ok.hd hc) hit (pl.isList.push _) (JN hlt) (by rw[hn];exact hz) fun h' tk acc' c' hk hS hacc=>?_
 obtain⟨f0,f1,f2,f3,f4,f5⟩:=I1.fpOk (H':=H1) (Jw _) (I1.hok.fresh (Jw _))
 have I3:Inv X pins σ H1 { s1 with heap:=h',toks:=tk }:=I2.turned (t':=tk) (fun b o hb e=>hk b o hb e) f0 f1 f3 f4 f5
 have fS:=I2.fpOk (H':=H1) (Jw _) (I2.hok.fresh (Jw _))
 have I4:=I3.track (o:=.lst ys.reverse) fS ⟨by rw[MM];exact hz,acc'.toList,c',Fm rv hacc,by rw[Array.toArray_toList];exact hS⟩
 exact⟨.ref _,_,I4,rfl,q _ fS.1⟩
end
end L2
namespace L2
open PySem PySem.Spec PyProof.Rows
section
variable{X:Cx}
theorem vM{P:Program}{w:World}:∀{kvs:List (Key×V)}{vs:List (Key×Value)}{us:List Value},KV kvs vs->us.length=vs.length->(∀(j:Nat)(v:Value),us[j]?=some v->∃ k x,vs[j]?=some (k,x)/\(bL P w).is k v=true)->Vals (kvs.map fun q=>kV q.1) us
 |_,_,[],.nil,_,_=>.nil
 |_,_,_::_,.nil,e,_=>by cases e
 |_,_,[],.cons _ _,e,_=>by cases e
 |_,_,u::us,.cons (a:=p) (b:=q) r rr,e,k=>by
  obtain⟨kk,x,e1,e2⟩:=k 0 u rfl
  have eq:q=(kk,x):=JL e1
  have hk:p.1=kk:=by rw[r.1,eq]
  refine .cons ?_ (vM rr (MV e) fun j v ej=>k (j+1) v ej)
  show RelV (kV p.1) u
  rw[hk]
  rcases bq (show zm kk u=true from e2) with⟨i,t,rfl,rfl⟩ | ⟨z,t,rfl,rfl⟩
  ·exact⟨t,rfl⟩
  ·exact⟨t,rfl⟩
end
end L2
namespace L2
open PySem PySem.Spec PyProof.Rows
theorem Inv.turnedL{X:Cx}{pins:List (Addr×Obj)}{σ:St}{H:Hp}{s:Shared}{h':Heap}{t':Nat}{fp:List Addr}(I:Inv X pins σ H s)(k:∀ b o,b∉fp->s.heap.get? b=some o->h'.get? b=some o)(hf:∀ b∈fp,FpOk X pins H b):Inv X pins σ H { s with heap:=h',toks:=t' }:=by
 have nit:∀ b u,H b=some u->b∉fp:=fun b u e z=>by rw[(hf b z).1]at e;cases e
 refine I.step (g':=s.gens) (d':=s.drawn) (ch:=fp) (fun b hb=>?_) (fun b o _ _ hc e _=>k b o hc e) (fun b o _ _ hc e _=>⟨o.slots,k b o hc e⟩) (fun _ _ _ _ n=>n)
  (fun b o hc e=>⟨o,k b o hc e⟩) (fun _ _ e=>e) (fun _ _ _ e=>e) (fun b ps e=>⟨#[],by rw[e];simp⟩) (fun m hm=>?_) (fun b u e=>?_) I.bare
 ·obtain⟨f0,f1,f2,f3,f4,f5⟩:=hf b hb
  exact⟨f3,f1,f4,f5⟩
 ·obtain⟨o,es,ep,ho,r⟩:=hm
  exact⟨o,es,ep,k _ o (fun z=>(hf _ z).2.1 rfl) ho,r⟩
 ·refine(I.hok b u e).stay (fun c v hc q=>k c v ?_ q) (fun _ q=>q) fun _ _ q=>q
  rcases hc with z | z
  ·rw[z];exact nit b u e
  ·exact nit c _ z
def Ite(K:Js)(a:Addr):It :=
 ⟨fun i H=>∃ xs x,SqL K H a xs/\xs[i]?=some x,fun i H v H'=>∃ T x,H T=none/\v=.ref T/\H'=upd H T (.tup [.int (i:Int),x])/\∀ xs,SqL K H a xs->xs[i]?=some x,fun i H=>∃ xs,SqL K H a xs/\xs.length<=i⟩
theorem Dl{P:Program}{w:World}{K:Js}{es:List Expr}{k:Nat}{pos:Pos}(a e it:Addr)(hei:e≠it):Turn P w K (.Tuple es k pos) (Ite K a) [e,it] e (fun i h=>(∃ old,IsEnum h e it ((i:Nat):Int) old)/\h.IsListIter it a i) where
 mem:=by simp
 obj:=fun i h st b hb=>by
  obtain⟨⟨old,he⟩,o,e2,c,d⟩:=st
  rcases Ju.mp hb with rfl | hb
  ·exact⟨_,he,fun v z=>by
    have z':Data.fields _=Data.cell v:=z
    cases z'⟩
  ·have e3:b=it:=by simpa using hb
   subst e3
   exact⟨o,e2,fun v z=>by rw[d]at z;cases z⟩
 keep:=fun i h h' st kk=>by
  obtain⟨⟨old,he⟩,hit⟩:=st
  exact⟨⟨old,kk e (by simp) _ he⟩,hit.at fun o q=>kk it (by simp) o q⟩
 item:=by
  intro X hP hw hK hc i pins s σ H E I hf st hg
  subst hP hw hK
  obtain⟨xs,x,hq,hx⟩:=hg
  obtain⟨its,rv,p,hz⟩:=I.list hq
  obtain⟨u,hu,ru⟩:=rv.get hx
  obtain⟨⟨old,he⟩,hit⟩:=st
  refine wpAny_pyNext_enum_item he hit p.isList (x:=u) (by simpa using hu) hei fun h' ho hit' hT hsz hk=>?_
  refine⟨_,rfl,?_⟩
  refine wpAny_letOwnedTupleGo_enum ho fun h2 he2 hs2=>?_
  have hs2':Heap.SameBut e h' h2:=hs2
  have hel:e<s.heap.objs.size:=Heap.lt_size he
  have hil:it<s.heap.objs.size:=by obtain⟨_,q,_⟩:=hit;exact Heap.lt_size q
  have hfr:H s.heap.objs.size=none:=I.hok.fresh (Jw _)
  have I0:Inv X pins σ (upd H s.heap.objs.size (.tup [.int (i:Int),x])) { s with heap:=s.heap.push { cls:=.type "tuple",data:=.seq #[.int (i:Int) s.toks,u] },toks:=s.toks+1 } :=
   I.laid (t':=s.toks+1) (fun b u e=>Heap.get?_push_of_some _ e) (Jw _) ⟨by show 2<=sizeLine;decide,[.int (i:Int) s.toks,u],.cons ⟨_,rfl⟩ (.cons ru .nil),⟨_,Heap.get?_push_size _ rfl,rfl,_,rfl⟩⟩
  have hfb:∀ b∈[e,it],b<s.heap.objs.size:=fun b hb=>by
   rcases Ju.mp hb with rfl | hb
   ·exact hel
   ·have e3:b=it:=by simpa using hb
    rw[e3];exact hil
  have hn:∀ b∈[e,it],upd H s.heap.objs.size (.tup [.int (i:Int),x]) b=none:=fun b hb=>by
   rw[ak (JN (hfb b hb))]
   exact(hf b hb).1
  have I2:Inv X pins σ (upd H s.heap.objs.size (.tup [.int (i:Int),x])) { s with heap:=h2,toks:=s.toks+1 }:=Inv.turnedL (s:={ s with heap:=s.heap.push { cls:=.type "tuple",data:=.seq #[.int (i:Int) s.toks,u] },toks:=s.toks+1 }) (h':=h2) I0 (t':=s.toks+1) (fp:=[e,it]) (fun b o hb q=>by
   have nb:b≠e:=fun z=>hb (by simp[z])
   have nb2:b≠it:=fun z=>hb (by simp[z])
   refine(hs2'.2 b nb).trans ?_
   rcases Heap.get?_push_cases q with⟨z1,z2⟩ | q
   ·rw[z1,z2];exact hT
   ·exact hk b o nb nb2 q) fun b hb=>⟨hn b hb,(hf b hb).2⟩
  refine⟨.ref s.heap.objs.size,_,I2,rfl,⟨s.heap.objs.size,x,hfr,rfl,rfl,fun ys hy=>by rw[I.list_inj hy hq];exact hx⟩,?_,hn⟩
  refine⟨⟨u,?_⟩,hit'.at fun o q=>(hs2'.2 it (Ne.symm hei)).trans q⟩
  have e4:(((i+1:Nat):Nat):Int)=(i:Int)+1:=by omega
  rw[e4]
  exact he2
 done:=by
  intro X hP hw hK hc i pins s σ H E I hf st hg
  subst hP hw hK
  obtain⟨xs,hq,hx⟩:=hg
  obtain⟨its,rv,p,hz⟩:=I.list hq
  obtain⟨⟨old,he⟩,hit⟩:=st
  have hl:=rv.length
  obtain⟨f0,f1,f2,f3,f4,f5⟩:=hf it (by simp)
  exact wpAny_pyNext_enum_end (I.ok.hd hc) he hit p.isList (by simp;omega) fun h' eb=>⟨rfl,I.turned (t':=s.toks) (fun b o hb e=>eb b o hb e) f0 f1 f3 f4 f5⟩
 self:=fun _ _ _ _ _ st h=>by
  obtain⟨⟨old,he⟩,_⟩:=st
  exact wpAny_pyIter_enum he h
section
variable{X:Cx}
def iEnum(K:Js)(ta:TA):TI:=fun σ H R=>ta σ H fun vs H1=>∃ a,vs = [.ref a]/\(∃ xs,SqL K H1 a xs)/\R (Ite K a) H1
theorem DQ{l:Expr}{ta:TA}{es:List Expr}{k:Nat}{tp p pos:Pos} (hg:Gl X "enumerate") (hm:X.mg "enumerate" = none) (ha:PA X [l] ta) (hs:starEach [l] X.env = [(false,eval l X.env)]:=by rfl) :
  PI X (.Tuple es k tp) (.Call (.Name "enumerate" p) [l] [] pos) (iEnum X.K ta):=by
 intro pins s σ H R I h
 refine Call_ (oX I hg hm wO (PyProof.Rows.callWith_type1 (thn (ha pos pins s σ H _ I h) fun us s1 ⟨vs,H1,I1,r1,q1⟩=>?_) hs rfl))
 obtain⟨a,e,⟨xs,hq⟩,q⟩:=q1
 subst e
 obtain⟨u,rfl,ru⟩:=rQ r1
 cases ru
 obtain⟨its,rv,p,hz⟩:=I1.list hq
 refine call_enumerate_list p.isList fun h' he hit hsz hk=>?_
 refine wpAny_pyIter_enum he ?_
 refine⟨s1.heap.objs.size+1,[s1.heap.objs.size+1,s1.heap.objs.size],_,_,H1,rfl,I1.kept (t':=s1.toks) hk,Dl a _ _ (Nat.succ_ne_self _),⟨⟨_,he⟩,hit⟩,fun b hb=>?_,q⟩
 have hb':s1.heap.objs.size<=b:=by
  rcases Ju.mp hb with rfl | hb
  ·exact Lx _
  ·have e3:b=s1.heap.objs.size:=by simpa using hb
   rw[e3];exact Jw _
 exact I1.fpOk hb' (I1.hok.fresh hb')
end
theorem Bc{K:Js}{a:Addr}{xs:List V}{g:TG}{tb:TS}{D:Ends}{σ:St}{H:Hp}(Pv:Nat->St->Hp->Prop)(h0:Pv 0 σ H)(hl:∀ i σ H,i<=xs.length->Pv i σ H->SqL K H a xs)
  (hs:∀ i x σ H T,xs[i]?=some x->Pv i σ H->H T=none->g (.ref T) σ (upd H T (.tup [.int (i:Int),x])) fun σ2 H2=>tb { D with nx:=Pv (i+1),ct:=Pv (i+1),bk:=D.nx } σ2 H2) (hd:∀ σ H,Pv xs.length σ H->D.nx σ H) :
  ∃ W:Nat->Nat->St->Hp->Prop,(∃ m,W 0 m σ H)/\∀ i m σ H,W i m σ H ->
   ((Ite K a).stop i H/\D.nx σ H)∨((Ite K a).go i H/\∃ N:St->Hp->Prop,(∀ σ' H',N σ' H'->∃ m',m'<m/\W (i+1) m' σ' H')/\∀ x H',(Ite K a).yld i H x H'->g x σ H' fun σ2 H2=>tb { D with nx:=N,ct:=N,bk:=D.nx } σ2 H2):=by
 refine⟨fun i m σ H=>m=xs.length-i/\i<=xs.length/\Pv i σ H,⟨xs.length,by simp,Ku _,h0⟩,?_⟩
 rintro i m σ H ⟨rfl,hi,p⟩
 have q:=hl i σ H hi p
 by_cases hlt:i<xs.length
 ·refine .inr ⟨⟨xs,xs[i],q,by simp[hlt]⟩,Pv (i+1),fun σ' H' p'=>⟨xs.length-(i+1),by omega,rfl,hlt,p'⟩,fun v H' y=>?_⟩
  obtain⟨T,x,hT,rfl,rfl,y⟩:=y
  exact hs i x σ _ T (y xs q) p hT
 ·have e:i=xs.length:=by omega
  subst e
  exact .inl ⟨⟨xs,q,Jw _⟩,hd σ H p⟩
end L2
namespace L2
open PySem PySem.Spec PyProof.Rows
section
variable{X:Cx}
end
theorem pq{n j:Nat}(h:j<n):ixN n (j:Int)=some j:=by
 unfold ixN
 rw[if_pos (by omega),if_pos (by omega)]
 rfl
end L2
namespace L2
open PySem PySem.Spec PyProof.Rows
theorem iL:∀{ds:List PyData},(∀ d∈ds,d.canLay0=true)->PyData.canLayAll0 ds=true
 |[],_=>by simp[PyData.canLayAll0]
 |d::ds,h=>by
  rw[PyData.canLayAll0,h d (by simp),iL fun x hx=>h x (by simp[hx])]
  rfl
theorem jW{n:Nat}:∀{ds:List PyData},(∀ d∈ds,d.depth<=n)->PyData.depthAll ds<=n
 |[],_=>by simp[PyData.depthAll]
 |d::ds,h=>by
  have h1:=h d (by simp)
  have h2:=jW (ds:=ds) fun x hx=>h x (JB _ hx)
  rw[PyData.depthAll]
  omega
theorem oA{ds:List PyData}(h:∀ d∈ds,d.canLay0=true/\d.depth<=10):SeqAt.shaped (.list ds)=true:=by
 have h1:=iL fun d hd=>(h d hd).1
 have h2:=jW fun d hd=>(h d hd).2
 have h3:PyData.depth (.list ds)<=64:=by simp only[PyData.depth];omega
 show(PyData.canLay0 (.list ds)&&decide (PyData.depth (.list ds)<=64))=true
 rw[Bool.and_eq_true]
 exact⟨by simp only[PyData.canLay0];exact h1,decide_eq_true h3⟩
end L2
namespace L2
open PySem PySem.Spec PyProof.Rows
def cxG(X:Cx)(scope:Scope)(fr:List (Str×Nat))(xs:List Str)(C:Addr)(ex:List Addr)(s:Shared)(H:Hp):Cx where
 prog:=X.prog
 w:=X.w
 K:=X.K
 mg:=X.mg
 base:=X.base
 A:=X.A
 N:=xs++fr.map (·.1)
 s₀:=s
 H₀:=H
 env:=compEnvC scope (clOf X.env fr) C X.env
 outer:=X.stack
 stack:=X.stack
 ex:=ex
 fn:=fun _=>false
 calm:=X.calm
 pn:=[]
 xe:=fun _ _=>False
structure uE(X:Cx)(scope:Scope)(fr:List (Str×Nat))(xs:List Str):Prop where
 clos:closureFor scope X.env=pure (clOf X.env fr)
 cell:∀ y∈scope.names,y.2≠.cell
 kind:scope.kind=.function
 names:∀ y∈scope.names,y.2=.local->scope.names.lookup y.1=some .local
 slot:∀ p∈fr,X.N[p.2]?=some p.1/\X.env.kindOf p.1=some .cell
 has:∀ y∈(relabel scope X.env).names,(y.2=.cell∨y.2=.free)->y.1∈fr.map (·.1)
 frk:∀ p∈fr,(relabel scope X.env).names.lookup p.1=some .cell
theorem uE.of{X:Cx}{scope:Scope}{fr:List (Str×Nat)}{xs:List Str}(clos:closureFor scope X.env=pure (clOf X.env fr))(cell:∀ y∈scope.names,y.2≠.cell)(kind:scope.kind=.function)(names:∀ y∈scope.names,y.2=.local->scope.names.lookup y.1=some .local)
  (slot:∀ p∈fr,X.N[p.2]?=some p.1/\X.env.kindOf p.1=some .cell) (nf:∀ z∈scope.names,z.2=.free->z.1∈fr.map (·.1)) (frk:∀ p∈fr,(relabel scope X.env).names.lookup p.1=some .cell):uE X scope fr xs where
 clos:=clos
 cell:=cell
 kind:=kind
 names:=names
 slot:=slot
 has:=fun z hz hk=>by
  obtain⟨⟨n,k⟩,hm,e⟩:=Kb.mp (show z∈scope.names.map _ from hz)
  have h2:=cell _ hm
  dsimp only at e h2
  have hn:z.1=n:=by rw[← e];split<;>rfl
  have hf:k=.free:=by
   by_cases q:k=.free
   ·exact q
   ·have hb:(k == NameKind.free)=false:=by simpa using q
    rw[hb]at e
    simp only[MI,Kt,if_false]at e
    subst e
    exact(hk.elim h2 q).elim
  have:=nf _ hm hf
  rw[hn]
  exact this
 frk:=frk
abbrev nons(xs:List Str):St:=K5 xs.length none
section
variable{X:Cx}{pins:List (Addr×Obj)}{σ:St}{H:Hp}{s:Shared}{scope:Scope}{fr:List (Str×Nat)}{xs:List Str}
theorem uE.cells(O:uE X scope fr xs)(I:Inv X pins σ H s){y:Str}{c:Addr}(h:(clOf X.env fr).lookup y=some c):X.env.cells.lookup y=some c:=by
 obtain⟨hm,e⟩:=fU h
 obtain⟨p,hp,ep⟩:=Kb.mp hm
 have k:=(O.slot p hp).2
 rw[ep]at k
 obtain⟨c',e'⟩:=I.ok.has y (.inl k)
 rw[e']at e
 rw[e',e]
 rfl
theorem Ey{fp:List Addr}(O:uE X scope fr xs)(I:Inv X pins σ H s)(hf:∀ b∈fp,FpOk X pins H b)(hfs:∀ b∈fp,b<s.heap.objs.size){g h':Heap}{tk:Nat}(hg:g=s.heap.push (LCg.lst []))
  (hk:∀ b o,g.get? b=some o->h'.get? b=some o) (hC:h'.Ns g.objs.size fun _=>none) :
  Inv (cxG X scope fr xs g.objs.size (s.heap.objs.size::fp) { s with heap:=g } H) (X.pn++pins++[(s.heap.objs.size,LCg.lst [])]) (nons xs++frOf fr σ) H { s with heap:=h',toks:=tk }:=by
 have hsz:g.objs.size=s.heap.objs.size+1:=by rw[hg,Heap.size_push]
 have kp:∀ b o,s.heap.get? b=some o->g.get? b=some o:=fun b o e=>by rw[hg];exact Heap.get?_push_of_some _ e
 have hk0:∀ b o,s.heap.get? b=some o->h'.get? b=some o:=fun b o e=>hk b o (kp b o e)
 have hDo:h'.get? s.heap.objs.size=some (LCg.lst []):=hk _ _ (by rw[hg];exact Heap.get?_push_size _ rfl)
 have neC:∀ b,b<s.heap.objs.size->b≠g.objs.size:=fun b e=>by rw[hsz];exact JN (KW e)
 have hDC:s.heap.objs.size≠g.objs.size:=by rw[hsz];exact JN (KA _)
 have hfr:H g.objs.size=none:=I.hok.fresh (by rw[hsz];exact Lx _)
 have hfD:H s.heap.objs.size=none:=I.hok.fresh (Jw _)
 have cne:∀ y c,X.env.cells.lookup y=some c->c<s.heap.objs.size:=fun y c e=>by
  obtain⟨v,q⟩:=I.cell y c e
  exact q.lt
 have nst:∀ b,b≠X.env.locals->b∉X.fs->b∉frs X.stack:=fun b h1 h2 z=>(Ju.mp (I.stkSub b z)).elim h1 h2
 have nstD:s.heap.objs.size∉frs X.stack:=nst _ (K7 I.lt) (I.nofs (Jw _))
 refine⟨⟨I.ok.mod,O.kind,I.ok.glob,I.ok.blt,Jw _,?_,?_,fun _ _ z _=>(by cases z),I.ok.hd,I.ok.frames,.inl rfl,?_,?_,?_,?_,?_,?_,I.stkFree⟩,rfl,I.bare,Un.kept hk,?_,?_,hfr,?_,?_,I.hok.kept hk0,?_⟩
 ·intro y z c h1 h2
  exact I.ok.inj y z c (O.cells I h1) (O.cells I h2)
 ·intro y hy
  have hm:y∈fr.map (·.1):=by
   rcases hy with hy | hy
   ·exact O.has (y,_) (KS hy) (.inl rfl)
   ·exact O.has (y,_) (KS hy) (.inr rfl)
  exact⟨_,bM hm⟩
 ·intro b hb
  rcases Ju.mp hb with rfl | hb
  ·exact⟨hDC,fun y c e=>JN (cne y c (O.cells I e))⟩
  ·exact⟨neC b (hfs b hb),fun y c e=>(hf b hb).2.2.2.2.1 y c (O.cells I e)⟩
 ·intro b o e
  exact⟨kp b o (I.bs b o e).1,(I.bs b o e).2⟩
 ·show X.base.objs.size<=g.objs.size
  rw[hsz]
  exact Nat.le_succ_of_le (Ky I.ok.bsz I.sz)
 ·intro b o e hb
  rcases Ju.mp hb with z | hb
  ·have:=Heap.lt_size (I.bs b o e).1
   rw[z]at this
   exact KD _ this
  ·rcases(hf b hb).2.2.2.1 with z | z
   ·exact I.ok.noex b o e z
   ·exact absurd (Ki (Heap.lt_size (I.ok.bs b o e).1) z) (KD _)
 ·intro b hb
  rcases Ju.mp hb with z | hb
  ·rw[z];exact nstD
  ·exact nst b (hf b hb).2.1 (hf b hb).2.2.1
 ·exact(I.kept (h':=g) (t':=s.toks) kp).stack
 ·refine⟨_,hC,fun i y v e1 e2 e3=>?_⟩
  have e1a:(xs++fr.map (·.1))[i]?=some y:=e1
  by_cases hi:i<xs.length
  ·rw[Jx (by simpa using hi)]at e2
   rw[Lq,if_pos hi]at e2
   cases e2
  ·have e1':(fr.map (·.1))[i-xs.length]?=some y:=by
    rw[Jv (by omega)]at e1a
    exact e1a
   have e2':(frOf fr σ)[i-xs.length]?=some (some v):=by
    rw[Jv (by simp;omega)]at e2
    simpa using e2
   generalize i-xs.length=k at e1' e2'
   unfold frOf at e2'
   rw[Jy]at e1' e2'
   cases q:fr[k]? with
   |none=>rw[q]at e1';cases e1'
   |some p =>
    rw[q]at e1' e2'
    have ey:p.1=y:=JL e1'
    have ev:(σ[p.2]?).join=some v:=JL e2'
    have hp:p∈fr:=Jq q
    obtain⟨hN,hK⟩:=O.slot p hp
    have hkk:=O.frk p hp
    rw[ey]at hN hK hkk
    have ev':σ[p.2]?=some (some v):=by
     cases q2:σ[p.2]? with
     |none=>rw[q2]at ev;cases ev
     |some w=>rw[q2]at ev;exact congrArg some ev
    obtain⟨m,hn,hl⟩:=I.loc
    obtain⟨u,r,l⟩:=hl p.2 y v hN ev' (.inr (.inl hK))
    refine⟨u,r,?_⟩
    rcases l with⟨k1,_⟩ | ⟨_,c,ec,z⟩
    ·rw[hK]at k1;cases k1
    ·have hm:y∈fr.map (·.1):=by rw[← ey];exact Kb.mpr ⟨p,hp,rfl⟩
     have el:=bM (env:=X.env) hm
     rw[ec]at el
     exact .inr ⟨.inl hkk,c,el,by obtain⟨o,ho,hd⟩:=z;exact⟨o,hk0 _ _ ho,hd⟩⟩
 ·intro y c e
  obtain⟨v,o,ho,hd⟩:=I.cell y c (O.cells I e)
  exact⟨v,o,hk0 _ _ ho,hd⟩
 ·intro y c e
  exact I.freeC y c (O.cells I e)
 ·intro p hp
  rcases JA.mp hp with hp | hp
  ·cases hp
  ·rcases JA.mp hp with hp | hp
   ·obtain⟨e,n,ne,nf,d⟩:=I.pin p hp
    exact⟨hk0 _ _ e,n,neC _ (Heap.lt_size e),nst _ ne nf,d⟩
   ·have ep:p=(s.heap.objs.size,LCg.lst []):=by simpa using hp
    subst ep
    exact⟨hDo,hfD,hDC,nstD,fun v z=>by cases z⟩
 ·show(nons xs++frOf fr σ).length=(xs++fr.map (·.1)).length
  unfold frOf
  simp
theorem tT{fp:List Addr}{g:Heap}{s':Shared}{H':Hp}{σ':St}{ys:List V}{us:List Value}(I:Inv X pins σ H s)(hf:∀ b∈fp,FpOk X pins H b)(hg:g=s.heap.push (LCg.lst []))
  (J:Inv (cxG X scope fr xs g.objs.size (s.heap.objs.size::fp) { s with heap:=g } H) (X.pn++pins++[(s.heap.objs.size,LCg.lst us)]) σ' H' s') (hv:Vals ys us) (hl:ys.length<=sizeLine) :
  Inv X pins σ (upd H' s.heap.objs.size (.lst ys)) s'/\H' s.heap.objs.size=none/\FpOk X pins (upd H' s.heap.objs.size (.lst ys)) g.objs.size/\∃ m,s'.heap.Ns g.objs.size m:=by
 have hsz:g.objs.size=s.heap.objs.size+1:=by rw[hg,Heap.size_push]
 have kp:∀ b o,s.heap.get? b=some o->g.get? b=some o:=fun b o e=>by rw[hg];exact Heap.get?_push_of_some _ e
 obtain⟨eD,nD,_,_,_⟩:=J.pin (s.heap.objs.size,LCg.lst us) (by simp)
 have hDC:g.objs.size≠s.heap.objs.size:=by rw[hsz];exact K7 (KA _)
 have nD':∀ b u,H' b=some u->b≠s.heap.objs.size:=fun b u e z=>by rw[z]at e;rw[e]at nD;cases nD
 have hx:∀ b o,s.heap.get? b=some o->b∉fp->b∉s.heap.objs.size::fp:=fun b o e hb z=>by
  rcases Ju.mp z with z | z
  ·have:=Heap.lt_size e
   rw[z]at this
   exact KD _ this
  ·exact hb z
 have bU:Un (frs X.stack) (s.heap.objs.size::fp) H H' g s'.heap:=J.base
 have ltD:∀ b o,s.heap.get? b=some o->b≠s.heap.objs.size:=fun b o e=>JN (Heap.lt_size e)
 have un:Un (frs X.stack) fp H (upd H' s.heap.objs.size (.lst ys)) s.heap s'.heap:=by
  refine⟨fun b o e n hb he=>bU.keep b o (kp b o e) n hb (hx b o e he),fun b o e n hb he=>bU.slot b o (kp b o e) n hb (hx b o e he),fun b o e n he=>?_,fun b o e he=>bU.there b o (kp b o e) (hx b o e he),fun b xs e=>?_,fun b o u e=>?_,fun b ps e=>?_⟩
  ·rw[ak (ltD b o e)];exact bU.free b o (kp b o e) n (hx b o e he)
  ·have q:=bU.tups b xs e
   rw[ak (nD' b _ q)];exact q
  ·have q:=bU.frzs b o u e
   rw[ak (nD' b _ q)];exact q
  ·obtain⟨more,q⟩:=bU.tbls b ps e
   exact⟨more,by rw[ak (nD' b _ q)];exact q⟩
 have hok:HOk X.prog X.w (upd H' s.heap.objs.size (.lst ys)) s'.heap:=fun b u e=>by
  by_cases hb:b=s.heap.objs.size
  ·rw[hb,ae]at e
   cases e
   rw[hb]
   exact⟨hl,us,us.length,hv,eD⟩
  ·rw[ak hb]at e
   exact(J.hok b u e).stay (fun c v _ q=>q) (fun c q=>by rw[ak (nD' c _ q)];exact q) fun c xs q=>by rw[ak (nD' c _ q)];exact q
 have os:s'.os=s.os:=J.os
 refine⟨I.call' os un hok J.bare fun b hb=>⟨(hf b hb).2.2.2.1,(hf b hb).2.1,(hf b hb).2.2.2.2⟩,nD,?_,?_⟩
 ·refine I.fpOk (H':=upd H' s.heap.objs.size (.lst ys)) (b:=g.objs.size) (by rw[hsz];exact Lx _) ?_
  rw[ak hDC]
  exact J.free
 ·obtain⟨m,hn,_⟩:=J.loc
  exact⟨m,hn⟩
end
def PTs(X:Cx)(ifs:List Expr)(t:TT):Prop :=
 ∀(pins:List (Addr×Obj))(s:Shared)(σ:St)(H:Hp)(Q:Bool->Hp->Prop),Inv X pins σ H s->t σ H Q ->
  wpAny (model X.prog X.w) X.A (forIn ifs true fun c r=>if r=true then do let ok ← isTrue c X.env (eval c X.env);pure (ForInStep.yield ok) else pure (ForInStep.yield r)) (fun b s'=>∃ H',Inv X pins σ H' s'/\Q b H') X.xe s
def tYes:TT:=fun _ H Q=>Q true H
theorem HX{X:Cx}:PTs X [] tYes:=fun _ _ _ H _ I h=>wpAny_tests_nil ⟨H,I,h⟩
theorem HW{X:Cx}{c:Expr}{t:TT}(h:PT X c t):PTs X [c] t:=fun pins s σ H Q I q=>wpAny_tests_one (h pins s σ H Q I q)
section
variable{prog:Program}{w:World}{A:Around}{s:Shared}
theorem EW{elt target iter:Expr}{ifs:List Expr}{scope:Scope}{pos:Pos}{it acc:Value}{env:Env}{R:Result->Shared->Prop}(I:Nat->Shared->Prop)
  (turn:∀ n s,I n s->wpAny (model prog w) A (pyNext it) (fun r s₁=>match r with
   |none=>R (.ok .next) s₁
   |some v=>wpAny (model prog w) A (letOwnedTupleGo target it v) (fun _ s₀=>wpAny (model prog w) A (assign target env v) (fun _ s₂ =>
     wpAny (model prog w) A (forIn ifs true fun c r=>if r=true then do let ok ← isTrue c env (eval c env);pure (ForInStep.yield ok) else pure (ForInStep.yield r)) (fun ok s₃=>if ok=true then wpAny (model prog w) A (eval elt env) (fun x s₄ =>
      wpAny (model prog w) A (call (.builtin "list.append") [acc,x]) (fun _ s₅=>∃ m,m<n/\I m s₅) (notedBy (model prog w) A env fun e s'=>R (.error e) s') s₄) (notedBy (model prog w) A env fun e s'=>R (.error e) s') s₃
      else ∃ m,m<n/\I m s₃) (notedBy (model prog w) A env fun e s'=>R (.error e) s') s₂)
     (notedBy (model prog w) A env fun e s'=>R (.error e) s') s₀) (notedBy (model prog w) A env fun e s'=>R (.error e) s') s₁) (notedBy (model prog w) A env fun e s'=>R (.error e) s') s)
  (n:Nat) (h:I n s):codeAny (model prog w) A (.compLoop (.ListComp elt [⟨target,iter,ifs,0⟩] scope pos) 0 it acc env) R s:=by
 refine codeAny_loop rfl I (fun n s hI=>?_) n h
 show wpAny _ A ((compTurn (.ListComp elt [⟨target,iter,ifs,0⟩] scope pos) 0 it acc env).onRaise (fun x=>do noteFrame x env;theTreesLotGoes x)) _ _ s
 refine wpAny_noted ?_
 rw[compTurn_list]
 refine wpAny_bind (wpAny_standAt (wpAny_bind (wpAny_mono (turn n s hI) (fun r s₁ h₁=>?_) fun _ _ h'=>h')))
 cases r with
 |none=>exact wpAny_pure h₁
 |some v =>
  refine wpAny_bind (wpAny_mono h₁ (fun _ s₀ h₀'=>?_) fun _ _ h'=>h')
  refine wpAny_bind (wpAny_mono h₀' (fun _ s₂ h₂=>?_) fun _ _ h'=>h')
  refine wpAny_bind (wpAny_mono h₂ (fun okb s₃ h₃=>?_) fun _ _ h'=>h')
  cases okb with
  |false=>exact wpAny_pure ⟨rfl,h₃⟩
  |true=>exact wpAny_bind (wpAny_bind (wpAny_mono h₃ (fun x s₄ h₄=>wpAny_bind (wpAny_mono h₄ (fun _ s₅ h₅=>wpAny_pure (wpAny_pure ⟨rfl,h₅⟩)) fun _ _ h'=>h')) fun _ _ h'=>h'))
end
def AF(g:TG)(tt:TT)(te:TE)(n:Nat)(fv:St)(J:It)(H1:Hp)(QQ:List V->Hp->Prop):Prop :=
 ∃ W:Nat->Nat->List V->Hp->Prop,(∃ m,W 0 m [] H1)/\∀ i m ys H,W i m ys H->ys.length<=sizeLine /\
  ((J.stop i H/\QQ ys H)∨(J.go i H/\∃ N:List V->Hp->Prop,(∀ zs H2,N zs H2->∃ m',m'<m/\W (i+1) m' zs H2) /\
   ∀ x H',J.yld i H x H'->g x (K5 n none++fv) H' fun σ2 H2=>σ2.drop n=fv/\tt σ2 H2 fun b H3=>if b=true then te σ2 H3 (fun y H4=>N (ys++[y]) H4) else N ys H3))
section
variable{X:Cx}{scope:Scope}{fr:List (Str×Nat)}{xs:List Str}{elt iter tg:Expr}{ifs:List Expr}{pos:Pos}{te:TE}{tt:TT}{tgt:TG}{wi:TI}
theorem CF{pins:List (Addr×Obj)}{σ:St}{H:Hp}{s:Shared}{E:Value->Shared->Prop}{it:Addr}{fp:List Addr}{tn:Nat->Heap->Prop}{J:It}{RR:Value->Addr->Result->Shared->Prop}{QQ:List V->Hp->Prop}(hc:X.calm=true)(O:uE X scope fr xs)
  (hg0:∀ C ex s H,PG (cxG X scope fr xs C ex s H) tg tgt) (ht:∀ C ex s H,PTs (cxG X scope fr xs C ex s H) ifs tt) (he:∀ C ex s H,PE (cxG X scope fr xs C ex s H) elt te) (I:Inv X pins σ H s) (T:Turn X.prog X.w X.K tg J fp it tn) (st:tn 0 s.heap) (hf:∀ b∈fp,FpOk X pins H b) (hq:AF tgt tt te xs.length (frOf fr σ) J H QQ)
  (fin:∀ D C H4 ys s4 m,Inv X pins σ (upd H4 D (.lst ys)) s4->H4 D=none->FpOk X pins (upd H4 D (.lst ys)) C->s4.heap.Ns C m->QQ ys H4->RR (.ref D) C (.ok .next) s4) :
  wpAny (model X.prog X.w) X.A (newList []) (fun acc s₃=>wpAny (model X.prog X.w) X.A (newFunctionEnv scope X.env.globals (clOf X.env fr) [] X.env.qual none .none (some X.env)) (fun cenv s₄ =>
   codeAny (model X.prog X.w) X.A (.compStart (.ListComp elt [⟨tg,iter,ifs,0⟩] scope pos) 0 (.ref it) acc { cenv with scope:=relabel scope X.env }) (RR acc cenv.locals) s₄) E s₃) E s:=by
 obtain⟨W,⟨m0,w0⟩,turn⟩:=hq
 have hfs:∀ b∈fp,b<s.heap.objs.size:=fun b hb=>by
  obtain⟨o,e,_⟩:=T.obj 0 s.heap st b hb
  exact Heap.lt_size e
 refine wpAny_newObj_type (wpAny_newFunctionEnv O.cell (by intro y hy;simp at hy) (fun h₁ hns₁ hsb₁=>?_) O.kind)
 dsimp only at hns₁ hsb₁ ⊢
 generalize hH2:s.heap.push { cls:=.type "list",dict:=none,data:=.seq ([]:List Value).toArray }=g at hns₁ hsb₁ ⊢
 have hg:g=s.heap.push (LCg.lst []):=hH2.symm
 have hsz:g.objs.size=s.heap.objs.size+1:=by rw[hg,Heap.size_push]
 have hk:∀ b o,g.get? b=some o->h₁.get? b=some o:=fun b o e=>hsb₁.extBut b o (JN (Heap.lt_size e)) (Heap.get?_push_of_some _ e)
 have kp:∀ b o,s.heap.get? b=some o->h₁.get? b=some o:=fun b o e=>hk b o (by rw[hg];exact Heap.get?_push_of_some _ e)
 have J0:=Ey (h':=h₁) (tk:=s.toks+([]:List (Str×Value)).length) O I hf hfs hg hk hns₁
 have stat:∀{H':Hp}{us:List Value},(∀ b∈fp,H' b=none)->∀ b∈fp,FpOk (cxG X scope fr xs g.objs.size (s.heap.objs.size::fp) { s with heap:=g } H) (X.pn++pins++[(s.heap.objs.size,LCg.lst us)]) H' b:=fun{H' us} hn b hb=>by
  obtain⟨_,f1,f2,f3,f4,f5⟩:=hf b hb
  refine⟨hn b hb,?_,fun z=>(Ju.mp (I.stkSub b z)).elim f1 f2,.inl (JB _ hb),fun y c e=>f4 y c (O.cells I e),fun p hp=>?_⟩
  ·show b≠g.objs.size
   rw[hsz];exact JN (KW (hfs b hb))
  ·rcases JA.mp hp with hp | hp
   ·cases hp
   ·rcases JA.mp hp with hp | hp
    ·exact f5 p hp
    ·have ep:p=(s.heap.objs.size,LCg.lst us):=by simpa using hp
     rw[ep]
     exact K7 (hfs b hb)
 have loop:codeAny (model X.prog X.w) X.A (.compLoop (.ListComp elt [⟨tg,iter,ifs,0⟩] scope pos) 0 (.ref it) (.ref s.heap.objs.size) (compEnvC scope (clOf X.env fr) g.objs.size X.env))
   (RR (.ref s.heap.objs.size) g.objs.size) { s with heap:=h₁,toks:=s.toks+([]:List (Str×Value)).length }:=by
  refine EW (fun n s'=>∃ i ys us H',Inv (cxG X scope fr xs g.objs.size (s.heap.objs.size::fp) { s with heap:=g } H) (X.pn++pins++[(s.heap.objs.size,LCg.lst us)]) (nons xs++frOf fr σ) H' s'/\Vals ys us/\tn i s'.heap/\(∀ b∈fp,H' b=none)/\W i n ys H') ?_ m0
   ⟨0,[],[],H,J0,.nil,T.keep 0 s.heap h₁ st fun b _ o e=>kp b o e,fun b hb=>(hf b hb).1,w0⟩
  rintro n s3 ⟨i,ys,us,H3,J3,hv,st3,fr3,w3⟩
  obtain⟨hlen,hh⟩:=turn i n ys H3 w3
  have none_err:∀{α:Type}{t:Sem α}{Q:α->Shared->Prop}{E':Value->Shared->Prop}{s:Shared},wpAny (model X.prog X.w) X.A t Q (fun _ _=>False) s->wpAny (model X.prog X.w) X.A t Q E' s:=fun h=>wpAny_mono h (fun _ _ q=>q) fun _ _ z=>z.elim
  have weakN:∀{σ6:St},σ6.length=(nons xs++frOf fr σ).length->σ6.drop xs.length=frOf fr σ->∀(i:Nat) v,(nons xs++frOf fr σ)[i]?=some (some v)->σ6[i]?=some (some v):=fun{σ6} hl6 e6 i v e=>by
   by_cases hi:i<xs.length
   ·rw[Jx (by simpa using hi),Lq,if_pos hi]at e
    cases e
   ·rw[Jv (by simp;omega),← e6,Lc]at e
    have:xs.length+(i-(nons xs).length)=i:=by simp;omega
    rw[this]at e
    exact e
  rcases hh with⟨stop,qn⟩ | ⟨go,N,hN,step⟩
  ·refine none_err (thn (T.done (cxG X scope fr xs g.objs.size (s.heap.objs.size::fp) { s with heap:=g } H) rfl rfl rfl hc i _ s3 _ H3 _ J3 (stat fr3) st3 stop) fun r s4 ⟨hr,J4⟩=>?_)
   subst hr
   obtain⟨I4,nD,fC,m,hn⟩:=tT I hf hg J4 hv hlen
   exact fin _ _ H3 ys s4 m I4 nD fC hn qn
  ·refine none_err (thn (T.item (cxG X scope fr xs g.objs.size (s.heap.objs.size::fp) { s with heap:=g } H) rfl rfl rfl hc i _ s3 _ H3 _ J3 (stat fr3) st3 go) fun r s4 ⟨u,hr,h4⟩=>?_)
   subst hr
   refine none_err (thn h4 fun _ s5 ⟨v,H5,J5,r5,y5,st5,fr5⟩=>?_)
   have J5':=J5.pinned (stat fr5) (T.obj _ _ st5)
   refine none_err (thn (hg0 _ _ _ _ _ s5 _ H5 v u _ J5' r5 (step v H5 y5)) fun _ s6 ⟨σ6,H6,J6,e6,q6⟩=>?_)
   refine none_err (thn (ht _ _ _ _ _ s6 σ6 H6 _ J6 q6) fun b s6' ⟨H6',J6',q6'⟩=>?_)
   have hl6:σ6.length=(nons xs++frOf fr σ).length:=J6.len.trans J3.len.symm
   cases b with
   |false =>
    rw[if_neg JZ]at q6' ⊢
    obtain⟨m',hm,w7⟩:=hN ys H6' q6'
    have pinF:∀ b∈fp,∀ o,s5.heap.get? b=some o->s6'.heap.get? b=some o/\H6' b=none:=fun b hb o e=>by
     obtain⟨q1,q2,_⟩:=J6'.pin (b,o) (JK _ (JK _ (gz hb e)))
     exact⟨q1,q2⟩
    refine⟨m',hm,i+1,ys,us,H6',J6'.unpinned.weak (σ':=nons xs++frOf fr σ) hl6.symm (weakN hl6 e6),hv,T.keep _ _ _ st5 fun b hb o e=>(pinF b hb o e).1,fun b hb=>?_,w7⟩
    obtain⟨o,e,_⟩:=T.obj _ _ st5 b hb
    exact(pinF b hb o e).2
   |true =>
    rw[if_pos rfl]at q6' ⊢
    refine none_err (thn (he _ _ _ _ _ s6' _ H6' _ J6' q6') fun u7 s7 ⟨v7,H7,J7,r7,q7⟩=>?_)
    obtain⟨m',hm,w7⟩:=hN _ H7 q7
    obtain⟨eD,nD,dC,dF,dd⟩:=J7.pin (s.heap.objs.size,LCg.lst us) (JK _ (Kh _ (JK _ (by simp))))
    have hvl:=hv.length
    refine append_at (hsz:=by show us.toArray.size<=sizeLine;rw[JW,← hvl];exact hlen) eD fun h8 hs8 hD8=>?_
    have pinD:∀ p∈X.pn++pins,p.1≠s.heap.objs.size:=fun p hp z=>by
     have:=Heap.lt_size (I.pin p hp).1
     rw[z]at this
     exact KD _ this
    have J7a:Inv (cxG X scope fr xs g.objs.size (s.heap.objs.size::fp) { s with heap:=g } H) (X.pn++pins) _ H7 s7:=J7.pins_of fun p hp=>J7.pin p (JK _ (Kh _ (Kh _ hp)))
    have J8:Inv (cxG X scope fr xs g.objs.size (s.heap.objs.size::fp) { s with heap:=g } H) (X.pn++pins) _ H7 { s7 with heap:=h8 }:=J7a.turned (t':=s7.toks) (fun b o hb e=>(hs8.2 b hb).trans e) nD dC (.inl JD) (fun y c e z=>by
     obtain⟨w',q⟩:=I.cell y c (O.cells I e)
     have:=q.lt
     rw[z]at this
     exact KD _ this) (fun p hp=>(JA.mp hp).elim (fun z=>by cases z) (pinD p))
    have J9:Inv (cxG X scope fr xs g.objs.size (s.heap.objs.size::fp) { s with heap:=g } H) (X.pn++pins++[(s.heap.objs.size,LCg.lst (us++[u7]))]) _ H7 { s7 with heap:=h8 }:=J8.pins_of fun p hp=>by
     rcases JA.mp hp with hp | hp
     ·exact J8.pin p (JK _ hp)
     ·have ep:p=(s.heap.objs.size,LCg.lst (us++[u7])):=by simpa using hp
      subst ep
      exact⟨hD8.trans (congrArg some (LCg.lst_snoc us u7)),nD,dC,dF,fun v z=>by cases z⟩
    have J10:=J9.weak (σ':=nons xs++frOf fr σ) hl6.symm (weakN hl6 e6)
    have pinF:∀ b∈fp,∀ o,s5.heap.get? b=some o->s7.heap.get? b=some o/\H7 b=none:=fun b hb o e=>by
     obtain⟨q1,q2,_⟩:=J7.pin (b,o) (JK _ (JK _ (gz hb e)))
     exact⟨q1,q2⟩
    refine⟨m',hm,i+1,ys++[v7],us++[u7],H7,J10,hv.append (.cons r7 .nil),T.keep _ _ _ st5 fun b hb o e=>(hs8.2 b (JN (hfs b hb))).trans (pinF b hb o e).1,fun b hb=>?_,w7⟩
    obtain⟨o,e,_⟩:=T.obj _ _ st5 b hb
    exact(pinF b hb o e).2
 exact codeAny_compStart_list loop (T.self X.A 0 _ _ _ (T.keep 0 s.heap h₁ st fun b _ o e=>kp b o e) loop)
def tCompE(wi:TI)(g:TG)(tt:TT)(te:TE)(n:Nat)(fr:List (Str×Nat)):TE:=fun σ H Q=>wi σ H fun J H1=>AF g tt te n (frOf fr σ) J H1 fun ys H2=>∀ D,H2 D=none->Q (.ref D) (upd H2 D (.lst ys))
theorem AU(hc:X.calm=true)(O:uE X scope fr xs)(hi:PI X tg iter wi)(hg0:∀ C ex s H,PG (cxG X scope fr xs C ex s H) tg tgt)(ht:∀ C ex s H,PTs (cxG X scope fr xs C ex s H) ifs tt)(he:∀ C ex s H,PE (cxG X scope fr xs C ex s H) elt te)(hs:∀ x,foldedSetIterable iter X.env x=pure x:=by intro _;rfl) :
  PE X (.ListComp elt [⟨tg,iter,ifs,0⟩] scope pos) (tCompE wi tgt tt te xs.length fr):=by
 intro pins s σ H Q I h
 rw[eval_ListComp]
 refine wpAny_comprehension_free (use:=none) rfl hs O.clos O.kind O.names (thn (hi pins s σ H _ I h) fun xv s1 h1=>thn h1 fun itv s2 h2=>?_)
 obtain⟨it,fp,tn,J,H2,e,I2,T,st2,f2,q2⟩:=h2
 subst e
 refine CF (RR:=fun acc C=>compPost (model X.prog X.w) X.A X.xe none (EP X pins σ Q) acc C) hc O hg0 ht he I2 T st2 f2 q2 ?_
 intro D C H4 ys s4 m I4 nD fC hn q4
 refine⟨m,hn,fun h' hs'=>?_⟩
 obtain⟨g0,g1,g2,g3,g4,g5⟩:=fC
 exact⟨.ref D,_,I4.turned (t':=s4.toks) (fun b o hb e=>(hs'.2 b hb).trans e) g0 g1 g3 g4 g5,rfl,q4 D nD⟩
end
theorem CG{K:Js}{a:Addr}{xs:List V}{g:TG}{tt:TT}{te:TE}{n:Nat}{fv:St}{H1:Hp}{QQ:List V->Hp->Prop}(Pv:Nat->List V->Hp->Prop)(hz:xs.length<=sizeLine)(h0:Pv 0 [] H1)(hl:∀ i ys H,i<=xs.length->Pv i ys H->SqL K H a xs)
  (hs:∀ i x ys H,xs[i]?=some x->Pv i ys H->g x (K5 n none++fv) H fun σ2 H2=>σ2.drop n=fv/\tt σ2 H2 fun b H3=>if b=true then te σ2 H3 (fun y H4=>Pv (i+1) (ys++[y]) H4) else Pv (i+1) ys H3) (hd:∀ ys H,Pv xs.length ys H->QQ ys H) (hy:∀ i ys H,Pv i ys H->ys.length<=i)
  : AF g tt te n fv (Itl K a) H1 QQ:=by
 refine⟨fun i m ys H=>m=xs.length-i/\i<=xs.length/\Pv i ys H,⟨xs.length,by simp,Ku _,h0⟩,?_⟩
 rintro i m ys H ⟨rfl,hi,p⟩
 have q:=hl i ys H hi p
 have hyl:=hy i ys H p
 refine⟨by omega,?_⟩
 by_cases hlt:i<xs.length
 ·refine .inr ⟨⟨xs,xs[i],q,by simp[hlt]⟩,fun zs H2=>Pv (i+1) zs H2,fun zs H2 p2=>⟨xs.length-(i+1),by omega,rfl,hlt,p2⟩,fun x H' y=>?_⟩
  obtain⟨e,y⟩:=y
  subst e
  exact hs i x ys _ (y xs q) p
 ·have e:i=xs.length:=by omega
  subst e
  exact .inl ⟨⟨xs,q,Jw _⟩,hd ys H p⟩
theorem zY{lo:Int}{k:Nat}{g:TG}{tt:TT}{te:TE}{n:Nat}{fv:St}{H1:Hp}{QQ:List V->Hp->Prop}(Pv:Nat->List V->Hp->Prop)(hz:k<=sizeLine)(h0:Pv 0 [] H1)
  (hs:∀ i ys H,i<k->Pv i ys H->g (.int (lo+i)) (K5 n none++fv) H fun σ2 H2=>σ2.drop n=fv/\tt σ2 H2 fun b H3=>if b=true then te σ2 H3 (fun y H4=>Pv (i+1) (ys++[y]) H4) else Pv (i+1) ys H3) (hd:∀ ys H,Pv k ys H->QQ ys H) (hy:∀ i ys H,Pv i ys H->ys.length<=i)
  : AF g tt te n fv (Itr lo k) H1 QQ:=by
 refine⟨fun i m ys H=>m=k-i/\i<=k/\Pv i ys H,⟨k,by simp,Ku _,h0⟩,?_⟩
 rintro i m ys H ⟨rfl,hi,p⟩
 have hyl:=hy i ys H p
 refine⟨by omega,?_⟩
 by_cases hlt:i<k
 ·refine .inr ⟨hlt,fun zs H2=>Pv (i+1) zs H2,fun zs H2 p2=>⟨k-(i+1),by omega,rfl,hlt,p2⟩,fun x H' y=>?_⟩
  obtain⟨e,y⟩:=y
  subst e y
  exact hs i ys _ hlt p
 ·have e:i=k:=by omega
  subst e
  exact .inl ⟨Jw _,hd ys H p⟩
end L2
namespace L2
open PySem PySem.Spec PyProof.Rows
section
variable{X:Cx}{K:Js}{pos:Pos}
theorem tS(h:X.K=K):IxR X (rIxL K):=h▸az
theorem IK(h:X.K=K):IxR X (rIxT K):=h▸aW
theorem rC(h:X.K=K):kY X (.type "list") (fun xs H Q=>∃ p ys,xs = [.ref p]/\(SqL K H p ys∨SqT K H p ys)/\∀ l,H l=none->Q (.ref l) (upd H l (.lst ys))):=h▸fM
theorem DT{e:Expr}{f:Str}{ta:TE}(h:X.K=K)(he:PE X e ta)(hb:attributeBase e f X.env (eval e X.env)=eval e X.env):PE X (.Attribute e f pos) (tFld K ta f):=h▸eF he hb
end
end L2
namespace L2
open PySem PySem.Spec PyProof.Rows
section
variable{X:Cx}
def HU:V->List V->Hp->VK->Prop:=fun x vs H Q=>∃ l xs k y,x=.ref l/\vs = [.int k,y]/\H l=some (.lst xs)/\0<=k/\k<=xs.length/\xs.length<sizeLine/\Q .non (upd H l (.lst (xs.take k.toNat++y::xs.drop k.toNat)))
theorem vH:MtM X "list.insert" HU:=by
 intro pins s σ H x vs v us Q I rx rv h
 obtain⟨l,xs,k,y,rfl,rfl,hH,h0,hk,hz,q⟩:=h
 cases rx
 obtain⟨u1,u2,rfl,r1,r2⟩:=rv.two
 obtain⟨t,rfl⟩:=r1
 obtain⟨z,its,n,r,hl,e⟩:=I.lstM hH
 have hn:=qZ
 have hfit:¬ (!Builtin.List.listFitsIndex k)=true:=by
  rw[fitsIndex_both (by omega) (by omega)]
  exact JZ
 refine call_meets F.slot_list_insert ⟨_,e,rfl⟩ F.entry_list_insert (F.args_list_insert_3 _ _ _) (AutoListH.list_insert_list_int_val_1 l its.toArray n k t u2 hfit (by rw[JW];omega)) ⟨e,?_⟩
 refine⟨.non,_,I.lset (its':=its.take k.toNat++u2::its.drop k.toNat) hH e ?_ ((r.take _).append (.cons r2 (r.drop _))) ?_,rfl,q⟩
 ·dsimp only
  rw[if_neg (by omega),JW,K1 (by omega)]
  simp
  exact Kg (by rw[Km];omega)
 ·rw[Jt,J2,JP,Km]
  omega
theorem jj:∀{ns:List Int}{us:List Value},Vals (ns.map V.int) us->IntsAre us ns
 |[],_,.nil=>.nil
 |n::ns,_,.cons r rr=>by
  obtain⟨t,rfl⟩:=r
  exact .cons n t (jj rr)
theorem Bq(hc:X.calm=true):kY X (.builtin "sum") (fun xs H Q=>∃(p:Addr)(ns:List Int),xs = [.ref p]/\SqL X.K H p (ns.map V.int)/\Q (.int ns.sum) H):=by
 intro pins s σ H xs us Q I r h
 obtain⟨p,ns,rfl,hq,q⟩:=h
 obtain⟨u,rfl,ru⟩:=rQ r
 cases ru
 obtain⟨its,rv,pl,hz⟩:=I.list hq
 have hi:=jj rv
 obtain⟨zs,e⟩:=hi.allInts.items
 have hns:(numsOf its)=ns:=hi.numsOf
 have hl:s.heap.IsList p (intItems zs):=by rw[← e];exact pl.isList
 refine sum_intListG (I.ok.hd hc) hl fun h' tk t' hk=>⟨.int ns.sum,H,I.kept (t':=tk) hk,⟨t',?_⟩,q⟩
 have h2:numsOf (intItems zs).toList=ns:=by rw[← e];exact hns
 rw[nums_intItems]at h2
 rw[preSum_eq,Kg (by simp),← h2]
end
end L2
namespace L2
open PySem PySem.Spec PyProof.Rows
theorem oo:∀{ps:List Nat},(∀ p∈ps,p<1000)->PyData.weightAll ((ps.map fun(p:Nat)=>((p:Nat):Int)).map PyData.int)<=12*ps.length
 |[],_=>by simp[PyData.weightAll]
 |p::ps,h=>by
  have ih:=oo (ps:=ps) fun x hx=>h x (JB _ hx)
  have hp:=h p (by simp)
  have hw:PyData.weight (.int (p:Int))<=11:=by
   rw[PyData.weight]
   split
   ·exact Ku _
   ·rename_i z
    have z':p≠0:=fun e=>z (by rw[e];rfl)
    have e:((p:Int)).natAbs=p:=rfl
    rw[e]
    have:=(Nat.log2_lt z').mpr (show p<2^10 by omega)
    omega
  rw[Kl,Kl,PyData.weightAll,J2]
  omega
theorem Gp{ps:List Nat}(h:∀ p∈ps,p<1000)(hl:ps.length<=1000):PyData.layable0 (.list ((ps.map fun(p:Nat)=>((p:Nat):Int)).map PyData.int))=true:=by
 have h1:=PySem.W.shaped_ints (ps.map fun(p:Nat)=>((p:Nat):Int))
 have h2:=oo h
 have h3:PyData.weight (.list ((ps.map fun(p:Nat)=>((p:Nat):Int)).map PyData.int))<=2^20:=by
  rw[PyData.weight];omega +splitDisjunctions
 unfold PyData.layable0
 unfold SeqAt.shaped at h1
 rw[h1,decide_eq_true h3]
 rfl
section
variable{X:Cx}
def rIndex(K:Js):V->List V->Hp->VK->Prop:=fun x vs H Q=>∃(l:Addr)(ps:List Nat)(k:Nat),x=.ref l/\vs = [.int (k:Int)]/\SqL K H l (ps.map fun(p:Nat)=>V.int (p:Int))/\(∀ p∈ps,p<1000)/\ps.length<=1000/\k∈ps/\Q (.int ((ps.idxOf k:Nat):Int)) H
theorem GA{ps:List Nat}{k:Nat}:(ps.map fun(p:Nat)=>((p:Nat):Int)).idxOf (k:Int)=ps.idxOf k:=by
 induction ps with
 |nil=>rfl
 |cons p ps ih =>
  rw[Kl,List.idxOf_cons,List.idxOf_cons,ih]
  have e:(((p:Nat):Int) == (k:Int))=(p == k):=by
   by_cases h:p=k
   ·subst h;simp
   ·have h2:¬ (p:Int)=(k:Int):=fun z=>h (by omega)
    rw[beq_eq_false_iff_ne.mpr h,beq_eq_false_iff_ne.mpr h2]
  rw[e]
theorem A6:MtM X "list.index" (rIndex X.K):=by
 intro pins s σ H x vs v us Q I rx rv h
 obtain⟨l,ps,k,rfl,rfl,hq,hs,hl,hk,q⟩:=h
 cases rx
 obtain⟨u,rfl,ru⟩:=rv.one
 obtain⟨t,rfl⟩:=ru
 have e:(ps.map fun(p:Nat)=>V.int (p:Int))=(ps.map fun(p:Nat)=>((p:Nat):Int)).map V.int:=by rw[Ly];rfl
 rw[e]at hq
 obtain⟨its,r,pl,hz⟩:=I.list hq
 refine index_list_ints pl.isList (jj r) (Gp hs hl) (Kb.mpr ⟨k,hk,rfl⟩) ?_
 rw[GA]
 exact⟨.int _,H,I.tok _,⟨_,rfl⟩,q⟩
theorem op_eqG(hu:X.A.units+64<cLine):OpR X (compareOp .Eq) (fun x y H Q=>∃ d1 d2,RdD X.K H x d1/\RdD X.K H y d2/\SeqAt.shaped d1=true/\SeqAt.shaped d2=true/\Q (.bl (PyData.eqv d1 d2)) H):=by
 intro pins s σ H x y v u Q I rx ry h
 obtain⟨d1,d2,r1,r2,h1,h2,q⟩:=h
 obtain⟨as,q1⟩:=r1.reads I v rx
 obtain⟨bs,q2⟩:=r2.reads I u ry
 exact eq_dataH q1 q2 h1 h2 hu ⟨.bl _,H,I,rfl,q⟩
end
end L2
namespace L2
open PySem PySem.Spec PyProof.Rows
theorem rP:∀{us:List Value}{ns:List Int},IntsAre us ns->Vals (ns.map V.int) us
 |_,_,.nil=>.nil
 |_,_,.cons _ t r=>.cons ⟨t,rfl⟩ (rP r)
section
variable{X:Cx}
def DK(K:Js):List V->Hp->VK->Prop:=fun xs H Q=>∃(p:Addr)(ns:List Int),xs = [.ref p]/\SqL K H p (ns.map V.int)/\ns.length<64/\∀(l:Addr)(out:List Int),H l=none->out.Perm ns->out.Pairwise (·<=·)->Q (.ref l) (upd H l (.lst (out.map V.int)))
theorem z8:kY X (.builtin "sorted") (DK X.K):=by
 intro pins s σ H xs us Q I r h
 obtain⟨p,ns,rfl,hq,h64,q⟩:=h
 obtain⟨u,rfl,ru⟩:=rQ r
 cases ru
 obtain⟨its,rv,pl,hz⟩:=I.list hq
 have hi:=jj rv
 have hl:=rv.length
 rw[Jr]at hl
 refine sorted_ints pl.isList hi (by omega) fun out ns' a1 a2 a3=>?_
 obtain⟨e,he⟩:=sortedAll_at s.heap its out
 refine⟨.ref (s.heap.objs.size+1),_,I.laid (t':=s.toks) (fun _ _=>sortedAll_old) (Lx _) (show bI X.prog X.w _ _ _ (.lst (ns'.map V.int)) from⟨?_,out.toList,e,rP a1,?_⟩),rfl,q _ ns' (I.hok.fresh (Lx _)) a2 a3⟩
 ·rw[Jr,a2.length_eq]
  exact Kk (ax (by omega))
 ·exact he
theorem wN{K:Js}(h:X.K=K):kY X (.builtin "sorted") (DK K):=h▸z8
end
end L2
namespace L2
open PySem PySem.Spec PyProof.Rows
section
variable{X:Cx}{tg:Expr}
end
end L2
namespace L2
open PySem PySem.Spec PyProof.Rows
theorem E3:bootBuiltins "max" = some (.builtin "max"):=by decide +kernel
section
variable{X:Cx}
def rCatS(K:Js):R2:=fun x y H Q=>∃ l b xs zs,x=.ref l/\y=.ref b/\SqL K H l xs/\SqL K H b zs/\xs.length+zs.length<=sizeLine/\∀ p,H p=none->Q (.ref p) (upd H p (.lst (xs++zs)))
theorem oJ:OpR X (binaryOp .Add) (rCatS X.K):=by
 intro pins s σ H x y v u Q I rx ry h
 obtain⟨l,b,xs,zs,rfl,rfl,hH,hB,hz,q⟩:=h
 cases rx
 cases ry
 obtain⟨its,r,pl,_⟩:=I.list hH
 obtain⟨its2,r2,pl2,_⟩:=I.list hB
 obtain⟨⟨cls,dd,data,sl⟩,ho,hc,n,hd⟩:=pl.isList
 obtain⟨⟨cls2,dd2,data2,sl2⟩,ho2,hc2,n2,hd2⟩:=pl2.isList
 simp only at hc hd hc2 hd2
 subst hc hd hc2 hd2
 have ea:its.toArray++its2.toArray=(its++its2).toArray:=by simp
 have e1:=r.length
 have e2:=r2.length
 refine concat_meets ⟨_,ho,rfl⟩ ⟨_,ho2,rfl⟩ noFill_list_add seq_list_add PySem.F.slot_list_add PySem.F.entry_list_add (PySem.F.args_list_add_2 _ _) (list_addW l b its.toArray its2.toArray n n2 dd dd2 sl sl2 (by rw[JW,JW];omega)) ⟨ho,ho2,?_⟩
 rw[ea]
 exact⟨.ref _,_,I.lnew (t':=s.toks) (r.append r2) (by rw[Jt];omega),rfl,q _ I.fresh⟩
theorem A0:∀{ns:List Int}{us:List Value},Vals (ns.map V.int) us->IntsAre us ns
 |[],_,.nil=>.nil
 |n::ns,_,.cons r rr=>by
  obtain⟨t,rfl⟩:=r
  exact .cons n t (A0 rr)
end
end L2
namespace L2
open PySem PySem.Spec PyProof.Rows
theorem yesT{σ:St}{H:Hp}{A B:Hp->Prop}(h:A H):tYes σ H fun b H3=>if b=true then A H3 else B H3 :=
 show(if true=true then A H else B H) from iteT (B:=B H) h
section
variable{X:Cx}
end
section
variable{X:Cx}
end
end L2
namespace L2
open PySem PySem.Spec PyProof.Rows
end L2
namespace L2
open PySem PySem.Spec PyProof.Rows
section
variable{X:Cx}
theorem op_neG(hu:X.A.units+64<cLine):OpR X (compareOp .NotEq) (fun x y H Q=>∃ d1 d2,RdD X.K H x d1/\RdD X.K H y d2/\SeqAt.shaped d1=true/\SeqAt.shaped d2=true/\Q (.bl (!PyData.eqv d1 d2)) H):=by
 intro pins s σ H x y v u Q I rx ry h
 obtain⟨d1,d2,r1,r2,h1,h2,q⟩:=h
 obtain⟨as,q1⟩:=r1.reads I v rx
 obtain⟨bs,q2⟩:=r2.reads I u ry
 exact ne_dataH q1 q2 h1 h2 hu ⟨.bl _,H,I,rfl,q⟩
theorem pD:∀(a b:List Int),PyData.eqvAll (a.map PyData.int) (b.map PyData.int)=decide (a=b)
 |[],[]=>by simp[PyData.eqvAll]
 |[],y::b=>by simp[PyData.eqvAll]
 |x::a,[]=>by simp[PyData.eqvAll]
 |x::a,y::b=>by
  rw[Kl,Kl]
  simp only[PyData.eqvAll,PyData.eqv,pD a b]
  by_cases h:x=y
  ·by_cases h2:a=b
   ·simp[h,h2]
   ·simp[h,h2]
  ·simp[h]
theorem Bf(a b:List Int):PyData.eqv (.list (a.map PyData.int)) (.list (b.map PyData.int))=decide (a=b):=by
 rw[← pD]
 simp only[PyData.eqv]
end
section
variable{X:Cx}{tg:Expr}
end
section
variable{P:Program}{w:World}{K:Js}{mg:Str->Option Value}{base:Heap}
end
end L2
namespace PyProof.Rows
open PySem
local macro_rules | `(tactic| walk_at "gallop") => do
 let n:=Lean.mkIdent (Lean.mkPrivateNameCore `PySem.Builtin.List.W1All `PySem.Builtin.gallop)
 `(tactic| delta $n)
local macro_rules | `(tactic| walk_at "st") => `(tactic| try dsimp -zeta -zetaHave only)
local macro_rules | `(tactic| walk_at "l4") => `(tactic| (extract_lets -underBinder +onlyGivenNames a b; subst a b))
abbrev EJ:Bool->Keyed->Array Keyed->Nat->Nat->Nat->StateT SortSt Sem (Option Nat):=sortPriv% PySem.Builtin.gallop
def IntP(p:Keyed):Prop:=∃ n t,p.1=.int n t
def ky(p:Keyed):Int:=numOf p.1
theorem aJ{σ α:Type}{M:Model}{A:Around}{E:Value->Shared->Prop}{s:Shared}{c:Prop} [Decidable c] {a b:StateT σ Sem α} {Q:α->σ->Prop} {st:σ} (h:c) (q:wpS M A E s a Q st):wpS M A E s (if c then a else b) Q st:=by rw[if_pos h];exact q
theorem aH{σ α:Type}{M:Model}{A:Around}{E:Value->Shared->Prop}{s:Shared}{c:Prop} [Decidable c] {a b:StateT σ Sem α} {Q:α->σ->Prop} {st:σ} (h:¬ c) (q:wpS M A E s b Q st):wpS M A E s (if c then a else b) Q st:=by rw[if_neg h];exact q
variable{prog:Program}{w:World}{A:Around}{E:Value->Shared->Prop}{s:Shared}
theorem rO{st:SortSt}{x y:Keyed}{Q:Option Bool->SortSt->Prop}(hk:kindOf st=oneType')(hx:IntP x)(hy:IntP y)(h:Q (some (decide (ky x<ky y))) st):wpS (model prog w) A E s ((sortPriv% PySem.Builtin.lt) x y) Q st:=by
 show wpS (model prog w) A E s (lt' x y) Q st
 obtain⟨n,t,hx⟩:=hx
 obtain⟨m,u,hy⟩:=hy
 rw[lt'_eq]
 refine wpS_bind (wpS_get ?_)
 unfold ky at h
 rw[hx,hy]at h
 rw[hk,keyLt'_oneType,hx,hy]
 refine wpS_bind (wpS_lift (wpAny_attempt (oneLt_int ⟨rfl,?_⟩)))
 exact wpS_pure h
theorem aO{st:SortSt}{arr:Array Keyed}{i:Nat}{p:Keyed}{Q:Keyed->SortSt->Prop}(hi:arr[i]?=some p)(h:Q p st):wpS (model prog w) A E s ((sortPriv% PySem.Builtin.elem) arr i) Q st:=by
 show wpS (model prog w) A E s (elem' arr i) Q st
 rw[elem'_eq,hi]
 exact wpS_pure h
theorem i5{st:SortSt}{left:Bool}{key:Keyed}{arr:Array Keyed}{base n hint:Nat}{Q:Option Nat->SortSt->Prop}(f:Nat->Bool)(hk:kindOf st=oneType')(hkey:IntP key)(hin:∀ i,i<n->∃ p,arr[base+i]?=some p/\IntP p/\f i=if left then decide (ky p<ky key) else !decide (ky key<ky p))
  (mono:∀ i j,i<=j->j<n->f j=true->f i=true) (hh:hint<n) (h:∀ k,k<=n->(∀ i,i<k->f i=true)->(∀ i,k<=i->i<n->f i=false)->Q (some k) st) :
  wpS (model prog w) A E s (EJ left key arr base n hint) Q st:=by
 unfold EJ
 walk_at "gallop"
 extract_lets -underBinder +onlyGivenNames beyond
 clear_value (eb:beyond=_)
 have hb:∀(i:Nat)(Q':Option Bool->SortSt->Prop),i<n->Q' (some (f i)) st->wpS (model prog w) A E s (beyond i) Q' st:=by
  intro i Q' hi q
  obtain⟨p,hp,ip,ef⟩:=hin i hi
  rw[eb]
  refine wpS_bind (aO hp ?_)
  rw[ef]at q
  cases left with
  |true=>exact rO hk ip hkey q
  |false=>exact wpS_bind (rO hk hkey ip (wpS_pure q))
 clear eb
 walk_at "l4"
 refine wpS_bind (hb hint _ hh ?_)
 walk_at "st"
 have nmono:∀ i j,i<=j->j<n->f i=false->f j=false:=fun i j hij hj e=>by
  cases z:f j with
  |false=>rfl
  |true=>rw[mono i j hij hj z]at e;cases e
 extract_lets -underBinder +onlyGivenNames jp
 clear_value (ej:jp=_)
 have hj:∀(u:Unit)(a0 a1 lo hi:Nat),lo<=hi->hi<=n->(∀ i,i<lo->f i=true)->(∀ i,hi<=i->i<n->f i=false)->wpS (model prog w) A E s (jp u a0 a1 lo hi) Q st:=by
  intro u a0 a1 lo hi h1 h2 h3 h4
  rw[ej]
  dsimp only
  refine wpS_bind (wpS_mono (wpS_forRange (I:=fun x c st'=>st'=st/\∃ l r,c=(none,l,r)/\l<=r/\r<=n/\r-l<=n-x/\(∀ i,i<l->f i=true)/\(∀ i,r<=i->i<n->f i=false))
   (Q:=fun c st'=>st'=st/\∃ l,c=(none,l,l)/\l<=n/\(∀ i,i<l->f i=true)/\(∀ i,l<=i->i<n->f i=false)) ?step ?fin ⟨rfl,lo,hi,rfl,h1,h2,by omega,h3,h4⟩) ?post)
  case post =>
   rintro c st' ⟨rfl,l,rfl,g1,g2,g3⟩
   exact wpS_pure (h l g1 g2 g3)
  case fin =>
   rintro c st' ⟨rfl,l,r,rfl,g1,g2,g3,g4,g5⟩
   have:l=r:=by omega
   subst this
   exact⟨rfl,l,rfl,g2,g4,g5⟩
  case step =>
   rintro x c st' _ hx ⟨rfl,l,r,rfl,g1,g2,g3,g4,g5⟩
   dsimp only
   by_cases z:l ≥ r
   ·refine aJ z ?_
    have:l=r:=by omega
    subst this
    exact wpS_pure ⟨rfl,l,rfl,g2,g4,g5⟩
   ·refine aH z ?_
    refine wpS_bind (hb _ _ (by omega) ?_)
    cases e:f (l+(r-l)/2) with
    |true=>exact wpS_pure ⟨rfl,_,r,rfl,by omega,g2,by omega,fun i hi=>mono i _ (by omega) (by omega) e,g5⟩
    |false=>exact wpS_pure ⟨rfl,l,_,rfl,by omega,by omega,by omega,g4,fun i h1 h2=>nmono _ i h1 h2 e⟩
 clear ej
 cases er:f hint with
 |true =>
  refine aJ rfl ?_
  dsimp only
  refine wpS_bind (wpS_mono (wpS_forRange (I:=fun x c st'=>st'=st/\∃ l o,c=(none,l,o)/\l<o/\x+1<=o/\hint+l<n/\f (hint+l)=true)
   (Q:=fun c st'=>st'=st/\∃ l o,c=(none,l,o)/\l<o/\hint+l<n/\f (hint+l)=true/\(n-hint<=o∨f (hint+o)=false)) ?step ?fin ⟨rfl,0,1,rfl,by omega,by omega,by omega,er⟩) ?post)
  case post =>
   rintro c st' ⟨rfl,l,o,rfl,g1,g2,g3,g4⟩
   dsimp only
   refine hj _ _ _ _ _ (by omega) (by omega) (fun i hi=>mono i _ (by omega) g2 g3) fun i h1 h2=>?_
   rcases g4 with g4 | g4
   ·omega
   ·exact nmono (hint+o) i (by omega) h2 g4
  case fin =>
   rintro c st' ⟨rfl,l,o,rfl,g1,g2,g3,g4⟩
   exact⟨rfl,l,o,rfl,g1,g3,g4,.inl (by omega)⟩
  case step =>
   rintro x c st' _ hx ⟨rfl,l,o,rfl,g1,g2,g3,g4⟩
   dsimp only
   by_cases z:o ≥ n-hint
   ·refine aJ z ?_
    exact wpS_pure ⟨rfl,l,o,rfl,g1,g3,g4,.inl z⟩
   ·refine aH z ?_
    refine wpS_bind (hb _ _ (by omega) ?_)
    cases e:f (hint+o) with
    |true=>exact wpS_pure ⟨rfl,_,_,rfl,by omega,by omega,by omega,e⟩
    |false=>exact wpS_pure ⟨rfl,l,o,rfl,g1,g3,g4,.inr e⟩
 |false =>
  refine aH JZ ?_
  dsimp only
  refine wpS_bind (wpS_mono (wpS_forRange (I:=fun x c st'=>st'=st/\∃ l o,c=(none,l,o)/\l<o/\x+1<=o/\l<=hint/\f (hint-l)=false)
   (Q:=fun c st'=>st'=st/\∃ l o,c=(none,l,o)/\l<o/\l<=hint/\f (hint-l)=false/\(hint+1<=o∨f (hint-o)=true)) ?step ?fin ⟨rfl,0,1,rfl,by omega,by omega,by omega,er⟩) ?post)
  case post =>
   rintro c st' ⟨rfl,l,o,rfl,g1,g2,g3,g4⟩
   dsimp only
   refine hj _ _ _ _ _ (by omega) (by omega) (fun i hi=>?_) fun i h1 h2=>nmono _ i h1 h2 g3
   rcases g4 with g4 | g4
   ·omega
   ·exact mono i (hint-o) (by omega) (by omega) g4
  case fin =>
   rintro c st' ⟨rfl,l,o,rfl,g1,g2,g3,g4⟩
   exact⟨rfl,l,o,rfl,g1,g3,g4,.inl (by omega)⟩
  case step =>
   rintro x c st' _ hx ⟨rfl,l,o,rfl,g1,g2,g3,g4⟩
   dsimp only
   by_cases z:o ≥ hint+1
   ·refine aJ z ?_
    exact wpS_pure ⟨rfl,l,o,rfl,g1,g3,g4,.inl z⟩
   ·refine aH z ?_
    refine wpS_bind (hb _ _ (by omega) ?_)
    cases e:f (hint-o) with
    |true=>exact wpS_pure ⟨rfl,l,o,rfl,g1,g3,g4,.inr e⟩
    |false=>exact wpS_pure ⟨rfl,_,_,rfl,by omega,by omega,by omega,e⟩
def Upl(l:List Keyed):Prop:=l.Pairwise fun x y=>ky x<=ky y
structure LM(P R o:List Keyed)(i j:Nat):Prop where
 pm:o.Perm (P.take i++R.take j)
 up:Upl o
 la:∀ x∈o,∀ y∈P.drop i,ky x<=ky y
 lb:∀ x∈o,∀ y∈R.drop j,ky x<=ky y
theorem LM.swap{P R o:List Keyed}{i j:Nat}(h:LM P R o i j):LM R P o j i:=⟨h.pm.trans Kr,h.up,h.lb,h.la⟩
theorem LM.a{P R o:List Keyed}{i j:Nat}(h:LM P R o i j)(u:Upl P)(k:Nat)(c:∀ x∈(P.drop i).take k,∀ y∈R.drop j,ky x<=ky y):LM P R (o++(P.drop i).take k) (i+k) j where
 pm:=by
  rw[LW,J1]
  refine(h.pm.append_right _).trans ?_
  rw[J1]
  exact KY _ Kr
 up:=Kx.mpr ⟨h.up,(u.drop).take,fun x hx y hy=>h.la x hx y (KH hy)⟩
 la:=fun x hx y hy=>by
  rw[← Lv]at hy
  rcases JA.mp hx with hx | hx
  ·exact h.la x hx y (KI hy)
  ·have z:Upl ((P.drop i).take k++(P.drop i).drop k):=by rw[JT];exact u.drop
   exact(Kx.mp z).2.2 x hx y hy
 lb:=fun x hx y hy=>by
  rcases JA.mp hx with hx | hx
  ·exact h.lb x hx y hy
  ·exact c x hx y hy
theorem LM.fin{P R o:List Keyed}{i j:Nat}(h:LM P R o i j)(u:Upl P)(v:Upl R)(c:∀ x∈P.drop i,∀ y∈R.drop j,ky x<=ky y):(o++P.drop i++R.drop j).Perm (P++R)/\Upl (o++P.drop i++R.drop j):=by
 constructor
 ·refine((h.pm.append_right _).append_right _).trans ?_
  have e:P++R=(P.take i++P.drop i)++(R.take j++R.drop j):=by rw[JT,JT]
  rw[e,← J1]
  refine List.Perm.append_right _ ?_
  rw[J1,J1]
  exact KY _ Kr
 ·refine Kx.mpr ⟨Kx.mpr ⟨h.up,u.drop,h.la⟩,v.drop,fun x hx y hy=>?_⟩
  rcases JA.mp hx with hx | hx
  ·exact h.lb x hx y hy
  ·exact c x hx y hy
end PyProof.Rows
namespace PyProof.Rows
open PySem
local macro_rules | `(tactic| walk_at "setG") => do
 let n:=Lean.mkIdent (Lean.mkPrivateNameCore `PySem.Builtin.List.W1All `PySem.Builtin.setMinGallop)
 `(tactic| delta $n)
local macro_rules | `(tactic| walk_at "mergeLo") => do
 let n:=Lean.mkIdent (Lean.mkPrivateNameCore `PySem.Builtin.List.W1All `PySem.Builtin.mergeLo)
 `(tactic| delta $n)
local macro_rules | `(tactic| walk_at "st") => `(tactic| try dsimp -zeta -zetaHave only)
local macro_rules | `(tactic| walk_at "l3") => `(tactic| (extract_lets -underBinder +onlyGivenNames a b c; subst a b c))
local macro_rules | `(tactic| walk_at "l11") => `(tactic| (extract_lets -underBinder +onlyGivenNames a b c d e f g h i j k; subst a b c d e f g h i j k; dsimp -zeta -zetaHave only))
variable{prog:Program}{w:World}{A:Around}{E:Value->Shared->Prop}{s:Shared}
structure SmG(st st':SortSt):Prop where
 k:kindOf st'=kindOf st
 a:arrOf st'=arrOf st
 p:pendingOf st'=pendingOf st
 f:failedOf st'=failedOf st
theorem SmG.rfl'(st:SortSt):SmG st st:=⟨rfl,rfl,rfl,rfl⟩
theorem SmG.trans{a b c:SortSt}(h:SmG a b)(g:SmG b c):SmG a c:=⟨g.k.trans h.k,g.a.trans h.a,g.p.trans h.p,g.f.trans h.f⟩
theorem nX{st:SortSt}{g:Nat}{Q:Unit->SortSt->Prop}(h:∀ st',SmG st st'->Q () st'):wpS (model prog w) A E s ((sortPriv% PySem.Builtin.setMinGallop) g) Q st:=by
 walk_at "setG"
 exact wpS_modify (h _ ⟨rfl,rfl,rfl,rfl⟩)
theorem iI(a:Array Keyed)(i:Nat):(a.extract i).toList=a.toList.drop i:=by
 rw[LV,LI]
 exact Kg (by rw[Km];exact Jw _)
theorem og(a:Array Keyed)(i k:Nat):(a.extract i (i+k)).toList=(a.toList.drop i).take k:=by
 rw[LV,LI]
 congr 1
 omega
theorem gj{P:List Keyed}{i:Nat}{x:Keyed}(h:P[i]?=some x):(P.drop i).take 1 = [x]:=by
 have hi:=(Jo.mp h).1
 rw[KQ hi]
 rw[Jp hi]at h
 cases h
 rfl
theorem LM.a1{P R o:List Keyed}{i j:Nat}{x:Keyed}(h:LM P R o i j)(u:Upl P)(hx:P[i]?=some x)(c:∀ y∈R.drop j,ky x<=ky y):LM P R (o++[x]) (i+1) j:=by
 have:=h.a u 1 (by rw[gj hx];intro z hz;rw[JI.mp hz];exact c)
 rwa[gj hx]at this
theorem jC{P:List Keyed}{i:Nat}{x:Keyed}(u:Upl P)(hx:P[i]?=some x):∀ y∈P.drop i,ky x<=ky y:=by
 have hi:=(Jo.mp hx).1
 have z:Upl (P.drop i):=u.drop
 rw[KQ hi]at z ⊢
 rw[Jp hi]at hx
 cases hx
 intro y hy
 rcases Ju.mp hy with rfl | hy
 ·exact K4 _
 ·exact(Ma.mp z).1 y hy
theorem D8{P:List Keyed}{i k:Nat}{x:Keyed}(h:x∈(P.drop i).take k):∃ m,m<k/\P[i+m]?=some x:=by
 obtain⟨m,hm,e⟩:=Lf h
 rw[JP,Km]at hm
 refine⟨m,by omega,?_⟩
 rw[LO,MT]at e
 rw[Jp (by omega),e]
theorem Dj{P:List Keyed}{i j:Nat}{x y:Keyed}(u:Upl P)(hx:P[i]?=some x)(hy:P[j]?=some y)(h:i<=j):ky x<=ky y:=jC u hx y (by
 have hj:=(Jo.mp hy).1
 refine Jq (i:=j-i) ?_
 rw[Lc,show i+(j-i)=j by omega,hy])
theorem Ea{P:List Keyed}{i:Nat}{x:Keyed}(h:x∈P.drop i):∃ m,P[i+m]?=some x:=by
 obtain⟨m,hm⟩:=List.getElem?_of_mem h
 exact⟨m,by rw[← hm,Lc]⟩
def fR(P:List Keyed)(i:Nat)(v:Keyed)(m:Nat):Bool:=match P[i+m]? with | some p=>!decide (ky v<ky p) | none=>false
def fL(P:List Keyed)(i:Nat)(v:Keyed)(m:Nat):Bool:=match P[i+m]? with | some p=>decide (ky p<ky v) | none=>false
theorem pC{P:List Keyed}{i m:Nat}{v p:Keyed}(h:P[i+m]?=some p):fR P i v m = !decide (ky v<ky p):=by unfold fR;rw[h]
theorem qL{P:List Keyed}{i m:Nat}{v p:Keyed}(h:P[i+m]?=some p):fL P i v m=decide (ky p<ky v):=by unfold fL;rw[h]
theorem IV{P:List Keyed}{i:Nat}{v:Keyed}(u:Upl P){n:Nat}(hn:i+n<=P.length):∀ x y,x<=y->y<n->fR P i v y=true->fR P i v x=true:=fun x y hxy hy e=>by
 have hx:P[i+x]?=some P[i+x]:=Jp (by omega)
 have hy':P[i+y]?=some P[i+y]:=Jp (by omega)
 rw[pC hy']at e
 rw[pC hx]
 have:=Dj u hx hy' (by omega)
 simp only[Ld,decide_eq_false_iff_not]at e ⊢
 omega
theorem IX{P:List Keyed}{i:Nat}{v:Keyed}(u:Upl P){n:Nat}(hn:i+n<=P.length):∀ x y,x<=y->y<n->fL P i v y=true->fL P i v x=true:=fun x y hxy hy e=>by
 have hx:P[i+x]?=some P[i+x]:=Jp (by omega)
 have hy':P[i+y]?=some P[i+y]:=Jp (by omega)
 rw[qL hy']at e
 rw[qL hx]
 have:=Dj u hx hy' (by omega)
 simp only[decide_eq_true_eq]at e ⊢
 omega
theorem IW{P:List Keyed}{i k:Nat}{v:Keyed}(h:∀ m,m<k->fR P i v m=true):∀ x∈(P.drop i).take k,ky x<=ky v:=fun x hx=>by
 obtain⟨m,hm,e⟩:=D8 hx
 have:=h m hm
 rw[pC e]at this
 simp only[Ld,decide_eq_false_iff_not]at this
 omega
theorem IY{P:List Keyed}{i k:Nat}{v:Keyed}(h:∀ m,m<k->fL P i v m=true):∀ x∈(P.drop i).take k,ky x<ky v:=fun x hx=>by
 obtain⟨m,hm,e⟩:=D8 hx
 have:=h m hm
 rw[qL e]at this
 simpa using this
theorem fR_hi{P:List Keyed}{i k n:Nat}{v:Keyed}(hn:P.length<=i+n)(h:∀ m,k<=m->m<n->fR P i v m=false):∀ y∈P.drop (i+k),ky v<ky y:=fun y hy=>by
 obtain⟨m,e⟩:=Ea hy
 have hl:=(Jo.mp e).1
 have:=h (k+m) (by omega) (by omega)
 rw[pC (show P[i+(k+m)]?=some y by rw[← Nat.add_assoc];exact e)]at this
 simpa using this
theorem fL_hi{P:List Keyed}{i k n:Nat}{v:Keyed}(hn:P.length<=i+n)(h:∀ m,k<=m->m<n->fL P i v m=false):∀ y∈P.drop (i+k),ky v<=ky y:=fun y hy=>by
 obtain⟨m,e⟩:=Ea hy
 have hl:=(Jo.mp e).1
 have:=h (k+m) (by omega) (by omega)
 rw[qL (show P[i+(k+m)]?=some y by rw[← Nat.add_assoc];exact e)]at this
 simp only[decide_eq_false_iff_not]at this
 omega
theorem Az{st:SortSt}{key:Keyed}{arr:Array Keyed}{base n hint:Nat}{Q:Option Nat->SortSt->Prop}(hk:kindOf st=oneType')(hkey:IntP key)(u:Upl arr.toList)(ip:∀ x∈arr.toList,IntP x)(hn:base+n<=arr.size)(hh:hint<n)
  (h:∀ k,k<=n->(∀ i,i<k->fR arr.toList base key i=true)->(∀ i,k<=i->i<n->fR arr.toList base key i=false)->Q (some k) st):wpS (model prog w) A E s ((sortPriv% PySem.Builtin.gallop) false key arr base n hint) Q st :=
 have la:arr.toList.length=arr.size:=by simp
 i5 (fR arr.toList base key) hk hkey (fun i hi=>by
  have hx:arr.toList[base+i]?=some arr.toList[base+i]:=Jp (by omega)
  exact⟨_,by rw[← hx];simp,ip _ (KN _),by rw[pC hx];rfl⟩) (IV u (by omega)) hh h
theorem AA{st:SortSt}{key:Keyed}{arr:Array Keyed}{base n hint:Nat}{Q:Option Nat->SortSt->Prop}(hk:kindOf st=oneType')(hkey:IntP key)(u:Upl arr.toList)(ip:∀ x∈arr.toList,IntP x)(hn:base+n<=arr.size)(hh:hint<n)
  (h:∀ k,k<=n->(∀ i,i<k->fL arr.toList base key i=true)->(∀ i,k<=i->i<n->fL arr.toList base key i=false)->Q (some k) st):wpS (model prog w) A E s ((sortPriv% PySem.Builtin.gallop) true key arr base n hint) Q st :=
 have la:arr.toList.length=arr.size:=by simp
 i5 (fL arr.toList base key) hk hkey (fun i hi=>by
  have hx:arr.toList[base+i]?=some arr.toList[base+i]:=Jp (by omega)
  exact⟨_,by rw[← hx];simp,ip _ (KN _),by rw[qL hx];rfl⟩) (IX u (by omega)) hh h
theorem Hn{σ α β:Type}{M:Model}{c:Prop} [Decidable c] {F:α->StateT σ Sem β} {x y:α} {Q:β->σ->Prop} {st:σ} (h:∀ z,wpS M A E s (F z) Q st):wpS M A E s (if c then F x else F y) Q st:=by
 split<;>exact h _
theorem xG{σ α:Type}{M:Model}{m:StateT σ Sem α}{Q:α->σ->Prop}{st:σ}(h:∀ R:α->σ->Prop,(∀ a st',Q a st'->R a st')->wpS M A E s m R st):wpS M A E s m Q st:=h Q fun _ _ q=>q
def A7:Array Keyed->Array Keyed->StateT SortSt Sem (Array Keyed):=sortPriv% PySem.Builtin.mergeLo
theorem at_l{a:Array Keyed}{i:Nat}{x:Keyed}(h:a.toList[i]?=some x):a[i]?=some x:=by rw[← h];simp
theorem xD{st:SortSt}{a b:Array Keyed}{Q:Array Keyed->SortSt->Prop}(hk:kindOf st=oneType')(ua:Upl a.toList)(ub:Upl b.toList)(ia:∀ x∈a.toList,IntP x)(ib:∀ x∈b.toList,IntP x)(a1:1<=a.size)(b1:1<=b.size)
  (h0:∀ x y:Keyed,b.toList[0]?=some x->y∈a.toList->ky x<=ky y) (hst:∀ x y:Keyed,x∈b.toList->a.toList[a.size-1]?=some y->ky x<ky y)
  (h:∀ R st',SmG st st'->R.toList.Perm (a.toList++b.toList)->Upl R.toList->Q R st'):wpS (model prog w) A E s (A7 a b) Q st:=by
 unfold A7
 walk_at "mergeLo"
 have la:a.toList.length=a.size:=by simp
 have lb:b.toList.length=b.size:=by simp
 have atA:∀ i,i<a.size->∃ x,a.toList[i]?=some x/\IntP x:=fun i hi=>⟨_,Jp (by omega),ia _ (KN _)⟩
 have atB:∀ i,i<b.size->∃ x,b.toList[i]?=some x/\IntP x:=fun i hi=>⟨_,Jp (by omega),ib _ (KN _)⟩
 have dn:∀(o:Array Keyed)(i j:Nat)(st':SortSt),SmG st st'->LM a.toList b.toList o.toList i j->j=b.size->Q (o++a.extract i++b.extract j) st':=by
  intro o i j st' sg lm e
  have nb:b.toList.drop j = []:=Mp (by omega)
  obtain⟨g1,g2⟩:=lm.fin ua ub (by rw[nb];intro x _ y hy;cases hy)
  refine h _ st' sg ?_ ?_
  ·rw[Kf,Kf,iI,iI];exact g1
  ·rw[Kf,Kf,iI,iI];exact g2
 have ls:∀(o:Array Keyed)(i j:Nat)(st':SortSt),SmG st st'->LM a.toList b.toList o.toList i j->i+1=a.size->Q (o++b.extract j++a.extract i) st':=by
  intro o i j st' sg lm e
  obtain⟨z,hz,_⟩:=atA i (by omega)
  have na:a.toList.drop i = [z]:=by
   rw[← gj hz]
   exact(Kg (by rw[Km];omega)).symm
  obtain⟨g1,g2⟩:=lm.swap.fin ub ua (by
   rw[na]
   intro x hx y hy
   rw[JI.mp hy]
   exact K2 (hst x z (KI hx) (by rw[← e];exact hz)))
  refine h _ st' sg ?_ ?_
  ·rw[Kf,Kf,iI,iI];exact g1.trans Kr
  ·rw[Kf,Kf,iI,iI];exact g2
 refine wpS_bind (wpS_lift (wpAny_rule ⟨rfl,?_⟩))
 obtain⟨y0,hy0,iy0⟩:=atB 0 (by omega)
 walk_at "l3"
 refine wpS_bind (aO (at_l hy0) ?_)
 have m0:LM a.toList b.toList [y0] 0 1:=⟨by rw[List.take_zero,Mw,← gj hy0];exact Ni _,Mj ..,fun x hx y hy=>by rw[JI.mp hx];exact h0 y0 y hy0 hy,fun x hx y hy=>by
  rw[JI.mp hx]
  exact jC ub hy0 y (KI hy)⟩
 by_cases c1:(1 == b.size)=true
 ·refine aJ c1 ?_
  exact wpS_pure (dn _ _ _ _ (SmG.rfl' _) m0 (by simpa using c1))
 refine aH c1 ?_
 have c1':1≠b.size:=by simpa using c1
 by_cases c2:(0+1 == a.size)=true
 ·refine aJ c2 ?_
  exact wpS_pure (ls _ _ _ _ (SmG.rfl' _) m0 (by simpa using c2))
 refine aH c2 ?_
 have c2':0+1≠a.size:=by simpa using c2
 refine wpS_bind (wpS_get ?_)
 refine wpS_bind (wpS_mono (wpS_forRange (I:=fun x c st'=>SmG st st'/\∃(o:Array Keyed)(i j g:Nat),c=(none,o,i,j,g)/\LM a.toList b.toList o.toList i j/\i+1<a.size/\j<b.size/\x+1<=i+j)
  (Q:=fun c st'=>∃(r:Array Keyed)(z:Array Keyed×Nat×Nat×Nat),c=(some r,z)/\Q r st') ?step ?fin ⟨SmG.rfl' _,_,_,_,_,rfl,m0,by omega,by omega,by omega⟩) ?post)
 case post =>
  rintro c st' ⟨r,z,rfl,q⟩
  exact wpS_pure q
 case fin =>
  rintro c st' ⟨sg,o,i,j,g,rfl,lm,g1,g2,g3⟩
  omega
 case step =>
  rintro x c st1 _ hx ⟨sg1,o,i,j,g,rfl,lm,g1,g2,g3⟩
  refine wpS_bind (wpS_mono (wpS_forRange (I:=fun y c st'=>SmG st st'/\∃(o:Array Keyed)(i j ac bc:Nat),c=(none,o,i,j,ac,bc)/\LM a.toList b.toList o.toList i j/\i+1<a.size/\j<b.size/\x+1+y<=i+j)
   (Q:=fun c st'=>(∃(r:Array Keyed)(z:Array Keyed×Nat×Nat×Nat×Nat),c=(some r,z)/\Q r st')∨SmG st st'/\∃(o:Array Keyed)(i j ac bc:Nat),c=(none,o,i,j,ac,bc)/\LM a.toList b.toList o.toList i j/\i+1<a.size/\j<b.size/\x+2<=i+j) ?istep ?ifin ⟨sg1,o,i,j,0,0,rfl,lm,g1,g2,by omega⟩) ?ipost)
  case ifin =>
   rintro c st' ⟨sg,o,i,j,ac,bc,rfl,lm,g1,g2,g3⟩
   exact .inr ⟨sg,o,i,j,ac,bc,rfl,lm,g1,g2,by omega⟩
  case istep =>
   rintro y c st2 _ hy ⟨sg2,o,i,j,ac,bc,rfl,lm,g1,g2,g3⟩
   obtain⟨vb,hvb,ivb⟩:=atB j g2
   obtain⟨va,hva,iva⟩:=atA i (by omega)
   dsimp only
   refine wpS_bind (aO (at_l hvb) (wpS_bind (aO (at_l hva) (wpS_bind (rO (sg2.k.trans hk) ivb iva ?_)))))
   by_cases c:ky vb<ky va
   ·rw[decide_eq_true c]
    dsimp only
    refine aJ rfl ?_
    refine wpS_bind (aO (at_l hvb) ?_)
    have m2:LM a.toList b.toList (o.push vb).toList i (j+1):=by
     rw[Le]
     exact(lm.swap.a1 ub hvb fun z hz=>by have:=jC ua hva z hz;omega).swap
    by_cases d1:(j+1 == b.size)=true
    ·refine aJ d1 ?_
     exact wpS_pure (.inl ⟨_,_,rfl,dn _ _ _ _ sg2 m2 (by simpa using d1)⟩)
    ·refine aH d1 ?_
     have d1':j+1≠b.size:=by simpa using d1
     split
     ·exact wpS_pure (.inr ⟨sg2,_,_,_,_,_,rfl,m2,g1,by omega,by omega⟩)
     ·exact wpS_pure ⟨sg2,_,_,_,_,_,rfl,m2,g1,by omega,by omega⟩
   ·rw[decide_eq_false c]
    dsimp only
    refine aH JZ ?_
    refine wpS_bind (aO (at_l hva) ?_)
    have m2:LM a.toList b.toList (o.push va).toList (i+1) j:=by
     rw[Le]
     exact lm.a1 ua hva fun z hz=>by have:=jC ub hvb z hz;omega
    by_cases d1:(i+1+1 == a.size)=true
    ·refine aJ d1 ?_
     exact wpS_pure (.inl ⟨_,_,rfl,ls _ _ _ _ sg2 m2 (by simpa using d1)⟩)
    ·refine aH d1 ?_
     have d1':i+1+1≠a.size:=by simpa using d1
     split
     ·exact wpS_pure (.inr ⟨sg2,_,_,_,_,_,rfl,m2,by omega,g2,by omega⟩)
     ·exact wpS_pure ⟨sg2,_,_,_,_,_,rfl,m2,by omega,g2,by omega⟩
  case ipost =>
   rintro c st2 (⟨r,z,rfl,q⟩ | ⟨sg2,o,i,j,ac,bc,rfl,lm,g1,g2,g3⟩)
   ·exact wpS_pure ⟨_,_,rfl,q⟩
   dsimp -zeta -zetaHave only
   refine wpS_bind (wpS_lift (wpAny_rule ⟨rfl,?_⟩))
   refine wpS_bind (wpS_mono (wpS_forRange (I:=fun y c st'=>SmG st st'/\∃(o:Array Keyed)(i j g ac bc:Nat),c=(none,o,i,j,g,ac,bc)/\LM a.toList b.toList o.toList i j/\i+1<a.size/\j<b.size/\x+2<=i+j)
    (Q:=fun c st'=>(∃(r:Array Keyed)(z:Array Keyed×Nat×Nat×Nat×Nat×Nat),c=(some r,z)/\Q r st')∨SmG st st'/\∃(o:Array Keyed)(i j g ac bc:Nat),c=(none,o,i,j,g,ac,bc)/\LM a.toList b.toList o.toList i j/\i+1<a.size/\j<b.size/\x+2<=i+j) ?jstep ?jfin ⟨sg2,o,i,j,_,ac,bc,rfl,lm,g1,g2,g3⟩) ?jpost)
   case jfin=>exact fun c st' q=>.inr q
   case jpost =>
    rintro c st3 (⟨r,z,rfl,q⟩ | ⟨sg3,o,i,j,g,ac,bc,rfl,lm,g1,g2,g3⟩)
    ·exact wpS_pure ⟨_,_,rfl,q⟩
    dsimp only
    exact wpS_bind (nX fun st4 sg4=>wpS_pure ⟨sg3.trans sg4,_,_,_,_,rfl,lm,g1,g2,by omega⟩)
   case jstep =>
    rintro y c st3 _ hy ⟨sg3,o,i,j,g,ac,bc,rfl,lm,g1,g2,g3⟩
    walk_at "st"
    walk_at "l11"
    extract_lets -underBinder +onlyGivenNames jp
    clear_value (ej:jp=_)
    refine xG fun R hR=>?_
    refine Hn (F:=fun z=>jp () z) fun g'=>?_
    rw[ej]
    clear ej jp
    walk_at "st"
    refine wpS_bind (nX fun st4 sg4=>?_)
    have sg34:=sg3.trans sg4
    have k4:=sg34.k.trans hk
    obtain⟨vb,hvb,ivb⟩:=atB j g2
    refine wpS_bind (aO (at_l hvb) ?_)
    refine wpS_bind (Az k4 ivb ua ia (by omega) (by omega) fun k kn kt kf=>?_)
    walk_at "st"
    extract_lets -underBinder +onlyGivenNames ac jp
    subst ac
    clear_value (ej:jp=_)
    have vbl:=jC ub hvb
    have hlo:=IW kt
    have hhi:=fR_hi (by omega) kf
    have hj:∀(o':Array Keyed)(i':Nat),LM a.toList b.toList o'.toList i' j->i'+1<a.size->(∀ y∈a.toList.drop i',ky vb<=ky y)->x+2<=i'+j->wpS (model prog w) A E s (jp () o' i') R st4:=by
     intro o' i' lm' g1' gv g3'
     rw[ej]
     clear ej jp
     walk_at "st"
     refine wpS_bind (aO (at_l hvb) ?_)
     have m2:LM a.toList b.toList (o'.push vb).toList i' (j+1):=by
      rw[Le]
      exact(lm'.swap.a1 ub hvb gv).swap
     by_cases d1:(j+1 == b.size)=true
     ·refine aJ d1 ?_
      exact wpS_pure (hR _ _ (.inl ⟨_,_,rfl,dn _ _ _ _ sg34 m2 (by simpa using d1)⟩))
     refine aH d1 ?_
     have d1':j+1≠b.size:=by simpa using d1
     obtain⟨va,hva,iva⟩:=atA i' (by omega)
     have val:=jC ua hva
     refine wpS_bind (aO (at_l hva) ?_)
     refine wpS_bind (AA k4 iva ub ib (by omega) (by omega) fun k2 kn2 kt2 kf2=>?_)
     walk_at "st"
     extract_lets -underBinder +onlyGivenNames ac jp
     subst ac
     clear_value (ej:jp=_)
     have hlo2:=IY kt2
     have hhi2:=fL_hi (by omega) kf2
     have hj:∀(o':Array Keyed)(j':Nat),LM a.toList b.toList o'.toList i' j'->j'<b.size->(∀ y∈b.toList.drop j',ky va<=ky y)->x+2<=i'+j'->wpS (model prog w) A E s (jp () o' j') R st4:=by
      intro o' j' lm2 g2' gv' g3''
      rw[ej]
      clear ej jp
      walk_at "st"
      refine wpS_bind (aO (at_l hva) ?_)
      have m3:LM a.toList b.toList (o'.push va).toList (i'+1) j':=by
       rw[Le]
       exact lm2.a1 ua hva gv'
      by_cases d2:(i'+1+1 == a.size)=true
      ·refine aJ d2 ?_
       exact wpS_pure (hR _ _ (.inl ⟨_,_,rfl,ls _ _ _ _ sg34 m3 (by simpa using d2)⟩))
      refine aH d2 ?_
      have d2':i'+1+1≠a.size:=by simpa using d2
      split
      ·exact wpS_pure (hR _ _ (.inr ⟨sg34,_,_,_,_,_,_,rfl,m3,by omega,g2',by omega⟩))
      ·exact wpS_pure (hR _ _ ⟨sg34,_,_,_,_,_,_,rfl,m3,by omega,g2',by omega⟩)
     clear ej
     by_cases z2:k2 > 0
     ·refine aJ z2 ?_
      have m3:LM a.toList b.toList (o'.push vb++b.extract (j+1) (j+1+k2)).toList i' (j+1+k2):=by
       rw[Kf,og]
       exact(m2.swap.a ub k2 fun x hx y hy=>by have:=hlo2 x hx;have:=val y hy;omega).swap
      by_cases d2:(j+1+k2 == b.size)=true
      ·refine aJ d2 ?_
       exact wpS_pure (hR _ _ (.inl ⟨_,_,rfl,dn _ _ _ _ sg34 m3 (by simpa using d2)⟩))
      refine aH d2 ?_
      have d2':j+1+k2≠b.size:=by simpa using d2
      exact hj _ _ m3 (by omega) hhi2 (by omega)
     ·refine aH z2 ?_
      have:k2=0:=by omega
      subst this
      exact hj _ _ m2 (by omega) hhi2 (by omega)
    clear ej
    by_cases z:k > 0
    ·refine aJ z ?_
     have m2:LM a.toList b.toList (o++a.extract i (i+k)).toList (i+k) j:=by
      rw[Kf,og]
      exact lm.a ua k fun x hx y hy=>by have:=hlo x hx;have:=vbl y hy;omega
     by_cases d1:(i+k+1 == a.size)=true
     ·refine aJ d1 ?_
      exact wpS_pure (hR _ _ (.inl ⟨_,_,rfl,ls _ _ _ _ sg34 m2 (by simpa using d1)⟩))
     refine aH d1 ?_
     have d1':i+k+1≠a.size:=by simpa using d1
     by_cases d2:(i+k == a.size)=true
     ·exfalso
      have d2':i+k=a.size:=by simpa using d2
      obtain⟨vl,hvl,_⟩:=atA (a.size-1) (by omega)
      have h1:=kt (a.size-1-i) (by omega)
      rw[pC (show a.toList[i+(a.size-1-i)]?=some vl by rw[show i+(a.size-1-i)=a.size-1 by omega];exact hvl)]at h1
      have h2:=hst vb vl (Jq hvb) hvl
      simp only[Ld,decide_eq_false_iff_not]at h1
      omega
     refine aH d2 ?_
     have d2':i+k≠a.size:=by simpa using d2
     exact hj _ _ m2 (by omega) (fun y hy=>K2 (hhi y hy)) (by omega)
    ·refine aH z ?_
     have:k=0:=by omega
     subst this
     exact hj _ _ lm g1 (fun y hy=>K2 (hhi y hy)) (by omega)
end PyProof.Rows
namespace PyProof.Rows
open PySem
local macro_rules | `(tactic| walk_at "mergeHi") => do
 let n:=Lean.mkIdent (Lean.mkPrivateNameCore `PySem.Builtin.List.W1All `PySem.Builtin.mergeHi)
 `(tactic| delta $n)
local macro_rules | `(tactic| walk_at "st") => `(tactic| try dsimp -zeta -zetaHave only)
local macro_rules | `(tactic| walk_at "l3") => `(tactic| (extract_lets -underBinder +onlyGivenNames a b c; subst a b c))
local macro_rules | `(tactic| walk_at "l11") => `(tactic| (extract_lets -underBinder +onlyGivenNames a b c d e f g h i j k; subst a b c d e f g h i j k; dsimp -zeta -zetaHave only))
variable{prog:Program}{w:World}{A:Around}{E:Value->Shared->Prop}{s:Shared}
structure LH(P R o:List Keyed)(i j:Nat):Prop where
 pm:o.Perm (P.drop i++R.drop j)
 up:Upl o
 la:∀ x∈P.take i,∀ y∈o,ky x<=ky y
 lb:∀ x∈R.take j,∀ y∈o,ky x<=ky y
theorem LH.swap{P R o:List Keyed}{i j:Nat}(h:LH P R o i j):LH R P o j i:=⟨h.pm.trans Kr,h.up,h.lb,h.la⟩
theorem GG(P:List Keyed){i i':Nat}(h:i'<=i)(hi:i<=P.length):P.drop i'=(P.take i).drop i'++P.drop i:=by
 have e:=congrArg (List.drop i') (JT i P)
 rw[M1,JP,show i'-min i P.length=0 by omega,LQ]at e
 exact e.symm
theorem LH.a{P R o:List Keyed}{i j:Nat}(h:LH P R o i j)(u:Upl P){i':Nat}(hi':i'<=i)(hi:i<=P.length)(c:∀ x∈R.take j,∀ y∈(P.take i).drop i',ky x<=ky y):LH P R ((P.take i).drop i'++o) i' j where
 pm:=by
  rw[GG P hi' hi,J1]
  exact KY _ h.pm
 up:=Kx.mpr ⟨(u.take).drop,h.up,fun x hx y hy=>h.la x (KI hx) y hy⟩
 la:=fun x hx y hy=>by
  have e:P.take i'=(P.take i).take i':=by rw[Mc,K1 hi']
  rw[e]at hx
  rcases JA.mp hy with hy | hy
  ·have z:Upl ((P.take i).take i'++(P.take i).drop i'):=by rw[JT];exact u.take
   exact(Kx.mp z).2.2 x hx y hy
  ·exact h.la x (KH hx) y hy
 lb:=fun x hx y hy=>by
  rcases JA.mp hy with hy | hy
  ·exact c x hx y hy
  ·exact h.lb x hx y hy
theorem tG{P:List Keyed}{i:Nat}{x:Keyed}(h:P[i]?=some x):(P.take (i+1)).drop i = [x]:=by
 have hi:=(Jo.mp h).1
 rw[LR,show i+1-i=1 by omega]
 exact gj h
theorem LH.a1{P R o:List Keyed}{i j:Nat}{x:Keyed}(h:LH P R o (i+1) j)(u:Upl P)(hx:P[i]?=some x)(c:∀ y∈R.take j,ky y<=ky x):LH P R (x::o) i j:=by
 have hi:=(Jo.mp hx).1
 have:=h.a u (i':=i) (by omega) (by omega) (by rw[tG hx];intro y hy z hz;rw[JI.mp hz];exact c y hy)
 rwa[tG hx]at this
theorem LH.fin{P R o:List Keyed}{i j:Nat}(h:LH P R o i j)(u:Upl P)(v:Upl R)(c:∀ x∈P.take i,∀ y∈R.take j,ky x<=ky y):(P.take i++R.take j++o).Perm (P++R)/\Upl (P.take i++R.take j++o):=by
 constructor
 ·refine(KY _ h.pm).trans ?_
  have e:P++R=(P.take i++P.drop i)++(R.take j++R.drop j):=by rw[JT,JT]
  rw[e,← J1,← J1]
  refine List.Perm.append_right _ ?_
  rw[J1,J1]
  exact KY _ Kr
 ·refine Kx.mpr ⟨Kx.mpr ⟨u.take,v.take,c⟩,h.up,fun x hx y hy=>?_⟩
  rcases JA.mp hx with hx | hx
  ·exact h.la x hx y hy
  ·exact h.lb x hx y hy
theorem lh{P:List Keyed}{i:Nat}{x:Keyed}(u:Upl P)(hx:P[i]?=some x):∀ y∈P.take (i+1),ky y<=ky x:=fun y hy=>by
 obtain⟨m,hm,e⟩:=Lf hy
 rw[JP]at hm
 rw[LO]at e
 exact Dj u (i:=m) (by rw[Jp (by omega),e]) hx (by omega)
theorem fR_lo'{P:List Keyed}{k:Nat}{v:Keyed}(h:∀ m,m<k->fR P 0 v m=true):∀ x∈P.take k,ky x<=ky v:=IW (P:=P) (i:=0) h
theorem fL_lo'{P:List Keyed}{k:Nat}{v:Keyed}(h:∀ m,m<k->fL P 0 v m=true):∀ x∈P.take k,ky x<ky v:=IY (P:=P) (i:=0) h
theorem Ba{P:List Keyed}{i k:Nat}{y:Keyed}(h:y∈(P.take i).drop k):∃ m,k<=m/\m<i/\P[m]?=some y:=by
 rw[LR]at h
 obtain⟨m,hm,e⟩:=D8 h
 exact⟨k+m,by omega,by omega,e⟩
theorem fR_hi'{P:List Keyed}{k n:Nat}{v:Keyed}(h:∀ m,k<=m->m<n->fR P 0 v m=false):∀ y∈(P.take n).drop k,ky v<ky y:=fun y hy=>by
 obtain⟨m,h1,h2,e⟩:=Ba hy
 have:=h m h1 h2
 rw[pC (show P[0+m]?=some y by rw[Nat.zero_add];exact e)]at this
 simpa using this
theorem fL_hi'{P:List Keyed}{k n:Nat}{v:Keyed}(h:∀ m,k<=m->m<n->fL P 0 v m=false):∀ y∈(P.take n).drop k,ky v<=ky y:=fun y hy=>by
 obtain⟨m,h1,h2,e⟩:=Ba hy
 have:=h m h1 h2
 rw[qL (show P[0+m]?=some y by rw[Nat.zero_add];exact e)]at this
 simp only[decide_eq_false_iff_not]at this
 omega
theorem mI(a:Array Keyed)(i:Nat):(a.extract 0 i).toList=a.toList.take i:=by
 rw[LV,LI]
 rfl
theorem uc(a:Array Keyed)(i k:Nat):(a.extract k i).toList=(a.toList.take i).drop k:=by
 rw[LV,LI,LR]
def rv(o:Array Keyed):List Keyed:=o.toList.reverse
theorem sA(o:Array Keyed)(x:Keyed):rv (o.push x)=x::rv o:=by unfold rv;rw[Le,List.reverse_append];rfl
theorem Hd(o p:Array Keyed):rv (o++p.reverse)=p.toList++rv o:=by unfold rv;rw[Kf,List.reverse_append,LF,List.reverse_reverse]
def A8:Array Keyed->Array Keyed->StateT SortSt Sem (Array Keyed):=sortPriv% PySem.Builtin.mergeHi
theorem xE{st:SortSt}{a b:Array Keyed}{Q:Array Keyed->SortSt->Prop}(hk:kindOf st=oneType')(ua:Upl a.toList)(ub:Upl b.toList)(ia:∀ x∈a.toList,IntP x)(ib:∀ x∈b.toList,IntP x)(a1:1<=a.size)(b1:1<=b.size)
  (h0:∀ x y:Keyed,b.toList[0]?=some x->y∈a.toList->ky x<ky y) (hst:∀ x y:Keyed,x∈b.toList->a.toList[a.size-1]?=some y->ky x<ky y)
  (h:∀ R st',SmG st st'->R.toList.Perm (a.toList++b.toList)->Upl R.toList->Q R st'):wpS (model prog w) A E s (A8 a b) Q st:=by
 unfold A8
 walk_at "mergeHi"
 have la:a.toList.length=a.size:=by simp
 have lb:b.toList.length=b.size:=by simp
 have atA:∀ i,i<a.size->∃ x,a.toList[i]?=some x/\IntP x:=fun i hi=>⟨_,Jp (by omega),ia _ (KN _)⟩
 have atB:∀ i,i<b.size->∃ x,b.toList[i]?=some x/\IntP x:=fun i hi=>⟨_,Jp (by omega),ib _ (KN _)⟩
 have dn:∀(o:Array Keyed)(i j:Nat)(st':SortSt),SmG st st'->LH a.toList b.toList (rv o) i j->i=0∨j=0->Q (a.extract 0 i++b.extract 0 j++o.reverse) st':=by
  intro o i j st' sg lm e
  obtain⟨g1,g2⟩:=lm.fin ua ub (by
   rcases e with e | e
   ·subst e;intro x hx;cases hx
   ·subst e;intro x _ y hy;cases hy)
  refine h _ st' sg ?_ ?_
  ·rw[Kf,Kf,mI,mI,LF];exact g1
  ·rw[Kf,Kf,mI,mI,LF];exact g2
 have ls:∀(o:Array Keyed)(i j:Nat)(st':SortSt),SmG st st'->LH a.toList b.toList (rv o) i j->j=1->Q (b.extract 0 j++a.extract 0 i++o.reverse) st':=by
  intro o i j st' sg lm e
  subst e
  obtain⟨z,hz,_⟩:=atB 0 (by omega)
  have nb:b.toList.take 1 = [z]:=gj (P:=b.toList) (i:=0) hz
  obtain⟨g1,g2⟩:=lm.swap.fin ub ua (by
   rw[nb]
   intro x hx y hy
   rw[JI.mp hx]
   exact K2 (h0 z y hz (KH hy)))
  refine h _ st' sg ?_ ?_
  ·rw[Kf,Kf,mI,mI,LF];exact g1.trans Kr
  ·rw[Kf,Kf,mI,mI,LF];exact g2
 refine wpS_bind (wpS_lift (wpAny_rule ⟨rfl,?_⟩))
 obtain⟨y0,hy0,iy0⟩:=atA (a.size-1) (by omega)
 walk_at "l3"
 refine wpS_bind (aO (at_l hy0) ?_)
 have m0:LH a.toList b.toList (rv #[y0]) (a.size-1) b.size:=⟨by
   show[y0].Perm _
   rw[Mp (show b.toList.length<=b.size by omega),KJ]
   have e:=tG hy0
   rw[show a.size-1+1=a.size by omega,Kg (by omega)]at e
   rw[e],Mj ..,fun x hx y hy=>by
   have:y=y0:=JI.mp hy
   rw[this]
   refine lh ua hy0 x ?_
   rw[show a.size-1+1=a.size by omega,Kg (by omega)]
   exact KH hx,fun x hx y hy=>by
   have:y=y0:=JI.mp hy
   rw[this]
   exact K2 (hst x y0 (KH hx) hy0)⟩
 by_cases c1:(a.size-1 == 0)=true
 ·refine aJ c1 ?_
  exact wpS_pure (dn _ _ _ _ (SmG.rfl' _) m0 (.inl (by simpa using c1)))
 refine aH c1 ?_
 have c1':a.size-1≠0:=by simpa using c1
 by_cases c2:(b.size == 1)=true
 ·refine aJ c2 ?_
  exact wpS_pure (ls _ _ _ _ (SmG.rfl' _) m0 (by simpa using c2))
 refine aH c2 ?_
 have c2':b.size≠1:=by simpa using c2
 refine wpS_bind (wpS_get ?_)
 refine wpS_bind (wpS_mono (wpS_forRange (I:=fun x c st'=>SmG st st'/\∃(o:Array Keyed)(i j g:Nat),c=(none,i,j,o,g)/\LH a.toList b.toList (rv o) i j/\1<=i/\i<=a.size/\2<=j/\j<=b.size/\x+1+(i+j)<=a.size+b.size)
  (Q:=fun c st'=>∃(r:Array Keyed)(z:Nat×Nat×Array Keyed×Nat),c=(some r,z)/\Q r st') ?step ?fin ⟨SmG.rfl' _,_,_,_,_,rfl,m0,by omega,by omega,by omega,by omega,by omega⟩) ?post)
 case post =>
  rintro c st' ⟨r,z,rfl,q⟩
  exact wpS_pure q
 case fin =>
  rintro c st' ⟨sg,o,i,j,g,rfl,lm,g1,g1',g2,g2',g3⟩
  omega
 case step =>
  rintro x c st1 _ hx ⟨sg1,o,i,j,g,rfl,lm,g1,g1',g2,g2',g3⟩
  refine wpS_bind (wpS_mono (wpS_forRange (I:=fun y c st'=>SmG st st'/\∃(o:Array Keyed)(i j ac bc:Nat),c=(none,i,j,o,ac,bc)/\LH a.toList b.toList (rv o) i j/\1<=i/\i<=a.size/\2<=j/\j<=b.size/\x+1+y+(i+j)<=a.size+b.size)
   (Q:=fun c st'=>(∃(r:Array Keyed)(z:Nat×Nat×Array Keyed×Nat×Nat),c=(some r,z)/\Q r st')∨SmG st st'/\∃(o:Array Keyed)(i j ac bc:Nat),c=(none,i,j,o,ac,bc)/\LH a.toList b.toList (rv o) i j/\1<=i/\i<=a.size/\2<=j/\j<=b.size/\x+2+(i+j)<=a.size+b.size) ?istep ?ifin ⟨sg1,o,i,j,0,0,rfl,lm,g1,g1',g2,g2',by omega⟩) ?ipost)
  case ifin =>
   rintro c st' ⟨sg,o,i,j,ac,bc,rfl,lm,g1,g1',g2,g2',g3⟩
   exact .inr ⟨sg,o,i,j,ac,bc,rfl,lm,g1,g1',g2,g2',by omega⟩
  case istep =>
   rintro y c st2 _ hy ⟨sg2,o,i,j,ac,bc,rfl,lm,g1,g1',g2,g2',g3⟩
   obtain⟨vb,hvb,ivb⟩:=atB (j-1) (by omega)
   obtain⟨va,hva,iva⟩:=atA (i-1) (by omega)
   have ei:i-1+1=i:=by omega
   have ej:j-1+1=j:=by omega
   dsimp only
   refine wpS_bind (aO (at_l hvb) (wpS_bind (aO (at_l hva) (wpS_bind (rO (sg2.k.trans hk) ivb iva ?_)))))
   by_cases c:ky vb<ky va
   ·rw[decide_eq_true c]
    dsimp only
    refine aJ rfl ?_
    refine wpS_bind (aO (at_l hva) ?_)
    have m2:LH a.toList b.toList (rv (o.push va)) (i-1) j:=by
     rw[sA]
     exact LH.a1 (by rw[ei];exact lm) ua hva fun z hz=>by
      have:=lh ub hvb z (by rw[ej];exact hz)
      omega
    by_cases d1:(i-1 == 0)=true
    ·refine aJ d1 ?_
     exact wpS_pure (.inl ⟨_,_,rfl,dn _ _ _ _ sg2 m2 (.inl (by simpa using d1))⟩)
    ·refine aH d1 ?_
     have d1':i-1≠0:=by simpa using d1
     split
     ·exact wpS_pure (.inr ⟨sg2,_,_,_,_,_,rfl,m2,by omega,by omega,g2,g2',by omega⟩)
     ·exact wpS_pure ⟨sg2,_,_,_,_,_,rfl,m2,by omega,by omega,g2,g2',by omega⟩
   ·rw[decide_eq_false c]
    dsimp only
    refine aH JZ ?_
    refine wpS_bind (aO (at_l hvb) ?_)
    have m2:LH a.toList b.toList (rv (o.push vb)) i (j-1):=by
     rw[sA]
     exact(LH.a1 (by rw[ej];exact lm.swap) ub hvb fun z hz=>by
      have:=lh ua hva z (by rw[ei];exact hz)
      omega).swap
    by_cases d1:(j-1 == 1)=true
    ·refine aJ d1 ?_
     exact wpS_pure (.inl ⟨_,_,rfl,ls _ _ _ _ sg2 m2 (by simpa using d1)⟩)
    ·refine aH d1 ?_
     have d1':j-1≠1:=by simpa using d1
     split
     ·exact wpS_pure (.inr ⟨sg2,_,_,_,_,_,rfl,m2,g1,g1',by omega,by omega,by omega⟩)
     ·exact wpS_pure ⟨sg2,_,_,_,_,_,rfl,m2,g1,g1',by omega,by omega,by omega⟩
  case ipost =>
   rintro c st2 (⟨r,z,rfl,q⟩ | ⟨sg2,o,i,j,ac,bc,rfl,lm,g1,g1',g2,g2',g3⟩)
   ·exact wpS_pure ⟨_,_,rfl,q⟩
   dsimp -zeta -zetaHave only
   refine wpS_bind (wpS_lift (wpAny_rule ⟨rfl,?_⟩))
   refine wpS_bind (wpS_mono (wpS_forRange (I:=fun y c st'=>SmG st st'/\∃(o:Array Keyed)(i j g ac bc:Nat),c=(none,i,j,o,g,ac,bc)/\LH a.toList b.toList (rv o) i j/\1<=i/\i<=a.size/\2<=j/\j<=b.size/\x+2+(i+j)<=a.size+b.size)
    (Q:=fun c st'=>(∃(r:Array Keyed)(z:Nat×Nat×Array Keyed×Nat×Nat×Nat),c=(some r,z)/\Q r st')∨SmG st st'/\∃(o:Array Keyed)(i j g ac bc:Nat),c=(none,i,j,o,g,ac,bc)/\LH a.toList b.toList (rv o) i j/\1<=i/\i<=a.size/\2<=j/\j<=b.size/\x+2+(i+j)<=a.size+b.size) ?jstep ?jfin ⟨sg2,o,i,j,_,ac,bc,rfl,lm,g1,g1',g2,g2',g3⟩) ?jpost)
   case jfin=>exact fun c st' q=>.inr q
   case jpost =>
    rintro c st3 (⟨r,z,rfl,q⟩ | ⟨sg3,o,i,j,g,ac,bc,rfl,lm,g1,g1',g2,g2',g3⟩)
    ·exact wpS_pure ⟨_,_,rfl,q⟩
    dsimp only
    exact wpS_bind (nX fun st4 sg4=>wpS_pure ⟨sg3.trans sg4,_,_,_,_,rfl,lm,g1,g1',g2,g2',by omega⟩)
   case jstep =>
    rintro y c st3 _ hy ⟨sg3,o,i,j,g,ac,bc,rfl,lm,g1,g1',g2,g2',g3⟩
    walk_at "st"
    walk_at "l11"
    extract_lets -underBinder +onlyGivenNames jp
    clear_value (ej:jp=_)
    refine xG fun R hR=>?_
    refine Hn (F:=fun z=>jp () z) fun g'=>?_
    rw[ej]
    clear ej jp
    walk_at "st"
    refine wpS_bind (nX fun st4 sg4=>?_)
    have sg34:=sg3.trans sg4
    have k4:=sg34.k.trans hk
    have ej1:j-1+1=j:=by omega
    obtain⟨vb,hvb,ivb⟩:=atB (j-1) (by omega)
    refine wpS_bind (aO (at_l hvb) ?_)
    refine wpS_bind (Az k4 ivb ua ia (by omega) (by omega) fun k kn kt kf=>?_)
    walk_at "st"
    extract_lets -underBinder +onlyGivenNames kk ac jp
    subst kk ac
    clear_value (ej:jp=_)
    have vbl:=lh ub hvb
    rw[ej1]at vbl
    have hlo:=fR_lo' kt
    have hhi:=fR_hi' kf
    have hj:∀(i':Nat)(o':Array Keyed),LH a.toList b.toList (rv o') i' j->1<=i'->i'<=a.size->(∀ y∈a.toList.take i',ky y<=ky vb)->x+2+(i'+j)<=a.size+b.size->wpS (model prog w) A E s (jp () i' o') R st4:=by
     intro i' o' lm' q1 q1' gv g3'
     rw[ej]
     clear ej jp
     walk_at "st"
     refine wpS_bind (aO (at_l hvb) ?_)
     have m2:LH a.toList b.toList (rv (o'.push vb)) i' (j-1):=by
      rw[sA]
      exact(LH.a1 (by rw[ej1];exact lm'.swap) ub hvb gv).swap
     by_cases d1:(j-1 == 1)=true
     ·refine aJ d1 ?_
      exact wpS_pure (hR _ _ (.inl ⟨_,_,rfl,ls _ _ _ _ sg34 m2 (by simpa using d1)⟩))
     refine aH d1 ?_
     have d1':j-1≠1:=by simpa using d1
     have ei1:i'-1+1=i':=by omega
     obtain⟨va,hva,iva⟩:=atA (i'-1) (by omega)
     have val:=lh ua hva
     rw[ei1]at val
     refine wpS_bind (aO (at_l hva) ?_)
     refine wpS_bind (AA k4 iva ub ib (by omega) (by omega) fun k2 kn2 kt2 kf2=>?_)
     walk_at "st"
     extract_lets -underBinder +onlyGivenNames kk ac jp
     subst kk ac
     clear_value (ej:jp=_)
     have hlo2:=fL_lo' kt2
     have hhi2:=fL_hi' kf2
     have hj:∀(j':Nat)(o':Array Keyed),LH a.toList b.toList (rv o') i' j'->2<=j'->j'<=b.size->(∀ y∈b.toList.take j',ky y<=ky va)->x+2+(i'+j')<=a.size+b.size->wpS (model prog w) A E s (jp () j' o') R st4:=by
      intro j' o' lm2 q2 q2' gv' g3''
      rw[ej]
      clear ej jp
      walk_at "st"
      refine wpS_bind (aO (at_l hva) ?_)
      have m3:LH a.toList b.toList (rv (o'.push va)) (i'-1) j':=by
       rw[sA]
       exact LH.a1 (by rw[ei1];exact lm2) ua hva gv'
      by_cases d2:(i'-1 == 0)=true
      ·refine aJ d2 ?_
       exact wpS_pure (hR _ _ (.inl ⟨_,_,rfl,dn _ _ _ _ sg34 m3 (.inl (by simpa using d2))⟩))
      refine aH d2 ?_
      have d2':i'-1≠0:=by simpa using d2
      split
      ·exact wpS_pure (hR _ _ (.inr ⟨sg34,_,_,_,_,_,_,rfl,m3,by omega,by omega,q2,q2',by omega⟩))
      ·exact wpS_pure (hR _ _ ⟨sg34,_,_,_,_,_,_,rfl,m3,by omega,by omega,q2,q2',by omega⟩)
     clear ej
     by_cases z2:j-1-k2 > 0
     ·refine aJ z2 ?_
      have m3:LH a.toList b.toList (rv (o'.push vb++(b.extract k2 (j-1)).reverse)) i' k2:=by
       rw[Hd,uc]
       exact(m2.swap.a ub (by omega) (by omega) fun x hx y hy=>by have:=hhi2 y hy;have:=val x hx;omega).swap
      by_cases d2:(k2 == 1)=true
      ·refine aJ d2 ?_
       exact wpS_pure (hR _ _ (.inl ⟨_,_,rfl,ls _ _ _ _ sg34 m3 (by simpa using d2)⟩))
      refine aH d2 ?_
      have d2':k2≠1:=by simpa using d2
      by_cases d3:(k2 == 0)=true
      ·refine aJ d3 ?_
       exact wpS_pure (hR _ _ (.inl ⟨_,_,rfl,dn _ _ _ _ sg34 m3 (.inr (by simpa using d3))⟩))
      refine aH d3 ?_
      have d3':k2≠0:=by simpa using d3
      exact hj _ _ m3 (by omega) (by omega) (fun y hy=>K2 (hlo2 y hy)) (by omega)
     ·refine aH z2 ?_
      have:k2=j-1:=by omega
      subst this
      exact hj _ _ m2 (by omega) (by omega) (fun y hy=>K2 (hlo2 y hy)) (by omega)
    clear ej
    by_cases z:i-k > 0
    ·refine aJ z ?_
     have m2:LH a.toList b.toList (rv (o++(a.extract k i).reverse)) k j:=by
      rw[Hd,uc]
      exact lm.a ua (by omega) (by omega) fun x hx y hy=>by have:=hhi y hy;have:=vbl x hx;omega
     by_cases d1:(k == 0)=true
     ·refine aJ d1 ?_
      exact wpS_pure (hR _ _ (.inl ⟨_,_,rfl,dn _ _ _ _ sg34 m2 (.inl (by simpa using d1))⟩))
     refine aH d1 ?_
     have d1':k≠0:=by simpa using d1
     exact hj _ _ m2 (by omega) (by omega) hlo (by omega)
    ·refine aH z ?_
     have:k=i:=by omega
     subst this
     exact hj _ _ lm g1 g1' hlo (by omega)
end PyProof.Rows
namespace PyProof.Rows
open PySem
local macro_rules | `(tactic| walk_at "countRun") => do
 let n:=Lean.mkIdent (Lean.mkPrivateNameCore `PySem.Builtin.List.W1All `PySem.Builtin.countRun)
 `(tactic| delta $n)
local macro_rules | `(tactic| walk_at "binarySort") => do
 let n:=Lean.mkIdent (Lean.mkPrivateNameCore `PySem.Builtin.List.W1All `PySem.Builtin.binarySort)
 `(tactic| delta $n)
local macro_rules | `(tactic| walk_at "st") => `(tactic| try dsimp -zeta -zetaHave only)
local macro_rules | `(tactic| walk_at "l3") => `(tactic| (extract_lets -underBinder +onlyGivenNames a b c; subst a b c))
local macro_rules | `(tactic| walk_at "l11") => `(tactic| (extract_lets -underBinder +onlyGivenNames a b c d e f g h i j k; subst a b c d e f g h i j k; dsimp -zeta -zetaHave only))
local macro_rules | `(tactic| walk_at "l1") => `(tactic| (extract_lets -underBinder +onlyGivenNames a; subst a; try dsimp -zeta -zetaHave only))
local macro_rules | `(tactic| walk_at "l2") => `(tactic| (extract_lets -underBinder +onlyGivenNames a b; subst a b; try dsimp -zeta -zetaHave only))
local macro_rules | `(tactic| walk_at "l4") => `(tactic| (extract_lets -underBinder +onlyGivenNames a b c d; subst a b c d; try dsimp -zeta -zetaHave only))
variable{prog:Program}{w:World}{A:Around}{E:Value->Shared->Prop}{s:Shared}
structure SB(lo:Nat)(st0 st:SortSt):Prop where
 perm:(arrOf st).Perm (arrOf st0)
 kind:kindOf st=oneType'
 failed:failedOf st=failedOf st0
 pend:pendingOf st=pendingOf st0
 low:∀ i,i<lo->(arrOf st)[i]?=(arrOf st0)[i]?
theorem SB.set{lo:Nat}{st0 st:SortSt}(h:SB lo st0 st){xs:Array Keyed}(hp:xs.Perm (arrOf st))(hl:∀ i,i<lo->xs[i]?=(arrOf st)[i]?):SB lo st0 (setArr st xs) :=
 ⟨hp.trans h.perm,h.kind,h.failed,h.pend,fun i hi=>(hl i hi).trans (h.low i hi)⟩
theorem SB.size{lo:Nat}{st0 st:SortSt}(h:SB lo st0 st):(arrOf st).size=(arrOf st0).size:=h.perm.size_eq
def Sin(xs:Array Keyed)(lo n:Nat):Prop:=∀ i j,lo<=i->i<=j->j<lo+n->K xs i<=K xs j
def Nin(xs:Array Keyed)(lo n:Nat):Prop:=∀ i j,lo<=i->i<=j->j<lo+n->K xs j<=K xs i
theorem k9{lo:Nat}{st0 st:SortSt}{i j:Nat}{Q:Option Bool->SortSt->Prop}(hB:SB lo st0 st)(h0:IntKeys (arrOf st0))(hi:i<(arrOf st0).size)(hj:j<(arrOf st0).size)
  (h:Q (some (decide (K (arrOf st) i<K (arrOf st) j))) st):wpS (model prog w) A E s ((sortPriv% PySem.Builtin.ltAt) i j) Q st:=by
 have at':∀ i,i<(arrOf st0).size->∃ t q,(arrOf st)[i]?=some (.int (K (arrOf st) i) t,q):=fun i hi=>by
  have hi':i<(arrOf st).size:=by rw[hB.size];exact hi
  obtain⟨n,t,hn⟩:=h0 (arrOf st)[i] ((L8.mp hB.perm).mem_iff.mp (by simp))
  have e:(arrOf st)[i]?=some (arrOf st)[i]:=getElem?_pos _ i hi'
  refine⟨t,(arrOf st)[i].2,?_⟩
  unfold K
  rw[e]
  show some (arrOf st)[i]=some (.int (numOf (arrOf st)[i].1) t,(arrOf st)[i].2)
  rw[hn]
  exact congrArg some (Prod.ext hn rfl)
 obtain⟨t,p,e1⟩:=at' i hi
 obtain⟨u,q,e2⟩:=at' j hj
 exact wpS_ltAt hB.kind e1 e2 h
theorem nY{lo:Nat}{st0 st:SortSt}{i j:Nat}{Q:Unit->SortSt->Prop}(hB:SB lo st0 st)(hl:lo<=i)(hj:j<=(arrOf st0).size)(h:∀ st',SB lo st0 st'->(∀ k,K (arrOf st') k=if i<=k/\k<j then K (arrOf st) (i+j-1-k) else K (arrOf st) k)->Q () st') :
  wpS (model prog w) A E s ((sortPriv% PySem.Builtin.reverseSlice) i j) Q st:=by
 have hj':j<=(arrOf st).size:=by rw[hB.size];exact hj
 refine wpS_reverse (h _ (hB.set (mirror_perm _ _ _ _) fun k hk=>?_) fun k=>K_mirror hj' k)
 rw[getElem?_mirror_all hj',if_neg (by omega)]
theorem HQ(xs:Array Keyed)(lo:Nat):Sin xs lo 1:=fun i j h1 h2 h3=>by
 have:i=j:=by omega
 rw[this];exact K4 _
theorem Hb{xs:Array Keyed}{lo n:Nat}(h:Sin xs lo n)(n1:1<=n)(c:¬ K xs (lo+n)<K xs (lo+n-1)):Sin xs lo (n+1):=fun i j h1 h2 h3=>by
 by_cases z:j<lo+n
 ·exact h i j h1 h2 z
 ·have ej:j=lo+n:=by omega
  by_cases zi:i=j
  ·rw[zi];exact K4 _
  ·have:=h i (lo+n-1) h1 (by omega) (by omega)
   rw[ej];omega
theorem A4{xs:Array Keyed}{lo n:Nat}(h:Nin xs lo n)(n1:1<=n)(c:K xs (lo+n)<=K xs (lo+n-1)):Nin xs lo (n+1):=fun i j h1 h2 h3=>by
 by_cases z:j<lo+n
 ·exact h i j h1 h2 z
 ·have ej:j=lo+n:=by omega
  by_cases zi:i=j
  ·rw[zi];exact K4 _
  ·have:=h i (lo+n-1) h1 (by omega) (by omega)
   rw[ej];omega
def wI:Nat->Nat->StateT SortSt Sem (Option Nat):=sortPriv% PySem.Builtin.countRun
theorem Bu{st0:SortSt}{lo nrem:Nat}{Q:Option Nat->SortSt->Prop}(hk:kindOf st0=oneType')(h0:IntKeys (arrOf st0))(hn:lo+nrem<=(arrOf st0).size)(n1:1<=nrem)
  (h:∀ m st',SB lo st0 st'->1<=m->m<=nrem->Sin (arrOf st') lo m->Q (some m) st'):wpS (model prog w) A E s (wI lo nrem) Q st0:=by
 have hB:SB lo st0 st0:=⟨Array.Perm.refl _,hk,rfl,rfl,fun _ _=>rfl⟩
 unfold wI
 walk_at "countRun"
 refine wpS_bind (wpS_mono (wpS_forRange (I:=fun x c st'=>st'=st0/\c=(none,x)/\Sin (arrOf st0) lo x)
  (Q:=fun c st'=>st'=st0/\∃ n,c=(none,n)/\1<=n/\n<=nrem/\Sin (arrOf st0) lo n/\(n=nrem∨K (arrOf st0) (lo+n)<K (arrOf st0) (lo+n-1))) ?step ?fin ⟨rfl,rfl,HQ _ _⟩) ?post)
 case fin =>
  rintro c st' ⟨rfl,rfl,hs⟩
  rw[show max 1 nrem=nrem by omega]at hs ⊢
  exact⟨rfl,nrem,rfl,n1,Jw _,hs,.inl rfl⟩
 case step =>
  rintro x c st' h1 h2 ⟨rfl,rfl,hs⟩
  dsimp only
  refine wpS_bind (k9 hB h0 (by omega) (by omega) ?_)
  by_cases z:K (arrOf st') (lo+x)<K (arrOf st') (lo+x-1)
  ·simp only[z,decide_true,if_true]
   exact wpS_pure ⟨rfl,x,rfl,h1,by omega,hs,.inr z⟩
  ·simp only[z,decide_false,Kt,if_false]
   exact wpS_pure ⟨rfl,rfl,Hb hs h1 z⟩
 case post =>
  rintro c st' ⟨rfl,n,rfl,g1,g2,hs,hor⟩
  walk_at "st"
  walk_at "l2"
  by_cases z:(n == nrem)=true
  ·refine aJ z ?_
   exact wpS_pure (h n st' hB g1 g2 hs)
  refine aH z ?_
  have z':n≠nrem:=by simpa using z
  have hlt:=hor.resolve_left z'
  extract_lets -underBinder +onlyGivenNames jp
  clear_value (ej:jp=_)
  have hj:∀ st1,SB lo st' st1->Nin (arrOf st1) lo (n+1)->wpS (model prog w) A E s (jp ()) Q st1:=by
   intro st1 hB1 hs1
   rw[ej]
   clear ej jp
   walk_at "st"
   refine wpS_bind (wpS_lift (wpAny_rule ⟨rfl,?_⟩))
   refine wpS_bind (wpS_mono (wpS_forRange (I:=fun x c st2=>SB lo st' st2/\∃ neq,c=(none,x,neq)/\Nin (arrOf st2) lo x/\neq+1<=x/\(∀ i,lo+x-(neq+1)<=i->i<lo+x->K (arrOf st2) i=K (arrOf st2) (lo+x-1)))
    (Q:=fun c st2=>SB lo st' st2/\∃ m neq,c=(none,m,neq)/\1<=m/\m<=nrem/\Nin (arrOf st2) lo m/\neq+1<=m/\(∀ i,lo+m-(neq+1)<=i->i<lo+m->K (arrOf st2) i=K (arrOf st2) (lo+m-1))) ?dstep ?dfin ⟨hB1,0,rfl,hs1,by omega,fun i h1 h2=>by congr 1;omega⟩) ?dpost)
   case dfin =>
    rintro c st2 ⟨hB2,neq,rfl,hs2,q1,q2⟩
    rw[show max (n+1) nrem=nrem by omega]at hs2 q1 q2 ⊢
    exact⟨hB2,nrem,neq,rfl,by omega,Jw _,hs2,q1,q2⟩
   case dstep =>
    rintro x c st2 h1 h2 ⟨hB2,neq,rfl,hs2,q1,q2⟩
    dsimp only
    refine wpS_bind (k9 hB2 h0 (by omega) (by omega) ?_)
    by_cases z:K (arrOf st2) (lo+x)<K (arrOf st2) (lo+x-1)
    ·simp only[z,decide_true,if_true]
     have nx:=A4 hs2 (by omega) (K2 z)
     by_cases y:neq > 0
     ·refine aJ y ?_
      refine wpS_bind (nY hB2 (by omega) (by omega) fun st3 hB3 e3=>?_)
      have e3':∀ k,K (arrOf st3) k=K (arrOf st2) k:=fun k=>by
       rw[e3]
       split
       ·rename_i hk
        rw[q2 _ (by omega) (by omega),q2 k (by omega) (by omega)]
       ·rfl
      refine wpS_pure ⟨hB3,0,rfl,fun i j a1 a2 a3=>?_,by omega,fun i h1 h2=>by congr 1;omega⟩
      rw[e3',e3']
      exact nx i j a1 a2 a3
     ·refine aH y ?_
      exact wpS_pure ⟨hB2,0,rfl,nx,by omega,fun i h1 h2=>by congr 1;omega⟩
    ·simp only[z,decide_false,Kt,if_false]
     refine wpS_bind (k9 hB2 h0 (by omega) (by omega) ?_)
     by_cases y:K (arrOf st2) (lo+x-1)<K (arrOf st2) (lo+x)
     ·simp only[y,decide_true,if_true]
      exact wpS_pure ⟨hB2,x,neq,rfl,by omega,by omega,hs2,q1,q2⟩
     ·simp only[y,decide_false,Kt,if_false]
      have eq:K (arrOf st2) (lo+x)=K (arrOf st2) (lo+x-1):=by omega
      refine wpS_pure ⟨hB2,neq+1,rfl,A4 hs2 (by omega) (by omega),by omega,fun i a1 a2=>?_⟩
      rw[show lo+(x+1)-1=lo+x by omega]
      by_cases ix:i=lo+x
      ·rw[ix]
      ·rw[eq];exact q2 i (by omega) (by omega)
   case dpost =>
    rintro c st2 ⟨hB2,m,neq,rfl,m1,m2,hs2,q1,q2⟩
    walk_at "st"
    walk_at "l4"
    extract_lets -underBinder +onlyGivenNames jp
    clear_value (ej:jp=_)
    have hj:∀ st3,SB lo st' st3->Nin (arrOf st3) lo m->wpS (model prog w) A E s (jp ()) Q st3:=by
     intro st3 hB3 hs3
     rw[ej]
     clear ej jp
     walk_at "st"
     refine wpS_bind (nY hB3 (Jw _) (by omega) fun st4 hB4 e4=>?_)
     have hs4:Sin (arrOf st4) lo m:=fun i j a1 a2 a3=>by
      rw[e4,e4,if_pos (by omega),if_pos (by omega)]
      exact hs3 _ _ (by omega) (by omega) (by omega)
     refine wpS_bind (wpS_mono (wpS_forRange (I:=fun x c st'=>st'=st4/\c=(none,x)/\Sin (arrOf st4) lo x) (Q:=fun c st'=>st'=st4/\∃ n,c=(none,n)/\1<=n/\n<=nrem/\Sin (arrOf st4) lo n) ?ustep ?ufin ⟨rfl,rfl,hs4⟩) ?upost)
     case ufin =>
      rintro c st5 ⟨rfl,rfl,hs5⟩
      rw[show max m nrem=nrem by omega]at hs5 ⊢
      exact⟨rfl,nrem,rfl,n1,Jw _,hs5⟩
     case ustep =>
      rintro x c st5 h1 h2 ⟨rfl,rfl,hs5⟩
      dsimp only
      refine wpS_bind (k9 hB4 h0 (by omega) (by omega) ?_)
      by_cases z:K (arrOf st5) (lo+x)<K (arrOf st5) (lo+x-1)
      ·simp only[z,decide_true,if_true]
       exact wpS_pure ⟨rfl,x,rfl,by omega,by omega,hs5⟩
      ·simp only[z,decide_false,Kt,if_false]
       exact wpS_pure ⟨rfl,rfl,Hb hs5 (by omega) z⟩
     case upost =>
      rintro c st5 ⟨rfl,k,rfl,k1,k2,hs5⟩
      exact wpS_pure (h k st5 hB4 k1 k2 hs5)
    by_cases y:neq > 0
    ·refine aJ y ?_
     refine wpS_bind (nY hB2 (by omega) (by omega) fun st3 hB3 e3=>hj st3 hB3 fun i j a1 a2 a3=>?_)
     have e3':∀ k,K (arrOf st3) k=K (arrOf st2) k:=fun k=>by
      rw[e3]
      split
      ·rename_i hk
       rw[q2 _ (by omega) (by omega),q2 k (by omega) (by omega)]
      ·rfl
     rw[e3',e3']
     exact hs2 i j a1 a2 a3
    ·refine aH y ?_
     exact hj st2 hB2 hs2
  by_cases y:n > 1
  ·refine aJ y ?_
   refine wpS_bind (k9 hB h0 (by omega) (by omega) ?_)
   by_cases r:K (arrOf st') lo<K (arrOf st') (lo+n-1)
   ·simp only[r,decide_true,if_true]
    exact wpS_pure (h n st' hB g1 g2 hs)
   ·simp only[r,decide_false,Kt,if_false]
    have all:∀ k,lo<=k->k<lo+n->K (arrOf st') k=K (arrOf st') (lo+n-1):=fun k a1 a2=>by
     have b1:=hs lo k (Jw _) a1 a2
     have b2:=hs k (lo+n-1) a1 (by omega) (by omega)
     omega
    refine wpS_bind (nY hB (Jw _) (by omega) fun st1 hB1 e1=>hj st1 hB1 ?_)
    have e1':∀ k,K (arrOf st1) k=K (arrOf st') k:=fun k=>by
     rw[e1]
     split
     ·rename_i hk
      rw[all _ (by omega) (by omega),all k (by omega) (by omega)]
     ·rfl
    refine A4 (fun i j a1 a2 a3=>?_) (by omega) ?_
    ·rw[e1',e1',all i a1 (by omega),all j (by omega) a3]
     exact K4 _
    ·rw[e1',e1']
     exact K2 hlt
  ·refine aH y ?_
   have:n=1:=by omega
   subst this
   refine hj st' hB (A4 (fun i j a1 a2 a3=>?_) (by omega) (K2 hlt))
   have:i=j:=by omega
   rw[this];exact K4 _
def pY:Nat->Nat->Nat->StateT SortSt Sem Bool:=sortPriv% PySem.Builtin.binarySort
theorem Fl{st0 st:SortSt}{lo n m:Nat}{Q:Bool->SortSt->Prop}(h0:IntKeys (arrOf st0))(hn:lo+n<=(arrOf st0).size)(hm:m<=n)(hB:SB lo st0 st)(hs:Sin (arrOf st) lo m)
  (h:∀ st',SB lo st0 st'->Sin (arrOf st') lo n->Q true st'):wpS (model prog w) A E s (pY lo n m) Q st:=by
 unfold pY
 walk_at "binarySort"
 refine wpS_bind (wpS_mono (wpS_forRange (I:=fun k c st'=>c=(none,())/\SB lo st0 st'/\Sin (arrOf st') lo (min k n))
  (Q:=fun c st'=>c=(none,())/\SB lo st0 st'/\Sin (arrOf st') lo n) ?step ?fin ?init) ?post)
 case post =>
  rintro c st' ⟨rfl,hB',hs'⟩
  exact wpS_pure (h st' hB' hs')
 case init =>
  refine⟨rfl,hB,fun i j h1 h2 h3=>?_⟩
  by_cases z:m=0
  ·have:i=j:=by omega
   rw[this];exact K4 _
  ·exact hs i j h1 h2 (by omega)
 case fin =>
  rintro c st' ⟨hc,hB',hs'⟩
  refine⟨hc,hB',?_⟩
  rwa[show min (max (max m 1) n) n=n by omega]at hs'
 case step =>
  rintro k c st' hak hkn ⟨rfl,hB',hs'⟩
  rw[show min k n=k by omega]at hs'
  dsimp only
  refine wpS_bind (wpS_mono (wpS_forRange (I:=fun x c st''=>st''=st'/\∃ l r,c=(none,l,r)/\l<=r/\r<=k/\r-l<=k-x /\
    (∀ i,lo<=i->i<lo+l->K (arrOf st') i<=K (arrOf st') (lo+k))/\(∀ i,lo+r<=i->i<lo+k->K (arrOf st') (lo+k)<K (arrOf st') i))
   (Q:=fun c st''=>st''=st'/\∃ l,c=(none,l,l)/\l<=k /\
    (∀ i,lo<=i->i<lo+l->K (arrOf st') i<=K (arrOf st') (lo+k))/\(∀ i,lo+l<=i->i<lo+k->K (arrOf st') (lo+k)<K (arrOf st') i)) ?istep ?ifin ⟨rfl,0,k,rfl,by omega,by omega,by omega,fun i h1 h2=>by omega,fun i h1 h2=>by omega⟩) ?ipost)
  case ifin =>
   rintro c st'' ⟨rfl,l,r,rfl,q1,q2,q3,q4,q5⟩
   have:l=r:=by omega
   subst this
   exact⟨rfl,l,rfl,q2,q4,q5⟩
  case istep =>
   rintro x c st'' _ hxk ⟨rfl,l,r,rfl,q1,q2,q3,q4,q5⟩
   dsimp only
   by_cases z:l ≥ r
   ·refine aJ z ?_
    have:l=r:=by omega
    subst this
    exact wpS_pure ⟨rfl,l,rfl,q2,q4,q5⟩
   ·refine aH z ?_
    refine wpS_bind (k9 hB' h0 (by omega) (by omega) ?_)
    by_cases y:K (arrOf st'') (lo+k)<K (arrOf st'') (lo+(l+r)/2)
    ·simp only[y,decide_true,if_true]
     refine wpS_pure ⟨rfl,l,(l+r)/2,rfl,by omega,by omega,by omega,q4,fun i h1 h2=>?_⟩
     have:=hs' (lo+(l+r)/2) i (by omega) h1 h2
     omega
    ·simp only[y,decide_false,Kt,if_false]
     refine wpS_pure ⟨rfl,(l+r)/2+1,r,rfl,by omega,by omega,by omega,fun i h1 h2=>?_,q5⟩
     have:=hs' i (lo+(l+r)/2) h1 (by omega) (by omega)
     omega
  case ipost =>
   rintro c st'' ⟨rfl,l,rfl,q1,q2,q3⟩
   dsimp only
   have hks:lo+k<(arrOf st'').size:=by rw[hB'.size];omega
   have el:lo+k-(lo+k-(lo+l))=lo+l:=by omega
   refine wpS_bind ?_
   show wpS _ _ _ _ (moveDown' (lo+k) (lo+l)) _ _
   rw[moveDown'_eq]
   refine wpS_modify (wpS_pure ⟨rfl,hB'.set (bubble_perm _ _ _) fun i hi=>?_,?_⟩)
   ·rw[getElem?_bubble hks _ (by omega),el,if_neg (by omega),if_neg (by omega)]
   ·rw[show min (k+1) n=k+1 by omega]
    intro i j h1 h2 h3
    show K (bubble (arrOf st'') (lo+k) (lo+k-(lo+l))) i<=K (bubble (arrOf st'') (lo+k) (lo+k-(lo+l))) j
    rw[K_bubble hks (by omega),K_bubble hks (by omega),el]
    repeat' split
    all_goals first
     | (exfalso;omega)
     |exact K4 _
     |exact q2 _ (by omega) (by omega)
     |exact K2 (q3 _ (by omega) (by omega))
     |exact hs' _ _ (by omega) (by omega) (by omega)
end PyProof.Rows
namespace PyProof.Rows
open PySem
local macro_rules | `(tactic| walk_at "mergeAt") => do
 let n:=Lean.mkIdent (Lean.mkPrivateNameCore `PySem.Builtin.List.W1All `PySem.Builtin.mergeAt)
 `(tactic| delta $n)
local macro_rules | `(tactic| walk_at "st") => `(tactic| try dsimp -zeta -zetaHave only)
local macro_rules | `(tactic| walk_at "l3") => `(tactic| (extract_lets -underBinder +onlyGivenNames a b c; subst a b c))
local macro_rules | `(tactic| walk_at "l11") => `(tactic| (extract_lets -underBinder +onlyGivenNames a b c d e f g h i j k; subst a b c d e f g h i j k; dsimp -zeta -zetaHave only))
local macro_rules | `(tactic| walk_at "l1") => `(tactic| (extract_lets -underBinder +onlyGivenNames a; subst a; try dsimp -zeta -zetaHave only))
local macro_rules | `(tactic| walk_at "l2") => `(tactic| (extract_lets -underBinder +onlyGivenNames a b; subst a b; try dsimp -zeta -zetaHave only))
local macro_rules | `(tactic| walk_at "l4") => `(tactic| (extract_lets -underBinder +onlyGivenNames a b c d; subst a b c d; try dsimp -zeta -zetaHave only))
variable{prog:Program}{w:World}{A:Around}{E:Value->Shared->Prop}{s:Shared}
theorem uW{P:List Keyed}{i n m:Nat}(hm:m<n):((P.drop i).take n)[m]?=P[i+m]?:=by
 rw[Ll,if_pos hm,Lc]
theorem Hc{P:List Keyed}{i n x y:Nat}{p q:Keyed}(u:Upl ((P.drop i).take n))(hp:P[i+x]?=some p)(hq:P[i+y]?=some q)(h:x<=y)(hy:y<n):ky p<=ky q :=
 Dj u (i:=x) (j:=y) (by rw[uW (by omega)];exact hp) (by rw[uW hy];exact hq) h
theorem Dg{st:SortSt}{key:Keyed}{arr:Array Keyed}{base n hint:Nat}{Q:Option Nat->SortSt->Prop}(hk:kindOf st=oneType')(hkey:IntP key)(u:Upl ((arr.toList.drop base).take n))(ip:∀ x∈arr.toList,IntP x)(hn:base+n<=arr.size)(hh:hint<n)
  (h:∀ k,k<=n->(∀ i,i<k->fR arr.toList base key i=true)->(∀ i,k<=i->i<n->fR arr.toList base key i=false)->Q (some k) st):wpS (model prog w) A E s ((sortPriv% PySem.Builtin.gallop) false key arr base n hint) Q st:=by
 have la:arr.toList.length=arr.size:=by simp
 refine i5 (fR arr.toList base key) hk hkey (fun i hi=>?_) (fun x y hxy hy e=>?_) hh h
 ·have hx:arr.toList[base+i]?=some arr.toList[base+i]:=Jp (by omega)
  exact⟨_,by rw[← hx];simp,ip _ (KN _),by rw[pC hx];rfl⟩
 ·have hx:arr.toList[base+x]?=some arr.toList[base+x]:=Jp (by omega)
  have hy':arr.toList[base+y]?=some arr.toList[base+y]:=Jp (by omega)
  rw[pC hy']at e
  rw[pC hx]
  have:=Hc u hx hy' hxy hy
  simp only[Ld,decide_eq_false_iff_not]at e ⊢
  omega
theorem Dh{st:SortSt}{key:Keyed}{arr:Array Keyed}{base n hint:Nat}{Q:Option Nat->SortSt->Prop}(hk:kindOf st=oneType')(hkey:IntP key)(u:Upl ((arr.toList.drop base).take n))(ip:∀ x∈arr.toList,IntP x)(hn:base+n<=arr.size)(hh:hint<n)
  (h:∀ k,k<=n->(∀ i,i<k->fL arr.toList base key i=true)->(∀ i,k<=i->i<n->fL arr.toList base key i=false)->Q (some k) st):wpS (model prog w) A E s ((sortPriv% PySem.Builtin.gallop) true key arr base n hint) Q st:=by
 have la:arr.toList.length=arr.size:=by simp
 refine i5 (fL arr.toList base key) hk hkey (fun i hi=>?_) (fun x y hxy hy e=>?_) hh h
 ·have hx:arr.toList[base+i]?=some arr.toList[base+i]:=Jp (by omega)
  exact⟨_,by rw[← hx];simp,ip _ (KN _),by rw[qL hx];rfl⟩
 ·have hx:arr.toList[base+x]?=some arr.toList[base+x]:=Jp (by omega)
  have hy':arr.toList[base+y]?=some arr.toList[base+y]:=Jp (by omega)
  rw[qL hy']at e
  rw[qL hx]
  have:=Hc u hx hy' hxy hy
  simp only[decide_eq_true_eq]at e ⊢
  omega
theorem D9{P:List Keyed}{i n k:Nat}{y:Keyed}(h:y∈((P.drop i).take n).drop k):∃ m,k<=m/\m<n/\P[i+m]?=some y:=by
 obtain⟨m,e⟩:=Ea h
 have hl:=(Jo.mp e).1
 rw[JP]at hl
 rw[uW (by omega)]at e
 exact⟨k+m,by omega,by omega,e⟩
theorem fR_sh{P:List Keyed}{i n k:Nat}{v:Keyed}(h:∀ m,k<=m->m<n->fR P i v m=false):∀ y∈((P.drop i).take n).drop k,ky v<ky y:=fun y hy=>by
 obtain⟨m,h1,h2,e⟩:=D9 hy
 have:=h m h1 h2
 rw[pC e]at this
 simpa using this
theorem fL_sh{P:List Keyed}{i n k:Nat}{v:Keyed}(h:∀ m,k<=m->m<n->fL P i v m=false):∀ y∈((P.drop i).take n).drop k,ky v<=ky y:=fun y hy=>by
 obtain⟨m,h1,h2,e⟩:=D9 hy
 have:=h m h1 h2
 rw[qL e]at this
 simp only[decide_eq_false_iff_not]at this
 omega
theorem Bd(c:Nat):∀(l:List Keyed)(n:Nat)(xs:Array Keyed),c+n+l.length<=xs.size->((l.zipIdx n).foldl (fun a x=>match x with | (p,j)=>a.setIfInBounds (c+j) p) xs).toList=xs.toList.take (c+n)++l++xs.toList.drop (c+n+l.length)
 |[],n,xs,_=>by
  show xs.toList=_
  rw[KJ,Lo,Nat.add_zero,JT]
 |p::l,n,xs,h=>by
  have ll:xs.toList.length=xs.size:=by simp
  rw[J2]at h ⊢
  rw[List.zipIdx_cons,Na]
  show((l.zipIdx (n+1)).foldl _ (xs.setIfInBounds (c+n) p)).toList=_
  rw[Bd c l (n+1) _ (by rw[Nq];omega),Nd,List.drop_set_of_lt (by omega),show c+(n+1)=c+n+1 by omega,show c+n+1+l.length=c+n+(l.length+1) by omega]
  have e:(xs.toList.set (c+n) p).take (c+n+1)=xs.toList.take (c+n)++[p]:=by
   rw[Kv,List.take_set_of_le (Jw _),LL (by omega)]
   rfl
  rw[e,J1 (xs.toList.take (c+n)) [p] l]
  rfl
theorem AE{P R:List Keyed}(u:Upl P)(v:Upl R)(c:∀ x∈P,∀ y∈R,ky x<=ky y):Upl (P++R):=Kx.mpr ⟨u,v,c⟩
theorem HE{σ:Type}{M:Model}{x st:σ}{Q:PUnit->σ->Prop}(h:Q ⟨⟩ x):wpS M A E s (set x:StateT σ Sem PUnit) Q st:=by
 unfold wpS
 rw[StateT.run_set]
 exact wpAny_pure ⟨rfl,h⟩
def A9:Nat->StateT SortSt Sem Bool:=sortPriv% PySem.Builtin.mergeAt
theorem xF{st:SortSt}{i sa na pa sb nb pb:Nat}{Q:Bool->SortSt->Prop}(hk:kindOf st=oneType')(hf:failedOf st=none)(h0:IntKeys (arrOf st))(p1:(pendingOf st)[i]?=some (sa,na,pa))(p2:(pendingOf st)[i+1]?=some (sb,nb,pb))(es:sb=sa+na)(a1:1<=na)(b1:1<=nb)(le:sb+nb<=(arrOf st).size)
  (s1:Upl (((arrOf st).toList.drop sa).take na)) (s2:Upl (((arrOf st).toList.drop sb).take nb))
  (h:∀(st':SortSt)(M:List Keyed),kindOf st'=oneType'->failedOf st'=none->pendingOf st'=((pendingOf st).setIfInBounds i (sa,na+nb,pa)).eraseIdxIfInBounds (i+1)->(arrOf st').toList=(arrOf st).toList.take sa++M++(arrOf st).toList.drop (sb+nb)->M.Perm (((arrOf st).toList.drop sa).take na++((arrOf st).toList.drop sb).take nb)->Upl M->Q true st') :
  wpS (model prog w) A E s (A9 i) Q st:=by
 unfold A9
 walk_at "mergeAt"
 refine wpS_bind (wpS_get ?_)
 rw[show((sortPriv% PySem.Builtin.SortState.pending) st)[i]?=some (sa,na,pa) from p1,show((sortPriv% PySem.Builtin.SortState.pending) st)[i+1]?=some (sb,nb,pb) from p2]
 dsimp -zeta -zetaHave only
 refine wpS_bind (HE ?_)
 obtain⟨xs,exs⟩:∃ xs,arrOf st=xs:=⟨_,rfl⟩
 obtain⟨st1,est1⟩:∃ st1:SortSt,SortSt.mk' (kindOf st) (arrOf st) (((pendingOf st).setIfInBounds i (sa,na+nb,pa)).eraseIdxIfInBounds (i+1)) (gallopOf st) (failedOf st)=st1:=⟨_,rfl⟩
 have k1:kindOf st1=oneType':=by rw[← est1];exact hk
 have f1:failedOf st1=none:=by rw[← est1];exact hf
 have e1:arrOf st1=xs:=by rw[← est1,← exs]
 have q1:pendingOf st1=((pendingOf st).setIfInBounds i (sa,na+nb,pa)).eraseIdxIfInBounds (i+1):=by rw[← est1]
 show wpS (model prog w) A E s _ Q (SortSt.mk' (kindOf st) (arrOf st) (((pendingOf st).setIfInBounds i (sa,na+nb,pa)).eraseIdxIfInBounds (i+1)) (gallopOf st) (failedOf st))
 rw[est1]
 clear est1
 rw[show(sortPriv% PySem.Builtin.SortState.a) st=xs from exs]
 rw[exs]at h0 le s1 s2 h
 clear exs p1 p2 hf hk
 have ll:xs.toList.length=xs.size:=by simp
 have ip:∀ x∈xs.toList,IntP x:=fun x hx=>h0 x hx
 have at':∀ i,i<xs.size->∃ x,xs.toList[i]?=some x/\IntP x:=fun i hi=>⟨_,Jp (by omega),ip _ (KN _)⟩
 obtain⟨b0,hb0,ib0⟩:=at' sb (by omega)
 refine wpS_bind (aO (at_l hb0) ?_)
 refine wpS_bind (Dg k1 ib0 s1 ip (by omega) (by omega) fun k kn kt kf=>?_)
 dsimp -zeta -zetaHave only
 obtain⟨S1,eS1⟩:∃ S1,(xs.toList.drop sa).take na=S1:=⟨_,rfl⟩
 obtain⟨S2,eS2⟩:∃ S2,(xs.toList.drop sb).take nb=S2:=⟨_,rfl⟩
 have l1:S1.length=na:=by rw[← eS1,JP,Km];omega
 have l2:S2.length=nb:=by rw[← eS2,JP,Km];omega
 have tk1:S1.take k=(xs.toList.drop sa).take k:=by rw[← eS1,Mc,K1 kn]
 have lo1:∀ x∈S1.take k,ky x<=ky b0:=by rw[tk1];exact IW kt
 have hi1:∀ y∈S1.drop k,ky b0<ky y:=by rw[← eS1];exact fR_sh kf
 have bS:S2[0]?=some b0:=by rw[← eS2,uW (by omega)];exact hb0
 rw[eS1]at s1
 rw[eS2]at s2
 have b0l:∀ y∈S2,ky b0<=ky y:=jC (i:=0) s2 bS
 have whole:Upl (S1++S2)->Q true st1:=fun u=>h st1 (S1++S2) k1 f1 q1 (by
  rw[e1,← eS1,← eS2,← J1,es,← LW,← LW,← es,JT]) (by rw[eS1,eS2]) u
 by_cases z:(na-k == 0)=true
 ·refine aJ z ?_
  have z':na-k=0:=by simpa using z
  refine wpS_pure (whole (AE s1 s2 fun x hx y hy=>?_))
  have:=lo1 x (by rw[Kg (by omega)];exact hx)
  have:=b0l y hy
  omega
 refine aH z ?_
 have z':na-k≠0:=by simpa using z
 obtain⟨al,hal,ial⟩:=at' (sa+k+(na-k)-1) (by omega)
 have aS:S1[na-1]?=some al:=by rw[← eS1,uW (by omega),← hal];congr 1;omega
 refine wpS_bind (aO (at_l hal) ?_)
 refine wpS_bind (Dh k1 ial (by rw[eS2];exact s2) ip (by omega) (by omega) fun m mn mt mf=>?_)
 dsimp -zeta -zetaHave only
 have tk2:S2.take m=(xs.toList.drop sb).take m:=by rw[← eS2,Mc,K1 mn]
 have lo2:∀ x∈S2.take m,ky x<ky al:=by rw[tk2];exact IY mt
 have hi2:∀ y∈S2.drop m,ky al<=ky y:=by rw[← eS2];exact fL_sh mf
 have all:∀ x∈S1,ky x<=ky al:=fun x hx=>lh s1 aS x (by rw[Kg (by omega)];exact hx)
 by_cases y:(m == 0)=true
 ·refine aJ y ?_
  have y':m=0:=by simpa using y
  subst y'
  exact wpS_pure (whole (AE s1 s2 fun x hx y hy=>Int.le_trans (all x hx) (hi2 y hy)))
 refine aH y ?_
 have y':m≠0:=by simpa using y
 walk_at "st"
 extract_lets -underBinder +onlyGivenNames xx yy jp
 subst xx yy
 clear_value (ej:jp=_)
 have ea:(xs.extract (sa+k) sb).toList=S1.drop k:=by
  rw[uc,← eS1,LR,LR,Lv]
  congr 1
  omega
 have eb:(xs.extract sb (sb+m)).toList=S2.take m:=by rw[og,tk2]
 have za:(xs.extract (sa+k) sb).size=na-k:=by rw[← JR,ea,Km,l1]
 have zb:(xs.extract sb (sb+m)).size=m:=by rw[← JR,eb,JP];omega
 have ipa:∀ x∈(xs.extract (sa+k) sb).toList,IntP x:=fun x hx=>by
  rw[uc]at hx
  exact ip x (KH (KI hx))
 have ipb:∀ x∈(xs.extract sb (sb+m)).toList,IntP x:=fun x hx=>by
  rw[og]at hx
  exact ip x (KI (KH hx))
 have ua:Upl (xs.extract (sa+k) sb).toList:=by rw[ea];exact s1.drop
 have ub:Upl (xs.extract sb (sb+m)).toList:=by rw[eb];exact s2.take
 have c0:∀ x y:Keyed,(xs.extract sb (sb+m)).toList[0]?=some x->y∈(xs.extract (sa+k) sb).toList->ky x<ky y:=fun x y hx hy=>by
  rw[eb,Ll,if_pos (by omega),bS]at hx
  cases hx
  rw[ea]at hy
  exact hi1 y hy
 have cl:∀ x y:Keyed,x∈(xs.extract sb (sb+m)).toList->(xs.extract (sa+k) sb).toList[(xs.extract (sa+k) sb).size-1]?=some y->ky x<ky y:=fun x y hx hy=>by
  rw[za,ea,Lc,show k+(na-k-1)=na-1 by omega,aS]at hy
  cases hy
  rw[eb]at hx
  exact lo2 x hx
 have hj:∀(R:Array Keyed)(st2:SortSt),SmG st1 st2->R.toList.Perm ((xs.extract (sa+k) sb).toList++(xs.extract sb (sb+m)).toList)->Upl R.toList->wpS (model prog w) A E s (jp R) Q st2:=by
  intro R st2 sg pm up
  rw[ej]
  clear ej jp
  walk_at "st"
  rw[ea,eb]at pm
  have rl:R.toList.length=na-k+m:=by rw[pm.length_eq,Jt,Km,JP,l1,l2];omega
  refine wpS_bind (wpS_modify ?_)
  refine wpS_bind (wpS_get ?_)
  have ff:(sortPriv% PySem.Builtin.SortState.failed) st2=none:=sg.f.trans f1
  show wpS (model prog w) A E s (pure ((sortPriv% PySem.Builtin.SortState.failed) st2).isNone) Q _
  rw[ff]
  have tk:∀ x∈S1.take k,∀ y∈S1.drop k,ky x<=ky y:=by
   have:Upl (S1.take k++S1.drop k):=by rw[JT];exact s1
   exact(Kx.mp this).2.2
  have tk':∀ x∈S2.take m,∀ y∈S2.drop m,ky x<=ky y:=by
   have:Upl (S2.take m++S2.drop m):=by rw[JT];exact s2
   exact(Kx.mp this).2.2
  refine wpS_pure (h _ (S1.take k++R.toList++S2.drop m) (sg.k.trans k1) rfl (sg.p.trans q1) ?_ ?_ ?_)
  ·show(R.toList.zipIdx.foldl (fun a x=>match x with | (p,j)=>a.setIfInBounds (sa+k+j) p) (arrOf st2)).toList=_
   rw[sg.a,e1,Bd (sa+k) R.toList 0 xs (by omega),Nat.add_zero,rl,show sa+k+(na-k+m)=sb+m by omega,LW,← tk1]
   have ed:xs.toList.drop (sb+m)=S2.drop m++xs.toList.drop (sb+nb):=by
    rw[← Lv,← eS2]
    have e:=congrArg (List.drop m) (JT nb (xs.toList.drop sb))
    rw[M1,JP,Km,show m-min nb (xs.toList.length-sb)=0 by omega,LQ,Lv]at e
    exact e.symm
   rw[ed]
   simp only[J1]
  ·rw[eS1,eS2]
   have e:S1++S2=S1.take k++(S1.drop k++S2.take m)++S2.drop m:=by
    rw[J1,J1,JT,← J1,JT]
   rw[e]
   exact(KY _ pm).append_right _
  ·refine AE (AE s1.take up fun x hx y hy=>?_) s2.drop fun x hx y hy=>?_
   ·rcases JA.mp (pm.mem_iff.mp hy)with hy | hy
    ·exact tk x hx y hy
    ·have:=lo1 x hx
     have:=b0l y (KH hy)
     omega
   ·rcases JA.mp hx with hx | hx
    ·have:=lo1 x hx
     have:=b0l y (KI hy)
     omega
    ·rcases JA.mp (pm.mem_iff.mp hx)with hx | hx
     ·exact Int.le_trans (all x (KI hx)) (hi2 y hy)
     ·exact tk' x hx y hy
 clear ej
 by_cases c:na-k<=m
 ·refine aJ c ?_
  exact wpS_bind (xD k1 ua ub ipa ipb (by omega) (by omega) (fun x y a b=>K2 (c0 x y a b)) cl fun R st2 sg pm up=>hj R st2 sg pm up)
 ·refine aH c ?_
  exact wpS_bind (xE k1 ua ub ipa ipb (by omega) (by omega) c0 cl fun R st2 sg pm up=>hj R st2 sg pm up)
end PyProof.Rows
namespace PyProof.Rows
open PySem
local macro_rules | `(tactic| walk_at "sortRuns") => do
 let n:=Lean.mkIdent (Lean.mkPrivateNameCore `PySem.Builtin.List.W1All `PySem.Builtin.sortRuns)
 `(tactic| delta $n)
local macro_rules | `(tactic| walk_at "st") => `(tactic| try dsimp -zeta -zetaHave only)
local macro_rules | `(tactic| walk_at "l3") => `(tactic| (extract_lets -underBinder +onlyGivenNames a b c; subst a b c))
local macro_rules | `(tactic| walk_at "l11") => `(tactic| (extract_lets -underBinder +onlyGivenNames a b c d e f g h i j k; subst a b c d e f g h i j k; dsimp -zeta -zetaHave only))
local macro_rules | `(tactic| walk_at "l1") => `(tactic| (extract_lets -underBinder +onlyGivenNames a; subst a; try dsimp -zeta -zetaHave only))
local macro_rules | `(tactic| walk_at "l2") => `(tactic| (extract_lets -underBinder +onlyGivenNames a b; subst a b; try dsimp -zeta -zetaHave only))
local macro_rules | `(tactic| walk_at "l4") => `(tactic| (extract_lets -underBinder +onlyGivenNames a b c d; subst a b c d; try dsimp -zeta -zetaHave only))
variable{prog:Program}{w:World}{A:Around}{E:Value->Shared->Prop}{s:Shared}
def Rn(L:List Keyed):List (Nat×Nat×Nat)->Nat->Nat->Prop
 |[],c,e=>c=e
 |p::t,c,e=>p.1=c/\1<=p.2.1/\Upl ((L.drop p.1).take p.2.1)/\Rn L t (c+p.2.1) e
theorem Rn.le{L:List Keyed}:∀{T:List (Nat×Nat×Nat)}{c e:Nat},Rn L T c e->c+T.length<=e
 |[],c,e,h=>by cases h;exact Jw _
 |p::t,c,e,⟨_,h1,_,h⟩=>by
  have:=Rn.le h
  rw[J2]
  omega
theorem Rn.app{L:List Keyed}:∀{T1 T2:List (Nat×Nat×Nat)}{c e:Nat},Rn L (T1++T2) c e↔∃ m,Rn L T1 c m/\Rn L T2 m e
 |[],T2,c,e=>⟨fun h=>⟨c,rfl,h⟩,fun⟨m,h1,h2⟩=>by cases h1;exact h2⟩
 |p::t,T2,c,e=>by
  constructor
  ·rintro⟨h1,h2,h3,h4⟩
   obtain⟨m,g1,g2⟩:=Rn.app.mp h4
   exact⟨m,⟨h1,h2,h3,g1⟩,g2⟩
  ·rintro⟨m,⟨h1,h2,h3,g1⟩,g2⟩
   exact⟨h1,h2,h3,Rn.app.mpr ⟨m,g1,g2⟩⟩
theorem Rn.lo{L L':List Keyed}{m:Nat}(hm:L.take m=L'.take m):∀{T:List (Nat×Nat×Nat)}{c e:Nat},Rn L T c e->e<=m->Rn L' T c e
 |[],c,e,h,_=>h
 |p::t,c,e,⟨h1,h2,h3,h4⟩,he=>by
  have hl:=h4.le
  refine⟨h1,h2,?_,Rn.lo hm h4 he⟩
  have cut:∀ Z:List Keyed,(Z.drop p.1).take p.2.1=((Z.take m).drop p.1).take p.2.1:=fun Z=>by
   rw[LR,Mc,K1 (by omega)]
  rw[cut L',← hm,← cut L]
  exact h3
theorem Rn.hi{L L':List Keyed}{m:Nat}(hm:L.drop m=L'.drop m):∀{T:List (Nat×Nat×Nat)}{c e:Nat},Rn L T c e->m<=c->Rn L' T c e
 |[],c,e,h,_=>h
 |p::t,c,e,⟨h1,h2,h3,h4⟩,he=>by
  refine⟨h1,h2,?_,Rn.hi hm h4 (by omega)⟩
  have cut:∀ Z:List Keyed,Z.drop p.1=(Z.drop m).drop (p.1-m):=fun Z=>by rw[Lv];congr 1;omega
  rw[cut L',← hm,← cut L]
  exact h3
theorem Rn.like{L:List Keyed}:∀{T T':List (Nat×Nat×Nat)}{c e:Nat},T.map (fun p=>(p.1,p.2.1))=T'.map (fun p=>(p.1,p.2.1))->Rn L T c e->Rn L T' c e
 |[],[],c,e,_,h=>h
 |p::t,q::t',c,e,hm,⟨h1,h2,h3,h4⟩=>by
  rw[Kl,Kl]at hm
  injection hm with a b
  injection a with a1 a2
  refine⟨by rw[← a1];exact h1,by rw[← a2];exact h2,by rw[← a1,← a2];exact h3,?_⟩
  rw[← a2]
  exact Rn.like b h4
 |[],q::t',c,e,hm,h=>by cases hm
 |p::t,[],c,e,hm,h=>by cases hm
structure SI(a₀:Array Keyed)(lo:Nat)(st:SortSt):Prop where
 perm:(arrOf st).Perm a₀
 kind:kindOf st=oneType'
 failed:failedOf st=none
 rn:Rn (arrOf st).toList (pendingOf st).toList 0 lo
 le:lo<=a₀.size
theorem SI.size{a₀:Array Keyed}{lo:Nat}{st:SortSt}(h:SI a₀ lo st):(arrOf st).size=a₀.size:=h.perm.size_eq
theorem SI.keys{a₀:Array Keyed}{lo:Nat}{st:SortSt}(h:SI a₀ lo st)(h0:IntKeys a₀):IntKeys (arrOf st):=fun p hp=>h0 p ((L8.mp h.perm).mem_iff.mp hp)
theorem om{a₀:Array Keyed}{lo i:Nat}{st:SortSt}{Q:Bool->SortSt->Prop}(h0:IntKeys a₀)(hS:SI a₀ lo st)(hi:i+1<(pendingOf st).size)(h:∀ st',SI a₀ lo st'->(pendingOf st').size+1=(pendingOf st).size->(arrOf st').toList.drop lo=(arrOf st).toList.drop lo->Q true st') :
  wpS (model prog w) A E s ((sortPriv% PySem.Builtin.mergeAt) i) Q st:=by
 have tl:(pendingOf st).toList.length=(pendingOf st).size:=by simp
 obtain⟨T,eT⟩:∃ T,(pendingOf st).toList=T:=⟨_,rfl⟩
 rw[eT]at tl
 have g1:(pendingOf st)[i]?=some T[i]:=by rw[← Jp,← eT];simp
 have g2:(pendingOf st)[i+1]?=some T[i+1]:=by rw[← Jp,← eT];simp
 have sp:T=T.take i++T[i]::T[i+1]::T.drop (i+2):=by
  rw[← KQ,← KQ,JT]
 obtain⟨T1,eT1⟩:∃ T1,T.take i=T1:=⟨_,rfl⟩
 obtain⟨T2,eT2⟩:∃ T2,T.drop (i+2)=T2:=⟨_,rfl⟩
 obtain⟨⟨sa,na,pa⟩,ep⟩:∃ p,T[i]=p:=⟨_,rfl⟩
 obtain⟨⟨sb,nb,pb⟩,eq⟩:∃ p,T[i+1]=p:=⟨_,rfl⟩
 have t1l:T1.length=i:=by rw[← eT1,JP];omega
 rw[ep]at g1
 rw[eq]at g2
 rw[eT1,eT2,ep,eq]at sp
 have rn:=hS.rn
 rw[eT,sp]at rn
 obtain⟨m,r1,⟨x1,x2,x3,⟨y1,y2,y3,r2⟩⟩⟩:=Rn.app.mp rn
 dsimp only at x1 x2 x3 y1 y2 y3 r2
 have le2:=r2.le
 have le:=hS.le
 have sz:=hS.size
 have ll:(arrOf st).toList.length=(arrOf st).size:=by simp
 refine xF hS.kind hS.failed (hS.keys h0) g1 g2 (by omega) x2 y2 (by omega) x3 y3 fun st' M k' f' p' e' pm up=>?_
 have Ml:M.length=na+nb:=by
  rw[pm.length_eq,Jt,JP,JP,Km,Km]
  omega
 have hpp:(pendingOf st').toList=T1++(sa,na+nb,pa)::T2:=by
  rw[p']
  have:(((pendingOf st).setIfInBounds i (sa,na+nb,pa)).eraseIdxIfInBounds (i+1)).toList=(T.set i (sa,na+nb,pa)).eraseIdx (i+1):=by
   unfold Array.eraseIdxIfInBounds
   rw[dif_pos (by rw[Nq];exact hi),Array.toList_eraseIdx,Nd,eT]
  rw[this,sp,← t1l,Mu _ _ (Jw _),JV,List.set_cons_zero,List.eraseIdx_append_of_length_le (by omega),show T1.length+1-T1.length=1 by omega]
  rfl
 have ptl:(pendingOf st').size+1=(pendingOf st).size:=by
  have a:=congrArg M9 hpp
  have b:=congrArg M9 sp
  simp only[Jt,J2,JR]at a b
  omega
 have es:sb=sa+na:=by omega
 have lt:((arrOf st).toList.take sa).length=sa:=by rw[JP];omega
 have tke:(arrOf st).toList.take m=(arrOf st').toList.take m:=by
  rw[e',J1,MX (by omega),Mc,x1,Nat.min_self]
 have dre:(arrOf st).toList.drop (sb+nb)=(arrOf st').toList.drop (sb+nb):=by
  rw[e',List.drop_left' (by rw[Jt,lt,Ml];omega)]
 refine h st' ⟨?_,k',f',?_,le⟩ ptl (by
  have e:=congrArg (List.drop (lo-(sb+nb))) dre
  rw[Lv,Lv,show sb+nb+(lo-(sb+nb))=lo by omega]at e
  exact e.symm)
 ·refine Array.Perm.trans (L8.mpr ?_) hS.perm
  rw[e']
  have e2:(arrOf st).toList=(arrOf st).toList.take sa++(((arrOf st).toList.drop sa).take na++((arrOf st).toList.drop sb).take nb)++(arrOf st).toList.drop (sb+nb):=by
   have es:sb=sa+na:=by omega
   rw[← J1,es,← LW,← LW,JT]
  exact((KY _ pm).append_right _).trans (List.Perm.of_eq e2.symm)
 ·rw[hpp]
  refine Rn.app.mpr ⟨m,r1.lo tke (Jw _),x1,by show 1<=na+nb;omega,?_,?_⟩
  ·show Upl (((arrOf st').toList.drop sa).take (na+nb))
   have:((arrOf st').toList.drop sa).take (na+nb)=M:=by
    rw[e',J1,M1,lt,JV,LQ,Mp (by omega),Mw,MX (by omega),Kg (by omega)]
   rw[this]
   exact up
  ·show Rn _ T2 (m+(na+nb)) lo
   have:=r2.hi dre (by omega)
   rw[show m+(na+nb)=m+na+nb by omega]
   exact this
theorem HP{xs:Array Keyed}{lo n:Nat}(h:Sin xs lo n)(hn:lo+n<=xs.size):Upl ((xs.toList.drop lo).take n):=by
 have ll:xs.toList.length=xs.size:=by simp
 refine Kw.mpr fun i j hi hj hij=>?_
 rw[JP,Km]at hj
 rw[LO,MT,LO,MT]
 have z:=h (lo+i) (lo+j) (by omega) (by omega) (by omega)
 rw[K_eq (by omega),K_eq (by omega)]at z
 simpa[ky] using z
theorem SB.si{a₀:Array Keyed}{lo:Nat}{st0 st:SortSt}(h:SB lo st0 st)(hS:SI a₀ lo st0):SI a₀ lo st:=by
 refine⟨h.perm.trans hS.perm,h.kind,h.failed.trans hS.failed,?_,hS.le⟩
 rw[h.pend]
 refine hS.rn.lo (MU fun i=>?_) (Jw _)
 rw[Ll,Ll]
 split
 ·rename_i hi
  have:=h.low i hi
  rw[← KC,← KC]at this
  exact this.symm
 ·rfl
theorem ite_lt(c:Bool){n:Nat}(h:¬ n<=1):(if c=true then n-2-1 else n-2)+1<n:=by split<;>omega
def uK:StateT SortSt Sem Unit:=sortPriv% PySem.Builtin.sortRuns
theorem xC{a₀:Array Keyed}{st:SortSt}{Q:Unit->SortSt->Prop}(h0:IntKeys a₀)(hS:SI a₀ 0 st)(h:∀ st',(arrOf st').Perm a₀->failedOf st'=none->Upl (arrOf st').toList->Q () st'):wpS (model prog w) A E s uK Q st:=by
 unfold uK
 walk_at "sortRuns"
 refine wpS_bind (wpS_get ?_)
 rw[show((sortPriv% PySem.Builtin.SortState.a) st).size=a₀.size from hS.size]
 walk_at "st"
 walk_at "l3"
 generalize (sortPriv% PySem.Builtin.minRun) a₀.size a₀.size 0=mr
 refine wpS_bind (wpS_mono (wpS_forRange (I:=fun x c st'=>∃ lo,c=(none,lo)/\SI a₀ lo st'/\(lo=a₀.size∨x<=lo)) (Q:=fun c st'=>c=(none,a₀.size)/\SI a₀ a₀.size st') ?step ?fin ⟨0,rfl,hS,.inr (Jw _)⟩) ?post)
 case fin =>
  rintro c st' ⟨lo,rfl,hS',g⟩
  have:=hS'.le
  have:lo=a₀.size:=by omega
  subst this
  exact⟨rfl,hS'⟩
 case step =>
  rintro x c st' _ hx ⟨lo,rfl,hS',g⟩
  have le:=hS'.le
  have sz:=hS'.size
  by_cases z:lo ≥ a₀.size
  ·refine aJ z ?_
   have:lo=a₀.size:=by omega
   subst this
   exact wpS_pure ⟨rfl,hS'⟩
  refine aH z ?_
  refine xG fun R hR=>?_
  refine wpS_bind (Bu hS'.kind (hS'.keys h0) (by omega) (by omega) fun m st1 hB1 m1 m2 hs1=>?_)
  walk_at "st"
  extract_lets -underBinder +onlyGivenNames nn jp
  subst nn
  clear_value (ej:jp=_)
  have hj:∀(n:Nat)(st2:SortSt),SB lo st' st2->1<=n->lo+n<=a₀.size->Sin (arrOf st2) lo n->wpS (model prog w) A E s (jp () n) R st2:=by
   intro n st2 hB2 n1 n2 hs2
   rw[ej]
   clear ej jp
   walk_at "st"
   have S2:=hB2.si hS'
   have u2:=HP hs2 (by rw[S2.size];exact n2)
   refine wpS_bind (wpS_get ?_)
   walk_at "st"
   extract_lets -underBinder +onlyGivenNames jp
   clear_value (ej:jp=_)
   have hj:∀ st3:SortSt,SI a₀ lo st3->(arrOf st3).toList.drop lo=(arrOf st2).toList.drop lo->wpS (model prog w) A E s (jp ()) R st3:=by
    intro st3 S3 e3
    rw[ej]
    clear ej jp
    walk_at "st"
    refine wpS_bind (wpS_modify (wpS_pure (hR _ _ ⟨lo+n,rfl,⟨S3.perm,S3.kind,S3.failed,?_,n2⟩,?_⟩)))
    ·show Rn (arrOf st3).toList ((pendingOf st3).push (lo,n,0)).toList 0 (lo+n)
     rw[Le]
     refine Rn.app.mpr ⟨lo,S3.rn,rfl,n1,?_,rfl⟩
     show Upl (((arrOf st3).toList.drop lo).take n)
     rw[e3]
     exact u2
    ·rcases g with g | g
     ·exact absurd g (by omega)
     ·exact .inr (by omega)
   clear ej
   cases eb:((sortPriv% PySem.Builtin.SortState.pending) st2).back? with
   |none=>exact hj st2 S2 rfl
   |some p =>
    obtain⟨s1,n1',p1⟩:=p
    walk_at "st"
    extract_lets -underBinder +onlyGivenNames pw
    clear_value pw
    refine wpS_bind (wpS_mono (wpS_forRange (I:=fun _ c st3=>c=(none,())/\SI a₀ lo st3/\(arrOf st3).toList.drop lo=(arrOf st2).toList.drop lo) (Q:=fun c st3=>c=(none,())/\SI a₀ lo st3/\(arrOf st3).toList.drop lo=(arrOf st2).toList.drop lo) ?pstep (fun c st3 q=>q) ⟨rfl,S2,rfl⟩) ?ppost)
    case pstep =>
     rintro y c st3 _ hy ⟨rfl,S3,e3⟩
     refine wpS_bind (wpS_get ?_)
     walk_at "st"
     walk_at "l1"
     by_cases big:((sortPriv% PySem.Builtin.SortState.pending) st3).size > 1
     ·rw[if_pos big]
      obtain⟨⟨q1,q2,q3⟩,eq⟩:∃ p,((sortPriv% PySem.Builtin.SortState.pending) st3)[((sortPriv% PySem.Builtin.SortState.pending) st3).size-2]?=some p:=⟨_,getElem?_pos _ _ (by omega)⟩
      rw[eq]
      dsimp -zeta -zetaHave only
      split
      ·exact wpS_pure ⟨rfl,S3,e3⟩
      ·exact wpS_bind (om h0 S3 (show(pendingOf st3).size-2+1<(pendingOf st3).size from by have:(pendingOf st3).size > 1:=big;omega) fun st4 S4 _ e4=>wpS_pure ⟨rfl,S4,e4.trans e3⟩)
     ·rw[if_neg big]
      exact wpS_pure ⟨rfl,S3,e3⟩
    case ppost =>
     rintro c st3 ⟨rfl,S3,e3⟩
     walk_at "st"
     walk_at "l1"
     refine wpS_bind (wpS_modify (hj _ ⟨S3.perm,S3.kind,S3.failed,?_,S3.le⟩ e3))
     refine Rn.like ?_ S3.rn
     show _=Mz _ ((pendingOf st3).modify _ _).toList
     rw[Array.toList_modify]
     refine MU fun i=>?_
     rw[Jy,Jy,List.getElem?_modify]
     cases (pendingOf st3).toList[i]? with
     |none=>rfl
     |some p =>
      show some (p.1,p.2.1)=some ((if _=i then _ else p).1,(if _=i then _ else p).2.1)
      split<;>rfl
  clear ej
  by_cases c:m<mr
  ·refine aJ c ?_
   refine wpS_bind (wpS_lift (wpAny_rule ⟨rfl,?_⟩))
   refine wpS_bind (Fl (hS'.keys h0) (by rw[sz];omega) (by omega) hB1 hs1 fun st2 hB2 hs2=>?_)
   exact hj _ st2 hB2 (by omega) (by omega) hs2
  ·refine aH c ?_
   exact hj m st1 hB1 m1 (by omega) hs1
 case post =>
  rintro c st' ⟨rfl,hS'⟩
  walk_at "st"
  walk_at "l1"
  have pl:(pendingOf st').size<=a₀.size:=by
   have:=hS'.rn.le
   rw[JR]at this
   omega
  refine wpS_bind (wpS_mono (wpS_forRange (I:=fun x c st3=>c=(none,())/\SI a₀ a₀.size st3/\((pendingOf st3).size<=1∨(pendingOf st3).size+x<=a₀.size)) (Q:=fun c st3=>c=(none,())/\SI a₀ a₀.size st3/\(pendingOf st3).size<=1) ?fstep ?ffin ⟨rfl,hS',.inr pl⟩) ?fpost)
  case ffin =>
   rintro c st3 ⟨rfl,S3,g⟩
   exact⟨rfl,S3,by omega⟩
  case fpost =>
   rintro c st3 ⟨rfl,S3,g⟩
   refine wpS_pure (h st3 S3.perm S3.failed ?_)
   have rn:=S3.rn
   have sz:=S3.size
   have ll:(arrOf st3).toList.length=(arrOf st3).size:=by simp
   have tl:(pendingOf st3).toList.length=(pendingOf st3).size:=by simp
   match e:(pendingOf st3).toList with
   |[] =>
    rw[e]at rn
    have rn':0=a₀.size:=rn
    rw[M0 (show(arrOf st3).toList.length=0 by omega)]
    exact Mh
   |[p] =>
    rw[e]at rn
    obtain⟨r1,_,r3,r4⟩:=rn
    have r4':0+p.2.1=a₀.size:=r4
    rw[r1,LQ,Kg (by omega)]at r3
    exact r3
   |p::q::t =>
    rw[e]at tl
    simp only[J2]at tl
    omega
  case fstep =>
   rintro x c st3 _ hx ⟨rfl,S3,g⟩
   refine wpS_bind (wpS_get ?_)
   by_cases z:((sortPriv% PySem.Builtin.SortState.pending) st3).size<=1
   ·refine aJ z ?_
    exact wpS_pure ⟨rfl,S3,z⟩
   refine aH z ?_
   refine wpS_bind (om h0 S3 (ite_lt _ z) fun st4 S4 p4 _=>wpS_pure ⟨rfl,S4,?_⟩)
   have z':¬ (pendingOf st3).size<=1:=z
   omega
end PyProof.Rows
namespace PyProof.Rows
open PySem
variable{prog:Program}{w:World}{A:Around}{E:Value->Shared->Prop}{s:Shared}
theorem upl_to{xs:Array Keyed}(u:Upl xs.toList):SortedTo xs xs.size:=fun i j hij hj=>by
 have ll:xs.toList.length=xs.size:=by simp
 have hi':i<xs.size:=by omega
 rw[K_eq hi',K_eq hj]
 have:=Dj u (i:=i) (j:=j) (Jp (by omega)) (Jp (by omega)) hij
 simpa[ky] using this
theorem AK{a:Addr}{vs:List Value}{ns:List Int}{n:Nat}{P:Fin->Shared->Prop} (ho:s.heap.get? a=some (seqObj "list" vs.toArray n)) (hI:IntsAre vs ns) (hz:vs.length<=sizeLine)
  (h:∀(out:Array Value)(ns':List Int),IntsAre out.toList ns'->ns'.Perm ns->ns'.Pairwise (·<=·)->P (.done (.ret .none)) { s with heap:=sortedHeap s.heap a vs out }) :
  wpAny (model prog w) A (Builtin.«list.sort» ⟨[.ref a],[]⟩) P E s:=by
 by_cases h64:vs.length<64
 ·exact list_sort_tree ho hI h64 h
 obtain⟨v₁,v₂,rest,e⟩:∃ v₁ v₂ rest,vs=v₁::v₂::rest:=by
  match vs,h64 with
  |[],h64=>exact absurd (by decide) h64
  |[_],h64=>exact absurd (by show 1<64;decide) h64
  |v₁::v₂::rest,_=>exact⟨v₁,v₂,rest,rfl⟩
 have sz:vs.toArray.size=vs.length:=by simp
 have ha:a<s.heap.objs.size:=Heap.lt_size ho
 rw[list_sort_plain]
 refine wpAny_bind (listItems_at ho rfl (wpAny_bind (listUpdate_at ho rfl ?_)))
 obtain⟨e1,ho1⟩:∃ e1,(s.heap.update a (Obj.mapSeq fun _=>#[])).get? a=some (seqObj "list" #[] e1):=⟨_,get?_update_seq ho (fun _=>#[])⟩
 refine wpAny_bind (seqEpoch_at ho1 rfl (wpAny_bind (wpAny_newTuple (wpAny_bind (wpAny_newList (wpAny_holding ?_))))))
 have ho6:(((s.heap.update a (Obj.mapSeq fun _=>#[])).push (seqObj "tuple" vs.toArray 0)).push (seqObj "list" #[] 0)).get? a=some (seqObj "list" #[] e1):=by
  rw[Heap.get?_push_ne _ _ _ (by rw[size_push',Heap.size_update];exact JN (KW ha)),Heap.get?_push_ne _ _ _ (by rw[Heap.size_update];exact JN ha)]
  exact ho1
 show wpAny (model prog w) A _ P E { s with heap:=((s.heap.update a (Obj.mapSeq fun _=>#[])).push (seqObj "tuple" vs.toArray 0)).push (seqObj "list" #[] 0) }
 have n2:¬ vs.toArray.size<2:=by omega
 dsimp only
 rw[if_neg n2,if_neg n2]
 have kk:keyKind' vs.toArray=pure oneType':=by subst e;exact keyKind_ints hI
 rw[kk]
 refine wpAny_bind (wpAny_pure ?_)
 have run:=xC (prog:=prog) (w:=w) (A:=A) (E:=E) (s:={ s with heap:=((s.heap.update a (Obj.mapSeq fun _=>#[])).push (seqObj "tuple" vs.toArray 0)).push (seqObj "list" #[] 0) }) (a₀:=pairsOf vs) (st:=SortSt.mk' oneType' (vs.toArray.zip vs.toArray) #[] 7 none)
  (Q:=fun _ st'=>(arrOf st').Perm (pairsOf vs)/\failedOf st'=none/\Upl (arrOf st').toList) hI.intKeys ⟨Array.Perm.refl _,rfl,rfl,rfl,Ku _⟩ fun st' q1 q2 q3=>⟨q1,q2,q3⟩
 refine wpAny_bind (wpAny_mono run ?_ fun _ _ e=>e)
 rintro⟨⟨⟩,st'⟩ s' ⟨rfl,hp,hf,hu⟩
 dsimp only
 refine wpAny_bind (seqEpoch_at ho6 rfl ?_)
 refine wpAny_bind (listUpdate_at ho6 rfl ?_ (hsz2:=by refine Ky (Nat.le_of_eq ((Array.size_map ..).trans (hp.size_eq.trans (pairsOf_size _)))) ?_;omega))
 rw[hf]
 simp only[bne_self_eq_false,Kt,if_false]
 obtain⟨ns',h1,h2,h3⟩:=sorted_out hI hp (by rw[← hp.size_eq];exact upl_to hu)
 exact wpAny_pure (h _ ns' h1 h2 h3)
end PyProof.Rows
namespace L2
open PySem PySem.Spec PyProof.Rows
section
variable{X:Cx}
end
end L2
namespace L2
open PySem PySem.Spec PyProof.Rows
section
variable{X:Cx}
end
end L2
namespace L2
open PySem PySem.Spec PyProof.Rows
section
variable{prog:Program}{w:World}{A:Around}{E:Value->Shared->Prop}{s:Shared}{z TI TO i1 i2 l1 l2:Addr}{f0:Value}{f1:Bool}
end
section
variable{X:Cx}
end
end L2
namespace L2
open PySem PySem.Spec PyProof.Rows
section
variable{X:Cx}
def rMaxL(K:Js):List V->Hp->VK->Prop:=fun xs H Q=>∃(p:Addr)(ns:List Int),xs = [.ref p]/\SqL K H p (ns.map V.int)/\0<ns.length/\∀ m:Int,m∈ns->(∀ x∈ns,x<=m)->Q (.int m) H
theorem E1(hc:X.calm=true):kY X (.builtin "max") (rMaxL X.K):=by
 intro pins s σ H xs us Q I r h
 obtain⟨p,ns,rfl,hq,hne,q⟩:=h
 obtain⟨u,rfl,ru⟩:=rQ r
 cases ru
 obtain⟨its,rv,pl,hz⟩:=I.list hq
 have hi:=A0 rv
 obtain⟨zs,e⟩:=hi.allInts.items
 have hl:s.heap.IsList p (intItems zs):=by rw[← e];exact pl.isList
 have e1:ns=zs.toList.map (·.1):=by
  rw[← nums_intItems,← e]
  exact(show numsOf its.toArray.toList=ns from hi.numsOf).symm
 subst e1
 rw[Jr,JR]at hne
 refine max_intList (I.ok.hd hc) hl hne fun v h' tk hv hk=>?_
 obtain⟨t,rfl⟩:=intItems_at hv
 obtain⟨h1,h2⟩:=argBest_gt (numAt zs) (zs.size-1)
 refine⟨.int _,H,I.kept (t':=tk) hk,⟨t,rfl⟩,q _ ?_ fun a ha=>?_⟩
 ·rw[numAt_eq];exact PySem.getD_mem (by rw[Jr,JR];omega)
 ·obtain⟨j,hj,rfl⟩:=PySem.mem_getD ha
  rw[Jr,JR]at hj
  rw[← numAt_eq];exact h2 j (by omega)
end
end L2
namespace L2
open PySem PySem.Spec PyProof.Rows
section
variable{prog:Program}{w:World}{A:Around}{E:Value->Shared->Prop}{s:Shared}{d:Addr}
end
section
variable{X:Cx}{pins:List (Addr×Obj)}{σ:St}{H:Hp}{s:Shared}{d:Addr}{u:HO}{o:Obj}
end
section
variable{X:Cx}
end
end L2
namespace L2
open PySem PySem.Spec PyProof.Rows
section
open PySem.W
end
section
open PySem.W
variable{prog:Program}{w:World}{A:Around}{E:Value->Shared->Prop}{s:Shared}
end
section
variable{X:Cx}
end
section
variable{X:Cx}
end
end L2
namespace L2
open PySem PySem.Spec PyProof.Rows
section
variable{prog:Program}{w:World}{K:Type} [DecidableEq K] {knd:KeyKind prog w K} {A:Around} {E:Value->Shared->Prop} {s:Shared}
end
section
variable{X:Cx}{o e f:Expr}{apos cpos:Pos}{td ty tx:TE}
end
section
variable{X:Cx}
end
section
variable{prog:Program}{w:World}{A:Around}{E:Value->Shared->Prop}{s:Shared}{T:String}{r d:Addr}{n:Nat}{P:Nat->Value->Prop}{OK:Heap->Prop}
theorem zZ{Q:List Value->Shared->Prop}(K:PySem.W.KdlSrc prog w T r d n P OK)(hh:A.handled=none)(hok:OK s.heap)(hn:n<=sizeLine)
  (h:∀ h' tk acc',(∀ b o,s.heap.get? b=some o->h'.get? b=some o)->s.heap.objs.size<h'.objs.size->ItemsOf P acc' n->Q acc'.toList { s with heap:=h',toks:=tk }):wpAny (model prog w) A (collect (.ref r)) Q E s:=by
 unfold collect
 refine wpAny_bind (wpAny_runValue (codeAny_builtin entry_proto_collect' ?_))
 show wpAny _ _ (do again (.builtin "list.__iadd__" ⟨[← newList [],.ref r],[]⟩)) _ _ s
 refine wpAny_bind (wpAny_newList (wpAny_pure ⟨Code.quiet_builtin _ (by decide +kernel),codeAny_builtin entry_list_iadd' ?_⟩))
 rw[Around.under_plainId Nu _]
 show wpAny _ A.in1 (Builtin.List.listExtendWith (.ref s.heap.objs.size) (.ref r) (.ref s.heap.objs.size)) _ _ { s with heap:=s.heap.push (seqObj "list" #[] 0) }
 have hlt:=K.there _ hok
 have G:=PySem.W.kdl_extend (A:=A) (R:=fun r s'=>∃ h' tk acc' c',r=.ok (.ret (.ref s.heap.objs.size))/\s'={ s with heap:=h',toks:=tk }/\(∀ b o,b≠s.heap.objs.size->(s.heap.push (seqObj "list" #[] 0)).get? b=some o->h'.get? b=some o)/\h'.get? s.heap.objs.size=some { cls:=.type "list",dict:=none,data:=.seq acc' c',slots:=#[] }/\ItemsOf P acc' n)
  (s:={ s with heap:=s.heap.push (seqObj "list" #[] 0) }) K hh (K.keep _ _ hok fun b _ o e=>Heap.get?_push_of_some _ e) _ (K7 hlt.1) (K7 hlt.2) (.ref s.heap.objs.size) 0 (Heap.get?_push_size _ rfl) (fun h' tk acc' c' hk hS hacc=>⟨h',tk,acc',c',rfl,rfl,hk,hS,hacc⟩) hn
 have fin:∀(r:Result)(s':Shared),(∃ h' tk acc' c',r=.ok (.ret (.ref s.heap.objs.size))/\s'={ s with heap:=h',toks:=tk }/\(∀ b o,b≠s.heap.objs.size->(s.heap.push (seqObj "list" #[] 0)).get? b=some o->h'.get? b=some o)/\h'.get? s.heap.objs.size=some { cls:=.type "list",dict:=none,data:=.seq acc' c',slots:=#[] }/\ItemsOf P acc' n)->∃ v,r=.ok (.ret v)/\v=.ref s.heap.objs.size/\wpAny (model prog w) A (do
   let o ← load s.heap.objs.size
   match o.data with
   |.seq xs _=>pure xs.toList
   |_=>unsupported "internal:collect") Q E s':=fun r s' ⟨h',tk,acc',c',e1,e2,hk,hS,hacc⟩=>⟨_,e1,rfl,by
  subst e2
  refine wpAny_bind (wpAny_load hS ?_)
  exact wpAny_pure (h h' tk acc' (fun b o e=>hk b o (JN (Heap.lt_size e)) (Heap.get?_push_of_some _ e)) (Heap.lt_size hS) hacc)⟩
 refine wpAny_mono G (fun fn s' q=>?_) (fun e s' q=>?_)
 ·cases fn with
  |done f =>
   obtain⟨v,e1,e2,z⟩:=fin _ _ q
   cases e1
   cases e2
   exact z
  |again c =>
   refine⟨q.1,codeAny_mono q.2 fun r s'' q'=>?_⟩
   obtain⟨v,e1,e2,z⟩:=fin _ _ q'
   cases e1
   cases e2
   exact z
 ·obtain⟨v,e1,_⟩:=fin _ _ q
  cases e1
end
section
variable{X:Cx}
def rSortD:List V->Hp->VK->Prop:=fun xs H Q=>∃(d:Addr)(kvs:List (Key×V))(ns:List Int),xs = [.ref d]/\Rd H d (.dK kvs)/\kvs.map (·.1)=ns.map Sum.inl/\∀(l:Addr)(out:List Int),H l=none->out.Perm ns->out.Pairwise (·<=·)->Q (.ref l) (upd H l (.lst (out.map V.int)))
theorem CJ(hc:X.calm=true):kY X (.builtin "sorted") rSortD:=by
 intro pins s σ H xs us Q I r h
 obtain⟨d,kvs,ns,rfl,hd,ek,q⟩:=h
 obtain⟨u,rfl,ru⟩:=rQ r
 cases ru
 obtain⟨hz,lo,vs,rk,hm⟩:=Cq I.hok hd
 obtain⟨ep,hat⟩:=hm.dictAt
 have hl:kvs.length=vs.length:=Paired.length rk
 refine Calls.call_function_entry kind_sorted plain_sorted entry_sorted (args_sorted1 _) ?_
 unfold Builtin.«sorted»
 refine wpAny_bind (m:=checkCount "sorted" 1 1 _) (wpAny_pure ?_)
 refine wpAny_bind (zZ (PySem.W.kdl_dict (knd:=bL X.prog X.w) (kvs:=vs) (ep:=ep) lo) (I.ok.hd hc) hat (by rw[← hl];exact hz) fun h' tk acc' hk hlt hacc=>?_)
 have hvs:Vals (kvs.map fun q=>kV q.1) acc'.toList:=vM (P:=X.prog) (w:=X.w) rk (by rw[JR];exact hacc.1) fun j v ej=>hacc.2 j v (by rw[← KC];exact ej)
 have eks:(kvs.map fun q=>kV q.1)=ns.map V.int:=by
  have:(kvs.map fun q=>kV q.1)=(kvs.map (·.1)).map kV:=by rw[Ly];rfl
  rw[this,ek,Ly]
  rfl
 rw[eks]at hvs
 have hi:=jj hvs
 have hlen:acc'.toList.length<=sizeLine:=by
  rw[JR,hacc.1,← hl];exact hz
 refine wpAny_bind (wpAny_newList ?_ hlen)
 have hoL:(h'.push (seqObj "list" acc'.toList.toArray 0)).get? h'.objs.size=some (seqObj "list" acc'.toList.toArray 0):=Heap.get?_push_size _ rfl
 show wpAny _ _ _ _ _ { s with heap:=h'.push (seqObj "list" acc'.toList.toArray 0),toks:=tk }
 have keepH:∀(out:Array Value)(b:Addr)(o:Obj),s.heap.get? b=some o->(sortedHeap (h'.push (seqObj "list" acc'.toList.toArray 0)) h'.objs.size acc'.toList out).get? b=some o:=fun out b o e=>by
  have e2:=hk b o e
  rw[sortedHeap_old (JN (Heap.lt_size e2)) (by rw[Heap.size_push];exact KW (Heap.lt_size e2))]
  exact Heap.get?_push_of_some _ e2
 have hsz:s.heap.objs.size<=h'.objs.size:=Kk hlt
 refine wpAny_bind (wpAny_holding (wpAny_call_entry slot_list_sort ⟨_,hoL,rfl⟩ entry_list_sort (AK hoL hi hlen fun out ns' a1 a2 a3=>⟨_,rfl,?_⟩) (args_list_sort _)))
 obtain⟨e,he⟩:=sortedHeap_at (out:=out) hoL
 refine wpAny_pure ⟨_,rfl,?_⟩
 refine⟨.ref h'.objs.size,_,I.laid (t':=tk) (keepH out) hsz (show bI X.prog X.w _ _ _ (.lst (ns'.map V.int)) from⟨?_,out.toList,e,rP a1,?_⟩),rfl,q _ ns' (I.hok.fresh hsz) a2 a3⟩
 ·have e1:kvs.length=ns.length:=by
   have:=congrArg M9 ek
   rwa[Jr,Jr]at this
  rw[Jr,a2.length_eq,← e1]
  exact hz
 ·exact he
end
section
variable{prog:Program}{w:World}{A:Around}{E:Value->Shared->Prop}{s:Shared}
end
section
variable{X:Cx}
end
end L2
namespace L2
open PySem PySem.Spec PyProof.Rows
section
variable{prog:Program}{w:World}{A:Around}{E:Value->Shared->Prop}{s:Shared}
abbrev Kp(h h':Heap):Prop:=∀ b o,h.get? b=some o->h'.get? b=some o
end
section
variable{X:Cx}{pins:List (Addr×Obj)}{σ:St}{H:Hp}{s:Shared}{h':Heap}{T:Addr}{ps more:Array Value}{t':Nat}
theorem Inv.tab(I:Inv X pins σ H s)(e:H T=some (.tbl ps))(hx:∀ b o,b≠T->s.heap.get? b=some o->h'.get? b=some o)(hT:h'.get? T=some { cls:=.none,data:=.fields (ps++more) }) :
  Inv X pins σ (upd H T (.tbl (ps++more))) { s with heap:=h',toks:=t' }:=by
 have ne:∀{b:Addr}{o:Option HO},H b=o->o≠some (.tbl ps)->b≠T:=fun q n z=>n (by rw[← q,z,e])
 refine I.un ⟨fun b o g n _ _=>hx b o (ne n (by simp)) g,fun b o g n _ _=>⟨o.slots,hx b o (ne n (by simp)) g⟩,fun b o g n _=>?_,fun b o g _=>?_,fun b xs q=>?_,fun b o u q=>?_,fun b p q=>?_⟩ fun b u q=>?_
 ·rw[ak (ne n (by simp))]
  exact n
 ·by_cases z:b=T
  ·rw[z];exact⟨_,hT⟩
  ·exact⟨o,hx b o z g⟩
 ·rw[ak (ne q (by simp))]
  exact q
 ·rw[ak (ne q (by simp))]
  exact q
 ·by_cases z:b=T
  ·subst z
   rw[e]at q
   cases q
   exact⟨more,ae⟩
  ·exact⟨#[],by rw[ak z,q];simp⟩
 ·by_cases z:b=T
  ·subst z
   rw[ae]at q
   cases q
   exact hT
  ·rw[ak z]at q
   refine(I.hok b u q).stay (fun c o hc g=>hx c o (fun y=>?_) g) (fun c g=>?_) fun c o g=>?_
   ·rcases hc with y2 | y2
    ·exact z (y2▸y)
    ·rw[y,e]at y2;cases y2
   ·rw[ak (ne g (by simp))];exact g
   ·rw[ak (ne g (by simp))];exact g
end
def codO(c:Addr)(q:Str):HO:=.ext fun h=>h.CodeRec (.ref c) q
def Tb(q:Str)(lp:Pos)(T:Addr)(H:Hp):Prop:=H T=some (.tbl #[])∨∃ c,H T=some (.tbl #[rawInt lp.line,rawInt lp.col,.ref c])/\H c=some (codO c q)
def TbS(T:Addr)(H H':Hp):Prop:=∀ b o,b≠T->H b=some o->H' b=some o
abbrev Bm(mg:Str->Option Value)(h:Heap):Prop:=∃ bm o,mg "__builtins__" = some (.ref bm)/\bm≠builtinsNs/\h.get? bm=some o/\o.cls=.type "module"/\o.dict=some builtinsNs/\o.data=.plain
theorem El{P:Program}{w:World}{K:Js}{mg mb:Str->Option Value}{CX:CXT}{k:Nat}{fa a c T:Addr}{fd:FuncData}{x:Str}{sp:Sp}{s:Shared}{vs:List Value}{ns:List Int}
  (KX:K.In s.heap) (hg:s.heap.Ns mainGlobals mg) (hb:s.heap.Ns builtinsNs mb) (hbb:∀ x:Str,x≠"__name__"->mb x=bootBuiltins x) (lim:s.heap.NoLimit) (gens:s.gens=#[])
  (hc:Lu s.heap c T) (hT:s.heap.get? T=some (Ng #[])) (nT:K.lookup T=none) (hbm:Bm mg s.heap)
  (ha:s.heap.get? a=some { cls:=.type "list",data:=.seq vs.toArray }) (hi:IntsAre vs ns) (hl:ns.length<=sizeLine) (hr:Room k callerA)
  (F:∀ base:Heap,K.In base->base.Ns mainGlobals mg->Lu base c T->Bm mg base->FnOk P w K mg base CX k fa fd [x] sp) (bind:∀(s:Shared)(u:Value),BindsTo s fd ⟨[u],[]⟩ [(x,u)])
  (hsp:∀ H:Hp,H T=some (.tbl #[])->SqL K H a (ns.map V.int)->sp [.ref a] H (fun v _=>v=.bl true) fun _ _ _=>False)
  (hCX:∀ H e s',CX [] H s (fun _ _ _=>False) e s'->False) :
  codeAny (model P w) callerA (.call (.ref fa) ⟨[.ref a],[]⟩) (fun r s'=>r=.ok (.ret (.bool true))/\OldK s.heap s'.heap/\s'.os=s.os/\AllBare s'.gens) s:=by
 have rv:=uF hi
 have aT:a≠T:=fun z=>by rw[z,hT]at ha;cases ha
 obtain⟨H,eT,eS,hok,only,frz⟩:∃ H:Hp,H T=some (.tbl #[])/\SqL K H a (ns.map V.int)/\HOk P w H s.heap/\(∀ b,H b≠none->(b=T∨b=a)/\K.lookup b=none)/\(∀ b u,H b=some u->b≠T->∃ o ys,u=.frz o (.lst ys)):=by
  cases hk:K.lookup a with
  |some o =>
   have e:=KX a o hk
   rw[ha]at e
   cases e
   refine⟨upd (fun _=>none) T (.tbl #[]),ae,.inr ⟨_,vs.toArray,_,hk,rfl,rfl,rfl,by rw[JW,hi.length];exact hl,by simpa using rv⟩,fun b u z=>?_,fun b z=>?_,fun b u z n=>?_⟩
   ·by_cases y:b=T
    ·subst y;rw[ae]at z;cases z;exact hT
    ·rw[ak y]at z;cases z
   ·by_cases y:b=T
    ·exact⟨.inl y,y▸nT⟩
    ·rw[ak y]at z;exact absurd rfl z
   ·rw[ak n]at z;cases z
  |none =>
   refine⟨upd (upd (fun _=>none) a (.frz { cls:=.type "list",data:=.seq vs.toArray } (.lst (ns.map V.int)))) T (.tbl #[]),ae,.inl (.inr ⟨{ cls:=.type "list",data:=.seq vs.toArray },by rw[ak aT];exact ae⟩),fun b u z=>?_,fun b z=>?_,fun b u z n=>?_⟩
   ·by_cases y:b=T
    ·subst y;rw[ae]at z;cases z;exact hT
    ·rw[ak y]at z
     by_cases y2:b=a
     ·subst y2;rw[ae]at z;cases z
      exact⟨ha,by rw[Jr];exact hl,vs,_,rv,ha⟩
     ·rw[ak y2]at z;cases z
   ·by_cases y:b=T
    ·exact⟨.inl y,y▸nT⟩
    ·rw[ak y]at z
     by_cases y2:b=a
     ·exact⟨.inr y2,y2▸hk⟩
     ·rw[ak y2]at z;exact absurd rfl z
   ·rw[ak n]at z
    by_cases y2:b=a
    ·subst y2;rw[ae]at z;cases z;exact⟨_,_,rfl⟩
    ·rw[ak y2]at z;cases z
 have un0:∀{b:Addr}{o:Obj},s.heap.get? b=some o->o.cls≠.none->o.cls≠.type "list"->H b=none:=fun{b o} e n1 n2=>by
  cases q:H b with
  |none=>rfl
  |some u =>
   rcases(only b (by rw[q];simp)).1 with z | z
   ·rw[z,hT]at e;cases e;exact absurd rfl n1
   ·rw[z,ha]at e;cases e;exact absurd rfl n2
 have unD:∀{b:Addr}{o:Obj}{es:Array DictEntry}{ep:Nat},s.heap.get? b=some o->o.data=.dict es ep->H b=none:=fun{b o es ep} e d=>by
  cases q:H b with
  |none=>rfl
  |some u =>
   rcases(only b (by rw[q];simp)).1 with z | z
   ·rw[z,hT]at e;cases e;cases d
   ·rw[z,ha]at e;cases e;cases d
 have nsB:∀{b:Addr}{m:Str->Option Value},s.heap.Ns b m->(hidT s.heap H).Ns b m:=fun{b m} ⟨o,es,ep,e,d,r⟩=>⟨o,es,ep,n9 e (unD e d),d,r⟩
 have kB:K.In (hidT s.heap H):=fun b o e=>n9 (KX b o e) (by
  cases q:H b with
  |none=>rfl
  |some u=>rw[(only b (by rw[q];simp)).2]at e;cases e)
 have cB:Lu (hidT s.heap H) c T:=by
  obtain⟨o,v2,file,tf,flags,tg,inF,text,tt,e1,e2,r⟩:=hc
  exact⟨o,v2,file,tf,flags,tg,inF,text,tt,n9 e1 (un0 e1 (by rw[e2];simp) (by rw[e2];simp)),e2,r⟩
 have bB:Bm mg (hidT s.heap H):=by
  obtain⟨bm,o,b1,b2,b3,b4,r⟩:=hbm
  exact⟨bm,o,b1,b2,n9 b3 (un0 b3 (by rw[b4];simp) (by rw[b4];simp)),b4,r⟩
 have md:Mod K mg (hidT s.heap H):=⟨kB,nsB hg,⟨mb,nsB hb,hbb⟩,let ⟨mc,h1,h2⟩:=lim;⟨mc,nsB h1,h2⟩⟩
 have e0:Env0 P w K mg (hidT s.heap H) callerA [] s H:=⟨rfl,md,fun b o e=>Iu e,Nat.le_of_eq (EF _ _),trivial,fun b z=>absurd (show b∈([]:List Addr) from z) (by simp),hok,.of_eq gens⟩
 refine codeAny_mono ((F _ kB (nsB hg) cB bB).run callerA [] s H ⟨[.ref a],[]⟩ [.ref a] [.ref a] _ _ hr e0 (bind s (.ref a)) (.cons rfl .nil) (hsp H eT eS)) fun r s' h=>?_
 cases r with
 |error e=>exact(hCX H e s' h).elim
 |ok fl =>
  cases fl with
  |next=>exact False.elim h
  |brk=>exact False.elim h
  |cont=>exact False.elim h
  |ret u =>
   obtain⟨v,H',os,bare,un,hok',r',q⟩:=h
   have q':v=.bl true:=q
   subst q'
   obtain rfl:u=Value.bool true:=r'
   have nil:∀ b:Addr,b∉frs []:=fun b z=>absurd (show b∈([]:List Addr) from z) (by simp)
   have gT:∃ more,s'.heap.get? T=some { cls:=.none,data:=.fields (#[]++more) }:=by
    obtain⟨more,e⟩:=un.tbls T _ eT
    exact⟨more,hok' T _ e⟩
   have kp:∀ b o,b≠T->s.heap.get? b=some o->s'.heap.get? b=some o:=fun b o n e=>by
    cases q:H b with
    |none=>exact un.keep b o e q (nil b) (by simp)
    |some u =>
     obtain⟨ob,ys,rfl⟩:=frz b u q n
     have z2:=un.frzs b ob _ q
     obtain⟨g1,_⟩:=hok b _ q
     obtain⟨g2,_⟩:=hok' b _ z2
     rw[e]at g1;cases g1
     exact g2
   refine⟨rfl,⟨fun b o e=>?_,fun b o e=>?_⟩,os,bare⟩
   ·by_cases z:b=T
    ·subst z
     rw[hT]at e
     cases e
     obtain⟨more,g⟩:=gT
     exact .inr (.inl ⟨(hc.tab hT).isCodeTable,rfl,#[],more,rfl,g⟩)
    ·exact .inl (kp b o z e)
   ·by_cases z:b=T
    ·subst z
     obtain⟨more,g⟩:=gT
     exact⟨_,g⟩
    ·exact⟨o,kp b o z e⟩
theorem walk_ofT{l:M4}{n k:Nat}{q:Program}{loose:List Str}{XP:(Str->Option Value)->Heap->Prop}{YP:World->Heap->Prop}{d df:DefRec}{K:Params->Js}{CX:CXT}{sp:Js->Addr->Sp}{x fn:Str}
  (hn:l.most=some n) (hn2:n<=sizeLine) (hdf:d.params.defaults = []) (hr:Room k callerA) (hY:∀(w:World)(h:Heap),YP w h->(K w.params).In h)
  (hrec:(recsOf q).find? (fun e=>e.name == fn)=some df)
  (F:∀(w:World)(mg:Str->Option Value)(fa:Addr)(h:Heap),(K w.params).In h->h.Ns mainGlobals mg->mg d.name=some (.ref fa)->∃ fd:FuncData,(∀(s:Shared)(u:Value),BindsTo s fd ⟨[u],[]⟩ [(x,u)]) /\
   ∃ c T,LA (K w.params) fn=some (c,T)/\(K w.params).lookup T=none/\∀ base:Heap,(K w.params).In base->base.Ns mainGlobals mg->Lu base c T->Bm mg base->FnOk l.prog w (K w.params) mg base CX k fa fd [x] (sp (K w.params) T))
  (hsp:∀(K:Js)(T:Addr)(H:Hp)(a:Addr)(ns:List Int),ns.length<=n->H T=some (.tbl #[])->SqL K H a (ns.map V.int)->sp K T [.ref a] H (fun v _=>v=.bl true) fun _ _ _=>False)
  (hCX:∀(H:Hp)(s:Shared)(e:Value)(s':Shared),CX [] H s (fun _ _ _=>False) e s'->False) :
  PySem.W.WalkO q loose XP YP l.row.toRowW d [] (fun f vs=>PySem.call f vs):=by
 refine Att.attach_call hn hdf fun w s₀ s₁ mg mb fa o pm cd doc a vs ns G Y ho hd hcd hmg hobj hints hlen hg=>?_
 have KX:=hY w _ Y
 obtain⟨fd,hb,c,T,ht,nT,hF⟩:=F w mg fa _ KX G.T.g hmg
 obtain⟨t1,t2⟩:=PySem.W.tab_of G.T KX hrec ht
 exact El KX G.T.g G.T.b G.T.builtins G.T.nolimit hg t1 t2 nT G.T.bmain hobj hints (Ky hlen hn2) hr hF hb (fun H h1 h2=>hsp _ T H a ns hlen h1 h2) fun H e s'=>hCX H s₁ e s'
end L2
namespace L2
open PySem PySem.Spec PyProof.Rows
structure LamC(X:Cx)(c T:Addr)(lq:Str)(sc:Scope)(cl:List (Str×Addr)):Prop where
 code:X.env.code=.ref c
 hd:Lu X.base c T
 bm:Bm X.mg X.base
 cl:closureFor sc X.env=pure cl
 q:X.env.qual++"<lambda>" = lq
def tLam(lq:Str)(lp:Pos)(T:Addr)(prm:Arguments)(bd:Expr)(sc:Scope)(cl:List (Str×Addr)):TE:=fun _ H Q=>Tb lq lp T H /\
 ∀(f c':Addr)(pm ctv:Value)(H':Hp),H f=none->TbS T H H'->Tb lq lp T H'->H' c'=some (codO c' lq)->H' f=some (.frz (KZ "<lambda>" lq prm bd sc cl pm c' ctv) (.own f))->Q (.ref f) H'
theorem pe_lam{X:Cx}{c T:Addr}{lq:Str}{lp:Pos}{prm:Arguments}{bd:Expr}{sc:Scope}{cl:List (Str×Addr)}(L:LamC X c T lq sc cl)(hx:X.ex = [])(hdef:defaultsOf prm X.env=([],[]):=by rfl) :
  PE X (.Lambda prm bd sc lp) (tLam lq lp T prm bd sc cl):=by
 intro pins s1 σ H1 Q I1 h
 obtain⟨tb,q⟩:=h
 refine PySem.W.kla_eval hdef ?_
 rw[L.q]
 have bat:s1.heap.BuiltinsAt X.mg T:=by
  obtain⟨bm,o,b1,b2,b3,b4,b5,b6⟩:=L.bm
  obtain⟨o1,es1,ep1,g1,g2,_⟩:=id I1.mod.glob
  have hT:H1 T≠none:=by
   rcases tb with z | ⟨_,z,_⟩<;>rw[z]<;>simp
  refine⟨bm,o,b1,b2,fun z=>?_,fun z=>?_,I1.bk _ _ b3,b4,b5,b6⟩
  ·rw[z,g1]at b3;cases b3;rw[g2]at b6;cases b6
  ·rw[z]at b3;exact hT (I1.bs _ _ b3).2
 have neT:mainGlobals≠T:=fun z=>by
  obtain⟨o1,es1,ep1,g1,g2,_⟩:=id I1.mod.glob
  have:=(I1.bs _ _ g1).2
  rw[z]at this
  rcases tb with y | ⟨_,y,_⟩<;>rw[y]at this<;>cases this
 have nsg:=I1.mod.glob.keeps I1.bk
 rcases tb with hT | ⟨c',hT,hco⟩
 ·have gT:s1.heap.get? T=some (Ng #[]):=I1.hok T _ hT
  refine PySem.W.kla_makeFunction (mg:=X.mg) L.cl I1.ok.glob nsg L.code (L.hd.keeps I1.bk) gT trivial rfl neT bat fun c' ctv h' tk hxt hge hlt hrec htb=>?_
  have cT:c'≠T:=fun z=>by
   have:=Heap.lt_size gT
   rw[← z]at this
   exact absurd this (LU hge)
  have I2:=I1.tab (more:=#[rawInt lp.line,rawInt lp.col,.ref c']) (t':=tk) hT (fun b o n e=>hxt b o n e) (by simpa using htb)
  have e0:(#[]:Array Value)++#[rawInt lp.line,rawInt lp.col,.ref c']=#[rawInt lp.line,rawInt lp.col,.ref c']:=by simp
  rw[e0]at I2
  have fr:s1.heap.get? c'=none:=Heap.get?_none_of_le hge
  have H1c:H1 c'=none:=I1.hok.none_of fr
  obtain⟨c3,oc,vs3,t3,ec,g1,g2,g3⟩:=id hrec
  cases ec
  have I3:=I2.xtrack (a:=c') (o:=codO c' lq) (I1.xok hx fr (by rw[ak cT];exact H1c)) ⟨hrec,⟨oc,g1⟩,fun h1 h2 ⟨c4,o4,v4,t4,z1,z2,z3,z4⟩ kk=>by cases z1;exact⟨_,o4,v4,t4,rfl,kk o4 z2,z3,z4⟩⟩
  have kpsh:Kp h' (h'.push (KZ "<lambda>" lq prm bd sc cl ((X.mg "__name__").getD .none) c' ctv)):=fun b o e=>Heap.get?_push_of_some _ e
  have gf:(h'.push (KZ "<lambda>" lq prm bd sc cl ((X.mg "__name__").getD .none) c' ctv)).get? h'.objs.size=some (KZ "<lambda>" lq prm bd sc cl ((X.mg "__name__").getD .none) c' ctv):=Heap.get?_push_size _ rfl
  have I4:=I3.laid (a:=h'.objs.size) (o:=.frz (KZ "<lambda>" lq prm bd sc cl ((X.mg "__name__").getD .none) c' ctv) (.own h'.objs.size)) (t':=tk) kpsh (Jw _) ⟨gf,⟨_,gf⟩⟩
  have Hf:H1 h'.objs.size=none:=I1.hok.fresh (Ky hge (Kk hlt))
  have fc:h'.objs.size≠c':=Ne.symm (JN hlt)
  have fT:h'.objs.size≠T:=fun z=>by rw[z,hT]at Hf;cases Hf
  refine⟨.ref h'.objs.size,_,I4,rfl,q _ c' _ ctv _ Hf (fun b o n e=>?_) (.inr ⟨c',?_,?_⟩) ?_ ae⟩
  ·rw[ak (fun z=>by rw[z,Hf]at e;cases e),ak (fun z=>by rw[z,H1c]at e;cases e),ak n]
   exact e
  ·rw[ak (Ne.symm fT),ak (Ne.symm cT)];exact ae
  ·rw[ak (Ne.symm fc)];exact ae
  ·rw[ak (Ne.symm fc)];exact ae
 ·have gT:s1.heap.get? T=some (Ng #[rawInt lp.line,rawInt lp.col,.ref c']):=I1.hok T _ hT
  obtain⟨hrec,_,_⟩:=(show bI X.prog X.w H1 s1.heap c' (codO c' lq) from I1.hok c' _ hco)
  refine PySem.W.kla_makeFunctionHit (mg:=X.mg) (cv:=.ref c') L.cl I1.ok.glob nsg L.code (L.hd.keeps I1.bk) gT trivial (by simp[codeAmong,rawInt]) bat fun ctv h' tk kk sz=>?_
  have kpsh:Kp s1.heap (h'.push (KZ "<lambda>" lq prm bd sc cl ((X.mg "__name__").getD .none) c' ctv)):=fun b o e=>Heap.get?_push_of_some _ (kk b o e)
  have gf:(h'.push (KZ "<lambda>" lq prm bd sc cl ((X.mg "__name__").getD .none) c' ctv)).get? h'.objs.size=some (KZ "<lambda>" lq prm bd sc cl ((X.mg "__name__").getD .none) c' ctv):=Heap.get?_push_size _ rfl
  have szl:s1.heap.objs.size<=h'.objs.size:=sz
  have I4:=I1.laid (a:=h'.objs.size) (o:=.frz (KZ "<lambda>" lq prm bd sc cl ((X.mg "__name__").getD .none) c' ctv) (.own h'.objs.size)) (t':=tk) kpsh szl ⟨gf,⟨_,gf⟩⟩
  have Hf:H1 h'.objs.size=none:=I1.hok.fresh szl
  have ne:∀{b:Addr}{o:HO},H1 b=some o->b≠h'.objs.size:=fun e z=>by rw[z,Hf]at e;cases e
  refine⟨.ref h'.objs.size,_,I4,rfl,q _ c' _ ctv _ Hf (fun b o n e=>?_) (.inr ⟨c',?_,?_⟩) ?_ ae⟩
  ·rw[ak (ne e)];exact e
  ·rw[ak (ne hT)];exact hT
  ·rw[ak (ne hco)];exact hco
  ·rw[ak (ne hco)];exact hco
def frzH(cl:List (Str×Addr))(os:Addr->Obj)(H:Hp):Hp:=fun b=>if b∈cl.map (·.2) then some (.frz (os b) (.own b)) else H b
def cutH(cl:List (Str×Addr))(H:Hp):Hp:=fun b=>if b∈cl.map (·.2) then none else H b
theorem pB{cl:List (Str×Addr)}{os:Addr->Obj}{H:Hp}{b:Addr}(h:b∈cl.map (·.2)):frzH cl os H b=some (.frz (os b) (.own b)):=if_pos h
theorem bR{cl:List (Str×Addr)}{os:Addr->Obj}{H:Hp}{b:Addr}(h:b∉cl.map (·.2)):frzH cl os H b=H b:=if_neg h
theorem d6{cl:List (Str×Addr)}{H:Hp}{b:Addr}(h:b∉cl.map (·.2)):cutH cl H b=H b:=if_neg h
def tCallC(N:List Str)(sp:Sp)(dvs:List V)(E:XK)(cl:List (Str×Addr))(t:TA):TE:=fun σ H Q=>t σ H fun vs H1=>∀ os:Addr->Obj,
 (∀ p∈cl,H1 p.2=none/\∃ ov,(os p.2).data=.cell ov/\∀(i:Nat)(v:V),N[i]?=some p.1->σ[i]?=some (some v)->∃ u,ov=some u/\RelV v u)->sp (vs++dvs) (frzH cl os H1) (fun v H'=>Q v (cutH cl H')) E
theorem HS{X:Cx}{k:Nat}{f:Addr}{fd:FuncData}{ps:List Str}{sp:Sp}{dvs:List V}{ds:List Value}{E:XK}{cl:List (Str×Addr)}{pins:List (Addr×Obj)}{σ:St}{H:Hp}{s:Shared}{Q:VK}{us:List Value}{vs:List V}(F:FnOk X.prog X.w X.K X.mg X.base CX0 k f fd ps sp)(hr:Room k X.A)(hb:kZ X.K fd ps ds)(hd:Vals dvs ds)
  (hcl:∀ p∈cl,X.env.cells.lookup p.1=some p.2/\X.fn p.1=true/\X.env.kindOf p.1=some .cell/\Vis X.env.scope p.1) (I:Inv X pins σ H s) (r:Vals vs us)
  (h:∀ os:Addr->Obj,(∀ p∈cl,H p.2=none/\∃ ov,(os p.2).data=.cell ov/\∀(i:Nat)(v:V),X.N[i]?=some p.1->σ[i]?=some (some v)->∃ u,ov=some u/\RelV v u)->sp (vs++dvs) (frzH cl os H) (fun v H'=>Q v (cutH cl H')) E) :
  wpAny (model X.prog X.w) X.A (call (.ref f) us) (EP X pins σ Q) X.xe s:=by
 obtain⟨os,hos⟩:∃ os:Addr->Obj,∀ b o,s.heap.get? b=some o->os b=o:=⟨fun b=>(s.heap.get? b).getD { cls:=.none,data:=.plain },fun b o e=>by show(s.heap.get? b).getD _=o;rw[e];rfl⟩
 have inC:∀ b,b∈cl.map (·.2)->∃ p∈cl,p.2=b:=fun b hb=>by
  obtain⟨p,m,e⟩:=Kb.mp hb
  exact⟨p,m,e⟩
 have hg:∀ b,b∈cl.map (·.2)->s.heap.get? b=some (os b)/\H b=none/\∃ ov,(os b).data=.cell ov:=fun b hb=>by
  obtain⟨p,m,rfl⟩:=inC b hb
  obtain⟨v,o,e1,e2⟩:=I.cell p.1 p.2 (hcl p m).1
  rw[hos _ _ e1]
  exact⟨e1,I.freeC p.1 p.2 (hcl p m).1,v,e2⟩
 have base_out:∀ b o,X.base.get? b=some o->b∉cl.map (·.2):=fun b o e hb=>by
  obtain⟨p,m,rfl⟩:=inC b hb
  have h1:=I.ok.cab p.1 p.2 (hcl p m).2.1 (hcl p m).1
  have h2:=Heap.lt_size e
  have h3:=I.ok.bsz
  exact absurd h2 (LU (Ky h3 h1))
 have e0:=I.env0
 have fr_out:∀ b,b∈frs X.stack->b∉cl.map (·.2):=fun b hb hc=>by
  obtain⟨p,m,rfl⟩:=inC b hc
  have hlc:=(hcl p m).1
  have h1:=I.ok.cab p.1 p.2 (hcl p m).2.1 hlc
  have out:p.2∉frs X.outer:=fun z=>by
   obtain⟨_,o,ho,_⟩:=I.ok.funs.mem z
   exact absurd (Heap.lt_size ho) (LU h1)
  rcases I.ok.stk with z | ⟨z,y⟩
  ·rw[z]at hb;exact out hb
  ·rw[z]at hb
   unfold frs at hb
   rw[L4,y]at hb
   rcases Ju.mp hb with q | q
   ·exact I.cne p.1 p.2 hlc q
   ·exact out q
 have nh:∀{b:Addr}{o:HO},H b=some o->b∉cl.map (·.2):=fun{b o} e hb=>by rw[(hg b hb).2.1]at e;cases e
 have hok2:HOk X.prog X.w (frzH cl os H) s.heap:=fun a o e=>by
  by_cases c:a∈cl.map (·.2)
  ·rw[pB c]at e
   cases e
   exact⟨(hg a c).1,⟨_,(hg a c).1⟩⟩
  ·rw[bR c]at e
   exact(I.hok a o e).stay (fun _ _ _ z=>z) (fun b z=>by rw[bR (nh z)];exact z) fun b xs z=>by rw[bR (nh z)];exact z
 have e1:Env0 X.prog X.w X.K X.mg X.base X.A X.stack s (frzH cl os H):=⟨e0.frames,e0.mod,fun b o e=>⟨(e0.bs b o e).1,by rw[bR (base_out b o e)];exact(e0.bs b o e).2⟩,e0.bsz,e0.funs,fun b z=>by rw[bR (fr_out b z)];exact e0.frf b z,hok2,e0.bare⟩
 have hp:∀ p∈cl,H p.2=none/\∃ ov,(os p.2).data=.cell ov/\∀(i:Nat)(v:V),X.N[i]?=some p.1->σ[i]?=some (some v)->∃ u,ov=some u/\RelV v u:=fun p m=>by
  obtain⟨g1,g2,ov,g3⟩:=hg p.2 (Kb.mpr ⟨p,m,rfl⟩)
  refine⟨g2,ov,g3,fun i v e2 e3=>?_⟩
  obtain⟨mm,hn,hl⟩:=I.loc
  obtain⟨u,ru,lk⟩:=hl i p.1 v e2 e3 (hcl p m).2.2.2
  rcases lk with⟨kl,_⟩ | ⟨_,c2,ec,o2,z1,z2⟩
  ·rw[(hcl p m).2.2.1]at kl;cases kl
  ·rw[(hcl p m).1]at ec
   cases ec
   rw[g1]at z1
   cases z1
   rw[g3]at z2
   cases z2
   exact⟨u,rfl,ru⟩
 have hs:=h os hp
 have r2:Vals (vs++dvs) (us++ds):=r.append hd
 have hl:(us++ds).length=ps.length:=by rw[← r2.length];exact F.len _ _ _ _ hs
 refine wpAny_call (codeAny_mono (F.run X.A X.stack s (frzH cl os H) ⟨us,[]⟩ (us++ds) (vs++dvs) _ E hr e1 (hb s us I.kIn hl) r2 hs) fun r s' hq=>?_)
 cases r with
 |error e=>exact False.elim hq
 |ok fl =>
  cases fl with
  |next=>exact False.elim hq
  |brk=>exact False.elim hq
  |cont=>exact False.elim hq
  |ret u =>
   obtain⟨v,H',eos,bare,un,hok',r',q⟩:=hq
   have fz:∀ b,b∈cl.map (·.2)->H' b=some (.frz (os b) (.own b)):=fun b hb=>un.frzs b _ _ (pB hb)
   have nh':∀{b:Addr}{o:HO},H' b=some o->(∀ u w,o≠.frz u w)->b∉cl.map (·.2):=fun{b o} e n hb=>by rw[fz b hb]at e;cases e;exact n _ _ rfl
   refine I.after ⟨v,cutH cl H',eos,bare,⟨fun b o e n hb hx=>?_,fun b o e n hb hx=>?_,fun b o e n hx=>?_,un.there,fun b xs e=>?_,fun b o u e=>?_,fun b ps e=>?_⟩,fun a o e=>?_,r',q⟩
   ·by_cases c:b∈cl.map (·.2)
    ·obtain⟨g,_⟩:=hok' b _ (fz b c)
     rw[hos b o e]at g
     exact g
    ·exact un.keep b o e (by rw[bR c];exact n) hb hx
   ·exact un.slot b o e (by rw[bR (fr_out b hb)];exact n) hb hx
   ·by_cases c:b∈cl.map (·.2)
    ·exact if_pos c
    ·rw[d6 c]
     exact un.free b o e (by rw[bR c];exact n) hx
   ·rw[d6 (nh e)];exact un.tups b xs (by rw[bR (nh e)];exact e)
   ·rw[d6 (nh e)];exact un.frzs b o u (by rw[bR (nh e)];exact e)
   ·rw[d6 (nh e)];exact un.tbls b ps (by rw[bR (nh e)];exact e)
   ·by_cases c:a∈cl.map (·.2)
    ·have:cutH cl H' a=none:=if_pos c
     rw[this]at e;cases e
    ·rw[d6 c]at e
     exact(hok' a o e).stay (fun _ _ _ z=>z) (fun b z=>by rw[d6 (nh' z fun _ _ y=>by cases y)];exact z) fun b xs z=>by rw[d6 (nh' z fun _ _ y=>by cases y)];exact z
theorem FP{X:Cx}{k:Nat}{f:Addr}{fd:FuncData}{ps:List Str}{sp:Sp}{dvs:List V}{ds:List Value}{E:XK}{x:Str}{p pos:Pos}{e:Expr}{es:List Expr}{t:TA}{cl:List (Str×Addr)}
  (hcl:∀ p∈cl,X.env.cells.lookup p.1=some p.2/\X.fn p.1=true/\X.env.kindOf p.1=some .cell/\Vis X.env.scope p.1)
  (F:FnOk X.prog X.w X.K X.mg X.base CX0 k f fd ps sp) (hr:Room k X.A) (hg:Gl X x) (hm:X.mg x=some (.ref f)) (hk:JG X.K (.ref f)=true) (hb:kZ X.K fd ps ds) (hd:Vals dvs ds)
  (ha:PA X (e::es) t) (hdb:(x == ("__debug__" : Str))=false:=by decide) (he:starEach (e::es) X.env=(false,eval e X.env)::starEach es X.env:=by rfl) (hpl:(backTo pos (starEach es X.env)).any (·.1)=false:=by rfl) :
  PE X (.Call (.Name x p) (e::es) [] pos) (tCallC X.N sp dvs E cl t):=by
 intro pins s σ H Q I h
 refine wpAny_Call_Name_kw (tF I hg hm ?_ hdb)
 refine L9 (h₀:=X.base) I.ok.mod.kin hk (thn (ha pos pins s σ H _ I h) fun us s1 ⟨vs,H1,I1,r,q⟩=>⟨I1.kIn,?_⟩) he hpl
 exact HS F hr hb hd hcl I1 r q
abbrev zf(p q:Pos):Arguments:={ posonlyargs:=[],args:=[{ arg:="here",annotation:=none,pos:=p },{ arg:="there",annotation:=none,pos:=q }],vararg:=none,kwonlyargs:=[],kw_defaults:=[],kwarg:=none,defaults:=[] }
abbrev ltSc:Scope:={ kind:=.function,names:=[("here",.local),("there",.local),("costs",.free),("height",.free)],isGenerator:=false,isCoroutine:=false,more:=[] }
abbrev ltBd(p1 p2 p3 p4 p5:Pos):Expr:=.Compare (.Subscript (.Name "costs" p1) (.Name "there" p2) p3) [.Lt] [.Name "height" p4] p5
section
variable{prog:Program}{w:World}{A:Around}{E:Value->Shared->Prop}{s:Shared}
theorem lt_run{f c' ct ch t:Addr}{qual:Str}{q0 q1 p1 p2 p3 p4 p5:Pos}{pm ctv hv:Value}{its:Array Value}{k n z:Int}{tk tn tz:Tok}{Q:Value->Shared->Prop}
  (hroom:A.depth<recursionLimit) (hf:s.heap.get? f=some (KZ "<lambda>" qual (zf q0 q1) (ltBd p1 p2 p3 p4 p5) ltSc [("height",ch),("costs",ct)] pm c' ctv)) (hcr:s.heap.CodeRec (.ref c') qual) (lim:s.heap.NoLimit)
  (hc:s.heap.IsCell ct (some (.ref t))) (hh:s.heap.IsCell ch (some (.int z tz))) (hl:s.heap.IsList t its) (k0:0<=k) (k63:k<2^63) (hit:its[k.toNat]?=some (.int n tn))
  (hQ:∀ h' tk',(∀ b o,s.heap.get? b=some o->h'.get? b=some o)->Q (.bool (decide (n<z))) { s with heap:=h',toks:=tk' }) :
  wpAny (model prog w) A (call (.ref f) [hv,.int k tk]) Q E s:=by
 refine wpAny_call (PySem.W.kla_callFunE hroom hf rfl rfl rfl rfl hcr ?_)
 have hb:bindArgs (PySem.W.kla_fn "<lambda>" qual (zf q0 q1) (ltBd p1 p2 p3 p4 p5) ltSc [("height",ch),("costs",ct)] pm (.ref c') ctv) ⟨[hv,.int k tk],[]⟩=(pure [(("here" : Str),hv),(("there" : Str),Value.int k tk)]:Sem (List (Str×Value))):=rfl
 rw[hb]
 refine wpAny_pure (wpAny_newFunctionEnv (fun x hx=>?_) (fun x hx=>?_) (fun h1 hns hsb=>?_) rfl)
 ·have hx':x=(("here" : Str),NameKind.local)∨x=(("there" : Str),NameKind.local)∨x=(("costs" : Str),NameKind.free)∨x=(("height" : Str),NameKind.free):=by simpa using hx
  rcases hx' with rfl | rfl | rfl | rfl<;>exact fun z=>by cases z
 ·have hx':x=(("here" : Str),hv)∨x=(("there" : Str),Value.int k tk):=by simpa using hx
  rcases hx' with rfl | rfl<;>rfl
 have kp:∀ b o,s.heap.get? b=some o->h1.get? b=some o:=fun b o e=>hsb.extBut b o (JN (Heap.lt_size e)) (Heap.get?_push_of_some _ e)
 refine⟨lim.keeps kp,PySem.W.kla_codeExpr ?_⟩
 refine wpAny_Compare1 ?_ rfl
 refine Subscript_ (wpAny_Name (wpAny_loadName_free (c:=ct) rfl rfl rfl (hc.keeps kp) ?_))
 refine wpAny_Name (wpAny_loadName_local rfl rfl hns rfl ?_)
 refine item_listR (hl.at fun o e=>kp _ _ e) k0 k63 hit ?_
 exact wpAny_Name (wpAny_loadName_free (c:=ch) rfl rfl rfl (hh.keeps kp) (lt_int (hQ _ _ kp)))
end
def Ay(lq:Str)(H:Hp)(f:Addr)(cs:List Int)(z:Int):Prop:=∃(c' ct ch q:Addr)(pm ctv:Value)(oc oh:Obj)(q0 q1 p1 p2 p3 p4 p5:Pos),H f=some (.frz (KZ "<lambda>" lq (zf q0 q1) (ltBd p1 p2 p3 p4 p5) ltSc [("height",ch),("costs",ct)] pm c' ctv) (.own f))/\H c'=some (codO c' lq) /\
 H ct=some (.frz oc (.own ct))/\oc.data=.cell (some (.ref q))/\H ch=some (.frz oh (.own ch))/\(∃ tz,oh.data=.cell (some (.int z tz)))/\H q=some (.lst (cs.map V.int))
theorem Ay.mono{lq:Str}{H H':Hp}{f:Addr}{cs:List Int}{z:Int}(h:Ay lq H f cs z)(s:Same H H'):Ay lq H' f cs z:=by
 obtain⟨c',ct,ch,q,pm,ctv,oc,oh,q0,q1,p1,p2,p3,p4,p5,a1,a2,a3,a4,a5,a6,a7⟩:=h
 exact⟨c',ct,ch,q,pm,ctv,oc,oh,q0,q1,p1,p2,p3,p4,p5,s _ _ a1,s _ _ a2,s _ _ a3,a4,s _ _ a5,a6,s _ _ a7⟩
def tLetLt(lq:Str)(i:Nat)(t:TA):TE:=fun σ H Q=>∃ f,σ[i]?=some (some (.ref f))/\(∃ cs z,Ay lq H f cs z)/\t σ H fun vs H1=>∃(x:V)(k:Nat)(cs:List Int)(n z:Int),vs = [x,.int (k:Int)]/\Ay lq H1 f cs z/\cs[k]?=some n/\Q (.bl (decide (n<z))) H1
theorem ld_loc{X:Cx}{E:Value->Shared->Prop}{pins:List (Addr×Obj)}{s:Shared}{σ:St}{H:Hp}{i:Nat}{x:Str}{f:Addr}{pos:Pos}{Q:Value->Shared->Prop}(I:Inv X pins σ H s)(hN:X.N[i]?=some x)(hv:Vis X.env.scope x)(e:σ[i]?=some (some (.ref f)))(h:Q (.ref f) s)
  (hd:(x == ("__debug__" : Str))=false:=by decide) (hcd:(x == ("__classdict__" : Str))=false:=by decide):wpAny (model X.prog X.w) X.A (eval (.Name x pos) X.env) Q E s:=by
 obtain⟨m,hn,hl⟩:=I.loc
 obtain⟨u,r,l⟩:=hl i x _ hN e hv
 cases r
 rcases l with⟨hk,hm⟩ | ⟨hk,c,hc,hcell⟩
 ·exact wpAny_Name (wpAny_loadName_local I.ok.kind hk hn hm h) hd
 ·rcases hk with hk | hk
  ·exact wpAny_Name (wpAny_loadName_cell I.ok.kind hk hc hcell h) hd
  ·exact wpAny_Name (wpAny_loadName_free I.ok.kind hk hc hcell h hcd) hd
theorem IP{P:Program}{w:World}{H:Hp}{h:Heap}{q:Addr}{cs:List Int}(hok:HOk P w H h)(e:H q=some (.lst (cs.map V.int))):∃ its:Array Value,h.IsList q its/\cs.length<=sizeLine/\∀(k:Nat)(n:Int),cs[k]?=some n->∃ t,its[k]?=some (.int n t):=by
 obtain⟨hz,its,ncap,rv,hgl⟩:=hok q _ e
 refine⟨its.toArray,⟨_,hgl,rfl,_,rfl⟩,by rw[Jr]at hz;exact hz,fun k n hk=>?_⟩
 obtain⟨wv,hwv,rwv⟩:=rv.get (show(cs.map V.int)[k]?=some (.int n) by rw[Jy,hk];rfl)
 obtain⟨tn,rfl⟩:=rwv
 exact⟨tn,by simpa using hwv⟩
theorem FN{X:Cx}{lq x:Str}{i:Nat}{np pos:Pos}{e:Expr}{es:List Expr}{t:TA}(hN:X.N[i]?=some x)(hv:Vis X.env.scope x)(hr:Room 0 X.A)(ha:PA X (e::es) t)
  (hd:(x == ("__debug__" : Str))=false:=by decide) (hcd:(x == ("__classdict__" : Str))=false:=by decide) (he:starEach (e::es) X.env=(false,eval e X.env)::starEach es X.env:=by rfl) (hpl:(backTo pos (starEach es X.env)).any (·.1)=false:=by rfl) :
  PE X (.Call (.Name x np) (e::es) [] pos) (tLetLt lq i t):=by
 intro pins s σ H Q I h
 obtain⟨f,hf,⟨cs0,z0,hl0⟩,h⟩:=h
 refine wpAny_Call_Name_kw (ld_loc I hN hv hf ?_ hd hcd)
 have fnat:∀{H2:Hp}{s2:Shared}{cs:List Int}{z:Int},Inv X pins σ H2 s2->Ay lq H2 f cs z->PySem.W.FnAt f s2.heap:=fun I2 ⟨_,_,_,_,_,_,_,_,_,_,_,_,_,_,_,a1,_⟩=>by
  obtain⟨g,_⟩:=I2.hok f _ a1
  exact⟨_,_,_,_,g⟩
 refine PySem.W.callWith_F (fnat I hl0) (thn (ha pos pins s σ H _ I h) fun us s1 ⟨vs,H1,I1,r,q⟩=>?_) he hpl
 obtain⟨xv,k,cs,n,z,rfl,hl,hn,q⟩:=q
 refine⟨fnat I1 hl,?_⟩
 obtain⟨c',ct,ch,qq,pm,ctv,oc,oh,q0,q1,p1,p2,p3,p4,p5,a1,a2,a3,a4,a5,⟨tz,a6⟩,a7⟩:=hl
 cases r with
 |cons r0 r =>
  cases r with
  |cons r1 r =>
   cases r
   obtain⟨tk,rfl⟩:=r1
   obtain⟨g1,_⟩:=I1.hok f _ a1
   obtain⟨g2,_,_⟩:=(show bI X.prog X.w H1 s1.heap c' (codO c' lq) from I1.hok c' _ a2)
   obtain⟨g3,_⟩:=I1.hok ct _ a3
   obtain⟨g4,_⟩:=I1.hok ch _ a5
   obtain⟨its,w1,w2,w3⟩:=IP I1.hok a7
   obtain⟨tn,hit⟩:=w3 k n hn
   have kl:k<cs.length:=(Jo.mp hn).1
   have l63:=qZ
   refine lt_run (f:=f) (c':=c') (t:=qq) ?_ g1 g2 I1.nolimit ⟨oc,g3,a4⟩ ⟨oh,g4,a6⟩ w1 (by omega) (by omega) (by rw[JC];exact hit) fun h' tk' kk=>⟨.bl (decide (n<z)),H1,I1.kept kk,rfl,q⟩
   have:=hr.dp
   show X.A.depth<recursionLimit
   omega
end L2
namespace PyProof.RowsP
open PySem PyProof.Rows
local macro_rules | `(tactic| walk_at "gallop") => do
 let n:=Lean.mkIdent (Lean.mkPrivateNameCore `PySem.Builtin.List.W1All `PySem.Builtin.gallop)
 `(tactic| delta $n)
local macro_rules | `(tactic| walk_at "st") => `(tactic| try dsimp -zeta -zetaHave only)
local macro_rules | `(tactic| walk_at "l4") => `(tactic| (extract_lets -underBinder +onlyGivenNames a b; subst a b))
end PyProof.RowsP
namespace PyProof.RowsP
open PySem PyProof.Rows
local macro_rules | `(tactic| walk_at "setG") => do
 let n:=Lean.mkIdent (Lean.mkPrivateNameCore `PySem.Builtin.List.W1All `PySem.Builtin.setMinGallop)
 `(tactic| delta $n)
local macro_rules | `(tactic| walk_at "mergeLo") => do
 let n:=Lean.mkIdent (Lean.mkPrivateNameCore `PySem.Builtin.List.W1All `PySem.Builtin.mergeLo)
 `(tactic| delta $n)
local macro_rules | `(tactic| walk_at "st") => `(tactic| try dsimp -zeta -zetaHave only)
local macro_rules | `(tactic| walk_at "l3") => `(tactic| (extract_lets -underBinder +onlyGivenNames a b c; subst a b c))
local macro_rules | `(tactic| walk_at "l11") => `(tactic| (extract_lets -underBinder +onlyGivenNames a b c d e f g h i j k; subst a b c d e f g h i j k; dsimp -zeta -zetaHave only))
end PyProof.RowsP
namespace PyProof.RowsP
open PySem PyProof.Rows
local macro_rules | `(tactic| walk_at "mergeHi") => do
 let n:=Lean.mkIdent (Lean.mkPrivateNameCore `PySem.Builtin.List.W1All `PySem.Builtin.mergeHi)
 `(tactic| delta $n)
local macro_rules | `(tactic| walk_at "st") => `(tactic| try dsimp -zeta -zetaHave only)
local macro_rules | `(tactic| walk_at "l3") => `(tactic| (extract_lets -underBinder +onlyGivenNames a b c; subst a b c))
local macro_rules | `(tactic| walk_at "l11") => `(tactic| (extract_lets -underBinder +onlyGivenNames a b c d e f g h i j k; subst a b c d e f g h i j k; dsimp -zeta -zetaHave only))
end PyProof.RowsP
namespace PyProof.RowsP
open PySem PyProof.Rows
local macro_rules | `(tactic| walk_at "countRun") => do
 let n:=Lean.mkIdent (Lean.mkPrivateNameCore `PySem.Builtin.List.W1All `PySem.Builtin.countRun)
 `(tactic| delta $n)
local macro_rules | `(tactic| walk_at "binarySort") => do
 let n:=Lean.mkIdent (Lean.mkPrivateNameCore `PySem.Builtin.List.W1All `PySem.Builtin.binarySort)
 `(tactic| delta $n)
local macro_rules | `(tactic| walk_at "st") => `(tactic| try dsimp -zeta -zetaHave only)
local macro_rules | `(tactic| walk_at "l3") => `(tactic| (extract_lets -underBinder +onlyGivenNames a b c; subst a b c))
local macro_rules | `(tactic| walk_at "l11") => `(tactic| (extract_lets -underBinder +onlyGivenNames a b c d e f g h i j k; subst a b c d e f g h i j k; dsimp -zeta -zetaHave only))
local macro_rules | `(tactic| walk_at "l1") => `(tactic| (extract_lets -underBinder +onlyGivenNames a; subst a; try dsimp -zeta -zetaHave only))
local macro_rules | `(tactic| walk_at "l2") => `(tactic| (extract_lets -underBinder +onlyGivenNames a b; subst a b; try dsimp -zeta -zetaHave only))
local macro_rules | `(tactic| walk_at "l4") => `(tactic| (extract_lets -underBinder +onlyGivenNames a b c d; subst a b c d; try dsimp -zeta -zetaHave only))
end PyProof.RowsP
namespace PyProof.RowsP
open PySem PyProof.Rows
local macro_rules | `(tactic| walk_at "mergeAt") => do
 let n:=Lean.mkIdent (Lean.mkPrivateNameCore `PySem.Builtin.List.W1All `PySem.Builtin.mergeAt)
 `(tactic| delta $n)
local macro_rules | `(tactic| walk_at "st") => `(tactic| try dsimp -zeta -zetaHave only)
local macro_rules | `(tactic| walk_at "l3") => `(tactic| (extract_lets -underBinder +onlyGivenNames a b c; subst a b c))
local macro_rules | `(tactic| walk_at "l11") => `(tactic| (extract_lets -underBinder +onlyGivenNames a b c d e f g h i j k; subst a b c d e f g h i j k; dsimp -zeta -zetaHave only))
local macro_rules | `(tactic| walk_at "l1") => `(tactic| (extract_lets -underBinder +onlyGivenNames a; subst a; try dsimp -zeta -zetaHave only))
local macro_rules | `(tactic| walk_at "l2") => `(tactic| (extract_lets -underBinder +onlyGivenNames a b; subst a b; try dsimp -zeta -zetaHave only))
local macro_rules | `(tactic| walk_at "l4") => `(tactic| (extract_lets -underBinder +onlyGivenNames a b c d; subst a b c d; try dsimp -zeta -zetaHave only))
end PyProof.RowsP
namespace PyProof.RowsP
open PySem PyProof.Rows
local macro_rules | `(tactic| walk_at "sortRuns") => do
 let n:=Lean.mkIdent (Lean.mkPrivateNameCore `PySem.Builtin.List.W1All `PySem.Builtin.sortRuns)
 `(tactic| delta $n)
local macro_rules | `(tactic| walk_at "st") => `(tactic| try dsimp -zeta -zetaHave only)
local macro_rules | `(tactic| walk_at "l3") => `(tactic| (extract_lets -underBinder +onlyGivenNames a b c; subst a b c))
local macro_rules | `(tactic| walk_at "l11") => `(tactic| (extract_lets -underBinder +onlyGivenNames a b c d e f g h i j k; subst a b c d e f g h i j k; dsimp -zeta -zetaHave only))
local macro_rules | `(tactic| walk_at "l1") => `(tactic| (extract_lets -underBinder +onlyGivenNames a; subst a; try dsimp -zeta -zetaHave only))
local macro_rules | `(tactic| walk_at "l2") => `(tactic| (extract_lets -underBinder +onlyGivenNames a b; subst a b; try dsimp -zeta -zetaHave only))
local macro_rules | `(tactic| walk_at "l4") => `(tactic| (extract_lets -underBinder +onlyGivenNames a b c d; subst a b c d; try dsimp -zeta -zetaHave only))
end PyProof.RowsP
namespace L2
open PySem PySem.Spec PyProof.Rows
theorem GW{xs:Array Nat}{j:Nat}(hs:xs.toList.Pairwise (· < ·)):∀(fuel lo hi:Nat),hi-lo<=fuel->lo<=hi->hi<=xs.size->(∀ i,i<lo->xs.getD i j<j)->(∀ i,hi<=i->i<xs.size->j<=xs.getD i j) ->
  (∀ i,i<SetTable.below.go xs j fuel lo hi->xs.getD i j<j)/\(∀ i,SetTable.below.go xs j fuel lo hi<=i->i<xs.size->j<=xs.getD i j)/\SetTable.below.go xs j fuel lo hi<=xs.size:=by
 have up:∀ a b,a<b->b<xs.size->xs.getD a j<xs.getD b j:=fun a b hab hb=>by
  have ha:a<xs.size:=Lp hab hb
  have:=Kw.mp hs a b (by simpa using ha) (by simpa using hb) hab
  simpa[MA,ha,hb] using this
 intro fuel
 induction fuel with
 |zero =>
  intro lo hi h1 h2 h3 h4 h5
  have:lo=hi:=by omega
  subst this
  exact⟨h4,h5,h3⟩
 |succ fuel ih =>
  intro lo hi h1 h2 h3 h4 h5
  unfold SetTable.below.go
  by_cases c:lo<hi
  ·rw[if_pos c]
   have m1:lo<=(lo+hi)/2:=by omega
   have m2:(lo+hi)/2<hi:=by omega
   dsimp only
   by_cases d:xs.getD ((lo+hi)/2) j<j
   ·rw[if_pos d]
    refine ih _ _ (by omega) (by omega) h3 (fun i hi'=>?_) h5
    by_cases e:i=(lo+hi)/2
    ·rw[e];exact d
    ·exact Lp (up i _ (by omega) (by omega)) d
   ·rw[if_neg d]
    refine ih _ _ (by omega) (by omega) (by omega) h4 fun i hi' hl=>?_
    by_cases e:i=(lo+hi)/2
    ·rw[e];omega
    ·have:=up _ i (show(lo+hi)/2<i by omega) hl
     omega
  ·rw[if_neg c]
   have:lo=hi:=by omega
   subst this
   exact⟨h4,h5,h3⟩
theorem Bs{xs:Array Nat}(hs:xs.toList.Pairwise (· < ·))(j:Nat):(∀ i,i<SetTable.below xs j->xs.getD i j<j)/\(∀ i,SetTable.below xs j<=i->i<xs.size->j<=xs.getD i j)/\SetTable.below xs j<=xs.size :=
 GW hs xs.size 0 xs.size (by omega) (Ku _) (Jw _) (fun i h=>absurd h (Ln _)) fun i h1 h2=>absurd h2 (by omega)
def SetT(t:SetTable):Prop:=t.place.toList.Pairwise (· < ·)/\t.dummies=#[]
theorem SetT.fresh(a b:Nat)(led:Bool):SetT (.fresh a b led):=⟨Mh,rfl⟩
theorem SetT.standIn(t:SetTable)(n:Nat):SetT (t.standIn n):=⟨by
 show(Array.range n).toList.Pairwise (· < ·)
 rw[Array.toList_range]
 exact List.pairwise_lt_range,rfl⟩
theorem EH(j:Nat):SetTable.has #[] j=false:=by
 unfold SetTable.has
 simp
theorem SetT.put{t:SetTable}(h:SetT t){j:Nat}(hj:t.slot j=.empty):SetT (t.put j).1:=by
 obtain⟨hs,hd⟩:=h
 obtain⟨b1,b2,b3⟩:=Bs hs j
 have ne:t.place[SetTable.below t.place j]?≠some j:=fun z=>by
  unfold SetTable.slot at hj
  dsimp only at hj
  rw[z]at hj
  simp at hj
 refine⟨?_,?_⟩
 ·show(SetTable.insertAt t.place (SetTable.below t.place j) j).toList.Pairwise (· < ·)
  rw[SetTable.toList_insertAt]
  have lt1:∀ a∈t.place.toList.take (SetTable.below t.place j),a<j:=fun a ha=>by
   obtain⟨i,hi⟩:=Kd.mp ha
   have il:i<SetTable.below t.place j:=by
    have:=(Jo.mp hi).1
    rw[JP]at this
    omega
   rw[Ll,if_pos il]at hi
   have:=b1 i il
   rw[KC]at hi
   rw[L6,hi]at this
   exact this
  have lt2:∀ b∈t.place.toList.drop (SetTable.below t.place j),j<b:=fun b hb=>by
   obtain⟨i,hi⟩:=Kd.mp hb
   rw[Lc,KC]at hi
   have il:SetTable.below t.place j+i<t.place.size:=by
    obtain⟨z,_⟩:=Nf.mp hi
    exact z
   have h1:=b2 _ (Nat.le_add_right _ i) il
   rw[L6,hi]at h1
   have h1':j<=b:=h1
   rcases Nat.lt_or_ge j b with z | z
   ·exact z
   ·have e:b=j:=by omega
    subst e
    by_cases i0:i=0
    ·subst i0;exact absurd hi ne
    ·have h0:=b2 (SetTable.below t.place b) (Jw _) (by omega)
     have:=Kw.mp hs (SetTable.below t.place b) (SetTable.below t.place b+i) (by simp;omega) (by simpa using il) (by omega)
     obtain⟨z1,z2⟩:=Nf.mp hi
     have q1:t.place.getD (SetTable.below t.place b) b=t.place[SetTable.below t.place b]'(by omega):=by rw[L6,KR];rfl
     rw[q1]at h0
     simp only[Array.getElem_toList]at this
     rw[z2]at this
     omega
  refine Kx.mpr ⟨hs.sublist (List.take_sublist _ _),Ma.mpr ⟨lt2,hs.sublist (List.drop_sublist _ _)⟩,fun a ha b hb=>?_⟩
  rcases Ju.mp hb with z | z
  ·rw[z];exact lt1 a ha
  ·exact Lp (lt1 a ha) (lt2 b z)
 ·show(if SetTable.has t.dummies j=true then SetTable.eraseAt t.dummies (SetTable.below t.dummies j) else t.dummies)=#[]
  rw[hd,EH,if_neg JZ]
theorem FG{t:SetTable}{f:Nat->Int}{h:Int}(hd:t.dummies=#[]):∀(fuel:Nat)(p:SetTable.Probe),p.dummy=none->∀ j d,SetTable.probe.go t f h fuel p=some (.empty j d)->t.slot j=.empty/\d=none:=by
 intro fuel
 have nd:∀ j,t.slot j≠.dummy:=fun j z=>by
  unfold SetTable.slot at z
  rw[hd,EH]at z
  simp only[Kt,if_false]at z
  split at z<;>cases z
 induction fuel with
 |zero=>intro p _ j d e;cases e
 |succ fuel ih =>
  intro p hp j d e
  have adv:(t.advance p).dummy=none:=by
   unfold SetTable.advance
   split<;>exact hp
  unfold SetTable.probe.go at e
  split at e
  ·rename_i hs
   cases e
   exact⟨hs,hp⟩
  ·rename_i hs
   exact absurd hs (nd _)
  ·split at e
   ·cases e
   ·exact ih _ adv j d e
theorem SetT.layNew{t:SetTable}(h:SetT t)(es:Array (Int×Value))(hh:Int)(x:Value):SetT (layNew t es hh x).2.1/\(layNew t es hh x).2.1.led=t.led:=by
 unfold PySem.layNew
 split
 ·rename_i slot wd e
  unfold SetTable.freeSlot at e
  split at e
  ·rename_i j dm e2
   obtain⟨z1,z2⟩:=FG h.2 _ _ rfl j dm e2
   subst z2
   have e3:(j,false)=(slot,wd):=JL e
   cases e3
   dsimp only
   unfold SetTable.orStandIn
   split
   ·exact⟨h.put z1,rfl⟩
   ·exact⟨SetT.standIn _ _,rfl⟩
  ·cases e
 ·exact⟨SetT.standIn _ _,rfl⟩
theorem zE(n:Nat)(g:Nat->Option Nat):(((KO n).filterMap fun j=>(g j).map (j,·)).map (·.1)).Pairwise (· < ·):=by
 have:((KO n).filterMap fun j=>(g j).map (j,·)).map (·.1)=(KO n).filter fun j=>(g j).isSome:=by
  induction (KO n) with
  |nil=>rfl
  |cons a l ih =>
   cases e:g a with
   |none=>simp[e,ih]
   |some b=>simp[e,ih]
 rw[this]
 exact List.pairwise_lt_range.filter _
theorem SetT.relayAll(t:SetTable)(es:Array (Int×Value))(wanted:Nat):SetT (relayAll t es wanted).2.1/\(relayAll t es wanted).2.1.led=t.led:=by
 unfold PySem.relayAll
 split
 ·rename_i t' order e
  dsimp only
  split
  ·unfold SetTable.relaid SetTable.laid at e
   cases ho:SetTable.layClean (SetTable.sizeAbove wanted-1) (es.map (·.1)) with
   |none=>rw[ho]at e;cases e
   |some owner =>
    rw[ho]at e
    cases e
    refine⟨⟨?_,rfl⟩,rfl⟩
    show(List.toArray _).toList.Pairwise (· < ·)
    rw[List.toList_toArray]
    exact zE _ _
  ·exact⟨SetT.standIn _ _,rfl⟩
 ·exact⟨SetT.standIn _ _,rfl⟩
theorem pz{us vs:List Value}(p:us.Perm vs):∀{ns:List Int},IntsAre vs ns->∃ ms,IntsAre us ms/\ms.Perm ns:=by
 have go:∀{us vs:List Value},us.Perm vs->∀{ns:List Int},IntsAre us ns->∃ ms,IntsAre vs ms/\ms.Perm ns:=by
  intro us vs p
  induction p with
  |nil=>exact fun h=>⟨_,h,.rfl⟩
  |cons x _ ih =>
   intro ns h
   cases h with
   |cons n t h =>
    obtain⟨ms,h1,h2⟩:=ih h
    exact⟨n::ms,.cons n t h1,h2.cons n⟩
  |swap x y l =>
   intro ns h
   cases h with
   |cons n t h =>
    cases h with
    |cons n' t' h=>exact⟨n'::n::_,.cons n' t' (.cons n t h),MH _ _ _⟩
  |trans _ _ ih1 ih2 =>
   intro ns h
   obtain⟨ms,h1,h2⟩:=ih1 h
   obtain⟨ks,h3,h4⟩:=ih2 h1
   exact⟨ks,h3,h4.trans h2⟩
 exact fun{ns} h=>go p.symm h
theorem Ez{vs:List Value}{ns:List Int}(h:IntsAre vs ns)(k:Int)(t:Tok):IntsAre (vs++[.int k t]) (ns++[k]):=by
 induction h with
 |nil=>exact .cons k t .nil
 |cons n t' _ ih=>exact .cons n t' ih
theorem Bb{vs:List Value}{ns:List Int}(h:IntsAre vs ns):(∀ v∈vs,∃ n t,v=.int n t/\n∈ns)/\∀ n∈ns,∃ t,Value.int n t∈vs:=by
 induction h with
 |nil=>exact⟨fun v hv=>(nomatch hv),fun n hn=>(nomatch hn)⟩
 |cons n t _ ih =>
  refine⟨fun v hv=>?_,fun m hm=>?_⟩
  ·rcases Ju.mp hv with z | z
   ·exact⟨n,t,z,JD ..⟩
   ·obtain⟨a,b,c,d⟩:=ih.1 v z
    exact⟨a,b,c,JB _ d⟩
  ·rcases Ju.mp hm with z | z
   ·subst z;exact⟨t,JD ..⟩
   ·obtain⟨b,c⟩:=ih.2 m z
    exact⟨b,JB _ c⟩
def byT(w:World):Bool:=w.params.followText "set-order"
def SetG(P:Program)(w:World)(h:Heap)(a:Addr)(l:List Int):Prop:=∃ o es ep t,h.get? a=some o/\o.ExactSet/\o.data=.set es ep t/\ElemsOf (intKind P w) es.toList/\(∃ ns,IntsAre (es.toList.map (·.2)) ns/\ns.Perm l)/\l.Nodup/\es.size<scanBound/\t.fits es.size=true/\SetT t/\t.led = !byT w
theorem SetG.keeps{P:Program}{w:World}{h h':Heap}{a:Addr}{l:List Int}(g:SetG P w h a l)(k:∀ o,h.get? a=some o->h'.get? a=some o):SetG P w h' a l:=by
 obtain⟨o,es,ep,t,g1,r⟩:=g
 exact⟨o,es,ep,t,k o g1,r⟩
def addN(l:List Int)(k:Int):List Int:=if k∈l then l else l++[k]
theorem AL{P:Program}{w:World}{h:Heap}{a:Addr}{o:Obj}{es es':Array (Int×Value)}{ep:Nat}{t t':SetTable}{l:List Int}(go:h.get? a=some o)(gx:o.ExactSet)(gd:o.data=.set es ep t)(el:ElemsOf (intKind P w) es'.toList)(ia:∃ ns,IntsAre (es'.toList.map (·.2)) ns/\ns.Perm l)(nd:l.Nodup)(sz:es'.size<scanBound)(ft:t'.fits es'.size=true)(tg:SetT t')(ld:t'.led = !byT w) :
  SetG P w (h.update a (Obj.putSet es' t')) a l/\∃ o2,(h.update a (Obj.putSet es' t')).get? a=some o2/\o2.ExactSet/\o2.data=.set es' (ep+1) t':=by
 have hg:=Heap.get?_update_self (Obj.putSet es' t') go (by rw[putSet_of es' t' gd];rfl)
 rw[putSet_of es' t' gd]at hg
 exact⟨⟨_,es',ep+1,t',hg,gx,rfl,el,ia,nd,sz,ft,tg,ld⟩,_,hg,gx,rfl⟩
section
variable{prog:Program}{w:World}{A:Around}{E:Value->Shared->Prop}{s:Shared}
theorem putInS{a:Addr}{l:List Int}{k:Int}{tk:Tok}{Q:Bool->Shared->Prop}(g:SetG prog w s.heap a l)(room:l.length+1<scanBound)
  (q:∀(b:Bool)(h':Heap),Heap.SameBut a s.heap h'->SetG prog w h' a (addN l k)->Q b { s with heap:=h' }):wpAny (model prog w) A (setAddHashed a (.int k tk) ((intKind prog w).hash k)) Q E s:=by
 obtain⟨o,es,ep,t,go,gx,gd,el,⟨ns,ia,pm⟩,nd,sz,ft,tg,ld⟩:=id g
 have kis:(intKind prog w).is k (.int k tk)=true:=intKind_is _ _ _ _
 have len:es.size=l.length:=by
  have h1:∀{vs:List Value}{ns:List Int},IntsAre vs ns->vs.length=ns.length:=fun h=>by
   induction h with
   |nil=>rfl
   |cons _ _ _ ih=>rw[J2,J2,ih]
  have:=h1 ia
  rw[Jr,JR,pm.length_eq]at this
  exact this
 have gw:∀(b:Bool){s₁:Shared}{Q':Unit->Shared->Prop},Q' () s₁->wpAny (model prog w) A (match b with | true=>rule "set.scan.the-table-gave-way" | false=>pure ()) Q' E s₁:=fun b=>by
  intro s1 Q' hq
  cases b
  ·exact wpAny_pure hq
  ·exact wpAny_rule hq
 unfold setAddHashed setAddHashedIn
 refine wpAny_holding (wpAny_bind (wpAny_setState_of go gd ft ?_))
 dsimp only
 rw[byScan_of (knd:=intKind prog w) rfl sz el]
 simp only[↓reduceIte]
 unfold setAddByScan
 refine wpAny_bind (wpAny_bind (wpAny_rule (wpAny_bind (wpAny_setScan_of (knd:=intKind prog w) kis go gd ft el ?_))))
 cases fr:List.findIdx? (fun e=>(intKind prog w).is k e.2) es.toList with
 |some j =>
  obtain⟨jl,jp,_⟩:=List.findIdx?_eq_some_iff_getElem.mp fr
  have kin:k∈l:=by
   obtain⟨n,t',e1,e2⟩:=(Bb ia).1 _ (List.mem_map_of_mem (f:=(·.2)) (KN jl))
   have e3:(es.toList[j]).2=.int n t':=e1
   rw[e3]at jp
   have:k=n:=(intKind prog w).inj _ k n jp (intKind_is _ _ _ _)
   rw[this]
   exact pm.mem_iff.mp e2
  refine wpAny_pure (wpAny_pure ?_)
  have e:addN l k=l:=if_pos kin
  have:=q false s.heap (Heap.SameBut.refl a s.heap) (by rw[e];exact g)
  exact this
 |none =>
  have kout:k∉l:=fun z=>by
   obtain⟨t',m⟩:=(Bb ia).2 k (pm.mem_iff.mpr z)
   obtain⟨e,he,e2⟩:=Kb.mp m
   have:=List.findIdx?_eq_none_iff.mp fr e he
   rw[e2,intKind_is]at this
   cases this
  have ea:addN l k=l++[k]:=if_neg kout
  have nd1:(l++[k]).Nodup:=JE.mpr ⟨nd,Jz.mpr ⟨KG,K6⟩,fun a ha b hb e=>kout (by rw[JI.mp hb]at e;exact e▸ha)⟩
  have hp:=layNew_perm t es ((intKind prog w).hash k) (.int k tk)
  have hf:=layNew_fits t es ((intKind prog w).hash k) (.int k tk)
  obtain⟨ht,hl⟩:=tg.layNew es ((intKind prog w).hash k) (.int k tk)
  dsimp only
  generalize layNew t es ((intKind prog w).hash k) (.int k tk)=N at hp hf ht hl ⊢
  obtain⟨es1,t1,wd,gv⟩:=N
  dsimp only at hp hf ht hl ⊢
  rw[Le]at hp
  have el1:ElemsOf (intKind prog w) es1.toList:=(el.push kis rfl).perm hp
  have ia1:∃ ms,IntsAre (es1.toList.map (·.2)) ms/\ms.Perm (l++[k]):=by
   have p2:=hp.map (·.2)
   rw[JX]at p2
   obtain⟨ms,h1,h2⟩:=pz p2 (Ez ia k tk)
   exact⟨ms,h1,h2.trans (pm.append_right _)⟩
  have sz1:es1.size<scanBound:=by rw[← JR,hp.length_eq,Jt,JR,len];exact room
  have ld1:t1.led = !byT w:=hl.trans ld
  refine wpAny_bind (gw _ ?_)
  have tail:∀ t2:SetTable,t2.fits es1.size=true->SetT t2->t2.led = !byT w->wpAny (model prog w) A (do
    storeSet a es1 t2
    if(!wd&&t2.tooFull)=true then do
      (match(relayAll t2 es1 (SetTable.grown es1.size)).2.2 with | true=>rule "set.scan.the-table-gave-way" | false=>pure ())
      storeSet a (relayAll t2 es1 (SetTable.grown es1.size)).1 (relayAll t2 es1 (SetTable.grown es1.size)).2.1
      pure (some true)
     else pure (some true)) (fun r s'=>∃ b:Bool,r=some b/\Q b s') E s:=by
   intro t2 f2 g2 l2
   obtain⟨G1,o2,go2,gx2,gd2⟩:=AL (P:=prog) (w:=w) go gx gd el1 ia1 nd1 sz1 f2 g2 l2
   have sb1:=Heap.SameBut.update s.heap a (Obj.putSet es1 t2)
   refine wpAny_bind (wpAny_storeSet_of go gd ?_ (fits_of_scanBound sz1))
   split
   ·have hp2:=relayAll_perm t2 es1 (SetTable.grown es1.size)
    have hf2:=relayAll_fits t2 es1 (SetTable.grown es1.size)
    obtain⟨ht2,hl2⟩:=SetT.relayAll t2 es1 (SetTable.grown es1.size)
    generalize relayAll t2 es1 (SetTable.grown es1.size)=N2 at hp2 hf2 ht2 hl2 ⊢
    obtain⟨es2,t3,gv2⟩:=N2
    dsimp only at hp2 hf2 ht2 hl2 ⊢
    have ia2:∃ ms,IntsAre (es2.toList.map (·.2)) ms/\ms.Perm (l++[k]):=by
     obtain⟨m1,h1,h2⟩:=ia1
     obtain⟨ms,h3,h4⟩:=pz (hp2.map (·.2)) h1
     exact⟨ms,h3,h4.trans h2⟩
    have sz2:es2.size<scanBound:=by rw[← JR,hp2.length_eq,JR];exact sz1
    refine wpAny_bind (gw _ (wpAny_bind (wpAny_storeSet_of go2 gd2 ?_ (fits_of_scanBound sz2))))
    obtain⟨G2,_⟩:=AL (P:=prog) (w:=w) go2 gx2 gd2 (el1.perm hp2) ia2 nd1 sz2 hf2 ht2 (hl2.trans l2)
    refine wpAny_pure ⟨true,rfl,?_⟩
    exact q true _ (sb1.trans (Heap.SameBut.update _ a _)) (by rw[ea];exact G2)
   ·refine wpAny_pure ⟨true,rfl,?_⟩
    exact q true _ sb1 (by rw[ea];exact G1)
  have all:=tail t1 hf ht ld1
  have step:∀(r:Option Bool)(s':Shared),(∃ b:Bool,r=some b/\Q b s')->wpAny (model prog w) A (match r with
    |some added=>pure added
    |none=>setAddHashedIn a (Value.int k tk) ((intKind prog w).hash k) 99999) Q E s':=fun r s' ⟨b,e,z⟩=>by
   subst e
   exact wpAny_pure z
  split
  ·refine wpAny_bind ?_
   rw[hashByValue_scannable 8 (x:=Value.int k tk) rfl]
   refine wpAny_pure ?_
   exact wpAny_mono all step fun _ _ z=>z
  ·refine wpAny_bind (wpAny_pure ?_)
   exact wpAny_mono all step fun _ _ z=>z
theorem G5(l:List Int)(k:Int):(addN l k).length<=l.length+1:=by
 unfold addN
 split
 ·omega
 ·rw[Jt];exact Jw _
theorem Fn{I S:Addr}{fp wr:List Addr}{n:Nat}{P:Nat->Value->Prop}{St:Nat->Heap->Prop}{R:Result->Shared->Prop}(W:Walks prog w A.in1 I fp wr n P St)(hS:S∉fp)(ns:List Int)(nl:ns.length=n)(hv:∀ i v,P i v->∃ t,v=.int (ns.getD i 0) t)(hb:n+1<scanBound) :
  ∀(r i:Nat)(h:Heap)(tk:Nat)(l:List Int),n-i=r->i<=n->St i h->SetG prog w h S l->l.length<=i ->
   (∀ h' tk',(∀ b o,b≠S->b∉wr->h.get? b=some o->h'.get? b=some o)->SetG prog w h' S ((ns.drop i).foldl addN l)->R (.ok (.ret .none)) { s with heap:=h',toks:=tk' }) ->
   codeAny (model prog w) A (.builtin "set.update.loop" ⟨[.ref S,.ref I],[]⟩) R { s with heap:=h,toks:=tk }:=by
 have hSw:S∉wr:=fun z=>hS (W.sub _ z)
 intro r
 induction r with
 |zero =>
  intro i h tk l er hi st g ll fin
  have ei:i=n:=by omega
  subst ei
  refine codeAny_builtin PyProof.Rows.F.entry_set_update_loop ?_
  rw[Around.under_plainId PyProof.Rows.F.plain_set_update_loop _]
  show wpAny _ A.in1 (pyNext (.ref I) >>= _) _ _ _
  refine wpAny_bind (W.done _ _ _ st fun h' tk' kk=>?_)
  show wpAny _ A.in1 (ret Value.none) _ _ _
  refine wpAny_pure (fin h' tk' (fun b o _ hw e=>kk b o hw e) ?_)
  rw[List.drop_of_length_le (by omega)]
  exact g.keeps fun o e=>kk _ _ hSw e
 |succ r ih =>
  intro i h tk l er hi st g ll fin
  have il:i<n:=by omega
  refine codeAny_builtin PyProof.Rows.F.entry_set_update_loop ?_
  rw[Around.under_plainId PyProof.Rows.F.plain_set_update_loop _]
  show wpAny _ A.in1 (pyNext (.ref I) >>= _) _ _ _
  refine wpAny_bind (W.item i _ _ _ il st fun v h1 tk1 pv st1 k1=>?_)
  obtain⟨t,rfl⟩:=hv i v pv
  have g1:=g.keeps fun o e=>k1 _ _ hSw e
  show wpAny _ A.in1 (holding [Value.int (ns.getD i 0) t] (setAdd S (.int (ns.getD i 0) t)) >>= _) _ _ _
  refine wpAny_bind (wpAny_holding ?_)
  unfold setAdd
  refine wpAny_holding (wpAny_bind ((intKind prog w).pyHash (k:=ns.getD i 0) (intKind_is _ _ _ _) ?_))
  refine putInS (l:=l) g1 (by omega) fun b h2 sb g2=>?_
  have k2:∀ b o,b≠S->h1.get? b=some o->h2.get? b=some o:=fun b o n e=>(sb.2 b n).trans e
  have dr:ns.drop i=ns.getD i 0::ns.drop (i+1):=by
   rw[KQ (by omega),Ka,Jp (by omega)]
   rfl
  refine wpAny_pure ⟨plainId_quiet PyProof.Rows.F.plain_set_update_loop _,ih (i+1) _ _ (addN l (ns.getD i 0)) (by omega) il (W.frame _ _ _ st1 fun b hb o e=>k2 b o (fun z=>hS (z▸hb)) e) g2 (by have:=G5 l (ns.getD i 0);omega) fun h' tk' kk gg=>?_⟩
  refine fin h' tk' (fun b o n hw e=>kk b o n hw (k2 b o n (k1 b o hw e))) ?_
  rw[dr,Na]
  exact gg
theorem yW(a:Value){Q₁:Value->Shared->Prop}
  (h:Q₁ (.ref s.heap.objs.size) { s with heap:=s.heap.push { cls:=.type "set",dict:=none,data:=.set #[] 0 (.fresh 0 0 (!byT w)) } }) :
  codeAny (model prog w) A (.call (.builtin "set.__new__") ⟨[.type "set",a],[]⟩) (wants Q₁ E) s:=by
 refine codeAny_of_tree ?_
 show wpAny _ A.in1 (do checkBuiltinCall "set.__new__" ⟨[.type "set",a],[]⟩;again (.builtin "set.__new__" ⟨[.type "set",a],[]⟩)) _ _ s
 refine wpAny_bind (wpAny_of_eq (PySem.F.newCall_set_1 a) (wpAny_pure ⟨plainId_quiet PySem.F.plain_set_new _,codeAny_builtin PySem.F.entry_set_new ?_⟩))
 rw[Around.under_plainId PySem.F.plain_set_new _]
 unfold Builtin.«set.__new__» Builtin.Frozenset.newClass
 have hsub:=PySem.sub_set_self
 obtain⟨hp,gg,dd,tk,os⟩:=s
 dsimp only
 wp_walk
 refine wpAny_askSetting (wpAny_pure ?_)
 dsimp only
 simp only[newObj]
 exact wpAny_bind (wpAny_alloc (wpAny_pure (wpAny_pure h)))
theorem eN:∀{vs:List Value}{ns:List Int},IntsAre vs ns->vs.length=ns.length/\∀(i:Nat)(v:Value),vs[i]?=some v->∃ t,v=.int (ns.getD i 0) t
 |_,_,.nil=>⟨rfl,fun i v e=>by simp at e⟩
 |_,_,.cons n t r=>by
  obtain⟨h1,h2⟩:=eN r
  refine⟨by rw[J2,J2,h1],fun i v e=>?_⟩
  match i,e with
  |0,e=>cases e;exact⟨t,rfl⟩
  |i+1,e=>exact h2 i v e
abbrev newO(w:World):Obj:={ cls:=.type "set",dict:=none,data:=.set #[] 0 (.fresh 0 0 (!byT w)) }
theorem newG{P:Program}{h:Heap}{a:Addr}(e:h.get? a=some (newO w)):SetG P w h a [] :=
 ⟨_,#[],0,_,e,⟨rfl,rfl,rfl⟩,rfl,fun x hx=>by simp at hx,⟨[],.nil,.rfl⟩,K6,by decide,rfl,SetT.fresh _ _ _,rfl⟩
theorem yc{lst:Addr}{its:Array Value}{ns:List Int}{Q:Value->Shared->Prop}(hh:A.handled=none)(hl:s.heap.IsList lst its)(ia:IntsAre its.toList ns)(hb:its.size+1<scanBound)
  (q:∀(h':Heap)(tk:Nat),SetG prog w h' s.heap.objs.size (ns.foldl addN [])->(∀ b o,s.heap.get? b=some o->h'.get? b=some o)->Q (.ref s.heap.objs.size) { s with heap:=h',toks:=tk }) :
  wpAny (model prog w) A (call (.type "set") [.ref lst]) Q E s:=by
 obtain⟨cc,tl,hmro⟩:=PySem.F.called_set.mro
 have hmade:=PySem.F.called_set.made
 have hsub:=PySem.F.called_set.sub
 obtain⟨il,iv⟩:=eN ia
 have nlen:ns.length=its.size:=by rw[← il,JR]
 refine wpAny_call (codeAny_of_tree ?_)
 show wpAny _ _ (callAny (.type "set") _) _ _ _
 refine wpAny_pure ⟨Code.quiet_builtin _ (by decide +kernel),codeAny_builtin PySem.F.entry_type_call ?_⟩
 rw[Around.under_plain (weight_type_call_type "set" [.ref lst] []) rfl]
 have f1:=PySem.F.called_set.notType
 have f2:=PySem.F.called_set.canCreate
 have f3:=PySem.F.typeCall_set_1 (.ref lst)
 repeat (any_goals (first | assumption | wp_step))
 refine codeAny_mono (yW (.ref lst) (E:=E) (Q₁:=fun obj s₁=>obj=.ref s.heap.objs.size/\s₁={ s with heap:=s.heap.push (newO w) }) ⟨rfl,rfl⟩) fun r s₁ hr=>?_
 cases r with
 |error e=>exact hr
 |ok fl =>
  cases fl with
  |next=>exact hr.elim
  |brk=>exact hr.elim
  |cont=>exact hr.elim
  |ret obj =>
   obtain⟨rfl,rfl⟩:=hr
   have gS:(s.heap.push (newO w)).get? s.heap.objs.size=some (newO w):=Heap.get?_push_size _ rfl
   have gT:Shared.TypeIs { s with heap:=s.heap.push (newO w) } (.ref s.heap.objs.size) "set":=⟨_,gS,rfl⟩
   have f4:=PySem.F.called_set.init.lookup
   have f5:=PySem.F.called_set.init.bind (.ref s.heap.objs.size)
   repeat (any_goals (first | assumption | wp_step))
   refine codeAny_mono (codeAny_call_builtin (R:=wants (fun r s₂=>r=.none/\∃ h' tk,s₂={ s with heap:=h',toks:=tk }/\SetG prog w h' s.heap.objs.size (ns.foldl addN [])/\∀ b o,s.heap.get? b=some o->h'.get? b=some o) E) PySem.F.called_set.init.plain PySem.F.entry_set_init (check_set_init_1 gT ?_)) fun r₂ s₂ hr₂=>?_
   ·obtain⟨ol,go,gc,nl,gd⟩:=hl
    obtain⟨c0,d0,dat,sl⟩:=ol
    simp only at gc gd
    subst gc
    subst gd
    have go1:(s.heap.push (newO w)).get? lst=some { cls:=.type "list",dict:=d0,data:=.seq its nl,slots:=sl }:=Heap.get?_push_of_some _ go
    have f6:=PySem.F.sub_list_set
    have f7:=PySem.F.sub_list_frozenset
    have f8:(Value.type "list" == Value.type "dict")=false:=by decide
    have hl1:(s.heap.push (newO w)).IsList lst its:=⟨_,go1,rfl,nl,rfl⟩
    unfold Builtin.«set.__init__» noKeywords Builtin.Frozenset.updateFrom
    generalize eP:pyIter=PI
    wp_walk
    subst eP
    refine wpAny_pyIter_list hl1 (wpAny_bind (wpAny_runValue ?_))
    have lS:lst<s.heap.objs.size:=Heap.lt_size go
    have nI:lst≠(s.heap.push (newO w)).objs.size:=by rw[Heap.size_push];exact JN (KW lS)
    have nS:s.heap.objs.size∉[(s.heap.push (newO w)).objs.size,lst]:=by
     rw[Heap.size_push]
     intro z
     rcases Ju.mp z with z | z
     ·exact absurd z (JN (KA _))
     ·rw[JI]at z;exact absurd z.symm (JN lS)
    have hh3:A.in1.in1.in1.handled=none:=by simp[hh]
    refine Fn (s:=s) (Walks.list hh3 _ lst nI its) nS ns nlen (fun i v pv=>iv i v (by rw[KC];exact pv)) hb its.size 0 _ s.toks [] (by omega) (Ku _) ⟨⟨_,Heap.get?_push_size _ rfl,rfl,rfl⟩,hl1.push _⟩ (newG (Heap.get?_push_of_some _ gS)) (Jw _) fun h' tk' kk gg=>?_
    refine wpAny_pure ?_
    show wpAny _ _ (ret Value.none) _ _ _
    refine wpAny_pure ⟨rfl,h',tk',rfl,gg,fun b o e=>?_⟩
    have bl:=Heap.lt_size e
    refine kk b o (JN bl) (fun z=>?_) (Heap.get?_push_of_some _ (Heap.get?_push_of_some _ e))
    rw[JI,Heap.size_push]at z
    exact absurd z (JN (KW bl))
   ·cases r₂ with
    |error e=>exact hr₂
    |ok fl₂ =>
     cases fl₂ with
     |next=>exact hr₂.elim
     |brk=>exact hr₂.elim
     |cont=>exact hr₂.elim
     |ret r =>
      obtain⟨rfl,h',tk,rfl,g',k'⟩:=hr₂
      repeat (any_goals (first | assumption | wp_step))
      exact q _ _ g' k'
end
end L2
namespace L2
open PySem PySem.Spec PyProof.Rows
theorem bt_set:bootBuiltins "set" = some (.type "set"):=by decide +kernel
theorem zG:entryFor table "set.__iter__" = some Builtin.«frozenset.__iter__»:=entryFor_alias (id':="frozenset.__iter__") (by kernel_rfl) rfl (by decide +kernel) (by kernel_rfl)
theorem cP:Slot "set_iterator" "__next__" "set_iterator.__next__" :=
 Slot.of (owner:="set_iterator") (n:="__next__") (by rw[typeLookup_type,builtinLookup_eq_fast];kernel_rfl) (by decide +kernel) (by decide +kernel) (by decide +kernel) (by first | exact .inl (by decide +kernel) | exact .inr (by decide +kernel)) (by rw[isSubtype_type];kernel_rfl)
theorem ra:entryFor table "set_iterator.__next__" = some Builtin.«set_iterator.__next__»:=entryFor_of_tree (by kernel_rfl)
theorem ow_si:Manifest.owners.lookup (String.ofList ['r','o','t','a','r','e','t','i','_','t','e','s'].reverse)=some Manifest.sig_set_iterator:=by kernel_rfl
theorem rD(a:Value):argsOk "set_iterator.__next__" ⟨[a],[]⟩:=by
 unfold argsOk
 rw[signature?_of (id:="set_iterator.__next__") (n:=['_','_','t','x','e','n','_','_']) (o:=['r','o','t','a','r','e','t','i','_','t','e','s']) (by kernel_rfl) ow_si]
 kernel_rfl
theorem qV:Slot "set_iterator" "__iter__" "set_iterator.__iter__" :=
 Slot.of (owner:="set_iterator") (n:="__iter__") (by rw[typeLookup_type,builtinLookup_eq_fast];kernel_rfl) (by decide +kernel) (by decide +kernel) (by decide +kernel) (by first | exact .inl (by decide +kernel) | exact .inr (by decide +kernel)) (by rw[isSubtype_type];kernel_rfl)
theorem Cp:entryFor table "set_iterator.__iter__" = some Builtin.«dict_keyiterator.__iter__»:=entryFor_alias (id':="dict_keyiterator.__iter__") (by kernel_rfl) rfl (by decide +kernel) (by kernel_rfl)
theorem CU(a:Value):argsOk "set_iterator.__iter__" ⟨[a],[]⟩:=by
 unfold argsOk
 rw[signature?_of (id:="set_iterator.__iter__") (n:=['_','_','r','e','t','i','_','_']) (o:=['r','o','t','a','r','e','t','i','_','t','e','s']) (by kernel_rfl) ow_si]
 kernel_rfl
theorem zF{α:Type}:∀{l:List α}{i:Nat}(h:i<l.length),(l[i]::l.eraseIdx i).Perm l
 |x::l,0,_=>Ni _
 |x::l,i+1,h=>by
  have ih:=zF (l:=l) (i:=i) (by simpa using h)
  show(l[i]'(by simpa using h)::x::l.eraseIdx i).Perm (x::l)
  exact(MH x _ _).trans (ih.cons x)
theorem DP{α:Type}(next:Nat->Nat):∀(fuel k:Nat)(left:List α)(out:Array α),left.length=fuel->(pickOrder.go next fuel k left out).toList.Perm (out.toList++left)
 |0,k,left,out,h=>by
  have:left = []:=LK.mp h
  subst this
  unfold pickOrder.go
  rw[KJ]
 |fuel+1,k,left,out,h=>by
  have hl:next k%left.length<left.length:=Np _ (by omega)
  unfold pickOrder.go
  rw[Jp hl]
  dsimp only
  refine(DP next fuel (k+1) _ _ (by rw[Nb hl];omega)).trans ?_
  rw[Le,J1]
  refine KY _ ?_
  exact zF hl
theorem vj{α:Type}(next:Nat->Nat)(xs:Array α):(pickOrder next xs).toList.Perm xs.toList:=by
 have:=DP next xs.size 0 xs.toList #[] (by simp)
 simpa[pickOrder] using this
section
variable{prog:Program}{w:World}{A:Around}{E:Value->Shared->Prop}{s:Shared}
theorem CH{src:Source}{n:Nat}{Q:Nat->Shared->Prop}(hn:n≠0)(h:∀ i d,i<n->Q i { s with drawn:=d }):wpAny (model prog w) A (choose src n) Q E s:=fun _ _ _=>⟨hn,h _ _ (Np _ (MN hn))⟩
theorem Bg{α:Type}:∀(n:Nat)(xs:List α)(s:Shared)(Q:List α->Shared->Prop),xs.length=n->(∀ ys d,ys.Perm xs->Q ys { s with drawn:=d })->wpAny (model prog w) A (drawOrder n xs) Q E s
 |0,xs,s,Q,h,q=>by
  have:xs = []:=LK.mp h
  subst this
  unfold drawOrder
  exact wpAny_pure (q [] s.drawn .rfl)
 |n+1,[],s,Q,h,q=>by cases h
 |n+1,x::xs,s,Q,h,q=>by
  unfold drawOrder
  refine wpAny_bind (CH (by simp) fun i d hi=>?_)
  rw[Jp hi]
  dsimp only
  refine wpAny_bind (Bg n _ _ _ (by rw[Nb hi];simp at h ⊢;omega) fun ys d2 p=>wpAny_pure ?_)
  exact q _ d2 ((p.cons _).trans (zF hi))
end
def slA(t:SetTable)(i:Nat):Nat:=if i=0 then 0 else t.place.getD (i-1) 0+1
def ItAt(P:Program)(w:World)(h:Heap)(I a tp:Addr)(ord:List Int)(i:Nat):Prop:=∃ o es ep t first vs,h.get? a=some o/\o.ExactSet/\o.data=.set es ep t/\t.fits es.size=true/\SetT t/\t.led = !byT w /\
 h.get? I=some { cls:=.type "set_iterator",data:=.fields #[first,rawInt (i:Int),.ref a,rawInt (es.size:Int),rawInt (ep:Int)] }/\IntsAre vs ord/\vs.length=es.size /\
 ((byT w=true/\(∃ z:Nat,first=rawInt (z:Int))/\vs=(pickOrder (w.params.setOrder a ep) es).toList.map (·.2)) ∨
  (byT w=false/\(!t.plain&&decide (es.size > 1))=false/\first=rawInt (slA t i:Int)/\vs=es.toList.map (·.2)) ∨
  (byT w=false/\∃(pl:List Nat)(ot:Obj)(c:Nat),first=.ref tp/\tp≠I/\tp≠a/\h.get? tp=some ot/\ot.data=.seq (pl.map fun p:Nat=>rawInt (p:Int)).toArray c/\pl.length=es.size/\∀(j p:Nat),pl[j]?=some p->∃ x,es[p]?=some x/\vs[j]?=some x.2))
section
variable{prog:Program}{w:World}{A:Around}{E:Value->Shared->Prop}{s:Shared}
theorem vZ{es:Array (Int×Value)}{ns l:List Int}(ia:IntsAre (es.toList.map (·.2)) ns)(pm:ns.Perm l){ys:List (Int×Value)}(p:ys.Perm es.toList):∃ ms,IntsAre (ys.map (·.2)) ms/\ms.Perm l:=by
 obtain⟨ms,h1,h2⟩:=pz (p.map (·.2)) ia
 exact⟨ms,h1,h2.trans pm⟩
theorem Fx{a:Addr}{l:List Int}{Q:Value->Shared->Prop}(g:SetG prog w s.heap a l)
  (q:∀(I tp:Addr)(h':Heap)(d:_)(ord:List Int),(∀ b o,s.heap.get? b=some o->h'.get? b=some o)->s.heap.objs.size<=I->I<h'.objs.size->s.heap.objs.size<=tp->tp<h'.objs.size->ord.Perm l->ItAt prog w h' I a tp ord 0->Q (.ref I) { s with heap:=h',drawn:=d }) :
  wpAny (model prog w) A (pyIter (.ref a)) Q E s:=by
 obtain⟨o,es,ep,t,go,gx,gd,el,⟨ns,ia,pm⟩,nd,sz,ft,tg,ld⟩:=id g
 have gT:s.TypeIs (.ref a) "set":=⟨o,go,gx.1⟩
 have al:a<s.heap.objs.size:=Heap.lt_size go
 have nlen:=(eN ia).1
 have zl:es.size<=sizeLine:=Kk (Lp sz (by decide))
 refine wpAny_pyIter_slot gT PySem.F.slot_set_iter (wpAny_call_entry PySem.F.slot_set_iter gT zG ?_ (PySem.F.args_set_iter_1 _))
 unfold Builtin.«frozenset.__iter__» Builtin.Frozenset.slot0 slotArgs
 simp only[MZ,Nw,Kt,↓reduceIte,bind_assoc,Lo,bne_self_eq_false]
 unfold Builtin.Frozenset.addrOf Builtin.Frozenset.sizeOf
 refine wpAny_bind (wpAny_pure ?_)
 try dsimp only
 refine wpAny_bind (wpAny_pure (wpAny_bind (wpAny_bind (wpAny_setEntries_of go gd ft (wpAny_pure ?_)))))
 unfold setDrawn setsByText
 refine wpAny_bind (wpAny_bind (wpAny_setState_of go gd ft ?_))
 dsimp only
 refine wpAny_bind (wpAny_bind (wpAny_askSetting (wpAny_pure (wpAny_pure ?_))))
 have n0:∀ I:Addr,s.heap.objs.size<=I->a≠I:=fun I hI z=>absurd al (by rw[z];exact LU hI)
 split
 ·rename_i cnd
  have c':(!byT w&&(!t.plain&&decide (es.size > 1)))=true:=cnd
  have bt:byT w=false:=by
   cases y:byT w with
   |false=>rfl
   |true=>rw[y]at c';cases c'
  refine wpAny_bind (Bg es.size (KO es.size) _ _ LC fun ys d p=>?_)
  have yl:ys.length=es.size:=by rw[p.length_eq,LC]
  refine wpAny_bind (wpAny_newTuple ?_ (by rw[Jr,yl];exact zl))
  unfold setEpoch
  have g1:(s.heap.push { cls:=.type "tuple",data:=.seq (ys.map fun i:Nat=>rawInt (i:Int)).toArray }).get? a=some o:=Heap.get?_push_of_some _ go
  refine wpAny_bind (wpAny_bind (wpAny_setState_of g1 gd ft (wpAny_pure ?_)))
  unfold newFields
  refine wpAny_bind (wpAny_newObj_type ?_ (by size_fits))
  have em:(KO es.size).map (fun j=>es.getD j (0,Value.none))=es.toList:=by
   refine List.ext_getElem (by simp) fun j h1 h2=>?_
   have hj:j<es.size:=by simpa using h2
   simp[MA,hj]
  have pv:(ys.map fun j=>es.getD j (0,Value.none)).Perm es.toList:=by
   rw[← em]
   exact p.map _
  obtain⟨ms,i1,i2⟩:=vZ ia pm pv
  refine wpAny_pure ⟨_,rfl,"set_iterator",_,⟨_,Heap.get?_push_size _ rfl,rfl⟩,cP.lookup,?_⟩
  refine q _ s.heap.objs.size _ d ms (fun b o e=>Heap.get?_push_of_some _ (Heap.get?_push_of_some _ e)) (by rw[Heap.size_push];exact Lx _) (Heap.lt_size (Heap.get?_push_size _ rfl)) (Jw _) (by rw[Heap.size_push,Heap.size_push];exact KW (KA _)) i2 ?_
  refine⟨o,es,ep,t,_,(ys.map fun j=>es.getD j (0,Value.none)).map (·.2),Heap.get?_push_of_some _ g1,gx,gd,ft,tg,ld,Heap.get?_push_size _ rfl,i1,by rw[Jr,Jr,yl],.inr (.inr ⟨bt,ys,_,_,rfl,?_,K7 al,Heap.get?_push_of_some _ (Heap.get?_push_size _ rfl),rfl,yl,fun j pp hj=>?_⟩)⟩
  ·rw[Heap.size_push];exact JN (KA _)
  ·have pl:pp<es.size:=Md.mp (p.mem_iff.mp (Jq hj))
   refine⟨es[pp],KR pl,?_⟩
   rw[Jy,Jy,hj]
   show some (es.getD pp (0,Value.none)).2=_
   simp[MA,pl]
 ·rename_i cnd
  have c':¬ (!byT w&&(!t.plain&&decide (es.size > 1)))=true:=cnd
  refine wpAny_bind (wpAny_pure ?_)
  unfold setEpoch
  refine wpAny_bind (wpAny_bind (wpAny_setState_of go gd ft (wpAny_pure ?_)))
  unfold newFields
  refine wpAny_bind (wpAny_newObj_type ?_ (by size_fits))
  refine wpAny_pure ⟨_,rfl,"set_iterator",_,⟨_,Heap.get?_push_size _ rfl,rfl⟩,cP.lookup,?_⟩
  cases bt:byT w with
  |true =>
   obtain⟨ms,i1,i2⟩:=vZ ia pm (vj (w.params.setOrder a ep) es)
   refine q _ s.heap.objs.size _ s.drawn ms (fun b o e=>Heap.get?_push_of_some _ e) (Jw _) (by rw[Heap.size_push];exact KA _) (Jw _) (by rw[Heap.size_push];exact KA _) i2 ?_
   exact⟨o,es,ep,t,_,_,Heap.get?_push_of_some _ go,gx,gd,ft,tg,ld,Heap.get?_push_size _ rfl,i1,by rw[Jr,(vj _ _).length_eq,JR],.inl ⟨bt,⟨0,rfl⟩,rfl⟩⟩
  |false =>
   rw[bt]at c'
   have c2:(!t.plain&&decide (es.size > 1))=false:=by
    cases y:(!t.plain&&decide (es.size > 1)) with
    |false=>rfl
    |true=>exact absurd (by rw[y];rfl) c'
   refine q _ s.heap.objs.size _ s.drawn ns (fun b o e=>Heap.get?_push_of_some _ e) (Jw _) (by rw[Heap.size_push];exact KA _) (Jw _) (by rw[Heap.size_push];exact KA _) pm ?_
   exact⟨o,es,ep,t,_,_,Heap.get?_push_of_some _ go,gx,gd,ft,tg,ld,Heap.get?_push_size _ rfl,ia,by rw[Jr,JR],.inr (.inl ⟨bt,c2,rfl,rfl⟩)⟩
theorem wg{t:SetTable}{n:Nat}(h:t.fits n=true):t.place.size=n:=by
 unfold SetTable.fits at h
 rw[Bool.and_eq_true]at h
 exact eq_of_beq h.1
theorem wW{t:SetTable}(tg:SetT t){i:Nat}(hi:i<=t.place.size):SetTable.below t.place (slA t i)=i:=by
 obtain⟨b1,b2,b3⟩:=Bs tg.1 (slA t i)
 have up:∀ a b,a<b->b<t.place.size->t.place.getD a (slA t i)<t.place.getD b (slA t i):=fun a b hab hb=>by
  have ha:a<t.place.size:=Lp hab hb
  have:=Kw.mp tg.1 a b (by simpa using ha) (by simpa using hb) hab
  simpa[MA,ha,hb] using this
 have sl:∀ k,i=k+1->slA t i=t.place.getD k (slA t i)+1:=fun k e=>by
  have hk:k<t.place.size:=by omega
  have e1:slA t i=t.place.getD k 0+1:=by
   unfold slA
   rw[if_neg (by omega),e,Nat.add_sub_cancel]
  have e2:t.place.getD k 0=t.place.getD k (slA t i):=by simp[MA,hk]
  rw[← e2]
  exact e1
 generalize hb:SetTable.below t.place (slA t i)=b at b1 b2 b3
 rcases Mf b i with z | z | z
 ·obtain⟨k,rfl⟩:∃ k,i=k+1:=⟨i-1,by omega⟩
  have h1:=b2 b (Jw _) (by omega)
  have h2:=sl k rfl
  by_cases e:b=k
  ·subst e;omega
  ·have:=up b k (by omega) (by omega)
   omega
 ·exact z
 ·have h1:=b1 i z
  cases i with
  |zero=>have e:slA t 0=0:=rfl;rw[e]at h1;omega
  |succ k =>
   have h2:=sl k rfl
   have:=up k (k+1) (by omega) (by omega)
   omega
theorem AN{I:Addr}{h h1 h2:Heap}(x:Heap.SameBut I h h1)(y:Heap.SameBut I h1 h2):Heap.SameBut I h h2:=⟨y.1.trans x.1,fun b hb=>(y.2 b hb).trans (x.2 b hb)⟩
theorem IL{I a tp:Addr}{ord:List Int}{i:Nat}{n:Int}{Q:Option Value->Shared->Prop}(h:ItAt prog w s.heap I a tp ord i)(hn:ord[i]?=some n)(aI:a≠I)
  (q:∀(t:Tok)(h':Heap),ItAt prog w h' I a tp ord (i+1)->Heap.SameBut I s.heap h'->Q (some (.int n t)) { s with heap:=h' }):wpAny (model prog w) A (pyNext (.ref I)) Q E s:=by
 obtain⟨o,es,ep,t,first,vs,go,gx,gd,ft,tg,ld,gI,ia,vl,md⟩:=h
 have gT:s.TypeIs (.ref I) "set_iterator":=⟨_,gI,rfl⟩
 unfold pyNext
 refine wpAny_bind (wpAny_attempt (wpAny_callSpecial?_slot (name:=Str.ofString "__next__") gT cP (wpAny_call_entry cP gT ra ?_ (rD _))))
 unfold Builtin.«set_iterator.__next__» slotArgs
 simp only[MZ,Nw,Kt,↓reduceIte,bind_assoc,Lo,bne_self_eq_false]
 refine wpAny_bind (wpAny_pure ?_)
 try dsimp only
 refine wpAny_bind (wpAny_fieldsOf gI rfl ?_)
 dsimp only[rawInt]
 refine wpAny_bind (wpAny_setEntries_of go gd ft ?_)
 rw[if_neg (by simp)]
 have il:i<ord.length:=(Jo.mp hn).1
 have ol:=(eN ia).1
 have ilv:i<vs.length:=by omega
 obtain⟨tk,hv⟩:∃ tk,vs[i]?=some (.int n tk):=by
  obtain⟨tk,e⟩:=(eN ia).2 i _ (Jp ilv)
  refine⟨tk,?_⟩
  rw[Jp ilv,e,Ka,hn]
  rfl
 have psz:=wg ft
 have ci:((i:Int)+1)=((i+1:Nat):Int):=by omega
 rcases md with⟨bt,⟨z,rfl⟩,rfl⟩ | ⟨bt,dr,rfl,rfl⟩ | ⟨bt,pl,ot,c,rfl,tI,ta,gt,gtd,pll,pat⟩
 ·dsimp only[rawInt]
  unfold setNext setsByText setWalk setsByText
  refine wpAny_bind (wpAny_bind (wpAny_setState_of go gd ft ?_))
  dsimp only
  refine wpAny_bind (wpAny_bind (wpAny_askSetting (wpAny_pure ?_)))
  have bt':w.params.followText "set-order" = true:=bt
  rw[show(Setting.params ⟨(model prog w).prog,(model prog w).w.params⟩).followText "set-order" = true from bt',if_pos rfl,if_neg (by simp)]
  refine wpAny_bind (wpAny_bind (wpAny_setState_of go gd ft ?_))
  dsimp only
  refine wpAny_bind (wpAny_bind (wpAny_askSetting (wpAny_pure ?_)))
  rw[show(Setting.params ⟨(model prog w).prog,(model prog w).w.params⟩).followText "set-order" = true from bt',if_pos rfl]
  refine wpAny_bind (wpAny_askSetting (wpAny_pure (wpAny_pure ?_)))
  have hp:(pickOrder (w.params.setOrder a ep) es)[i]?.map (·.2)=some (.int n tk):=by rw[← KC,← Jy];exact hv
  obtain⟨x,hx,ex⟩:=Kj.mp hp
  rw[JC,JC,show(pickOrder ((Setting.params ⟨(model prog w).prog,(model prog w).w.params⟩).setOrder a ep) es)[i]?=some x from hx]
  dsimp only[Option.map]
  refine wpAny_bind (wpAny_setField_rec gI (by simp) fun h1 g1 s1=>?_)
  refine wpAny_bind (wpAny_setField_rec (s:={ s with heap:=h1 }) g1 (by simp) fun h2 g2 s2=>?_)
  have sb:=AN s1 s2
  rw[ex]
  refine wpAny_pure ⟨_,rfl,wpAny_pure (q tk h2 ?_ sb)⟩
  refine⟨o,es,ep,t,_,_,(sb.2 a aI).trans go,gx,gd,ft,tg,ld,g2.trans ?_,ia,vl,.inl ⟨bt,⟨z,rfl⟩,rfl⟩⟩
  rw[ci]
  rfl
 ·dsimp only[rawInt]
  unfold setNext setsByText
  refine wpAny_bind (wpAny_bind (wpAny_setState_of go gd ft ?_))
  dsimp only
  refine wpAny_bind (wpAny_bind (wpAny_askSetting (wpAny_pure ?_)))
  have bt':w.params.followText "set-order" = false:=bt
  rw[show(Setting.params ⟨(model prog w).prog,(model prog w).w.params⟩).followText "set-order" = false from bt',if_neg (by simp)]
  refine wpAny_ite_split (fun c=>absurd (show(!t.plain&&decide (es.size > 1))=true from c) (by rw[dr];simp)) fun _=>?_
  have led:t.led=true:=by rw[ld,bt];rfl
  refine wpAny_bind ?_
  show wpAny _ _ (if(!t.led&&!es.isEmpty)=true then _ else _) _ _ _
  rw[led]
  refine wpAny_pure (wpAny_pure ?_)
  rw[JC,wW tg (by omega)]
  have ie:i<es.size:=by omega
  have ip:i<t.place.size:=by omega
  have ex:es[i].2=.int n tk:=by
   rw[Jy,KC,KR ie]at hv
   exact JL hv
  rw[KR ie,KR ip]
  dsimp only
  refine wpAny_bind (wpAny_setField_rec gI (by simp) fun h1 g1 s1=>?_)
  refine wpAny_bind (wpAny_setField_rec (s:={ s with heap:=h1 }) g1 (by simp) fun h2 g2 s2=>?_)
  have sb:=AN s1 s2
  rw[ex]
  refine wpAny_pure ⟨_,rfl,wpAny_pure (q tk h2 ?_ sb)⟩
  refine⟨o,es,ep,t,_,_,(sb.2 a aI).trans go,gx,gd,ft,tg,ld,g2.trans ?_,ia,vl,.inr (.inl ⟨bt,dr,rfl,rfl⟩)⟩
  have es:slA t (i+1)=t.place[i]+1:=by
   unfold slA
   rw[if_neg (by omega),Nat.add_sub_cancel]
   simp[MA,ip]
  rw[ci,es]
  rfl
 ·dsimp only[rawInt]
  refine wpAny_bind (wpAny_seqItems gt gtd ?_)
  dsimp only
  have ip:i<pl.length:=by omega
  obtain⟨x,hx,hxv⟩:=pat i _ (Jp ip)
  have ex:x.2=.int n tk:=JL (hxv.symm.trans hv)
  rw[JC,List.getElem?_toArray,Jy,Jp ip]
  dsimp only[Option.map,rawInt]
  unfold setNextDrawn
  refine wpAny_bind (wpAny_bind (wpAny_setState_of go gd ft ?_))
  dsimp only
  rw[JC,JC,if_neg (by simp),hx]
  refine wpAny_pure ?_
  refine wpAny_bind (wpAny_setField_rec gI (by simp) fun h1 g1 s1=>?_)
  rw[ex]
  refine wpAny_pure ⟨_,rfl,wpAny_pure (q tk h1 ?_ s1)⟩
  refine⟨o,es,ep,t,_,vs,(s1.2 a aI).trans go,gx,gd,ft,tg,ld,g1.trans ?_,ia,vl,.inr (.inr ⟨bt,pl,ot,c,rfl,tI,ta,(s1.2 tp tI).trans gt,gtd,pll,pat⟩)⟩
  rw[ci]
  rfl
theorem xI{I:Addr}{k:Nat}{Q:Option Value->Shared->Prop}{vs:Array Value}(hh:A.handled=none) (gI:s.heap.get? I=some { cls:=.type "set_iterator",data:=.fields vs }) (hk:k<vs.size)
  (q:∀(h':Heap),Heap.ExtBut I s.heap h'->Q none { s with heap:=h' }) :
  wpAny (model prog w) A.in1 (setField (.ref I) k .none >>= fun _=>newExc (.type "StopIteration") [] >>= fun e=>raiseNew e) (fun(fin:Fin) s'=>∃ v,fin=Fin.done (Flow.ret v)/\wpAny (model prog w) A (pure (some v)) Q E s')
  (fun e s'=>wpAny (model prog w) A (do if ← isInstance e (.type "StopIteration") then pure none else throw e) Q E s') s:=by
 refine wpAny_bind (wpAny_setField gI rfl hk ?_)
 refine wpAny_bind ?_
 simp only[newExc,newTuple]
 refine wpAny_bind (wpAny_newObj_type ?_ (by size_fits))
 refine wpAny_bind (m:=firstArgMember _ _) (wpAny_of_eq (a:=Value.none) (by first | rfl | (simp only[firstArgMember];rfl)) ?_)
 refine wpAny_newObj_type ?_ (by size_fits)
 simp only[raiseNew]
 refine wpAny_bind (wpAny_handled ?_)
 rw[show A.in1.handled=none from hh]
 refine wpAny_bind (wpAny_pure (wpAny_throw ?_))
 refine wpAny_bind (wpAny_isInstance (T:="StopIteration") (b:=true) ⟨_,Heap.get?_push_size _ rfl,rfl⟩ isSubtype_stop ?_)
 exact wpAny_pure (q _ (((Heap.SameBut.update ..).extBut.push _).push _))
theorem IM{I a tp:Addr}{ord:List Int}{i:Nat}{Q:Option Value->Shared->Prop}(hh:A.handled=none)(h:ItAt prog w s.heap I a tp ord i)(hn:i=ord.length)(aI:a≠I)
  (q:∀(h':Heap),Heap.ExtBut I s.heap h'->Q none { s with heap:=h' }):wpAny (model prog w) A (pyNext (.ref I)) Q E s:=by
 obtain⟨o,es,ep,t,first,vs,go,gx,gd,ft,tg,ld,gI,ia,vl,md⟩:=h
 have gT:s.TypeIs (.ref I) "set_iterator":=⟨_,gI,rfl⟩
 unfold pyNext
 refine wpAny_bind (wpAny_attempt (wpAny_callSpecial?_slot (name:=Str.ofString "__next__") gT cP (wpAny_call_entry cP gT ra ?_ (rD _))))
 unfold Builtin.«set_iterator.__next__» slotArgs
 simp only[MZ,Nw,Kt,↓reduceIte,bind_assoc,Lo,bne_self_eq_false]
 refine wpAny_bind (wpAny_pure ?_)
 try dsimp only
 refine wpAny_bind (wpAny_fieldsOf gI rfl ?_)
 dsimp only[rawInt]
 refine wpAny_bind (wpAny_setEntries_of go gd ft ?_)
 rw[if_neg (by simp)]
 have ol:=(eN ia).1
 have ilv:i=vs.length:=by omega
 have psz:=wg ft
 rcases md with⟨bt,⟨z,rfl⟩,rfl⟩ | ⟨bt,dr,rfl,rfl⟩ | ⟨bt,pl,ot,c,rfl,tI,ta,gt,gtd,pll,pat⟩
 ·dsimp only[rawInt]
  unfold setNext setsByText setWalk setsByText
  refine wpAny_bind (wpAny_bind (wpAny_setState_of go gd ft ?_))
  dsimp only
  refine wpAny_bind (wpAny_bind (wpAny_askSetting (wpAny_pure ?_)))
  have bt':w.params.followText "set-order" = true:=bt
  rw[show(Setting.params ⟨(model prog w).prog,(model prog w).w.params⟩).followText "set-order" = true from bt',if_pos rfl,if_neg (by simp)]
  refine wpAny_bind (wpAny_bind (wpAny_setState_of go gd ft ?_))
  dsimp only
  refine wpAny_bind (wpAny_bind (wpAny_askSetting (wpAny_pure ?_)))
  rw[show(Setting.params ⟨(model prog w).prog,(model prog w).w.params⟩).followText "set-order" = true from bt',if_pos rfl]
  refine wpAny_bind (wpAny_askSetting (wpAny_pure (wpAny_pure ?_)))
  have hx:(pickOrder (w.params.setOrder a ep) es)[i]?=none:=by
   rw[Mq]
   rw[ilv,Jr,JR]
   exact Jw _
  rw[JC,JC,show(pickOrder ((Setting.params ⟨(model prog w).prog,(model prog w).w.params⟩).setOrder a ep) es)[i]?=none from hx]
  exact xI hh gI (by simp) q
 ·dsimp only[rawInt]
  unfold setNext setsByText
  refine wpAny_bind (wpAny_bind (wpAny_setState_of go gd ft ?_))
  dsimp only
  refine wpAny_bind (wpAny_bind (wpAny_askSetting (wpAny_pure ?_)))
  have bt':w.params.followText "set-order" = false:=bt
  rw[show(Setting.params ⟨(model prog w).prog,(model prog w).w.params⟩).followText "set-order" = false from bt',if_neg (by simp)]
  refine wpAny_ite_split (fun c=>absurd (show(!t.plain&&decide (es.size > 1))=true from c) (by rw[dr];simp)) fun _=>?_
  have led:t.led=true:=by rw[ld,bt];rfl
  refine wpAny_bind ?_
  show wpAny _ _ (if(!t.led&&!es.isEmpty)=true then _ else _) _ _ _
  rw[led]
  refine wpAny_pure (wpAny_pure ?_)
  have ie:i=es.size:=by omega
  rw[JC,wW tg (by omega)]
  rw[Mq (by omega:es.size<=i),Mq (by omega:t.place.size<=i)]
  exact xI hh gI (by simp) q
 ·dsimp only[rawInt]
  refine wpAny_bind (wpAny_seqItems gt gtd ?_)
  dsimp only
  have ip:pl.length<=i:=by omega
  rw[JC,List.getElem?_toArray,Jy,LS ip]
  dsimp only[Option.map]
  refine wpAny_bind (wpAny_setField_rec gI (by simp) fun h1 g1 s1=>?_)
  exact xI (s:={ s with heap:=h1 }) hh g1 (by simp) fun h' x=>q h' fun b o hb e=>x b o hb ((s1.2 b hb).trans e)
theorem Eu{h h':Heap}{I a tp:Addr}{ord:List Int}{i:Nat}(x:ItAt prog w h I a tp ord i)(k:∀ b∈[I,a,tp],∀ o,h.get? b=some o->h'.get? b=some o):ItAt prog w h' I a tp ord i:=by
 obtain⟨o,es,ep,t,first,vs,go,gx,gd,ft,tg,ld,gI,ia,vl,md⟩:=x
 refine⟨o,es,ep,t,first,vs,k a (by simp) _ go,gx,gd,ft,tg,ld,k I (by simp) _ gI,ia,vl,?_⟩
 rcases md with z | z | ⟨bt,pl,ot,c,e,tI,ta,gt,r⟩
 ·exact .inl z
 ·exact .inr (.inl z)
 ·exact .inr (.inr ⟨bt,pl,ot,c,e,tI,ta,k tp (by simp) _ gt,r⟩)
theorem Gx(hh:A.handled=none)(I a tp:Addr)(aI:a≠I)(ord:List Int):Walks prog w A I [I,a,tp] [I] ord.length (fun i v=>∃ t n,ord[i]?=some n/\v=.int n t) (fun i h=>ItAt prog w h I a tp ord i) where
 sub:=fun b hb=>by simp at hb;simp[hb]
 frame:=fun _ _ _ st hk=>Eu st hk
 item:=fun i s Q E hi st hQ=>by
  refine IL st (Jp hi) aI fun t h' it' sb=>?_
  exact hQ _ h' s.toks ⟨t,_,Jp hi,rfl⟩ it' fun b o hb e=>sb.extBut b o (fun h=>hb (by simp[h])) e
 done:=fun s Q E st hQ=>IM hh st rfl aI fun h' eb=>hQ h' s.toks fun b o hb e=>eb b o (fun h=>hb (by simp[h])) e
 self:=fun _ s Q _ st h=>by
  obtain⟨o,es,ep,t,first,vs,go,gx,gd,ft,tg,ld,gI,ia,vl,md⟩:=st
  have hT:s.TypeIs (.ref I) "set_iterator":=⟨_,gI,rfl⟩
  refine wpAny_pyIter_slot hT qV (wpAny_call_entry qV hT Cp ?_ (CU _))
  show wpAny _ _ (ret (.ref I)) _ _ s
  exact wpAny_pure ⟨_,rfl,"set_iterator",_,hT,cP.lookup,h⟩
theorem GB{r:Addr}{Q:Bool->Shared->Prop} (hT:s.TypeIs (.ref r) "set") (h:Q false s):wpAny (model prog w) A (Builtin.List.listLengthHint (.ref r)) Q E s:=by
 unfold Builtin.List.listLengthHint
 refine wpAny_bind (wpAny_specialOf hT PySem.F.slot_set_len.lookup ?_)
 generalize hid:("set.__len__" : String)=id0
 wp_delta
 rw[show splitId id0=some ("set","__len__") from by subst hid;decide +kernel]
 subst hid
 refine wpAny_bind (wpAny_isInstance (T:="set") (b:=true) hT (by rw[isSubtype_type];kernel_rfl) ?_)
 refine wpAny_ite_split (fun hab=>absurd hab (by decide)) (fun _=>?_)
 refine wpAny_ite_split (fun _=>?_) (fun hab=>absurd (by decide +kernel) hab)
 refine wpAny_bind (wpAny_typeOf hT ?_)
 exact wpAny_pure h
theorem SetG.len{h:Heap}{a:Addr}{l:List Int}(g:SetG prog w h a l):l.length<scanBound:=by
 obtain⟨o,es,ep,t,go,gx,gd,el,⟨ns,ia,pm⟩,nd,sz,ft,tg,ld⟩:=g
 have:=(eN ia).1
 rw[Jr,JR,pm.length_eq]at this
 omega
theorem SetG.typ{a:Addr}{l:List Int}(g:SetG prog w s.heap a l):s.TypeIs (.ref a) "set":=by
 obtain⟨o,es,ep,t,go,gx,r⟩:=g
 exact⟨o,go,gx.1⟩
theorem SetG.lt{h:Heap}{a:Addr}{l:List Int}(g:SetG prog w h a l):a<h.objs.size:=by
 obtain⟨o,es,ep,t,go,gx,r⟩:=g
 exact Heap.lt_size go
theorem z6{a:Addr}{l:List Int}{Q:List Value->Shared->Prop}(hh:A.handled=none)(g:SetG prog w s.heap a l)
  (h:∀(h':Heap)(tk:Nat)(d:Drawn)(acc:Array Value)(ord:List Int),(∀ b o,s.heap.get? b=some o->h'.get? b=some o)->s.heap.objs.size<h'.objs.size->ord.Perm l->ItemsOf (fun i v=>∃ t n,ord[i]?=some n/\v=.int n t) acc ord.length->Q acc.toList { s with heap:=h',toks:=tk,drawn:=d }):wpAny (model prog w) A (collect (.ref a)) Q E s:=by
 unfold collect
 refine wpAny_bind (wpAny_runValue (codeAny_builtin entry_proto_collect' ?_))
 show wpAny _ _ (do again (.builtin "list.__iadd__" ⟨[← newList [],.ref a],[]⟩)) _ _ s
 refine wpAny_bind (wpAny_newList (wpAny_pure ⟨Code.quiet_builtin _ (by decide +kernel),codeAny_builtin entry_list_iadd' ?_⟩))
 rw[Around.under_plainId Nu _]
 show wpAny _ A.in1 (Builtin.List.listExtendWith (.ref s.heap.objs.size) (.ref a) (.ref s.heap.objs.size)) _ _ { s with heap:=s.heap.push (seqObj "list" #[] 0) }
 have g1:SetG prog w (s.heap.push (seqObj "list" #[] 0)) a l:=g.keeps fun o e=>Heap.get?_push_of_some _ e
 have aS:s.heap.objs.size≠a:=K7 g.lt
 have hS:(s.heap.push (seqObj "list" #[] 0)).get? s.heap.objs.size=some { cls:=.type "list",data:=.seq #[] 0 }:=Heap.get?_push_size _ rfl
 unfold Builtin.List.listExtendWith
 refine wpAny_bind (wpAny_typeOf (T:="set") g1.typ ?_)
 have h1:Builtin.List.listSameRef (.ref s.heap.objs.size) (.ref a)=false:=by simp[Builtin.List.listSameRef,aS]
 simp only[h1,show(Value.type "set" == Value.type "list")=false by decide,show(Value.type "set" == Value.type "tuple")=false by decide,Bool.or_false,Kt,if_false]
 refine wpAny_bind (Fx g1 fun I tp h2 d ord k2 lI sI lt st pm it=>?_)
 have z1:(s.heap.push (seqObj "list" #[] 0)).objs.size=s.heap.objs.size+1:=Heap.size_push ..
 rw[z1]at lI lt
 have SI:s.heap.objs.size≠I:=JN lI
 have ST:s.heap.objs.size≠tp:=JN lt
 have aI:a≠I:=JN (Lp g.lt lI)
 have hSf:s.heap.objs.size∉[I,a,tp]:=by simp only[Ju,KG,or_false,not_or];exact⟨SI,aS,ST⟩
 have hn:ord.length<=sizeLine:=by
  rw[pm.length_eq]
  exact Kk (Lp g.len (by decide))
 have key:∀(h3:Heap)(c₁ tk:Nat),ItAt prog w h3 I a tp ord 0->(∀ b o,b≠s.heap.objs.size->h2.get? b=some o->h3.get? b=some o) ->
   h3.get? s.heap.objs.size=some { cls:=.type "list",data:=.seq #[] c₁ }->codeAny (model prog w) A (.builtin "list.extend.loop" ⟨[.ref s.heap.objs.size,.ref I,.ref s.heap.objs.size],[]⟩) (fun r s'=>∃ h' tk d acc' c',r=.ok (.ret (.ref s.heap.objs.size))/\s'={ s with heap:=h',toks:=tk,drawn:=d }/\(∀ b o,s.heap.get? b=some o->h'.get? b=some o)/\h'.get? s.heap.objs.size=some { cls:=.type "list",dict:=none,data:=.seq acc' c',slots:=#[] }/\ItemsOf (fun i v=>∃ t n,ord[i]?=some n/\v=.int n t) acc' ord.length) { s with heap:=h3,toks:=tk,drawn:=d }:=by
  intro h3 c₁ tk hst hk hS₁
  refine codeAny_extend_loopS (Gx (A:=A.in1) hh I a tp aI ord).toS hn _ hSf _ ord.length 0 _ #[] c₁ rfl (Ku _) hst hS₁ (ItemsOf.nil _) fun s' acc' c' hm hS' hacc=>?_
  rw[Moved.eq_with hm]
  refine⟨s'.heap,s'.toks,d,acc',c',rfl,rfl,fun b o e=>hm.heap b o (fun hmem=>?_) (hk b o (JN (Heap.lt_size e)) (k2 b o (Heap.get?_push_of_some _ e))),hS',hacc⟩
  rcases Ju.mp hmem with e' | hmem
  ·exact absurd (Heap.lt_size e) (by rw[e'];exact KD _)
  ·exact absurd (Heap.lt_size e) (by rw[JI.mp hmem];exact LU (Kk lI))
 have fin:∀(r:Result)(s':Shared),(∃ h' tk d acc' c',r=.ok (.ret (.ref s.heap.objs.size))/\s'={ s with heap:=h',toks:=tk,drawn:=d }/\(∀ b o,s.heap.get? b=some o->h'.get? b=some o)/\h'.get? s.heap.objs.size=some { cls:=.type "list",dict:=none,data:=.seq acc' c',slots:=#[] }/\ItemsOf (fun i v=>∃ t n,ord[i]?=some n/\v=.int n t) acc' ord.length)->∃ v,r=.ok (.ret v)/\v=.ref s.heap.objs.size/\wpAny (model prog w) A (do
   let o ← load s.heap.objs.size
   match o.data with
   |.seq xs _=>pure xs.toList
   |_=>unsupported "internal:collect") Q E s':=fun r s' ⟨h',tk,d,acc',c',e1,e2,hk,hS,hacc⟩=>⟨_,e1,rfl,by
  subst e2
  refine wpAny_bind (wpAny_load hS ?_)
  exact wpAny_pure (h h' tk d acc' ord hk (Heap.lt_size hS) pm hacc)⟩
 have hS₁:=k2 _ _ hS
 have g2:SetG prog w h2 a l:=g1.keeps fun o e=>k2 _ _ e
 refine wpAny_bind (wpAny_holding (GB (s:={ s with heap:=h2,drawn:=d }) g2.typ ?_))
 refine wpAny_ite_split (fun _=>?_) (fun _=>wpAny_pure ⟨plainId_quiet LG _,codeAny_mono (key _ 0 _ it (fun b o _ e=>e) hS₁) fun r s'' q'=>?_⟩)
 rotate_left
 ·obtain⟨v,e1,e2,z⟩:=fin _ _ q'
  cases e1
  cases e2
  exact z
 refine wpAny_bind (wpAny_rule ?_)
 refine wpAny_bind ?_
 show wpAny _ _ (updateSeq s.heap.objs.size (·.push .none) >>= fun _=>updateSeq s.heap.objs.size (·.pop)) _ _ _
 refine wpAny_bind (wpAny_updateSeq hS₁ rfl ?_)
 have hS₂:=Heap.get?_update_self (Obj.mapSeq (·.push Value.none)) hS₁ rfl
 refine wpAny_updateSeq (hz:=by seq_fits) hS₂ rfl ?_
 have hS₃:=Heap.get?_update_self (Obj.mapSeq (·.pop)) hS₂ rfl
 have oth:∀ b o,b≠s.heap.objs.size->h2.get? b=some o->((h2.update s.heap.objs.size (Obj.mapSeq (·.push Value.none))).update s.heap.objs.size (Obj.mapSeq (·.pop))).get? b=some o:=fun b o hb e=>(Heap.get?_update_other _ _ (Ne.symm hb)).trans ((Heap.get?_update_other _ _ (Ne.symm hb)).trans e)
 refine wpAny_pure ⟨plainId_quiet LG _,codeAny_mono (key _ _ _ (Eu it fun b hb o e=>oth b o (fun z=>hSf (z▸hb)) e) oth hS₃) fun r s'' q'=>?_⟩
 obtain⟨v,e1,e2,z⟩:=fin _ _ q'
 cases e1
 cases e2
 exact z
end
section
variable{X:Cx}{pins:List (Addr×Obj)}{σ:List (Option V)}{H:Hp}{s:Shared}
theorem Inv.drew{d:Drawn}(I:Inv X pins σ H s):Inv X pins σ H { s with drawn:=d }:=⟨I.ok,I.os,I.bare,I.base,I.loc,I.cell,I.free,I.freeC,I.pin,I.hok,I.len⟩
def setO(P:Program)(w:World)(a:Addr)(l:List Int):HO:=.ext fun h=>SetG P w h a l
def rSetI(P:Program)(w:World)(K:Js):List V->Hp->VK->Prop:=fun xs H Q=>∃(p:Addr)(ns:List Int),xs = [.ref p]/\SqL K H p (ns.map V.int)/\ns.length+1<4096/\∀ a:Addr,H a=none->Q (.ref a) (upd H a (setO P w a (ns.foldl addN [])))
theorem EZ(hc:X.calm=true){P:Program}{w:World}{K:Js}(eP:X.prog=P)(eW:X.w=w)(eK:X.K=K):kY X (.type "set") (rSetI P w K):=by
 subst eP eW eK
 intro pins s σ H xs us Q I r h
 obtain⟨p,ns,rfl,hq,few,q⟩:=h
 obtain⟨u,rfl,ru⟩:=rQ r
 cases ru
 obtain⟨its,rv,pl,hz⟩:=I.list hq
 have hi:=jj rv
 have hl:=rv.length
 rw[Jr]at hl
 refine yc (I.ok.hd hc) pl.isList hi (by rw[JW,← hl];exact few) fun h' tk g k=>?_
 refine⟨.ref s.heap.objs.size,_,I.laid (t':=tk) k (Jw _) (show bI X.prog X.w _ _ _ (setO X.prog X.w s.heap.objs.size (ns.foldl addN [])) from⟨g,?_,fun h1 h2 g1 k1=>g1.keeps k1⟩),rfl,q _ (I.hok.fresh (Jw _))⟩
 obtain⟨o,es,ep,t,g1,r⟩:=g
 exact⟨o,g1⟩
theorem G4(ns:List Int):∀(l:List Int)(x:Int),x∈ns.foldl addN l↔x∈l∨x∈ns:=by
 induction ns with
 |nil=>intro l x;simp
 |cons n ns ih =>
  intro l x
  rw[Na,ih,Ju]
  unfold addN
  split
  ·rename_i c
   exact⟨fun z=>z.elim .inl fun y=>.inr (.inr y),fun z=>z.elim .inl fun y=>y.elim (fun e=>.inl (e▸c)) .inr⟩
  ·rw[JA,JI]
   exact⟨fun z=>z.elim (fun y=>y.elim .inl fun e=>.inr (.inl e)) fun y=>.inr (.inr y),fun z=>z.elim (fun y=>.inl (.inl y)) fun y=>y.elim (fun e=>.inl (.inr e)) .inr⟩
def rSortS(P:Program)(w:World):List V->Hp->VK->Prop:=fun xs H Q=>∃(a:Addr)(ms:List Int),xs = [.ref a]/\H a=some (setO P w a ms)/\∀(l:Addr)(out:List Int),H l=none->(∀ x,x∈out↔x∈ms)->out.Pairwise (· < ·)->Q (.ref l) (upd H l (.lst (out.map V.int)))
theorem CI(hc:X.calm=true){P:Program}{w:World}(eP:X.prog=P)(eW:X.w=w):kY X (.builtin "sorted") (rSortS P w):=by
 subst eP eW
 intro pins s σ H xs us Q I r h
 obtain⟨a,ms,rfl,ha,q⟩:=h
 obtain⟨u,rfl,ru⟩:=rQ r
 cases ru
 obtain⟨g,_,_⟩:=(show bI X.prog X.w H s.heap a (setO X.prog X.w a ms) from I.hok a _ ha)
 have g:SetG X.prog X.w s.heap a ms:=g
 have nd:ms.Nodup:=let ⟨_,_,_,_,_,_,_,_,_,nd,_⟩:=g;nd
 refine Calls.call_function_entry kind_sorted plain_sorted entry_sorted (args_sorted1 _) ?_
 unfold Builtin.«sorted»
 refine wpAny_bind (m:=checkCount "sorted" 1 1 _) (wpAny_pure ?_)
 refine wpAny_bind (z6 (I.ok.hd hc) g fun h' tk d acc' ord hk hlt pm hacc=>?_)
 have hi:IntsAre acc'.toList ord:=by
  have all:∀(vs:List Value)(ns:List Int),vs.length=ns.length->(∀(j:Nat) v,vs[j]?=some v->∃ t n,ns[j]?=some n/\v=.int n t)->IntsAre vs ns:=fun vs=>by
   induction vs with
   |nil=>intro ns e _;rw[M0 e.symm];exact .nil
   |cons v vs ih =>
    intro ns e k
    cases ns with
    |nil=>cases e
    |cons n ns =>
     obtain⟨t,m,e1,e2⟩:=k 0 v rfl
     cases e1
     rw[e2]
     exact .cons _ _ (ih ns (MV e) fun j v e=>k (j+1) v e)
  exact all _ _ (by rw[JR];exact hacc.1) fun j v e=>hacc.2 j v (by rw[← KC];exact e)
 have hlen:acc'.toList.length<=sizeLine:=by
  rw[JR,hacc.1,pm.length_eq]
  exact Kk (Lp g.len (by decide))
 refine wpAny_bind (wpAny_newList ?_ hlen)
 have hoL:(h'.push (seqObj "list" acc'.toList.toArray 0)).get? h'.objs.size=some (seqObj "list" acc'.toList.toArray 0):=Heap.get?_push_size _ rfl
 show wpAny _ _ _ _ _ { s with heap:=h'.push (seqObj "list" acc'.toList.toArray 0),toks:=tk,drawn:=d }
 have keepH:∀(out:Array Value)(b:Addr)(o:Obj),s.heap.get? b=some o->(sortedHeap (h'.push (seqObj "list" acc'.toList.toArray 0)) h'.objs.size acc'.toList out).get? b=some o:=fun out b o e=>by
  have e2:=hk b o e
  rw[sortedHeap_old (JN (Heap.lt_size e2)) (by rw[Heap.size_push];exact KW (Heap.lt_size e2))]
  exact Heap.get?_push_of_some _ e2
 have hsz:s.heap.objs.size<=h'.objs.size:=Kk hlt
 refine wpAny_bind (wpAny_holding (wpAny_call_entry slot_list_sort ⟨_,hoL,rfl⟩ entry_list_sort (AK hoL hi hlen fun out ns' a1 a2 a3=>⟨_,rfl,?_⟩) (args_list_sort _)))
 obtain⟨e,he⟩:=sortedHeap_at (out:=out) hoL
 have pm2:=a2.trans pm
 refine wpAny_pure ⟨_,rfl,?_⟩
 refine⟨.ref h'.objs.size,_,(I.laid (t':=tk) (keepH out) hsz (show bI X.prog X.w _ _ _ (.lst (ns'.map V.int)) from⟨?_,out.toList,e,rP a1,?_⟩)).drew,rfl,q _ ns' (I.hok.fresh hsz) (fun x=>pm2.mem_iff) ?_⟩
 ·rw[Jr,pm2.length_eq]
  exact Kk (Lp g.len (by decide))
 ·exact he
 ·exact(List.Pairwise.and a3 (pm2.nodup_iff.mpr nd)).imp fun{x y} ⟨h1,h2⟩=>by
   have h1':x<=y:=h1
   omega
end
end L2
namespace L2
theorem len_0{α:Type}{l:List α}(h:l.length=0):l = []:=LK.mp h
theorem Cd{α:Type}{l:List α}{n:Nat}(h:l.length=n+1):∃ x r,l=x::r/\r.length=n:=by
 cases l with
 |nil=>cases h
 |cons x r=>exact⟨x,r,rfl,MV h⟩
theorem Ek{α:Type}{l:List α}(h:l.length=1):∃ a,l = [a]:=by
 obtain⟨a,r,rfl,e⟩:=Cd h
 exact⟨a,by rw[len_0 e]⟩
theorem gJ{α:Type}{l:List α}(h:l.length=2):∃ a b,l = [a,b]:=by
 obtain⟨a,r,rfl,e⟩:=Cd h
 obtain⟨b,rfl⟩:=Ek e
 exact⟨a,b,rfl⟩
theorem qI{α:Type}{l:List α}(h:l.length=3):∃ a b c,l = [a,b,c]:=by
 obtain⟨a,r,rfl,e⟩:=Cd h
 obtain⟨b,c,rfl⟩:=gJ e
 exact⟨a,b,c,rfl⟩
theorem Ej{α:Type}{l:List α}(h:l.length=4):∃ a b c d,l = [a,b,c,d]:=by
 obtain⟨a,r,rfl,e⟩:=Cd h
 obtain⟨b,c,d,rfl⟩:=qI e
 exact⟨a,b,c,d,rfl⟩
theorem Gn{α:Type}{l:List α}(h:l.length=5):∃ a b c d e,l = [a,b,c,d,e]:=by
 obtain⟨a,r,rfl,z⟩:=Cd h
 obtain⟨b,c,d,e,rfl⟩:=Ej z
 exact⟨a,b,c,d,e,rfl⟩
theorem len_6{α:Type}{l:List α}(h:l.length=6):∃ a b c d e f,l = [a,b,c,d,e,f]:=by
 obtain⟨a,r,rfl,z⟩:=Cd h
 obtain⟨b,c,d,e,f,rfl⟩:=Gn z
 exact⟨a,b,c,d,e,f,rfl⟩
end L2
namespace K8
theorem Ha:∀{a b:List Nat},a.Nodup->(∀ x∈a,x∈b)->a.length<=b.length
 |[],_,_,_=>Ku _
 |x::a,b,nd,h=>by
  obtain⟨n1,n2⟩:=Jz.mp nd
  have hx:=h x (by simp)
  have ih:=Ha (a:=a) (b:=b.erase x) n2 fun y hy=>(List.mem_erase_of_ne (fun e:y=x=>n1 (e▸hy))).mpr (h y (JB _ hy))
  rw[List.length_erase_of_mem hx]at ih
  have:0<b.length:=Lh hx
  rw[J2]
  omega
theorem dz{a:List Nat}{N:Nat}(nd:a.Nodup)(h:∀ x∈a,x<N):a.length<=N:=by
 have:=Ha (b:=KO N) nd fun x hx=>Md.mpr (h x hx)
 rwa[LC]at this
theorem A5{l:List Nat}(nd:l.Nodup){i j x:Nat}(hi:l[i]?=some x)(hj:l[j]?=some x):i=j:=by
 have p:=Kw.mp nd
 obtain⟨h1,e1⟩:=Jo.mp hi
 obtain⟨h2,e2⟩:=Jo.mp hj
 rcases Mf i j with z | z | z
 ·exact absurd (e1.trans e2.symm) (p i j h1 h2 z)
 ·exact z
 ·exact absurd (e2.trans e1.symm) (p j i h2 h1 z)
abbrev En:=List (Nat×Nat)
structure bF(m:Nat)(es:En)(ts:List (List Nat)):Prop where
 len:ts.length=m
 ends:∀ e∈es,e.1<m/\e.2<m/\e.1≠e.2
 nd:∀(p:Nat)(l:List Nat),ts[p]?=some l->l.Nodup
 mem:∀(p:Nat)(l:List Nat),ts[p]?=some l->∀ t,t∈l↔∃ e,es[t]?=some e/\(e.1=p∨e.2=p)
theorem Fp(m:Nat):bF m [] (K5 m []) where
 len:=by simp
 ends:=fun e h=>by cases h
 nd:=fun p l h=>by
  rw[Lq]at h
  split at h
  ·cases h;exact K6
  ·cases h
 mem:=fun p l h t=>by
  rw[Lq]at h
  split at h
  ·cases h;simp
  ·cases h
def ins(l:List Nat)(k x:Nat):List Nat:=l.take k++x::l.drop k
theorem zz{l:List Nat}{k x y:Nat}:y∈ins l k x↔y=x∨y∈l:=by
 unfold ins
 rw[JA,Ju]
 have:=JT k l
 constructor
 ·rintro(h | h | h)
  ·exact .inr (KH h)
  ·exact .inl h
  ·exact .inr (KI h)
 ·rintro(h | h)
  ·exact .inr (.inl h)
  ·rw[← this]at h
   rcases JA.mp h with z | z
   ·exact .inl z
   ·exact .inr (.inr z)
theorem EC{l:List Nat}{k x:Nat}(nd:l.Nodup)(h:x∉l):(ins l k x).Nodup:=by
 unfold ins
 have e:=JT k l
 rw[← e]at nd
 obtain⟨a,b,c⟩:=JE.mp nd
 refine JE.mpr ⟨a,Jz.mpr ⟨fun z=>h (KI z),b⟩,fun y hy z hz=>?_⟩
 rcases Ju.mp hz with q | q
 ·intro w
  exact h (by rw[← q,← w];exact KH hy)
 ·exact c y hy z q
theorem bF.put{m:Nat}{es:En}{ts:List (List Nat)}{one two k j:Nat}{l l':List Nat}(w:bF m es ts)(h1:one<m)(h2:two<m)(hn:one≠two)(e1:ts[one]?=some l)(e2:ts[two]?=some l') :
  bF m (es++[(one,two)]) ((ts.set one (ins l k es.length)).set two (ins l' j es.length)):=by
 have old:∀{p l},ts[p]?=some l->es.length∉l:=fun{p l} e z=>by
  obtain⟨x,hx,_⟩:=(w.mem p l e es.length).mp z
  have:=(Jo.mp hx).1
  omega
 have get:∀ p q,((ts.set one (ins l k es.length)).set two (ins l' j es.length))[p]?=some q->(p=two/\q=ins l' j es.length)∨(p=one/\p≠two/\q=ins l k es.length)∨(p≠one/\p≠two/\ts[p]?=some q):=fun p q e=>by
  have L:two<(ts.set one (ins l k es.length)).length:=by rw[Ke,w.len];exact h2
  have L1:one<ts.length:=by rw[w.len];exact h1
  rw[Kc]at e
  by_cases z:two=p
  ·rw[if_pos z,if_pos L]at e
   exact .inl ⟨z.symm,(JL e).symm⟩
  ·rw[if_neg z,Kc]at e
   by_cases y:one=p
   ·rw[if_pos y,if_pos L1]at e
    exact .inr (.inl ⟨y.symm,Ne.symm z,(JL e).symm⟩)
   ·rw[if_neg y]at e
    exact .inr (.inr ⟨Ne.symm y,Ne.symm z,e⟩)
 have esg:∀ t x,(es++[(one,two)])[t]?=some x↔(es[t]?=some x)∨(t=es.length/\x=(one,two)):=fun t x=>by
  by_cases z:t<es.length
  ·rw[Jx z]
   constructor
   ·exact .inl
   ·rintro(y | y)
    ·exact y
    ·omega
  ·rw[Jv (by omega)]
   constructor
   ·intro y
    have hl:=(Jo.mp y).1
    rw[JF]at hl
    have ht:t=es.length:=by omega
    subst ht
    rw[JV]at y
    cases y
    exact .inr ⟨rfl,rfl⟩
   ·rintro(y | ⟨y,rfl⟩)
    ·have:=(Jo.mp y).1;omega
    ·rw[y,JV];rfl
 refine⟨by rw[Ke,Ke];exact w.len,fun e he=>?_,fun p q e=>?_,fun p q e t=>?_⟩
 ·rcases JA.mp he with z | z
  ·exact w.ends e z
  ·have:e=(one,two):=by simpa using z
   subst this
   exact⟨h1,h2,hn⟩
 ·rcases get p q e with⟨_,rfl⟩ | ⟨_,_,rfl⟩ | ⟨_,_,y⟩
  ·exact EC (w.nd two l' e2) (old e2)
  ·exact EC (w.nd one l e1) (old e1)
  ·exact w.nd p q y
 ·rcases get p q e with⟨rfl,rfl⟩ | ⟨rfl,np,rfl⟩ | ⟨n1,n2,y⟩
  ·rw[zz,w.mem p l' e2 t]
   constructor
   ·rintro(z | ⟨x,hx,hp⟩)
    ·exact⟨(one,p),(esg _ _).mpr (.inr ⟨z,rfl⟩),.inr rfl⟩
    ·exact⟨x,(esg _ _).mpr (.inl hx),hp⟩
   ·rintro⟨x,hx,hp⟩
    rcases(esg _ _).mp hx with z | ⟨z,_⟩
    ·exact .inr ⟨x,z,hp⟩
    ·exact .inl z
  ·rw[zz,w.mem p l e1 t]
   constructor
   ·rintro(z | ⟨x,hx,hp⟩)
    ·exact⟨(p,two),(esg _ _).mpr (.inr ⟨z,rfl⟩),.inl rfl⟩
    ·exact⟨x,(esg _ _).mpr (.inl hx),hp⟩
   ·rintro⟨x,hx,hp⟩
    rcases(esg _ _).mp hx with z | ⟨z,_⟩
    ·exact .inr ⟨x,z,hp⟩
    ·exact .inl z
  ·rw[w.mem p q y t]
   constructor
   ·rintro⟨x,hx,hp⟩
    exact⟨x,(esg _ _).mpr (.inl hx),hp⟩
   ·rintro⟨x,hx,hp⟩
    rcases(esg _ _).mp hx with z | ⟨z,rfl⟩
    ·exact⟨x,z,hp⟩
    ·rcases hp with hp | hp
     ·exact absurd hp.symm n1
     ·exact absurd hp.symm n2
def hd(es:En)(d:Nat):Nat:=match es[d/2]? with | some e=>if d%2=0 then e.2 else e.1 | none=>0
def tl(es:En)(d:Nat):Nat:=match es[d/2]? with | some e=>if d%2=0 then e.1 else e.2 | none=>0
def qJ(es:En)(t p:Nat):Nat:=match es[t]? with | some e=>if e.1=p then 2*t else 2*t+1 | none=>0
def nxt(l:List Nat)(t:Nat):Nat:=(l[(l.idxOf t+1)%l.length]?).getD 0
def fol(es:En)(ts:List (List Nat))(d:Nat):Nat:=qJ es (nxt ((ts[hd es d]?).getD []) (d/2)) (hd es d)
section
variable{m:Nat}{es:En}{ts:List (List Nat)}
theorem zA{l:List Nat}{t:Nat}(h:t∈l):l[l.idxOf t]?=some t:=by
 have hl:=Mg.mpr h
 rw[Jp hl,List.getElem_idxOf]
theorem jF{l:List Nat}{t:Nat}(h:t∈l):l[(l.idxOf t+1)%l.length]?=some (nxt l t):=by
 have hl:0<l.length:=Lh h
 have:=Np (l.idxOf t+1) hl
 unfold nxt
 rw[Jp this]
 rfl
theorem bF.at(w:bF m es ts){d:Nat}(h:d<2*es.length):∃ e l,es[d/2]?=some e/\hd es d=(if d%2=0 then e.2 else e.1)/\tl es d=(if d%2=0 then e.1 else e.2)/\hd es d<m/\ts[hd es d]?=some l/\d/2∈l:=by
 have hl:d/2<es.length:=by omega
 have e1:es[d/2]?=some es[d/2]:=Jp hl
 have q:=w.ends _ (Jq e1)
 generalize es[d/2]=e at e1 q
 have h1:hd es d=(if d%2=0 then e.2 else e.1):=by unfold hd;rw[e1]
 have h2:tl es d=(if d%2=0 then e.1 else e.2):=by unfold tl;rw[e1]
 have h3:hd es d<m:=by rw[h1];split<;>omega
 have h4:ts[hd es d]?=some (ts[hd es d]'(by rw[w.len];exact h3)):=Jp _
 refine⟨e,_,e1,h1,h2,h3,h4,(w.mem _ _ h4 _).mpr ⟨e,e1,?_⟩⟩
 rw[h1]
 split
 ·exact .inr rfl
 ·exact .inl rfl
theorem bF.foll(w:bF m es ts){d:Nat}(h:d<2*es.length):∃ l e,ts[hd es d]?=some l/\d/2∈l/\es[nxt l (d/2)]?=some e/\(e.1=hd es d∨e.2=hd es d)/\e.1≠e.2/\fol es ts d=(if e.1=hd es d then 2*nxt l (d/2) else 2*nxt l (d/2)+1)/\fol es ts d<2*es.length/\fol es ts d/2=nxt l (d/2)/\tl es (fol es ts d)=hd es d:=by
 obtain⟨e0,l,h1,h2,h3,h4,h5,h6⟩:=w.at h
 have hn:=jF h6
 obtain⟨e,he,hp⟩:=(w.mem _ _ h5 _).mp (Jq hn)
 have hlt:=(Jo.mp he).1
 have hne:=(w.ends e (Jq he)).2.2
 have hf:fol es ts d=(if e.1=hd es d then 2*nxt l (d/2) else 2*nxt l (d/2)+1):=by
  unfold fol
  rw[h5]
  show qJ es (nxt l (d/2)) (hd es d)=_
  unfold qJ
  rw[he]
 refine⟨l,e,h5,h6,he,hp,hne,hf,?_,?_,?_⟩
 ·rw[hf];split<;>omega
 ·rw[hf];split<;>omega
 ·rw[hf]
  by_cases z:e.1=hd es d
  ·have a1:2*nxt l (d/2)/2=nxt l (d/2):=by omega
   have a2:2*nxt l (d/2)%2=0:=by omega
   rw[if_pos z]
   unfold tl
   rw[a1,he]
   show(if 2*nxt l (d/2)%2=0 then e.1 else e.2)=_
   rw[if_pos a2,z]
  ·have a1:(2*nxt l (d/2)+1)/2=nxt l (d/2):=by omega
   have a2:¬ (2*nxt l (d/2)+1)%2=0:=by omega
   rw[if_neg z]
   unfold tl
   rw[a1,he]
   show(if(2*nxt l (d/2)+1)%2=0 then e.1 else e.2)=_
   rw[if_neg a2]
   exact hp.elim (fun y=>absurd y z) id
theorem bF.inj(w:bF m es ts){a b:Nat}(ha:a<2*es.length)(hb:b<2*es.length)(h:fol es ts a=fol es ts b):a=b:=by
 obtain⟨l,e,p1,p2,_,_,_,_,_,p3,p4⟩:=w.foll ha
 obtain⟨l',e',q1,q2,_,_,_,_,_,q3,q4⟩:=w.foll hb
 have hh:hd es a=hd es b:=by rw[← p4,← q4,h]
 rw[hh,q1]at p1
 cases p1
 have hx:nxt l (a/2)=nxt l (b/2):=by rw[← p3,← q3,h]
 have g1:=jF p2
 have g2:=jF q2
 rw[hx]at g1
 have ii:=A5 (w.nd _ _ q1) g1 g2
 have i1:=Mg.mpr p2
 have i2:=Mg.mpr q2
 have ix:l.idxOf (a/2)=l.idxOf (b/2):=by
  generalize l.idxOf (a/2)=x at *
  generalize l.idxOf (b/2)=y at *
  by_cases z1:x+1=l.length
  ·by_cases z2:y+1=l.length
   ·omega
   ·rw[z1,Mt,Li (by omega)]at ii;omega
  ·by_cases z2:y+1=l.length
   ·rw[z2,Mt,Li (by omega)]at ii;omega
   ·rw[Li (by omega),Li (by omega)]at ii;omega
 have ht:a/2=b/2:=by
  have g3:=zA p2
  have g4:=zA q2
  rw[ix,g4]at g3
  exact(JL g3).symm
 obtain⟨e1,_,r1,r2,_,_,_,_⟩:=w.at ha
 obtain⟨e2,_,s1,s2,_,_,_,_⟩:=w.at hb
 rw[ht,s1]at r1
 have ee:e2=e1:=JL r1
 rw[ee]at s1 s2
 have hne:=(w.ends e1 (Jq s1)).2.2
 rw[r2,s2]at hh
 have:a%2=b%2:=by
  by_cases z1:a%2=0<;>by_cases z2:b%2=0
  ·omega
  ·rw[if_pos z1,if_neg z2]at hh;exact absurd hh.symm hne
  ·rw[if_neg z1,if_pos z2]at hh;exact absurd hh hne
  ·omega
 omega
end
structure Fg(f:Nat->Nat)(N:Nat):Prop where
 lt:∀ d,d<N->f d<N
 inj:∀ a b,a<N->b<N->f a=f b->a=b
structure Path(f:Nat->Nat)(N first:Nat)(r:List Nat):Prop where
 hd:r[0]?=some first
 lt:∀ d∈r,d<N
 nd:r.Nodup
 nx:∀ i x y,r[i]?=some x->r[i+1]?=some y->y=f x
theorem FQ{f:Nat->Nat}{N d:Nat}(h:d<N):Path f N d [d] where
 hd:=rfl
 lt:=fun x hx=>by have:x=d:=by simpa using hx
                  rw[this];exact h
 nd:=by simp
 nx:=fun i x y h1 h2=>by
  have:=(Jo.mp h2).1
  rw[JF]at this
  omega
theorem Path.snoc{f:Nat->Nat}{N d x:Nat}{r:List Nat}(p:Fg f N)(h:Path f N d (r++[x]))(hn:f x≠d):Path f N d (r++[x]++[f x]) where
 hd:=by rw[Jx (by rw[Jt,JF];omega)];exact h.hd
 lt:=fun y hy=>by
  rcases JA.mp hy with z | z
  ·exact h.lt y z
  ·have:y=f x:=by simpa using z
   rw[this];exact p.lt x (h.lt x (by simp))
 nd:=by
  refine JE.mpr ⟨h.nd,by simp,fun a ha b hb e=>?_⟩
  have eb:b=f x:=by simpa using hb
  subst eb
  obtain⟨i,hi⟩:=Kd.mp ha
  rw[e]at hi
  have hil:=(Jo.mp hi).1
  rw[Jt,JF]at hil
  cases i with
  |zero =>
   rw[h.hd]at hi
   exact hn (JL hi).symm
  |succ i =>
   have gi:(r++[x])[i]?=some ((r++[x])[i]'(by rw[Jt,JF];omega)):=Jp _
   have:=h.nx i _ _ gi hi
   have mi:=h.lt _ (Jq gi)
   have mx:=h.lt x (by simp)
   have e2:=p.inj _ _ mx mi this
   rw[← e2]at gi
   have gx:(r++[x])[r.length]?=some x:=by rw[Jv (Jw _),JV];rfl
   have:=A5 h.nd gi gx
   omega
 nx:=fun i a b h1 h2=>by
  have h2l:=(Jo.mp h2).1
  rw[Jt,Jt,JF,JF]at h2l
  rw[Jx (by rw[Jt,JF];omega)]at h1
  by_cases z:i+1<(r++[x]).length
  ·rw[Jx z]at h2
   exact h.nx i a b h1 h2
  ·rw[Jt,JF]at z
   have ei:i=r.length:=by omega
   subst ei
   rw[Jv (by rw[Jt,JF];omega)]at h2
   have:r.length+1-(r++[x]).length=0:=by rw[Jt,JF];omega
   rw[this]at h2
   rw[Jv (Jw _),JV]at h1
   have e1:x=a:=JL h1
   have e2:f x=b:=JL h2
   rw[← e2,e1]
structure Ring(f:Nat->Nat)(N:Nat)(r:List Nat):Prop where
 lt:∀ d∈r,d<N
 nd:r.Nodup
 ne:0<r.length
 nx:∀ i x,r[i]?=some x->r[(i+1)%r.length]?=some (f x)
theorem Path.ring{f:Nat->Nat}{N d x:Nat}{r:List Nat}(p:Fg f N)(h:Path f N d (r++[x]))(he:f x=d):Ring f N (r++[x]) where
 lt:=h.lt
 nd:=h.nd
 ne:=by rw[Jt,JF];omega
 nx:=fun i y hy=>by
  have hl:=(Jo.mp hy).1
  by_cases z:i+1=(r++[x]).length
  ·rw[z,Mt]
   have:i=r.length:=by rw[Jt,JF]at z;omega
   subst this
   rw[Jv (Jw _),JV]at hy
   have:x=y:=JL hy
   subst this
   rw[he];exact h.hd
  ·have l2:i+1<(r++[x]).length:=by omega
   rw[Li l2]
   have g:=Jp l2
   rw[g,h.nx i _ _ hy g]
theorem Ring.back{f:Nat->Nat}{N a:Nat}{r:List Nat}(p:Fg f N)(h:Ring f N r)(ha:a<N)(hf:f a∈r):a∈r:=by
 obtain⟨i,hi⟩:=Kd.mp hf
 have hl:=(Jo.mp hi).1
 have key:∃ j,j<r.length/\(j+1)%r.length=i:=by
  cases i with
  |zero=>exact⟨r.length-1,by have:=h.ne;omega,by have:=h.ne;rw[show r.length-1+1=r.length by omega,Mt]⟩
  |succ i=>exact⟨i,by omega,Li hl⟩
 obtain⟨j,hj,ej⟩:=key
 have g:=Jp hj
 have q:=h.nx j _ g
 rw[ej,hi]at q
 have mj:=h.lt _ (Jq g)
 have:=p.inj _ _ ha mj (JL q)
 rw[this]
 exact Jq g
structure eY(f:Nat->Nat)(N i:Nat)(rs:List (List Nat)):Prop where
 ring:∀ r∈rs,Ring f N r
 hdl:∀ r∈rs,∀ h,r[0]?=some h->h<i/\∀ d∈r,h<=d
 asc:∀(a b:Nat)(r r':List Nat)(h h':Nat),a<b->rs[a]?=some r->rs[b]?=some r'->r[0]?=some h->r'[0]?=some h'->h<h'
 nd:rs.flatten.Nodup
 all:∀ d,d<i->d∈rs.flatten
theorem BF(f:Nat->Nat)(N:Nat):eY f N 0 [] where
 ring:=fun r h=>by cases h
 hdl:=fun r h=>by cases h
 asc:=fun a b r r' h h' _ e=>by cases e
 nd:=by simp
 all:=fun d h=>by omega
theorem eY.skip{f:Nat->Nat}{N i:Nat}{rs:List (List Nat)}(w:eY f N i rs)(h:i∈rs.flatten):eY f N (i+1) rs where
 ring:=w.ring
 hdl:=fun r hr x hx=>⟨by have:=(w.hdl r hr x hx).1;omega,(w.hdl r hr x hx).2⟩
 asc:=w.asc
 nd:=w.nd
 all:=fun d hd=>by
  by_cases z:d=i
  ·rw[z];exact h
  ·exact w.all d (by omega)
theorem eY.put{f:Nat->Nat}{N i:Nat}{rs:List (List Nat)}{r:List Nat}(p:Fg f N)(w:eY f N i rs)(h:i∉rs.flatten)(hi:i<N)(hr:Ring f N r)(pa:Path f N i r):eY f N (i+1) (rs++[r]):=by
 have apart:∀(k x:Nat),r[k]?=some x->x∉rs.flatten:=fun k=>by
  induction k with
  |zero =>
   intro x hx
   rw[pa.hd]at hx
   cases hx
   exact h
  |succ k ih =>
   intro x hx z
   have hl:=(Jo.mp hx).1
   have g:=Jp (show k<r.length by omega)
   have e:=pa.nx k _ _ g hx
   obtain⟨q,hq,zq⟩:=Ks.mp z
   rw[e]at zq
   exact ih _ g (Ks.mpr ⟨q,hq,(w.ring q hq).back p (hr.lt _ (Jq g)) zq⟩)
 have least:∀ d∈r,i<=d:=fun d hd=>by
  obtain⟨k,hk⟩:=Kd.mp hd
  by_cases z:i<=d
  ·exact z
  ·exact absurd (w.all d (by omega)) (apart k d hk)
 refine⟨fun q hq=>?_,fun q hq x hx=>?_,fun a b q q' x x' hab ha hb hx hx'=>?_,?_,fun d hd=>?_⟩
 ·rcases JA.mp hq with z | z
  ·exact w.ring q z
  ·have:q=r:=by simpa using z
   rw[this];exact hr
 ·rcases JA.mp hq with z | z
  ·have:=w.hdl q z x hx
   exact⟨by omega,this.2⟩
  ·have e:q=r:=by simpa using z
   subst e
   rw[pa.hd]at hx
   cases hx
   exact⟨by omega,least⟩
 ·have bl:=(Jo.mp hb).1
  rw[Jt,JF]at bl
  rw[Jx (by omega)]at ha
  by_cases z:b<rs.length
  ·rw[Jx z]at hb
   exact w.asc a b q q' x x' hab ha hb hx hx'
  ·have eb:b=rs.length:=by omega
   subst eb
   rw[Jv (Jw _),JV]at hb
   have e:r=q':=JL hb
   subst e
   rw[pa.hd]at hx'
   cases hx'
   exact(w.hdl q (Jq ha) x hx).1
 ·rw[KU]
  have e : [r].flatten=r:=by simp
  rw[e]
  refine JE.mpr ⟨w.nd,hr.nd,fun a ha b hb e=>?_⟩
  obtain⟨k,hk⟩:=Kd.mp hb
  exact apart k b hk (e▸ha)
 ·rw[KU,JA]
  by_cases z:d=i
  ·right
   rw[z]
   simp
   exact Jq pa.hd
  ·exact .inl (w.all d (by omega))
theorem IT{rs:List (List Nat)}(nd:rs.flatten.Nodup){a b:Nat}{r r':List Nat}{d:Nat}(ha:rs[a]?=some r)(hb:rs[b]?=some r')(h1:d∈r)(h2:d∈r'):a=b:=by
 induction rs generalizing a b with
 |nil=>cases ha
 |cons q rs ih =>
  rw[JS]at nd
  obtain⟨_,n2,n3⟩:=JE.mp nd
  cases a with
  |zero =>
   cases b with
   |zero=>rfl
   |succ b =>
    have e:q=r:=JL ha
    subst e
    exact absurd rfl (n3 d h1 d (Ks.mpr ⟨r',Jq hb,h2⟩))
  |succ a =>
   cases b with
   |zero =>
    have e:q=r':=JL hb
    subst e
    exact absurd rfl (n3 d h2 d (Ks.mpr ⟨r,Jq ha,h1⟩))
   |succ b=>exact congrArg Nat.succ (ih n2 ha hb)
end K8
namespace K8
def hG(f:Nat->Nat):Nat->List Nat->Nat->Prop
 |x,[],z=>f x=z
 |x,y::l,z=>f x=y/\hG f y l z
theorem cf{f:Nat->Nat}:∀{x:Nat}{l:List Nat}{y:Nat}{k:List Nat}{z:Nat},hG f x (l++y::k) z↔hG f x l y/\hG f y k z
 |x,[],y,k,z=>Iff.rfl
 |x,a::l,y,k,z=>by
  show(f x=a/\hG f a (l++y::k) z)↔(f x=a/\hG f a l y)/\hG f y k z
  rw[cf,and_assoc]
theorem fJ{f g:Nat->Nat}:∀{x y:Nat}{l:List Nat}{z:Nat},hG f x l z->g y=f x->(∀ t∈l,g t=f t)->hG g y l z
 |x,y,[],z,h,e,_=>e.trans h
 |x,y,a::l,z,h,e,k=>⟨e.trans h.1,fJ h.2 (k a (JD ..)) fun t ht=>k t (JB _ ht)⟩
theorem kM{f g F:Nat->Nat}:∀{x:Nat}{l:List Nat}{z:Nat},hG f x l z->(∀ t∈x::l,g (F t)=F (f t))->hG g (F x) (l.map F) (F z)
 |x,[],z,h,k=>by
  show g (F x)=F z
  rw[k x (JD ..),show f x=z from h]
 |x,a::l,z,h,k=>⟨by rw[k x (JD ..),h.1],kM h.2 fun t ht=>k t (JB _ ht)⟩
theorem pJ{f:Nat->Nat}{S:Nat->Prop}:∀{x:Nat}{l:List Nat}{z:Nat},hG f x l z->(∀ t∈x::l,S t->S (f t))->S x->S z/\∀ t∈l,S t
 |x,[],z,h,k,s=>⟨by have:=k x (JD ..) s;rwa[show f x=z from h]at this,fun t ht=>nomatch ht⟩
 |x,a::l,z,h,k,s=>by
  have s1:S a:=by have:=k x (JD ..) s;rwa[h.1]at this
  obtain⟨h1,h2⟩:=pJ h.2 (fun t ht=>k t (JB _ ht)) s1
  refine⟨h1,fun t ht=>?_⟩
  rcases Ju.mp ht with y | y
  ·rw[y];exact s1
  ·exact h2 t y
structure CR(f:Nat->Nat)(N:Nat)(r:List Nat):Prop where
 ch:∃ x l,r=x::l/\hG f x l x
 lt:∀ d∈r,d<N
 nd:r.Nodup
theorem CR.closed{f:Nat->Nat}{N:Nat}{r:List Nat}(h:CR f N r):∀ d∈r,f d∈r:=by
 obtain⟨x,l,rfl,c⟩:=h.ch
 intro d hd
 rcases Ju.mp hd with y | y
 ·subst y
  cases l with
  |nil=>rw[show f d=d from c];exact JD ..
  |cons a l=>rw[c.1];simp
 ·obtain⟨A,B,rfl⟩:=Mb y
  have c2:=(cf.mp c).2
  cases B with
  |nil=>rw[show f d=x from c2];exact JD ..
  |cons a B=>rw[c2.1];simp
theorem CR.sub{f:Nat->Nat}{N:Nat}{r:List Nat}{S:Nat->Prop}(h:CR f N r)(k:∀ t∈r,S t->S (f t)){d:Nat}(hd:d∈r)(s:S d):∀ t∈r,S t:=by
 obtain⟨x,l,rfl,c⟩:=h.ch
 have fromx:S x->∀ t∈x::l,S t:=fun sx t ht=>by
  rcases Ju.mp ht with y | y
  ·rw[y];exact sx
  ·exact(pJ c k sx).2 t y
 rcases Ju.mp hd with y | y
 ·exact fromx (y▸s)
 ·obtain⟨A,B,rfl⟩:=Mb y
  have c2:=(cf.mp c).2
  exact fromx (pJ c2 (fun t ht=>k t (by simp only[Ju,JA]at ht ⊢;rcases ht with z | z<;>simp[z])) s).1
theorem CR.same{f:Nat->Nat}{N:Nat}{r r':List Nat}(h:CR f N r)(h':CR f N r'){d:Nat}(h1:d∈r)(h2:d∈r'):∀ t∈r,t∈r':=h.sub (S:=fun t=>t∈r') (fun t _=>h'.closed t) h1 h2
theorem CR.ne{f:Nat->Nat}{N:Nat}{r:List Nat}(h:CR f N r):∃ d,d∈r:=by
 obtain⟨x,l,rfl,_⟩:=h.ch
 exact⟨x,JD ..⟩
structure Part(f:Nat->Nat)(N:Nat)(rs:List (List Nat)):Prop where
 cr:∀ r∈rs,CR f N r
 nd:rs.flatten.Nodup
 all:∀ d,d<N->d∈rs.flatten
theorem Part.pick{f:Nat->Nat}{N:Nat}{rs:List (List Nat)}(p:Part f N rs){r:List Nat}(h:CR f N r):∃ rest,Part f N (r::rest)/\rest.length+1=rs.length:=by
 obtain⟨d,hd⟩:=h.ne
 obtain⟨r0,m1,m2⟩:=Ks.mp (p.all d (h.lt d hd))
 have c0:=p.cr r0 m1
 have s1:=h.same c0 hd m2
 have s2:=c0.same h m2 hd
 obtain⟨A,B,rfl⟩:=Mb m1
 have nd:=p.nd
 rw[KU,JS]at nd
 obtain⟨n1,n2,n3⟩:=JE.mp nd
 obtain⟨n4,n5,n6⟩:=JE.mp n2
 refine⟨A++B,⟨fun q hq=>?_,?_,fun y hy=>?_⟩,by simp;omega⟩
 ·rcases Ju.mp hq with z | z
  ·rw[z];exact h
  ·refine p.cr q ?_
   rcases JA.mp z with z | z
   ·simp[z]
   ·simp[z]
 ·rw[JS,KU]
  refine JE.mpr ⟨h.nd,JE.mpr ⟨n1,n5,fun a ha b hb=>n3 a ha b (by simp[hb])⟩,fun a ha b hb=>?_⟩
  rcases JA.mp hb with z | z
  ·exact fun e=>n3 b z a (Kh _ (s1 a ha)) e.symm
  ·exact n6 a (s1 a ha) b z
 ·have:=p.all y hy
  rw[KU,JS]at this
  rw[JS,KU]
  simp only[JA]at this ⊢
  rcases this with z | z | z
  ·exact .inr (.inl z)
  ·exact .inl (s2 y z)
  ·exact .inr (.inr z)
theorem Part.same:∀{rs qs:List (List Nat)}{f:Nat->Nat}{N:Nat},Part f N rs->Part f N qs->rs.length=qs.length:=by
 have le:∀(k:Nat){rs qs:List (List Nat)}{f:Nat->Nat}{N:Nat},Part f N rs->Part f N qs->rs.length<=qs.length:=by
  intro _ rs qs f N p q
  have g:∀ r∈rs,∃ i,i<qs.length/\∃ r',qs[i]?=some r'/\∀ t∈r',t∈r:=fun r hr=>by
   have c:=p.cr r hr
   obtain⟨d,hd⟩:=c.ne
   obtain⟨r',m1,m2⟩:=Ks.mp (q.all d (c.lt d hd))
   obtain⟨i,hi⟩:=Kd.mp m1
   exact⟨i,(Jo.mp hi).1,r',hi,(q.cr r' m1).same c m2 hd⟩
  have:∀(l:List (List Nat)),(∀ r∈l,r∈rs)->l.flatten.Nodup->∃ is:List Nat,is.length=l.length/\is.Nodup/\∀ i∈is,i<qs.length/\∃ r∈l,∃ r',qs[i]?=some r'/\∀ t∈r',t∈r:=fun l=>by
   induction l with
   |nil=>intro _ _;exact⟨[],rfl,K6,fun i hi=>nomatch hi⟩
   |cons r l ih =>
    intro h nd
    rw[JS]at nd
    obtain⟨n1,n2,n3⟩:=JE.mp nd
    obtain⟨is,e1,e2,e3⟩:=ih (fun r hr=>h r (JB _ hr)) n2
    obtain⟨i,h1,r',h2,h3⟩:=g r (h r (JD ..))
    refine⟨i::is,by simp[e1],Jz.mpr ⟨fun z=>?_,e2⟩,fun j hj=>?_⟩
    ·obtain⟨_,r2,m2,r3,m3,m4⟩:=e3 i z
     rw[h2]at m3
     cases m3
     obtain⟨d,hd⟩:=(q.cr r' (Jq h2)).ne
     exact n3 d (h3 d hd) d (Ks.mpr ⟨r2,m2,m4 d hd⟩) rfl
    ·rcases Ju.mp hj with z | z
     ·subst z;exact⟨h1,r,JD ..,r',h2,h3⟩
     ·obtain⟨k1,r2,k2,k3⟩:=e3 j z
      exact⟨k1,r2,JB _ k2,k3⟩
  obtain⟨is,e1,e2,e3⟩:=this rs (fun _ h=>h) p.nd
  rw[← e1]
  exact dz e2 fun i hi=>(e3 i hi).1
 intro rs qs f N p q
 exact Nat.le_antisymm (le 0 p q) (le 0 q p)
theorem Ring.cr{f:Nat->Nat}{N:Nat}{r:List Nat}(h:Ring f N r):CR f N r:=by
 refine⟨?_,h.lt,h.nd⟩
 have ne:=h.ne
 match r,h,ne with
 |x::l,h,_ =>
  refine⟨x,l,rfl,?_⟩
  have key:∀(k i:Nat)(y:Nat),i+k+1=(x::l).length->(x::l)[i]?=some y->hG f y ((x::l).drop (i+1)) x:=fun k=>by
   induction k with
   |zero =>
    intro i y hi hy
    have e:=h.nx i y hy
    rw[show(i+1)%(x::l).length=0 by rw[← hi];simp]at e
    rw[List.drop_of_length_le (by omega)]
    exact(JL e).symm
   |succ k ih =>
    intro i y hi hy
    have e:=h.nx i y hy
    rw[Li (by omega)]at e
    obtain⟨hl,e2⟩:=Jo.mp e
    rw[KQ hl,e2]
    exact⟨rfl,ih (i+1) (f y) (by omega) e⟩
  exact key l.length 0 x (by simp) rfl
theorem eY.part{f:Nat->Nat}{N:Nat}{rs:List (List Nat)}(w:eY f N N rs):Part f N rs:=⟨fun r hr=>(w.ring r hr).cr,w.nd,w.all⟩
end K8
namespace K8
theorem wa{A B:List Nat}{t:Nat}(h:t∉A):(A++t::B).idxOf t=A.length:=by
 rw[List.idxOf_append,if_neg h,MD,Nat.zero_add]
theorem ba{A B:List Nat}{t:Nat}(h:t∉A):nxt (A++t::B) t=((B++(A++t::B)).head?).getD 0:=by
 unfold nxt
 rw[wa h]
 cases B with
 |nil =>
  have e:(A.length+1)%(A++[t]).length=0:=by rw[Jt,JF,Mt]
  rw[e,Mw,Mo]
 |cons b B =>
  have e:(A.length+1)%(A++t::b::B).length=A.length+1:=Li (by simp)
  rw[e,Jv (by omega)]
  rw[show A.length+1-A.length=1 by omega]
  rfl
theorem EB{A B:List Nat}{u n:Nat}(h:u∉A):ins (A++u::B) ((A++u::B).idxOf u+1) n=A++u::n::B:=by
 rw[wa h]
 unfold ins
 have e1:(A++u::B).take (A.length+1)=A++[u]:=by
  rw[List.take_append,Kg (by omega),show A.length+1-A.length=1 by omega]
  rfl
 have e2:(A++u::B).drop (A.length+1)=B:=by simp
 rw[e1,e2]
 simp
theorem gD{l:List Nat}{u:Nat}(h:u∈l):∃ A B,l=A++u::B/\u∉A:=by
 induction l with
 |nil=>exact nomatch h
 |cons a l ih =>
  by_cases z:a=u
  ·subst z;exact⟨[],l,rfl,KG⟩
  ·rcases Ju.mp h with y | y
   ·exact absurd y.symm z
   ·obtain⟨A,B,rfl,k⟩:=ih y
    exact⟨a::A,B,rfl,fun w=>by rcases Ju.mp w with w | w;exact z w.symm;exact k w⟩
theorem IA{l:List Nat}{u n:Nat}(hu:u∈l)(hn:n∉l) :
  nxt (ins l (l.idxOf u+1) n) u=n/\nxt (ins l (l.idxOf u+1) n) n=nxt l u/\∀ t∈l,t≠u->nxt (ins l (l.idxOf u+1) n) t=nxt l t:=by
 obtain⟨A,B,rfl,k⟩:=gD hu
 rw[EB k]
 have hnA:n∉A:=fun z=>hn (by simp[z])
 have hnu:n≠u:=fun z=>hn (by simp[z])
 refine⟨?_,?_,fun t ht htu=>?_⟩
 ·rw[ba k];rfl
 ·have e:A++u::n::B=(A++[u])++n::B:=by simp
  rw[e,ba (fun z=>by rcases JA.mp z with z | z;exact hnA z;exact hnu (by simpa using z)),ba k]
  cases B<;>cases A<;>rfl
 ·rcases JA.mp ht with z | z
  ·obtain⟨A1,A2,rfl,k2⟩:=gD z
   have e1:(A1++t::A2)++u::n::B=A1++t::(A2++u::n::B):=by simp
   have e2:(A1++t::A2)++u::B=A1++t::(A2++u::B):=by simp
   rw[e1,e2,ba k2,ba k2]
   cases A2<;>rfl
  ·have z':t∈B:=by
    rcases Ju.mp z with z | z
    ·exact absurd z htu
    ·exact z
   by_cases tA:t∈A
   ·obtain⟨A1,A2,rfl,k2⟩:=gD tA
    have e1:(A1++t::A2)++u::n::B=A1++t::(A2++u::n::B):=by simp
    have e2:(A1++t::A2)++u::B=A1++t::(A2++u::B):=by simp
    rw[e1,e2,ba k2,ba k2]
    cases A2<;>rfl
   ·obtain⟨B1,B2,rfl,k2⟩:=gD z'
    have tn:t≠n:=fun y=>hn (by rw[← y];simp)
    have e1:A++u::n::(B1++t::B2)=(A++u::n::B1)++t::B2:=by simp
    have e2:A++u::(B1++t::B2)=(A++u::B1)++t::B2:=by simp
    rw[e1,e2,ba (by simp[tA,htu,tn,k2]),ba (by simp[tA,htu,k2])]
    cases B2<;>cases A<;>rfl
theorem oV{es:En}{e:Nat×Nat}{t p:Nat}(h:t<es.length):qJ (es++[e]) t p=qJ es t p:=by
 unfold qJ
 rw[Jx h]
theorem oW{es:En}{e:Nat×Nat}{p:Nat}:qJ (es++[e]) es.length p=if e.1=p then 2*es.length else 2*es.length+1:=by
 unfold qJ
 rw[Jv (Jw _),JV]
 rfl
theorem q8{es:En}{e:Nat×Nat}{d:Nat}(h:d<2*es.length):hd (es++[e]) d=hd es d:=by
 unfold hd
 rw[Jx (by omega)]
theorem hd_new{es:En}{e:Nat×Nat}:hd (es++[e]) (2*es.length)=e.2/\hd (es++[e]) (2*es.length+1)=e.1:=by
 have e1:2*es.length/2=es.length:=by omega
 have e2:(2*es.length+1)/2=es.length:=by omega
 constructor
 ·unfold hd
  rw[e1,Jv (Jw _),JV]
  show(if 2*es.length%2=0 then e.2 else e.1)=_
  rw[if_pos (by omega)]
 ·unfold hd
  rw[e2,Jv (Jw _),JV]
  show(if(2*es.length+1)%2=0 then e.2 else e.1)=_
  rw[if_neg (by omega)]
theorem hd_inj{m:Nat}{es:En}{ts:List (List Nat)}(w:bF m es ts){a b:Nat}(ha:a<2*es.length)(hb:b<2*es.length)(h:hd es a=hd es b)(h2:a/2=b/2):a=b:=by
 obtain⟨e1,_,r1,r2,_⟩:=w.at ha
 obtain⟨e2,_,s1,s2,_⟩:=w.at hb
 rw[h2,s1]at r1
 cases r1
 have hne:=(w.ends e1 (Jq s1)).2.2
 rw[r2,s2]at h
 by_cases z1:a%2=0<;>by_cases z2:b%2=0
 ·omega
 ·rw[if_pos z1,if_neg z2]at h;exact absurd h.symm hne
 ·rw[if_neg z1,if_pos z2]at h;exact absurd h hne
 ·omega
def bE(n:Nat)(e:Nat×Nat)(p:Nat):Nat:=if e.1=p then 2*n else 2*n+1
theorem eO{es:En}{ts:List (List Nat)}{d:Nat}{l:List Nat}(h:ts[hd es d]?=some l):fol es ts d=qJ es (nxt l (d/2)) (hd es d):=by
 unfold fol
 rw[h]
 rfl
end K8
namespace K8
theorem bF.flip{m:Nat}{es:En}{ts:List (List Nat)}{a b:Nat}(w:bF m (es++[(a,b)]) ts):bF m (es++[(b,a)]) ts:=by
 have key:∀(x y:Nat)(t p:Nat),(∃ e,(es++[(x,y)])[t]?=some e/\(e.1=p∨e.2=p))->∃ e,(es++[(y,x)])[t]?=some e/\(e.1=p∨e.2=p):=fun x y t p=>by
  rintro⟨e,h1,h2⟩
  by_cases z:t<es.length
  ·rw[Jx z]at h1
   exact⟨e,by rw[Jx z];exact h1,h2⟩
  ·have hl:=(Jo.mp h1).1
   rw[Jt,JF]at hl
   have z':t=es.length:=by omega
   subst z'
   rw[Jv (Jw _),JV]at h1
   cases h1
   exact⟨(y,x),by rw[Jv (Jw _),JV];rfl,h2.symm⟩
 refine⟨w.len,fun e he=>?_,w.nd,fun p l h t=>⟨fun z=>key a b t p ((w.mem p l h t).mp z),fun z=>(w.mem p l h t).mpr (key b a t p z)⟩⟩
 rcases JA.mp he with z | z
 ·exact w.ends e (Kh _ z)
 ·have:e=(b,a):=by simpa using z
  subst this
  obtain⟨h1,h2,h3⟩:=w.ends (a,b) (by simp)
  exact⟨h2,h1,fun y=>h3 y.symm⟩
theorem bF.room{m:Nat}{es:En}{ts:List (List Nat)}(w:bF m es ts):bF (m+1) es (ts++[[]]):=by
 refine⟨by rw[Jt,w.len];rfl,fun e he=>?_,fun p l h=>?_,fun p l h t=>?_⟩
 ·obtain⟨h1,h2,h3⟩:=w.ends e he
  exact⟨by omega,by omega,h3⟩
 all_goals by_cases z:p<ts.length
 ·rw[Jx z]at h
  exact w.nd p l h
 ·have hl:=(Jo.mp h).1
  rw[Jt,JF]at hl
  have z':p=ts.length:=by omega
  subst z'
  rw[Jv (Jw _),JV]at h
  cases h
  exact K6
 ·rw[Jx z]at h
  exact w.mem p l h t
 ·have hl:=(Jo.mp h).1
  rw[Jt,JF]at hl
  have z':p=ts.length:=by omega
  subst z'
  rw[Jv (Jw _),JV]at h
  cases h
  refine⟨(fun y=>nomatch y),?_⟩
  rintro⟨e,h1,h2⟩
  obtain⟨k1,k2,_⟩:=w.ends e (Jq h1)
  have:=w.len
  omega
theorem IZ{m:Nat}{es:En}{ts:List (List Nat)}(w:bF m es ts){p:Nat}{l:List Nat}(h:ts[p]?=some l):es.length∉l:=fun z=>by
 obtain⟨x,hx,_⟩:=(w.mem p l h es.length).mp z
 have:=(Jo.mp hx).1
 omega
theorem lT{m:Nat}{es:En}{ts ts':List (List Nat)}{e:Nat×Nat}{p u:Nat}{l:List Nat}(w:bF m es ts)(hl:ts[p]?=some l)(hu:u<2*es.length)(hp:hd es u=p)(hl':ts'[p]?=some (ins l (l.idxOf (u/2)+1) es.length)) :
  fol (es++[e]) ts' u=bE es.length e p/\(∀ b,b/2=es.length->hd (es++[e]) b=p->fol (es++[e]) ts' b=fol es ts u)/\∀ d,d<2*es.length->d≠u->hd es d=p->fol (es++[e]) ts' d=fol es ts d:=by
 obtain⟨_,l0,_,_,_,_,g5,g6⟩:=w.at hu
 rw[hp,hl]at g5
 cases g5
 have nn:=IZ w hl
 obtain⟨n1,n2,n3⟩:=IA g6 nn
 have lt:∀ t∈l,nxt l t<es.length:=fun t ht=>by
  obtain⟨x,hx,_⟩:=(w.mem p l hl (nxt l t)).mp (Jq (jF ht))
  exact(Jo.mp hx).1
 refine⟨?_,fun b hb hpb=>?_,fun d hd' hne hpd=>?_⟩
 ·rw[eO (l:=ins l (l.idxOf (u/2)+1) es.length) (by rw[q8 hu,hp];exact hl'),n1,q8 hu,hp,oW]
  rfl
 ·rw[eO (l:=ins l (l.idxOf (u/2)+1) es.length) (by rw[hpb];exact hl'),hb,n2,hpb,oV (lt _ g6),eO (l:=l) (by rw[hp];exact hl),hp]
 ·obtain⟨_,l0,_,_,_,_,k5,k6⟩:=w.at hd'
  rw[hpd,hl]at k5
  cases k5
  have tne:d/2≠u/2:=fun z=>hne (hd_inj w hd' hu (hpd.trans hp.symm) z)
  rw[eO (l:=ins l (l.idxOf (u/2)+1) es.length) (by rw[q8 hd',hpd];exact hl'),n3 _ k6 tne,q8 hd',hpd,oV (lt _ k6),eO (l:=l) (by rw[hpd];exact hl),hpd]
theorem oa{m:Nat}{es:En}{ts ts':List (List Nat)}{e:Nat×Nat}(w:bF m es ts){d:Nat}(hd':d<2*es.length)(h:ts'[hd es d]?=ts[hd es d]?):fol (es++[e]) ts' d=fol es ts d:=by
 obtain⟨_,l,_,_,_,_,k5,k6⟩:=w.at hd'
 have lt:nxt l (d/2)<es.length:=by
  obtain⟨x,hx,_⟩:=(w.mem _ l k5 (nxt l (d/2))).mp (Jq (jF k6))
  exact(Jo.mp hx).1
 rw[eO (l:=l) (by rw[q8 hd',h];exact k5),q8 hd',oV lt,eO k5]
theorem aV(n:Nat)(e:Nat×Nat)(p:Nat):bE n e p/2=n:=by
 unfold bE
 split<;>omega
theorem oi{es:En}{one two:Nat}{e:Nat×Nat}(hne:one≠two)(he:e=(one,two)∨e=(two,one)):hd (es++[e]) (bE es.length e one)=two/\hd (es++[e]) (bE es.length e two)=one/\bE es.length e one≠bE es.length e two/\∀ d,d<2*(es.length+1)->d<2*es.length∨d=bE es.length e one∨d=bE es.length e two:=by
 obtain⟨h1,h2⟩:=hd_new (es:=es) (e:=e)
 unfold bE
 rcases he with he | he
 ·have c1:e.1=one:=by rw[he]
  have c2:¬ e.1=two:=by rw[he];exact hne
  have c3:e.2=two:=by rw[he]
  rw[if_pos c1,if_neg c2,h1,h2]
  exact⟨c3,c1,by omega,fun d hd=>by omega⟩
 ·have c1:e.1=two:=by rw[he]
  have c2:¬ e.1=one:=by rw[he];exact fun z=>hne z.symm
  have c3:e.2=one:=by rw[he]
  rw[if_pos c1,if_neg c2,h1,h2]
  exact⟨c1,c3,by omega,fun d hd=>by omega⟩
def par(S:Nat->Bool):List Nat->Bool
 |[]=>false
 |d::l=>S (d/2) ^^ par S l
theorem aU(S:Nat->Bool)(d:Nat)(l:List Nat):par S (d::l)=(S (d/2) ^^ par S l):=rfl
theorem yG(S:Nat->Bool):∀ a b:List Nat,par S (a++b)=(par S a ^^ par S b)
 |[],b=>by show par S b=(false ^^ par S b);rw[Bool.false_xor]
 |x::a,b=>by rw[Lj,aU,aU,yG S a b,Nk]
theorem AW(S:Nat->Bool){a b:List Nat}(p:a.Perm b):par S a=par S b:=by
 induction p with
 |nil=>rfl
 |cons x _ ih=>rw[aU,aU,ih]
 |swap x y l=>rw[aU,aU,aU,aU,← Nk,← Nk,Nv (S (y/2))]
 |trans _ _ a b=>exact a.trans b
theorem DU(S:Nat->Bool)(σ:Nat->Nat):∀ l:List Nat,par S (l.map fun d=>2*σ (d/2)+d%2)=par (fun t=>S (σ t)) l
 |[]=>rfl
 |d::l=>by
  rw[Kl,aU,aU,DU S σ l,show(2*σ (d/2)+d%2)/2=σ (d/2) by omega]
def Jn(es:En)(S Pl:Nat->Bool):Prop:=∀(t:Nat)(e:Nat×Nat),es[t]?=some e->S t=(Pl e.1 ^^ Pl e.2)
theorem Bj{es:En}{S Pl:Nat->Bool}(h:Jn es S Pl){d:Nat}(hd':d<2*es.length):S (d/2)=(Pl (tl es d) ^^ Pl (hd es d)):=by
 have e1:es[d/2]?=some (es[d/2]'(by omega)):=Jp _
 rw[h _ _ e1]
 unfold tl hd
 rw[e1]
 show _=(Pl (if d%2=0 then es[d/2].1 else es[d/2].2) ^^ Pl (if d%2=0 then es[d/2].2 else es[d/2].1))
 split
 ·rfl
 ·exact Nv _ _
theorem Bi{m:Nat}{es:En}{ts:List (List Nat)}{S Pl:Nat->Bool}(w:bF m es ts)(h:Jn es S Pl):∀{x:Nat}{l:List Nat}{z:Nat},hG (fol es ts) x l z->x<2*es.length->(∀ t∈l,t<2*es.length)->z<2*es.length->par S (l++[z])=(Pl (hd es x) ^^ Pl (hd es z))
 |x,[],z,c,hx,_,hz=>by
  obtain⟨_,_,_,_,_,_,_,_,_,_,k⟩:=w.foll hx
  have c':fol es ts x=z:=c
  rw[Mw,aU,Bj h hz,← c',k]
  exact Bool.xor_false _
 |x,a::l,z,c,hx,hl,hz=>by
  obtain⟨_,_,_,_,_,_,_,_,_,_,k⟩:=w.foll hx
  have ha:=hl a (JD ..)
  rw[Lj,aU,Bi w h c.2 ha (fun t ht=>hl t (JB _ ht)) hz,Bj h ha,← c.1,k]
  cases Pl (hd es x)<;>cases Pl (hd es (fol es ts x))<;>cases Pl (hd es z)<;>rfl
structure Gr(m:Nat)(es:En)(ts:List (List Nat)):Prop where
 w:bF m es ts
 part:∃ rs,Part (fol es ts) (2*es.length) rs/\m+rs.length=es.length+2
 conn:∀ S:Nat->Prop,(∀ e∈es,S e.1↔S e.2)->∀ p q,p<m->q<m->S p->S q
 cut:∀ S:Nat->Bool,(∀ r,CR (fol es ts) (2*es.length) r->par S r=false)->∃ Pl:Nat->Bool,Jn es S Pl
theorem CR.mono{f g:Nat->Nat}{N M:Nat}{r:List Nat}(h:CR f N r)(hN:N<=M)(k:∀ t∈r,g t=f t):CR g M r:=by
 obtain⟨x,l,rfl,c⟩:=h.ch
 exact⟨⟨x,l,rfl,fJ c (k x (JD ..)) fun t ht=>k t (JB _ ht)⟩,fun d hd=>Ki (h.lt d hd) hN,h.nd⟩
theorem GU{m:Nat}{es:En}{e:Nat×Nat}(c:∀ S:Nat->Prop,(∀ e∈es,S e.1↔S e.2)->∀ p q,p<m->q<m->S p->S q):∀ S:Nat->Prop,(∀ x∈es++[e],S x.1↔S x.2)->∀ p q,p<m->q<m->S p->S q :=
 fun S h=>c S fun x hx=>h x (Kh _ hx)
theorem Gr.join{m:Nat}{es:En}{ts:List (List Nat)}(g:Gr m es ts){left right one two:Nat}{e:Nat×Nat}{l l' tail:List Nat}(hl:left<2*es.length)(hr:CR (fol es ts) (2*es.length) (left::tail))(hch:hG (fol es ts) left tail left)(hm:right∈left::tail)
  (h1:hd es left=one) (h2:hd es right=two) (hne:one≠two) (he:e=(one,two)∨e=(two,one)) (e1:ts[one]?=some l) (e2:ts[two]?=some l') :
  Gr m (es++[e]) ((ts.set one (ins l (l.idxOf (left/2)+1) es.length)).set two (ins l' (l'.idxOf (right/2)+1) es.length)):=by
 have w:=g.w
 have hrt:right<2*es.length:=hr.lt right hm
 have hlen:=w.len
 have o1:one<m:=by rw[← hlen];exact(Jo.mp e1).1
 have o2:two<m:=by rw[← hlen];exact(Jo.mp e2).1
 have W:bF m (es++[e]) ((ts.set one (ins l (l.idxOf (left/2)+1) es.length)).set two (ins l' (l'.idxOf (right/2)+1) es.length)):=by
  rcases he with rfl | rfl
  ·exact w.put o1 o2 hne e1 e2
  ·exact(w.put o1 o2 hne e1 e2).flip
 have r1:((ts.set one (ins l (l.idxOf (left/2)+1) es.length)).set two (ins l' (l'.idxOf (right/2)+1) es.length))[one]?=some (ins l (l.idxOf (left/2)+1) es.length):=by
  rw[Kc,if_neg (fun z=>hne z.symm),Kc,if_pos rfl,if_pos (by rw[hlen];exact o1)]
 have r2:((ts.set one (ins l (l.idxOf (left/2)+1) es.length)).set two (ins l' (l'.idxOf (right/2)+1) es.length))[two]?=some (ins l' (l'.idxOf (right/2)+1) es.length):=by
  rw[Kc,if_pos rfl,if_pos (by rw[Ke,hlen];exact o2)]
 have r3:∀ p,p≠one->p≠two->((ts.set one (ins l (l.idxOf (left/2)+1) es.length)).set two (ins l' (l'.idxOf (right/2)+1) es.length))[p]?=ts[p]?:=fun p n1 n2=>by
  rw[Kc,if_neg (fun z=>n2 z.symm),Kc,if_neg (fun z=>n1 z.symm)]
 generalize (ts.set one (ins l (l.idxOf (left/2)+1) es.length)).set two (ins l' (l'.idxOf (right/2)+1) es.length)=ts' at W r1 r2 r3
 obtain⟨a1,a2,a3⟩:=lT (e:=e) w e1 hl h1 r1
 obtain⟨b1,b2,b3⟩:=lT (e:=e) w e2 hrt h2 r2
 obtain⟨d1,d2,d3,d4⟩:=oi (es:=es) hne he
 have fa:=b2 _ (aV _ _ _) d1
 have fb:=a2 _ (aV _ _ _) d2
 have els:∀ d,d<2*es.length->d≠left->d≠right->fol (es++[e]) ts' d=fol es ts d:=fun d hd' n1 n2=>by
  by_cases z1:hd es d=one
  ·exact a3 d hd' n1 z1
  ·by_cases z2:hd es d=two
   ·exact b3 d hd' n2 z2
   ·exact oa w hd' (r3 _ z1 z2)
 generalize ha:bE es.length e one=α at *
 generalize hb:bE es.length e two=β at *
 have hα:α/2=es.length:=by rw[← ha];exact aV _ _ _
 have hβ:β/2=es.length:=by rw[← hb];exact aV _ _ _
 have hlr:right≠left:=fun z=>hne (by rw[← h1,← h2,z])
 have hm':right∈tail:=by
  rcases Ju.mp hm with z | z
  ·exact absurd z hlr
  ·exact z
 obtain⟨xs,ys,rfl⟩:=Mb hm'
 obtain⟨c1,c2⟩:=cf.mp hch
 have nd:=hr.nd
 have ltx:∀ t∈xs,t<2*es.length/\t≠left/\t≠right:=fun t ht=>by
  refine⟨hr.lt t (by simp[ht]),fun z=>?_,fun z=>?_⟩
  ·subst z;exact(Jz.mp nd).1 (by simp[ht])
  ·subst z
   have:=(JE.mp (Jz.mp nd).2).2.2 t ht t (by simp)
   exact this rfl
 have lty:∀ t∈ys,t<2*es.length/\t≠left/\t≠right:=fun t ht=>by
  refine⟨hr.lt t (by simp[ht]),fun z=>?_,fun z=>?_⟩
  ·subst z;exact(Jz.mp nd).1 (by simp[ht])
  ·subst z
   exact(Jz.mp (JE.mp (Jz.mp nd).2).2.1).1 ht
 obtain⟨rs,p,cnt⟩:=g.part
 obtain⟨rest,pr,cnt2⟩:=p.pick hr
 have ndr:=pr.nd
 rw[JS]at ndr
 obtain⟨_,nd2,nd3⟩:=JE.mp ndr
 have ltr:∀ t∈rest.flatten,t<2*es.length/\t≠left/\t≠right:=fun t ht=>by
  obtain⟨q,q1,q2⟩:=Ks.mp ht
  exact⟨(pr.cr q (JB _ q1)).lt t q2,fun z=>nd3 left (by simp) t ht z.symm,fun z=>nd3 right (by simp) t ht z.symm⟩
 have hlen2:(es++[e]).length=es.length+1:=by rw[Jt];rfl
 have PP:Part (fol (es++[e]) ts') (2*(es++[e]).length) ((left::α::ys)::(right::β::xs)::rest):=by
  refine⟨fun q hq=>?_,?_,fun d hd'=>?_⟩
  ·rcases Ju.mp hq with z | z
   ·subst z
    refine⟨⟨left,α::ys,rfl,a1,fJ c2 fa fun t ht=>els t (lty t ht).1 (lty t ht).2.1 (lty t ht).2.2⟩,fun d hd'=>?_,?_⟩
    ·rw[hlen2]
     simp only[Ju]at hd'
     rcases hd' with y | y | y
     ·omega
     ·omega
     ·have:=(lty d y).1;omega
    ·refine Jz.mpr ⟨fun y=>?_,Jz.mpr ⟨fun y=>?_,?_⟩⟩
     ·rcases Ju.mp y with y | y
      ·omega
      ·exact(lty _ y).2.1 rfl
     ·have:=(lty _ y).1;omega
     ·exact(Jz.mp (JE.mp (Jz.mp nd).2).2.1).2
   ·rcases Ju.mp z with z | z
    ·subst z
     refine⟨⟨right,β::xs,rfl,b1,fJ c1 fb fun t ht=>els t (ltx t ht).1 (ltx t ht).2.1 (ltx t ht).2.2⟩,fun d hd'=>?_,?_⟩
     ·rw[hlen2]
      simp only[Ju]at hd'
      rcases hd' with y | y | y
      ·omega
      ·omega
      ·have:=(ltx d y).1;omega
     ·refine Jz.mpr ⟨fun y=>?_,Jz.mpr ⟨fun y=>?_,?_⟩⟩
      ·rcases Ju.mp y with y | y
       ·omega
       ·exact(ltx _ y).2.2 rfl
      ·have:=(ltx _ y).1;omega
      ·exact(JE.mp (Jz.mp nd).2).1
    ·refine(pr.cr q (JB _ z)).mono (by rw[hlen2];omega) fun t ht=>?_
     obtain⟨k1,k2,k3⟩:=ltr t (Ks.mpr ⟨q,z,ht⟩)
     exact els t k1 k2 k3
  ·have dis:∀ x∈xs,∀ y∈ys,x≠y:=fun x hx y hy=>(JE.mp (Jz.mp nd).2).2.2 x hx y (by simp[hy])
   rw[JS,JS]
   refine JE.mpr ⟨?_,JE.mpr ⟨?_,nd2,fun a ha b hb=>?_⟩,fun a ha b hb=>?_⟩
   ·refine Jz.mpr ⟨fun y=>?_,Jz.mpr ⟨fun y=>?_,(Jz.mp (JE.mp (Jz.mp nd).2).2.1).2⟩⟩
    ·rcases Ju.mp y with y | y
     ·omega
     ·exact(lty _ y).2.1 rfl
    ·have:=(lty _ y).1;omega
   ·refine Jz.mpr ⟨fun y=>?_,Jz.mpr ⟨fun y=>?_,(JE.mp (Jz.mp nd).2).1⟩⟩
    ·rcases Ju.mp y with y | y
     ·omega
     ·exact(ltx _ y).2.2 rfl
    ·have:=(ltx _ y).1;omega
   ·obtain⟨k1,k2,k3⟩:=ltr b hb
    simp only[Ju]at ha
    rcases ha with y | y | y
    ·exact fun z=>k3 (z▸y)
    ·omega
    ·exact nd3 a (by simp[y]) b hb
   ·simp only[Ju,JA]at ha hb
    rcases hb with(y | y | y) | y
    ·rcases ha with z | z | z
     ·exact fun u=>hlr (by rw[← y,← u,z])
     ·have:=hrt;omega
     ·exact fun u=>(lty a z).2.2 (u.trans y)
    ·rcases ha with z | z | z
     ·omega
     ·omega
     ·have:=(lty a z).1;omega
    ·rcases ha with z | z | z
     ·exact fun u=>(ltx b y).2.1 (u▸z)
     ·have:=(ltx b y).1;omega
     ·exact fun u=>dis b y a z u.symm
    ·obtain⟨k1,k2,k3⟩:=ltr b y
     rcases ha with z | z | z
     ·exact fun u=>k2 (u▸z)
     ·omega
     ·exact nd3 a (by simp[z]) b y
  ·rw[hlen2]at hd'
   simp only[JS,JA,Ju]
   rcases d4 d hd' with y | y | y
   ·have:=pr.all d y
    simp only[JS,JA,Ju]at this
    rcases this with(z | z | z | z) | z
    ·exact .inl (.inl z)
    ·exact .inr (.inl (.inr (.inr z)))
    ·exact .inr (.inl (.inl z))
    ·exact .inl (.inr (.inr z))
    ·exact .inr (.inr z)
   ·exact .inl (.inr (.inl y))
   ·exact .inr (.inl (.inr (.inl y)))
 refine⟨W,⟨_,PP,by rw[hlen2];simp only[J2]at cnt2 ⊢;omega⟩,GU g.conn,fun S ev=>?_⟩
 have e1:=ev _ (PP.cr _ (JD ..))
 have e2:=ev _ (PP.cr _ (JB _ (JD ..)))
 rw[aU,aU,hα]at e1
 rw[aU,aU,hβ]at e2
 have lr:left∈left::(xs++right::ys):=JD ..
 have rr:right∈left::(xs++right::ys):=by simp
 have old:∀ r,CR (fol es ts) (2*es.length) r->par S r=false:=fun r hr'=>by
  by_cases hin:left∈r
  ·have pm:r.Perm (left::(xs++right::ys)):=(L7 hr'.nd hr.nd).mpr fun t=>⟨hr'.same hr hin lr t,hr.same hr' lr hin t⟩
   rw[AW S pm,aU,yG,aU]
   revert e1 e2
   generalize S (left/2)=a
   generalize S (right/2)=b
   generalize S es.length=c
   generalize par S xs=d
   generalize par S ys=f
   cases a<;>cases b<;>cases c<;>cases d<;>cases f<;>decide
  ·refine ev r (hr'.mono (by rw[hlen2];omega) fun t ht=>els t (hr'.lt t ht) (fun z=>hin (z▸ht)) fun z=>hin (hr.same hr' rr (z▸ht) left lr))
 obtain⟨Pl,hP⟩:=g.cut S old
 refine⟨Pl,fun t x hx=>?_⟩
 by_cases ht:t<es.length
 ·rw[Jx ht]at hx
  exact hP t x hx
 ·have ht2:t=es.length:=by
   have:=(Jo.mp hx).1
   rw[hlen2]at this
   omega
  subst ht2
  rw[Jv (Jw _),JV]at hx
  have hx':e=x:=JL hx
  subst hx'
  have tw:=Bi w hP c1 hl (fun t ht=>(ltx t ht).1) hrt
  rw[h1,h2,yG,aU]at tw
  have goal:S es.length=(Pl one ^^ Pl two):=by
   rw[← tw]
   revert e2
   show _->S es.length=(par S xs ^^ (S (right/2) ^^ false))
   generalize S (right/2)=b
   generalize S es.length=c
   generalize par S xs=d
   cases b<;>cases c<;>cases d<;>decide
  rcases he with z | z
  ·rw[z];exact goal
  ·rw[z];exact goal.trans (Nv _ _)
end K8
namespace K8
theorem Gr.leaf{m:Nat}{es:En}{ts:List (List Nat)}(g:Gr m es ts){left one:Nat}{e:Nat×Nat}{l tail:List Nat}(hl:left<2*es.length)(hr:CR (fol es ts) (2*es.length) (left::tail))(hch:hG (fol es ts) left tail left)
  (h1:hd es left=one) (he:e=(one,m)∨e=(m,one)) (e1:ts[one]?=some l) :
  Gr (m+1) (es++[e]) (ts.set one (ins l (l.idxOf (left/2)+1) es.length)++[[es.length]]):=by
 have w:=g.w
 have hlen:=w.len
 have o1:one<m:=by rw[← hlen];exact(Jo.mp e1).1
 have hne:one≠m:=by omega
 have W:bF (m+1) (es++[e]) (ts.set one (ins l (l.idxOf (left/2)+1) es.length)++[[es.length]]):=by
  have q:=w.room.put (one:=one) (two:=m) (k:=l.idxOf (left/2)+1) (j:=0) (l:=l) (l':=[]) (by omega) (by omega) hne (by rw[Jx (by omega)];exact e1) (by rw[Jv (by omega),hlen,JV];rfl)
  have q2:((ts++[[]]).set one (ins l (l.idxOf (left/2)+1) es.length)).set m (ins [] 0 es.length)=ts.set one (ins l (l.idxOf (left/2)+1) es.length)++[[es.length]]:=by
   rw[MC _ _ (by omega),Mu _ _ (by rw[Ke];omega),Ke,hlen,JV]
   rfl
  rw[q2]at q
  rcases he with rfl | rfl
  ·exact q
  ·exact q.flip
 have r1:(ts.set one (ins l (l.idxOf (left/2)+1) es.length)++[[es.length]])[one]?=some (ins l (l.idxOf (left/2)+1) es.length):=by
  rw[Jx (by rw[Ke];omega),Kc,if_pos rfl,if_pos (by omega)]
 have r2:(ts.set one (ins l (l.idxOf (left/2)+1) es.length)++[[es.length]])[m]?=some [es.length]:=by
  rw[Jv (by rw[Ke];omega),Ke,hlen,JV]
  rfl
 have r3:∀ p,p≠one->p<m->(ts.set one (ins l (l.idxOf (left/2)+1) es.length)++[[es.length]])[p]?=ts[p]?:=fun p n1 n2=>by
  rw[Jx (by rw[Ke];omega),Kc,if_neg (fun z=>n1 z.symm)]
 generalize ts.set one (ins l (l.idxOf (left/2)+1) es.length)++[[es.length]]=ts' at W r1 r2 r3
 obtain⟨a1,a2,a3⟩:=lT (e:=e) w e1 hl h1 r1
 obtain⟨d1,d2,d3,d4⟩:=oi (es:=es) hne he
 have fb:=a2 _ (aV _ _ _) d2
 have fa:fol (es++[e]) ts' (bE es.length e one)=bE es.length e m:=by
  rw[eO (l:=[es.length]) (by rw[d1];exact r2),aV,d1]
  have:nxt [es.length] es.length=es.length:=by
   unfold nxt
   rw[MD]
   simp
  rw[this,oW]
  rfl
 have els:∀ d,d<2*es.length->d≠left->fol (es++[e]) ts' d=fol es ts d:=fun d hd' n1=>by
  by_cases z1:hd es d=one
  ·exact a3 d hd' n1 z1
  ·obtain⟨_,_,_,_,_,k4,_⟩:=w.at hd'
   exact oa w hd' (r3 _ z1 k4)
 generalize ha:bE es.length e one=α at *
 generalize hb:bE es.length e m=β at *
 have hα:α/2=es.length:=by rw[← ha];exact aV _ _ _
 have hβ:β/2=es.length:=by rw[← hb];exact aV _ _ _
 have nd:=hr.nd
 have ltt:∀ t∈tail,t<2*es.length/\t≠left:=fun t ht=>⟨hr.lt t (by simp[ht]),fun z=>(Jz.mp nd).1 (z▸ht)⟩
 obtain⟨rs,p,cnt⟩:=g.part
 obtain⟨rest,pr,cnt2⟩:=p.pick hr
 have ndr:=pr.nd
 rw[JS]at ndr
 obtain⟨_,nd2,nd3⟩:=JE.mp ndr
 have ltr:∀ t∈rest.flatten,t<2*es.length/\t≠left:=fun t ht=>by
  obtain⟨q,q1,q2⟩:=Ks.mp ht
  exact⟨(pr.cr q (JB _ q1)).lt t q2,fun z=>nd3 left (by simp) t ht z.symm⟩
 have hlen2:(es++[e]).length=es.length+1:=by rw[Jt];rfl
 have nd4:(left::α::β::tail).Nodup:=by
  refine Jz.mpr ⟨fun y=>?_,Jz.mpr ⟨fun y=>?_,Jz.mpr ⟨fun y=>?_,(Jz.mp nd).2⟩⟩⟩
  ·simp only[Ju]at y
   rcases y with y | y | y
   ·omega
   ·omega
   ·exact(ltt _ y).2 rfl
  ·simp only[Ju]at y
   rcases y with y | y
   ·exact d3 y
   ·have:=(ltt _ y).1;omega
  ·have:=(ltt _ y).1;omega
 have PP:Part (fol (es++[e]) ts') (2*(es++[e]).length) ((left::α::β::tail)::rest):=by
  refine⟨fun q hq=>?_,?_,fun d hd'=>?_⟩
  ·rcases Ju.mp hq with z | z
   ·subst z
    refine⟨⟨left,α::β::tail,rfl,a1,fa,fJ hch fb fun t ht=>els t (ltt t ht).1 (ltt t ht).2⟩,fun d hd'=>?_,nd4⟩
    rw[hlen2]
    simp only[Ju]at hd'
    rcases hd' with y | y | y | y
    ·omega
    ·omega
    ·omega
    ·have:=(ltt d y).1;omega
   ·refine(pr.cr q (JB _ z)).mono (by rw[hlen2];omega) fun t ht=>?_
    obtain⟨k1,k2⟩:=ltr t (Ks.mpr ⟨q,z,ht⟩)
    exact els t k1 k2
  ·rw[JS]
   refine JE.mpr ⟨nd4,nd2,fun a ha b hb=>?_⟩
   obtain⟨k1,k2⟩:=ltr b hb
   simp only[Ju]at ha
   rcases ha with y | y | y | y
   ·exact fun u=>k2 (u▸y)
   ·omega
   ·omega
   ·exact nd3 a (by simp[y]) b hb
  ·rw[hlen2]at hd'
   simp only[JS,JA,Ju]
   rcases d4 d hd' with y | y | y
   ·have:=pr.all d y
    simp only[JS,JA,Ju]at this
    rcases this with(z | z) | z
    ·exact .inl (.inl z)
    ·exact .inl (.inr (.inr (.inr z)))
    ·exact .inr z
   ·exact .inl (.inr (.inl y))
   ·exact .inl (.inr (.inr (.inl y)))
 refine⟨W,⟨_,PP,by rw[hlen2];simp only[J2]at cnt2 ⊢;omega⟩,fun S hS x y hx hy sx=>?_,fun S ev=>?_⟩
 ·-- in one piece
  have hSe:S one↔S m:=by
   have:=hS e (by simp)
   rcases he with rfl | rfl
   ·exact this
   ·exact this.symm
  have old:=g.conn S fun x hx=>hS x (Kh _ hx)
  have toOne:S one:=by
   by_cases z:x<m
   ·exact old x one z o1 sx
   ·have:x=m:=by omega
    subst this
    exact hSe.mpr sx
  by_cases z:y<m
  ·exact old one y o1 z toOne
  ·have:y=m:=by omega
   subst this
   exact hSe.mp toOne
 ·have e1:=ev _ (PP.cr _ (JD ..))
  rw[aU,aU,aU,hα,hβ]at e1
  have old:∀ r,CR (fol es ts) (2*es.length) r->par S r=false:=fun r hr'=>by
   by_cases hin:left∈r
   ·have pm:r.Perm (left::tail):=(L7 hr'.nd hr.nd).mpr fun t=>⟨hr'.same hr hin (JD ..) t,hr.same hr' (JD ..) hin t⟩
    rw[AW S pm,aU]
    revert e1
    generalize S (left/2)=a
    generalize S es.length=c
    generalize par S tail=d
    cases a<;>cases c<;>cases d<;>decide
   ·exact ev r (hr'.mono (by rw[hlen2];omega) fun t ht=>els t (hr'.lt t ht) fun z=>hin (z▸ht))
  obtain⟨Pl,hP⟩:=g.cut S old
  refine⟨fun p=>if p=m then(Pl one ^^ S es.length) else Pl p,fun t x hx=>?_⟩
  by_cases ht:t<es.length
  ·rw[Jx ht]at hx
   obtain⟨b1,b2,_⟩:=w.ends x (Jq hx)
   show S t=((if x.1=m then _ else Pl x.1) ^^ (if x.2=m then _ else Pl x.2))
   rw[if_neg (by omega),if_neg (by omega)]
   exact hP t x hx
  ·have ht2:t=es.length:=by
    have:=(Jo.mp hx).1
    rw[hlen2]at this
    omega
   subst ht2
   rw[Jv (Jw _),JV]at hx
   have hx':e=x:=JL hx
   subst hx'
   rcases he with z | z
   ·rw[z]
    show S es.length=((if one=m then _ else Pl one) ^^ (if m=m then(Pl one ^^ S es.length) else _))
    rw[if_neg hne,if_pos rfl]
    cases Pl one<;>cases S es.length<;>rfl
   ·rw[z]
    show S es.length=((if m=m then(Pl one ^^ S es.length) else _) ^^ (if one=m then _ else Pl one))
    rw[if_neg hne,if_pos rfl]
    cases Pl one<;>cases S es.length<;>rfl
theorem gr_two:Gr 2 [(0,1)] [[0],[0]]:=by
 have W:bF 2 [(0,1)] [[0],[0]]:=by
  refine⟨rfl,fun e he=>?_,fun p l h=>?_,fun p l h t=>?_⟩
  ·have:e=(0,1):=by simpa using he
   subst this
   exact⟨by decide,by decide,by decide⟩
  ·match p,h with
   |0,h=>cases h;decide
   |1,h=>cases h;decide
   |p+2,h=>cases h
  ·have key:(∃ e,([(0,1)]:En)[t]?=some e/\(e.1=p∨e.2=p))↔t=0/\(p=0∨p=1):=by
    constructor
    ·rintro⟨e,h1,h2⟩
     match t,h1 with
     |0,h1=>cases h1;exact⟨rfl,h2.imp Eq.symm Eq.symm⟩
     |t+1,h1=>cases h1
    ·rintro⟨rfl,h2⟩
     exact⟨(0,1),rfl,h2.imp Eq.symm Eq.symm⟩
   rw[key]
   match p,h with
   |0,h=>cases h;simp
   |1,h=>cases h;simp
   |p+2,h=>cases h
 refine⟨W,⟨[[0,1]],⟨fun r hr=>?_,by decide,fun d hd=>?_⟩,rfl⟩,fun S hS p q hp hq sp=>?_,fun S ev=>?_⟩
 ·have:r = [0,1]:=by simpa using hr
  subst this
  exact⟨⟨0,[1],rfl,by decide,(by show fol [(0,1)] [[0],[0]] 1=0;decide)⟩,fun d hd=>by simp at hd ⊢;omega,by decide⟩
 ·have hd2:d<2:=hd
  simp
  omega
 ·have:=hS (0,1) (by simp)
  have h01:S 0↔S 1:=this
  have hp':p=0∨p=1:=by omega
  have hq':q=0∨q=1:=by omega
  rcases hp' with rfl | rfl<;>rcases hq' with rfl | rfl
  ·exact sp
  ·exact h01.mp sp
  ·exact h01.mpr sp
  ·exact sp
 ·refine⟨fun p=>if p=1 then S 0 else false,fun t x hx=>?_⟩
  match t,hx with
  |0,hx =>
   cases hx
   show S 0=((if(0:Nat)=1 then S 0 else false) ^^ (if(1:Nat)=1 then S 0 else false))
   rw[if_neg (by decide),if_pos rfl,Bool.false_xor]
  |t+1,hx=>cases hx
end K8
namespace K8
structure Bij(F:Nat->Nat)(n:Nat):Prop where
 lt:∀ k,k<n->F k<n
 inj:∀ a b,a<n->b<n->F a=F b->a=b
 sur:∀ y,y<n->∃ k,k<n/\F k=y
def ofL(o:List Nat)(k:Nat):Nat:=(o[k]?).getD 0
theorem Br{o:List Nat}{n:Nat}(hl:o.length=n)(nd:o.Nodup)(h:∀ x∈o,x<n):Bij (ofL o) n:=by
 have get:∀ k,k<n->o[k]?=some (ofL o k):=fun k hk=>by
  unfold ofL
  rw[Jp (by omega)]
  rfl
 refine⟨fun k hk=>h _ (Jq (get k hk)),fun a b ha hb e=>A5 nd (get a ha) (by rw[get b hb,e]),fun y hy=>?_⟩
 have hm:y∈o:=by
  by_cases z:y∈o
  ·exact z
  ·have:=dz (a:=y::o) (N:=n) (Jz.mpr ⟨z,nd⟩) fun x hx=>by
    rcases Ju.mp hx with u | u
    ·omega
    ·exact h x u
   rw[J2]at this
   omega
 obtain⟨k,hk⟩:=Kd.mp hm
 have hkl:=(Jo.mp hk).1
 refine⟨k,by omega,?_⟩
 have:=get k (by omega)
 rw[hk]at this
 exact(JL this).symm
theorem oP{F:Nat->Nat}:∀{l:List Nat},l.Nodup->(∀ x∈l,∀ y∈l,F x=F y->x=y)->(l.map F).Nodup
 |[],_,_=>K6
 |a::l,nd,h=>by
  obtain⟨n1,n2⟩:=Jz.mp nd
  refine Jz.mpr ⟨fun z=>?_,oP n2 fun x hx y hy=>h x (JB _ hx) y (JB _ hy)⟩
  obtain⟨x,hx,e⟩:=Kb.mp z
  have:=h x (JB _ hx) a (JD ..) e
  exact n1 (this▸hx)
theorem Iz{F:Nat->Nat}{l:List Nat}{t:Nat}(ht:t∈l)(h:∀ x∈l,F x=F t->x=t):nxt (l.map F) (F t)=F (nxt l t):=by
 obtain⟨A,B,rfl,k⟩:=gD ht
 have k2:F t∉A.map F:=fun z=>by
  obtain⟨x,hx,e⟩:=Kb.mp z
  exact k (h x (by simp[hx]) e▸hx)
 rw[JX,Kl,ba k2,ba k]
 cases B<;>cases A<;>rfl
theorem Iy{X Y:List Nat}{t:Nat}(nd:(X++Y).Nodup)(ht:t∈X++Y):nxt (Y++X) t=nxt (X++Y) t:=by
 obtain⟨n1,n2,n3⟩:=JE.mp nd
 rcases JA.mp ht with z | z
 ·have tY:t∉Y:=fun y=>n3 t z t y rfl
  obtain⟨A,B,rfl,k⟩:=gD z
  have e1:Y++(A++t::B)=(Y++A)++t::B:=by simp
  have e2:(A++t::B)++Y=A++t::(B++Y):=by simp
  rw[e1,e2,ba (by simp[tY,k]),ba k]
  cases B<;>cases Y<;>cases A<;>rfl
 ·have tX:t∉X:=fun y=>n3 t y t z rfl
  obtain⟨A,B,rfl,k⟩:=gD z
  have e1:(A++t::B)++X=A++t::(B++X):=by simp
  have e2:X++(A++t::B)=(X++A)++t::B:=by simp
  rw[e1,e2,ba k,ba (by simp[tX,k])]
  cases B<;>cases X<;>cases A<;>rfl
structure Ren(m:Nat)(es es2:En)(ts ts2:List (List Nat))(π σ:Nat->Nat):Prop where
 pi:Bij π m
 si:Bij σ es.length
 l1:es2.length=es.length
 l2:ts2.length=m
 es:∀(k:Nat)(e:Nat×Nat),es[k]?=some e->es2[σ k]?=some (π e.1,π e.2)
 ts:∀(p:Nat)(l:List Nat),ts[p]?=some l->∃ X Y,l=X++Y/\ts2[π p]?=some ((Y++X).map σ)
section
variable{m:Nat}{es es2:En}{ts ts2:List (List Nat)}{π σ:Nat->Nat}
theorem Ren.es'(R:Ren m es es2 ts ts2 π σ){j:Nat}{x:Nat×Nat}(h:es2[j]?=some x):∃ k e,σ k=j/\es[k]?=some e/\x=(π e.1,π e.2):=by
 have hj:=(Jo.mp h).1
 rw[R.l1]at hj
 obtain⟨k,hk,rfl⟩:=R.si.sur j hj
 have e1:es[k]?=some es[k]:=Jp hk
 have:=R.es k _ e1
 rw[h]at this
 exact⟨k,_,rfl,e1,JL this⟩
theorem Ren.ts'(R:Ren m es es2 ts ts2 π σ)(w:bF m es ts){j:Nat}{L:List Nat}(h:ts2[j]?=some L):∃ p l X Y,p<m/\π p=j/\ts[p]?=some l/\l=X++Y/\L=(Y++X).map σ:=by
 have hj:=(Jo.mp h).1
 rw[R.l2]at hj
 obtain⟨p,hp,rfl⟩:=R.pi.sur j hj
 have e1:ts[p]?=some (ts[p]'(by rw[w.len];exact hp)):=Jp _
 obtain⟨X,Y,h1,h2⟩:=R.ts p _ e1
 rw[h]at h2
 exact⟨p,_,X,Y,hp,rfl,e1,h1,JL h2⟩
theorem mH(w:bF m es ts){p:Nat}{l:List Nat}(h:ts[p]?=some l){t:Nat}(ht:t∈l):t<es.length:=by
 obtain⟨x,hx,_⟩:=(w.mem p l h t).mp ht
 exact(Jo.mp hx).1
theorem Ren.turn(R:Ren m es es2 ts ts2 π σ)(w:bF m es ts):bF m es2 ts2:=by
 refine⟨R.l2,fun x hx=>?_,fun j L h=>?_,fun j L h t=>?_⟩
 ·obtain⟨j,hj⟩:=Kd.mp hx
  obtain⟨k,e,_,h1,rfl⟩:=R.es' hj
  obtain⟨a1,a2,a3⟩:=w.ends e (Jq h1)
  exact⟨R.pi.lt _ a1,R.pi.lt _ a2,fun z=>a3 (R.pi.inj _ _ a1 a2 z)⟩
 ·obtain⟨p,l,X,Y,hp,rfl,h1,rfl,rfl⟩:=R.ts' w h
  have nd:=w.nd p _ h1
  obtain⟨n1,n2,n3⟩:=JE.mp nd
  refine oP (JE.mpr ⟨n2,n1,fun a ha b hb z=>n3 b hb a ha z.symm⟩) fun x hx y hy=>R.si.inj x y (mH w h1 ?_) (mH w h1 ?_)
  ·simp only[JA]at hx ⊢;exact hx.symm
  ·simp only[JA]at hy ⊢;exact hy.symm
 ·obtain⟨p,l,X,Y,hp,rfl,h1,rfl,rfl⟩:=R.ts' w h
  constructor
  ·intro z
   obtain⟨k,hk,rfl⟩:=Kb.mp z
   obtain⟨e,h2,h3⟩:=(w.mem p _ h1 k).mp (by simp only[JA]at hk ⊢;exact hk.symm)
   exact⟨_,R.es k e h2,h3.imp (congrArg π) (congrArg π)⟩
  ·rintro⟨x,h2,h3⟩
   obtain⟨k,e,rfl,h4,rfl⟩:=R.es' h2
   obtain⟨a1,a2,a3⟩:=w.ends e (Jq h4)
   have hk:=(w.mem p _ h1 k).mpr ⟨e,h4,h3.imp (R.pi.inj _ _ a1 hp) (R.pi.inj _ _ a2 hp)⟩
   exact Kb.mpr ⟨k,by simp only[JA]at hk ⊢;exact hk.symm,rfl⟩
def Phi(σ:Nat->Nat)(d:Nat):Nat:=2*σ (d/2)+d%2
theorem oj(d:Nat):Phi σ d/2=σ (d/2):=by unfold Phi;omega
theorem Ren.hd(R:Ren m es es2 ts ts2 π σ){d:Nat}(hd':d<2*es.length):hd es2 (Phi σ d)=π (hd es d):=by
 have e1:es[d/2]?=some (es[d/2]'(by omega)):=Jp _
 have e2:=R.es _ _ e1
 unfold K8.hd
 rw[oj,e1,e2]
 have hm:Phi σ d%2=d%2:=by unfold Phi;omega
 show(if Phi σ d%2=0 then π es[d/2].2 else π es[d/2].1)=π (if d%2=0 then es[d/2].2 else es[d/2].1)
 rw[hm]
 split<;>rfl
theorem Ren.fol(R:Ren m es es2 ts ts2 π σ)(w:bF m es ts){d:Nat}(hd':d<2*es.length):fol es2 ts2 (Phi σ d)=Phi σ (fol es ts d):=by
 obtain⟨_,l,_,_,_,k4,k5,k6⟩:=w.at hd'
 obtain⟨X,Y,rfl,h2⟩:=R.ts _ _ k5
 have nd:=w.nd _ _ k5
 rw[eO (l:=(Y++X).map σ) (by rw[R.hd hd'];exact h2),eO k5,oj,R.hd hd']
 have k7:d/2∈Y++X:=by simp only[JA]at k6 ⊢;exact k6.symm
 rw[Iz k7 fun x hx=>R.si.inj x _ (mH w k5 (by simp only[JA]at hx ⊢;exact hx.symm)) (mH w k5 k6),Iy nd k6]
 have hn:=Jq (jF k6)
 have hlt:=mH w k5 hn
 generalize nxt (X++Y) (d/2)=t at hlt
 have e1:es[t]?=some es[t]:=Jp hlt
 have a1:=(w.ends _ (Jq e1)).1
 unfold qJ
 rw[R.es _ _ e1,e1]
 show(if π es[t].1=π (K8.hd es d) then 2*σ t else 2*σ t+1)=Phi σ (if es[t].1=K8.hd es d then 2*t else 2*t+1)
 by_cases z:es[t].1=K8.hd es d
 ·rw[if_pos z,if_pos (congrArg π z)]
  unfold Phi
  rw[show 2*t/2=t by omega]
  omega
 ·rw[if_neg z,if_neg (fun y=>z (R.pi.inj _ _ a1 k4 y))]
  unfold Phi
  rw[show(2*t+1)/2=t by omega]
  omega
theorem qo(b:Bij σ es.length){x y:Nat}(hx:x<2*es.length)(hy:y<2*es.length)(e:Phi σ x=Phi σ y):x=y:=by
 have e1:σ (x/2)=σ (y/2):=by
  have h1:=oj (σ:=σ) x
  have h2:=oj (σ:=σ) y
  rw[e]at h1
  exact h1.symm.trans h2
 have:=b.inj _ _ (by omega) (by omega) e1
 unfold Phi at e
 omega
theorem Ren.gr(R:Ren m es es2 ts ts2 π σ)(g:Gr m es ts):Gr m es2 ts2:=by
 obtain⟨rs,p,cnt⟩:=g.part
 have flt:∀ d∈rs.flatten,d<2*es.length:=fun d hd=>by
  obtain⟨r,h1,h2⟩:=Ks.mp hd
  exact(p.cr r h1).lt d h2
 have hfl:(rs.map (Mz (Phi σ))).flatten=rs.flatten.map (Phi σ):=List.map_flatten.symm
 refine⟨R.turn g.w,⟨rs.map (Mz (Phi σ)),⟨fun q hq=>?_,?_,fun d hd=>?_⟩,by rw[Jr,R.l1];exact cnt⟩,fun S hS x y hx hy sx=>?_,fun S ev=>?_⟩
 ·obtain⟨r,hr,rfl⟩:=Kb.mp hq
  have c:=p.cr r hr
  obtain⟨x,l,rfl,ch⟩:=c.ch
  refine⟨⟨Phi σ x,l.map (Phi σ),rfl,kM ch fun t ht=>R.fol g.w (c.lt t ht)⟩,fun d hd=>?_,oP c.nd fun a ha b hb=>qo R.si (c.lt a ha) (c.lt b hb)⟩
  obtain⟨t,ht,rfl⟩:=Kb.mp hd
  have h1:=c.lt t ht
  have h2:=R.si.lt (t/2) (by omega)
  rw[R.l1]
  unfold Phi
  omega
 ·rw[hfl]
  exact oP p.nd fun a ha b hb=>qo R.si (flt a ha) (flt b hb)
 ·rw[R.l1]at hd
  obtain⟨k,hk,e⟩:=R.si.sur (d/2) (by omega)
  rw[hfl]
  refine Kb.mpr ⟨2*k+d%2,p.all _ (by omega),?_⟩
  unfold Phi
  rw[show(2*k+d%2)/2=k by omega,e]
  omega
 ·obtain⟨x',hx',rfl⟩:=R.pi.sur x hx
  obtain⟨y',hy',rfl⟩:=R.pi.sur y hy
  refine g.conn (fun p=>S (π p)) (fun e he=>?_) x' y' hx' hy' sx
  obtain⟨k,hk⟩:=Kd.mp he
  exact hS (π e.1,π e.2) (Jq (R.es k e hk))
 ·obtain⟨Pl,hP⟩:=g.cut (fun t=>S (σ t)) fun r hr=>by
   rw[← DU S σ r]
   refine ev _ ?_
   obtain⟨x,l,rfl,ch⟩:=hr.ch
   refine⟨⟨Phi σ x,l.map (Phi σ),rfl,kM ch fun t ht=>R.fol g.w (hr.lt t ht)⟩,fun d hd=>?_,oP hr.nd fun a ha b hb=>qo R.si (hr.lt a ha) (hr.lt b hb)⟩
   obtain⟨t,ht,rfl⟩:=Kb.mp hd
   have h1:=hr.lt t ht
   have h2:=R.si.lt (t/2) (by omega)
   rw[R.l1]
   omega
  have inv:∀ p,p<m->((KO m).find? fun q=>decide (π q=π p))=some p:=fun p hp=>by
   cases z:(KO m).find? fun q=>decide (π q=π p) with
   |none=>exact absurd (decide_eq_true rfl) (List.find?_eq_none.mp z p (Md.mpr hp))
   |some q =>
    have h0:=List.find?_some z
    have h1:π q=π p:=of_decide_eq_true h0
    rw[R.pi.inj q p (Md.mp (List.mem_of_find?_eq_some z)) hp h1]
  refine⟨fun y=>Pl (((KO m).find? fun q=>decide (π q=y)).getD 0),fun j x hx=>?_⟩
  obtain⟨k,e,rfl,h1,rfl⟩:=R.es' hx
  obtain⟨b1,b2,_⟩:=g.w.ends e (Jq h1)
  show S (σ k)=(Pl (((KO m).find? fun q=>decide (π q=π e.1)).getD 0) ^^ Pl (((KO m).find? fun q=>decide (π q=π e.2)).getD 0))
  rw[inv _ b1,inv _ b2]
  exact hP k e h1
end
end K8
namespace K8
open PySem L2
local macro_rules | `(tactic| walk_at "cc") => `(tactic| first | exact ⟨by decide, by decide⟩ | (show (0 : Int) < _; decide) | (show (0 : Int) < _; omega) | (show (0 : Int) ≤ _; omega) | exact ⟨by decide, by decide, by decide⟩ | exact ⟨by omega, by omega, by decide⟩ | exact Or.inl ⟨by decide, by decide⟩ | exact Or.inl ⟨by omega, by omega⟩)
local macro_rules | `(tactic| walk_at "rd") => `(tactic| repeat (first | refine ⟨_, rfl, ?_⟩ | refine ⟨_, _, rfl, rfl, ?_⟩ | refine ⟨rfl, ?_⟩ | (refine ⟨?cc, ?_⟩; (case cc => walk_at "cc"))))
def top(i:Nat):Stmt:=PySem.Challenge.pw_spinfloor_k56_whole_climbs.main.body.getD i (.Pass ⟨0,0,0,0⟩)
abbrev ly:Stmt:=top 9
abbrev cp:Stmt:=top 12
abbrev ck:Stmt:=top 13
abbrev gu:Stmt:=top 14
abbrev aL:Stmt:=top 15
abbrev bH:Stmt:=top 16
abbrev i9:Stmt:=top 17
abbrev lA:Stmt:=top 18
abbrev lz:Stmt:=top 19
abbrev cx:Stmt:=lQ (top 21) 0
abbrev eB:Stmt:=lQ (top 21) 1
abbrev bw:Stmt:=lQ (top 21) 2
abbrev c5:Stmt:=lQ (top 21) 3
abbrev c6:Stmt:=lQ (top 23) 0
abbrev qX:Stmt:=top 25
abbrev gm:Stmt:=top 26
abbrev eA:Stmt:=top 27
abbrev cm:Stmt:=top 28
abbrev cS:Stmt:=top 29
abbrev d8:Stmt:=top 30
abbrev gk:Stmt:=top 32
abbrev bP:Stmt:=top 34
abbrev bG:Stmt:=top 35
abbrev bu:Stmt:=top 36
abbrev cq:Stmt:=lQ (top 37) 0
abbrev eu:Stmt:=top 39
abbrev eh:Stmt:=top 40
abbrev gs:Stmt:=top 41
abbrev d9:Stmt:=top 42
abbrev cY:Stmt:=top 43
abbrev cW:Stmt:=top 44
abbrev bo:Stmt:=top 45
abbrev cX:Stmt:=top 46
abbrev gp:Stmt:=top 47
abbrev cU:Stmt:=top 48
abbrev cZ:Stmt:=top 49
abbrev cn:Stmt:=top 50
abbrev gq:Stmt:=top 51
abbrev eg:Stmt:=top 52
abbrev sy:Stmt:=top 53
def tf(a b s:Int):List (Str×V):=putF "strength" (.int s) (putF "two" (.int b) (putF "one" (.int a) []))
theorem oq(a b s:Int):(tf a b s).lookup ("one" : Str)=some (.int a):=by
 unfold tf
 rw[aw,if_neg (by decide +kernel),aw,if_neg (by decide +kernel),aw,if_pos rfl]
theorem uH(a b s:Int):(tf a b s).lookup ("two" : Str)=some (.int b):=by
 unfold tf
 rw[aw,if_neg (by decide +kernel),aw,if_pos rfl]
theorem tf_str(a b s:Int):(tf a b s).lookup ("strength" : Str)=some (.int s):=by
 unfold tf
 rw[aw,if_pos rfl]
theorem Fq(a b s:Int){m:Str} (h1:¬ m = "strength") (h2:¬ m = "two") (h3:¬ m = "one"):(tf a b s).lookup m=none:=by
 unfold tf
 rw[aw,if_neg h1,aw,if_neg h2,aw,if_neg h3]
 all_goals rfl
theorem f1_len(a:Int):(putF "one" (.int a) []).length<1000:=by show 1<1000;decide
theorem f2_len(a b:Int):(putF "two" (.int b) (putF "one" (.int a) [])).length<1000:=by
 have e:(putF "two" (.int b) (putF "one" (.int a) []):List (Str×V))=([("one",.int a),("two",.int b)]:List (Str×V)):=by
  show(if("one" : Str) = "two" then[(("one" : Str),V.int b)] else(("one" : Str),V.int a)::putF "two" (V.int b) [])=_
  rw[if_neg (by decide +kernel)]
  all_goals rfl
 rw[e]
 show 2<1000
 decide
structure CT(K:Js)(C:Addr):Prop where
 cl:Cls K C
 n1:fP K C "one"
 n2:fP K C "two"
 n3:fP K C "strength"
def qT(K:Js):Sp:=fun vs H Q _=>∃(p C dx:Addr)(a b s:Int),vs = [.ref p,.int a,.int b,.int s]/\H p=some (.ins C dx [])/\CT K C/\a≠b/\0<=a/\0<=b/\0<=s /\
 ∀ H',H' p=some (.ins C dx (tf a b s))->(∀ q o,H q=some o->q≠p->H' q=some o)->Q .non H'
theorem aj{H:Hp}{p:Addr}(h:H p=none)(o:HO):Same H (upd H p o):=fun b u q=>by rw[ak (aK q h)];exact q
theorem bg{H H2:Hp}{l:Addr}(h:Same H H2)(hl:H l=none)(o:HO):Same H (upd H2 l o):=fun b u q=>by rw[ak (aK q hl)];exact h b u q
def iV(p:Nat):V:=.int (p:Int)
theorem iV_at{hs:List Nat}{k x:Nat}(h:hs[k]?=some x):atI (hs.map iV) (k:Int)=some (iV x):=ay (by rw[Jy,h];rfl)
def dQ(H:Hp)(ys:List V)(es:En):Prop:=ys.length=es.length/\∀(i:Nat)(e:Nat×Nat),es[i]?=some e->∃ p,ys[i]?=some (.ref p)/\H p=some (.tup [iV e.1,iV e.2])
theorem dQ.mono{H H':Hp}{ys:List V}{es:En}(h:dQ H ys es)(s:Same H H'):dQ H' ys es:=⟨h.1,fun i e q=>by
 obtain⟨p,a,b⟩:=h.2 i e q
 exact⟨p,a,s _ _ b⟩⟩
def dP(K:Js)(H:Hp)(xs:List V)(es:En):Prop:=xs.length=es.length/\∀(i:Nat)(e:Nat×Nat),es[i]?=some e->∃ p C dx s,xs[i]?=some (.ref p)/\H p=some (.ins C dx (tf (e.1:Int) (e.2:Int) s))/\CT K C
theorem dP.mono{K:Js}{H H':Hp}{xs:List V}{es:En}(t:dP K H xs es)(h:Same H H'):dP K H' xs es:=⟨t.1,fun i e q=>by
 obtain⟨p,C,dx,s,a,b,d⟩:=t.2 i e q
 exact⟨p,C,dx,s,a,h _ _ b,d⟩⟩
def cz(H:Hp)(xs:List V)(ts:List (List Nat)):Prop:=xs.length=ts.length/\∀(i:Nat)(l:List Nat),ts[i]?=some l->∃ p,xs[i]?=some (.ref p)/\H p=some (.lst (l.map iV))
theorem cz.mono{H H':Hp}{xs:List V}{ts:List (List Nat)}(h:cz H xs ts)(s:Same H H'):cz H' xs ts:=⟨h.1,fun i e q=>by
 obtain⟨p,a,b⟩:=h.2 i e q
 exact⟨p,a,s _ _ b⟩⟩
theorem cz.snoc{H:Hp}{xs:List V}{ts:List (List Nat)}{q:Addr}{l:List Nat}(h:cz H xs ts)(e:H q=some (.lst (l.map iV))):cz H (xs++[.ref q]) (ts++[l]):=by
 refine⟨by rw[Jt,Jt,h.1];rfl,fun j k ej=>?_⟩
 by_cases hj:j<ts.length
 ·rw[Jx hj]at ej
  obtain⟨p,a1,a2⟩:=h.2 j k ej
  exact⟨p,by rw[Jx (by rw[h.1];exact hj)];exact a1,a2⟩
 ·rw[Jv (by omega)]at ej
  have hj2:j=ts.length:=by
   have:=(Jo.mp ej).1
   rw[JF]at this
   omega
  subst hj2
  rw[JV]at ej
  cases ej
  exact⟨q,by rw[← h.1,Jv (Jw _),JV];rfl,e⟩
def bX(S:Addr->Prop)(H:Hp)(xs:List V)(ts:List (List Nat)):Prop:=xs.length=ts.length/\∀(i:Nat)(l:List Nat),ts[i]?=some l->∃ p,xs[i]?=some (.ref p)/\¬ S p/\H p=some (.lst (l.map iV))
theorem bX.mono{S:Addr->Prop}{H H':Hp}{xs:List V}{ts:List (List Nat)}(h:bX S H xs ts)(s:∀ b u,¬ S b->H b=some u->H' b=some u):bX S H' xs ts:=⟨h.1,fun i e q=>by
 obtain⟨p,a,n,b⟩:=h.2 i e q
 exact⟨p,a,n,s _ _ n b⟩⟩
theorem bX.off{S:Addr->Prop}{H:Hp}{xs:List V}{ts:List (List Nat)}(h:bX S H xs ts):cz H xs ts:=⟨h.1,fun i e q=>by
 obtain⟨p,a,n,b⟩:=h.2 i e q
 exact⟨p,a,b⟩⟩
theorem bX.snoc{S:Addr->Prop}{H:Hp}{xs:List V}{ts:List (List Nat)}{q:Addr}{l:List Nat}(h:bX S H xs ts)(n:¬ S q)(e:H q=some (.lst (l.map iV))):bX S H (xs++[.ref q]) (ts++[l]):=by
 refine⟨by rw[Jt,Jt,h.1];rfl,fun j k ej=>?_⟩
 by_cases hj:j<ts.length
 ·rw[Jx hj]at ej
  obtain⟨p,a1,a2⟩:=h.2 j k ej
  exact⟨p,by rw[Jx (by rw[h.1];exact hj)];exact a1,a2⟩
 ·rw[Jv (by omega)]at ej
  have hj2:j=ts.length:=by
   have:=(Jo.mp ej).1
   rw[JF]at this
   omega
  subst hj2
  rw[JV]at ej
  cases ej
  exact⟨q,by rw[← h.1,Jv (Jw _),JV];rfl,n,e⟩
theorem tV{f:Nat->Nat}{N i:Nat}{rs:List (List Nat)}(w:eY f N i rs):rs.flatten.length<=N:=dz w.nd fun x hx=>by
 obtain⟨r,h1,h2⟩:=Ks.mp hx
 exact(w.ring r h1).lt x h2
theorem FA{f:Nat->Nat}{N i:Nat}{rs:List (List Nat)}(w:eY f N i rs):rs.length<=N:=by
 have h:∀(l:List (List Nat)),(∀ r∈l,0<r.length)->l.length<=l.flatten.length:=fun l=>by
  induction l with
  |nil=>intro _;exact Jw _
  |cons a l ih =>
   intro h
   rw[JS,Jt,J2]
   have h1:=h a (JD ..)
   have h2:=ih fun r hr=>h r (JB _ hr)
   omega
 exact Ky (h rs fun r hr=>(w.ring r hr).ne) (tV w)
structure TT(K:Js)(H:Hp)(a b:Addr)(m:Nat)(es:En)(ts:List (List Nat)):Prop where
 xs:∃ xs,SqL K H a xs/\dP K H xs es
 ys:∃ ys,SqL K H b ys/\cz H ys ts
 w:bF m es ts
 few:es.length<=62
theorem TT.mono{K:Js}{H H':Hp}{a b:Addr}{m:Nat}{es:En}{ts:List (List Nat)}(t:TT K H a b m es ts)(s:Same H H'):TT K H' a b m es ts:=by
 obtain⟨⟨xs,h1,h2⟩,⟨ys,h3,h4⟩,w,f⟩:=t
 exact⟨⟨xs,s.seq h1,h2.mono s⟩,⟨ys,s.seq h3,h4.mono s⟩,w,f⟩
theorem lj{m:Nat}{es:En}{ts:List (List Nat)}(w:bF m es ts)(f:es.length<=62){p:Nat}{l:List Nat}(h:ts[p]?=some l):(∀ t∈l,t<62)/\l.length<=62:=by
 have a:∀ t∈l,t<es.length:=fun t ht=>by
  obtain⟨e,he,_⟩:=(w.mem p l h t).mp ht
  exact(Jo.mp he).1
 exact⟨fun t ht=>by have:=a t ht;omega,Ky (dz (w.nd p l h) a) f⟩
theorem perm{m:Nat}{es:En}{ts:List (List Nat)}(w:bF m es ts):Fg (fol es ts) (2*es.length):=⟨fun d h=>by
 obtain⟨_,_,_,_,_,_,_,_,z,_⟩:=w.foll h
 exact z,fun a b ha hb h=>w.inj ha hb h⟩
def DA(K:Js):Sp:=fun vs H Q _=>∃(a:Addr)(xs:List V)(es:En)(d:Nat),vs = [.ref a,.int (d:Int)]/\SqL K H a xs/\dP K H xs es/\d<2*es.length/\Q (iV (hd es d)) H
def Dz(K:Js):Sp:=fun vs H Q _=>∃(a:Addr)(xs:List V)(es:En)(t p:Nat)(e:Nat×Nat),vs = [.ref a,.int (t:Int),.int (p:Int)]/\SqL K H a xs/\dP K H xs es/\es[t]?=some e/\Q (iV (if e.1=p then 2*t else 2*t+1)) H
def HL(K:Js):Sp:=fun vs H Q _=>∃(a b:Addr)(m:Nat)(es:En)(ts:List (List Nat))(d:Nat),vs = [.ref a,.ref b,.int (d:Int)]/\TT K H a b m es ts/\d<2*es.length/\Q (iV (fol es ts d)) H
def DB(K:Js):Sp:=fun vs H Q _=>∃(a b:Addr)(m:Nat)(es:En)(ts:List (List Nat))(d:Nat),vs = [.ref a,.ref b,.int (d:Int)]/\TT K H a b m es ts/\d<2*es.length /\
 ∀ q r H',Same H H'->H q=none->H' q=some (.lst (r.map iV))->Path (fol es ts) (2*es.length) d r->Ring (fol es ts) (2*es.length) r->Q (.ref q) H'
def rW(K:Js):Sp:=fun vs H Q _=>∃(a b:Addr)(m:Nat)(es:En)(ts:List (List Nat)),vs = [.ref a,.ref b]/\TT K H a b m es ts /\
 ∀ q ys rs H',Same H H'->H' q=some (.lst ys)->cz H' ys rs->eY (fol es ts) (2*es.length) (2*es.length) rs->Q (.ref q) H'
def my(H:Hp)(ys:List V)(n:Nat)(rs:List (List Nat)):Prop:=ys.length=n/\∀ i,i<n->∃ p a b r r',ys[i]?=some (.ref p)/\H p=some (.tup [iV a,iV b])/\rs[a]?=some r/\2*i∈r/\rs[b]?=some r'/\2*i+1∈r'
def xM(K:Js):Sp:=fun vs H Q _=>∃(a b:Addr)(xs ys:List V)(es:En)(f:Nat->Nat)(rs:List (List Nat)),vs = [.ref a,.ref b]/\SqL K H a xs/\dP K H xs es/\es.length<=62/\SqL K H b ys/\cz H ys rs/\eY f (2*es.length) (2*es.length) rs /\
 ∀ q zs H',Same H H'->H' q=some (.lst zs)->my H' zs es.length rs->Q (.ref q) H'
def qO(ns:List Int)(k:Nat):Int:=ns.getD k 0
def AI(K:Js):Sp:=fun vs H Q _=>∃(a:Addr)(k:Nat)(ns:List Int),vs = [.ref a,.int (k:Int)]/\SqL K H a (ns.map V.int)/\Q (.int (qO ns k)) H
def Dy:Sp:=fun vs H Q _=>∃ i:Int,vs = [.int i]/\Q (.bl true) H
structure Txt(mg:Str->Option Value):Prop where
 n_len:mg "len" = none
 n_int:mg "int" = none
 n_bool:mg "bool" = none
 n_list:mg "list" = none
 n_tuple:mg "tuple" = none
 n_range:mg "range" = none
 n_enumerate:mg "enumerate" = none
 n_isinstance:mg "isinstance" = none
 n_min:mg "min" = none
 n_sum:mg "sum" = none
 n_sorted:mg "sorted" = none
section
variable{P:Program}{w:World}{K:Js}{mg:Str->Option Value}{base:Heap}
theorem DG:aE ["ties","dart","tie"] ["ties","dart"] (ah qX):=⟨rfl,rfl,rfl,by decide +kernel,rfl,by decide +kernel,by decide +kernel⟩
theorem Im{f:Addr}{fd:FuncData} (F:Fun K "head" "head" qX f fd):FnOk P w K mg base CX0 1 f fd ["ties","dart"] (DA K):=by
 refine F.ok DG (fun vs H Q E h=>?_) (fun cdv A outer s H vs Q E hr h=>?_)
 ·obtain⟨a,xs,es,d,rfl,_⟩:=h
  rfl
 obtain⟨a,xs,es,d,rfl,hS,hT,hdl,k⟩:=h
 have hl:d/2<es.length:=by omega
 have e1:es[d/2]?=some es[d/2]:=Jp hl
 obtain⟨p,C,dx,s',x1,x2,x3⟩:=hT.2 _ _ e1
 have hh:hd es d=if d%2=0 then es[d/2].2 else es[d/2].1:=by unfold hd;rw[e1]
 have ed:(d:Int)/2=((d/2:Nat):Int):=by omega
 refine⟨_,(af (ar (i:=2) DG.nd rfl (Or.inl rfl) (aD az (pv 0) (av cE (pv 1) ai) (fun _ _=>rfl)))
   (ao (aM (sO (aF oI (av bD (pv 1) ai) ai (aN _)) (eF (pv 2) rfl) (eF (pv 2) rfl))))),?_⟩
 refine⟨_,rfl,_,rfl,_,_,rfl,rfl,⟨by decide,by decide⟩,a,xs,_,_,rfl,rfl,hS,(by rw[ed];exact ay x1),?_⟩
 refine⟨_,rfl,_,_,rfl,rfl,(by show(0:Int)<2;decide),rfl,_,rfl,?_⟩
 refine ite2 (fun q=>?_) (fun q=>?_)
 ·have q':(d:Int)%2=0:=V.int.inj (of_decide_eq_true q)
  refine⟨_,rfl,p,C,dx,_,_,rfl,x2,x3.cl,x3.n2,uH _ _ _,?_⟩
  rw[hh,if_pos (by omega)]at k
  exact k
 ·have q':¬ (d:Int)%2=0:=fun z=>q (decide_eq_true (congrArg V.int z))
  refine⟨_,rfl,p,C,dx,_,_,rfl,x2,x3.cl,x3.n1,oq _ _ _,?_⟩
  rw[hh,if_neg (by omega)]at k
  exact k
theorem BE:aE ["ties","number","place"] ["ties","number","place"] (ah gm):=⟨rfl,rfl,rfl,by decide +kernel,rfl,by decide +kernel,by decide +kernel⟩
theorem BO{f:Addr}{fd:FuncData} (F:Fun K "leaving" "leaving" gm f fd):FnOk P w K mg base CX0 1 f fd ["ties","number","place"] (Dz K):=by
 refine F.ok BE (fun vs H Q E h=>?_) (fun cdv A outer s H vs Q E hr h=>?_)
 ·obtain⟨a,xs,es,t,p,e,rfl,_⟩:=h
  rfl
 obtain⟨a,xs,es,t,pl,e,rfl,hS,hT,he,k⟩:=h
 obtain⟨p,C,dx,s',x1,x2,x3⟩:=hT.2 _ _ he
 have m2:CMul 2 (t:Int):=.inl ⟨by decide,by decide⟩
 refine⟨_,(ao (aM (sO (aF oI (eF (aD az (pv 0) (pv 1) (fun _ _=>rfl)) rfl) (pv 2) (aN _)) (av fj ai (pv 1)) (av bA (av fj ai (pv 1)) ai)))),?_⟩
 refine⟨_,rfl,_,rfl,a,xs,_,_,rfl,rfl,hS,ay x1,p,C,dx,_,_,rfl,x2,x3.cl,x3.n1,oq _ _ _,_,rfl,rfl,_,rfl,?_⟩
 refine ite2 (fun q=>?_) (fun q=>?_)
 ·have q':(e.1:Int)=(pl:Int):=V.int.inj (of_decide_eq_true q)
  refine⟨_,rfl,_,_,rfl,rfl,m2,?_⟩
  rw[if_pos (by omega)]at k
  exact k
 ·have q':¬ (e.1:Int)=(pl:Int):=fun z=>q (decide_eq_true (congrArg V.int z))
  refine⟨_,rfl,_,_,rfl,rfl,m2,_,_,rfl,rfl,?_⟩
  rw[if_neg (by omega)]at k
  exact k
theorem gE:aE ["ties","turns","dart","place","about","behind"] ["ties","turns","dart"] (ah eA):=⟨rfl,rfl,rfl,by decide +kernel,rfl,by decide +kernel,by decide +kernel⟩
theorem yH{f fh fl:Addr}{fd fdh fdl:FuncData} (F:Fun K "follower" "follower" eA f fd) (T:Txt mg) (G_head:Cal P w K mg base 1 "head" ["ties","dart"] (DA K) fh fdh) (G_leaving:Cal P w K mg base 1 "leaving" ["ties","number","place"] (Dz K) fl fdl):FnOk P w K mg base CX0 2 f fd ["ties","turns","dart"] (HL K):=by
 refine F.ok gE (fun vs H Q E h=>?_) (fun cdv A outer s H vs Q E hr h=>?_)
 ·obtain⟨a,b,m,es,ts,d,rfl,_⟩:=h
  rfl
 obtain⟨a,b,m,es,ts,d,rfl,tt,hdl,k⟩:=h
 obtain⟨⟨xs,h1,h2⟩,⟨ys,h3,h4⟩,w',few⟩:=tt
 obtain⟨l,e,p1,p2,p3,p4,p5,p6,p7,p8,p9⟩:=w'.foll hdl
 obtain⟨small,len⟩:=lj w' few p1
 obtain⟨q,y1,y2⟩:=h4.2 _ _ p1
 have ed:(d:Int)/2=((d/2:Nat):Int):=by omega
 refine⟨_,(af (ar (i:=3) gE.nd rfl (Or.inl rfl) (aA G_head.ok (hr.mono (by decide)) rfl G_head.mg G_head.kp G_head.bn .nil aY (aa (pv 0) (aa (pv 2) ag))))
   (af (ar (i:=4) gE.nd rfl (Or.inl rfl) (aD az (pv 1) (pv 3) (fun _ _=>rfl)))
   (af (ar (i:=5) gE.nd rfl (Or.inl rfl) (av bD (av bA (ij JY Nt Nr A6 (pv 4) (aa (av cE (pv 2) ai) ag)) ai) (au aq (by rfl) T.n_len a8 (aa (pv 4) ag))))
   (ao (aM (aA G_leaving.ok (hr.mono (by decide)) rfl G_leaving.mg G_leaving.kp G_leaving.bn .nil aY (aa (pv 0) (aa (aD az (pv 4) (pv 5) (fun _ _=>rfl)) (aa (pv 3) ag))))))))),?_⟩
 refine⟨_,rfl,_,rfl,a,xs,es,d,rfl,h1,h2,hdl,?_⟩
 refine⟨_,rfl,_,rfl,b,ys,_,_,rfl,rfl,h3,ay y1,?_⟩
 have hlen:(l.map iV).length=l.length:=Jr _
 have hl0:0<l.length:=Lh p2
 have hmod:(((l.idxOf (d/2):Nat):Int)+1)%((l.map iV).length:Int)=(((l.idxOf (d/2)+1)%l.length:Nat):Int):=by rw[hlen];rfl
 refine⟨_,rfl,.inl ⟨rfl,_,SqL.of y2⟩,_,rfl,_,_,rfl,rfl,⟨by decide,by decide⟩,q,l,d/2,rfl,congrArg (fun z=>[V.int z]) ed,SqL.of y2,fun p hp=>by have:=small p hp;omega,by omega,p2,_,_,rfl,rfl,_,rfl,q,_,rfl,.inl (SqL.of y2),_,_,rfl,rfl,(by show(0:Int)<((l.map iV).length:Int);rw[hlen];omega),?_⟩
 refine⟨_,rfl,_,rfl,_,rfl,q,_,_,_,rfl,rfl,SqL.of y2,(by rw[hmod];exact iV_at (jF p2)),_,rfl,a,xs,es,nxt l (d/2),hd es d,e,rfl,h1,h2,p3,?_⟩
 rw[p6]at k
 exact k
theorem dU:aE ["ties","turns","first","row","dart"] ["ties","turns","first"] (ah cm):=⟨rfl,rfl,rfl,by decide +kernel,rfl,by decide +kernel,by decide +kernel⟩
theorem Io{f ff:Addr}{fd fdf:FuncData} (F:Fun K "round_from" "round_from" cm f fd) (G_follower:Cal P w K mg base 2 "follower" ["ties","turns","dart"] (HL K) ff fdf):FnOk P w K mg base CX0 3 f fd ["ties","turns","first"] (DB K):=by
 refine F.ok dU (fun vs H Q E h=>?_) (fun cdv A outer s H vs Q E hr h=>?_)
 ·obtain⟨a,b,m,es,ts,d,rfl,_⟩:=h
  rfl
 obtain⟨a,b,m,es,ts,d,rfl,tt,hdl,k⟩:=h
 have pm:=perm tt.w
 refine⟨_,(af (ar (i:=3) dU.nd rfl (Or.inl rfl) (bK (aa (pv 2) ag)))
   (af (ar (i:=4) dU.nd rfl (Or.inl rfl) (aA G_follower.ok (hr.mono (by decide)) rfl G_follower.mg G_follower.kp G_follower.bn .nil aY (aa (pv 0) (aa (pv 1) (aa (pv 2) ag)))))
   (af (kq PassesOwn.never (aF nt (pv 4) (pv 2) (aN _)) (af (bp (ij JY Kq Ko bz (pv 3) (aa (pv 4) ag)))
   (ao (ar (i:=4) dU.nd rfl (Or.inl rfl) (aA G_follower.ok (hr.mono (by decide)) rfl G_follower.mg G_follower.kp G_follower.bn .nil aY (aa (pv 0) (aa (pv 1) (aa (pv 4) ag))))))))
   (ao (aM (pv 3)))))),?_⟩
 refine⟨_,rfl,(by show 1<=sizeLine;decide),fun q hq=>?_⟩
 have s1:=aj hq (.lst [.int (d:Int)])
 refine⟨_,rfl,_,rfl,_,rfl,a,b,m,es,ts,d,rfl,tt.mono s1,hdl,?_⟩
 refine AB (fun σ H2=>∃(r:List Nat)(x:Nat),σ = [some (.ref a),some (.ref b),some (.int (d:Int)),some (.ref q),some (iV (fol es ts x))]/\Same H H2/\H2 q=some (.lst ((r++[x]).map iV))/\Path (fol es ts) (2*es.length) d (r++[x]))
  (fun σ H2=>match H2 q with | some (.lst xs)=>200-xs.length | _=>0) ⟨[],d,rfl,s1,ae,FQ hdl⟩ ?_ ?_
 ·rintro σ H2 ⟨r,x,rfl,s2,hq2,pa⟩
  refine⟨_,rfl,_,rfl,rfl,_,rfl,?_⟩
  have few:=tt.few
  have hlen:=dz pa.nd pa.lt
  refine ite2 (fun c=>?_) (fun c=>?_)
  ·have c':fol es ts x≠d:=fun z=>by
    rw[decide_eq_true (show iV (fol es ts x)=V.int (d:Int) by rw[z];rfl)]at c
    cases c
   have pa2:=pa.snoc pm c'
   have hlen2:=dz pa2.nd pa2.lt
   have lt2:fol es ts x<2*es.length:=pa2.lt _ (by simp)
   refine⟨_,rfl,.inl ⟨rfl,_,SqL.of hq2⟩,_,rfl,q,_,_,rfl,rfl,hq2,ax (by rw[Jr];omega),?_⟩
   have s3:=bg s2 hq (.lst ((r++[x]).map iV++[iV (fol es ts x)]))
   refine⟨_,rfl,_,rfl,_,rfl,a,b,m,es,ts,fol es ts x,rfl,tt.mono s3,lt2,?_⟩
   refine⟨⟨r++[x],fol es ts x,rfl,s3,?_,pa2⟩,?_⟩
   ·rw[ae,show((r++[x]++[fol es ts x]).map iV)=(r++[x]).map iV++[iV (fol es ts x)] from by rw[JX];rfl]
   ·show(match(upd H2 q (.lst ((r++[x]).map iV++[iV (fol es ts x)]))) q with | some (.lst xs)=>200-xs.length | _=>0)<(match H2 q with | some (.lst xs)=>200-xs.length | _=>0)
    rw[ae,hq2]
    show 200-((r++[x]).map iV++[iV (fol es ts x)]).length<200-((r++[x]).map iV).length
    rw[Jt,Jr,JF]
    omega
  ·have c':fol es ts x=d:=by
    by_cases z:fol es ts x=d
    ·exact z
    ·exact absurd (by rw[decide_eq_false (fun y=>z (by have:=V.int.inj y;omega))];rfl) c
   refine⟨_,rfl,?_⟩
   exact k q _ H2 s2 hq hq2 pa (pa.ring pm c')
 ·rintro σ H2 Q1 Q2 hi ⟨v',e,b',e2,z1,c',e3,q'⟩
  exact⟨v',e,b',e2,z1,c',e3,hi _ _ q'⟩
theorem cg:aE ["ties","turns","rounds","seen","dart","row","gone"] ["ties","turns"] (ah cS):=⟨rfl,rfl,rfl,by decide +kernel,rfl,by decide +kernel,by decide +kernel⟩
theorem DZ{f ff:Addr}{fd fdf:FuncData} (F:Fun K "rounds_of" "rounds_of" cS f fd) (T:Txt mg) (G_round_from:Cal P w K mg base 3 "round_from" ["ties","turns","first"] (DB K) ff fdf):FnOk P w K mg base CX0 4 f fd ["ties","turns"] (rW K):=by
 refine F.ok cg (fun vs H Q E h=>?_) (fun cdv A outer s H vs Q E hr h=>?_)
 ·obtain⟨a,b,m,es,ts,rfl,_⟩:=h
  rfl
 obtain⟨a,b,m,es,ts,rfl,tt,k⟩:=h
 have hu:=wb hr
 have pm:=perm tt.w
 have few:=tt.few
 obtain⟨xs,h1,h2⟩:=tt.xs
 refine⟨_,(af (ar (i:=2) cg.nd rfl (Or.inl rfl) (bK ag))
   (af (ar (i:=3) cg.nd rfl (Or.inl rfl) nZ)
   (af (bW PassesOwn.never rfl (a9 rfl T.n_range (aa (av fj ai (au aq (by rfl) T.n_len a8 (aa (pv 0) ag))) ag)) (aX (i:=4) cg.nd rfl (Or.inl rfl)) (ao (bV (qY (oH hu (pv 4) (pv 3))) (af (ar (i:=5) cg.nd rfl (Or.inl rfl) (aA G_round_from.ok (hr.mono (by decide)) rfl G_round_from.mg G_round_from.kp G_round_from.bn .nil aY (aa (pv 0) (aa (pv 1) (aa (pv 4) ag)))))
   (af (bp (ij JY Kq Ko bz (pv 2) (aa (pv 5) ag)))
   (ao (bW PassesOwn.never rfl (bx (pv 5)) (aX (i:=6) cg.nd rfl (Or.inl rfl)) (ao (oB hu (pv 3) (pv 6) jE rfl)))))) aR)))
   (ao (aM (pv 2)))))),?_⟩
 refine⟨(by show 0<=sizeLine;decide),fun qr hqr=>fun qs hqs=>?_⟩
 have s1:=(aj hqr (.lst [])).trans (aj hqs (.dK []))
 have hqs0:H qs=none:=by
  cases z:H qs with
  |none=>rfl
  |some o=>rw[aj hqr (.lst []) qs o z]at hqs;cases hqs
 have hne:qr≠qs:=fun z=>by rw[← z,ae]at hqs;cases hqs
 have hxl:xs.length=es.length:=h2.1
 have hN:(2*(xs.length:Int)).toNat=2*es.length:=by omega
 refine⟨_,rfl,a,xs,rfl,.inl (s1.seq h1),_,_,rfl,rfl,.inl ⟨by decide,by decide⟩,_,rfl,by omega,by omega,cK (n:=(2*(xs.length:Int)).toNat) (fun i σ H2=>∃ v4 v5 v6 ys rs kvs,σ = [some (.ref a),some (.ref b),some (.ref qr),some (.ref qs),v4,v5,v6]/\Same H H2/\H2 qr=some (.lst ys)/\bX (fun p=>p=qr∨p=qs) H2 ys rs/\H2 qs=some (.dK kvs)/\kvs.length<=rs.flatten.length/\(∀ d:Nat,(valV kvs (Sum.inl (d:Int))).isSome=true↔d∈rs.flatten)/\eY (fol es ts) (2*es.length) i rs)
  ⟨_,_,_,[],[],[],rfl,s1,by rw[ak hne,ae],⟨rfl,fun i l e=>by simp at e⟩,ae,Jw _,fun d=>by simp[valV],BF _ _⟩ ?_ ?_⟩
 ·rintro i σ H2 hi ⟨v4,v5,v6,ys,rs,kvs,rfl,s2,e1,rx,e2,kl,km,ro⟩
  rw[hN]at hi
  have e0:(0:Int)+(i:Int)=(i:Int):=K9 _
  rw[e0]
  have fl:=tV ro
  have rl:=FA ro
  refine⟨_,rfl,_,rfl,_,_,rfl,DGet.k (k:=Sum.inl (i:Int)) e2,_,rfl,?_⟩
  refine ite2 (fun c=>?_) (fun c=>?_)
  ·have hni:i∉rs.flatten:=fun z=>by
    rw[(km i).mpr z]at c
    cases c
   refine⟨_,rfl,_,rfl,_,rfl,a,b,m,es,ts,i,rfl,tt.mono s2,hi,fun q r H3 s3 hq hq3 pa ri=>?_⟩
   have s23:=s2.trans s3
   have nq:¬ (q=qr∨q=qs):=by
    rintro(z | z)
    ·rw[z,e1]at hq;cases hq
    ·rw[z,e2]at hq;cases hq
   refine⟨_,rfl,.inl ⟨rfl,_,SqL.of (s3 _ _ e1)⟩,_,rfl,qr,_,_,rfl,rfl,s3 _ _ e1,ax (by rw[rx.1];omega),?_⟩
   have s4:=bg s23 hqr (.lst (ys++[.ref q]))
   have hrq:∀{H5:Hp},bX (fun p=>p=qr∨p=qs) H5 (ys++[.ref q]) (rs++[r])->H5 q=some (.lst (r.map iV)):=fun h=>by
    obtain⟨p,z1,_,z2⟩:=h.2 rs.length r (by rw[Jv (Jw _),JV];rfl)
    rw[← rx.1,Jv (Jw _),JV]at z1
    cases z1
    exact z2
   have rx4:bX (fun p=>p=qr∨p=qs) (upd H3 qr (.lst (ys++[.ref q]))) (ys++[.ref q]) (rs++[r]):=by
    refine(rx.mono fun p o n z=>?_).snoc nq ?_
    ·rw[ak (fun z=>n (.inl z))];exact s3 _ _ z
    ·rw[ak (fun z=>nq (.inl z))];exact hq3
   have rl:r.length<=2*es.length:=dz ri.nd ri.lt
   refine⟨_,rfl,q,rfl,⟨_,SqL.of (hrq rx4)⟩,dj (xs:=r.map iV) (fun j σ H5=>∃ v6 kvs',σ = [some (.ref a),some (.ref b),some (.ref qr),some (.ref qs),some (.int (i:Int)),some (.ref q),v6]/\Same H H5/\H5 qr=some (.lst (ys++[.ref q]))/\bX (fun p=>p=qr∨p=qs) H5 (ys++[.ref q]) (rs++[r])/\H5 qs=some (.dK kvs')/\kvs'.length<=rs.flatten.length+j/\∀ d:Nat,(valV kvs' (Sum.inl (d:Int))).isSome=true↔d∈rs.flatten∨d∈r.take j)
    ⟨_,kvs,rfl,s4,ae,rx4,by rw[ak hne.symm];exact s3 _ _ e2,kl,fun d=>by rw[km d];simp⟩ (fun j σ H5 _ p=>?_) ?_ ?_⟩
   ·obtain⟨_,_,_,_,_,z,_⟩:=p
    exact SqL.of (hrq z)
   ·rintro j x σ H5 hx ⟨v6,kvs',rfl,s5,f1,rx5,f2,kl5,km5⟩
    rw[Jy]at hx
    obtain⟨g,hg,rfl⟩:=Kj.mp hx
    have hjl:j<r.length:=(Jo.mp hg).1
    refine⟨_,rfl,_,rfl,qs,_,rfl,DPut.k (k:=Sum.inl (g:Int)) f2 (ax (by omega)),?_⟩
    refine⟨_,_,rfl,bg s5 hqs0 _,by rw[ak hne];exact f1,rx5.mono fun p o n z=>by rw[ak (fun z=>n (.inr z))];exact z,ae,by have:=b9 kvs' (Sum.inl (g:Int)) (V.bl true);omega,fun d=>?_⟩
    rw[ke]
    have tk:r.take (j+1)=r.take j++[g]:=by rw[Kv,hg];rfl
    rw[tk]
    by_cases z:d=g
    ·subst z
     simp
    ·rw[if_neg (fun y=>z (by have:=Sum.inl.inj y;omega)),km5 d]
     simp[z]
   ·rintro σ H5 ⟨v6,kvs',rfl,s5,f1,rx5,f2,kl5,km5⟩
    rw[Jr]at kl5 km5
    refine⟨_,_,_,_,rs++[r],kvs',rfl,s5,f1,rx5,f2,by rw[KU,Jt];simpa using kl5,fun d=>?_,ro.put pm hni hi ri pa⟩
    rw[km5 d,KL,KU,JA]
    simp
  ·have hii:i∈rs.flatten:=(km i).mp (by
    cases z:(valV kvs (Sum.inl (i:Int))).isSome with
    |true=>rfl
    |false=>exact absurd (by rw[z];rfl) c)
   exact⟨_,_,_,ys,rs,kvs,rfl,s2,e1,rx,e2,kl,km,ro.skip hii⟩
 ·rintro σ H2 ⟨v4,v5,v6,ys,rs,kvs,rfl,s2,e1,rx,e2,kl,km,ro⟩
  rw[hN]at ro
  exact⟨_,rfl,k qr ys rs H2 s2 e1 rx.off ro⟩
theorem eE:aE ["ties","rounds","number_at","number","row","dart"] ["ties","rounds"] (ah d8):=⟨rfl,rfl,rfl,by decide +kernel,rfl,by decide +kernel,by decide +kernel⟩
theorem FY{f:Addr}{fd:FuncData} (F:Fun K "sides_of" "sides_of" d8 f fd) (T:Txt mg):FnOk P w K mg base CX0 1 f fd ["ties","rounds"] (xM K):=by
 refine F.ok eE (fun vs H Q E h=>?_) (fun cdv A outer s H vs Q E hr h=>?_)
 ·obtain⟨a,b,xs,ys,es,g,rs,rfl,_⟩:=h
  rfl
 obtain⟨a,b,xs,ys,es,g,rs,rfl,hS,hT,few,hB,hR,ro,k⟩:=h
 have hu:=wb hr
 have fl:=tV ro
 refine⟨_,(af (ar (i:=2) eE.nd rfl (Or.inr rfl) nZ)
   (af (bW PassesOwn.never rfl (DQ rfl T.n_enumerate (aa (pv 1) ag)) (DR rfl (jb (aX (i:=3) eE.nd rfl (Or.inl rfl)) (jb (aX (i:=4) eE.nd rfl (Or.inl rfl)) yA))) (ao (bW PassesOwn.never rfl (bx (pv 4)) (aX (i:=5) eE.nd rfl (Or.inl rfl)) (ao (oB hu (pv 2) (pv 5) (pv 3) rfl)))))
   (ao (aM (eG rfl (fr:=[("number_at",2)]) (by exact bJ.one (by rfl) (by decide +kernel) (by rfl) (by decide +kernel) (by rfl) (by decide +kernel) (by rfl) (by rfl) (by decide +kernel) (by rfl)) (a9 rfl T.n_range (aa (au aq (by rfl) T.n_len a8 (aa (pv 0) ag)) ag)) (fun C ex s H=>(jx (aa (yF hu (pv 1) (av fj ai (pv 0)) (fun _ _=>rfl)) (aa (yF hu (pv 1) (av bA (av fj ai (pv 0)) ai) (fun _ _=>rfl)) ag))))))))),?_⟩
 intro q hq
 have s1:=aj hq (.dK [])
 have kF:∀ i,(rs.take i).flatten.length<=rs.flatten.length:=fun i=>by
  have:=congrArg (fun z=>z.flatten.length) (JT i rs)
  simp only[KU,Jt]at this
  omega
 refine⟨_,rfl,b,rfl,⟨_,s1.seq hB⟩,Bc (K:=K) (xs:=ys) (fun i σ H2=>∃ v3 v4 v5 kvs,σ = [some (.ref a),some (.ref b),some (.ref q),v3,v4,v5]/\Same H H2/\H2 q=some (.dK kvs)/\kvs.length<=(rs.take i).flatten.length/\∀(d c:Nat)(r:List Nat),c<i->rs[c]?=some r->d∈r->valV kvs (Sum.inl (d:Int))=some (iV c))
  ⟨_,_,_,[],rfl,s1,ae,Ku _,fun d c r z=>absurd z (Ln _)⟩ (fun i σ H2 _ ⟨_,_,_,_,_,s2,_⟩=>s2.seq hB) ?_ ?_⟩
 ·rintro i x σ H2 T2 hx ⟨v3,v4,v5,kvs,rfl,s2,e1,kl,km⟩ hT2
  have hil:i<rs.length:=by
   have:=(Jo.mp hx).1
   rw[hR.1]at this
   exact this
  have hr':rs[i]?=some rs[i]:=Jp hil
  obtain⟨p,x1,x2⟩:=hR.2 i _ hr'
  rw[hx]at x1
  cases x1
  generalize rs[i]=r at hr' x2
  have s3:Same H (upd H2 T2 (.tup [.int (i:Int),.ref p])):=s2.trans (aj hT2 _)
  have f1:(rs.take (i+1)).flatten=(rs.take i).flatten++r:=by rw[Kv,hr'];simp
  have f2:=kF (i+1)
  rw[f1,Jt]at f2
  refine⟨T2,_,rfl,SqT.of ae,rfl,_,_,rfl,_,_,rfl,rfl,?_⟩
  refine⟨_,rfl,p,rfl,⟨_,SqL.of (s3 _ _ x2)⟩,dj (xs:=r.map iV) (fun j σ H5=>∃ v5 kvs',σ = [some (.ref a),some (.ref b),some (.ref q),some (.int (i:Int)),some (.ref p),v5]/\Same H H5/\H5 q=some (.dK kvs')/\kvs'.length<=(rs.take i).flatten.length+j/\(∀(d c:Nat)(r:List Nat),c<i->rs[c]?=some r->d∈r->valV kvs' (Sum.inl (d:Int))=some (iV c))/\∀ d∈r.take j,valV kvs' (Sum.inl (d:Int))=some (iV i))
   ⟨_,kvs,rfl,s3,aj hT2 _ _ _ e1,kl,km,fun d hd=>by simp at hd⟩ (fun j σ H5 _ ⟨_,_,_,z,_⟩=>SqL.of (z _ _ x2)) ?_ ?_⟩
  ·rintro j x σ H5 hx2 ⟨v5,kvs',rfl,s5,g1,kl5,km5,kn5⟩
   rw[Jy]at hx2
   obtain⟨g,hg,rfl⟩:=Kj.mp hx2
   have hjl:j<r.length:=(Jo.mp hg).1
   refine⟨_,rfl,_,rfl,_,rfl,q,_,rfl,DPut.k (k:=Sum.inl (g:Int)) g1 (ax (by omega)),?_⟩
   refine⟨_,_,rfl,bg s5 hq _,ae,by have:=b9 kvs' (Sum.inl (g:Int)) (V.int (i:Int));omega,fun d c r' hc hrc hd=>?_,fun d hd=>?_⟩
   ·rw[ke,if_neg (fun z=>?_)]
    ·exact km5 d c r' hc hrc hd
    ·have z':d=g:=by have:=Sum.inl.inj z;omega
     subst z'
     have:=IT ro.nd hrc hr' hd (Jq hg)
     omega
   ·rw[ke]
    by_cases z:d=g
    ·subst z
     rw[if_pos rfl]
     rfl
    ·rw[if_neg (fun y=>z (by have:=Sum.inl.inj y;omega))]
     refine kn5 d ?_
     rw[Kv,hg]at hd
     simpa[z] using hd
  ·rintro σ H5 ⟨v5,kvs',rfl,s5,g1,kl5,km5,kn5⟩
   rw[Jr]at kl5 kn5
   rw[KL]at kn5
   refine⟨_,_,_,kvs',rfl,s5,g1,by rw[f1,Jt];exact kl5,fun d c r' hc hrc hd=>?_⟩
   by_cases z:c=i
   ·subst z
    rw[hr']at hrc
    cases hrc
    exact kn5 d hd
   ·exact km5 d c r' (by omega) hrc hd
 ·rintro σ H2 ⟨v3,v4,v5,kvs,rfl,s2,e1,kl,km⟩
  rw[hR.1]at km
  have get:∀ d,d<2*es.length->∃ c r,rs[c]?=some r/\d∈r/\valV kvs (Sum.inl (d:Int))=some (iV c):=fun d hd=>by
   obtain⟨r,z1,z2⟩:=Ks.mp (ro.all d hd)
   obtain⟨c,z3⟩:=Kd.mp z1
   exact⟨c,r,z3,z2,km d c r (Jo.mp z3).1 z3 z2⟩
  have hxl:xs.length=es.length:=hT.1
  refine⟨_,rfl,a,xs,rfl,.inl (s2.seq hS),_,rfl,by omega,by omega,gB (fun i zs H3=>Same H2 H3/\my H3 zs i rs) (by rw[JC,hxl];exact Kk (ax (by omega))) ⟨fun _ _ e=>e,rfl,fun i hi=>absurd hi (Ln _)⟩ ?_ ?_⟩
  ·rintro i zs H3 hi ⟨s3,sd⟩
   have e0:(0:Int)+(i:Int)=(i:Int):=K9 _
   rw[e0]
   rw[JC,hxl]at hi
   obtain⟨c1,r1,z1,z2,z3⟩:=get (2*i) (by omega)
   obtain⟨c2,r2,y1,y2,y3⟩:=get (2*i+1) (by omega)
   have m2:CMul 2 (i:Int):=.inl ⟨by decide,by decide⟩
   have d1:DGet H3 q (V.int (2*(i:Int))) (some (iV c1)):=by
    rw[← z3,show((2*i:Nat):Int)=2*(i:Int) by omega]
    exact DGet.k (k:=Sum.inl (2*(i:Int))) (s3 _ _ e1)
   have d2:DGet H3 q (V.int (2*(i:Int)+1)) (some (iV c2)):=by
    rw[← y3,show((2*i+1:Nat):Int)=2*(i:Int)+1 by omega]
    exact DGet.k (k:=Sum.inl (2*(i:Int)+1)) (s3 _ _ e1)
   refine⟨_,rfl,_,rfl,_,_,rfl,rfl,m2,q,_,rfl,d1,_,rfl,_,rfl,_,_,rfl,rfl,m2,_,_,rfl,rfl,q,_,rfl,d2,(by show 2<=sizeLine;decide),fun t ht=>?_⟩
   have s4:=aj ht (.tup [iV c1,iV c2])
   refine⟨s3.trans s4,by rw[Jt,sd.1];rfl,fun j hj=>?_⟩
   by_cases z:j=i
   ·subst z
    exact⟨t,c1,c2,r1,r2,by rw[← sd.1,Jv (Jw _),JV];rfl,ae,z1,z2,y1,y2⟩
   ·obtain⟨p,a',b',r,r',w1,w2,w3⟩:=sd.2 j (by omega)
    exact⟨p,a',b',r,r',by rw[Jx (by rw[sd.1];omega)];exact w1,s4 _ _ w2,w3⟩
  ·rintro zs H3 hzl ⟨s3,sd⟩ D hD
   rw[JC,hxl]at sd
   exact k D zs _ ((s2.trans s3).trans (aj hD _)) ae ⟨sd.1,fun i hi=>by
    obtain⟨p,a',b',r,r',w1,w2,w3⟩:=sd.2 i hi
    exact⟨p,a',b',r,r',w1,aj hD _ _ _ w2,w3⟩⟩
theorem sv:aE ["self","one","two","strength"] ["self","one","two","strength"] (ah cx):=⟨rfl,rfl,rfl,by decide +kernel,rfl,by decide +kernel,by decide +kernel⟩
theorem Il{f:Addr}{fd:FuncData} (F:Fun K "__init__" "Tie.__init__" cx f fd):FnOk P w K mg base CX0 1 f fd ["self","one","two","strength"] (qT K):=by
 refine F.ok sv (fun vs H Q E h=>?_) (fun cdv A outer s H vs Q E hr h=>?_)
 ·obtain⟨p,C,dx,a,b,s,rfl,_⟩:=h
  rfl
 obtain⟨p,C,dx,a,b,st,rfl,hp,T,hne,ha,hb,hs,k⟩:=h
 refine⟨_,(af (bV (aF oI (pv 1) (pv 2) (aN _)) (ao fg) aR)
   (af (bV (PW.pt (lB (aF sQ (pv 1) ai (aN _)) (mz (aF sQ (pv 2) ai (aN _))))) (ao fg) aR)
   (af (bV (aF sQ (pv 3) ai (aN _)) (ao fg) aR)
   (af (mC (pv 0) (pv 1) rfl)
   (af (mC (pv 0) (pv 2) rfl)
   (ao (mC (pv 0) (pv 3) rfl))))))),?_⟩
 walk_at "rd"
 refine ite2 (fun c=>absurd (V.int.inj (of_decide_eq_true c)) hne) (fun _=>?_)
 walk_at "rd"
 refine ite2 (fun c=>absurd (of_decide_eq_true c) (by omega)) (fun _=>?_)
 walk_at "rd"
 refine ite2 (fun c=>absurd (of_decide_eq_true c) (by omega)) (fun _=>?_)
 walk_at "rd"
 refine ite2 (fun c=>absurd (of_decide_eq_true c) (by omega)) (fun _=>?_)
 refine⟨_,rfl,_,rfl,p,C,dx,[],rfl,hp,T.cl,T.n1,(by show 0<1000;decide),?_⟩
 refine⟨_,rfl,_,rfl,p,C,dx,_,rfl,ae,T.cl,T.n2,f1_len a,?_⟩
 refine⟨_,rfl,_,rfl,p,C,dx,_,rfl,ae,T.cl,T.n3,f2_len a b,?_⟩
 exact k _ ae fun q o e hq=>by rw[ak hq,ak hq,ak hq];exact e
theorem ye:aE ["script","k"] ["script","k"] (ah eu):=⟨rfl,rfl,rfl,by decide +kernel,rfl,by decide +kernel,by decide +kernel⟩
theorem Iq{f:Addr}{fd:FuncData} (F:Fun K "_law_cell" "_law_cell" eu f fd) (T:Txt mg):FnOk P w K mg base CX0 1 f fd ["script","k"] (AI K):=by
 refine F.ok ye (fun vs H Q E h=>?_) (fun cdv A outer s H vs Q E hr h=>?_)
 ·obtain⟨a,k,ns,rfl,_⟩:=h
  rfl
 obtain⟨a,k,ns,rfl,hS,q⟩:=h
 refine⟨_,(af (bV (aF sQ (pv 1) (au aq (by rfl) T.n_len a8 (aa (pv 0) ag)) (aN _)) (ao (aM (aD az (pv 0) (pv 1) (fun _ _=>rfl)))) aR)
   (ao (aM ai))),?_⟩
 refine⟨_,rfl,_,rfl,a,_,rfl,.inl hS,_,_,rfl,rfl,_,rfl,?_⟩
 refine ite2 (fun c=>?_) (fun c=>?_)
 ·have c':(k:Int)<((ns.map V.int).length:Int):=of_decide_eq_true c
  rw[Jr]at c'
  have hk:k<ns.length:=by omega
  have hat:atI (ns.map V.int) (k:Int)=some (.int (qO ns k)):=ay (by rw[Jy,Jp hk];unfold qO;rw[Ka,Jp hk];rfl)
  exact⟨_,rfl,_,rfl,a,_,_,_,rfl,rfl,hS,hat,q⟩
 ·have c':¬ (k:Int)<((ns.map V.int).length:Int):=fun z=>c (decide_eq_true z)
  rw[Jr]at c'
  have e:qO ns k=0:=by unfold qO;rw[Ka,LS (by omega)];rfl
  rw[e]at q
  exact q
theorem at0{u v:V}:atI [u,v] 0=some u:=rfl
theorem at1{u v:V}:atI [u,v] 1=some v:=rfl
theorem oQ{H:Hp}{a:Addr}{ps:List Nat}(h:SqL K H a (ps.map iV)):RdD K H (.ref a) (.list ((ps.map fun(p:Nat)=>((p:Nat):Int)).map PyData.int)):=by
 refine RdD.lst h (by simp) fun i x d e1 e2=>?_
 rw[Jy]at e1
 rw[Jy,Jy]at e2
 cases z:ps[i]? with
 |none=>rw[z]at e1;cases e1
 |some n =>
  rw[z]at e1 e2
  cases e1
  cases e2
  exact .int _
theorem EA(l:List Int):(PyData.list (l.map PyData.int)).canLay0=true/\(PyData.list (l.map PyData.int)).depth<=10:=by
 have h1:∀ d∈l.map PyData.int,d.canLay0=true/\d.depth<=1:=fun d hd=>by
  obtain⟨x,_,rfl⟩:=Kb.mp hd
  exact⟨by simp[PyData.canLay0],by simp[PyData.depth]⟩
 have h2:=iL fun d hd=>(h1 d hd).1
 have h3:=jW fun d hd=>(h1 d hd).2
 exact⟨by simp only[PyData.canLay0];exact h2,by simp only[PyData.depth];omega⟩
theorem gU(l:List Int):SeqAt.shaped (.list (l.map PyData.int))=true:=oA fun d hd=>by
 obtain⟨x,_,rfl⟩:=Kb.mp hd
 exact⟨by simp[PyData.canLay0],by simp[PyData.depth]⟩
theorem dQ.put{H:Hp}{ys:List V}{es:En}{q:Addr}{zs:List V}{o:HO}(t:dQ H ys es)(h:H q=some (.lst zs)):dQ (upd H q o) ys es:=⟨t.1,fun i e z=>by
 obtain⟨p,a,b⟩:=t.2 i e z
 refine⟨p,a,?_⟩
 rw[ak (fun z=>by rw[z,h]at b;cases b)]
 exact b⟩
theorem dQ.snoc{H:Hp}{xs:List V}{es:En}{e:Nat×Nat}{p:Addr}(t:dQ H xs es)(h:H p=some (.tup [iV e.1,iV e.2])):dQ H (xs++[.ref p]) (es++[e]):=by
 refine⟨by rw[Jt,Jt,t.1];rfl,fun j k ej=>?_⟩
 by_cases hj:j<es.length
 ·rw[Jx hj]at ej
  obtain⟨p,a1,a2⟩:=t.2 j k ej
  exact⟨p,by rw[Jx (by rw[t.1];exact hj)];exact a1,a2⟩
 ·rw[Jv (by omega)]at ej
  have hj2:j=es.length:=by
   have:=(Jo.mp ej).1
   rw[JF]at this
   omega
  subst hj2
  rw[JV]at ej
  cases ej
  exact⟨p,by rw[← t.1,Jv (Jw _),JV];rfl,h⟩
theorem IQ{l:List Nat}{k n:Nat}:(ins l k n).length=l.length+1:=by
 unfold ins
 rw[Jt,J2,JP,Km]
 omega
theorem Hk(X:Int)(n:Nat):0<=X%((n:Int)+1)/\X%((n:Int)+1)<=(n:Int):=⟨La _ (by omega),by have:=KP X (show(0:Int)<(n:Int)+1 by omega);omega⟩
def Dist(xs:List V):Prop:=∀(i j:Nat)(p:Addr),xs[i]?=some (.ref p)->xs[j]?=some (.ref p)->i=j
theorem bX.set{S:Addr->Prop}{H:Hp}{xs:List V}{ts:List (List Nat)}{i:Nat}{p:Addr}{l':List Nat}(h:bX S H xs ts)(D:Dist xs)(e:xs[i]?=some (.ref p)):bX S (upd H p (.lst (l'.map iV))) xs (ts.set i l'):=by
 refine⟨by rw[Ke];exact h.1,fun j l z=>?_⟩
 have hi:i<ts.length:=by rw[← h.1];exact(Jo.mp e).1
 rw[Kc]at z
 by_cases hj:i=j
 ·subst hj
  rw[if_pos rfl,if_pos hi]at z
  cases z
  obtain⟨p',a1,a2,a3⟩:=h.2 i _ (Jp hi)
  rw[e]at a1
  cases a1
  exact⟨p,e,a2,ae⟩
 ·rw[if_neg hj]at z
  obtain⟨p',a1,a2,a3⟩:=h.2 j l z
  exact⟨p',a1,a2,by rw[ak (fun y=>by rw[y]at a1;exact hj (D i j p e a1))];exact a3⟩
theorem insV{l:List Nat}{k n:Nat}:(l.map iV).take k++V.int (n:Int)::(l.map iV).drop k=(ins l k n).map iV:=by
 unfold ins
 rw[JX,Kl,LX,LY]
 rfl
theorem DJ{H:Hp}{a:Addr}{xs:List V}{ts:List (List Nat)}(h:SqL K H a xs)(hR:cz H xs ts):RdD K H (.ref a) (.list (ts.map fun l=>PyData.list ((l.map fun(p:Nat)=>((p:Nat):Int)).map PyData.int))):=by
 refine RdD.lst h (by rw[Jr];exact hR.1) fun i x d e1 e2=>?_
 rw[Jy]at e2
 obtain⟨l,hl,rfl⟩:=Kj.mp e2
 obtain⟨p,a1,a2⟩:=hR.2 i l hl
 rw[e1]at a1
 cases a1
 exact oQ (SqL.of a2)
theorem yj(ts:List (List Nat)):SeqAt.shaped (.list (ts.map fun l=>PyData.list ((l.map fun(p:Nat)=>((p:Nat):Int)).map PyData.int)))=true:=oA fun d hd=>by
 obtain⟨l,_,rfl⟩:=Kb.mp hd
 exact EA _
end
end K8
namespace K8
open PySem L2
local macro_rules | `(tactic| walk_at "cc") => `(tactic| first | exact ⟨by decide, by decide⟩ | (show (0 : Int) < _; decide) | (show (0 : Int) < _; omega) | (show (0 : Int) ≤ _; omega) | exact ⟨by decide, by decide, by decide⟩ | exact ⟨by omega, by omega, by decide⟩ | exact Or.inl ⟨by decide, by decide⟩ | exact Or.inl ⟨by omega, by omega⟩)
local macro_rules | `(tactic| walk_at "rd") => `(tactic| repeat (first | refine ⟨_, rfl, ?_⟩ | refine ⟨_, _, rfl, rfl, ?_⟩ | refine ⟨rfl, ?_⟩ | (refine ⟨?cc, ?_⟩; (case cc => walk_at "cc"))))
def xT(K:Js):Sp:=fun vs H Q _=>∃(a:Addr)(ys:List V)(es:En)(d:Nat),vs = [.ref a,.int (d:Int)]/\SqL K H a ys/\dQ H ys es/\d<2*es.length/\Q (iV (hd es d)) H
section
variable{P:Program}{w:World}{K:Js}{mg:Str->Option Value}{base:Heap}
theorem yd:aE ["ends","dart"] ["ends","dart"] (ah eh):=⟨rfl,rfl,rfl,by decide +kernel,rfl,by decide +kernel,by decide +kernel⟩
theorem F3{f:Addr}{fd:FuncData} (F:Fun K "_law_head" "_law_head" eh f fd):FnOk P w K mg base CX0 1 f fd ["ends","dart"] (xT K):=by
 refine F.ok yd (fun vs H Q E h=>?_) (fun cdv A outer s H vs Q E hr h=>?_)
 ·obtain⟨a,ys,es,d,rfl,_⟩:=h
  rfl
 obtain⟨a,ys,es,d,rfl,hS,hE,hdl,k⟩:=h
 have hl:d/2<es.length:=by omega
 have e1:es[d/2]?=some es[d/2]:=Jp hl
 obtain⟨p,x1,x2⟩:=hE.2 _ _ e1
 have hh:hd es d=if d%2=0 then es[d/2].2 else es[d/2].1:=by unfold hd;rw[e1]
 have ed:(d:Int)/2=((d/2:Nat):Int):=by omega
 have hat:atI [iV es[d/2].1,iV es[d/2].2] (1-(d:Int)%2)=some (iV (hd es d)):=by
  by_cases z:d%2=0
  ·rw[hh,if_pos z,show(1-(d:Int)%2)=1 by omega];rfl
  ·rw[hh,if_neg z,show(1-(d:Int)%2)=0 by omega];rfl
 refine⟨_,(ao (aM (aD aW (aD az (pv 0) (av cE (pv 1) ai) (fun _ _=>rfl)) (av mD ai (av bD (pv 1) ai)) (fun _ _=>rfl)))),?_⟩
 exact⟨_,rfl,_,rfl,_,_,rfl,rfl,⟨by decide,by decide⟩,a,ys,_,_,rfl,rfl,hS,(by rw[ed];exact ay x1),_,rfl,_,_,rfl,rfl,(by show(0:Int)<2;decide),_,_,rfl,rfl,p,_,_,_,rfl,rfl,SqT.of x2,hat,k⟩
end
end K8
namespace K8
open PySem L2
local macro_rules | `(tactic| walk_at "cc") => `(tactic| first | exact ⟨by decide, by decide⟩ | (show (0 : Int) < _; decide) | (show (0 : Int) < _; omega) | (show (0 : Int) ≤ _; omega) | exact ⟨by decide, by decide, by decide⟩ | exact ⟨by omega, by omega, by decide⟩ | exact Or.inl ⟨by decide, by decide⟩ | exact Or.inl ⟨by omega, by omega⟩)
local macro_rules | `(tactic| walk_at "rd") => `(tactic| repeat (first | refine ⟨_, rfl, ?_⟩ | refine ⟨_, _, rfl, rfl, ?_⟩ | refine ⟨rfl, ?_⟩ | (refine ⟨?cc, ?_⟩; (case cc => walk_at "cc"))))
theorem Gr.joinP{m:Nat}{es:En}{ts:List (List Nat)}(g:Gr m es ts){left right one two:Nat}{e:Nat×Nat}{l l' xs ys:List Nat}{rest:List (List Nat)}(hl:left<2*es.length)(hr:CR (fol es ts) (2*es.length) (left::(xs++right::ys)))(hch:hG (fol es ts) left (xs++right::ys) left)(hm:right∈left::(xs++right::ys))
  (h1:hd es left=one) (h2:hd es right=two) (hne:one≠two) (he:e=(one,two)∨e=(two,one)) (e1:ts[one]?=some l) (e2:ts[two]?=some l')
  (pr:Part (fol es ts) (2*es.length) ((left::(xs++right::ys))::rest)) :
  Part (fol (es++[e]) ((ts.set one (ins l (l.idxOf (left/2)+1) es.length)).set two (ins l' (l'.idxOf (right/2)+1) es.length))) (2*(es++[e]).length) ((left::bE es.length e one::ys)::(right::bE es.length e two::xs)::rest):=by
 have w:=g.w
 have hrt:right<2*es.length:=hr.lt right hm
 have hlen:=w.len
 have o1:one<m:=by rw[← hlen];exact(Jo.mp e1).1
 have o2:two<m:=by rw[← hlen];exact(Jo.mp e2).1
 have W:bF m (es++[e]) ((ts.set one (ins l (l.idxOf (left/2)+1) es.length)).set two (ins l' (l'.idxOf (right/2)+1) es.length)):=by
  rcases he with rfl | rfl
  ·exact w.put o1 o2 hne e1 e2
  ·exact(w.put o1 o2 hne e1 e2).flip
 have r1:((ts.set one (ins l (l.idxOf (left/2)+1) es.length)).set two (ins l' (l'.idxOf (right/2)+1) es.length))[one]?=some (ins l (l.idxOf (left/2)+1) es.length):=by
  rw[Kc,if_neg (fun z=>hne z.symm),Kc,if_pos rfl,if_pos (by rw[hlen];exact o1)]
 have r2:((ts.set one (ins l (l.idxOf (left/2)+1) es.length)).set two (ins l' (l'.idxOf (right/2)+1) es.length))[two]?=some (ins l' (l'.idxOf (right/2)+1) es.length):=by
  rw[Kc,if_pos rfl,if_pos (by rw[Ke,hlen];exact o2)]
 have r3:∀ p,p≠one->p≠two->((ts.set one (ins l (l.idxOf (left/2)+1) es.length)).set two (ins l' (l'.idxOf (right/2)+1) es.length))[p]?=ts[p]?:=fun p n1 n2=>by
  rw[Kc,if_neg (fun z=>n2 z.symm),Kc,if_neg (fun z=>n1 z.symm)]
 generalize (ts.set one (ins l (l.idxOf (left/2)+1) es.length)).set two (ins l' (l'.idxOf (right/2)+1) es.length)=ts' at W r1 r2 r3
 obtain⟨a1,a2,a3⟩:=lT (e:=e) w e1 hl h1 r1
 obtain⟨b1,b2,b3⟩:=lT (e:=e) w e2 hrt h2 r2
 obtain⟨d1,d2,d3,d4⟩:=oi (es:=es) hne he
 have fa:=b2 _ (aV _ _ _) d1
 have fb:=a2 _ (aV _ _ _) d2
 have els:∀ d,d<2*es.length->d≠left->d≠right->fol (es++[e]) ts' d=fol es ts d:=fun d hd' n1 n2=>by
  by_cases z1:hd es d=one
  ·exact a3 d hd' n1 z1
  ·by_cases z2:hd es d=two
   ·exact b3 d hd' n2 z2
   ·exact oa w hd' (r3 _ z1 z2)
 generalize ha:bE es.length e one=α at *
 generalize hb:bE es.length e two=β at *
 have hα:α/2=es.length:=by rw[← ha];exact aV _ _ _
 have hβ:β/2=es.length:=by rw[← hb];exact aV _ _ _
 have hlr:right≠left:=fun z=>hne (by rw[← h1,← h2,z])
 have hm':right∈xs++right::ys:=by
  rcases Ju.mp hm with z | z
  ·exact absurd z hlr
  ·exact z
 obtain⟨c1,c2⟩:=cf.mp hch
 have nd:=hr.nd
 have ltx:∀ t∈xs,t<2*es.length/\t≠left/\t≠right:=fun t ht=>by
  refine⟨hr.lt t (by simp[ht]),fun z=>?_,fun z=>?_⟩
  ·subst z;exact(Jz.mp nd).1 (by simp[ht])
  ·subst z
   have:=(JE.mp (Jz.mp nd).2).2.2 t ht t (by simp)
   exact this rfl
 have lty:∀ t∈ys,t<2*es.length/\t≠left/\t≠right:=fun t ht=>by
  refine⟨hr.lt t (by simp[ht]),fun z=>?_,fun z=>?_⟩
  ·subst z;exact(Jz.mp nd).1 (by simp[ht])
  ·subst z
   exact(Jz.mp (JE.mp (Jz.mp nd).2).2.1).1 ht
 have ndr:=pr.nd
 rw[JS]at ndr
 obtain⟨_,nd2,nd3⟩:=JE.mp ndr
 have ltr:∀ t∈rest.flatten,t<2*es.length/\t≠left/\t≠right:=fun t ht=>by
  obtain⟨q,q1,q2⟩:=Ks.mp ht
  exact⟨(pr.cr q (JB _ q1)).lt t q2,fun z=>nd3 left (by simp) t ht z.symm,fun z=>nd3 right (by simp) t ht z.symm⟩
 have hlen2:(es++[e]).length=es.length+1:=by rw[Jt];rfl
 have PP:Part (fol (es++[e]) ts') (2*(es++[e]).length) ((left::α::ys)::(right::β::xs)::rest):=by
  refine⟨fun q hq=>?_,?_,fun d hd'=>?_⟩
  ·rcases Ju.mp hq with z | z
   ·subst z
    refine⟨⟨left,α::ys,rfl,a1,fJ c2 fa fun t ht=>els t (lty t ht).1 (lty t ht).2.1 (lty t ht).2.2⟩,fun d hd'=>?_,?_⟩
    ·rw[hlen2]
     simp only[Ju]at hd'
     rcases hd' with y | y | y
     ·omega
     ·omega
     ·have:=(lty d y).1;omega
    ·refine Jz.mpr ⟨fun y=>?_,Jz.mpr ⟨fun y=>?_,?_⟩⟩
     ·rcases Ju.mp y with y | y
      ·omega
      ·exact(lty _ y).2.1 rfl
     ·have:=(lty _ y).1;omega
     ·exact(Jz.mp (JE.mp (Jz.mp nd).2).2.1).2
   ·rcases Ju.mp z with z | z
    ·subst z
     refine⟨⟨right,β::xs,rfl,b1,fJ c1 fb fun t ht=>els t (ltx t ht).1 (ltx t ht).2.1 (ltx t ht).2.2⟩,fun d hd'=>?_,?_⟩
     ·rw[hlen2]
      simp only[Ju]at hd'
      rcases hd' with y | y | y
      ·omega
      ·omega
      ·have:=(ltx d y).1;omega
     ·refine Jz.mpr ⟨fun y=>?_,Jz.mpr ⟨fun y=>?_,?_⟩⟩
      ·rcases Ju.mp y with y | y
       ·omega
       ·exact(ltx _ y).2.2 rfl
      ·have:=(ltx _ y).1;omega
      ·exact(JE.mp (Jz.mp nd).2).1
    ·refine(pr.cr q (JB _ z)).mono (by rw[hlen2];omega) fun t ht=>?_
     obtain⟨k1,k2,k3⟩:=ltr t (Ks.mpr ⟨q,z,ht⟩)
     exact els t k1 k2 k3
  ·have dis:∀ x∈xs,∀ y∈ys,x≠y:=fun x hx y hy=>(JE.mp (Jz.mp nd).2).2.2 x hx y (by simp[hy])
   rw[JS,JS]
   refine JE.mpr ⟨?_,JE.mpr ⟨?_,nd2,fun a ha b hb=>?_⟩,fun a ha b hb=>?_⟩
   ·refine Jz.mpr ⟨fun y=>?_,Jz.mpr ⟨fun y=>?_,(Jz.mp (JE.mp (Jz.mp nd).2).2.1).2⟩⟩
    ·rcases Ju.mp y with y | y
     ·omega
     ·exact(lty _ y).2.1 rfl
    ·have:=(lty _ y).1;omega
   ·refine Jz.mpr ⟨fun y=>?_,Jz.mpr ⟨fun y=>?_,(JE.mp (Jz.mp nd).2).1⟩⟩
    ·rcases Ju.mp y with y | y
     ·omega
     ·exact(ltx _ y).2.2 rfl
    ·have:=(ltx _ y).1;omega
   ·obtain⟨k1,k2,k3⟩:=ltr b hb
    simp only[Ju]at ha
    rcases ha with y | y | y
    ·exact fun z=>k3 (z▸y)
    ·omega
    ·exact nd3 a (by simp[y]) b hb
   ·simp only[Ju,JA]at ha hb
    rcases hb with(y | y | y) | y
    ·rcases ha with z | z | z
     ·exact fun u=>hlr (by rw[← y,← u,z])
     ·have:=hrt;omega
     ·exact fun u=>(lty a z).2.2 (u.trans y)
    ·rcases ha with z | z | z
     ·omega
     ·omega
     ·have:=(lty a z).1;omega
    ·rcases ha with z | z | z
     ·exact fun u=>(ltx b y).2.1 (u▸z)
     ·have:=(ltx b y).1;omega
     ·exact fun u=>dis b y a z u.symm
    ·obtain⟨k1,k2,k3⟩:=ltr b y
     rcases ha with z | z | z
     ·exact fun u=>k2 (u▸z)
     ·omega
     ·exact nd3 a (by simp[z]) b y
  ·rw[hlen2]at hd'
   simp only[JS,JA,Ju]
   rcases d4 d hd' with y | y | y
   ·have:=pr.all d y
    simp only[JS,JA,Ju]at this
    rcases this with(z | z | z | z) | z
    ·exact .inl (.inl z)
    ·exact .inr (.inl (.inr (.inr z)))
    ·exact .inr (.inl (.inl z))
    ·exact .inl (.inr (.inr z))
    ·exact .inr (.inr z)
   ·exact .inl (.inr (.inl y))
   ·exact .inr (.inl (.inr (.inl y)))
 exact PP
theorem Gr.leafP{m:Nat}{es:En}{ts:List (List Nat)}(g:Gr m es ts){left one:Nat}{e:Nat×Nat}{l tail:List Nat}{rest:List (List Nat)}(hl:left<2*es.length)(hr:CR (fol es ts) (2*es.length) (left::tail))(hch:hG (fol es ts) left tail left)
  (h1:hd es left=one) (he:e=(one,m)∨e=(m,one)) (e1:ts[one]?=some l)
  (pr:Part (fol es ts) (2*es.length) ((left::tail)::rest)) :
  Part (fol (es++[e]) (ts.set one (ins l (l.idxOf (left/2)+1) es.length)++[[es.length]])) (2*(es++[e]).length) ((left::bE es.length e one::bE es.length e m::tail)::rest):=by
 have w:=g.w
 have hlen:=w.len
 have o1:one<m:=by rw[← hlen];exact(Jo.mp e1).1
 have hne:one≠m:=by omega
 have W:bF (m+1) (es++[e]) (ts.set one (ins l (l.idxOf (left/2)+1) es.length)++[[es.length]]):=by
  have q:=w.room.put (one:=one) (two:=m) (k:=l.idxOf (left/2)+1) (j:=0) (l:=l) (l':=[]) (by omega) (by omega) hne (by rw[Jx (by omega)];exact e1) (by rw[Jv (by omega),hlen,JV];rfl)
  have q2:((ts++[[]]).set one (ins l (l.idxOf (left/2)+1) es.length)).set m (ins [] 0 es.length)=ts.set one (ins l (l.idxOf (left/2)+1) es.length)++[[es.length]]:=by
   rw[MC _ _ (by omega),Mu _ _ (by rw[Ke];omega),Ke,hlen,JV]
   rfl
  rw[q2]at q
  rcases he with rfl | rfl
  ·exact q
  ·exact q.flip
 have r1:(ts.set one (ins l (l.idxOf (left/2)+1) es.length)++[[es.length]])[one]?=some (ins l (l.idxOf (left/2)+1) es.length):=by
  rw[Jx (by rw[Ke];omega),Kc,if_pos rfl,if_pos (by omega)]
 have r2:(ts.set one (ins l (l.idxOf (left/2)+1) es.length)++[[es.length]])[m]?=some [es.length]:=by
  rw[Jv (by rw[Ke];omega),Ke,hlen,JV]
  rfl
 have r3:∀ p,p≠one->p<m->(ts.set one (ins l (l.idxOf (left/2)+1) es.length)++[[es.length]])[p]?=ts[p]?:=fun p n1 n2=>by
  rw[Jx (by rw[Ke];omega),Kc,if_neg (fun z=>n1 z.symm)]
 generalize ts.set one (ins l (l.idxOf (left/2)+1) es.length)++[[es.length]]=ts' at W r1 r2 r3
 obtain⟨a1,a2,a3⟩:=lT (e:=e) w e1 hl h1 r1
 obtain⟨d1,d2,d3,d4⟩:=oi (es:=es) hne he
 have fb:=a2 _ (aV _ _ _) d2
 have fa:fol (es++[e]) ts' (bE es.length e one)=bE es.length e m:=by
  rw[eO (l:=[es.length]) (by rw[d1];exact r2),aV,d1]
  have:nxt [es.length] es.length=es.length:=by
   unfold nxt
   rw[MD]
   simp
  rw[this,oW]
  rfl
 have els:∀ d,d<2*es.length->d≠left->fol (es++[e]) ts' d=fol es ts d:=fun d hd' n1=>by
  by_cases z1:hd es d=one
  ·exact a3 d hd' n1 z1
  ·obtain⟨_,_,_,_,_,k4,_⟩:=w.at hd'
   exact oa w hd' (r3 _ z1 k4)
 generalize ha:bE es.length e one=α at *
 generalize hb:bE es.length e m=β at *
 have hα:α/2=es.length:=by rw[← ha];exact aV _ _ _
 have hβ:β/2=es.length:=by rw[← hb];exact aV _ _ _
 have nd:=hr.nd
 have ltt:∀ t∈tail,t<2*es.length/\t≠left:=fun t ht=>⟨hr.lt t (by simp[ht]),fun z=>(Jz.mp nd).1 (z▸ht)⟩
 have ndr:=pr.nd
 rw[JS]at ndr
 obtain⟨_,nd2,nd3⟩:=JE.mp ndr
 have ltr:∀ t∈rest.flatten,t<2*es.length/\t≠left:=fun t ht=>by
  obtain⟨q,q1,q2⟩:=Ks.mp ht
  exact⟨(pr.cr q (JB _ q1)).lt t q2,fun z=>nd3 left (by simp) t ht z.symm⟩
 have hlen2:(es++[e]).length=es.length+1:=by rw[Jt];rfl
 have nd4:(left::α::β::tail).Nodup:=by
  refine Jz.mpr ⟨fun y=>?_,Jz.mpr ⟨fun y=>?_,Jz.mpr ⟨fun y=>?_,(Jz.mp nd).2⟩⟩⟩
  ·simp only[Ju]at y
   rcases y with y | y | y
   ·omega
   ·omega
   ·exact(ltt _ y).2 rfl
  ·simp only[Ju]at y
   rcases y with y | y
   ·exact d3 y
   ·have:=(ltt _ y).1;omega
  ·have:=(ltt _ y).1;omega
 have PP:Part (fol (es++[e]) ts') (2*(es++[e]).length) ((left::α::β::tail)::rest):=by
  refine⟨fun q hq=>?_,?_,fun d hd'=>?_⟩
  ·rcases Ju.mp hq with z | z
   ·subst z
    refine⟨⟨left,α::β::tail,rfl,a1,fa,fJ hch fb fun t ht=>els t (ltt t ht).1 (ltt t ht).2⟩,fun d hd'=>?_,nd4⟩
    rw[hlen2]
    simp only[Ju]at hd'
    rcases hd' with y | y | y | y
    ·omega
    ·omega
    ·omega
    ·have:=(ltt d y).1;omega
   ·refine(pr.cr q (JB _ z)).mono (by rw[hlen2];omega) fun t ht=>?_
    obtain⟨k1,k2⟩:=ltr t (Ks.mpr ⟨q,z,ht⟩)
    exact els t k1 k2
  ·rw[JS]
   refine JE.mpr ⟨nd4,nd2,fun a ha b hb=>?_⟩
   obtain⟨k1,k2⟩:=ltr b hb
   simp only[Ju]at ha
   rcases ha with y | y | y | y
   ·exact fun u=>k2 (u▸y)
   ·omega
   ·omega
   ·exact nd3 a (by simp[y]) b hb
  ·rw[hlen2]at hd'
   simp only[JS,JA,Ju]
   rcases d4 d hd' with y | y | y
   ·have:=pr.all d y
    simp only[JS,JA,Ju]at this
    rcases this with(z | z) | z
    ·exact .inl (.inl z)
    ·exact .inl (.inr (.inr (.inr z)))
    ·exact .inr z
   ·exact .inl (.inr (.inl y))
   ·exact .inl (.inr (.inr (.inl y)))
 exact PP
theorem CR.turn{f:Nat->Nat}{N:Nat}{A B:List Nat}(h:CR f N (A++B))(nb:B≠[]):CR f N (B++A):=by
 have pm:(B++A).Perm (A++B):=Kr
 refine⟨?_,fun d hd=>h.lt d (pm.mem_iff.mp hd),pm.nodup_iff.mpr h.nd⟩
 match A,B,h,nb with
 |[],B,h,_ =>
  rw[KJ]
  exact h.ch
 |x::A,b::B,h,_ =>
  obtain⟨y,l,e,c⟩:=h.ch
  rw[Lj]at e
  cases e
  obtain⟨c1,c2⟩:=cf.mp c
  exact⟨b,B++x::A,rfl,cf.mpr ⟨c2,c1⟩⟩
theorem Part.perm{f:Nat->Nat}{N:Nat}{rs rs':List (List Nat)}(p:Part f N rs)(h:rs.Perm rs'):Part f N rs' :=
 ⟨fun r hr=>p.cr r (h.mem_iff.mpr hr),h.flatten.nodup_iff.mp p.nd,fun d hd=>h.flatten.mem_iff.mp (p.all d hd)⟩
theorem Part.swap{f:Nat->Nat}{N:Nat}{r r':List Nat}{rest:List (List Nat)}(p:Part f N (r::rest))(h:CR f N r')(pm:r'.Perm r):Part f N (r'::rest):=by
 have q:((r'::rest).flatten).Perm ((r::rest).flatten):=by
  rw[JS,JS]
  exact pm.append_right _
 refine⟨fun x hx=>?_,q.nodup_iff.mpr p.nd,fun d hd=>q.mem_iff.mpr (p.all d hd)⟩
 rcases Ju.mp hx with z | z
 ·rw[z];exact h
 ·exact p.cr x (JB _ z)
theorem sN:∀{rs:List (List Nat)}{i:Nat}{r:List Nat},rs[i]?=some r->rs.Perm (r::rs.eraseIdx i)
 |[],i,r,h=>by cases h
 |x::rs,0,r,h=>by cases h;exact Ni _
 |x::rs,i+1,r,h=>by
  have ih:=sN (rs:=rs) (i:=i) (r:=r) h
  show(x::rs).Perm (r::x::rs.eraseIdx i)
  exact(ih.cons x).trans (MH r x _)
theorem AS{rs:List (List Nat)}{i:Nat}(hi:i<rs.length)(r:List Nat):(r::rs.eraseIdx i).Perm (rs.set i r):=by
 have h:(rs.set i r)[i]?=some r:=by rw[LL hi]
 have:=sN h
 rw[List.eraseIdx_set_eq]at this
 exact this.symm
theorem Dr{m:Nat}{es:En}{ts rings:List (List Nat)}(g:Gr m es ts)(pt:Part (fol es ts) (2*es.length) rings){w left right one two:Nat}{A B C:List Nat}(hw:rings[w]?=some (A++left::(B++right::C))){e:Nat×Nat}{l l':List Nat}(h1:hd es left=one)(h2:hd es right=two)(hne:one≠two)(he:e=(one,two)∨e=(two,one))(e1:ts[one]?=some l)(e2:ts[two]?=some l') :
  Gr m (es++[e]) ((ts.set one (ins l (l.idxOf (left/2)+1) es.length)).set two (ins l' (l'.idxOf (right/2)+1) es.length)) /\
  Part (fol (es++[e]) ((ts.set one (ins l (l.idxOf (left/2)+1) es.length)).set two (ins l' (l'.idxOf (right/2)+1) es.length))) (2*(es++[e]).length) (rings.set w (A++left::bE es.length e one::C)++[B++[right,bE es.length e two]]):=by
 have wl:=(Jo.mp hw).1
 have p1:=pt.perm (sN hw)
 have c0:=p1.cr _ (JD ..)
 have c1:CR (fol es ts) (2*es.length) (left::(B++right::(C++A))):=by
  have:=c0.turn (List.cons_ne_nil _ _)
  rw[Lj,J1,Lj]at this
  exact this
 have pm:(left::(B++right::(C++A))).Perm (A++left::(B++right::C)):=by
  have:(left::(B++right::C)++A).Perm (A++left::(B++right::C)):=Kr
  rw[Lj,J1,Lj]at this
  exact this
 have p2:=p1.swap c1 pm
 have hl:=c1.lt left (JD ..)
 obtain⟨x,tl,ex,ch⟩:=c1.ch
 cases ex
 have hm:right∈left::(B++right::(C++A)):=by simp
 refine⟨g.join hl c1 ch hm h1 h2 hne he e1 e2,?_⟩
 have q:=g.joinP hl c1 ch hm h1 h2 hne he e1 e2 p2
 generalize (ts.set one (ins l (l.idxOf (left/2)+1) es.length)).set two (ins l' (l'.idxOf (right/2)+1) es.length)=ts' at q ⊢
 generalize bE es.length e one=α at q ⊢
 generalize bE es.length e two=β at q ⊢
 have d1:CR (fol (es++[e]) ts') (2*(es++[e]).length) (A++left::α::C):=by
  have h:=q.cr _ (JD ..)
  by_cases na:A = []
  ·subst na
   rw[KJ]at h
   exact h
  ·have h':CR (fol (es++[e]) ts') (2*(es++[e]).length) ((left::α::C)++A):=h
   exact h'.turn na
 have pm1:(A++left::α::C).Perm (left::α::(C++A)):=(Kr:(A++(left::α::C)).Perm ((left::α::C)++A))
 have q1:=q.swap d1 pm1
 have q2:=q1.perm (MH _ _ _)
 have d2:CR (fol (es++[e]) ts') (2*(es++[e]).length) (B++[right,β]):=by
  have h:=q2.cr _ (JD ..)
  by_cases nb:B = []
  ·subst nb;exact h
  ·have h':CR (fol (es++[e]) ts') (2*(es++[e]).length) ([right,β]++B):=h
   exact h'.turn nb
 have q3:=q2.swap d2 (Kr:(B++[right,β]).Perm ([right,β]++B))
 refine q3.perm ?_
 refine(List.Perm.cons _ (AS wl _)).trans ?_
 exact(Kr:([B++[right,β]]++rings.set w (A++left::α::C)).Perm _)
theorem Dp{m:Nat}{es:En}{ts rings:List (List Nat)}(g:Gr m es ts)(pt:Part (fol es ts) (2*es.length) rings){w left one:Nat}{A B:List Nat}(hw:rings[w]?=some (A++left::B)){e:Nat×Nat}{l:List Nat}(h1:hd es left=one)(he:e=(one,m)∨e=(m,one))(e1:ts[one]?=some l) :
  Gr (m+1) (es++[e]) (ts.set one (ins l (l.idxOf (left/2)+1) es.length)++[[es.length]]) /\
  Part (fol (es++[e]) (ts.set one (ins l (l.idxOf (left/2)+1) es.length)++[[es.length]])) (2*(es++[e]).length) (rings.set w (A++left::bE es.length e one::bE es.length e m::B)):=by
 have wl:=(Jo.mp hw).1
 have p1:=pt.perm (sN hw)
 have c0:=p1.cr _ (JD ..)
 have c1:CR (fol es ts) (2*es.length) (left::(B++A)):=c0.turn (List.cons_ne_nil _ _)
 have p2:=p1.swap c1 (Kr:((left::B)++A).Perm (A++left::B))
 have hl:=c1.lt left (JD ..)
 obtain⟨x,tl,ex,ch⟩:=c1.ch
 cases ex
 refine⟨g.leaf hl c1 ch h1 he e1,?_⟩
 have q:=g.leafP hl c1 ch h1 he e1 p2
 generalize ts.set one (ins l (l.idxOf (left/2)+1) es.length)++[[es.length]]=ts' at q ⊢
 generalize bE es.length e one=α at q ⊢
 generalize bE es.length e m=β at q ⊢
 have d1:CR (fol (es++[e]) ts') (2*(es++[e]).length) (A++left::α::β::B):=by
  have h:=q.cr _ (JD ..)
  by_cases na:A = []
  ·subst na
   rw[KJ]at h
   exact h
  ·have h':CR (fol (es++[e]) ts') (2*(es++[e]).length) ((left::α::β::B)++A):=h
   exact h'.turn na
 have q1:=q.swap d1 (Kr:(A++(left::α::β::B)).Perm ((left::α::β::B)++A))
 exact q1.perm (AS wl _)
def Dx(K:Js):Sp:=fun vs H Q _=>∃(pt q:Addr)(xs:List V)(p d n:Nat)(l:List Nat),vs = [.ref pt,.int (p:Int),.int (d:Int),.int (n:Int)]/\SqL K H pt xs/\xs[p]?=some (.ref q)/\H q=some (.lst (l.map iV))/\d/2∈l/\l.length<=70/\(∀ x∈l,x<1000)/\Q .non (upd H q (.lst ((ins l (l.idxOf (d/2)+1) n).map iV)))
section
variable{P:Program}{w:World}{K:Js}{mg:Str->Option Value}{base:Heap}
theorem qW:aE ["turns","place","behind","fresh","row"] ["turns","place","behind","fresh"] (ah gs):=⟨rfl,rfl,rfl,by decide +kernel,rfl,by decide +kernel,by decide +kernel⟩
theorem ok_put{f:Addr}{fd:FuncData} (F:Fun K "_law_put" "_law_put" gs f fd):FnOk P w K mg base CX0 1 f fd ["turns","place","behind","fresh"] (Dx K):=by
 refine F.ok qW (fun vs H Q E h=>?_) (fun cdv A outer s H vs Q E hr h=>?_)
 ·obtain⟨pt,q,xs,p,d,n,l,rfl,_⟩:=h
  rfl
 obtain⟨pt,q,xs,p,d,n,l,rfl,hS,hx,hq,hd,l60,lb,kk⟩:=h
 have ix:l.idxOf (d/2)<l.length:=List.idxOf_lt_length_of_mem hd
 have ll:(l.map iV).length=l.length:=Jr ..
 have eL:(d:Int)/2=((d/2:Nat):Int):=by omega
 refine⟨_,(af (ar (i:=4) qW.nd rfl (Or.inl rfl) (aD az (pv 0) (pv 1) (fun _ _=>rfl)))
   (ao (bp (ij JY Nm Nl vH (pv 4) (aa (av bA (ij JY Nt Nr A6 (pv 4) (aa (av cE (pv 2) ai) ag)) ai) (aa (pv 3) ag)))))),?_⟩
 refine⟨_,rfl,_,rfl,pt,xs,_,_,rfl,rfl,hS,ay hx,?_⟩
 refine⟨_,rfl,.inl ⟨rfl,_,SqL.of hq⟩,_,rfl,.inl ⟨rfl,_,SqL.of hq⟩,_,rfl,_,_,rfl,rfl,⟨by decide,by decide⟩,q,l,d/2,rfl,congrArg (fun z=>[V.int z]) eL,SqL.of hq,fun p hp=>by have:=lb p hp;omega,by omega,hd,_,_,rfl,rfl,_,rfl,q,_,_,_,rfl,rfl,hq,by omega,by omega,ax (by omega),?_⟩
 rw[insV,show(((l.idxOf (d/2):Nat):Int)+1).toNat=l.idxOf (d/2)+1 by omega]
 exact kk
end
structure GwC(S:Addr->Prop)(H:Hp)(pe pt pr:Addr)(ys xs zs:List V)(es:En)(ts rg:List (List Nat)):Prop where
 he:H pe=some (.lst ys)
 en:dQ H ys es
 ht:H pt=some (.lst xs)
 rx:bX (fun p=>p=pe∨p=pt∨p=pr∨S p) H xs ts
 di:Dist xs
 hr:H pr=some (.lst zs)
 rz:bX (fun p=>(p=pe∨p=pt∨p=pr)∨V.ref p∈xs∨S p) H zs rg
 ne:pe≠pt/\pe≠pr/\pt≠pr/\¬ S pe/\¬ S pt/\¬ S pr
 sl:∀ p,S p->H p≠none
def Keep(S:Addr->Prop)(H H':Hp):Prop:=∀ p o,S p->H p=some o->H' p=some o
theorem Keep.trans{S:Addr->Prop}{H H1 H2:Hp}(a:Keep S H H1)(b:Keep S H1 H2):Keep S H H2:=fun p o s h=>b p o s (a p o s h)
theorem Keep.of{S:Addr->Prop}{H H1:Hp}(a:Same H H1):Keep S H H1:=fun p o _ h=>a p o h
theorem Keep.upd{S:Addr->Prop}{H:Hp}{q:Addr}{o:HO}(n:¬ S q):Keep S H (upd H q o):=fun p u s h=>by rw[ak (show p≠q from fun z=>n (z▸s))];exact h
theorem De{S:Addr->Prop}{H:Hp}{xs:List V}{ts:List (List Nat)}(h:bX S H xs ts){p:Addr}(m:V.ref p∈xs):H p≠none:=by
 obtain⟨i,hi⟩:=Kd.mp m
 have il:=(Jo.mp hi).1
 obtain⟨p',a1,_,a3⟩:=h.2 i _ (Jp (by rw[← h.1];exact il))
 rw[hi]at a1
 cases a1
 rw[a3]
 exact fun z=>nomatch z
section
variable{S:Addr->Prop}{H H':Hp}{pe pt pr:Addr}{ys xs zs:List V}{es:En}{ts rg:List (List Nat)}
theorem GwC.same(c:GwC S H pe pt pr ys xs zs es ts rg)(s:Same H H'):GwC S H' pe pt pr ys xs zs es ts rg :=
 ⟨s _ _ c.he,c.en.mono s,s _ _ c.ht,c.rx.mono fun p o _ z=>s _ _ z,c.di,s _ _ c.hr,c.rz.mono fun p o _ z=>s _ _ z,c.ne,fun p sp z=>by
  cases y:H p with
  |none=>exact c.sl p sp y
  |some o=>rw[s _ _ y]at z;cases z⟩
theorem GwC.new(c:GwC S H pe pt pr ys xs zs es ts rg){b:Addr}(h:H b=none):b≠pe/\b≠pt/\b≠pr/\¬ S b/\V.ref b∉xs/\V.ref b∉zs :=
 ⟨fun z=>(by rw[z,c.he]at h;cases h),fun z=>(by rw[z,c.ht]at h;cases h),fun z=>(by rw[z,c.hr]at h;cases h),fun z=>c.sl b z h,fun z=>De c.rx z h,fun z=>De c.rz z h⟩
theorem GwC.put(c:GwC S H pe pt pr ys xs zs es ts rg){i:Nat}{q:Addr}(hx:xs[i]?=some (.ref q))(l':List Nat):GwC S (upd H q (.lst (l'.map iV))) pe pt pr ys xs zs es (ts.set i l') rg/\¬ S q:=by
 have il:i<ts.length:=by rw[← c.rx.1];exact(Jo.mp hx).1
 obtain⟨q',a1,a2,a3⟩:=c.rx.2 i _ (Jp il)
 rw[hx]at a1
 cases a1
 have n1:pe≠q:=fun z=>a2 (.inl z.symm)
 have n2:pt≠q:=fun z=>a2 (.inr (.inl z.symm))
 have n3:pr≠q:=fun z=>a2 (.inr (.inr (.inl z.symm)))
 have n4:¬ S q:=fun z=>a2 (.inr (.inr (.inr z)))
 refine⟨⟨by rw[ak n1];exact c.he,c.en.put a3,by rw[ak n2];exact c.ht,c.rx.set c.di hx,c.di,by rw[ak n3];exact c.hr,c.rz.mono fun p o n z=>?_,c.ne,fun p sp z=>?_⟩,n4⟩
 ·rw[ak (show p≠q from fun y=>n (.inr (.inl (y▸Jq hx))))];exact z
 ·rw[ak (show p≠q from fun y=>n4 (y▸sp))]at z;exact c.sl p sp z
theorem GwC.updR(c:GwC S H pe pt pr ys xs zs es ts rg){zs':List V}{rg':List (List Nat)}(hz:bX (fun p=>(p=pe∨p=pt∨p=pr)∨V.ref p∈xs∨S p) H zs' rg'):GwC S (upd H pr (.lst zs')) pe pt pr ys xs zs' es ts rg':=by
 obtain⟨n1,n2,n3,n4,n5,n6⟩:=c.ne
 refine⟨by rw[ak n2];exact c.he,c.en.put c.hr,by rw[ak n3];exact c.ht,c.rx.mono fun p o n z=>?_,c.di,ae,hz.mono fun p o n z=>?_,c.ne,fun p sp z=>?_⟩
 ·rw[ak (fun y=>n (.inr (.inr (.inl y))))];exact z
 ·rw[ak (fun y=>n (.inl (.inr (.inr y))))];exact z
 ·rw[ak (show p≠pr from fun y=>n6 (y▸sp))]at z;exact c.sl p sp z
theorem u4{S:Addr->Prop}{H:Hp}{zs:List V}{rg:List (List Nat)}(h:bX S H zs rg){W:Nat}{b:Addr}{r:List Nat}(n:¬ S b)(e:H b=some (.lst (r.map iV))):bX S H (zs.set W (.ref b)) (rg.set W r):=by
 refine⟨by rw[Ke,Ke];exact h.1,fun j l z=>?_⟩
 rw[Kc]at z ⊢
 by_cases hj:W=j
 ·rw[if_pos hj]at z ⊢
  by_cases hl:W<rg.length
  ·rw[if_pos hl]at z
   cases z
   exact⟨b,by rw[if_pos (by rw[h.1];exact hl)],n,e⟩
  ·rw[if_neg hl]at z;cases z
 ·rw[if_neg hj]at z ⊢
  exact h.2 j l z
theorem GwC.leaf(c:GwC S H pe pt pr ys xs zs es ts rg){pn:Addr}(hp:pn≠pe/\pn≠pt/\pn≠pr/\¬ S pn/\V.ref pn∉xs/\V.ref pn∉zs){l:List Nat}(e:H pn=some (.lst (l.map iV))):GwC S (upd H pt (.lst (xs++[.ref pn]))) pe pt pr ys (xs++[.ref pn]) zs es (ts++[l]) rg:=by
 obtain⟨n1,n2,n3,n4,n5,n6⟩:=c.ne
 obtain⟨m1,m2,m3,m4,m5,m6⟩:=hp
 have R:=c.rx.snoc (q:=pn) (l:=l) (by rintro(z | z | z | z);exact m1 z;exact m2 z;exact m3 z;exact m4 z) e
 refine⟨by rw[ak n1];exact c.he,c.en.put c.ht,ae,R.mono fun p o n z=>?_,fun i j p e1 e2=>?_,by rw[ak (Ne.symm n3)];exact c.hr,⟨c.rz.1,fun i l hl=>?_⟩,c.ne,fun p sp z=>?_⟩
 ·rw[ak (fun y=>n (.inr (.inl y)))];exact z
 ·have old:∀ k,(xs++[V.ref pn])[k]?=some (.ref p)->(xs[k]?=some (.ref p))∨(k=xs.length/\p=pn):=fun k ek=>by
   by_cases hk:k<xs.length
   ·rw[Jx hk]at ek;exact .inl ek
   ·have:=(Jo.mp ek).1
    rw[Jt,JF]at this
    have hk2:k=xs.length:=by omega
    subst hk2
    rw[Jv (Jw _),JV]at ek
    cases ek
    exact .inr ⟨rfl,rfl⟩
  rcases old i e1 with a | ⟨a,a'⟩
  ·rcases old j e2 with b | ⟨b,b'⟩
   ·exact c.di i j p a b
   ·exact absurd (b'▸Jq a) m5
  ·rcases old j e2 with b | ⟨b,b'⟩
   ·exact absurd (a'▸Jq b) m5
   ·rw[a,b]
 ·obtain⟨p,a1,a2,a3⟩:=c.rz.2 i l hl
  refine⟨p,a1,?_,?_⟩
  ·rintro(y | y | y)
   ·exact a2 (.inl y)
   ·rcases JA.mp y with y | y
    ·exact a2 (.inr (.inl y))
    ·have:p=pn:=by
      have:=JI.mp y
      cases this;rfl
     exact m6 (this▸Jq a1)
   ·exact a2 (.inr (.inr y))
  ·rw[ak (fun y=>a2 (.inl (.inr (.inl y))))];exact a3
 ·rw[ak (show p≠pt from fun y=>n5 (y▸sp))]at z;exact c.sl p sp z
theorem GwC.fin(c:GwC S H pe pt pr ys xs zs es ts rg){i:Nat}{q:Addr}(hx:xs[i]?=some (.ref q))(l':List Nat){t:Addr}(ht:(upd H q (.lst (l'.map iV))) t=none)(e:Nat×Nat) :
  GwC S (upd (upd (upd H q (.lst (l'.map iV))) t (.tup [iV e.1,iV e.2])) pe (.lst (ys++[.ref t]))) pe pt pr (ys++[.ref t]) xs zs (es++[e]) (ts.set i l') rg/\Keep S H (upd (upd (upd H q (.lst (l'.map iV))) t (.tup [iV e.1,iV e.2])) pe (.lst (ys++[.ref t]))):=by
 obtain⟨c1,nq⟩:=c.put hx l'
 have sn:=aj ht (.tup [iV e.1,iV e.2])
 have c2:=c1.same sn
 obtain⟨n1,n2,n3,n4,n5,n6⟩:=c.ne
 refine⟨⟨ae,(c2.en.snoc ae).put c2.he,by rw[ak (Ne.symm n1)];exact c2.ht,c2.rx.mono fun p o n z=>?_,c2.di,by rw[ak (Ne.symm n2)];exact c2.hr,c2.rz.mono fun p o n z=>?_,c.ne,fun p sp z=>?_⟩,?_⟩
 ·rw[ak (fun y=>n (.inl y))];exact z
 ·rw[ak (fun y=>n (.inl (.inl y)))];exact z
 ·rw[ak (show p≠pe from fun y=>n4 (y▸sp))]at z;exact c2.sl p sp z
 ·exact((Keep.upd nq).trans (Keep.of sn)).trans (Keep.upd n4)
end
end K8
namespace K8
open PySem L2
local macro_rules | `(tactic| walk_at "cc") => `(tactic| first | exact ⟨by decide, by decide⟩ | (show (0 : Int) < _; decide) | (show (0 : Int) < _; omega) | (show (0 : Int) ≤ _; omega) | exact ⟨by decide, by decide, by decide⟩ | exact ⟨by omega, by omega, by decide⟩ | exact Or.inl ⟨by decide, by decide⟩ | exact Or.inl ⟨by omega, by omega⟩)
local macro_rules | `(tactic| walk_at "rd") => `(tactic| repeat (first | refine ⟨_, rfl, ?_⟩ | refine ⟨_, _, rfl, rfl, ?_⟩ | refine ⟨rfl, ?_⟩ | (refine ⟨?cc, ?_⟩; (case cc => walk_at "cc"))))
def GwA(S:Addr->Prop)(H:Hp)(pe pt pr:Addr)(m:Nat)(es:En)(ts rg:List (List Nat)):Prop:=(∃ ys xs zs,GwC S H pe pt pr ys xs zs es ts rg)/\Gr m es ts/\Part (fol es ts) (2*es.length) rg
def stepT:TS:=fun D σ H=>∃(pe pt q rg:Addr)(v0 v3 v4 v5 v6 v7 v10 v15:Option V)(a L one two n o:Nat)(xs ys:List V)(ring l:List Nat),σ = [v0,some (.ref pe),some (.ref pt),v3,v4,v5,v6,v7,some (.ref rg),some (.int (a:Int)),v10,some (.int (one:Int)),some (.int (two:Int)),some (.int (n:Int)),some (.int ((2*n+o:Nat):Int)),v15]/\o<2/\H pt=some (.lst xs)/\xs[one]?=some (.ref q)/\H q=some (.lst (l.map iV))/\L/2∈l/\l.length<=70/\(∀ x∈l,x<1000)/\H rg=some (.lst (ring.map iV))/\ring[a]?=some L/\q≠pe/\H pe=some (.lst ys)/\ys.length<=70 /\
 ∀ t,(upd H q (.lst ((ins l (l.idxOf (L/2)+1) n).map iV))) t=none->D.nx σ (upd (upd (upd H q (.lst ((ins l (l.idxOf (L/2)+1) n).map iV))) t (.tup (if o=0 then[iV one,iV two] else[iV two,iV one]))) pe (.lst (ys++[.ref t])))
def Jl(S:Addr->Prop)(H:Hp)(pe pt pr:Addr)(N P:Nat)(Q:Hp->Prop):Prop:=∀(m':Nat)(es':En)(ts' rg':List (List Nat))(H':Hp),Keep S H H'->GwA S H' pe pt pr m' es' ts' rg'->N<=es'.length->es'.length<=N+1->m'<=P->Q H'
def stepO:TS:=fun D σ H=>∃(S:Addr->Prop)(c:Int)(pe pt pr rq:Addr)(P m W a b:Nat)(v5 v7 v11 v12 v13 v14 v15:Option V)(ys xs zs:List V)(es:En)(ts rg:List (List Nat))(ring:List Nat),σ = [some (.int c),some (.ref pe),some (.ref pt),some (.ref pr),some (.int (P:Int)),v5,some (.int (W:Int)),v7,some (.ref rq),some (.int (a:Int)),some (.int (b:Int)),v11,v12,v13,v14,v15]/\GwC S H pe pt pr ys xs zs es ts rg/\Gr m es ts/\Part (fol es ts) (2*es.length) rg/\es.length<=62/\m<=P/\zs[W]?=some (.ref rq)/\rg[W]?=some ring/\H rq=some (.lst (ring.map iV))/\a<=b/\b<ring.length/\(∀ σ',Jl S H pe pt pr es.length P (D.nx σ'))/\Jl S H pe pt pr es.length P (D.rt .non)
theorem xH{r:List Nat}{a L:Nat}(h:r[a]?=some L):r.take (a+1)=r.take a++[L]:=by
 rw[Kv,h];rfl
theorem rT{r:List Nat}{a L:Nat}(h:r[a]?=some L):r=r.take a++L::r.drop (a+1):=by
 have:=(JT (a+1) r).symm
 rw[xH h,J1]at this
 exact this
theorem Ds{r:List Nat}{a b L R:Nat}(h:r[a]?=some L)(h2:r[b]?=some R)(lt:a<b):r=r.take a++L::((r.drop (a+1)).take (b-a-1)++R::r.drop (b+1)):=by
 have e:(r.drop (a+1))[b-a-1]?=some R:=by rw[Lc,show a+1+(b-a-1)=b by omega];exact h2
 have:=rT e
 rw[Lv,show a+1+(b-a-1+1)=b+1 by omega]at this
 rw[← this]
 exact rT h
theorem mid_at{r:List Nat}{a b R:Nat}(h2:r[b]?=some R)(lt:a<b):(r.drop (a+1)).take (b-a)=(r.drop (a+1)).take (b-a-1)++[R]:=by
 have e:(r.drop (a+1))[b-a-1]?=some R:=by rw[Lc,show a+1+(b-a-1)=b by omega];exact h2
 rw[show b-a=b-a-1+1 by omega]
 exact xH e
theorem Jc{xs:List V}{c:Nat}(h:c<=xs.length):cutV xs (some (c:Int)) none=xs.drop c:=by
 unfold cutV
 rw[HT.sIx_nat,K1 h]
 show(xs.drop c).take (xs.length-c)=_
 exact Kg (by rw[Km];exact Jw _)
theorem Jb{xs:List V}{c:Nat}(h:c<=xs.length):cutV xs none (some (c:Int))=xs.take c:=by
 unfold cutV
 rw[HT.sIx_nat,K1 h]
 show(xs.drop 0).take (c-0)=_
 rw[LQ,Nat.sub_zero]
theorem Ja{xs:List V}{c d:Nat}(h:c<=xs.length)(h2:d<=xs.length):cutV xs (some (c:Int)) (some (d:Int))=(xs.drop c).take (d-c):=by
 unfold cutV
 rw[HT.sIx_nat,HT.sIx_nat,K1 h,K1 h2]
theorem bQ{H G:Hp}{p:Addr}(sm:Same H G)(z:G p=none):H p=none:=by
 cases y:H p with
 |none=>rfl
 |some o=>rw[sm _ _ y]at z;cases z
theorem GL{n o x y:Nat}(o2:o<2)(ne:x≠y):bE n (if o=0 then(x,y) else(y,x)) x=2*n+o/\bE n (if o=0 then(x,y) else(y,x)) y=2*n+1-o:=by
 by_cases z:o=0
 ·subst z
  rw[if_pos rfl]
  unfold bE
  exact⟨by rw[if_pos rfl];rfl,by rw[if_neg ne];rfl⟩
 ·have:o=1:=by omega
  subst this
  rw[if_neg (by decide)]
  unfold bE
  exact⟨by rw[if_neg (Ne.symm ne)],by rw[if_pos rfl];rfl⟩
theorem G8{o x y:Nat}:HO.tup (if o=0 then[iV x,iV y] else[iV y,iV x])=HO.tup [iV (if o=0 then(x,y) else(y,x)).1,iV (if o=0 then(x,y) else(y,x)).2]:=by
 by_cases z:o=0
 ·rw[if_pos z,if_pos z]
 ·rw[if_neg z,if_neg z]
theorem DV{o x y:Nat}:(if o=0 then(x,y) else(y,x))=(x,y)∨(if o=0 then(x,y) else(y,x))=(y,x):=by
 by_cases z:o=0
 ·exact .inl (if_pos z)
 ·exact .inr (if_neg z)
theorem we{m:Nat}{es:En}{ts:List (List Nat)}(g:Gr m es ts):m<=es.length+2:=by
 obtain⟨rs,_,c⟩:=g.part
 omega
def Du:Sp:=fun vs H Q _=>∃(S:Addr->Prop)(c:Int)(pe pt pr:Addr)(P m:Nat)(es:En)(ts rg:List (List Nat)),vs = [.int c,.ref pe,.ref pt,.ref pr,.int (P:Int)]/\GwA S H pe pt pr m es ts rg/\0<es.length/\es.length<=62/\m<=P/\Jl S H pe pt pr es.length P (Q .non)
section
variable{P:Program}{w:World}{K:Js}{mg:Str->Option Value}{base:Heap}
theorem aQ:aE ["cell","ends","turns","rings","places","mixed","which","rest","ring","a","b","one","two","fresh","out","back"] ["cell","ends","turns","rings","places"] (ah d9):=⟨rfl,rfl,rfl,by decide +kernel,rfl,by decide +kernel,by decide +kernel⟩
theorem Ii{f fh fp:Addr}{fd dh dp:FuncData} (F:Fun K "_law_step" "_law_step" d9 f fd) (T:Txt mg) (G_law_head:Cal P w K mg base 1 "_law_head" ["ends","dart"] (xT K) fh dh) (G_law_put:Cal P w K mg base 1 "_law_put" ["turns","place","behind","fresh"] (Dx K) fp dp):FnOk P w K mg base CX0 2 f fd ["cell","ends","turns","rings","places"] Du:=by
 refine F.ok aQ (fun vs H Q E h=>?_) (fun cdv A outer s H vs Q E hr h=>?_)
 ·obtain⟨S,c,pe,pt,pr,P,m,es,ts,rg,rfl,_⟩:=h
  rfl
 obtain⟨S,c,pe,pt,pr,P,m,es,ts,rg,rfl,⟨⟨ys,xs,zs,C⟩,g,part⟩,e0,few,mP,kk⟩:=h
 refine⟨_,(af (ar (i:=5) aQ.nd rfl (Or.inl rfl) (av bD (av fj (av bD (pv 0) ai) ai) ai))
   (af (ar (i:=6) aQ.nd rfl (Or.inl rfl) (av bD (av cE (pv 5) ai) (au aq (by rfl) T.n_len a8 (aa (pv 3) ag))))
   (af (ar (i:=7) aQ.nd rfl (Or.inl rfl) (av cE (av cE (pv 5) ai) (au aq (by rfl) T.n_len a8 (aa (pv 3) ag))))
   (af (ar (i:=8) aQ.nd rfl (Or.inl rfl) (aD az (pv 3) (pv 6) (fun _ _=>rfl)))
   (af (ar (i:=9) aQ.nd rfl (Or.inl rfl) (av bD (pv 7) (au aq (by rfl) T.n_len a8 (aa (pv 8) ag))))
   (af (ar (i:=10) aQ.nd rfl (Or.inl rfl) (pv 9))
   (af (bV (aF oI (av bD (pv 5) ai) ai (aN _)) (ao (ar (i:=10) aQ.nd rfl (Or.inl rfl) (av bA (pv 9) (av bD (av cE (pv 7) (au aq (by rfl) T.n_len a8 (aa (pv 8) ag))) (av mD (au aq (by rfl) T.n_len a8 (aa (pv 8) ag)) (pv 9)))))) aR)
   (ym (t2:=stepO) (af (ar (i:=11) aQ.nd rfl (Or.inl rfl) (aA G_law_head.ok (hr.mono (by decide)) rfl G_law_head.mg G_law_head.kp G_law_head.bn .nil aY (aa (pv 1) (aa (aD az (pv 8) (pv 9) (fun _ _=>rfl)) ag))))
   (af (ar (i:=12) aQ.nd rfl (Or.inl rfl) (aA G_law_head.ok (hr.mono (by decide)) rfl G_law_head.mg G_law_head.kp G_law_head.bn .nil aY (aa (pv 1) (aa (aD az (pv 8) (pv 10) (fun _ _=>rfl)) ag))))
   (af (ar (i:=13) aQ.nd rfl (Or.inl rfl) (au aq (by rfl) T.n_len a8 (aa (pv 1) ag)))
   (af (ar (i:=14) aQ.nd rfl (Or.inl rfl) (av bA (av fj ai (pv 13)) (av bD (av cE (pv 0) ai) ai)))
   (af (ar (i:=15) aQ.nd rfl (Or.inl rfl) (av mD (av bA (av fj ai (pv 13)) ai) (pv 14)))
   (af (bV (PW.pt (DL (aF oI (pv 11) (pv 12) (aN _)) (yk (aF vn (au aq (by rfl) T.n_len a8 (aa (pv 2) ag)) (pv 4) (aN _))))) (ao HY) aR)
   (af (bV (aF oI (pv 11) (pv 12) (aN _)) (af (ar (i:=12) aQ.nd rfl (Or.inl rfl) (au aq (by rfl) T.n_len a8 (aa (pv 2) ag)))
   (af (bp (ij JY Kq Ko bz (pv 2) (aa (bK (aa (pv 13) ag)) ag)))
   (ao (u5 (av oJ (av oJ (fi ig (pv 8) lD (fQ (av bA (pv 9) ai))) (bK (aa (pv 14) (aa (pv 15) ag)))) (fi ig (pv 8) (fQ (av bA (pv 9) ai)) lD)) (vk (pv 3) (pv 6) kg))))) (af (bp (aA G_law_put.ok (hr.mono (by decide)) rfl G_law_put.mg G_law_put.kp G_law_put.bn .nil aY (aa (pv 2) (aa (pv 12) (aa (aD az (pv 8) (pv 10) (fun _ _=>rfl)) (aa (pv 13) ag))))))
   (af (u5 (av oJ (av oJ (fi ig (pv 8) lD (fQ (av bA (pv 9) ai))) (bK (aa (pv 14) ag))) (fi ig (pv 8) (fQ (av bA (pv 10) ai)) lD)) (vk (pv 3) (pv 6) kg))
   (ao (bp (ij JY Kq Ko bz (pv 3) (aa (av oJ (fi ig (pv 8) (fQ (av bA (pv 9) ai)) (fQ (av bA (pv 10) ai))) (bK (aa (pv 15) ag))) ag)))))))
   (ym (t2:=stepT) (af (bp (aA G_law_put.ok (hr.mono (by decide)) rfl G_law_put.mg G_law_put.kp G_law_put.bn .nil aY (aa (pv 2) (aa (pv 11) (aa (aD az (pv 8) (pv 9) (fun _ _=>rfl)) (aa (pv 13) ag))))))
   (ao (bV (aF oI (av bD (pv 14) ai) ai (aN _)) (ao (bp (ij JY Kq Ko bz (pv 1) (aa (jx (aa (pv 11) (aa (pv 12) ag))) ag)))) (ao (bp (ij JY Kq Ko bz (pv 1) (aa (jx (aa (pv 12) (aa (pv 11) ag))) ag))))))) (fun D0 S0 H0 h0=>?restp))))))))) (fun D0 S0 H0 h0=>?resto))))))))),?_⟩
 case restp =>
  obtain⟨pe,pt,q,rg,v0,v3,v4,v5,v6,v7,v10,v15,a,L,one,two,n,o,xs,ys,ring,l,rfl,o2,hpt,hx,hq,hL,l60,lb,hrg,hra,qpe,hpe,y60,kk⟩:=h0
  have hraV:(ring.map iV)[a]?=some (iV L):=by rw[Jy,hra];rfl
  refine⟨_,rfl,_,rfl,_,rfl,_,rfl,rg,_,_,_,rfl,rfl,SqL.of hrg,ay hraV,_,rfl,pt,q,xs,one,L,n,l,rfl,SqL.of hpt,hx,hq,hL,l60,lb,?_⟩
  have hpe2:(upd H0 q (.lst ((ins l (l.idxOf (L/2)+1) n).map iV))) pe=some (.lst ys):=by rw[ak (Ne.symm qpe)];exact hpe
  refine⟨_,rfl,_,_,rfl,rfl,(by show(0:Int)<2;decide),rfl,_,rfl,ite2 (fun c=>?_) (fun c=>?_)⟩
  ·have c':((2*n+o:Nat):Int)%2=0:=V.int.inj (of_decide_eq_true c)
   have o0:o=0:=by omega +splitDisjunctions
   refine⟨_,rfl,.inl ⟨rfl,_,SqL.of hpe2⟩,_,rfl,_,rfl,(by show 2<=sizeLine;decide),fun t ht=>⟨pe,ys,_,rfl,rfl,aj ht _ _ _ hpe2,ax (by omega +splitDisjunctions),?_⟩⟩
   have:=kk t ht
   rw[if_pos o0]at this
   exact this
  ·have c':¬ ((2*n+o:Nat):Int)%2=0:=fun z=>c (decide_eq_true (congrArg V.int z))
   have o0:¬ o=0:=by omega +splitDisjunctions
   refine⟨_,rfl,.inl ⟨rfl,_,SqL.of hpe2⟩,_,rfl,_,rfl,(by show 2<=sizeLine;decide),fun t ht=>⟨pe,ys,_,rfl,rfl,aj ht _ _ _ hpe2,ax (by omega +splitDisjunctions),?_⟩⟩
   have:=kk t ht
   rw[if_neg o0]at this
   exact this
 case resto =>
  clear C g part kk mP few e0
  obtain⟨S,c,pe,pt,pr,rq,P,m,W,a,b,v5,v7,v11,v12,v13,v14,v15,ys,xs,zs,es,ts,rg,ring,rfl,C,g,part,few,mP,hzW,hrW,hrq,ab,bl,kN,kR⟩:=h0
  have wf:=g.w
  have mf:=we g
  have cr:=part.cr ring (Jq hrW)
  obtain⟨L,hL⟩:∃ L,ring[a]?=some L:=⟨_,Jp (by omega +splitDisjunctions)⟩
  obtain⟨R,hR⟩:∃ R,ring[b]?=some R:=⟨_,Jp bl⟩
  have hLl:=cr.lt L (Jq hL)
  have hRl:=cr.lt R (Jq hR)
  have yl:ys.length=es.length:=C.en.1
  have xl:xs.length=m:=by rw[C.rx.1,wf.len]
  have hLV:(ring.map iV)[a]?=some (iV L):=by rw[Jy,hL];rfl
  have hRV:(ring.map iV)[b]?=some (iV R):=by rw[Jy,hR];rfl
  have rlen:(ring.map iV).length=ring.length:=Jr _
  have rle:ring.length<=2*es.length:=dz cr.nd cr.lt
  obtain⟨_,l,_,_,_,k4,k5,k6⟩:=wf.at hLl
  obtain⟨_,l',_,_,_,k4',k5',k6'⟩:=wf.at hRl
  obtain⟨sm1,f1⟩:=lj wf few k5
  obtain⟨sm2,f2⟩:=lj wf few k5'
  obtain⟨p1,y1,y2,y3⟩:=C.rx.2 _ _ k5
  obtain⟨p2,z1,z2,z3⟩:=C.rx.2 _ _ k5'
  obtain⟨rq',a1,a2,a3⟩:=C.rz.2 _ _ hrW
  rw[hzW]at a1
  cases a1
  obtain⟨n1,n2,n3,n4,n5,n6⟩:=C.ne
  obtain⟨o,ho,o2⟩:∃ o:Nat,c/3%2=(o:Int)/\o<2:=⟨(c/3%2).toNat,by omega +splitDisjunctions,by omega +splitDisjunctions⟩
  have qpt:rq≠pt:=fun z=>a2 (.inl (.inr (.inl z)))
  have qpr:rq≠pr:=fun z=>a2 (.inl (.inr (.inr z)))
  have qxs:V.ref rq∉xs:=fun z=>a2 (.inr (.inl z))
  refine⟨_,rfl,_,rfl,_,rfl,rq,_,_,_,rfl,rfl,SqL.of hrq,ay hLV,pe,ys,es,L,rfl,SqL.of C.he,C.en,hLl,?_⟩
  refine⟨_,rfl,_,rfl,_,rfl,rq,_,_,_,rfl,rfl,SqL.of hrq,ay hRV,pe,ys,es,R,rfl,SqL.of C.he,C.en,hRl,?_⟩
  refine⟨_,rfl,pe,ys,rfl,.inl (SqL.of C.he),?_⟩
  refine⟨_,rfl,_,_,rfl,rfl,.inl ⟨by decide,by decide⟩,_,rfl,_,_,rfl,rfl,⟨by decide,by decide⟩,_,_,rfl,rfl,(by show(0:Int)<2;decide),_,_,rfl,rfl,?_⟩
  refine⟨_,rfl,_,_,rfl,rfl,.inl ⟨by decide,by decide⟩,_,_,rfl,rfl,_,rfl,_,_,rfl,rfl,?_⟩
  have hb:4*(es.length:Int)+1-(2*(es.length:Int)+(o:Int))=((2*es.length+1-o:Nat):Int):=by omega +splitDisjunctions
  have ha:2*(es.length:Int)+(o:Int)=((2*es.length+o:Nat):Int):=by omega +splitDisjunctions
  rw[ho,yl]
  dsimp only
  rw[hb,ha]
  have cutA:cutV (ring.map iV) none (some ((a:Int)+1))=((ring.take a++[L]).map iV):=by
   rw[show(a:Int)+1=((a+1:Nat):Int) by omega +splitDisjunctions,Jb (by rw[rlen];omega +splitDisjunctions),← xH hL,LX]
  have cutB:∀ x,x<ring.length->cutV (ring.map iV) (some ((x:Int)+1)) none=((ring.drop (x+1)).map iV):=fun x hx=>by
   rw[show(x:Int)+1=((x+1:Nat):Int) by omega +splitDisjunctions,Jc (by rw[rlen];omega +splitDisjunctions),LY]
  have zl:zs.length=rg.length:=C.rz.1
  have rgl:rg.length<=es.length+2:=by
   obtain⟨rs,q1,q2⟩:=g.part
   have:=part.same q1
   omega +splitDisjunctions
  have Wl:W<rg.length:=(Jo.mp hrW).1
  refine⟨_,rfl,_,rfl,rfl,_,rfl,ite2 (fun e1=>?_) (fun e1=>?_)⟩
  ·refine⟨_,rfl,pt,xs,rfl,.inl (SqL.of C.ht),_,rfl,_,_,rfl,rfl,_,rfl,ite2 (fun e2=>?_) (fun e2=>?_)⟩
   ·exact kR m es ts rg H0 (Keep.of (fun _ _ z=>z)) ⟨⟨ys,xs,zs,C⟩,g,part⟩ (Jw _) (Lx _) mP
   have mlt:m<P:=by
    by_cases z:m<P
    ·exact z
    ·exact absurd (decide_eq_true (by rw[xl];omega +splitDisjunctions)) e2
   refine⟨_,rfl,_,rfl,rfl,_,rfl,ite2 (fun _=>?_) (fun z=>absurd e1 z)⟩
   refine⟨_,rfl,pt,xs,rfl,.inl (SqL.of C.ht),?_⟩
   refine⟨_,rfl,.inl ⟨rfl,_,SqL.of C.ht⟩,_,rfl,(by show 1<=sizeLine;decide),fun pn hpn=>⟨pt,xs,_,rfl,rfl,aj hpn _ _ _ C.ht,ax (by omega +splitDisjunctions),?_⟩⟩
   have sn:=aj hpn (.lst [V.int (es.length:Int)])
   have C1:=(C.same sn).leaf (C.new hpn) (l:=[es.length]) ae
   have hrq1:=sn _ _ hrq
   have hrq2:(upd (upd H0 pn (.lst [V.int (es.length:Int)])) pt (.lst (xs++[.ref pn]))) rq=some (.lst (ring.map iV)):=by rw[ak qpt];exact hrq1
   have kp1:Keep S H0 (upd (upd H0 pn (.lst [V.int (es.length:Int)])) pt (.lst (xs++[.ref pn]))):=(Keep.of sn).trans (Keep.upd n5)
   generalize hG1:upd (upd H0 pn (.lst [V.int (es.length:Int)])) pt (.lst (xs++[.ref pn]))=G1 at C1 hrq2 kp1
   refine⟨_,rfl,_,rfl,_,_,rfl,rfl,_,rfl,rq,_,rfl,SqL.of hrq2,fun b1 hb1=>?_⟩
   rw[cutA]
   have t1:=aj hb1 (.lst ((ring.take a++[L]).map iV))
   refine⟨_,rfl,_,rfl,(by show 2<=sizeLine;decide),fun b2 hb2=>?_⟩
   have t2:=aj hb2 (.lst ([2*es.length+o,2*es.length+1-o].map iV))
   refine⟨b1,b2,(ring.take a++[L]).map iV,[2*es.length+o,2*es.length+1-o].map iV,rfl,rfl,SqL.of (t2 _ _ ae),SqL.of ae,(by rw[Jr,Jr,Jt,JP];exact Kk (ax (by simp;omega +splitDisjunctions))),fun b3 hb3=>?_⟩
   have t3:=aj hb3 (.lst ((ring.take a++[L]).map iV++[2*es.length+o,2*es.length+1-o].map iV))
   have t03:=(t1.trans t2).trans t3
   refine⟨_,rfl,_,rfl,_,_,rfl,rfl,_,rfl,rq,_,rfl,SqL.of (t03 _ _ hrq2),fun b4 hb4=>?_⟩
   rw[cutB a (by omega +splitDisjunctions)]
   have t4:=aj hb4 (.lst ((ring.drop (a+1)).map iV))
   refine⟨b3,b4,_,_,rfl,rfl,SqL.of (t4 _ _ ae),SqL.of ae,(by rw[Jt,Jr,Jr,Jt,JP,Jr,Km];exact Kk (ax (by simp;omega +splitDisjunctions))),fun b5 hb5=>?_⟩
   have hlist:(ring.take a++[L]).map iV++[2*es.length+o,2*es.length+1-o].map iV++(ring.drop (a+1)).map iV=(ring.take a++L::(2*es.length+o)::(2*es.length+1-o)::ring.drop (a+1)).map iV:=by simp
   rw[hlist]
   have t5:=aj hb5 (.lst ((ring.take a++L::(2*es.length+o)::(2*es.length+1-o)::ring.drop (a+1)).map iV))
   have t04:=t03.trans t4
   have t05:=t04.trans t5
   have C5:=C1.same t05
   obtain⟨w1,w2,w3,w4,w5,w6⟩:=C1.new (bQ t04 hb5)
   have C6:=C5.updR (u4 C5.rz (W:=W) (b:=b5) (by rintro((z | z | z) | z | z);exact w1 z;exact w2 z;exact w3 z;exact w5 z;exact w4 z) ae)
   refine⟨_,rfl,_,rfl,pr,zs,_,W,rfl,rfl,C5.hr,pq (by omega +splitDisjunctions),?_⟩
   have hrq6:=(ak (o:=.lst (zs.set W (.ref b5))) qpr).trans (t05 _ _ hrq2)
   have kp6:=(kp1.trans (Keep.of t05)).trans (Keep.upd (q:=pr) (o:=.lst (zs.set W (.ref b5))) n6)
   have tsl:hd es L<ts.length:=by rw[wf.len];exact k4
   obtain⟨p1',u1,u2,u3⟩:=C6.rx.2 (hd es L) l (by rw[Jx tsl];exact k5)
   refine⟨pe,pt,p1',rq,_,_,_,_,_,_,_,_,a,L,hd es L,xs.length,es.length,o,xs++[.ref pn],ys,ring,l,rfl,o2,C6.ht,u1,u3,k6,by omega +splitDisjunctions,fun x hx=>by have:=sm1 x hx;omega +splitDisjunctions,hrq6,hL,fun z=>u2 (.inl z),C6.he,by omega +splitDisjunctions,fun t ht=>?_⟩
   obtain⟨C7,kp7⟩:=C6.fin u1 (ins l (l.idxOf (L/2)+1) es.length) ht (if o=0 then(hd es L,xs.length) else(xs.length,hd es L))
   rw[G8]
   have hne:hd es L≠xs.length:=by omega +splitDisjunctions
   have hS:=Dp (e:=if o=0 then(hd es L,xs.length) else(xs.length,hd es L)) (w:=W) g part (hrW.trans (congrArg some (rT hL))) rfl (by rw[xl];exact DV) k5
   rw[← xl,(GL o2 hne).1,(GL o2 hne).2]at hS
   rw[MC _ _ tsl]at C7
   exact kN _ (xs.length+1) _ _ _ _ (kp6.trans kp7) ⟨⟨_,_,_,C7⟩,hS.1,hS.2⟩ (by rw[Jt];omega +splitDisjunctions) (by rw[Jt];exact Jw _) (by omega +splitDisjunctions)
  ·refine iteF ?_
   refine⟨_,rfl,_,rfl,rfl,_,rfl,ite2 (fun z=>absurd z e1) (fun _=>?_)⟩
   have hne:hd es L≠hd es R:=fun z=>e1 (decide_eq_true (by rw[z]))
   have alt:a<b:=by
    rcases Nat.lt_or_ge a b with z | z
    ·exact z
    ·have:a=b:=by omega +splitDisjunctions
     subst this
     rw[hL]at hR
     cases hR
     exact absurd rfl hne
   refine⟨_,rfl,_,rfl,_,rfl,_,rfl,rq,_,_,_,rfl,rfl,SqL.of hrq,ay hRV,_,rfl,pt,p2,xs,hd es R,R,es.length,l',rfl,SqL.of C.ht,z1,z3,k6',by omega +splitDisjunctions,fun x hx=>by have:=sm2 x hx;omega +splitDisjunctions,?_⟩
   obtain⟨C1,np2⟩:=C.put z1 (ins l' (l'.idxOf (R/2)+1) es.length)
   have hrq2:(upd H0 p2 (.lst ((ins l' (l'.idxOf (R/2)+1) es.length).map iV))) rq=some (.lst (ring.map iV)):=by rw[ak (show rq≠p2 from fun z=>qxs (z▸Jq z1))];exact hrq
   have kp1:Keep S H0 (upd H0 p2 (.lst ((ins l' (l'.idxOf (R/2)+1) es.length).map iV))):=Keep.upd np2
   generalize hG1:upd H0 p2 (.lst ((ins l' (l'.idxOf (R/2)+1) es.length).map iV))=G1 at C1 hrq2 kp1
   refine⟨_,rfl,_,rfl,_,_,rfl,rfl,_,rfl,rq,_,rfl,SqL.of hrq2,fun b1 hb1=>?_⟩
   rw[cutA]
   have t1:=aj hb1 (.lst ((ring.take a++[L]).map iV))
   refine⟨_,rfl,(by show 1<=sizeLine;decide),fun b2 hb2=>?_⟩
   have t2:=aj hb2 (.lst ([2*es.length+o].map iV))
   refine⟨b1,b2,(ring.take a++[L]).map iV,[2*es.length+o].map iV,rfl,rfl,SqL.of (t2 _ _ ae),SqL.of ae,(by rw[Jr,Jr,Jt,JP];exact Kk (ax (by simp;omega +splitDisjunctions))),fun b3 hb3=>?_⟩
   have t3:=aj hb3 (.lst ((ring.take a++[L]).map iV++[2*es.length+o].map iV))
   have t03:=(t1.trans t2).trans t3
   refine⟨_,rfl,_,rfl,_,_,rfl,rfl,_,rfl,rq,_,rfl,SqL.of (t03 _ _ hrq2),fun b4 hb4=>?_⟩
   rw[cutB b bl]
   have t4:=aj hb4 (.lst ((ring.drop (b+1)).map iV))
   refine⟨b3,b4,_,_,rfl,rfl,SqL.of (t4 _ _ ae),SqL.of ae,(by rw[Jt,Jr,Jr,Jt,JP,Jr,Km];exact Kk (ax (by simp;omega +splitDisjunctions))),fun b5 hb5=>?_⟩
   have hlist:(ring.take a++[L]).map iV++[2*es.length+o].map iV++(ring.drop (b+1)).map iV=(ring.take a++L::(2*es.length+o)::ring.drop (b+1)).map iV:=by simp
   rw[hlist]
   have t5:=aj hb5 (.lst ((ring.take a++L::(2*es.length+o)::ring.drop (b+1)).map iV))
   have t04:=t03.trans t4
   have t05:=t04.trans t5
   have C5:=C1.same t05
   obtain⟨w1,w2,w3,w4,w5,w6⟩:=C1.new (bQ t04 hb5)
   have C6:=C5.updR (u4 C5.rz (W:=W) (b:=b5) (by rintro((z | z | z) | z | z);exact w1 z;exact w2 z;exact w3 z;exact w5 z;exact w4 z) ae)
   refine⟨_,rfl,_,rfl,pr,zs,_,W,rfl,rfl,C5.hr,pq (by omega +splitDisjunctions),?_⟩
   have hrq6:=(ak (o:=.lst (zs.set W (.ref b5))) qpr).trans (t05 _ _ hrq2)
   have kp6:=(kp1.trans (Keep.of t05)).trans (Keep.upd (q:=pr) (o:=.lst (zs.set W (.ref b5))) n6)
   generalize hG6:upd _ pr (HO.lst (zs.set W (.ref b5)))=G6 at C6 hrq6 kp6
   refine⟨_,rfl,.inl ⟨rfl,_,SqL.of C6.hr⟩,_,rfl,_,rfl,_,_,rfl,rfl,_,rfl,_,rfl,_,_,rfl,rfl,_,rfl,rq,_,rfl,SqL.of hrq6,fun b6 hb6=>?_⟩
   have cutM:cutV (ring.map iV) (some ((a:Int)+1)) (some ((b:Int)+1))=(((ring.drop (a+1)).take (b-a-1)++[R]).map iV):=by
    rw[show(a:Int)+1=((a+1:Nat):Int) by omega +splitDisjunctions,show(b:Int)+1=((b+1:Nat):Int) by omega +splitDisjunctions,Ja (by rw[rlen];omega +splitDisjunctions) (by rw[rlen];omega +splitDisjunctions),← mid_at hR alt,LX,LY,show b+1-(a+1)=b-a by omega +splitDisjunctions]
   rw[cutM]
   have t6:=aj hb6 (.lst (((ring.drop (a+1)).take (b-a-1)++[R]).map iV))
   refine⟨_,rfl,(by show 1<=sizeLine;decide),fun b7 hb7=>?_⟩
   have t7:=aj hb7 (.lst ([2*es.length+1-o].map iV))
   refine⟨b6,b7,((ring.drop (a+1)).take (b-a-1)++[R]).map iV,[2*es.length+1-o].map iV,rfl,rfl,SqL.of (t7 _ _ ae),SqL.of ae,(by rw[Jr,Jr,Jt,JP,Km];exact Kk (ax (by simp;omega +splitDisjunctions))),fun b8 hb8=>?_⟩
   have hlist2:((ring.drop (a+1)).take (b-a-1)++[R]).map iV++[2*es.length+1-o].map iV=((ring.drop (a+1)).take (b-a-1)++[R,2*es.length+1-o]).map iV:=by simp
   rw[hlist2]
   have t8:=aj hb8 (.lst (((ring.drop (a+1)).take (b-a-1)++[R,2*es.length+1-o]).map iV))
   have t67:=t6.trans t7
   have t68:=t67.trans t8
   have C8:=C6.same t68
   obtain⟨x1,x2,x3,x4,x5,x6⟩:=C6.new (bQ t67 hb8)
   have C9:=C8.updR (C8.rz.snoc (q:=b8) (by rintro((z | z | z) | z | z);exact x1 z;exact x2 z;exact x3 z;exact x5 z;exact x4 z) ae)
   refine⟨pr,zs.set W (.ref b5),_,rfl,rfl,C8.hr,ax (by rw[Ke];omega +splitDisjunctions),?_⟩
   have hrq9:=(ak (o:=.lst (zs.set W (.ref b5)++[.ref b8])) qpr).trans (t68 _ _ hrq6)
   have kp9:=(kp6.trans (Keep.of t68)).trans (Keep.upd (q:=pr) (o:=.lst (zs.set W (.ref b5)++[.ref b8])) n6)
   obtain⟨p1',u1,u2,u3⟩:=C9.rx.2 (hd es L) l (by rw[ME (Ne.symm hne)];exact k5)
   refine⟨pe,pt,p1',rq,_,_,_,_,_,_,_,_,a,L,hd es L,hd es R,es.length,o,xs,ys,ring,l,rfl,o2,C9.ht,u1,u3,k6,by omega +splitDisjunctions,fun x hx=>by have:=sm1 x hx;omega +splitDisjunctions,hrq9,hL,fun z=>u2 (.inl z),C9.he,by omega +splitDisjunctions,fun t ht=>?_⟩
   obtain⟨C10,kp10⟩:=C9.fin u1 (ins l (l.idxOf (L/2)+1) es.length) ht (if o=0 then(hd es L,hd es R) else(hd es R,hd es L))
   rw[G8]
   have hS:=Dr (e:=if o=0 then(hd es L,hd es R) else(hd es R,hd es L)) (w:=W) g part (hrW.trans (congrArg some (Ds hL hR alt))) rfl rfl hne DV k5 k5'
   rw[(GL o2 hne).1,(GL o2 hne).2]at hS
   rw[List.set_comm _ _ (Ne.symm hne)]at C10
   exact kN _ m _ _ _ _ (kp9.trans kp10) ⟨⟨_,_,_,C10⟩,hS.1,hS.2⟩ (by rw[Jt];omega +splitDisjunctions) (by rw[Jt];exact Jw _) mP
 have zl:zs.length=rg.length:=C.rz.1
 have mf:=we g
 have rg0:0<rg.length:=by
  rcases Nat.eq_zero_or_pos rg.length with z | z
  ·have:=part.all 0 (by omega +splitDisjunctions)
   rw[LK.mp z]at this
   cases this
  ·exact z
 have rgl:rg.length<=es.length+2:=by
  obtain⟨rs,q1,q2⟩:=g.part
  have:=part.same q1
  omega +splitDisjunctions
 refine⟨_,rfl,_,_,rfl,rfl,(by show(0:Int)<1000000007;decide),_,_,rfl,rfl,.inr ⟨by decide,by decide⟩,_,_,rfl,rfl,(by show(0:Int)<2147483647;decide),?_⟩
 have o0:(0:Int)<=c%1000000007*48271%2147483647:=La _ (by decide)
 have o1:c%1000000007*48271%2147483647<2147483647:=KP _ (by decide)
 refine⟨_,rfl,_,_,rfl,rfl,⟨by decide,by decide⟩,_,rfl,pr,zs,rfl,.inl (SqL.of C.hr),_,_,rfl,rfl,(by show(0:Int)<(zs.length:Int);omega +splitDisjunctions),?_⟩
 refine⟨_,rfl,_,_,rfl,rfl,⟨by decide,by decide⟩,_,rfl,pr,zs,rfl,.inl (SqL.of C.hr),_,_,rfl,rfl,⟨(by show(0:Int)<(zs.length:Int);omega +splitDisjunctions),(by show(zs.length:Int)<1073741824;omega +splitDisjunctions)⟩,?_⟩
 dsimp only
 generalize c%1000000007*48271%2147483647=M at o0 o1
 obtain⟨W,hW,Wl⟩:∃ W:Nat,M/2%(zs.length:Int)=(W:Int)/\W<rg.length:=by
  have h0:=La (M/2) (show(zs.length:Int)≠0 by omega +splitDisjunctions)
  have h1:=KP (M/2) (show(0:Int)<(zs.length:Int) by omega +splitDisjunctions)
  exact⟨_,(Lg h0).symm,by omega +splitDisjunctions⟩
 obtain⟨R,hR⟩:∃ R:Nat,M/2/(zs.length:Int)=(R:Int):=⟨_,(Lg (Int.ediv_nonneg (by omega +splitDisjunctions) (by omega +splitDisjunctions))).symm⟩
 rw[hW,hR]
 obtain⟨ring,hring⟩:∃ r,rg[W]?=some r:=⟨_,Jp Wl⟩
 obtain⟨rq,q1,q2,q3⟩:=C.rz.2 W ring hring
 have cr:=part.cr ring (Jq hring)
 have rle:ring.length<=2*es.length:=dz cr.nd cr.lt
 have rlen:(ring.map iV).length=ring.length:=Jr _
 have rpos:0<ring.length:=by
  obtain⟨d,hd⟩:=cr.ne
  exact Lh hd
 have lpos:(0:Int)<((ring.map iV).length:Int):=by omega +splitDisjunctions
 refine⟨_,rfl,_,rfl,pr,zs,_,_,rfl,rfl,SqL.of C.hr,ay q1,?_⟩
 refine⟨_,rfl,_,rfl,rq,_,rfl,.inl (SqL.of q3),_,_,rfl,rfl,lpos,?_⟩
 dsimp only
 obtain⟨a,ha,al⟩:∃ a:Nat,(R:Int)%((ring.map iV).length:Int)=(a:Int)/\a<ring.length:=by
  have h0:=La (R:Int) (show((ring.map iV).length:Int)≠0 by omega +splitDisjunctions)
  have h1:=KP (R:Int) lpos
  exact⟨_,(Lg h0).symm,by omega +splitDisjunctions⟩
 rw[ha]
 refine⟨_,rfl,?_⟩
 refine⟨_,rfl,_,_,rfl,rfl,(by show(0:Int)<2;decide),rfl,_,rfl,ite2 (fun c1=>?_) (fun c1=>?_)⟩
 ·have bpos:(0:Int)<((ring.map iV).length:Int)-(a:Int):=by omega +splitDisjunctions
  refine⟨_,rfl,_,rfl,_,rfl,rq,_,rfl,.inl (SqL.of q3),_,_,rfl,rfl,⟨lpos,(by show((ring.map iV).length:Int)<1073741824;omega +splitDisjunctions)⟩,_,rfl,rq,_,rfl,.inl (SqL.of q3),_,rfl,_,_,rfl,rfl,_,_,rfl,rfl,bpos,_,_,rfl,rfl,?_⟩
  dsimp only
  obtain⟨d,hd,dl⟩:∃ d:Nat,(R:Int)/((ring.map iV).length:Int)%(((ring.map iV).length:Int)-(a:Int))=(d:Int)/\a+d<ring.length:=by
   have h0:=La ((R:Int)/((ring.map iV).length:Int)) (show((ring.map iV).length:Int)-(a:Int)≠0 by omega +splitDisjunctions)
   have h1:=KP ((R:Int)/((ring.map iV).length:Int)) bpos
   exact⟨_,(Lg h0).symm,by omega +splitDisjunctions⟩
  rw[hd,show(a:Int)+(d:Int)=((a+d:Nat):Int) by omega +splitDisjunctions]
  exact⟨S,c,pe,pt,pr,rq,P,m,W,a,a+d,_,_,_,_,_,_,_,ys,xs,zs,es,ts,rg,ring,rfl,C,g,part,few,mP,q1,hring,q3,by omega +splitDisjunctions,dl,fun _=>kk,kk⟩
 ·exact⟨S,c,pe,pt,pr,rq,P,m,W,a,a,_,_,_,_,_,_,_,ys,xs,zs,es,ts,rg,ring,rfl,C,g,part,few,mP,q1,hring,q3,Jw _,al,fun _=>kk,kk⟩
end
end K8
namespace K8
open PySem L2
local macro_rules | `(tactic| walk_at "cc") => `(tactic| first | exact ⟨by decide, by decide⟩ | (show (0 : Int) < _; decide) | (show (0 : Int) < _; omega) | (show (0 : Int) ≤ _; omega) | exact ⟨by decide, by decide, by decide⟩ | exact ⟨by omega, by omega, by decide⟩ | exact Or.inl ⟨by decide, by decide⟩ | exact Or.inl ⟨by omega, by omega⟩)
local macro_rules | `(tactic| walk_at "rd") => `(tactic| repeat (first | refine ⟨_, rfl, ?_⟩ | refine ⟨_, _, rfl, rfl, ?_⟩ | refine ⟨rfl, ?_⟩ | (refine ⟨?cc, ?_⟩; (case cc => walk_at "cc"))))
def xR:Sp:=fun vs H Q _=>∃(c:Int)(m:Nat),vs = [.int c,.int (m:Int)]/\m<=100/\∀(q:Addr)(o:List Nat)(H':Hp),Same H H'->H q=none->H' q=some (.lst (o.map iV))->o.length=m->o.Nodup->(∀ x∈o,x<m)->Q (.ref q) H'
def rZ(K:Js):Sp:=fun vs H Q _=>∃(a:Addr)(P:Nat)(cs:List Int),vs = [.ref a,.int (P:Int)]/\SqL K H a (cs.map V.int)/\cs.length<=62/\2<=P /\
 ∀(t pe pt pr:Addr)(m:Nat)(es:En)(ts rg:List (List Nat))(H':Hp),Same H H'->H' t=some (.tup [.ref pe,.ref pt,.ref pr])->GwA (fun p=>H p≠none) H' pe pt pr m es ts rg->0<es.length->es.length<=cs.length+1->m<=P->Q (.ref t) H'
theorem FR:Part (fol [(0,1)] [[0],[0]]) 2 [[0,1]]:=by
 refine⟨fun r hr=>?_,by decide,fun d hd=>?_⟩
 ·have:r = [0,1]:=by simpa using hr
  subst this
  exact⟨⟨0,[1],rfl,by decide,(by show fol [(0,1)] [[0],[0]] 1=0;decide)⟩,fun d hd=>by simp at hd ⊢;omega,by decide⟩
 ·simp
  omega
theorem Keep.same{H H1 H2:Hp}(s:Same H H1)(k:Keep (fun p=>H p≠none) H1 H2):Same H H2:=fun p o h=>k p o (fun z=>by rw[z]at h;cases h) (s p o h)
section
variable{P:Program}{w:World}{K:Js}{mg:Str->Option Value}{base:Heap}
theorem dv:aE ["cell","many","order","mixed","k"] ["cell","many"] (ah cW):=⟨rfl,rfl,rfl,by decide +kernel,rfl,by decide +kernel,by decide +kernel⟩
theorem F2{f:Addr}{fd:FuncData} (F:Fun K "_law_order" "_law_order" cW f fd) (T:Txt mg):FnOk P w K mg base CX0 1 f fd ["cell","many"] xR:=by
 refine F.ok dv (fun vs H Q E h=>?_) (fun cdv A outer s H vs Q E hr h=>?_)
 ·obtain⟨c,m,rfl,_⟩:=h
  rfl
 obtain⟨c,m,rfl,hm,k⟩:=h
 refine⟨_,(af (ar (i:=2) dv.nd rfl (Or.inl rfl) (bK ag))
   (af (ar (i:=3) dv.nd rfl (Or.inl rfl) (av bD (pv 0) ai))
   (af (bW PassesOwn.never rfl (a9 rfl T.n_range (aa (pv 1) ag)) (aX (i:=4) dv.nd rfl (Or.inl rfl)) (af (ar (i:=3) dv.nd rfl (Or.inl rfl) (av bD (av bA (av fj (pv 3) ai) (av fj ai (pv 4))) ai))
   (ao (bp (ij JY Nm Nl vH (pv 2) (aa (av bD (pv 3) (av bA (pv 4) ai)) (aa (pv 4) ag)))))))
   (ao (aM (pv 2)))))),?_⟩
 refine⟨(by show 0<=sizeLine;decide),fun q hq=>?_⟩
 refine⟨_,rfl,_,_,rfl,rfl,(by show(0:Int)<1000000007;decide),?_⟩
 refine⟨_,rfl,_,rfl,by omega,by omega,cK (n:=(m:Int).toNat) (fun i σ H2=>∃(M:Int),∃ v4 o,σ = [some (.int c),some (.int (m:Int)),some (.ref q),some (.int M),v4]/\Same H H2/\H2 q=some (.lst (o.map iV))/\o.length=i/\o.Nodup/\∀ x∈o,x<i) ⟨_,_,[],rfl,aj hq _,ae,rfl,K6,fun x hx=>nomatch hx⟩ ?_ ?_⟩
 ·rintro i σ H2 hi ⟨M,v4,o,rfl,s2,hq2,ol,nd,lt⟩
  rw[JC]at hi
  have e0:(0:Int)+(i:Int)=(i:Int):=K9 _
  rw[e0]
  have hlen:(o.map iV).length=i:=by rw[Jr];exact ol
  refine⟨_,rfl,_,_,rfl,rfl,.inr ⟨by decide,by decide⟩,_,rfl,_,_,rfl,rfl,.inl ⟨by decide,by decide⟩,_,_,rfl,rfl,_,_,rfl,rfl,(by show(0:Int)<2147483647;decide),?_⟩
  refine⟨_,rfl,.inl ⟨rfl,_,SqL.of hq2⟩,_,rfl,_,rfl,_,_,rfl,rfl,_,_,rfl,rfl,(by show(0:Int)<(i:Int)+1;omega),_,rfl,q,_,_,_,rfl,rfl,hq2,(Hk _ _).1,(by rw[hlen];exact(Hk _ _).2),ax (by omega),?_⟩
  rw[insV]
  refine⟨_,_,_,rfl,bg s2 hq _,ae,by rw[IQ,ol],EC nd fun z=>by have:=lt i z;omega,fun x hx=>?_⟩
  rcases zz.mp hx with z | z
  ·omega
  ·have:=lt x z;omega
 ·rintro σ H2 ⟨M,v4,o,rfl,s2,hq2,ol,nd,lt⟩
  rw[JC]at ol lt
  exact⟨_,rfl,k q o H2 s2 hq hq2 ol nd lt⟩
theorem dy:aE ["cells","places","ends","turns","rings","cell"] ["cells","places"] (ah cY):=⟨rfl,rfl,rfl,by decide +kernel,rfl,by decide +kernel,by decide +kernel⟩
theorem F5{f fs:Addr}{fd ds:FuncData} (F:Fun K "_law_grown" "_law_grown" cY f fd) (G_law_step:Cal P w K mg base 2 "_law_step" ["cell","ends","turns","rings","places"] Du fs ds):FnOk P w K mg base CX0 3 f fd ["cells","places"] (rZ K):=by
 refine F.ok dy (fun vs H Q E h=>?_) (fun cdv A outer s H vs Q E hr h=>?_)
 ·obtain⟨a,P,cs,rfl,_⟩:=h
  rfl
 obtain⟨a,P,cs,rfl,hS,h62,P2,kk⟩:=h
 have hcl:(cs.map V.int).length=cs.length:=Jr _
 refine⟨_,(af (ar (i:=2) dy.nd rfl (Or.inl rfl) (bK (aa (jx (aa ai (aa ai ag))) ag)))
   (af (ar (i:=3) dy.nd rfl (Or.inl rfl) (bK (aa (bK (aa ai ag)) (aa (bK (aa ai ag)) ag))))
   (af (ar (i:=4) dy.nd rfl (Or.inl rfl) (bK (aa (bK (aa ai (aa ai ag))) ag)))
   (af (bW PassesOwn.never rfl (bx (pv 0)) (aX (i:=5) dy.nd rfl (Or.inl rfl)) (ao (bp (aA G_law_step.ok (hr.mono (by decide)) rfl G_law_step.mg G_law_step.kp G_law_step.bn .nil aY (aa (pv 5) (aa (pv 2) (aa (pv 3) (aa (pv 4) (aa (pv 1) ag)))))))))
   (ao (aM (jx (aa (pv 2) (aa (pv 3) (aa (pv 4) ag)))))))))),?_⟩
 refine⟨(by show 2<=sizeLine;decide),fun t0 ht0=>⟨(by show 1<=sizeLine;decide),fun pe hpe=>?_⟩⟩
 refine⟨(by show 1<=sizeLine;decide),fun p0 hp0=>⟨(by show 1<=sizeLine;decide),fun p1 hp1=>⟨(by show 2<=sizeLine;decide),fun pt hpt=>?_⟩⟩⟩
 refine⟨(by show 2<=sizeLine;decide),fun r0 hr0=>⟨(by show 1<=sizeLine;decide),fun pr hpr=>?_⟩⟩
 have s1:=aj ht0 (.tup [.int 0,.int 1])
 have s2:=aj hpe (.lst [.ref t0])
 have s3:=aj hp0 (.lst [.int 0])
 have s4:=aj hp1 (.lst [.int 0])
 have s5:=aj hpt (.lst [.ref p0,.ref p1])
 have s6:=aj hr0 (.lst [.int 0,.int 1])
 have s7:=aj hpr (.lst [.ref r0])
 have s12:=s1.trans s2
 have s13:=s12.trans s3
 have s14:=s13.trans s4
 have s15:=s14.trans s5
 have s16:=s15.trans s6
 have s17:=s16.trans s7
 have s37:=((s3.trans s4).trans s5).trans (s6.trans s7)
 have s47:=(s4.trans s5).trans (s6.trans s7)
 have s57:=s5.trans (s6.trans s7)
 have s67:=s6.trans s7
 have l_t0:=(s2.trans s37) _ _ (ae (a:=t0) (o:=.tup [.int 0,.int 1]))
 have l_pe:=s37 _ _ (ae (a:=pe) (o:=.lst [.ref t0]))
 have l_p0:=s47 _ _ (ae (a:=p0) (o:=.lst [.int 0]))
 have l_p1:=s57 _ _ (ae (a:=p1) (o:=.lst [.int 0]))
 have l_pt:=s67 _ _ (ae (a:=pt) (o:=.lst [.ref p0,.ref p1]))
 have l_r0:=s7 _ _ (ae (a:=r0) (o:=.lst [.int 0,.int 1]))
 have n_pe:=bQ s1 hpe
 have n_p0:=bQ s12 hp0
 have n_p1:=bQ s13 hp1
 have n_pt:=bQ s14 hpt
 have n_r0:=bQ s15 hr0
 have n_pr:=bQ s16 hpr
 have d1:∀{x:Addr}{G G':Hp}{o:HO},G x=some o->Same G G'->∀{y},G' y=none->y≠x:=fun h s y z e=>by
  rw[e,s _ _ h]at z;cases z
 have e1:p0≠pe:=d1 ae (fun _ _ z=>z) hp0
 have e2:p1≠pe:=d1 ae s3 hp1
 have e3:pt≠pe:=d1 ae (s3.trans s4) hpt
 have e4:r0≠pe:=d1 ae ((s3.trans s4).trans s5) hr0
 have e5:pr≠pe:=d1 ae (((s3.trans s4).trans s5).trans s6) hpr
 have e6:p1≠p0:=d1 ae (fun _ _ z=>z) hp1
 have e7:pt≠p0:=d1 ae s4 hpt
 have e8:r0≠p0:=d1 ae (s4.trans s5) hr0
 have e9:pr≠p0:=d1 ae ((s4.trans s5).trans s6) hpr
 have e10:pt≠p1:=d1 ae (fun _ _ z=>z) hpt
 have e11:r0≠p1:=d1 ae s5 hr0
 have e12:pr≠p1:=d1 ae (s5.trans s6) hpr
 have e13:r0≠pt:=d1 ae (fun _ _ z=>z) hr0
 have e14:pr≠pt:=d1 ae s6 hpr
 have e15:pr≠r0:=d1 ae (fun _ _ z=>z) hpr
 have C0:GwC (fun p=>H p≠none) (upd (upd (upd (upd (upd (upd (upd H t0 (.tup [.int 0,.int 1])) pe (.lst [.ref t0])) p0 (.lst [.int 0])) p1 (.lst [.int 0])) pt (.lst [.ref p0,.ref p1])) r0 (.lst [.int 0,.int 1])) pr (.lst [.ref r0])) pe pt pr [.ref t0] [.ref p0,.ref p1] [.ref r0] [(0,1)] [[0],[0]] [[0,1]]:=by
  refine⟨l_pe,⟨rfl,fun i e z=>?_⟩,l_pt,⟨rfl,fun i l z=>?_⟩,fun i j p z1 z2=>?_,ae,⟨rfl,fun i l z=>?_⟩,⟨Ne.symm e3,Ne.symm e5,Ne.symm e14,fun z=>z n_pe,fun z=>z n_pt,fun z=>z n_pr⟩,fun p sp z=>sp (bQ s17 z)⟩
  ·match i,z with
   |0,z=>cases z;exact⟨t0,rfl,l_t0⟩
   |i+1,z=>cases z
  ·match i,z with
   |0,z=>cases z;exact⟨p0,rfl,by rintro(y | y | y | y);exact e1 y;exact e7 y.symm;exact e9 y.symm;exact y n_p0,l_p0⟩
   |1,z=>cases z;exact⟨p1,rfl,by rintro(y | y | y | y);exact e2 y;exact e10 y.symm;exact e12 y.symm;exact y n_p1,l_p1⟩
   |i+2,z=>cases z
  ·match i,z1,j,z2 with
   |0,z1,0,z2=>rfl
   |1,z1,1,z2=>rfl
   |0,z1,1,z2=>cases z1;cases z2;exact absurd rfl e6
   |1,z1,0,z2=>cases z1;cases z2;exact absurd rfl e6
   |i+2,z1,_,_=>cases z1
   |0,_,j+2,z2=>cases z2
   |1,_,j+2,z2=>cases z2
  ·match i,z with
   |0,z =>
    cases z
    refine⟨r0,rfl,?_,l_r0⟩
    rintro((y | y | y) | y | y)
    ·exact e4 y
    ·exact e13 y
    ·exact e15 y.symm
    ·have:r0=p0∨r0=p1:=by simpa using y
     rcases this with y | y
     ·exact e8 y
     ·exact e11 y
    ·exact y n_r0
   |i+1,z=>cases z
 refine⟨_,rfl,a,rfl,⟨_,s17.seq hS⟩,dj (xs:=cs.map V.int) (fun i σ H5=>∃ v5 m es ts rg,σ = [some (.ref a),some (.int (P:Int)),some (.ref pe),some (.ref pt),some (.ref pr),v5]/\Same H H5/\GwA (fun p=>H p≠none) H5 pe pt pr m es ts rg/\0<es.length/\es.length<=i+1/\m<=P)
  ⟨_,2,[(0,1)],[[0],[0]],[[0,1]],rfl,s17,⟨⟨_,_,_,C0⟩,gr_two,FR⟩,Nat.one_pos,Jw _,P2⟩ (fun i σ H5 _ ⟨_,_,_,_,_,_,z,_⟩=>z.seq hS) ?_ ?_⟩
 ·rintro i x σ H5 hx ⟨v5,m,es,ts,rg,rfl,s5,gw,e0,ei,mP⟩
  rw[Jy]at hx
  obtain⟨c,hc,rfl⟩:=Kj.mp hx
  have hil:i<cs.length:=(Jo.mp hc).1
  refine⟨_,rfl,_,rfl,_,rfl,_,rfl,_,rfl,_,c,pe,pt,pr,P,m,es,ts,rg,rfl,gw,e0,by omega +splitDisjunctions,mP,fun m' es' ts' rg' H' kp gw' l1 l2 mP'=>?_⟩
  exact⟨_,m',es',ts',rg',rfl,kp.same s5,gw',by omega +splitDisjunctions,by omega +splitDisjunctions,mP'⟩
 ·rintro σ H5 ⟨v5,m,es,ts,rg,rfl,s5,gw,e0,ei,mP⟩
  rw[hcl]at ei
  refine⟨_,rfl,_,rfl,_,rfl,(by show 3<=sizeLine;decide),fun t ht=>?_⟩
  have sn:=aj ht (.tup [.ref pe,.ref pt,.ref pr])
  obtain⟨⟨ys,xs,zs,C⟩,g,part⟩:=gw
  exact kk t pe pt pr m es ts rg _ (s5.trans sn) ae ⟨⟨ys,xs,zs,C.same sn⟩,g,part⟩ e0 ei mP
end
end K8
namespace K8
open PySem L2
local macro_rules | `(tactic| walk_at "cc") => `(tactic| first | exact ⟨by decide, by decide⟩ | (show (0 : Int) < _; decide) | (show (0 : Int) < _; omega) | (show (0 : Int) ≤ _; omega) | exact ⟨by decide, by decide, by decide⟩ | exact ⟨by omega, by omega, by decide⟩ | exact Or.inl ⟨by decide, by decide⟩ | exact Or.inl ⟨by omega, by omega⟩)
local macro_rules | `(tactic| walk_at "rd") => `(tactic| repeat (first | refine ⟨_, rfl, ?_⟩ | refine ⟨_, _, rfl, rfl, ?_⟩ | refine ⟨rfl, ?_⟩ | (refine ⟨?cc, ?_⟩; (case cc => walk_at "cc"))))
def cutp(c:Int)(p n:Nat):Nat:=(c%1009*((p:Int)+1)%(n:Int)).toNat
def rowN(c:Int)(o2:List Nat)(p:Nat)(l:List Nat):List Nat:=(l.drop (cutp c p l.length)++l.take (cutp c p l.length)).map (ofL o2)
def en2(o1 o2:List Nat)(es:En):En:=(KO es.length).map fun j=>(ofL o1 ((es[o2.idxOf j]?).getD (0,0)).1,ofL o1 ((es[o2.idxOf j]?).getD (0,0)).2)
def ts2(c:Int)(o1 o2:List Nat)(ts:List (List Nat)):List (List Nat):=(KO ts.length).map fun j=>rowN c o2 (o1.idxOf j) ((ts[o1.idxOf j]?).getD [])
theorem EE{o:List Nat}(nd:o.Nodup){k:Nat}(h:k<o.length):o.idxOf (ofL o k)=k:=by
 have e:o[k]?=some (ofL o k):=by unfold ofL;rw[Jp h];rfl
 exact A5 nd (zA (Jq e)) e
theorem ren_of{m:Nat}{es:En}{ts:List (List Nat)}{c:Int}{o1 o2:List Nat}(w:bF m es ts)(l1:o1.length=m)(n1:o1.Nodup)(b1:∀ x∈o1,x<m)(l2:o2.length=es.length)(n2:o2.Nodup)(b2:∀ x∈o2,x<es.length) :
  Ren m es (en2 o1 o2 es) ts (ts2 c o1 o2 ts) (ofL o1) (ofL o2):=by
 have B1:=Br l1 n1 b1
 have B2:=Br l2 n2 b2
 refine⟨B1,B2,by simp[en2],by simp[ts2,w.len],fun k e h=>?_,fun p l h=>?_⟩
 ·have hk:=(Jo.mp h).1
  unfold en2
  rw[Jy,LJ (B2.lt k hk)]
  show some (ofL o1 ((es[o2.idxOf (ofL o2 k)]?).getD (0,0)).1,ofL o1 ((es[o2.idxOf (ofL o2 k)]?).getD (0,0)).2)=_
  rw[EE n2 (by omega),h]
  rfl
 ·have hp:p<m:=by rw[← w.len];exact(Jo.mp h).1
  refine⟨l.take (cutp c p l.length),l.drop (cutp c p l.length),(JT _ _).symm,?_⟩
  unfold ts2
  rw[Jy,LJ (by rw[w.len];exact B1.lt p hp)]
  show some (rowN c o2 (o1.idxOf (ofL o1 p)) ((ts[o1.idxOf (ofL o1 p)]?).getD []))=_
  rw[EE n1 (by omega),h]
  rfl
theorem Gr.rows{m:Nat}{es:En}{ts:List (List Nat)}(g:Gr m es ts)(h2:2<=m){p:Nat}{l:List Nat}(h:ts[p]?=some l):0<l.length:=by
 have hp:p<m:=by rw[← g.w.len];exact(Jo.mp h).1
 cases l with
 |cons a l=>exact Nat.succ_pos _
 |nil =>
  exfalso
  have no:∀ e∈es,e.1≠p/\e.2≠p:=fun e he=>by
   obtain⟨t,ht⟩:=Kd.mp he
   refine⟨fun z=>?_,fun z=>?_⟩
   ·exact nomatch (g.w.mem p [] h t).mpr ⟨e,ht,.inl z⟩
   ·exact nomatch (g.w.mem p [] h t).mpr ⟨e,ht,.inr z⟩
  have:=g.conn (fun x=>x=p) (fun e he=>⟨fun z=>absurd z (no e he).1,fun z=>absurd z (no e he).2⟩) p (if p=0 then 1 else 0) hp (by split<;>omega) rfl
  have this':(if p=0 then 1 else 0)=p:=this
  split at this'<;>omega
theorem cut_hi{xs:List V}{c:Nat}(h:c<=xs.length):cutV xs (some (c:Int)) none=xs.drop c:=by
 unfold cutV
 rw[HT.sIx_nat,K1 h]
 show(xs.drop c).take (xs.length-c)=_
 exact Kg (by rw[Km];exact Jw _)
theorem cut_lo{xs:List V}{c:Nat}(h:c<=xs.length):cutV xs none (some (c:Int))=xs.take c:=by
 unfold cutV
 rw[HT.sIx_nat,K1 h]
 show(xs.drop 0).take (c-0)=_
 rw[LQ,Nat.sub_zero]
structure WebP(H:Hp)(pe pt:Addr)(m:Nat)(es:En)(ts:List (List Nat)):Prop where
 en:∃ ys,H pe=some (.lst ys)/\dQ H ys es
 tu:∃ xs,H pt=some (.lst xs)/\cz H xs ts
 g:Gr m es ts
theorem WebP.mono{H H':Hp}{pe pt:Addr}{m:Nat}{es:En}{ts:List (List Nat)}(h:WebP H pe pt m es ts)(s:Same H H'):WebP H' pe pt m es ts:=by
 obtain⟨⟨ys,a,b⟩,⟨xs,c,d⟩,g⟩:=h
 exact⟨⟨ys,s _ _ a,b.mono s⟩,⟨xs,s _ _ c,d.mono s⟩,g⟩
theorem at30{u v x:V}:atI [u,v,x] 0=some u:=rfl
theorem at31{u v x:V}:atI [u,v,x] 1=some v:=rfl
theorem at32{u v x:V}:atI [u,v,x] 2=some x:=rfl
structure TxtM(mg:Str->Option Value):Prop extends Txt mg where
 n_max:mg "max" = none
def Hw(H:Hp)(pr:Addr)(rg:List (List Nat)):Prop:=∃ zs,H pr=some (.lst zs)/\cz H zs rg
theorem FC{m:Nat}{es es2:En}{ts ts2 rs:List (List Nat)}{π σ:Nat->Nat}(R:Ren m es es2 ts ts2 π σ)(g:Gr m es ts)(p:Part (fol es ts) (2*es.length) rs):Part (fol es2 ts2) (2*es2.length) (rs.map (Mz (Phi σ))):=by
 have flt:∀ d∈rs.flatten,d<2*es.length:=fun d hd=>by
  obtain⟨r,h1,h2⟩:=Ks.mp hd
  exact(p.cr r h1).lt d h2
 have hfl:(rs.map (Mz (Phi σ))).flatten=rs.flatten.map (Phi σ):=List.map_flatten.symm
 refine⟨fun q hq=>?_,?_,fun d hd=>?_⟩
 ·obtain⟨r,hr,rfl⟩:=Kb.mp hq
  have c:=p.cr r hr
  obtain⟨x,l,rfl,ch⟩:=c.ch
  refine⟨⟨Phi σ x,l.map (Phi σ),rfl,kM ch fun t ht=>R.fol g.w (c.lt t ht)⟩,fun d hd=>?_,oP c.nd fun a ha b hb=>qo R.si (c.lt a ha) (c.lt b hb)⟩
  obtain⟨t,ht,rfl⟩:=Kb.mp hd
  have h1:=c.lt t ht
  have h2:=R.si.lt (t/2) (by omega)
  rw[R.l1]
  unfold Phi
  omega
 ·rw[hfl]
  exact oP p.nd fun a ha b hb=>qo R.si (flt a ha) (flt b hb)
 ·rw[R.l1]at hd
  obtain⟨k,hk,e⟩:=R.si.sur (d/2) (by omega)
  rw[hfl]
  refine Kb.mpr ⟨2*k+d%2,p.all _ (by omega),?_⟩
  unfold Phi
  rw[show(2*k+d%2)/2=k by omega,e]
  omega
def Dw:Sp:=fun vs H Q _=>∃(t pe pt pr:Addr)(c:Int)(m:Nat)(es:En)(ts rg:List (List Nat)),vs = [.ref t,.int c]/\H t=some (.tup [.ref pe,.ref pt,.ref pr])/\WebP H pe pt m es ts/\Hw H pr rg/\Part (fol es ts) (2*es.length) rg/\2<=m/\es.length<=63 /\
 ∀(t' pe' pt' pr':Addr)(es':En)(ts' rg':List (List Nat))(H':Hp),Same H H'->H' t'=some (.tup [.ref pe',.ref pt',.ref pr'])->WebP H' pe' pt' m es' ts'->Hw H' pr' rg'->Part (fol es' ts') (2*es'.length) rg'->es'.length=es.length->Q (.ref t') H'
section
variable{P:Program}{w:World}{K:Js}{mg:Str->Option Value}{base:Heap}
theorem aG:aE ["grown","cell","places","ties","ends","k","turns","p","row","cut","rings","ring"] ["grown","cell"] (ah bo):=⟨rfl,rfl,rfl,by decide +kernel,rfl,by decide +kernel,by decide +kernel⟩
theorem ok_ren{f fo:Addr}{fd fdo:FuncData} (F:Fun K "_law_renumbered" "_law_renumbered" bo f fd) (T:TxtM mg) (G_law_order:Cal P w K mg base 1 "_law_order" ["cell","many"] xR fo fdo):FnOk P w K mg base CX0 2 f fd ["grown","cell"] Dw:=by
 refine F.ok aG (fun vs H Q E h=>?_) (fun cdv A outer s H vs Q E hr h=>?_)
 ·obtain⟨t,pe,pt,pr,c,m,es,ts,rg,rfl,_⟩:=h
  rfl
 obtain⟨t,pe,pt,pr,c,m,es,ts,rg,rfl,ht,⟨⟨ys,hpe,en⟩,⟨xs,hpt,tu⟩,g⟩,⟨us,hpr,ru⟩,part,h2,h31,kk⟩:=h
 have w':=g.w
 have mf:=we g
 have hyl:ys.length=es.length:=en.1
 have hxl:xs.length=m:=by rw[tu.1,w'.len]
 refine⟨_,(af (ar (i:=2) aG.nd rfl (Or.inl rfl) (aA G_law_order.ok (hr.mono (by decide)) rfl G_law_order.mg G_law_order.kp G_law_order.bn .nil aY (aa (pv 1) (aa (au aq (by rfl) T.n_len a8 (aa (aD aW (pv 0) ai (fun _ _=>rfl)) ag)) ag))))
   (af (ar (i:=3) aG.nd rfl (Or.inr rfl) (aA G_law_order.ok (hr.mono (by decide)) rfl G_law_order.mg G_law_order.kp G_law_order.bn .nil aY (aa (av cE (pv 1) ai) (aa (au aq (by rfl) T.n_len a8 (aa (aD aW (pv 0) ai (fun _ _=>rfl)) ag)) ag))))
   (af (ar (i:=4) aG.nd rfl (Or.inl rfl) (gy fM (by rfl) T.n_list iS (aa (aD aW (pv 0) ai (fun _ _=>rfl)) ag)))
   (af (bW PassesOwn.never rfl (a9 rfl T.n_range (aa (au aq (by rfl) T.n_len a8 (aa (pv 4) ag)) ag)) (aX (i:=5) aG.nd rfl (Or.inl rfl)) (ao (u5 (jx (aa (aD az (pv 2) (aD aW (aD az (aD aW (pv 0) ai (fun _ _=>rfl)) (pv 5) (fun _ _=>rfl)) ai (fun _ _=>rfl)) (fun _ _=>rfl)) (aa (aD az (pv 2) (aD aW (aD az (aD aW (pv 0) ai (fun _ _=>rfl)) (pv 5) (fun _ _=>rfl)) ai (fun _ _=>rfl)) (fun _ _=>rfl)) ag))) (vk (pv 4) (aD az (pv 3) (pv 5) (fun _ _=>rfl)) kg))))
   (af (ar (i:=6) aG.nd rfl (Or.inl rfl) (gy fM (by rfl) T.n_list iS (aa (aD aW (pv 0) ai (fun _ _=>rfl)) ag)))
   (af (bW PassesOwn.never rfl (a9 rfl T.n_range (aa (au aq (by rfl) T.n_len a8 (aa (pv 6) ag)) ag)) (aX (i:=7) aG.nd rfl (Or.inl rfl)) (af (lC (i:=8) rfl aG.nd rfl rfl (fr:=[("ties",3)]) (by exact bJ.one (by rfl) (by decide +kernel) (by rfl) (by decide +kernel) (by rfl) (by decide +kernel) (by rfl) (by rfl) (by decide +kernel) (by rfl)) (bx (aD az (aD aW (pv 0) ai (fun _ _=>rfl)) (pv 7) (fun _ _=>rfl))) (fun C ex s H=>(aD (tS (K:=K) rfl) (pv 1) (pv 0) (fun _ _=>rfl))))
   (af (ar (i:=9) aG.nd rfl (Or.inl rfl) (av bD (av fj (av bD (pv 1) ai) (av bA (pv 7) ai)) (au (wM rfl) (by rfl) T.n_max E3 (aa ai (aa (au aq (by rfl) T.n_len a8 (aa (pv 8) ag)) ag)))))
   (ao (u5 (av op_cat (fi ig (pv 8) (fQ (pv 9)) lD) (fi ig (pv 8) lD (fQ (pv 9)))) (vk (pv 6) (aD az (pv 2) (pv 7) (fun _ _=>rfl)) kg))))))
   (af (ar (i:=10) aG.nd rfl (Or.inl rfl) (bK ag))
   (af (bW PassesOwn.never rfl (bx (aD aW (pv 0) ai (fun _ _=>rfl))) (aX (i:=11) aG.nd rfl (Or.inl rfl)) (ao (bp (ij JY Kq Ko bz (pv 10) (aa (eG rfl (fr:=[("ties",3)]) (by exact bJ.one (by rfl) (by decide +kernel) (by rfl) (by decide +kernel) (by rfl) (by decide +kernel) (by rfl) (by rfl) (by decide +kernel) (by rfl)) (bx (pv 11)) (fun C ex s H=>(av bA (av fj ai (aD (tS (K:=K) rfl) (pv 1) (av cE (pv 0) ai) (fun _ _=>rfl))) (av bD (pv 0) ai)))) ag)))))
   (ao (aM (jx (aa (pv 4) (aa (pv 6) (aa (pv 10) ag)))))))))))))),?_⟩
 refine⟨_,rfl,_,rfl,t,_,1,_,rfl,rfl,SqT.of ht,at31,pt,xs,rfl,.inl (SqL.of hpt),c,m,(by rw[hxl];rfl),by omega +splitDisjunctions,fun q1 o1 H1 s1 _ h1 l1 n1 b1=>?_⟩
 refine⟨_,rfl,_,_,rfl,rfl,⟨by decide,by decide⟩,_,rfl,t,_,0,_,rfl,rfl,SqT.of (s1 _ _ ht),at30,pe,ys,rfl,.inl (SqL.of (s1 _ _ hpe)),_,es.length,(by rw[hyl];rfl),by omega +splitDisjunctions,fun q2 o2 H2 s2 _ h2' l2 n2 b2=>?_⟩
 have s12:=s1.trans s2
 have R:=ren_of (c:=c) w' l1 n1 b1 l2 n2 b2
 have h1':=s2 _ _ h1
 refine⟨_,rfl,t,_,0,_,rfl,rfl,SqT.of (s12 _ _ ht),at30,pe,ys,rfl,.inl (SqL.of (s12 _ _ hpe)),fun qe hqe=>?_⟩
 have s3:=aj hqe (.lst ys)
 have s13:=s12.trans s3
 have h23:=s3 _ _ h2'
 have h13:=s3 _ _ h1'
 have get1:∀ k,k<m->(o1.map iV)[k]?=some (iV (ofL o1 k)):=fun k hk=>by
  rw[Jy];unfold ofL;rw[Jp (by omega +splitDisjunctions)];rfl
 have get2:∀ k,k<es.length->(o2.map iV)[k]?=some (iV (ofL o2 k)):=fun k hk=>by
  rw[Jy];unfold ofL;rw[Jp (by omega +splitDisjunctions)];rfl
 have hqe0:H qe=none:=by
  cases y:H qe with
  |none=>rfl
  |some o=>rw[s12 _ _ y]at hqe;cases hqe
 refine⟨_,rfl,qe,ys,rfl,.inl (SqL.of ae),_,rfl,by omega +splitDisjunctions,by omega +splitDisjunctions,cK (n:=(ys.length:Int).toNat) (fun i σ H5=>∃ v5 v6 v7 v8 v9 v10 v11 zs,σ = [some (.ref t),some (.int c),some (.ref q1),some (.ref q2),some (.ref qe),v5,v6,v7,v8,v9,v10,v11]/\Same H2 H5/\H5 qe=some (.lst zs)/\zs.length=es.length/\∀(k:Nat)(e:Nat×Nat),k<i->es[k]?=some e->∃ p,zs[ofL o2 k]?=some (.ref p)/\H5 p=some (.tup [iV (ofL o1 e.1),iV (ofL o1 e.2)]))
  ⟨_,_,_,_,_,_,_,ys,rfl,s3,ae,hyl,fun k e z=>absurd z (Ln _)⟩ ?_ ?_⟩
 ·rintro i σ H5 hi ⟨v5,v6,v7,v8,v9,v10,v11,zs,rfl,s5,hz,zl,inv⟩
  rw[JC,hyl]at hi
  have e0:(0:Int)+(i:Int)=(i:Int):=K9 _
  rw[e0]
  have s15:=s12.trans s5
  obtain⟨e,he⟩:∃ e,es[i]?=some e:=⟨_,Jp hi⟩
  obtain⟨p,x1,x2⟩:=(en.mono s15).2 i e he
  obtain⟨a1,a2,_⟩:=w'.ends e (Jq he)
  have b2':=R.si.lt i hi
  refine⟨_,rfl,_,rfl,t,_,0,_,rfl,rfl,SqT.of (s15 _ _ ht),at30,_,rfl,pe,ys,_,_,rfl,rfl,SqL.of (s15 _ _ hpe),ay x1,p,_,0,_,rfl,rfl,SqT.of x2,at0,q1,_,_,_,rfl,rfl,SqL.of (s5 _ _ h1'),ay (get1 _ a1),_,rfl,_,rfl,t,_,0,_,rfl,rfl,SqT.of (s15 _ _ ht),at30,_,rfl,pe,ys,_,_,rfl,rfl,SqL.of (s15 _ _ hpe),ay x1,p,_,1,_,rfl,rfl,SqT.of x2,at1,q1,_,_,_,rfl,rfl,SqL.of (s5 _ _ h1'),ay (get1 _ a2),(by show 2<=sizeLine;decide),fun tt htt=>?_⟩
  have sn:=aj htt (.tup [iV (ofL o1 e.1),iV (ofL o1 e.2)])
  refine⟨_,rfl,_,rfl,_,rfl,q2,_,_,_,rfl,rfl,SqL.of (sn _ _ (s5 _ _ h2')),ay (get2 _ hi),qe,zs,_,ofL o2 i,rfl,rfl,sn _ _ hz,pq (by omega +splitDisjunctions),?_⟩
  refine⟨_,_,_,_,_,_,_,_,rfl,bg (s5.trans sn) hqe _,ae,by rw[Ke];exact zl,fun k e' hk hek=>?_⟩
  by_cases z:k=i
  ·subst z
   rw[he]at hek
   cases hek
   exact⟨tt,by rw[Kc,if_pos rfl,if_pos (by omega +splitDisjunctions)],by rw[ak (fun z=>by rw[z,hz]at htt;cases htt)];exact ae⟩
  ·obtain⟨p',u1,u2⟩:=inv k e' (by omega +splitDisjunctions) hek
   have hkl:k<es.length:=(Jo.mp hek).1
   refine⟨p',by rw[Kc,if_neg (fun y=>z (R.si.inj _ _ hkl hi y.symm))];exact u1,?_⟩
   rw[ak (fun z=>by rw[z,hz]at u2;cases u2)]
   exact sn _ _ u2
 rintro σ H5 ⟨v5,v6,v7,v8,v9,v10,v11,zs,rfl,s5,hz,zl,inv⟩
 rw[JC,hyl]at inv
 have s15:=s12.trans s5
 have enN:dQ H5 zs (en2 o1 o2 es):=⟨by rw[zl,R.l1],fun j x h=>by
  obtain⟨k,e,rfl,h4,rfl⟩:=R.es' h
  exact inv k e (Jo.mp h4).1 h4⟩
 refine⟨_,rfl,t,_,1,_,rfl,rfl,SqT.of (s15 _ _ ht),at31,pt,xs,rfl,.inl (SqL.of (s15 _ _ hpt)),fun qt hqt=>?_⟩
 have s6:=aj hqt (.lst xs)
 have s16:=s15.trans s6
 refine⟨_,rfl,qt,xs,rfl,.inl (SqL.of ae),_,rfl,by omega +splitDisjunctions,by omega +splitDisjunctions,cK (n:=(xs.length:Int).toNat) (fun i σ H7=>∃ v5 v7 v8 v9 v10 v11 ws,σ = [some (.ref t),some (.int c),some (.ref q1),some (.ref q2),some (.ref qe),v5,some (.ref qt),v7,v8,v9,v10,v11]/\Same H5 H7/\H7 qt=some (.lst ws)/\ws.length=m/\∀(p:Nat)(l:List Nat),p<i->ts[p]?=some l->∃ q,ws[ofL o1 p]?=some (.ref q)/\H7 q=some (.lst ((rowN c o2 p l).map iV))/\q≠qt)
  ⟨_,_,_,_,_,_,xs,rfl,s6,ae,hxl,fun k e z=>absurd z (Ln _)⟩ ?_ ?_⟩
 ·rintro i σ H7 hi ⟨w5,w7,w8,w9,w10,w11,ws,rfl,s7,hw,wl,inv2⟩
  rw[JC,hxl]at hi
  have e0:(0:Int)+(i:Int)=(i:Int):=K9 _
  rw[e0]
  have s17:=s15.trans s7
  have s27:=s5.trans s7
  obtain⟨l,hl⟩:∃ l,ts[i]?=some l:=⟨_,Jp (by rw[w'.len];exact hi)⟩
  obtain⟨p,x1,x2⟩:=(tu.mono s17).2 i l hl
  have lpos:=g.rows h2 hl
  have llt:∀ k∈l,k<es.length:=fun k hk=>mH w' hl hk
  have lle:l.length<=es.length:=dz (w'.nd _ _ hl) llt
  have llen:(l.map iV).length=l.length:=Jr _
  refine⟨_,rfl,t,_,1,_,rfl,rfl,SqT.of (s17 _ _ ht),at31,_,rfl,pt,xs,_,_,rfl,rfl,SqL.of (s17 _ _ hpt),ay x1,p,rfl,⟨_,SqL.of x2⟩,cN (K:=K) (xs:=l.map iV) (fun j zs H8=>H8=H7/\zs=((l.map (ofL o2)).map iV).take j) (by rw[llen];exact Kk (ax (by omega +splitDisjunctions))) ⟨rfl,rfl⟩ (fun j zs H8 _ z=>z.1▸SqL.of x2) ?_ ?_⟩
  ·rintro j x zs H8 hx ⟨rfl,rfl⟩
   rw[Jy]at hx
   obtain⟨k,hk,rfl⟩:=Kj.mp hx
   refine⟨_,rfl,_,rfl,q2,_,_,_,rfl,rfl,SqL.of (s27 _ _ h2'),ay (get2 _ (llt k (Jq hk))),rfl,?_⟩
   rw[Kv,Jy,Jy,hk]
   rfl
  rintro zs H8 hzl ⟨rfl,rfl⟩ D hD
  rw[llen,Kg (by rw[Jr,Jr];exact Jw _)]
  have sD:=aj hD (.lst ((l.map (ofL o2)).map iV))
  have dlen:((l.map (ofL o2)).map iV).length=l.length:=by rw[Jr,Jr]
  have dpos:(0:Int)<(((l.map (ofL o2)).map iV).length:Int):=by omega +splitDisjunctions
  have mx1:(if(((l.map (ofL o2)).map iV).length:Int) > 1 then(((l.map (ofL o2)).map iV).length:Int) else 1)=(((l.map (ofL o2)).map iV).length:Int):=by split<;>omega +splitDisjunctions
  have c0:=La c (show(1009:Int)≠0 by decide)
  have c1:=KP c (show(0:Int)<1009 by decide)
  refine⟨_,rfl,_,_,rfl,rfl,(by show(0:Int)<1009;decide),_,rfl,_,_,rfl,rfl,_,_,rfl,rfl,.inl ⟨by show -(2^64:Int)<c%1009;omega +splitDisjunctions,by show c%1009<(2^64:Int);omega +splitDisjunctions⟩,_,rfl,D,_,rfl,.inl (SqL.of ae),_,_,rfl,_,_,rfl,rfl,(by rw[mx1];exact dpos),?_⟩
  rw[mx1]
  have u0:=La (c%1009*((i:Int)+1)) (show(((l.map (ofL o2)).map iV).length:Int)≠0 by omega +splitDisjunctions)
  have u1:=KP (c%1009*((i:Int)+1)) dpos
  have hcut:c%1009*((i:Int)+1)%(((l.map (ofL o2)).map iV).length:Int)=((cutp c i l.length:Nat):Int):=by
   unfold cutp
   rw[dlen]at u0 ⊢
   exact(Lg u0).symm
  have cle:cutp c i l.length<=((l.map (ofL o2)).map iV).length:=by omega +splitDisjunctions
  refine⟨_,rfl,_,rfl,_,rfl,D,_,rfl,SqL.of ae,fun b1' hb1=>?_⟩
  rw[hcut,cut_hi cle]
  have sB:=aj hb1 (.lst (((l.map (ofL o2)).map iV).drop (cutp c i l.length)))
  refine⟨_,rfl,_,rfl,_,rfl,D,_,rfl,SqL.of (sB _ _ ae),fun b2' hb2=>?_⟩
  rw[hcut,cut_lo cle]
  have sC:=aj hb2 (.lst (((l.map (ofL o2)).map iV).take (cutp c i l.length)))
  refine⟨b1',b2',_,_,rfl,rfl,sC _ _ ae,ae,by rw[Km,JP];exact Kk (ax (by omega +splitDisjunctions)),fun b3 hb3=>?_⟩
  have hrow:((l.map (ofL o2)).map iV).drop (cutp c i l.length)++((l.map (ofL o2)).map iV).take (cutp c i l.length)=(rowN c o2 i l).map iV:=by
   unfold rowN
   rw[JX,JX,LY,LY,LX,LX]
  rw[hrow]
  have sE:=aj hb3 (.lst ((rowN c o2 i l).map iV))
  have sAll:=((sD.trans sB).trans sC).trans sE
  refine⟨_,rfl,_,rfl,_,rfl,q1,_,_,_,rfl,rfl,SqL.of (sAll _ _ (s27 _ _ h1')),ay (get1 _ hi),qt,ws,_,ofL o1 i,rfl,rfl,sAll _ _ hw,pq (by rw[wl];exact R.pi.lt i hi),?_⟩
  have b3t:b3≠qt:=fun z=>by rw[z,((sD.trans sB).trans sC) _ _ hw]at hb3;cases hb3
  refine⟨_,_,_,_,_,_,_,rfl,bg (s7.trans sAll) hqt _,ae,by rw[Ke];exact wl,fun p' l' hp' hl'=>?_⟩
  by_cases z:p'=i
  ·subst z
   rw[hl]at hl'
   cases hl'
   exact⟨b3,by rw[Kc,if_pos rfl,if_pos (by rw[wl];exact R.pi.lt p' hi)],by rw[ak b3t];exact ae,b3t⟩
  ·obtain⟨q,u1,u2,u3⟩:=inv2 p' l' (by omega +splitDisjunctions) hl'
   have hpl:p'<m:=by rw[← w'.len];exact(Jo.mp hl').1
   exact⟨q,by rw[Kc,if_neg (fun y=>z (R.pi.inj _ _ hpl hi y.symm))];exact u1,by rw[ak u3];exact sAll _ _ u2,u3⟩
 rintro σ H7 ⟨w5,w7,w8,w9,w10,w11,ws,rfl,s7,hw,wl,inv2⟩
 rw[JC,hxl]at inv2
 have tuN:cz H7 ws (ts2 c o1 o2 ts):=⟨by rw[wl,R.l2],fun j L h=>by
  have hj:j<m:=by rw[← R.l2];exact(Jo.mp h).1
  obtain⟨p,hp,rfl⟩:=R.pi.sur j hj
  obtain⟨l,hl⟩:∃ l,ts[p]?=some l:=⟨_,Jp (by rw[w'.len];exact hp)⟩
  obtain⟨q,z1,z2,_⟩:=inv2 p l hp hl
  refine⟨q,z1,?_⟩
  unfold ts2 at h
  rw[Jy,LJ (by rw[w'.len];exact R.pi.lt p hp)]at h
  have h':some (rowN c o2 (o1.idxOf (ofL o1 p)) ((ts[o1.idxOf (ofL o1 p)]?).getD []))=some L:=h
  rw[EE n1 (by omega +splitDisjunctions),hl]at h'
  cases h'
  exact z2⟩
 have s17:=s15.trans s7
 refine⟨(by show 0<=sizeLine;decide),fun qr hqr=>?_⟩
 have s8:=aj hqr (.lst [])
 have ru8:=ru.mono (s17.trans s8)
 have ul:us.length=rg.length:=ru.1
 have rgl:rg.length<=es.length+2:=by
  obtain⟨rs,x1,x2⟩:=g.part
  have:=part.same x1
  omega +splitDisjunctions
 have ringp:∀(r:List Nat),r∈rg->r.length<=2*es.length/\∀ d∈r,d<2*es.length:=fun r hr=>⟨dz (part.cr r hr).nd (part.cr r hr).lt,(part.cr r hr).lt⟩
 have h2s:=s5.trans s7
 refine⟨_,rfl,t,_,2,_,rfl,rfl,SqT.of ((s17.trans s8) _ _ ht),at32,pr,rfl,⟨us,SqL.of ((s17.trans s8) _ _ hpr)⟩,dj (xs:=us) (fun i σ H9=>∃ v5 v7 v8 v9 v11 ws2,σ = [some (.ref t),some (.int c),some (.ref q1),some (.ref q2),some (.ref qe),v5,some (.ref qt),v7,v8,v9,some (.ref qr),v11]/\Same H7 H9/\H9 qr=some (.lst ws2)/\bX (fun p=>p=qr) H9 ws2 ((rg.map (Mz (Phi (ofL o2)))).take i))
  ⟨_,_,_,_,_,[],rfl,s8,ae,⟨rfl,fun i l z=>by simp at z⟩⟩ (fun i σ H9 _ ⟨_,_,_,_,_,_,_,z,_⟩=>SqL.of ((s17.trans z) _ _ hpr)) ?_ ?_⟩
 ·rintro i x σ H9 hx ⟨w5',w7',w8',w9',w11',ws2,rfl,s9,hq9,rx9⟩
  have hi:i<rg.length:=by rw[← ul];exact(Jo.mp hx).1
  obtain⟨r,hr⟩:∃ r,rg[i]?=some r:=⟨_,Jp hi⟩
  obtain⟨p,x1,x2⟩:=(ru.mono (s17.trans s9)).2 i r hr
  rw[hx]at x1
  cases x1
  obtain⟨rl,rlt⟩:=ringp r (Jq hr)
  have rlen:(r.map iV).length=r.length:=Jr _
  have wsl:ws2.length=i:=by rw[rx9.1,JP,Jr];omega +splitDisjunctions
  refine⟨_,rfl,.inl ⟨rfl,_,SqL.of hq9⟩,_,rfl,p,rfl,⟨_,SqL.of x2⟩,cN (K:=K) (xs:=r.map iV) (fun j zs H8=>H8=H9/\zs=((r.map (Phi (ofL o2))).map iV).take j) (by rw[rlen];exact Kk (ax (by omega +splitDisjunctions))) ⟨rfl,rfl⟩ (fun j zs H8 _ z=>z.1▸SqL.of x2) ?_ ?_⟩
  ·rintro j x zs H8 hx ⟨rfl,rfl⟩
   rw[Jy]at hx
   obtain⟨d,hd,rfl⟩:=Kj.mp hx
   have dl:=rlt d (Jq hd)
   have e2:(d:Int)/2=((d/2:Nat):Int):=by omega +splitDisjunctions
   refine⟨_,rfl,_,rfl,_,_,rfl,rfl,⟨by decide,by decide⟩,q2,_,_,_,rfl,rfl,SqL.of ((h2s.trans s9) _ _ h2'),(by rw[e2];exact ay (get2 _ (by omega +splitDisjunctions))),_,_,rfl,rfl,.inl ⟨by decide,by decide⟩,_,rfl,_,_,rfl,rfl,(by show(0:Int)<2;decide),_,_,rfl,rfl,rfl,?_⟩
   rw[Kv,Jy,Jy,hd]
   have:V.int (2*((ofL o2 (d/2):Nat):Int)+(d:Int)%2)=iV (Phi (ofL o2) d):=by
    unfold Phi iV
    congr 1
   simpa[iV] using this
  rintro zs H8 hzl ⟨rfl,rfl⟩ D hD
  rw[rlen,Kg (by rw[Jr,Jr];exact Jw _)]
  have sD:=aj hD (.lst ((r.map (Phi (ofL o2))).map iV))
  have Dq:D≠qr:=fun z=>by rw[z,hq9]at hD;cases hD
  refine⟨qr,ws2,_,rfl,rfl,sD _ _ hq9,ax (by omega +splitDisjunctions),?_⟩
  have hqr7:H7 qr=none:=hqr
  refine⟨_,_,_,_,_,_,rfl,bg (s9.trans sD) hqr7 _,ae,?_⟩
  have tk:(rg.map (Mz (Phi (ofL o2)))).take (i+1)=(rg.map (Mz (Phi (ofL o2)))).take i++[r.map (Phi (ofL o2))]:=by
   rw[Kv,Jy,hr]
   rfl
  rw[tk]
  refine bX.mono (bX.snoc (bX.mono rx9 fun b u _ z=>sD _ _ z) Dq ae) fun b u n z=>?_
  rw[ak n]
  exact z
 rintro σ H9 ⟨w5',w7',w8',w9',w11',ws2,rfl,s9,hq9,rx9⟩
 rw[ul,Kg (by rw[Jr];exact Jw _)]at rx9
 have s19:=s17.trans s9
 refine⟨_,rfl,_,rfl,_,rfl,(by show 3<=sizeLine;decide),fun t' ht'=>?_⟩
 have sT:=aj ht' (.tup [.ref qe,.ref qt,.ref qr])
 have s79:=s9.trans sT
 exact kk t' qe qt qr (en2 o1 o2 es) (ts2 c o1 o2 ts) _ _ (s19.trans sT) ae ⟨⟨zs,s79 _ _ (s7 _ _ hz),(enN.mono s7).mono s79⟩,⟨ws,s79 _ _ hw,tuN.mono s79⟩,R.gr g⟩ ⟨ws2,sT _ _ hq9,rx9.off.mono sT⟩ (FC R g part) R.l1
end
end K8
namespace K8
open PySem L2
local macro_rules | `(tactic| walk_at "cc") => `(tactic| first | exact ⟨by decide, by decide⟩ | (show (0 : Int) < _; decide) | (show (0 : Int) < _; omega) | (show (0 : Int) ≤ _; omega) | exact ⟨by decide, by decide, by decide⟩ | exact ⟨by omega, by omega, by decide⟩ | exact Or.inl ⟨by decide, by decide⟩ | exact Or.inl ⟨by omega, by omega⟩)
local macro_rules | `(tactic| walk_at "rd") => `(tactic| repeat (first | refine ⟨_, rfl, ?_⟩ | refine ⟨_, _, rfl, rfl, ?_⟩ | refine ⟨rfl, ?_⟩ | (refine ⟨?cc, ?_⟩; (case cc => walk_at "cc"))))
theorem EM{S:Addr->Prop}{H:Hp}{xs:List V}{ts:List (List Nat)}{q:Addr}(h:bX S H xs ts)(D:Dist xs)(hq:H q=none):Dist (xs++[.ref q]):=by
 have old:∀(j:Nat)(p:Addr),j<xs.length->(xs++[V.ref q])[j]?=some (.ref p)->xs[j]?=some (.ref p)/\p≠q:=fun j p hj e=>by
  rw[Jx hj]at e
  obtain⟨p',a1,_,a3⟩:=h.2 j _ (Jp (by rw[← h.1];exact hj))
  rw[e]at a1
  cases a1
  exact⟨e,aK a3 hq⟩
 have new:∀(j:Nat)(p:Addr),¬ j<xs.length->(xs++[V.ref q])[j]?=some (.ref p)->j=xs.length/\p=q:=fun j p hj e=>by
  have:=(Jo.mp e).1
  rw[Jt,JF]at this
  have hj2:j=xs.length:=by omega
  subst hj2
  rw[Jv (Jw _),JV]at e
  cases e
  exact⟨rfl,rfl⟩
 intro j k p e1 e2
 by_cases hj:j<xs.length
 ·obtain⟨u1,u2⟩:=old j p hj e1
  by_cases hk:k<xs.length
  ·exact D j k p u1 (old k p hk e2).1
  ·exact absurd (new k p hk e2).2 u2
 ·obtain⟨u1,u2⟩:=new j p hj e1
  by_cases hk:k<xs.length
  ·exact absurd u2 (old k p hk e2).2
  ·rw[u1,(new k p hk e2).1]
abbrev Kn:=List (Int×Int)
def iZ(H:Hp)(ws:List V)(ks:Kn):Prop:=ws.length=ks.length/\∀(i:Nat)(k:Int×Int),ks[i]?=some k->(k.1=0∨k.1=1)/\0<=k.2/\∃ p,ws[i]?=some (.ref p)/\H p=some (.tup [.int k.1,.int k.2])
theorem iZ.mono{H H':Hp}{ws:List V}{ks:Kn}(h:iZ H ws ks)(s:Same H H'):iZ H' ws ks:=⟨h.1,fun i k z=>by
 obtain⟨a,b,p,c,d⟩:=h.2 i k z
 exact⟨a,b,p,c,s _ _ d⟩⟩
theorem iZ.snoc{H:Hp}{ws:List V}{ks:Kn}{k:Int×Int}{p:Addr}(t:iZ H ws ks)(h:H p=some (.tup [.int k.1,.int k.2]))(h1:k.1=0∨k.1=1)(h2:0<=k.2):iZ H (ws++[.ref p]) (ks++[k]):=by
 refine⟨by rw[Jt,Jt,t.1];rfl,fun j x ej=>?_⟩
 by_cases hj:j<ks.length
 ·rw[Jx hj]at ej
  obtain⟨u,v,p,a1,a2⟩:=t.2 j x ej
  exact⟨u,v,p,by rw[Jx (by rw[t.1];exact hj)];exact a1,a2⟩
 ·rw[Jv (by omega)]at ej
  have hj2:j=ks.length:=by
   have:=(Jo.mp ej).1
   rw[JF]at this
   omega
  subst hj2
  rw[JV]at ej
  cases ej
  exact⟨h1,h2,p,by rw[← t.1,Jv (Jw _),JV];rfl,h⟩
theorem Gr.two{m:Nat}{es:En}{ts:List (List Nat)}(g:Gr m es ts)(h:0<es.length):2<=m:=by
 obtain⟨a,b,c⟩:=g.w.ends _ (Jq (Jp h))
 omega
def xU(K:Js):Sp:=fun vs H Q _=>∃(a lm:Addr)(n:Nat)(ns Ls:List Int),vs = [.ref a,.int (n:Int),.ref lm]/\SqL K H a (ns.map V.int)/\ns.length<=63/\SqL K H lm (Ls.map V.int)/\0<Ls.length/\Ls.length<1000/\(∀ x∈Ls,1<=x/\x<=10^(30:Int).toNat+1)/\0<n/\n<=100 /\
 ∀(q:Addr)(ws:List V)(ks:Kn)(H':Hp),Same H H'->H' q=some (.lst ws)->iZ H' ws ks->ks.length=n->(∀ k∈ks,k.2<=10^(30:Int).toNat)->Q (.ref q) H'
section
variable{P:Program}{w:World}{K:Js}{mg:Str->Option Value}{base:Heap}
theorem fe:aE ["script","many","limits","limit","totals","k"] ["script","many","limits"] (ah cX):=⟨rfl,rfl,rfl,by decide +kernel,rfl,by decide +kernel,by decide +kernel⟩
theorem F4{f fc:Addr}{fd dc:FuncData} (F:Fun K "_law_kinds" "_law_kinds" cX f fd) (T:Txt mg) (G_law_cell:Cal P w K mg base 1 "_law_cell" ["script","k"] (AI K) fc dc):FnOk P w K mg base CX0 2 f fd ["script","many","limits"] (xU K):=by
 refine F.ok fe (fun vs H Q E h=>?_) (fun cdv A outer s H vs Q E hr h=>?_)
 ·obtain⟨a,lm,n,ns,Ls,rfl,_⟩:=h
  rfl
 obtain⟨a,lm,n,ns,Ls,rfl,hS,h63,hL,L0,L1,Lb,n0,n100,kk⟩:=h
 have hlen:(ns.map V.int).length=ns.length:=Jr _
 have llen:(Ls.map V.int).length=Ls.length:=Jr _
 have lpos:(0:Int)<((Ls.map V.int).length:Int):=by omega +splitDisjunctions
 refine⟨_,(af (ar (i:=3) fe.nd rfl (Or.inl rfl) (aD az (pv 2) (av bD (aA G_law_cell.ok (hr.mono (by decide)) rfl G_law_cell.mg G_law_cell.kp G_law_cell.bn .nil aY (aa (pv 0) (aa ai ag))) (au aq (by rfl) T.n_len a8 (aa (pv 2) ag))) (fun _ _=>rfl)))
   (af (lC (i:=4) rfl fe.nd rfl rfl (fr:=[]) (by exact bJ.plain (by rfl) (by decide +kernel) (by rfl) (by decide +kernel) (by rfl) (by decide +kernel)) (a9 rfl T.n_range (aa (pv 1) ag)) (fun C ex s H=>ai))
   (af (bW PassesOwn.never rfl (a9 rfl T.n_range (aa (au aq (by rfl) T.n_len a8 (aa (pv 0) ag)) ag)) (aX (i:=5) fe.nd rfl (Or.inl rfl)) (ao (u5 (av bD (av bA (av fj (aD az (pv 4) (av bD (pv 5) (pv 1)) (fun _ _=>rfl)) ai) (aD az (pv 0) (pv 5) (fun _ _=>rfl))) (av fj ai (pv 3))) (vk (pv 4) (av bD (pv 5) (pv 1)) kg))))
   (ao (aM (eG rfl (fr:=[]) (by exact bJ.plain (by rfl) (by decide +kernel) (by rfl) (by decide +kernel) (by rfl) (by decide +kernel)) (bx (pv 4)) (fun C ex s H=>(jx (aa (av bD (pv 0) ai) (aa (av cE (pv 0) ai) ag)))))))))),?_⟩
 obtain⟨i,hi,il⟩:∃ i:Nat,qO ns 1%((Ls.map V.int).length:Int)=(i:Int)/\i<Ls.length:=by
  have h0:=La (qO ns 1) (show((Ls.map V.int).length:Int)≠0 by omega +splitDisjunctions)
  have h1:=KP (qO ns 1) lpos
  exact⟨_,(Lg h0).symm,by omega +splitDisjunctions⟩
 obtain⟨L,hLi⟩:∃ L,Ls[i]?=some L:=⟨_,Jp il⟩
 obtain⟨b1,b2⟩:=Lb L (Jq hLi)
 have lpos2:(0:Int)<2*L:=by omega +splitDisjunctions
 refine⟨_,rfl,_,rfl,a,1,ns,rfl,hS,_,rfl,lm,_,rfl,.inl hL,_,_,rfl,rfl,lpos,lm,_,_,_,rfl,rfl,hL,(by rw[hi];exact ay (v:=.int L) (by rw[Jy,hLi];rfl)),?_⟩
 refine⟨_,rfl,_,rfl,by omega +splitDisjunctions,by omega +splitDisjunctions,gB (n:=(n:Int).toNat) (fun j ys H2=>H2=H/\ys=(K5 j (0:Int)).map V.int) (by rw[JC];exact Kk (ax (by omega +splitDisjunctions))) ⟨rfl,rfl⟩ (fun j ys H2 _ ⟨z1,z2⟩=>?_) ?_⟩
 ·subst z1 z2
  refine⟨rfl,?_⟩
  rw[List.replicate_succ',JX]
  rfl
 rintro ys H2 _ ⟨rfl,rfl⟩ q hq
 rw[JC]
 have s1:=aj hq (.lst ((K5 n (0:Int)).map V.int))
 refine⟨_,rfl,a,_,rfl,.inl (s1.seq hS),_,rfl,by omega +splitDisjunctions,by omega +splitDisjunctions,cK (n:=((ns.map V.int).length:Int).toNat) (fun j σ H3=>∃(v5:Option V)(xs:List Int),σ = [some (.ref a),some (.int (n:Int)),some (.ref lm),some (.int L),some (.ref q),v5]/\Same H2 H3/\H3 q=some (.lst (xs.map V.int))/\xs.length=n/\∀ x∈xs,0<=x/\x<2*L)
  ⟨_,K5 n 0,rfl,s1,ae,List.length_replicate,fun x hx=>by rw[List.eq_of_mem_replicate hx];omega +splitDisjunctions⟩ ?_ ?_⟩
 ·rintro j σ H3 hj ⟨v5,xs,rfl,s3,hq3,xl,xb⟩
  rw[JC,hlen]at hj
  have e0:(0:Int)+(j:Int)=(j:Int):=K9 _
  rw[e0]
  have npos:(0:Int)<(n:Int):=by omega +splitDisjunctions
  have jm:(j:Int)%(n:Int)=((j%n:Nat):Int):=by omega +splitDisjunctions
  have jl:j%n<n:=Np _ n0
  obtain⟨x,hx⟩:∃ x,xs[j%n]?=some x:=⟨_,Jp (by omega +splitDisjunctions)⟩
  have hxV:(xs.map V.int)[j%n]?=some (.int x):=by rw[Jy,hx];rfl
  have hsV:(ns.map V.int)[j]?=some (.int ns[j]):=by rw[Jy,Jp hj];rfl
  refine⟨_,rfl,_,rfl,_,rfl,_,_,rfl,rfl,npos,q,_,_,_,rfl,rfl,SqL.of hq3,(by rw[jm];exact ay hxV),_,_,rfl,rfl,.inr ⟨by decide,by decide⟩,_,rfl,_,rfl,a,_,_,_,rfl,rfl,s3.seq hS,ay hsV,_,_,rfl,rfl,_,rfl,_,_,rfl,rfl,.inl ⟨by decide,by decide⟩,_,_,rfl,rfl,lpos2,?_⟩
  have xlen:(xs.map V.int).length=xs.length:=Jr _
  refine⟨_,rfl,_,rfl,_,rfl,_,_,rfl,rfl,npos,q,xs.map V.int,_,j%n,rfl,rfl,hq3,(by rw[jm];exact pq (by omega +splitDisjunctions)),?_⟩
  refine⟨_,xs.set (j%n) ((x*5+ns[j])%(2*L)),rfl,bg s3 hq _,?_,by rw[Ke];exact xl,fun y hy=>?_⟩
  ·rw[ae,List.map_set]
  ·rcases Me hy with z | z
   ·exact xb y z
   ·rw[z]
    exact⟨La _ (by omega +splitDisjunctions),KP _ lpos2⟩
 rintro σ H3 ⟨v5,xs,rfl,s3,hq3,xl,xb⟩
 have xlen:(xs.map V.int).length=xs.length:=Jr _
 refine⟨_,rfl,q,rfl,⟨_,SqL.of hq3⟩,cN (K:=K) (xs:=xs.map V.int) (fun j zs H4=>Same H3 H4/\∃ ks:Kn,iZ H4 zs ks/\ks.length=j/\∀ k∈ks,k.2<=10^(30:Int).toNat) (by rw[xlen];exact Kk (ax (by omega +splitDisjunctions))) ⟨fun _ _ z=>z,[],⟨rfl,fun i k z=>by simp at z⟩,rfl,fun k z=>nomatch z⟩ (fun j zs H4 _ z=>SqL.of (z.1 _ _ hq3)) ?_ ?_⟩
 ·rintro j v zs H4 hv ⟨s4,ks,tk,kl,kb⟩
  rw[Jy]at hv
  obtain⟨x,hx,rfl⟩:=Kj.mp hv
  obtain⟨x0,x1⟩:=xb x (Jq hx)
  refine⟨_,rfl,_,_,rfl,rfl,(by show(0:Int)<2;decide),_,rfl,_,_,rfl,rfl,⟨by decide,by decide⟩,(by show 2<=sizeLine;decide),fun t ht=>?_⟩
  have sn:=aj ht (.tup [.int (x%2),.int (x/2)])
  refine⟨s4.trans sn,ks++[(x%2,x/2)],(tk.mono sn).snoc ae (by show x%2=0∨x%2=1;omega +splitDisjunctions) (by show 0<=x/2;omega +splitDisjunctions),by rw[Jt,kl];rfl,fun k hk=>?_⟩
  rcases JA.mp hk with z | z
  ·exact kb k z
  ·rw[JI.mp z]
   show x/2<=_
   generalize (10:Int)^(30:Int).toNat=Z at b2 ⊢
   omega +splitDisjunctions
 rintro zs H4 _ ⟨s4,ks,tk,kl,kb⟩ D hD
 have sD:=aj hD (.lst zs)
 exact kk D zs ks _ ((s3.trans s4).trans sD) ae (tk.mono sD) (by rw[kl,xlen,xl]) kb
end
end K8
namespace K8
open PySem L2
local macro_rules | `(tactic| walk_at "cc") => `(tactic| first | exact ⟨by decide, by decide⟩ | (show (0 : Int) < _; decide) | (show (0 : Int) < _; omega) | (show (0 : Int) ≤ _; omega) | exact ⟨by decide, by decide, by decide⟩ | exact ⟨by omega, by omega, by decide⟩ | exact Or.inl ⟨by decide, by decide⟩ | exact Or.inl ⟨by omega, by omega⟩)
local macro_rules | `(tactic| walk_at "rd") => `(tactic| repeat (first | refine ⟨_, rfl, ?_⟩ | refine ⟨_, _, rfl, rfl, ?_⟩ | refine ⟨rfl, ?_⟩ | (refine ⟨?cc, ?_⟩; (case cc => walk_at "cc"))))
theorem andN(a b:Nat):Builtin.bitAnd (a:Int) (b:Int)=((a&&&b:Nat):Int):=by
 rw[PyProof.Rows.bitAnd_pp (MP _) (MP _),JC,JC]
theorem orN(a b:Nat):Builtin.bitOr (a:Int) (b:Int)=((a|||b:Nat):Int):=by
 rw[PyProof.Rows.bitOr_and,andN]
 have q:=PyProof.Rows.nat_or_add_and a b
 omega
theorem shlN(p:Nat):(1:Int)*2^((p:Nat):Int).toNat=((2^p:Nat):Int):=by
 rw[Int.one_mul,JC,Int.natCast_pow]
 rfl
theorem Fo{M p q:Nat}:(M&&&(2^p|||2^q)=0↔M.testBit p=false/\M.testBit q=false)/\(M|||(2^p|||2^q)=M->M.testBit p=true/\M.testBit q=true):=by
 have b1:∀ i,(2^p|||2^q).testBit i=(decide (p=i)||decide (q=i)):=fun i=>by rw[MG,MK,MK]
 refine⟨⟨fun h=>?_,fun⟨h1,h2⟩=>?_⟩,fun h=>?_⟩
 ·have h1:=congrArg (fun z=>M6 z p) h
  have h2:=congrArg (fun z=>M6 z q) h
  simp only[Ms,b1,Mm]at h1 h2
  constructor
  ·simpa using h1
  ·simpa using h2
 ·refine LD fun i=>?_
  rw[Ms,b1,Mm]
  by_cases z1:p=i
  ·subst z1;rw[h1];rfl
  ·by_cases z2:q=i
   ·subst z2;rw[h2];rfl
   ·simp[z1,z2]
 ·have h1:=congrArg (fun z=>M6 z p) h
  have h2:=congrArg (fun z=>M6 z q) h
  simp only[MG (x:=M),b1]at h1 h2
  constructor
  ·simpa using h1.symm
  ·simpa using h2.symm
theorem EK{M m:Nat}(h:M<2^m)(k:∀ p,p<m->M.testBit p=true):M=2^m-1:=by
 refine LD fun i=>?_
 rw[Nat.testBit_two_pow_sub_one]
 by_cases z:i<m
 ·rw[k i z,decide_eq_true z]
 ·rw[decide_eq_false z]
  exact Nat.testBit_lt_two_pow (Ki h (MB (by decide) (by omega)))
def xO(K:Js):Sp:=fun vs H Q _=>∃(a:Addr)(ys:List V)(m:Nat)(es:En)(ts:List (List Nat)),vs = [.int 0,.ref a]/\SqL K H a ys/\dQ H ys es/\Gr m es ts/\2<=m/\m<=40/\Q (.int ((2^m-1:Nat):Int)) H
section
variable{P:Program}{w:World}{K:Js}{mg:Str->Option Value}{base:Heap}
theorem cj:aE ["start","pairs","mask","ahead","one","two","ends"] ["start","pairs"] (ah gk):=⟨rfl,rfl,rfl,by decide +kernel,rfl,by decide +kernel,by decide +kernel⟩
theorem BN{f:Addr}{fd:FuncData} (F:Fun K "reached" "reached" gk f fd):FnOk P w K mg base CX0 1 f fd ["start","pairs"] (xO K):=by
 refine F.ok cj (fun vs H Q E h=>?_) (fun cdv A outer s H vs Q E hr h=>?_)
 ·obtain⟨a,ys,m,es,ts,rfl,_⟩:=h
  rfl
 obtain⟨a,ys,m,es,ts,rfl,hS,hE,g,m2,m40,kk⟩:=h
 refine⟨_,(af (ar (i:=2) cj.nd rfl (Or.inl rfl) (av mF ai (pv 0)))
   (af (ar (i:=3) cj.nd rfl (Or.inl rfl) ai)
   (af (kq PassesOwn.never (aF nt (pv 2) (pv 3) (aN _)) (af (ar (i:=3) cj.nd rfl (Or.inl rfl) (pv 2))
   (ao (bW PassesOwn.never rfl (bx (pv 1)) (DR rfl (jb (aX (i:=4) cj.nd rfl (Or.inl rfl)) (jb (aX (i:=5) cj.nd rfl (Or.inl rfl)) yA))) (af (ar (i:=6) cj.nd rfl (Or.inl rfl) (av op_or (av mF ai (pv 4)) (av mF ai (pv 5))))
   (ao (bV (aF nt (av AY (pv 2) (pv 6)) ai (aN _)) (ao (ar (i:=2) cj.nd rfl (Or.inl rfl) (av op_or (pv 2) (pv 6)))) aR)))))))
   (ao (aM (pv 2)))))),?_⟩
 refine⟨_,rfl,_,_,rfl,rfl,⟨by decide,by decide,by decide⟩,?_⟩
 have p2:∀ p,p<m->2^p<2^m:=fun p hp=>Nat.pow_lt_pow_right (by decide) hp
 refine AB (fun σ H2=>∃(M Ah:Nat),∃ v4 v5 v6,H2=H/\σ = [some (.int 0),some (.ref a),some (.int (M:Int)),some (.int (Ah:Int)),v4,v5,v6]/\M.testBit 0=true/\M<2^m/\(M=Ah->∀ e∈es,M.testBit e.1=M.testBit e.2))
  (fun σ _=>match σ with | [_,_,some (.int M),some (.int Ah),_,_,_]=>2*((2^m:Nat)-M).toNat+(if M=Ah then 0 else 1) | _=>0) ⟨1,0,_,_,_,rfl,rfl,by decide,Nat.one_lt_two_pow (by omega),fun z=>absurd z (by decide)⟩ ?_ ?_
 ·rintro σ H2 ⟨M,Ah,v4,v5,v6,rfl,rfl,b0,hM,cl⟩
  refine⟨_,rfl,_,rfl,rfl,_,rfl,?_⟩
  refine ite2 (fun c=>?_) (fun c=>?_)
  ·have c':M≠Ah:=fun z=>by
    rw[decide_eq_true (show V.int (M:Int)=V.int (Ah:Int) by rw[z])]at c
    cases c
   refine⟨_,rfl,?_⟩
   refine⟨_,rfl,a,rfl,⟨_,hS⟩,dj (K:=K) (xs:=ys) (fun i σ H3=>∃(M':Nat),∃ v4 v5 v6,H3=H2/\σ = [some (.int 0),some (.ref a),some (.int (M':Int)),some (.int (M:Int)),v4,v5,v6]/\M'.testBit 0=true/\M'<2^m/\M<=M'/\(M'=M->∀(j:Nat)(e:Nat×Nat),j<i->es[j]?=some e->M.testBit e.1=M.testBit e.2)) ⟨M,_,_,_,rfl,rfl,b0,hM,Jw _,fun _ j e z=>absurd z (Ln _)⟩ (fun i σ H3 _ ⟨_,_,_,_,z,_⟩=>z▸hS) ?_ ?_⟩
   ·rintro i x σ H3 hx ⟨M',v4,v5,v6,rfl,rfl,b0',hM',hle,cl'⟩
    have hi:i<es.length:=by rw[← hE.1];exact(Jo.mp hx).1
    obtain⟨e,he⟩:∃ e,es[i]?=some e:=⟨_,Jp hi⟩
    obtain⟨p,x1,x2⟩:=hE.2 i e he
    rw[hx]at x1
    cases x1
    obtain⟨e1,e2,_⟩:=g.w.ends e (Jq he)
    obtain⟨t1,t2⟩:=Fo (M:=M') (p:=e.1) (q:=e.2)
    refine⟨p,_,rfl,SqT.of x2,rfl,_,_,rfl,_,_,rfl,rfl,?_⟩
    refine⟨_,rfl,_,_,rfl,rfl,⟨by omega,by omega,by decide⟩,_,rfl,_,_,rfl,rfl,⟨by omega,by omega,by decide⟩,_,_,rfl,rfl,?_⟩
    have eo:Builtin.bitOr (1*2^((e.1:Nat):Int).toNat) (1*2^((e.2:Nat):Int).toNat)=((2^e.1|||2^e.2:Nat):Int):=by rw[shlN,shlN,orN]
    refine⟨_,rfl,_,rfl,_,_,rfl,rfl,rfl,_,rfl,?_⟩
    have step:∀ M'':Nat,M'<=M''->(M''=M'->M'.testBit e.1=M'.testBit e.2)->M''=M->∀(j:Nat)(x:Nat×Nat),j<i+1->es[j]?=some x->M.testBit x.1=M.testBit x.2:=fun M'' h1 h2 h3 j x hj hx'=>by
     have e3:M'=M:=by omega
     by_cases z:j=i
     ·subst z
      rw[he]at hx'
      cases hx'
      have:=h2 (by omega)
      rwa[e3]at this
     ·exact cl' e3 j x (by omega) hx'
    refine ite2 (fun c=>?_) (fun c=>?_)
    ·refine⟨_,rfl,_,rfl,_,_,rfl,rfl,?_⟩
     refine⟨M'|||(2^e.1|||2^e.2),some (iV e.1),some (iV e.2),some (V.int (Builtin.bitOr (1*2^((e.1:Nat):Int).toNat) (1*2^((e.2:Nat):Int).toNat))),rfl,?_,?_,Nat.or_lt_two_pow hM' (Nat.or_lt_two_pow (p2 _ e1) (p2 _ e2)),Ky hle Nat.left_le_or,step _ Nat.left_le_or fun z=>?_⟩
     ·show[some (V.int 0),some (V.ref a),some (V.int (Builtin.bitOr (M':Int) (Builtin.bitOr (1*2^((e.1:Nat):Int).toNat) (1*2^((e.2:Nat):Int).toNat)))),some (V.int (M:Int)),some (iV e.1),some (iV e.2),some (V.int (Builtin.bitOr (1*2^((e.1:Nat):Int).toNat) (1*2^((e.2:Nat):Int).toNat)))]=_
      rw[eo,orN]
     ·rw[MG,b0'];rfl
     ·obtain⟨u1,u2⟩:=t2 z
      rw[u1,u2]
    ·refine⟨M',_,_,_,rfl,rfl,b0',hM',hle,step M' (Jw _) fun _=>?_⟩
     have c3:M'&&&(2^e.1|||2^e.2)=0:=by
      by_cases z:M'&&&(2^e.1|||2^e.2)=0
      ·exact z
      ·refine absurd ?_ c
       rw[decide_eq_false (fun y=>z ?_)]
       ·rfl
       ·have y':=V.int.inj y
        rw[eo,andN]at y'
        omega
     obtain⟨u1,u2⟩:=t1.mp c3
     rw[u1,u2]
   ·rintro σ H3 ⟨M',v4,v5,v6,rfl,rfl,b0',hM',hle,cl'⟩
    rw[hE.1]at cl'
    refine⟨⟨M',M,_,_,_,rfl,rfl,b0',hM',fun z e he=>?_⟩,?_⟩
    ·obtain⟨j,hj⟩:=Kd.mp he
     have:=cl' z j e (Jo.mp hj).1 hj
     rw[z]
     exact this
    ·show 2*(((2^m:Nat):Int)-(M':Int)).toNat+(if(M':Int)=(M:Int) then 0 else 1)<2*(((2^m:Nat):Int)-(M:Int)).toNat+(if(M:Int)=(Ah:Int) then 0 else 1)
     rw[if_neg (show ¬ (M:Int)=(Ah:Int) from fun z=>c' (by omega))]
     have hMi:(M':Int)<((2^m:Nat):Int):=by exact_mod_cast hM'
     have hMj:(M:Int)<=(M':Int):=by omega
     generalize ((2^m:Nat):Int)=Z at hMi ⊢
     split<;>omega
  ·have c':M=Ah:=by
    by_cases z:M=Ah
    ·exact z
    ·exact absurd (by rw[decide_eq_false (fun y=>z (by have:=V.int.inj y;omega))];rfl) c
   have full:=EK hM fun p hp=>by
    have:=g.conn (fun x=>M.testBit x=true) (fun e he=>by rw[cl c' e he]) 0 p (by omega) hp b0
    exact this
   refine⟨_,rfl,?_⟩
   rw[full]
   exact kk
 ·rintro σ H2 Q1 Q2 hi ⟨v',e,b',e2,z1,c',e3,q'⟩
  exact⟨v',e,b',e2,z1,c',e3,hi _ _ q'⟩
end
end K8
namespace K8
open PySem L2
local macro_rules | `(tactic| walk_at "cc") => `(tactic| first | exact ⟨by decide, by decide⟩ | (show (0 : Int) < _; decide) | (show (0 : Int) < _; omega) | (show (0 : Int) ≤ _; omega) | exact ⟨by decide, by decide, by decide⟩ | exact ⟨by omega, by omega, by decide⟩ | exact Or.inl ⟨by decide, by decide⟩ | exact Or.inl ⟨by omega, by omega⟩)
local macro_rules | `(tactic| walk_at "rd") => `(tactic| repeat (first | refine ⟨_, rfl, ?_⟩ | refine ⟨_, _, rfl, rfl, ?_⟩ | refine ⟨rfl, ?_⟩ | (refine ⟨?cc, ?_⟩; (case cc => walk_at "cc"))))
theorem qU:∀{a b:List Int},a.Perm b->a.Pairwise (·<=·)->b.Pairwise (·<=·)->a=b
 |[],b,h,_,_=>(List.nil_perm.mp h).symm▸rfl
 |x::a,[],h,_,_=>absurd h.length_eq (by simp)
 |x::a,y::b,h,pa,pb=>by
  obtain⟨a1,a2⟩:=Ma.mp pa
  obtain⟨b1,b2⟩:=Ma.mp pb
  have h1:x<=y:=by
   rcases Ju.mp (h.mem_iff.mpr (JD ..):y∈x::a)with z | z
   ·rw[z];exact K4 _
   ·exact a1 y z
  have h2:y<=x:=by
   rcases Ju.mp (h.mem_iff.mp (JD ..):x∈y::b)with z | z
   ·rw[z];exact K4 _
   ·exact b1 x z
  have e:x=y:=Int.le_antisymm h1 h2
  subst e
  rw[qU (List.Perm.cons_inv h) a2 b2]
def cI(l:List Nat):List Int:=l.map fun(p:Nat)=>((p:Nat):Int)
theorem cI_V(l:List Nat):(cI l).map V.int=l.map iV:=by unfold cI;rw[Ly];rfl
theorem HM{l r:List Nat}{out:List Int}(hp:out.Perm (cI l))(hs:out.Pairwise (·<=·))(nl:l.Nodup)(pr:r.Pairwise (· < ·))(hm:∀ t,t∈l↔t∈r):out=cI r:=by
 have nr:r.Nodup:=pr.imp fun h=>JN h
 have q:(cI l).Perm (cI r):=((L7 nl nr).mpr hm).map _
 refine qU (hp.trans q) hs ?_
 unfold cI
 exact List.Pairwise.map _ (fun a b h=>by omega) pr
theorem ED{l:List Nat}{n:Nat}:ins l l.length n=l++[n]:=by
 unfold ins
 rw[KL,List.drop_length]
def xQ(K:Js):Sp:=fun vs H Q _=>∃(a:Addr)(xs:List V)(m:Nat)(es:En),vs = [.int (m:Int),.ref a]/\SqL K H a xs/\dP K H xs es/\(∀ e∈es,e.1<m/\e.2<m)/\Q .non H
def rX(K:Js):Sp:=fun vs H Q _=>∃(a b:Addr)(xs zs:List V)(m:Nat)(es:En)(ts:List (List Nat)),vs = [.int (m:Int),.ref a,.ref b]/\SqL K H a xs/\dP K H xs es/\SqL K H b zs/\cz H zs ts/\bF m es ts/\es.length<=30/\m<=40/\∀ H',Same H H'->Q .non H'
def xP(K:Js):Sp:=fun vs H Q _=>∃(a:Addr)(xs:List V)(m:Nat)(es:En)(ts:List (List Nat)),vs = [.int (m:Int),.ref a]/\SqL K H a xs/\dP K H xs es/\Gr m es ts/\2<=m/\m<=40/\es.length<=30/\∀ H',Same H H'->Q .non H'
section
variable{P:Program}{w:World}{K:Js}{mg:Str->Option Value}{base:Heap}
theorem ju:aE ["many","ties","tie"] ["many","ties"] (ah bP):=⟨rfl,rfl,rfl,by decide +kernel,rfl,by decide +kernel,by decide +kernel⟩
theorem F1{f:Addr}{fd:FuncData} (F:Fun K "refuse_ends" "refuse_ends" bP f fd):FnOk P w K mg base CX0 1 f fd ["many","ties"] (xQ K):=by
 refine F.ok ju (fun vs H Q E h=>?_) (fun cdv A outer s H vs Q E hr h=>?_)
 ·obtain⟨a,xs,m,es,rfl,_⟩:=h
  rfl
 obtain⟨a,xs,m,es,rfl,hS,hT,hm,k⟩:=h
 refine⟨_,(ao (bW PassesOwn.never rfl (bx (pv 1)) (aX (i:=2) ju.nd rfl (Or.inl rfl)) (ao (bV (PW.pt (lB (aF vn (eF (pv 2) rfl) (pv 0) (aN _)) (mz (aF vn (eF (pv 2) rfl) (pv 0) (aN _))))) (ao fg) aR)))),?_⟩
 refine⟨_,rfl,a,rfl,⟨_,hS⟩,dj (K:=K) (xs:=xs) (fun i σ H2=>∃ v2,σ = [some (.int (m:Int)),some (.ref a),v2]/\H2=H) ⟨_,rfl,rfl⟩ (fun i σ H2 _ ⟨_,_,z⟩=>z▸hS) ?_ ?_⟩
 ·rintro i x σ H2 hx ⟨v2,rfl,rfl⟩
  have hi:i<es.length:=by rw[← hT.1];exact(Jo.mp hx).1
  obtain⟨e,he⟩:∃ e,es[i]?=some e:=⟨_,Jp hi⟩
  obtain⟨p,C,dx,st,x1,x2,x3⟩:=hT.2 i e he
  rw[hx]at x1
  cases x1
  obtain⟨e1,e2⟩:=hm e (Jq he)
  refine⟨_,rfl,p,C,dx,_,_,rfl,x2,x3.cl,x3.n1,oq _ _ _,_,rfl,_,_,rfl,rfl,_,rfl,?_⟩
  refine ite2 (fun c=>absurd (of_decide_eq_true c) (by omega)) (fun _=>?_)
  refine⟨_,rfl,p,C,dx,_,_,rfl,x2,x3.cl,x3.n2,uH _ _ _,_,rfl,_,_,rfl,rfl,_,rfl,?_⟩
  refine ite2 (fun c=>absurd (of_decide_eq_true c) (by omega)) (fun _=>?_)
  exact⟨_,rfl,rfl⟩
 ·rintro σ H2 ⟨v2,rfl,rfl⟩
  exact k
theorem cD:aE ["many","ties","turns","ending","number","tie"] ["many","ties","turns"] (ah bG):=⟨rfl,rfl,rfl,by decide +kernel,rfl,by decide +kernel,by decide +kernel⟩
theorem DY{f:Addr}{fd:FuncData} (F:Fun K "refuse_turns" "refuse_turns" bG f fd) (T:Txt mg):FnOk P w K mg base CX0 1 f fd ["many","ties","turns"] (rX K):=by
 refine F.ok cD (fun vs H Q E h=>?_) (fun cdv A outer s H vs Q E hr h=>?_)
 ·obtain⟨a,b,xs,zs,m,es,ts,rfl,_⟩:=h
  rfl
 obtain⟨a,b,xs,zs,m,es,ts,rfl,hS,hT,hB,hR,w',few,m40,kk⟩:=h
 have hu64:=hr.units
 refine⟨_,(af (lC (i:=3) rfl cD.nd rfl rfl (fr:=[]) (by exact bJ.plain (by rfl) (by decide +kernel) (by rfl) (by decide +kernel) (by rfl) (by decide +kernel)) (a9 rfl T.n_range (aa (pv 0) ag)) (fun C ex s H=>(bK ag)))
   (af (bW PassesOwn.never rfl (DQ rfl T.n_enumerate (aa (pv 1) ag)) (DR rfl (jb (aX (i:=4) cD.nd rfl (Or.inl rfl)) (jb (aX (i:=5) cD.nd rfl (Or.inl rfl)) yA))) (af (bp (ij JY Kq Ko bz (aD az (pv 3) (eF (pv 5) rfl) (fun _ _=>rfl)) (aa (pv 4) ag)))
   (ao (bp (ij JY Kq Ko bz (aD az (pv 3) (eF (pv 5) rfl) (fun _ _=>rfl)) (aa (pv 4) ag))))))
   (ao (bV (aF (op_neD hu64) (eG rfl (fr:=[]) (by exact bJ.plain (by rfl) (by decide +kernel) (by rfl) (by decide +kernel) (by rfl) (by decide +kernel)) (bx (pv 2)) (fun C ex s H=>(au (wN (K:=K) rfl) (by rfl) T.n_sorted pX (aa (pv 0) ag)))) (pv 3) (aN _)) (ao fg) aR)))),?_⟩
 refine⟨_,rfl,_,rfl,by omega,by omega,gB (n:=(m:Int).toNat) (fun i ys H2=>Same H H2/\bX (fun p=>H p≠none) H2 ys (K5 i [])/\Dist ys) (by rw[JC];exact Kk (ax (by omega))) ⟨fun _ _ e=>e,⟨rfl,fun i l e=>by simp at e⟩,fun i j p e=>by simp at e⟩ ?_ ?_⟩
 ·rintro i ys H2 hi ⟨s2,rx,D⟩
  refine⟨(by show 0<=sizeLine;decide),fun l hl=>?_⟩
  have s3:=aj hl (.lst [])
  refine⟨s2.trans s3,?_,EM rx D hl⟩
  rw[List.replicate_succ']
  refine(rx.mono fun b u _ z=>s3 _ _ z).snoc (fun z=>z ?_) ae
  cases y:H l with
  |none=>rfl
  |some o=>rw[s2 _ _ y]at hl;cases hl
 rintro ys H2 hyl ⟨s2,rx,D⟩ pn hpn
 rw[JC]at rx
 have s3:=aj hpn (.lst ys)
 have hpn0:H pn=none:=by
  cases y:H pn with
  |none=>rfl
  |some o=>rw[s2 _ _ y]at hpn;cases hpn
 have rx3:bX (fun p=>p=pn∨H p≠none) (upd H2 pn (.lst ys)) ys (K5 m []):=⟨rx.1,fun i l z=>by
  obtain⟨p,a1,a2,a3⟩:=rx.2 i l z
  have n2:p≠pn:=aK a3 hpn
  exact⟨p,a1,by rintro(y | y);exact n2 y;exact a2 y,s3 _ _ a3⟩⟩
 refine⟨_,rfl,a,rfl,⟨_,(s2.trans s3).seq hS⟩,Bc (K:=K) (xs:=xs) (fun i σ H5=>∃ v4 v5 rows,σ = [some (.int (m:Int)),some (.ref a),some (.ref b),some (.ref pn),v4,v5]/\Same H H5/\H5 pn=some (.lst ys)/\bX (fun p=>p=pn∨H p≠none) H5 ys rows/\bF m (es.take i) rows/\∀ r∈rows,r.Pairwise (· < ·))
  ⟨_,_,_,rfl,s2.trans s3,ae,rx3,Fp m,fun r hr=>by rw[(List.mem_replicate.mp hr).2];exact Mh⟩ (fun i σ H5 _ ⟨_,_,_,_,z,_⟩=>z.seq hS) ?_ ?_⟩
 ·rintro i x σ H5 T2 hx ⟨v4,v5,rows,rfl,s5,hpn5,rx5,w5,pw⟩ hT2
  have hi:i<es.length:=by rw[← hT.1];exact(Jo.mp hx).1
  obtain⟨e,he⟩:∃ e,es[i]?=some e:=⟨_,Jp hi⟩
  obtain⟨p,C,dx,st,x1,x2,x3⟩:=hT.2 i e he
  rw[hx]at x1
  cases x1
  have sT:=aj hT2 (.tup [.int (i:Int),.ref p])
  have s6:=s5.trans sT
  have x6:=s6 _ _ x2
  obtain⟨e1,e2,e3⟩:=w'.ends e (Jq he)
  have til:(es.take i).length=i:=by rw[JP];omega
  have rlen:=w5.len
  obtain⟨l,hl⟩:∃ l,rows[e.1]?=some l:=⟨_,Jp (by omega)⟩
  obtain⟨l',hl'⟩:∃ l,rows[e.2]?=some l:=⟨_,Jp (by omega)⟩
  have rx6:bX (fun p=>p=pn∨H p≠none) (upd H5 T2 (.tup [.int (i:Int),.ref p])) ys rows:=rx5.mono fun b u _ z=>sT _ _ z
  obtain⟨p1,y1,y2,y3⟩:=rx6.2 _ _ hl
  obtain⟨p2,z1,z2,z3⟩:=rx6.2 _ _ hl'
  have no_S:∀{p:Addr},¬ (p=pn∨H p≠none)->H p=none/\p≠pn:=fun{p} n=>by
   refine⟨?_,fun z=>n (.inl z)⟩
   cases y:H p with
   |none=>rfl
   |some o=>exact absurd (.inr (by rw[y];exact fun z=>nomatch z)) n
  obtain⟨hp1,np1⟩:=no_S y2
  obtain⟨hp2,np2⟩:=no_S z2
  have n12:p2≠p1:=fun y=>by rw[y]at z1;exact e3 (D _ _ p1 y1 z1)
  have ll:∀{q:Nat}{r:List Nat},rows[q]?=some r->∀ t∈r,t<i:=fun{q r} h t ht=>by
   have:=mH w5 h ht
   omega
  have lle:∀{q:Nat}{r:List Nat},rows[q]?=some r->r.length<=30:=fun{q r} h=>by
   have:=dz (w5.nd _ _ h) (ll h)
   omega
  have f1:=lle hl
  have f2:=lle hl'
  have hpn6:=sT _ _ hpn5
  refine⟨T2,_,rfl,SqT.of ae,rfl,_,_,rfl,_,_,rfl,rfl,?_⟩
  refine⟨_,rfl,_,rfl,p,C,dx,_,_,rfl,x6,x3.cl,x3.n1,oq _ _ _,pn,ys,_,_,rfl,rfl,SqL.of hpn6,ay y1,.inl ⟨rfl,_,SqL.of y3⟩,_,rfl,p1,_,_,rfl,rfl,y3,ax (by rw[Jr];omega),?_⟩
  have e1':(l.map iV)++[V.int (i:Int)]=(l++[i]).map iV:=by rw[JX];rfl
  rw[e1']
  have x7:(upd (upd H5 T2 (.tup [.int (i:Int),.ref p])) p1 (.lst ((l++[i]).map iV))) p=some (.ins C dx (tf (e.1:Int) (e.2:Int) st)):=by rw[ak (fun z=>by rw[z]at x2;rw[x2]at hp1;cases hp1)];exact x6
  have hpn7:(upd (upd H5 T2 (.tup [.int (i:Int),.ref p])) p1 (.lst ((l++[i]).map iV))) pn=some (.lst ys):=by rw[ak np1.symm];exact hpn6
  have z7:(upd (upd H5 T2 (.tup [.int (i:Int),.ref p])) p1 (.lst ((l++[i]).map iV))) p2=some (.lst (l'.map iV)):=by rw[ak n12];exact z3
  refine⟨_,rfl,_,rfl,p,C,dx,_,_,rfl,x7,x3.cl,x3.n2,uH _ _ _,pn,ys,_,_,rfl,rfl,SqL.of hpn7,ay z1,.inl ⟨rfl,_,SqL.of z7⟩,_,rfl,p2,_,_,rfl,rfl,z7,ax (by rw[Jr];omega),?_⟩
  have e2':(l'.map iV)++[V.int (i:Int)]=(l'++[i]).map iV:=by rw[JX];rfl
  rw[e2']
  refine⟨_,_,(rows.set e.1 (l++[i])).set e.2 (l'++[i]),rfl,bg (bg s6 hp1 _) hp2 _,by rw[ak np2.symm];exact hpn7,(rx6.set D y1).set D z1,?_,fun r hr=>?_⟩
  ·have q:=w5.put (k:=l.length) (j:=l'.length) e1 e2 e3 hl hl'
   rw[ED,ED,til]at q
   rw[Kv,he]
   exact q
  ·have app:∀{q:Nat}{r:List Nat},rows[q]?=some r->(r++[i]).Pairwise (· < ·):=fun{q r} h=>Kx.mpr ⟨pw r (Jq h),Mj _ _,fun x hx y hy=>by
    have:=ll h x hx
    have:y=i:=by simpa using hy
    omega⟩
   rcases Me hr with z | z
   ·rcases Me z with z | z
    ·exact pw r z
    ·rw[z];exact app hl
   ·rw[z];exact app hl'
 rintro σ H5 ⟨v4,v5,rows,rfl,s5,hpn5,rx5,w5,pw⟩
 rw[hT.1,KL]at w5
 have hzl:zs.length=m:=by rw[hR.1,w'.len]
 refine⟨_,rfl,b,rfl,⟨_,s5.seq hB⟩,cN (K:=K) (xs:=zs) (fun i vs H6=>Same H5 H6/\cz H6 vs (rows.take i)) (Kk (ax (by omega))) ⟨fun _ _ e=>e,rfl,fun i l e=>by simp at e⟩ (fun i vs H6 _ z=>(s5.trans z.1).seq hB) ?_ ?_⟩
 ·rintro i x vs H6 hx ⟨s6,rz⟩
  have hi:i<ts.length:=by rw[← hR.1];exact(Jo.mp hx).1
  obtain⟨l,hl⟩:∃ l,ts[i]?=some l:=⟨_,Jp hi⟩
  obtain⟨r,hr'⟩:∃ r,rows[i]?=some r:=⟨_,Jp (by rw[w5.len,← w'.len];exact hi)⟩
  obtain⟨p,a1,a2⟩:=(hR.mono (s5.trans s6)).2 i l hl
  rw[hx]at a1
  cases a1
  have hll:l.length<=30:=Ky (dz (w'.nd _ _ hl) fun t ht=>mH w' hl ht) few
  refine⟨_,rfl,p,cI l,rfl,(by rw[cI_V];exact SqL.of a2),(by unfold cI;rw[Jr];omega),fun q out hq hp hs=>?_⟩
  have eo:=HM hp hs (w'.nd _ _ hl) (pw r (Jq hr')) fun t=>(w'.mem i l hl t).trans (w5.mem i r hr' t).symm
  subst eo
  have s7:=aj hq (.lst ((cI r).map V.int))
  refine⟨s6.trans s7,?_⟩
  rw[show rows.take (i+1)=rows.take i++[r] by rw[Kv,hr'];rfl]
  exact(rz.mono s7).snoc (by rw[ae,cI_V])
 rintro vs H6 _ ⟨s6,rz⟩ D' hD'
 rw[hzl,← w5.len,KL]at rz
 have s7:=aj hD' (.lst vs)
 have s67:=s6.trans s7
 refine⟨_,rfl,_,DJ (SqL.of ae) (rz.mono s7),DJ (SqL.of (s67 _ _ hpn5)) (rx5.off.mono s67),yj rows,_,rfl,iteF ?_⟩
 exact kk _ (s5.trans s67)
theorem m9:aE ["many","ties"] ["many","ties"] (ah bu):=⟨rfl,rfl,rfl,by decide +kernel,rfl,by decide +kernel,by decide +kernel⟩
theorem F0{f fr:Addr}{fd fdr:FuncData} (F:Fun K "refuse_parted" "refuse_parted" bu f fd) (G_reached:Cal P w K mg base 1 "reached" ["start","pairs"] (xO K) fr fdr):FnOk P w K mg base CX0 2 f fd ["many","ties"] (xP K):=by
 refine F.ok m9 (fun vs H Q E h=>?_) (fun cdv A outer s H vs Q E hr h=>?_)
 ·obtain⟨a,xs,m,es,ts,rfl,_⟩:=h
  rfl
 obtain⟨a,xs,m,es,ts,rfl,hS,hT,g,m2,m40,few,kk⟩:=h
 have hul:xs.length=es.length:=hT.1
 refine⟨_,(ao (bV (aF nt (aA G_reached.ok (hr.mono (by decide)) rfl G_reached.mg G_reached.kp G_reached.bn .nil aY (aa ai (aa (eG rfl (fr:=[]) (by exact bJ.plain (by rfl) (by decide +kernel) (by rfl) (by decide +kernel) (by rfl) (by decide +kernel)) (bx (pv 1)) (fun C ex s H=>(jx (aa (DT (K:=K) rfl (pv 0) rfl) (aa (DT (K:=K) rfl (pv 0) rfl) ag))))) ag))) (av mD (av mF ai (pv 0)) ai) (aN _)) (ao fg) aR)),?_⟩
 refine⟨_,rfl,a,rfl,⟨_,hS⟩,cN (K:=K) (xs:=xs) (fun i zs H11=>Same H H11/\dQ H11 zs (es.take i)) (Kk (ax (by omega))) ⟨fun _ _ e=>e,rfl,fun i l e=>by simp at e⟩ (fun i zs H11 _ z=>z.1.seq hS) ?_ ?_⟩
 ·rintro i x zs H11 hx ⟨s11,ez⟩
  have hi:i<es.length:=by rw[← hT.1];exact(Jo.mp hx).1
  obtain⟨e,he⟩:∃ e,es[i]?=some e:=⟨_,Jp hi⟩
  obtain⟨p,C,dx,st,a1,a2,a3⟩:=(hT.mono s11).2 i e he
  rw[hx]at a1
  cases a1
  refine⟨_,rfl,p,C,dx,_,_,rfl,a2,a3.cl,a3.n1,oq _ _ _,_,rfl,p,C,dx,_,_,rfl,a2,a3.cl,a3.n2,uH _ _ _,(by show 2<=sizeLine;decide),fun g hg=>?_⟩
  have s12:=aj hg (.tup [iV e.1,iV e.2])
  refine⟨s11.trans s12,?_⟩
  rw[show es.take (i+1)=es.take i++[e] by rw[Kv,he];rfl]
  exact(ez.mono s12).snoc ae
 rintro zs H11 _ ⟨s11,ez⟩ D hD
 rw[hT.1,KL]at ez
 have s12:=aj hD (.lst zs)
 refine⟨D,zs,m,es,ts,rfl,SqL.of ae,ez.mono s12,g,m2,m40,_,rfl,_,_,rfl,rfl,⟨by omega,by omega,by decide⟩,_,_,rfl,rfl,rfl,_,rfl,?_⟩
 refine iteNS ?_ (kk _ (s11.trans s12))
 show V.int _=V.int _
 rw[shlN]
 have:=Nat.two_pow_pos m
 congr 1
 omega
end
end K8
namespace K8
open PySem L2
local macro_rules | `(tactic| walk_at "cc") => `(tactic| first | exact ⟨by decide, by decide⟩ | (show (0 : Int) < _; decide) | (show (0 : Int) < _; omega) | (show (0 : Int) ≤ _; omega) | exact ⟨by decide, by decide, by decide⟩ | exact ⟨by omega, by omega, by decide⟩ | exact Or.inl ⟨by decide, by decide⟩ | exact Or.inl ⟨by omega, by omega⟩)
local macro_rules | `(tactic| walk_at "rd") => `(tactic| repeat (first | refine ⟨_, rfl, ?_⟩ | refine ⟨_, _, rfl, rfl, ?_⟩ | refine ⟨rfl, ?_⟩ | (refine ⟨?cc, ?_⟩; (case cc => walk_at "cc"))))
def cls(PL PS:Addr)(push:Bool):Addr:=if push=true then PS else PL
def uD(PL PS:Addr)(H:Hp)(xs:List V)(es:En)(ks:Kn):Prop:=xs.length=es.length/\∀(i:Nat)(e:Nat×Nat)(k:Int×Int),es[i]?=some e->ks[i]?=some k->∃ p dx,xs[i]?=some (.ref p)/\H p=some (.ins (cls PL PS (decide (k.1=1))) dx (tf (e.1:Int) (e.2:Int) k.2))
theorem uD.mono{PL PS:Addr}{H H':Hp}{xs:List V}{es:En}{ks:Kn}(t:uD PL PS H xs es ks)(h:Same H H'):uD PL PS H' xs es ks:=⟨t.1,fun i e k q r=>by
 obtain⟨p,dx,a,b⟩:=t.2 i e k q r
 exact⟨p,dx,a,h _ _ b⟩⟩
structure CW(K:Js)(C:Addr):Prop where
 cl:Cls K C
 n1:fP K C "many"
 n2:fP K C "ties"
 n3:fP K C "turns"
 n4:fP K C "rounds"
 n5:fP K C "sides"
theorem ja(k:Str)(v:V):∀ fs:List (Str×V),(putF k v fs).length<=fs.length+1
 |[]=>Jw _
 | (a,b)::r=>by
  show(if a=k then(a,v)::r else(a,b)::putF k v r).length<=_
  have:=ja k v r
  split<;>simp only[J2]<;>omega
theorem none_of{H H':Hp}{b:Addr}(s:Same H H')(z:H' b=none):H b=none:=by
 cases y:H b with
 |none=>rfl
 |some o=>rw[s _ _ y]at z;cases z
structure WebG(S:Addr->Prop)(H:Hp)(fs:List (Str×V))(m:Nat)(es:En)(ts rs:List (List Nat)):Prop where
 many:fs.lookup ("many" : Str)=some (.int (m:Int))
 turns:∃ q z,fs.lookup ("turns" : Str)=some (.ref q)/\¬ S q/\H q=some (.lst z)/\bX S H z ts
 rounds:∃ q z,fs.lookup ("rounds" : Str)=some (.ref q)/\H q=some (.lst z)/\cz H z rs
 sides:∃ q z,fs.lookup ("sides" : Str)=some (.ref q)/\H q=some (.lst z)/\my H z es.length rs
 part:eY (fol es ts) (2*es.length) (2*es.length) rs
theorem my.mono{H H':Hp}{z:List V}{n:Nat}{rs:List (List Nat)}(h:my H z n rs)(s:Same H H'):my H' z n rs:=⟨h.1,fun i hi=>by
 obtain⟨t,a,b,r,r',y1,y2,y3⟩:=h.2 i hi
 exact⟨t,a,b,r,r',y1,s _ _ y2,y3⟩⟩
theorem WebG.mono{S S':Addr->Prop}{H H':Hp}{fs:List (Str×V)}{m:Nat}{es:En}{ts rs:List (List Nat)}(h:WebG S H fs m es ts rs)(s:Same H H')(i:∀ a,S' a->S a):WebG S' H' fs m es ts rs:=by
 obtain⟨a,⟨q,z,b1,b0,b2,b3⟩,⟨q',z',c1,c2,c3⟩,⟨q2,z2,d1,d2,d3⟩,e⟩:=h
 refine⟨a,⟨q,z,b1,fun y=>b0 (i _ y),s _ _ b2,b3.1,fun j l y=>?_⟩,⟨q',z',c1,s _ _ c2,c3.mono s⟩,⟨q2,z2,d1,s _ _ d2,d3.mono s⟩,e⟩
 obtain⟨r,y1,y2,y3⟩:=b3.2 j l y
 exact⟨r,y1,fun x=>y2 (i _ x),s _ _ y3⟩
def rV(K:Js):Sp:=fun vs H Q _=>∃(p C dx qt qh:Addr)(m:Nat)(xs zs:List V)(es:En)(ts:List (List Nat)),vs = [.ref p,.int (m:Int),.ref qt,.ref qh]/\H p=some (.ins C dx [])/\CW K C/\H qt=some (.lst xs)/\dP K H xs es/\H qh=some (.lst zs)/\cz H zs ts/\Gr m es ts/\0<es.length/\es.length<=30 /\
 ∀(fs:List (Str×V))(q1:Addr)(rs:List (List Nat))(H':Hp),H' p=some (.ins C dx fs)->WebG (fun a=>H a≠none) H' fs m es ts rs->H q1=none->fs.lookup ("ties" : Str)=some (.ref q1)->H' q1=some (.lst xs)->(∀ q o,H q=some o->q≠p->H' q=some o)->Q .non H'
theorem dP.keep{K:Js}{H G:Hp}{xs:List V}{es:En}{p C dx:Addr}(t:dP K H xs es)(hp:H p=some (.ins C dx []))(k:∀ q u,q≠p->H q=some u->G q=some u):dP K G xs es:=⟨t.1,fun i e z=>by
 obtain⟨q,C',dx',s,a,b,d⟩:=t.2 i e z
 refine⟨q,C',dx',s,a,k _ _ (fun z=>?_) b,d⟩
 rw[z,hp]at b
 have e1:([]:List (Str×V))=tf (e.1:Int) (e.2:Int) s:=by
  injection b with b
  injection b
 have e2:=oq (e.1:Int) (e.2:Int) s
 rw[← e1]at e2
 cases e2⟩
section
variable{P:Program}{w:World}{K:Js}{mg:Str->Option Value}{base:Heap}
theorem ko:aE ["self","many","ties","turns","rounds"] ["self","many","ties","turns"] (ah cq):=⟨rfl,rfl,rfl,by decide +kernel,rfl,by decide +kernel,by decide +kernel⟩
theorem FW{f f1 f2 f3 f4 f5:Addr}{fd d1 d2 d3 d4 d5:FuncData} (F:Fun K "__init__" "Web.__init__" cq f fd) (T:Txt mg) (G_refuse_ends:Cal P w K mg base 1 "refuse_ends" ["many","ties"] (xQ K) f1 d1) (G_refuse_turns:Cal P w K mg base 1 "refuse_turns" ["many","ties","turns"] (rX K) f2 d2) (G_refuse_parted:Cal P w K mg base 2 "refuse_parted" ["many","ties"] (xP K) f3 d3) (G_rounds_of:Cal P w K mg base 4 "rounds_of" ["ties","turns"] (rW K) f4 d4) (G_sides_of:Cal P w K mg base 1 "sides_of" ["ties","rounds"] (xM K) f5 d5) :
  FnOk P w K mg base CX0 5 f fd ["self","many","ties","turns"] (rV K):=by
 refine F.ok ko (fun vs H Q E h=>?_) (fun cdv A outer s H vs Q E hr h=>?_)
 ·obtain⟨p,C,dx,qt,qh,m,xs,zs,es,ts,rfl,_⟩:=h
  rfl
 obtain⟨p,C,dx,qt,qh,m,xs,zs,es,ts,rfl,hp,cw,hqt,hT,hqh,hR,g,e0,few,kk⟩:=h
 have w':=g.w
 have m2:=g.two e0
 have mf:=we g
 have hul:xs.length=es.length:=hT.1
 have hzl:zs.length=m:=by rw[hR.1,w'.len]
 have pl:∀{q:Addr}{ys:List V},H q=some (.lst ys)->q≠p:=fun{q ys} h z=>by rw[z,hp]at h;cases h
 refine⟨_,(af (bp (aA G_refuse_ends.ok (hr.mono (by decide)) rfl G_refuse_ends.mg G_refuse_ends.kp G_refuse_ends.bn .nil aY (aa (pv 1) (aa (pv 2) ag))))
   (af (bp (aA G_refuse_turns.ok (hr.mono (by decide)) rfl G_refuse_turns.mg G_refuse_turns.kp G_refuse_turns.bn .nil aY (aa (pv 1) (aa (pv 2) (aa (pv 3) ag)))))
   (af (bp (aA G_refuse_parted.ok (hr.mono (by decide)) rfl G_refuse_parted.mg G_refuse_parted.kp G_refuse_parted.bn .nil aY (aa (pv 1) (aa (pv 2) ag))))
   (af (ar (i:=4) ko.nd rfl (Or.inl rfl) (aA G_rounds_of.ok (hr.mono (by decide)) rfl G_rounds_of.mg G_rounds_of.kp G_rounds_of.bn .nil aY (aa (pv 2) (aa (pv 3) ag))))
   (af (bV (aF nt (av bA (av mD (pv 1) (au aq (by rfl) T.n_len a8 (aa (pv 2) ag))) (au aq (by rfl) T.n_len a8 (aa (pv 4) ag))) ai (aN _)) (ao fg) aR)
   (af (mC (pv 0) (pv 1) rfl)
   (af (mC (pv 0) (gy fM (by rfl) T.n_list iS (aa (pv 2) ag)) rfl)
   (af (mC (pv 0) (eG rfl (fr:=[]) (by exact bJ.plain (by rfl) (by decide +kernel) (by rfl) (by decide +kernel) (by rfl) (by decide +kernel)) (bx (pv 3)) (fun C ex s H=>(gy (rC (K:=K) rfl) (by rfl) T.n_list iS (aa (pv 0) ag)))) rfl)
   (af (mC (pv 0) (pv 4) rfl)
   (ao (mC (pv 0) (aA G_sides_of.ok (hr.mono (by decide)) rfl G_sides_of.mg G_sides_of.kp G_sides_of.bn .nil aY (aa (pv 2) (aa (pv 4) ag))) rfl))))))))))),?_⟩
 refine⟨_,rfl,_,rfl,qt,xs,m,es,rfl,SqL.of hqt,hT,fun e he=>⟨(w'.ends e he).1,(w'.ends e he).2.1⟩,?_⟩
 refine⟨_,rfl,_,rfl,_,rfl,qt,qh,xs,zs,m,es,ts,rfl,SqL.of hqt,hT,SqL.of hqh,hR,w',few,by omega,fun H1 s1=>?_⟩
 refine⟨_,rfl,_,rfl,qt,xs,m,es,ts,rfl,SqL.of (s1 _ _ hqt),hT.mono s1,g,m2,by omega,few,fun H2 s2=>?_⟩
 have s12:=s1.trans s2
 refine⟨_,rfl,_,rfl,qt,qh,m,es,ts,rfl,⟨⟨xs,SqL.of (s12 _ _ hqt),hT.mono s12⟩,⟨zs,SqL.of (s12 _ _ hqh),hR.mono s12⟩,w',by omega⟩,fun qr vs rs H3 s3 hqr hrs ro=>?_⟩
 have s13:=s12.trans s3
 have cnt:m+rs.length=es.length+2:=by
  obtain⟨rs',p',c⟩:=g.part
  rw[← p'.same ro.part]
  exact c
 have hvl:vs.length=rs.length:=hrs.1
 refine⟨_,rfl,_,rfl,qt,xs,rfl,.inl (SqL.of (s13 _ _ hqt)),_,_,rfl,rfl,_,rfl,qr,vs,rfl,.inl (SqL.of hqr),_,_,rfl,rfl,rfl,_,rfl,?_⟩
 refine iteNS (congrArg V.int (by omega)) ?_
 have hp3:=s13 _ _ hp
 refine⟨_,rfl,_,rfl,p,C,dx,[],rfl,hp3,cw.cl,cw.n1,(by show 0<1000;decide),?_⟩
 have keep:∀{G:Hp}{o:HO}{q:Addr}{u:HO},q≠p->G q=some u->(upd G p o) q=some u:=fun n z=>by rw[ak n];exact z
 refine⟨_,rfl,qt,xs,rfl,.inl (SqL.of (keep (pl hqt) (s13 _ _ hqt))),fun q1 hq1=>?_⟩
 have n1p:q1≠p:=fun z=>by rw[z,ae]at hq1;cases hq1
 have t4:=aj hq1 (.lst xs)
 refine⟨_,rfl,p,C,dx,_,rfl,t4 _ _ ae,cw.cl,cw.n2,?_,?_⟩
 ·have:=ja "many" (.int (m:Int)) ([]:List (Str×V));simp only[Lo]at this;omega
 have t1:∀ q u,q≠p->H3 q=some u->(upd (upd (upd H3 p (.ins C dx (putF "many" (.int (m:Int)) []))) q1 (.lst xs)) p (.ins C dx (putF "ties" (.ref q1) (putF "many" (.int (m:Int)) [])))) q=some u:=fun q u n z=>keep n (t4 _ _ (keep n z))
 have q1a:(upd (upd (upd H3 p (.ins C dx (putF "many" (.int (m:Int)) []))) q1 (.lst xs)) p (.ins C dx (putF "ties" (.ref q1) (putF "many" (.int (m:Int)) [])))) q1=some (.lst xs):=keep n1p ae
 have pa:(upd (upd (upd H3 p (.ins C dx (putF "many" (.int (m:Int)) []))) q1 (.lst xs)) p (.ins C dx (putF "ties" (.ref q1) (putF "many" (.int (m:Int)) [])))) p=some (.ins C dx (putF "ties" (.ref q1) (putF "many" (.int (m:Int)) []))):=ae
 generalize upd (upd (upd H3 p (.ins C dx (putF "many" (.int (m:Int)) []))) q1 (.lst xs)) p (.ins C dx (putF "ties" (.ref q1) (putF "many" (.int (m:Int)) [])))=H4 at t1 q1a pa
 have lk:(putF "ties" (.ref q1) (putF "many" (.int (m:Int)) []):List (Str×V)).lookup ("ties" : Str)=some (.ref q1):=by rw[aw,if_pos rfl]
 have ln:(putF "ties" (.ref q1) (putF "many" (.int (m:Int)) []):List (Str×V)).length<=2:=by
  have a1:=ja "many" (.int (m:Int)) ([]:List (Str×V))
  have a2:=ja "ties" (.ref q1) (putF "many" (.int (m:Int)) ([]:List (Str×V)))
  simp only[Lo]at a1
  omega
 have lkm:(putF "ties" (.ref q1) (putF "many" (.int (m:Int)) []):List (Str×V)).lookup ("many" : Str)=some (.int (m:Int)):=by rw[aw,if_neg (by decide +kernel),aw,if_pos rfl]
 generalize (putF "ties" (.ref q1) (putF "many" (.int (m:Int)) []):List (Str×V))=fs at pa lk ln lkm
 have hqh4:=t1 _ _ (pl hqh) (s13 _ _ hqh)
 have new4:∀{b:Addr},H4 b=none->H b=none:=fun{b} z=>by
  cases y:H b with
  |none=>rfl
  |some o =>
   by_cases n:b=p
   ·rw[n,pa]at z;cases z
   ·rw[t1 _ _ n (s13 _ _ y)]at z;cases z
 have new1:H q1=none:=by
  cases y:H q1 with
  |none=>rfl
  |some o=>rw[keep n1p (s13 _ _ y)]at hq1;cases hq1
 refine⟨_,rfl,qh,rfl,⟨_,SqL.of hqh4⟩,cN (K:=K) (xs:=zs) (fun i ys H5=>Same H4 H5/\bX (fun a=>H a≠none) H5 ys (ts.take i)) (Kk (ax (by omega))) ⟨fun _ _ e=>e,rfl,fun i l e=>by simp at e⟩ (fun i _ H5 _ z=>SqL.of (z.1 _ _ hqh4)) ?_ ?_⟩
 ·rintro i x ys H5 hx ⟨s5,rz⟩
  have hi:i<ts.length:=by rw[← hR.1];exact(Jo.mp hx).1
  obtain⟨l,hl⟩:∃ l,ts[i]?=some l:=⟨_,Jp hi⟩
  obtain⟨r,a1,a2⟩:=hR.2 i l hl
  rw[hx]at a1
  cases a1
  refine⟨_,rfl,r,_,rfl,.inl (SqL.of (s5 _ _ (t1 _ _ (pl a2) (s13 _ _ a2)))),fun g hg=>⟨s5.trans (aj hg _),?_⟩⟩
  rw[show ts.take (i+1)=ts.take i++[l] by rw[Kv,hl];rfl]
  exact(rz.mono fun b u _ z=>aj hg _ _ _ z).snoc (fun z=>z (new4 (none_of s5 hg))) ae
 rintro ys H5 _ ⟨s5,rz⟩ D hD
 rw[hR.1,KL]at rz
 have hDp:D≠p:=fun z=>by rw[z,s5 _ _ pa]at hD;cases hD
 have s6:=s5.trans (aj hD (.lst ys))
 refine⟨_,rfl,p,C,dx,fs,rfl,s6 _ _ pa,cw.cl,cw.n3,by omega,?_⟩
 have ln1:=ja "turns" (.ref D) fs
 have lk1:(putF "turns" (.ref D) fs).lookup ("ties" : Str)=some (.ref q1):=by rw[aw,if_neg (by decide +kernel)];exact lk
 refine⟨_,rfl,_,rfl,p,C,dx,_,rfl,ae,cw.cl,cw.n4,by omega,?_⟩
 have ln2:=ja "rounds" (.ref qr) (putF "turns" (.ref D) fs)
 have lk2:(putF "rounds" (.ref qr) (putF "turns" (.ref D) fs)).lookup ("ties" : Str)=some (.ref q1):=by rw[aw,if_neg (by decide +kernel)];exact lk1
 have t7:∀ q u,q≠p->H3 q=some u->(upd (upd (upd H5 D (.lst ys)) p (.ins C dx (putF "turns" (.ref D) fs))) p (.ins C dx (putF "rounds" (.ref qr) (putF "turns" (.ref D) fs)))) q=some u:=fun q u n z=>keep n (keep n (s6 _ _ (t1 q u n z)))
 have q17:(upd (upd (upd H5 D (.lst ys)) p (.ins C dx (putF "turns" (.ref D) fs))) p (.ins C dx (putF "rounds" (.ref qr) (putF "turns" (.ref D) fs)))) q1=some (.lst xs):=keep n1p (keep n1p (s6 _ _ q1a))
 have p7:(upd (upd (upd H5 D (.lst ys)) p (.ins C dx (putF "turns" (.ref D) fs))) p (.ins C dx (putF "rounds" (.ref qr) (putF "turns" (.ref D) fs)))) p=some (.ins C dx (putF "rounds" (.ref qr) (putF "turns" (.ref D) fs))):=ae
 have D7:(upd (upd (upd H5 D (.lst ys)) p (.ins C dx (putF "turns" (.ref D) fs))) p (.ins C dx (putF "rounds" (.ref qr) (putF "turns" (.ref D) fs)))) D=some (.lst ys):=keep hDp (keep hDp ae)
 have u7:∀ q u,q≠p->H5 q=some u->(upd (upd (upd H5 D (.lst ys)) p (.ins C dx (putF "turns" (.ref D) fs))) p (.ins C dx (putF "rounds" (.ref qr) (putF "turns" (.ref D) fs)))) q=some u:=fun q u n z=>keep n (keep n (aj hD _ _ _ z))
 generalize upd (upd (upd H5 D (.lst ys)) p (.ins C dx (putF "turns" (.ref D) fs))) p (.ins C dx (putF "rounds" (.ref qr) (putF "turns" (.ref D) fs)))=H7 at t7 q17 p7 D7 u7
 have pl3:∀{q:Addr}{ys:List V},H3 q=some (.lst ys)->q≠p:=fun{q ys} h z=>by rw[z,hp3]at h;cases h
 have rs7:cz H7 vs rs:=⟨hrs.1,fun i l z=>by
  obtain⟨r,a1,a2⟩:=hrs.2 i l z
  exact⟨r,a1,t7 _ _ (pl3 a2) a2⟩⟩
 have T7:dP K H7 xs es:=(hT.mono s13).keep hp3 t7
 refine⟨_,rfl,_,rfl,qt,qr,xs,vs,es,_,rs,rfl,SqL.of (t7 _ _ (pl hqt) (s13 _ _ hqt)),T7,by omega,SqL.of (t7 _ _ (pl3 hqr) hqr),rs7,ro,fun q5 z5 H8 s8 hq5 hs5=>?_⟩
 refine⟨_,rfl,p,C,dx,_,rfl,s8 _ _ p7,cw.cl,cw.n5,by omega,?_⟩
 have n5p:q5≠p:=fun z=>by rw[z,s8 _ _ p7]at hq5;cases hq5
 have hqr7:=t7 _ _ (pl3 hqr) hqr
 refine kk _ q1 rs _ ae ⟨?_,⟨D,ys,?_,fun z=>z (new4 (none_of s5 hD)),keep hDp (s8 _ _ D7),rz.1,fun i l z=>?_⟩,⟨qr,vs,?_,keep (pl3 hqr) (s8 _ _ hqr7),hrs.1,fun i l z=>?_⟩,⟨q5,z5,?_,keep n5p hq5,hs5.1,fun i hi=>?_⟩,ro⟩ new1 (by rw[aw,if_neg (by decide +kernel)];exact lk2) (keep n1p (s8 _ _ q17)) fun q o z n=>keep n (s8 _ _ (t7 q o n (s13 _ _ z)))
 ·rw[aw,if_neg (by decide +kernel),aw,if_neg (by decide +kernel),aw,if_neg (by decide +kernel)]
  exact lkm
 ·rw[aw,if_neg (by decide +kernel),aw,if_neg (by decide +kernel),aw,if_pos rfl]
 ·obtain⟨r,a1,a0,a2⟩:=rz.2 i l z
  have nr:r≠p:=fun z=>by rw[z,s5 _ _ pa]at a2;cases a2
  exact⟨r,a1,a0,keep nr (s8 _ _ (u7 r _ nr a2))⟩
 ·rw[aw,if_neg (by decide +kernel),aw,if_pos rfl]
 ·obtain⟨r,a1,a2⟩:=hrs.2 i l z
  exact⟨r,a1,keep (pl3 a2) (s8 _ _ (t7 _ _ (pl3 a2) a2))⟩
 ·rw[aw,if_pos rfl]
 ·obtain⟨t,a,b,r,r',y1,y2,y3⟩:=hs5.2 i hi
  exact⟨t,a,b,r,r',y1,keep (fun z=>by rw[z,s8 _ _ p7]at y2;cases y2) y2,y3⟩
theorem uD.at{PL PS:Addr}{H:Hp}{xs:List V}{es:En}{ks:Kn}(t:uD PL PS H xs es ks)(kl:ks.length=es.length)(TL:CT K PL)(TS:CT K PS):dP K H xs es:=⟨t.1,fun i e z=>by
 have hi:=(Jo.mp z).1
 obtain⟨k,hk⟩:∃ k,ks[i]?=some k:=⟨_,Jp (by omega)⟩
 obtain⟨p,dx,a,b⟩:=t.2 i e k z hk
 refine⟨p,_,dx,k.2,a,b,?_⟩
 unfold cls
 split
 ·exact TS
 ·exact TL⟩
def WebF(S:Addr->Prop)(PL PS WC:Addr)(H:Hp)(p:Addr)(m:Nat)(es:En)(ts rs:List (List Nat))(ks:Kn):Prop:=∃ dx fs q1 xs,H p=some (.ins WC dx fs)/\WebG S H fs m es ts rs/\¬ S q1/\fs.lookup ("ties" : Str)=some (.ref q1)/\H q1=some (.lst xs)/\uD PL PS H xs es ks
def xS(PL PS WC:Addr):Sp:=fun vs H Q _=>∃(t pe pt pr pk:Addr)(m:Nat)(es:En)(ts:List (List Nat))(ks:Kn),vs = [.ref t,.ref pk]/\H t=some (.tup [.ref pe,.ref pt,.ref pr])/\WebP H pe pt m es ts/\(∃ ws,H pk=some (.lst ws)/\iZ H ws ks)/\es.length<=30/\ks.length=es.length/\0<es.length /\
 ∀(p:Addr)(rs:List (List Nat))(H':Hp),Same H H'->WebF (fun a=>H a≠none) PL PS WC H' p m es ts rs ks->Q (.ref p) H'
theorem i7:aE ["grown","kinds","ties","k","end"] ["grown","kinds"] (ah gp):=⟨rfl,rfl,rfl,by decide +kernel,rfl,by decide +kernel,by decide +kernel⟩
theorem Ik{f fI PL PS WC fW:Addr}{fd fdI fdW:FuncData} (F:Fun K "_law_web" "_law_web" gp f fd) (T:Txt mg) (M_Pull:Mak P w K mg base 1 "Pull" ["self","one","two","strength"] (qT K) PL fI fdI) (M_Push:Mak P w K mg base 1 "Push" ["self","one","two","strength"] (qT K) PS fI fdI) (TL:CT K PL) (TS:CT K PS)
  (M_Web:Mak P w K mg base 5 "Web" ["self","many","ties","turns"] (rV K) WC fW fdW) (cw:CW K WC):FnOk P w K mg base CX0 7 f fd ["grown","kinds"] (xS PL PS WC):=by
 refine F.ok i7 (fun vs H Q E h=>?_) (fun cdv A outer s H vs Q E hr h=>?_)
 ·obtain⟨t,pe,pt,pr,pk,m,es,ts,ks,rfl,_⟩:=h
  rfl
 obtain⟨t,pe,pt,pr,pk,m,es,ts,ks,rfl,ht,⟨⟨ys,hpe,hE⟩,⟨xs,hpt,hR⟩,g⟩,⟨ws,hpk,tk⟩,few,kl,e0',kk⟩:=h
 have hwl:ws.length=es.length:=by rw[tk.1,kl]
 have hyl:ys.length=es.length:=hE.1
 have mf:=we g
 have hxm:xs.length=m:=by rw[hR.1,g.w.len]
 refine⟨_,(af (ar (i:=2) i7.nd rfl (Or.inl rfl) (bK ag))
   (af (bW PassesOwn.never rfl (a9 rfl T.n_range (aa (au aq (by rfl) T.n_len a8 (aa (pv 1) ag)) ag)) (aX (i:=3) i7.nd rfl (Or.inl rfl)) (af (ar (i:=4) i7.nd rfl (Or.inl rfl) (aD az (aD aW (pv 0) ai (fun _ _=>rfl)) (pv 3) (fun _ _=>rfl)))
   (ao (bV (aF oI (aD aW (aD az (pv 1) (pv 3) (fun _ _=>rfl)) ai (fun _ _=>rfl)) ai (aN _)) (ao (bp (ij JY Kq Ko bz (pv 2) (aa (yE M_Push.mkc M_Push.ok (hr.mono (by decide)) rfl M_Push.mg M_Push.bn .nil aY (aa (aD aW (pv 4) ai (fun _ _=>rfl)) (aa (aD aW (pv 4) ai (fun _ _=>rfl)) (aa (aD aW (aD az (pv 1) (pv 3) (fun _ _=>rfl)) ai (fun _ _=>rfl)) ag)))) ag)))) (ao (bp (ij JY Kq Ko bz (pv 2) (aa (yE M_Pull.mkc M_Pull.ok (hr.mono (by decide)) rfl M_Pull.mg M_Pull.bn .nil aY (aa (aD aW (pv 4) ai (fun _ _=>rfl)) (aa (aD aW (pv 4) ai (fun _ _=>rfl)) (aa (aD aW (aD az (pv 1) (pv 3) (fun _ _=>rfl)) ai (fun _ _=>rfl)) ag)))) ag))))))))
   (ao (aM (yE M_Web.mkc M_Web.ok (hr.mono (by decide)) rfl M_Web.mg M_Web.bn .nil aY (aa (au aq (by rfl) T.n_len a8 (aa (aD aW (pv 0) ai (fun _ _=>rfl)) ag)) (aa (pv 2) (aa (eG rfl (fr:=[]) (by exact bJ.plain (by rfl) (by decide +kernel) (by rfl) (by decide +kernel) (by rfl) (by decide +kernel)) (bx (aD aW (pv 0) ai (fun _ _=>rfl))) (fun C ex s H=>(gy (rC (K:=K) rfl) (by rfl) T.n_list iS (aa (pv 0) ag)))) ag)))))))),?_⟩
 refine⟨(by show 0<=sizeLine;decide),fun q hq=>?_⟩
 have s1:=aj hq (.lst [])
 refine⟨_,rfl,pk,ws,rfl,.inl (SqL.of (s1 _ _ hpk)),_,rfl,by omega,by omega,cK (n:=(ws.length:Int).toNat) (fun i σ H2=>∃ v2 v3 us,σ = [some (.ref t),some (.ref pk),some (.ref q),v2,v3]/\Same H H2/\H2 q=some (.lst us)/\uD PL PS H2 us (es.take i) ks) ⟨_,_,[],rfl,s1,ae,rfl,fun i e k z=>by simp at z⟩ ?_ ?_⟩
 ·rintro i σ H2 hi ⟨v2,v3,us,rfl,s2,hq2,tt⟩
  rw[JC,hwl]at hi
  have e0:(0:Int)+(i:Int)=(i:Int):=K9 _
  rw[e0]
  obtain⟨e,he⟩:∃ e,es[i]?=some e:=⟨_,Jp hi⟩
  obtain⟨k,hk⟩:∃ k,ks[i]?=some k:=⟨_,Jp (by omega)⟩
  obtain⟨_,_,ne⟩:=g.w.ends e (Jq he)
  obtain⟨p,x1,x2⟩:=(hE.mono s2).2 i e he
  obtain⟨k1,k2,pk',y1,y2⟩:=(tk.mono s2).2 i k hk
  have ul:us.length=i:=by rw[tt.1,JP];omega
  refine⟨_,rfl,t,_,0,_,rfl,rfl,SqT.of (s2 _ _ ht),at30,_,rfl,pe,ys,_,_,rfl,rfl,SqL.of (s2 _ _ hpe),ay x1,?_⟩
  refine⟨_,rfl,_,rfl,pk,ws,_,_,rfl,rfl,SqL.of (s2 _ _ hpk),ay y1,pk',_,0,_,rfl,rfl,SqT.of y2,at0,rfl,_,rfl,?_⟩
  have fin:∀(x dx:Addr)(H':Hp),Same H2 H'->H' x=some (.ins (cls PL PS (decide (k.1=1))) dx (tf (e.1:Int) (e.2:Int) k.2))->∃ v2 v3 zs,([some (.ref t),some (.ref pk),some (.ref q),some (.int (i:Int)),some (.ref p)]:St) = [some (.ref t),some (.ref pk),some (.ref q),v2,v3]/\Same H (upd H' q (.lst (us++[.ref x])))/\(upd H' q (.lst (us++[.ref x]))) q=some (.lst zs)/\uD PL PS (upd H' q (.lst (us++[.ref x]))) zs (es.take (i+1)) ks:=fun x dx H' s4 h1=>by
   refine⟨_,_,_,rfl,bg (s2.trans s4) hq _,ae,by rw[Jt,ul,JP];simp;omega,fun j e' k' hj hk'=>?_⟩
   have hqn:∀{b:Addr}{C dx:Addr}{fs:List (Str×V)},H' b=some (.ins C dx fs)->b≠q:=fun z y=>by rw[y,s4 _ _ hq2]at z;cases z
   rw[Ll]at hj
   by_cases z:j<i
   ·rw[if_pos (by omega)]at hj
    obtain⟨p',dx',a1,a2⟩:=(tt.mono s4).2 j e' k' (by rw[Ll,if_pos z];exact hj) hk'
    exact⟨p',dx',by rw[Jx (by omega)];exact a1,by rw[ak (hqn a2)];exact a2⟩
   ·by_cases z2:j=i
    ·subst z2
     rw[if_pos (by omega),he]at hj
     cases hj
     rw[hk]at hk'
     cases hk'
     exact⟨x,dx,by rw[← ul,Jv (Jw _),JV];rfl,by rw[ak (hqn h1)];exact h1⟩
    ·rw[if_neg (by omega)]at hj
     cases hj
  refine ite2 (fun c=>?_) (fun c=>?_)
  ·have c':k.1=1:=V.int.inj (of_decide_eq_true c)
   refine⟨_,rfl,.inl ⟨rfl,_,SqL.of hq2⟩,_,rfl,p,_,0,_,rfl,rfl,SqT.of x2,at0,_,rfl,p,_,1,_,rfl,rfl,SqT.of x2,at1,_,rfl,_,rfl,pk,ws,_,_,rfl,rfl,SqL.of (s2 _ _ hpk),ay y1,pk',_,1,_,rfl,rfl,SqT.of y2,at1,?_⟩
   intro x dx nx ndx nex
   refine⟨x,PS,dx,_,_,_,rfl,ae,TS,by omega,by omega,by omega,k2,fun H' h1 h2=>?_⟩
   have s4:Same H2 H':=fun b o z=>h2 b o (by rw[ak (aK z nx),ak (aK z ndx)];exact z) (aK z nx)
   refine⟨rfl,q,us,_,rfl,rfl,s4 _ _ hq2,ax (by omega),fin x dx H' s4 ?_⟩
   rw[decide_eq_true c']
   exact h1
  ·have c':¬ k.1=1:=fun z=>c (decide_eq_true (by rw[z]))
   refine⟨_,rfl,.inl ⟨rfl,_,SqL.of hq2⟩,_,rfl,p,_,0,_,rfl,rfl,SqT.of x2,at0,_,rfl,p,_,1,_,rfl,rfl,SqT.of x2,at1,_,rfl,_,rfl,pk,ws,_,_,rfl,rfl,SqL.of (s2 _ _ hpk),ay y1,pk',_,1,_,rfl,rfl,SqT.of y2,at1,?_⟩
   intro x dx nx ndx nex
   refine⟨x,PL,dx,_,_,_,rfl,ae,TL,by omega,by omega,by omega,k2,fun H' h1 h2=>?_⟩
   have s4:Same H2 H':=fun b o z=>h2 b o (by rw[ak (aK z nx),ak (aK z ndx)];exact z) (aK z nx)
   refine⟨rfl,q,us,_,rfl,rfl,s4 _ _ hq2,ax (by omega),fin x dx H' s4 ?_⟩
   rw[decide_eq_false c']
   exact h1
 rintro σ H2 ⟨v2,v3,us,rfl,s2,hq2,tt⟩
 rw[JC,hwl,KL]at tt
 have hpt2:=s2 _ _ hpt
 refine⟨_,rfl,t,_,1,_,rfl,rfl,SqT.of (s2 _ _ ht),at31,pt,xs,rfl,.inl (SqL.of hpt2),_,rfl,_,rfl,t,_,1,_,rfl,rfl,SqT.of (s2 _ _ ht),at31,pt,rfl,⟨_,SqL.of hpt2⟩,cN (K:=K) (xs:=xs) (fun i zs H3=>Same H2 H3/\cz H3 zs (ts.take i)) (Kk (ax (by omega))) ⟨fun _ _ e=>e,rfl,fun i l e=>by simp at e⟩ (fun i zs H3 _ z=>SqL.of (z.1 _ _ hpt2)) ?_ ?_⟩
 ·rintro i x zs H3 hx ⟨s3,rz⟩
  have hi:i<ts.length:=by rw[← hR.1];exact(Jo.mp hx).1
  obtain⟨l,hl⟩:∃ l,ts[i]?=some l:=⟨_,Jp hi⟩
  obtain⟨p,a1,a2⟩:=(hR.mono (s2.trans s3)).2 i l hl
  rw[hx]at a1
  cases a1
  refine⟨_,rfl,p,_,rfl,.inl (SqL.of a2),fun g hg=>?_⟩
  have s4:=aj hg (.lst (l.map iV))
  refine⟨s3.trans s4,?_⟩
  rw[show ts.take (i+1)=ts.take i++[l] by rw[Kv,hl];rfl]
  exact(rz.mono s4).snoc ae
 rintro zs H3 _ ⟨s3,rz⟩ D hD
 rw[hR.1,KL]at rz
 have s4:=aj hD (.lst zs)
 have s24:=s3.trans s4
 intro x dx nx ndx nex
 have up:∀ b o,(upd H3 D (.lst zs)) b=some o->(upd (upd (upd H3 D (.lst zs)) dx (.own x)) x (.ins WC dx [])) b=some o:=fun b o z=>by rw[ak (aK z nx),ak (aK z ndx)];exact z
 refine⟨x,WC,dx,q,D,m,us,zs,es,ts,(by rw[hxm];rfl),ae,cw,up _ _ (s24 _ _ hq2),((tt.at kl TL TS).mono s24).mono up,up _ _ ae,(rz.mono s4).mono up,g,e0',by omega,fun fs q1 rs H' h1 hg hn h2 h3 h4=>⟨rfl,?_⟩⟩
 have s5:Same H2 H':=fun b o z=>h4 b o (up _ _ (s24 _ _ z)) (aK (s24 _ _ z) nx)
 have up0:∀ a,H a≠none->(upd (upd (upd H3 D (.lst zs)) dx (.own x)) x (.ins WC dx [])) a≠none:=fun a z y=>z (by
  cases u:H a with
  |none=>rfl
  |some o=>rw[up _ _ (s24 _ _ (s2 _ _ u))]at y;cases y)
 exact kk x rs H' (s2.trans s5) ⟨dx,fs,q1,us,h1,hg.mono (fun _ _ z=>z) up0,fun z=>up0 _ z hn,h2,h3,tt.mono s5⟩
end
end K8
namespace K8
open PySem L2
local macro_rules | `(tactic| walk_at "cc") => `(tactic| first | exact ⟨by decide, by decide⟩ | (show (0 : Int) < _; decide) | (show (0 : Int) < _; omega) | (show (0 : Int) ≤ _; omega) | exact ⟨by decide, by decide, by decide⟩ | exact ⟨by omega, by omega, by decide⟩ | exact Or.inl ⟨by decide, by decide⟩ | exact Or.inl ⟨by omega, by omega⟩)
local macro_rules | `(tactic| walk_at "rd") => `(tactic| repeat (first | refine ⟨_, rfl, ?_⟩ | refine ⟨_, _, rfl, rfl, ?_⟩ | refine ⟨rfl, ?_⟩ | (refine ⟨?cc, ?_⟩; (case cc => walk_at "cc"))))
theorem Hu:bootBuiltins "sum" = some (.builtin "sum"):=by decide +kernel
theorem pe_or{X:Cx}{e:Expr}{t1 t2:TE}(h1:PE X e t1)(h2:PE X e t2):PE X e (fun σ H Q=>t1 σ H Q∨t2 σ H Q):=fun pins s σ H Q I h=>h.elim (h1 pins s σ H Q I) (h2 pins s σ H Q I)
def bit(l a:Int):Int:=l/2^a.toNat%2
theorem Df(x y:Int):Builtin.bitAnd (Builtin.bitXor x y) 1=(x%2+y%2)%2:=by
 have e:Builtin.bitAnd (Builtin.bitXor x y) 1=Builtin.bitXor x y%2:=PySem.W.kbt_mask _ 1
 rw[e,PyProof.Rows.bitXor_and]
 omega
def unp(push:Bool)(a b l:Int):Bool:=!decide (V.int ((bit l a+bit l b)%2)=V.int (if push=true then 1 else 0))
def uJ(push:Bool):Sp:=fun vs H Q _=>∃ p,vs = [.ref p]/\Q (.int (if push=true then 1 else 0)) H
def TieAt(H:Hp)(p C:Addr)(a b s:Int):Prop:=∃ dx,H p=some (.ins C dx (tf a b s))
def AG(C:Addr)(push:Bool):Sp:=fun vs H Q _=>∃ p a b s l,vs = [.ref p,.int l]/\TieAt H p C a b s/\0<=a/\0<=b/\Q (.bl (unp push a b l)) H
def ow(C:Addr)(push:Bool):Sp:=fun vs H Q _=>∃ p a b s l,vs = [.ref p,.int l]/\TieAt H p C a b s/\0<=a/\0<=b/\Q (.int (if unp push a b l=true then s else 0)) H
def U(es:En)(ks:Kn)(l:Int)(t:Nat):Bool:=match es[t]?,ks[t]? with | some e,some k=>unp (decide (k.1=1)) (e.1:Int) (e.2:Int) l | _,_=>false
theorem U_at{es:En}{ks:Kn}{l:Int}{t:Nat}{e:Nat×Nat}{k:Int×Int}(h1:es[t]?=some e)(h2:ks[t]?=some k):U es ks l t=unp (decide (k.1=1)) (e.1:Int) (e.2:Int) l:=by unfold U;rw[h1,h2]
def stg(ks:Kn)(t:Nat):Int:=match ks[t]? with | some k=>k.2 | none=>0
def prL(ks:Kn)(u:Nat->Bool)(i:Nat):List Int:=(KO i).map fun t=>if u t=true then stg ks t else 0
theorem AR(ks:Kn)(u:Nat->Bool)(i:Nat):prL ks u (i+1)=prL ks u i++[if u i=true then stg ks i else 0]:=by
 unfold prL
 rw[Mv,JX]
 rfl
theorem bitN(N a:Nat):bit (N:Int) (a:Int)=if N.testBit a=true then 1 else 0:=by
 unfold bit
 rw[JC,Nat.testBit_eq_decide_div_mod_eq]
 have e:((N:Int)/2^a%2)=((N/2^a%2:Nat):Int):=by
  rw[Int.natCast_emod,Int.natCast_ediv,Int.natCast_pow]
  rfl
 rw[e]
 by_cases z:N/2^a%2=1
 ·rw[z,decide_eq_true rfl];rfl
 ·rw[decide_eq_false z]
  have:N/2^a%2=0:=by omega
  rw[this]
  rfl
theorem xa(m n:Nat):(m^^^n)+2*(m&&&n)=m+n:=by
 have h:=PyProof.Rows.nat_or_add_and m n
 have h2:(m|||n)=(m^^^n)+(m&&&n):=by
  have e:(m^^^n)+(m&&&n)=(m^^^n)|||(m&&&n):=by
   have q:=PyProof.Rows.nat_or_add_and (m^^^n) (m&&&n)
   have z:(m^^^n)&&&(m&&&n)=0:=by
    apply LD
    intro i
    simp only[Ms,M5,Mm]
    cases m.testBit i<;>cases n.testBit i<;>rfl
   omega
  rw[e]
  apply LD
  intro i
  simp only[Ms,M5,MG]
  cases m.testBit i<;>cases n.testBit i<;>rfl
 omega
theorem xorN(a b:Nat):Builtin.bitXor (a:Int) (b:Int)=((a^^^b:Nat):Int):=by
 rw[PyProof.Rows.bitXor_and,andN]
 have q:=xa a b
 omega
structure Ff(PL PS WC:Addr)(H:Hp)(p:Addr)(es:En)(ks:Kn):Prop where
 w:∃ dx fs q1 xs,H p=some (.ins WC dx fs)/\fs.lookup ("ties" : Str)=some (.ref q1)/\H q1=some (.lst xs)/\uD PL PS H xs es ks
 kl:ks.length=es.length
 few:es.length<=30
theorem Ff.mono{PL PS WC:Addr}{H H':Hp}{p:Addr}{es:En}{ks:Kn}(h:Ff PL PS WC H p es ks)(s:Same H H'):Ff PL PS WC H' p es ks:=by
 obtain⟨⟨dx,fs,q1,xs,a,b,c,d⟩,k,f⟩:=h
 exact⟨⟨dx,fs,q1,xs,s _ _ a,b,s _ _ c,d.mono s⟩,k,f⟩
def Dt(PL PS WC:Addr):Sp:=fun vs H Q _=>∃(p:Addr)(es:En)(ks:Kn)(l:Int),vs = [.ref p,.int l]/\Ff PL PS WC H p es ks/\∀ H',Same H H'->Q (.int (prL ks (U es ks l) es.length).sum) H'
section
variable{P:Program}{w:World}{K:Js}{mg:Str->Option Value}{base:Heap}
theorem yf:aE ["self"] ["self"] (ah eB):=⟨rfl,rfl,rfl,by decide +kernel,rfl,by decide +kernel,by decide +kernel⟩
theorem FV{f:Addr}{fd:FuncData} (F:Fun K "wish" "Tie.wish" eB f fd):FnOk P w K mg base CX0 1 f fd ["self"] (uJ false):=by
 refine F.ok yf (fun vs H Q E h=>?_) (fun cdv A outer s H vs Q E hr h=>?_)
 ·obtain⟨p,rfl,_⟩:=h
  rfl
 obtain⟨p,rfl,k⟩:=h
 exact⟨_,(ao (aM ai)),k⟩
theorem uZ:aE ["self"] ["self"] (ah c6):=⟨rfl,rfl,rfl,by decide +kernel,rfl,by decide +kernel,by decide +kernel⟩
theorem FU{f:Addr}{fd:FuncData} (F:Fun K "wish" "Push.wish" c6 f fd):FnOk P w K mg base CX0 1 f fd ["self"] (uJ true):=by
 refine F.ok uZ (fun vs H Q E h=>?_) (fun cdv A outer s H vs Q E hr h=>?_)
 ·obtain⟨p,rfl,_⟩:=h
  rfl
 obtain⟨p,rfl,k⟩:=h
 exact⟨_,(ao (aM ai)),k⟩
theorem so:aE ["found"] ["found"] (ah cn):=⟨rfl,rfl,rfl,by decide +kernel,rfl,by decide +kernel,by decide +kernel⟩
theorem D1{f:Addr}{fd:FuncData} (F:Fun K "_law_number" "_law_number" cn f fd) (T:Txt mg):FnOk P w K mg base CX0 1 f fd ["found"] Dy:=by
 refine F.ok so (fun vs H Q E h=>?_) (fun cdv A outer s H vs Q E hr h=>?_)
 ·obtain⟨i,rfl,_⟩:=h
  rfl
 obtain⟨i,rfl,k⟩:=h
 refine⟨_,(ao (aM (Hj (au kW (by rfl) T.n_isinstance cO (aa (pv 0) (aa (oG (v:=.ty "int") rfl T.n_int bt_int rfl) ag))) (Hh (pe_not (au kW (by rfl) T.n_isinstance cO (aa (pv 0) (aa (oG (v:=.ty "bool") rfl T.n_bool Jf rfl) ag)))))))),?_⟩
 refine⟨_,rfl,_,_,_,_,_,rfl,TyOf.int i,Or.inl ⟨_,rfl,rfl⟩,kit_ii K,_,rfl,iteT ?_⟩
 exact⟨_,rfl,_,_,_,_,_,rfl,TyOf.int i,Or.inl ⟨_,rfl,rfl⟩,kit_ib K,_,rfl,k⟩
theorem hX:aE ["self","laying","unlike"] ["self","laying"] (ah bw):=⟨rfl,rfl,rfl,by decide +kernel,rfl,by decide +kernel,by decide +kernel⟩
theorem DW{f C fw:Addr}{fd fdw:FuncData}{push:Bool} (F:Fun K "unpleased" "Tie.unpleased" bw f fd) (T:CT K C) (m_wish:Met P w K mg base 1 C "wish" ["self"] (uJ push) fw fdw):FnOk P w K mg base CX0 2 f fd ["self","laying"] (AG C push):=by
 refine F.ok hX (fun vs H Q E h=>?_) (fun cdv A outer s H vs Q E hr h=>?_)
 ·obtain⟨p,a,b,s,l,rfl,_⟩:=h
  rfl
 obtain⟨p,a,b,st,l,rfl,⟨dx,hp⟩,ha,hb,k⟩:=h
 have CL:=T.cl
 refine⟨_,(af (ar (i:=2) hX.nd rfl (Or.inl rfl) (av AY (av vm (av AX (pv 1) (eF (pv 0) rfl)) (av AX (pv 1) (eF (pv 0) rfl))) ai))
   (ao (aM (sP nt (pv 2) (FL (pv 0) CL m_wish.me m_wish.ok (hr.mono (by decide)) m_wish.bn .nil aY) (aN _))))),?_⟩
 refine⟨_,rfl,_,rfl,p,C,dx,_,_,rfl,hp,T.cl,T.n1,oq _ _ _,_,_,rfl,rfl,ha,?_⟩
 refine⟨_,rfl,_,rfl,p,C,dx,_,_,rfl,hp,T.cl,T.n2,uH _ _ _,_,_,rfl,rfl,hb,?_⟩
 refine⟨_,_,rfl,rfl,_,_,rfl,rfl,?_⟩
 refine⟨_,rfl,_,rfl,p,dx,_,rfl,hp,Fq _ _ _ (by decide +kernel) (by decide +kernel) (by decide +kernel),p,rfl,?_⟩
 refine⟨rfl,?_⟩
 have e:=Df (l/2^a.toNat) (l/2^b.toNat)
 have k':Q (V.bl (unp push a b l)) H:=k
 unfold unp bit at k'
 rw[← e]at k'
 exact k'
theorem uY:aE ["self","laying"] ["self","laying"] (ah c5):=⟨rfl,rfl,rfl,by decide +kernel,rfl,by decide +kernel,by decide +kernel⟩
theorem AZ{f C fw:Addr}{fd fdw:FuncData}{push:Bool} (F:Fun K "price" "Tie.price" c5 f fd) (T:CT K C) (m_unpleased:Met P w K mg base 2 C "unpleased" ["self","laying"] (AG C push) fw fdw):FnOk P w K mg base CX0 3 f fd ["self","laying"] (ow C push):=by
 refine F.ok uY (fun vs H Q E h=>?_) (fun cdv A outer s H vs Q E hr h=>?_)
 ·obtain⟨p,a,b,s,l,rfl,_⟩:=h
  rfl
 obtain⟨p,a,b,st,l,rfl,⟨dx,hp⟩,ha,hb,k⟩:=h
 have CL:=T.cl
 refine⟨_,(ao (aM (sO (jw (yD (pv 0) CL m_unpleased.me m_unpleased.ok (hr.mono (by decide)) m_unpleased.bn .nil aY (aa (pv 1) ag))) (eF (pv 0) rfl) ai))),?_⟩
 refine⟨_,rfl,p,dx,_,rfl,hp,Fq _ _ _ (by decide +kernel) (by decide +kernel) (by decide +kernel),_,rfl,p,a,b,st,l,rfl,⟨dx,hp⟩,ha,hb,_,rfl,?_⟩
 refine ite2 (fun c=>?_) (fun c=>?_)
 ·refine⟨_,rfl,p,C,dx,_,_,rfl,hp,T.cl,T.n3,tf_str _ _ _,?_⟩
  rw[if_pos c]at k
  exact k
 ·rw[if_neg c]at k
  exact k
theorem Fy:aE ["web","laying"] ["web","laying"] (ah ly):=⟨rfl,rfl,rfl,by decide +kernel,rfl,by decide +kernel,by decide +kernel⟩
theorem Ih{f PL PS WC f0 f1:Addr}{fd d0 d1:FuncData} (F:Fun K "worth" "worth" ly f fd) (T:Txt mg) (cw:CW K WC) (TL:CT K PL) (TS:CT K PS) (r0:Met P w K mg base 3 PL "price" ["self","laying"] (ow PL false) f0 d0) (r1:Met P w K mg base 3 PS "price" ["self","laying"] (ow PS true) f1 d1) :
  FnOk P w K mg base CX0 4 f fd ["web","laying"] (Dt PL PS WC):=by
 refine F.ok Fy (fun vs H Q E h=>?_) (fun cdv A outer s H vs Q E hr h=>?_)
 ·obtain⟨p,es,ks,l,rfl,_⟩:=h
  rfl
 obtain⟨p,es,ks,l,rfl,⟨⟨dx,fs,q1,xs,hp,hlk,hq1,tk⟩,kl,few⟩,kk⟩:=h
 have CL0:=TL.cl
 have CL1:=TS.cl
 have hxl:xs.length=es.length:=tk.1
 refine⟨_,(ao (aM (au (Bq rfl) (by rfl) T.n_sum Hu (aa (eG rfl (fr:=[("laying",1)]) (by exact bJ.one (by rfl) (by decide +kernel) (by rfl) (by decide +kernel) (by rfl) (by decide +kernel) (by rfl) (by rfl) (by decide +kernel) (by rfl)) (bx (eF (pv 0) rfl)) (fun C ex s H=>(pe_or (yD (pv 0) CL0 r0.me r0.ok (hr.mono (by decide)) r0.bn .nil aY (aa (pv 1) ag)) (yD (pv 0) CL1 r1.me r1.ok (hr.mono (by decide)) r1.bn .nil aY (aa (pv 1) ag))))) ag)))),?_⟩
 refine⟨_,rfl,p,WC,dx,fs,_,rfl,hp,cw.cl,cw.n2,hlk,q1,rfl,⟨_,SqL.of hq1⟩,cN (K:=K) (xs:=xs) (fun i ys H2=>H2=H/\ys=(prL ks (U es ks l) i).map V.int) (Kk (ax (by omega))) ⟨rfl,rfl⟩ (fun i ys H2 _ z=>z.1▸SqL.of hq1) ?_ ?_⟩
 ·rintro i x ys H2 hx ⟨rfl,rfl⟩
  have hi:i<es.length:=by rw[← tk.1];exact(Jo.mp hx).1
  obtain⟨e,he⟩:∃ e,es[i]?=some e:=⟨_,Jp hi⟩
  obtain⟨k,hk⟩:∃ k,ks[i]?=some k:=⟨_,Jp (by omega)⟩
  obtain⟨p',dx',x1,x2⟩:=tk.2 i e k he hk
  rw[hx]at x1
  cases x1
  have hU:=U_at (l:=l) he hk
  have hs:stg ks i=k.2:=by unfold stg;rw[hk]
  have tail:∀ v:Int,v=(if U es ks l i=true then stg ks i else 0)->H2=H2/\(prL ks (U es ks l) i).map V.int++[V.int v]=(prL ks (U es ks l) (i+1)).map V.int:=fun v hv=>by
   rw[AR,← hv,JX]
   exact⟨rfl,rfl⟩
  by_cases c:k.1=1
  ·rw[decide_eq_true c]at x2 hU
   refine .inr ⟨_,rfl,p',dx',_,rfl,x2,Fq _ _ _ (by decide +kernel) (by decide +kernel) (by decide +kernel),_,rfl,p',_,_,_,l,rfl,⟨dx',x2⟩,by omega,by omega,?_⟩
   exact tail _ (by rw[hU,hs])
  ·rw[decide_eq_false c]at x2 hU
   refine .inl ⟨_,rfl,p',dx',_,rfl,x2,Fq _ _ _ (by decide +kernel) (by decide +kernel) (by decide +kernel),_,rfl,p',_,_,_,l,rfl,⟨dx',x2⟩,by omega,by omega,?_⟩
   exact tail _ (by rw[hU,hs])
 ·rintro ys H2 _ ⟨rfl,rfl⟩ D hD
  rw[hxl]
  exact⟨D,_,rfl,SqL.of ae,kk _ (aj hD _)⟩
end
end K8
namespace K8
open PySem L2
local macro_rules | `(tactic| walk_at "cc") => `(tactic| first | exact ⟨by decide, by decide⟩ | (show (0 : Int) < _; decide) | (show (0 : Int) < _; omega) | (show (0 : Int) ≤ _; omega) | exact ⟨by decide, by decide, by decide⟩ | exact ⟨by omega, by omega, by decide⟩ | exact Or.inl ⟨by decide, by decide⟩ | exact Or.inl ⟨by omega, by omega⟩)
local macro_rules | `(tactic| walk_at "rd") => `(tactic| repeat (first | refine ⟨_, rfl, ?_⟩ | refine ⟨_, _, rfl, rfl, ?_⟩ | refine ⟨rfl, ?_⟩ | (refine ⟨?cc, ?_⟩; (case cc => walk_at "cc"))))
def FF(ks:Kn)(t:Nat):Bool:=match ks[t]? with | some k=>decide (k.1=1) | none=>false
def UN(es:En)(ks:Kn)(L t:Nat):Bool:=match es[t]? with | some e=>(L.testBit e.1 ^^ L.testBit e.2 ^^ FF ks t) | none=>false
theorem UN_at{es:En}{ks:Kn}{L t:Nat}{e:Nat×Nat}(h:es[t]?=some e):UN es ks L t=(L.testBit e.1 ^^ L.testBit e.2 ^^ FF ks t):=by unfold UN;rw[h]
theorem AQ{ks:Kn}{t:Nat}{k:Int×Int}(h:ks[t]?=some k):FF ks t=decide (k.1=1):=by unfold FF;rw[h]
theorem stg_at{ks:Kn}{t:Nat}{k:Int×Int}(h:ks[t]?=some k):stg ks t=k.2:=by unfold stg;rw[h]
def wS(es:En)(ks:Kn)(L:Nat):Nat->Int
 |0=>0
 |i+1=>if UN es ks L i=true then wS es ks L i+stg ks i else wS es ks L i
def wT(es:En)(ks:Kn)(L:Nat):Int:=wS es ks L es.length
def aZ(es:En)(ks:Kn)(m:Nat):List Int:=(KO (2^m)).map (wT es ks)
theorem jt(es:En)(ks:Kn)(m:Nat):(aZ es ks m).length=2^m:=by unfold aZ;rw[Jr,LC]
theorem pI{es:En}{ks:Kn}{m L:Nat}(h:L<2^m):(aZ es ks m)[L]?=some (wT es ks L):=by unfold aZ;rw[Jy,LJ h];rfl
theorem xorI{a b:Nat}(L:Nat):Builtin.bitAnd (Builtin.bitXor ((L:Int)/2^((a:Nat):Int).toNat) ((L:Int)/2^((b:Nat):Int).toNat)) 1=if(L.testBit a ^^ L.testBit b)=true then 1 else 0:=by
 rw[Df]
 have h1:=bitN L a
 have h2:=bitN L b
 unfold bit at h1 h2
 rw[h1,h2]
 cases L.testBit a<;>cases L.testBit b<;>rfl
theorem UN_is{es:En}{ks:Kn}{L k:Nat}{e:Nat×Nat}{kk:Int×Int}(he:es[k]?=some e)(hk:ks[k]?=some kk)(k1:kk.1=0∨kk.1=1):(!decide (V.int (if(L.testBit e.1 ^^ L.testBit e.2)=true then 1 else 0)=V.int kk.1))=UN es ks L k:=by
 rw[UN_at he,AQ hk]
 rcases k1 with z | z
 ·rw[z]
  cases L.testBit e.1<;>cases L.testBit e.2<;>rfl
 ·rw[z]
  cases L.testBit e.1<;>cases L.testBit e.2<;>rfl
theorem kr{m:Nat}(h:m<=10):(0:Int)<((2^m:Nat):Int)/\((2^m:Nat):Int)<=1024/\(2:Nat)^m<=1024/\0<2^m:=by
 have p2:(2:Nat)^m<=2^10:=MB (by decide) h
 have e:(2:Nat)^10=1024:=by decide
 rw[e]at p2
 have p0:0<2^m:=Nat.two_pow_pos m
 exact⟨by omega,by omega,p2,p0⟩
def HJ(K:Js):Sp:=fun vs H Q _=>∃(pe pk:Addr)(ys ws:List V)(es:En)(ks:Kn)(L:Nat),vs = [.ref pe,.ref pk,.int (L:Int)]/\SqL K H pe ys/\dQ H ys es/\SqL K H pk ws/\iZ H ws ks/\ks.length=es.length/\es.length<=900/\Q (.int (wT es ks L)) H
def xV:Sp:=fun vs H Q _=>∃(t pe pt pr pk:Addr)(m:Nat)(es:En)(ts:List (List Nat))(ks:Kn),vs = [.ref t,.ref pk]/\H t=some (.tup [.ref pe,.ref pt,.ref pr])/\WebP H pe pt m es ts/\(∃ ws,H pk=some (.lst ws)/\iZ H ws ks)/\ks.length=es.length/\es.length<=900/\m<=10/\∀(q:Addr)(H':Hp),Same H H'->H q=none->H' q=some (.lst ((aZ es ks m).map V.int))->Q (.ref q) H'
section
variable{P:Program}{w:World}{K:Js}{mg:Str->Option Value}{base:Heap}
theorem du:aE ["ends","kinds","laying","found","k","unlike"] ["ends","kinds","laying"] (ah cU):=⟨rfl,rfl,rfl,by decide +kernel,rfl,by decide +kernel,by decide +kernel⟩
theorem FT{f:Addr}{fd:FuncData} (F:Fun K "_law_worth" "_law_worth" cU f fd) (T:Txt mg):FnOk P w K mg base CX0 1 f fd ["ends","kinds","laying"] (HJ K):=by
 refine F.ok du (fun vs H Q E h=>?_) (fun cdv A outer s H vs Q E hr h=>?_)
 ·obtain⟨pe,pk,ys,ws,es,ks,L,rfl,_⟩:=h
  rfl
 obtain⟨pe,pk,ys,ws,es,ks,L,rfl,hpe,hE,hpk,tk,kl,e9,kk⟩:=h
 have hyl:ys.length=es.length:=hE.1
 refine⟨_,(af (ar (i:=3) du.nd rfl (Or.inl rfl) ai)
   (af (bW PassesOwn.never rfl (a9 rfl T.n_range (aa (au aq (by rfl) T.n_len a8 (aa (pv 0) ag)) ag)) (aX (i:=4) du.nd rfl (Or.inl rfl)) (af (ar (i:=5) du.nd rfl (Or.inl rfl) (av AY (av vm (av AX (pv 2) (aD aW (aD az (pv 0) (pv 4) (fun _ _=>rfl)) ai (fun _ _=>rfl))) (av AX (pv 2) (aD aW (aD az (pv 0) (pv 4) (fun _ _=>rfl)) ai (fun _ _=>rfl)))) ai))
   (ao (bV (aF nt (pv 5) (aD aW (aD az (pv 1) (pv 4) (fun _ _=>rfl)) ai (fun _ _=>rfl)) (aN _)) (ao (ar (i:=3) du.nd rfl (Or.inl rfl) (av bA (pv 3) (aD aW (aD az (pv 1) (pv 4) (fun _ _=>rfl)) ai (fun _ _=>rfl))))) aR))))
   (ao (aM (pv 3))))),?_⟩
 refine⟨_,rfl,pe,ys,rfl,.inl hpe,_,rfl,by omega,by omega,cK (n:=(ys.length:Int).toNat) (fun i σ H2=>∃(v4 v5:Option V),σ = [some (.ref pe),some (.ref pk),some (.int (L:Int)),some (.int (wS es ks L i)),v4,v5]/\H2=H) ⟨_,_,rfl,rfl⟩ ?_ ?_⟩
 ·rintro k σ H2 hk ⟨v4,v5,rfl,rfl⟩
  rw[JC,hyl]at hk
  have e0:(0:Int)+(k:Int)=(k:Int):=K9 _
  rw[e0]
  obtain⟨e,he⟩:∃ e,es[k]?=some e:=⟨_,Jp hk⟩
  obtain⟨kk',hk'⟩:∃ x,ks[k]?=some x:=⟨_,Jp (by omega)⟩
  obtain⟨p,x1,x2⟩:=hE.2 k e he
  obtain⟨k1,k2,pk',y1,y2⟩:=tk.2 k kk' hk'
  refine⟨_,rfl,_,rfl,_,rfl,pe,ys,_,_,rfl,rfl,hpe,ay x1,p,_,0,_,rfl,rfl,SqT.of x2,at0,_,_,rfl,rfl,(show(0:Int)<=(e.1:Int) by omega),_,rfl,_,rfl,_,rfl,pe,ys,_,_,rfl,rfl,hpe,ay x1,p,_,1,_,rfl,rfl,SqT.of x2,at1,_,_,rfl,rfl,(show(0:Int)<=(e.2:Int) by omega),_,_,rfl,rfl,_,_,rfl,rfl,?_⟩
  dsimp only
  rw[xorI]
  refine⟨_,rfl,_,rfl,_,rfl,pk,ws,_,_,rfl,rfl,hpk,ay y1,pk',_,0,_,rfl,rfl,SqT.of y2,at0,rfl,_,rfl,ite2 (fun c=>?_) (fun c=>?_)⟩
  ·have cu:UN es ks L k=true:=(UN_is he hk' k1).symm.trans c
   refine⟨_,rfl,_,rfl,_,rfl,pk,ws,_,_,rfl,rfl,hpk,ay y1,pk',_,1,_,rfl,rfl,SqT.of y2,at1,_,_,rfl,rfl,?_⟩
   refine⟨some (.int (k:Int)),some (.int (if(L.testBit e.1 ^^ L.testBit e.2)=true then 1 else 0)),?_,rfl⟩
   have h1:wS es ks L (k+1)=wS es ks L k+kk'.2:=by
    show(if UN es ks L k=true then _ else _)=_
    rw[if_pos cu,stg_at hk']
   rw[h1]
   rfl
  ·have cu:¬ UN es ks L k=true:=fun z=>c ((UN_is he hk' k1).trans z)
   refine⟨some (.int (k:Int)),some (.int (if(L.testBit e.1 ^^ L.testBit e.2)=true then 1 else 0)),?_,rfl⟩
   have h1:wS es ks L (k+1)=wS es ks L k:=by
    show(if UN es ks L k=true then _ else _)=_
    rw[if_neg cu]
   rw[h1]
   rfl
 ·rintro σ H2 ⟨v4,v5,rfl,rfl⟩
  rw[JC,hyl]
  exact⟨_,rfl,kk⟩
theorem uX:aE ["grown","kinds"] ["grown","kinds"] (ah cZ):=⟨rfl,rfl,rfl,by decide +kernel,rfl,by decide +kernel,by decide +kernel⟩
theorem F6{f fw:Addr}{fd dw:FuncData} (F:Fun K "_law_costs" "_law_costs" cZ f fd) (T:Txt mg) (G_law_worth:Cal P w K mg base 1 "_law_worth" ["ends","kinds","laying"] (HJ K) fw dw):FnOk P w K mg base CX0 2 f fd ["grown","kinds"] xV:=by
 refine F.ok uX (fun vs H Q E h=>?_) (fun cdv A outer s H vs Q E hr h=>?_)
 ·obtain⟨t,pe,pt,pr,pk,m,es,ts,ks,rfl,_⟩:=h
  rfl
 obtain⟨t,pe,pt,pr,pk,m,es,ts,ks,rfl,ht,⟨⟨ys,hpe,hE⟩,⟨xs,hpt,hR⟩,g⟩,⟨ws,hpk,tk⟩,kl,e9,m10,kk⟩:=h
 have hxl:xs.length=m:=by rw[hR.1,g.w.len]
 obtain⟨q1,q2,q3,q4⟩:=kr m10
 refine⟨_,(ao (aM (AU rfl (fr:=[("kinds",1),("grown",0)]) (xs:=["laying"]) (uE.of (by rfl) (by decide +kernel) (by rfl) (by decide +kernel) (by intro p hp;simp only[Ju,KG,or_false]at hp;rcases hp with rfl | rfl<;>exact⟨rfl,rfl⟩) (by decide +kernel) (by intro p hp;simp only[Ju,KG,or_false]at hp;rcases hp with rfl | rfl<;>rfl)) (a9 rfl T.n_range (aa (av mF ai (au aq (by rfl) T.n_len a8 (aa (aD aW (pv 0) ai (fun _ _=>rfl)) ag))) ag)) (fun C ex s H=>(aX (i:=0) (show(["laying","kinds","grown"]:List Str).Nodup from by decide +kernel) rfl (Or.inl rfl))) (fun C ex s H=>HX) (fun C ex s H=>(aA G_law_worth.ok (hr.mono (by decide)) rfl G_law_worth.mg G_law_worth.kp G_law_worth.bn .nil aY (aa (aD (IK (K:=K) rfl) (pv 2) ai (fun _ _=>rfl)) (aa (pv 1) (aa (pv 0) ag)))))))),?_⟩
 have esh:(1:Int)*2^((xs.length:Int)).toNat=((2^m:Nat):Int):=by rw[hxl];exact shlN m
 refine⟨_,rfl,t,_,1,_,rfl,rfl,SqT.of ht,at31,pt,xs,rfl,.inl (SqL.of hpt),_,_,rfl,rfl,⟨by omega +splitDisjunctions,by omega +splitDisjunctions,by decide⟩,((2^m:Nat):Int),congrArg (fun z=>[V.int z]) esh,by omega +splitDisjunctions,by omega +splitDisjunctions,zY (k:=((2^m:Nat):Int).toNat) (fun i zs H2=>H2=H/\zs=((KO i).map (wT es ks)).map V.int) (by rw[JC];exact Ky q3 (by decide)) ⟨rfl,rfl⟩ ?_ ?_ ?_⟩
 ·rintro i zs H2 hi ⟨rfl,rfl⟩
  rw[K9]
  refine⟨rfl,yesT ?_⟩
  refine⟨_,rfl,t,_,0,_,rfl,rfl,SqT.of ht,at30,_,rfl,_,rfl,pe,pk,ys,ws,es,ks,i,rfl,SqL.of hpe,hE,SqL.of hpk,tk,kl,e9,rfl,?_⟩
  rw[Mv,JX,JX]
  rfl
 ·rintro zs H2 ⟨rfl,rfl⟩ D hD
  rw[JC]
  exact kk D _ (aj hD _) hD ae
 ·rintro i zs H2 ⟨_,rfl⟩
  rw[Jr,Jr,LC]
  exact Jw _
end
end K8
namespace K8
open PySem L2
local macro_rules | `(tactic| walk_at "cc") => `(tactic| first | exact ⟨by decide, by decide⟩ | (show (0 : Int) < _; decide) | (show (0 : Int) < _; omega) | (show (0 : Int) ≤ _; omega) | exact ⟨by decide, by decide, by decide⟩ | exact ⟨by omega, by omega, by decide⟩ | exact Or.inl ⟨by decide, by decide⟩ | exact Or.inl ⟨by omega, by omega⟩)
local macro_rules | `(tactic| walk_at "rd") => `(tactic| repeat (first | refine ⟨_, rfl, ?_⟩ | refine ⟨_, _, rfl, rfl, ?_⟩ | refine ⟨rfl, ?_⟩ | (refine ⟨?cc, ?_⟩; (case cc => walk_at "cc"))))
theorem FO{X:Cx}{x:Str}{n:Int}{pos:Pos}(hg:Gl X x)(hm:∃ t,X.mg x=some (.int n t)) (hd:(x == ("__debug__" : Str))=false:=by decide):PE X (.Name x pos) (tC (.int n)):=by
 obtain⟨t,h⟩:=hm
 exact Ic hg h ⟨t,rfl⟩ hd
inductive Rc(m:Nat)(R:Nat->Nat->Bool)(s:Nat):Nat->Prop
 |base:Rc m R s s
 |step {x p:Nat}:Rc m R s x->p<m->R x (x^^^2^p)=true->Rc m R s (x^^^2^p)
abbrev Ls:=List (Nat×Option Nat)
structure Come(m:Nat)(R:Nat->Nat->Bool)(s:Nat)(L:Ls):Prop where
 hd:L[0]?=some (s,none)
 nd:(L.map (·.1)).Nodup
 lt:∀ n∈L.map (·.1),n<2^m
 par:∀(i n:Nat)(o:Option Nat),L[i]?=some (n,o)->0<i->∃(j x:Nat)(o':Option Nat)(p:Nat),j<i/\L[j]?=some (x,o')/\o=some x/\p<m/\n=x^^^2^p/\R x n=true
def Done(m:Nat)(R:Nat->Nat->Bool)(L:Ls)(n:Nat):Prop:=∀ p,p<m->R n (n^^^2^p)=true->n^^^2^p∈L.map (·.1)
theorem lU{m x p:Nat}(hx:x<2^m)(hp:p<m):x^^^2^p<2^m:=Nat.xor_lt_two_pow hx (Nat.pow_lt_pow_right (by decide) hp)
theorem Come.one{m:Nat}{R:Nat->Nat->Bool}{s:Nat}(h:s<2^m):Come m R s [(s,none)] :=
 ⟨rfl,Jz.mpr ⟨KG,K6⟩,fun n hn=>by rw[JI.mp hn];exact h,fun i n o e h0=>by
  match i,e,h0 with
  |i+1,e,_=>cases e⟩
theorem Come.snoc{m:Nat}{R:Nat->Nat->Bool}{s:Nat}{L:Ls}(h:Come m R s L){x p:Nat}(hx:x∈L.map (·.1))(hp:p<m)(hR:R x (x^^^2^p)=true)(hn:x^^^2^p∉L.map (·.1)):Come m R s (L++[(x^^^2^p,some x)]):=by
 obtain⟨⟨x',o'⟩,hm,rfl⟩:=Kb.mp hx
 obtain⟨j,hj⟩:=Kd.mp hm
 have jl:=(Jo.mp hj).1
 have l0:0<L.length:=(Jo.mp h.hd).1
 refine⟨by rw[Jx l0];exact h.hd,?_,fun n hn'=>?_,fun i n o e h0=>?_⟩
 ·rw[JX]
  refine JE.mpr ⟨h.nd,Jz.mpr ⟨KG,K6⟩,fun a ha b hb e=>?_⟩
  rw[JI.mp hb]at e
  have e':a=x'^^^2^p:=e
  exact hn (by rw[← e'];exact ha)
 ·rw[JX]at hn'
  rcases JA.mp hn' with z | z
  ·exact h.lt n z
  ·rw[JI.mp z];exact lU (h.lt _ hx) hp
 ·by_cases c:i<L.length
  ·rw[Jx c]at e
   obtain⟨j',x',o',p',a1,a2,a3⟩:=h.par i n o e h0
   exact⟨j',x',o',p',a1,by rw[Jx (by omega)];exact a2,a3⟩
  ·have:i<(L++[(x'^^^2^p,some x')]).length:=(Jo.mp e).1
   rw[Jt,JF]at this
   have:i=L.length:=by omega
   subst this
   rw[Jv (Jw _),JV]at e
   cases e
   exact⟨j,x',o',p,jl,by rw[Jx jl];exact hj,rfl,hp,rfl,hR⟩
theorem Come.sound{m:Nat}{R:Nat->Nat->Bool}{s:Nat}{L:Ls}(h:Come m R s L):∀(k i n:Nat)(o:Option Nat),i<=k->L[i]?=some (n,o)->Rc m R s n:=by
 intro k
 induction k with
 |zero =>
  intro i n o hi e
  have:i=0:=by omega
  subst this
  rw[h.hd]at e
  cases e
  exact .base
 |succ k ih =>
  intro i n o hi e
  by_cases h0:0<i
  ·obtain⟨j,x,o',p,a1,a2,a3,a4,a5,a6⟩:=h.par i n o e h0
   subst a5
   exact .step (ih j x o' (by omega) a2) a4 a6
  ·exact ih i n o (by omega) e
theorem Come.all{m:Nat}{R:Nat->Nat->Bool}{s:Nat}{L:Ls}(h:Come m R s L)(hd:∀ n∈L.map (·.1),Done m R L n)(n:Nat):n∈L.map (·.1)↔Rc m R s n:=by
 constructor
 ·intro hn
  obtain⟨⟨x,o⟩,hm,rfl⟩:=Kb.mp hn
  obtain⟨j,hj⟩:=Kd.mp hm
  exact h.sound j j x o (Jw _) hj
 ·intro r
  induction r with
  |base=>exact Kb.mpr ⟨(s,none),Jq h.hd,rfl⟩
  |step _ hp hR ih=>exact hd _ ih _ hp hR
theorem Come.len{m:Nat}{R:Nat->Nat->Bool}{s:Nat}{L:Ls}(h:Come m R s L):L.length<=2^m:=by
 have:=dz h.nd h.lt
 rw[Jr]at this
 exact this
def oNV:Option Nat->V
 |none=>.non
 |some x=>.int (x:Int)
def kvL(L:Ls):List (Key×V):=L.map fun x=>(Sum.inl (x.1:Int),oNV x.2)
theorem IH(L:Ls):(kvL L).length=L.length:=Jr ..
theorem zk(L:Ls)(n:Nat):(valV (kvL L) (Sum.inl (n:Int))).isSome=decide (n∈L.map (·.1)):=by
 rw[← i6]
 unfold kvL
 induction L with
 |nil=>rfl
 |cons x L ih =>
  rw[Kl,MO,ih,Kl]
  by_cases c:x.1=n
  ·subst c;simp
  ·have c2:¬ (Sum.inl (x.1:Int):Key)=Sum.inl (n:Int):=fun z=>c (by have:=Sum.inl.inj z;omega)
   have c3:¬ n=x.1:=fun z=>c z.symm
   simp[c2,c3]
theorem IG{L:Ls}{n x:Nat}(h:n∉L.map (·.1)):putK (kvL L) (Sum.inl (n:Int)) (.int (x:Int))=kvL (L++[(n,some x)]):=by
 have:valV (kvL L) (Sum.inl (n:Int))=none:=by
  have e:=zk L n
  rw[decide_eq_false h]at e
  cases z:valV (kvL L) (Sum.inl (n:Int)) with
  |none=>rfl
  |some v=>rw[z]at e;cases e
 rw[FE _ this]
 unfold kvL
 rw[JX]
 rfl
theorem Done.mono{m:Nat}{R:Nat->Nat->Bool}{L:Ls}{n:Nat}(h:Done m R L n)(y:Nat×Option Nat):Done m R (L++[y]) n:=fun p hp hR=>by
 rw[JX]
 exact Kh _ (h p hp hR)
def ou(m L:Nat):List Nat:=(KO m).map fun p=>L^^^2^p
structure qS(m:Nat)(R:Nat->Nat->Bool)(s:Nat)(L:Ls)(rest fw:List Nat):Prop where
 c:Come m R s L
 rk:∀ n∈rest,n∈L.map (·.1)
 fk:∀ n∈fw,n∈L.map (·.1)
 dn:∀ n∈L.map (·.1),n∉rest->n∉fw->Done m R L n
def Half(m:Nat)(R:Nat->Nat->Bool)(L:Ls)(x j:Nat):Prop:=∀ p,p<j->R x (x^^^2^p)=true->x^^^2^p∈L.map (·.1)
theorem qS.put{m:Nat}{R:Nat->Nat->Bool}{s:Nat}{L:Ls}{rest fw:List Nat}(h:qS m R s L rest fw){x p:Nat}(hx:x∈rest)(hp:p<m)(hR:R x (x^^^2^p)=true)(hn:x^^^2^p∉L.map (·.1)):qS m R s (L++[(x^^^2^p,some x)]) rest (fw++[x^^^2^p]):=by
 have mo:∀ n,n∈L.map (·.1)->n∈(L++[(x^^^2^p,some x)]).map (·.1):=fun n z=>by rw[JX];exact Kh _ z
 have ls:x^^^2^p∈(L++[(x^^^2^p,some x)]).map (·.1):=by rw[JX];exact JK _ (JI.mpr rfl)
 refine⟨h.c.snoc (h.rk x hx) hp hR hn,fun n z=>mo n (h.rk n z),fun n z=>?_,fun n z z1 z2=>?_⟩
 ·rcases JA.mp z with z | z
  ·exact mo n (h.fk n z)
  ·rw[JI.mp z];exact ls
 ·rw[JX]at z
  rcases JA.mp z with z | z
  ·exact(h.dn n z z1 fun y=>z2 (Kh _ y)).mono _
  ·exact absurd (JK _ (JI.mpr (JI.mp z))) z2
theorem qS.next{m:Nat}{R:Nat->Nat->Bool}{s:Nat}{L:Ls}{x:Nat}{rest fw:List Nat}(h:qS m R s L (x::rest) fw)(hh:Half m R L x m):qS m R s L rest fw :=
 ⟨h.c,fun n z=>h.rk n (JB _ z),h.fk,fun n z z1 z2=>by
  by_cases c:n=x
  ·subst c;exact hh
  ·exact h.dn n z (fun y=>(Ju.mp y).elim c z1) z2⟩
theorem U_UN{es:En}{ks:Kn}{L t:Nat}(h1:t<es.length)(kl:ks.length=es.length)(kin:∀ k∈ks,k.1=0∨k.1=1):U es ks (L:Int) t=UN es ks L t:=by
 obtain⟨e,he⟩:∃ e,es[t]?=some e:=⟨_,Jp h1⟩
 obtain⟨k,hk⟩:∃ k,ks[t]?=some k:=⟨_,Jp (by omega)⟩
 rw[U_at he hk,UN_at he,AQ hk]
 unfold unp
 rw[bitN,bitN]
 rcases kin k (Jq hk)with z | z
 ·rw[z]
  cases L.testBit e.1<;>cases L.testBit e.2<;>rfl
 ·rw[z]
  cases L.testBit e.1<;>cases L.testBit e.2<;>rfl
theorem He{es:En}{ks:Kn}{L:Nat}(kl:ks.length=es.length)(kin:∀ k∈ks,k.1=0∨k.1=1):∀ n:Nat,n<=es.length->(prL ks (U es ks (L:Int)) n).sum=wS es ks L n
 |0,_=>rfl
 |n+1,h=>by
  have ih:=He (L:=L) kl kin n (by omega)
  rw[AR,List.sum_append,ih,U_UN (by omega) kl kin]
  show wS es ks L n+((if UN es ks L n=true then stg ks n else 0)+0)=if UN es ks L n=true then wS es ks L n+stg ks n else wS es ks L n
  split<;>omega
structure TxtC(mg:Str->Option Value):Prop extends TxtM mg where
 mplc:∃ t,mg "MOST_PLACES" = some (.int 10 t)
structure WebC(PL PS WC:Addr)(H:Hp)(p:Addr)(m:Nat)(es:En)(ks:Kn):Prop where
 w:Ff PL PS WC H p es ks
 many:∃ dx fs,H p=some (.ins WC dx fs)/\fs.lookup ("many" : Str)=some (.int (m:Int))
 m10:m<=10
 kin:∀ k∈ks,k.1=0∨k.1=1
theorem WebC.mono{PL PS WC:Addr}{H H':Hp}{p:Addr}{m:Nat}{es:En}{ks:Kn}(h:WebC PL PS WC H p m es ks)(s:Same H H'):WebC PL PS WC H' p m es ks:=by
 obtain⟨a,⟨dx,fs,b,c⟩,d,e⟩:=h
 exact⟨a.mono s,⟨dx,fs,s _ _ b,c⟩,d,e⟩
def AJ(PL PS WC:Addr):Sp:=fun vs H Q _=>∃(p:Addr)(m:Nat)(es:En)(ks:Kn),vs = [.ref p]/\WebC PL PS WC H p m es ks/\∀(q:Addr)(H':Hp),Same H H'->H q=none->H' q=some (.lst ((aZ es ks m).map V.int))->Q (.ref q) H'
def xK(PL PS WC:Addr):Sp:=fun vs H Q _=>∃(p:Addr)(m:Nat)(es:En)(ks:Kn)(L:Nat),vs = [.ref p,.int (L:Int)]/\WebC PL PS WC H p m es ks/\∀(q:Addr),H q=none->Q (.ref q) (upd H q (.lst ((ou m L).map iV)))
def lqC:Str:=("come_to_below" : Str)++".<locals>."++"<lambda>"
def LetP(H:Hp)(f:Addr)(m:Nat)(R:Nat->Nat->Bool):Prop:=∃ cs z,Ay lqC H f cs z/\cs.length=2^m/\∀ x y,R x y=decide (cs.getD y 0<z)
theorem LetP.mono{H H':Hp}{f:Addr}{m:Nat}{R:Nat->Nat->Bool}(h:LetP H f m R)(s:Same H H'):LetP H' f m R:=by
 obtain⟨cs,z,a,b,c⟩:=h
 exact⟨cs,z,a.mono s,b,c⟩
theorem zD{cs:List Int}{k:Nat}(h:k<cs.length):cs[k]?=some (cs.getD k 0):=by rw[Ka,Jp h];rfl
def DC(PL PS WC:Addr):Sp:=fun vs H Q _=>∃(p f:Addr)(m s:Nat)(es:En)(ks:Kn)(R:Nat->Nat->Bool),vs = [.ref p,.int (s:Int),.ref f]/\WebC PL PS WC H p m es ks/\LetP H f m R/\s<2^m /\
 ∀(d:Addr)(L:Ls)(H':Hp),Same H H'->H d=none->H' d=some (.dK (kvL L))->Come m R s L->(∀ n,n∈L.map (·.1)↔Rc m R s n)->Q (.ref d) H'
section
variable{P:Program}{w:World}{K:Js}{mg:Str->Option Value}{base:Heap}
theorem su:aE ["web"] ["web"] (ah cp):=⟨rfl,rfl,rfl,by decide +kernel,rfl,by decide +kernel,by decide +kernel⟩
theorem Ir{f fw PL PS WC:Addr}{fd dw:FuncData} (F:Fun K "all_worths" "all_worths" cp f fd) (T:TxtC mg) (cw:CW K WC) (G_worth:Cal P w K mg base 4 "worth" ["web","laying"] (Dt PL PS WC) fw dw):FnOk P w K mg base CX0 5 f fd ["web"] (AJ PL PS WC):=by
 refine F.ok su (fun vs H Q E h=>?_) (fun cdv A outer s H vs Q E hr h=>?_)
 ·obtain⟨p,m,es,ks,rfl,_⟩:=h
  rfl
 obtain⟨p,m,es,ks,rfl,wc,kk⟩:=h
 obtain⟨dx,fs,hp,lm⟩:=wc.many
 have m10:=wc.m10
 obtain⟨q1,q2,q3,q4⟩:=kr m10
 refine⟨_,(af (bV (aF op_gt (eF (pv 0) rfl) (FO rfl T.mplc) (aN _)) (ao fg) aR)
   (ao (aM (eG rfl (fr:=[("web",0)]) (by exact bJ.one (by rfl) (by decide +kernel) (by rfl) (by decide +kernel) (by rfl) (by decide +kernel) (by rfl) (by rfl) (by decide +kernel) (by rfl)) (a9 rfl T.n_range (aa (av mF ai (eF (pv 0) rfl)) ag)) (fun C ex s H=>(aA G_worth.ok (hr.mono (by decide)) rfl G_worth.mg G_worth.kp G_worth.bn .nil aY (aa (pv 1) (aa (pv 0) ag)))))))),?_⟩
 refine⟨_,rfl,p,WC,dx,fs,_,rfl,hp,cw.cl,cw.n1,lm,_,_,rfl,rfl,_,rfl,ite2 (fun c=>?_) (fun c=>?_)⟩
 ·exact absurd (of_decide_eq_true c) (by omega +splitDisjunctions)
 refine⟨_,rfl,p,WC,dx,fs,_,rfl,hp,cw.cl,cw.n1,lm,_,_,rfl,rfl,⟨by omega +splitDisjunctions,by omega +splitDisjunctions,by decide⟩,((2^m:Nat):Int),congrArg (fun z=>[V.int z]) (shlN m),by omega +splitDisjunctions,by omega +splitDisjunctions,gB (n:=((2^m:Nat):Int).toNat) (fun i zs H2=>Same H H2/\zs=((KO i).map (wT es ks)).map V.int) (by rw[JC];exact Ky q3 (by decide)) ⟨fun _ _ z=>z,rfl⟩ ?_ ?_⟩
 ·rintro i zs H2 hi ⟨s2,rfl⟩
  rw[K9]
  refine⟨_,rfl,_,rfl,p,es,ks,(i:Int),rfl,wc.w.mono s2,fun H3 s3=>?_⟩
  rw[He wc.w.kl wc.kin es.length (Jw _)]
  refine⟨s2.trans s3,?_⟩
  rw[Mv,JX,JX]
  rfl
 rintro zs H2 _ ⟨s2,rfl⟩ D hD
 rw[JC]
 exact kk D _ (s2.trans (aj hD _)) (bQ s2 hD) ae
theorem sk:aE ["web","laying"] ["web","laying"] (ah ck):=⟨rfl,rfl,rfl,by decide +kernel,rfl,by decide +kernel,by decide +kernel⟩
theorem DX{f PL PS WC:Addr}{fd:FuncData} (F:Fun K "steps_from" "steps_from" ck f fd) (T:TxtC mg) (cw:CW K WC):FnOk P w K mg base CX0 1 f fd ["web","laying"] (xK PL PS WC):=by
 refine F.ok sk (fun vs H Q E h=>?_) (fun cdv A outer s H vs Q E hr h=>?_)
 ·obtain⟨p,m,es,ks,L,rfl,_⟩:=h
  rfl
 obtain⟨p,m,es,ks,L,rfl,wc,kk⟩:=h
 obtain⟨dx,fs,hp,lm⟩:=wc.many
 have m10:=wc.m10
 refine⟨_,(ao (aM (eG rfl (fr:=[("laying",1)]) (by exact bJ.one (by rfl) (by decide +kernel) (by rfl) (by decide +kernel) (by rfl) (by decide +kernel) (by rfl) (by rfl) (by decide +kernel) (by rfl)) (a9 rfl T.n_range (aa (eF (pv 0) rfl) ag)) (fun C ex s H=>(av vm (pv 1) (av mF ai (pv 0))))))),?_⟩
 refine⟨_,rfl,p,WC,dx,fs,_,rfl,hp,cw.cl,cw.n1,lm,_,rfl,by omega +splitDisjunctions,by omega +splitDisjunctions,gB (n:=(m:Int).toNat) (fun i zs H2=>H2=H/\zs=((KO i).map fun p=>L^^^2^p).map iV) (by rw[JC];exact Kk (ax (by omega +splitDisjunctions))) ⟨rfl,rfl⟩ ?_ ?_⟩
 ·rintro i zs H2 hi ⟨rfl,rfl⟩
  rw[JC]at hi
  rw[K9]
  refine⟨_,rfl,_,rfl,_,_,rfl,rfl,⟨by omega +splitDisjunctions,by omega +splitDisjunctions,by decide⟩,_,_,rfl,rfl,rfl,?_⟩
  dsimp only
  rw[shlN,xorN,Mv,JX,JX]
  rfl
 rintro zs H2 _ ⟨rfl,rfl⟩ D hD
 rw[JC]
 exact kk D hD
theorem cR:aE ["web","start","let","ahead","row","further","here","there"] ["web","start","let"] (ah gu):=⟨rfl,rfl,rfl,by decide +kernel,rfl,by decide +kernel,by decide +kernel⟩
theorem Ip{f fs' PL PS WC:Addr}{fd ds:FuncData} (F:Fun K "come_to" "come_to" gu f fd) (T:TxtC mg) (G_steps_from:Cal P w K mg base 1 "steps_from" ["web","laying"] (xK PL PS WC) fs' ds):FnOk P w K mg base CX0 2 f fd ["web","start","let"] (DC PL PS WC):=by
 refine F.ok cR (fun vs H Q E h=>?_) (fun cdv A outer s H vs Q E hr h=>?_)
 ·obtain⟨p,f,m,s,es,ks,R,rfl,_⟩:=h
  rfl
 obtain⟨p,fl,m,st,es,ks,R,rfl,wc,lp,hs,kk⟩:=h
 have hu:=wb hr
 have hu64:=hr.units
 have m10:=wc.m10
 obtain⟨q1,q2,q3,q4⟩:=kr m10
 refine⟨_,(af (ar (i:=3) cR.nd rfl (Or.inl rfl) (Ie (FH (pv 1) Hi HZ) rfl rfl (fun z=>by cases z) (by decide)))
   (af (ar (i:=4) cR.nd rfl (Or.inl rfl) (bK (aa (pv 1) ag)))
   (af (kq PassesOwn.never (aF (op_neG hu64) (pv 4) (bK ag) (aN _)) (af (ar (i:=5) cR.nd rfl (Or.inl rfl) (bK ag))
   (af (bW PassesOwn.never rfl (bx (pv 4)) (aX (i:=6) cR.nd rfl (Or.inl rfl)) (ao (bW PassesOwn.never rfl (bx (aA G_steps_from.ok (hr.mono (by decide)) rfl G_steps_from.mg G_steps_from.kp G_steps_from.bn .nil aY (aa (pv 0) (aa (pv 6) ag)))) (aX (i:=7) cR.nd rfl (Or.inl rfl)) (ao (bV (PW.pt (DL (qY (oH hu (pv 7) (pv 3))) (yk (jw (FN (lq:=lqC) (i:=2) rfl (Or.inl rfl) (hr.mono (by decide)) (aa (pv 6) (aa (pv 7) ag))))))) (af (oB hu (pv 3) (pv 7) (pv 6) rfl)
   (ao (bp (ij JY Kq Ko bz (pv 5) (aa (pv 7) ag))))) aR)))))
   (ao (ar (i:=4) cR.nd rfl (Or.inl rfl) (pv 5))))))
   (ao (aM (pv 3)))))),?_⟩
 intro d hd
 refine⟨_,rfl,ae,[(.inl (st:Int),.non)],rfl,(by show 1<=15;decide),?_⟩
 have sd:Same H (upd (upd H d (.dK [])) d (.dK (mG [] [(.inl (st:Int),.non)]))):=bg (aj hd _) hd _
 have hd1:(upd (upd H d (.dK [])) d (.dK (mG [] [(.inl (st:Int),.non)]))) d=some (.dK (kvL [(st,none)])):=by rw[ae];rfl
 generalize upd (upd H d (.dK [])) d (.dK (mG [] [(.inl (st:Int),.non)]))=H1 at sd hd1
 refine⟨_,rfl,(by show 1<=sizeLine;decide),fun q hq=>?_⟩
 have sq:=aj hq (.lst [V.int (st:Int)])
 refine⟨fun mm σ H'=>∃(L:Ls)(wl:List Nat)(q:Addr)(v5 v6 v7:Option V),mm=2*(2^m-L.length)+(if wl = [] then 0 else 1)/\σ = [some (.ref p),some (.int (st:Int)),some (.ref fl),some (.ref d),some (.ref q),v5,v6,v7]/\Same H H'/\H' d=some (.dK (kvL L))/\H' q=some (.lst (wl.map iV))/\wl.length<=1024/\qS m R st L wl [],⟨_,[(st,none)],[st],q,_,_,_,rfl,rfl,sd.trans sq,sq _ _ hd1,ae,(by show 1<=1024;decide),⟨Come.one hs,fun n hn=>hn,(fun n hn=>nomatch hn),fun n hn h1 _=>absurd hn h1⟩⟩,?_⟩
 rintro mm σ H3 ⟨L,wl,q,v5,v6,v7,rfl,rfl,s3,hd3,hq3,wll,go⟩
 refine⟨_,rfl,(by show 0<=sizeLine;exact Ku _),fun l hl=>?_⟩
 have sl:=aj hl (.lst [])
 refine⟨_,_,oQ (SqL.of (sl _ _ hq3)),oQ (ps:=[]) (SqL.of ae),gU _,gU _,_,rfl,?_⟩
 rw[Bf]
 have s3l:=s3.trans sl
 have hd4:=sl _ _ hd3
 have hq4:=sl _ _ hq3
 generalize upd H3 l (.lst [])=H4 at s3l hd4 hq4
 refine ite2 (fun c=>?_) (fun c=>?_)
 ·have ne:wl≠[]:=fun z=>by rw[z,decide_eq_true rfl]at c;cases c
  refine⟨fun σ' H'=>∃(L':Ls)(wl':List Nat)(q:Addr)(v5 v6 v7:Option V),2*(2^m-L'.length)+(if wl' = [] then 0 else 1)<2*(2^m-L.length)+(if wl = [] then 0 else 1)/\σ' = [some (.ref p),some (.int (st:Int)),some (.ref fl),some (.ref d),some (.ref q),v5,v6,v7]/\Same H H'/\H' d=some (.dK (kvL L'))/\H' q=some (.lst (wl'.map iV))/\wl'.length<=1024/\qS m R st L' wl' [],fun σ' H' ⟨L',wl',q',a5,a6,a7,lt,e1,e2,e3,e4,e5,e6⟩=>⟨_,lt,L',wl',q',a5,a6,a7,rfl,e1,e2,e3,e4,e5,e6⟩,?_⟩
  refine⟨(by show 0<=sizeLine;exact Ku _),fun fu hfu=>?_⟩
  have sfu:=aj hfu (.lst [])
  have dfu:d≠fu:=fun z=>by rw[← z,hd4]at hfu;cases hfu
  have qfu:q≠fu:=fun z=>by rw[← z,hq4]at hfu;cases hfu
  have dq:d≠q:=fun z=>by rw[← z,hd4]at hq4;cases hq4
  have hfu0:H fu=none:=bQ s3l hfu
  have wlen:(wl.map iV).length=wl.length:=Jr _
  refine⟨_,rfl,q,rfl,⟨_,SqL.of (sfu _ _ hq4)⟩,dj (K:=K) (xs:=wl.map iV) (fun i σ H5=>∃(L':Ls)(fw:List Nat)(v6 v7:Option V),σ = [some (.ref p),some (.int (st:Int)),some (.ref fl),some (.ref d),some (.ref q),some (.ref fu),v6,v7]/\Same H H5/\H5 d=some (.dK (kvL L'))/\H5 q=some (.lst (wl.map iV))/\H5 fu=some (.lst (fw.map iV))/\L'.length=L.length+fw.length/\qS m R st L' (wl.drop i) fw) ⟨L,[],_,_,rfl,s3l.trans sfu,sfu _ _ hd4,sfu _ _ hq4,ae,rfl,go⟩ (fun i σ H5 _ ⟨_,_,_,_,_,_,_,z,_⟩=>SqL.of z) ?_ ?_⟩
  ·rintro i xv σ H5 hxv ⟨L',fw,v6,v7,rfl,s5,hd5,hq5,hf5,ll,go5⟩
   rw[Jy]at hxv
   obtain⟨x,hx,rfl⟩:=Kj.mp hxv
   have il:=(Jo.mp hx).1
   have dr:wl.drop i=x::wl.drop (i+1):=by
    obtain⟨h1,h2⟩:=Jo.mp hx
    rw[← h2]
    exact KQ h1
   rw[dr]at go5
   have xk:x∈x::wl.drop (i+1):=JD ..
   have xlt:=go5.c.lt x (go5.rk x xk)
   refine⟨_,rfl,_,rfl,p,m,es,ks,x,rfl,wc.mono s5,fun r2 hr2=>?_⟩
   have sr:=aj hr2 (.lst ((ou m x).map iV))
   have r2d:r2≠d:=fun z=>by rw[z,hd5]at hr2;cases hr2
   have r2f:r2≠fu:=fun z=>by rw[z,hf5]at hr2;cases hr2
   have slen:(ou m x).length=m:=by unfold ou;rw[Jr,LC]
   refine⟨r2,rfl,⟨_,SqL.of ae⟩,dj (K:=K) (xs:=(ou m x).map iV) (fun j σ H6=>∃(L2:Ls)(fw2:List Nat)(v7:Option V),σ = [some (.ref p),some (.int (st:Int)),some (.ref fl),some (.ref d),some (.ref q),some (.ref fu),some (iV x),v7]/\Same H H6/\H6 d=some (.dK (kvL L2))/\H6 q=some (.lst (wl.map iV))/\H6 fu=some (.lst (fw2.map iV))/\H6 r2=some (.lst ((ou m x).map iV))/\L2.length=L.length+fw2.length/\qS m R st L2 (x::wl.drop (i+1)) fw2/\Half m R L2 x j) ⟨L',fw,_,rfl,s5.trans sr,sr _ _ hd5,sr _ _ hq5,sr _ _ hf5,ae,ll,go5,fun p hp=>absurd hp (Ln _)⟩ (fun j σ H6 _ ⟨_,_,_,_,_,_,_,_,z,_⟩=>SqL.of z) ?_ ?_⟩
   ·rintro j yv σ H6 hyv ⟨L2,fw2,v7,rfl,s6,hd6,hq6,hf6,hr6,ll6,go6,ha6⟩
    rw[Jy]at hyv
    obtain⟨y,hy,rfl⟩:=Kj.mp hyv
    have jl:j<m:=by rw[← slen];exact(Jo.mp hy).1
    have ey:y=x^^^2^j:=by
     unfold ou at hy
     rw[Jy,LJ jl]at hy
     exact(JL hy).symm
    subst ey
    have ylt:=lU xlt jl
    have L2l:=go6.c.len
    refine⟨_,rfl,_,rfl,d,_,rfl,DGet.k (k:=Sum.inl ((x^^^2^j:Nat):Int)) hd6,_,rfl,?_⟩
    rw[zk]
    refine ite2 (fun c1=>?_) (fun c1=>?_)
    ·have yn:x^^^2^j∉L2.map (·.1):=fun z=>by rw[decide_eq_true z]at c1;cases c1
     obtain⟨cs,z,ll',cl,hRR⟩:=lp.mono s6
     refine⟨fl,rfl,⟨cs,z,ll'⟩,_,rfl,_,rfl,_,x^^^2^j,cs,_,z,rfl,ll',zD (by omega +splitDisjunctions),_,rfl,?_⟩
     refine ite2 (fun c2=>?_) (fun c2=>?_)
     ·have hR:R x (x^^^2^j)=true:=(hRR x (x^^^2^j)).trans c2
      refine⟨_,rfl,_,rfl,_,rfl,d,_,rfl,DPut.k (k:=Sum.inl ((x^^^2^j:Nat):Int)) hd6 (by rw[IH];exact Lk (Ky L2l q3) (by decide)),?_⟩
      rw[show putK (kvL L2) (Sum.inl ((x^^^2^j:Nat):Int)) (iV x)=kvL (L2++[(x^^^2^j,some x)]) from IG yn]
      have hf7:(upd H6 d (.dK (kvL (L2++[(x^^^2^j,some x)])))) fu=some (.lst (fw2.map iV)):=by rw[ak (Ne.symm dfu)];exact hf6
      have fl2:fw2.length<=1024:=by omega +splitDisjunctions
      refine⟨_,rfl,.inl ⟨rfl,_,SqL.of hf7⟩,_,rfl,fu,_,_,rfl,rfl,hf7,(by rw[Jr];exact Lk fl2 (by decide)),?_⟩
      refine⟨L2++[(x^^^2^j,some x)],fw2++[x^^^2^j],_,rfl,bg (bg s6 hd _) hfu0 _,?_,?_,?_,?_,by rw[Jt,Jt,JF,JF];omega +splitDisjunctions,go6.put xk jl hR yn,fun p hp hRp=>?_⟩
      ·rw[ak dfu];exact ae
      ·rw[ak qfu,ak (Ne.symm dq)];exact hq6
      ·rw[ae,JX];rfl
      ·rw[ak r2f,ak r2d];exact hr6
      ·rw[JX]
       by_cases z:p=j
       ·subst z;exact JK _ (JI.mpr rfl)
       ·exact Kh _ (ha6 p (by omega +splitDisjunctions) hRp)
     ·have hR:¬ R x (x^^^2^j)=true:=fun z=>c2 ((hRR x (x^^^2^j)).symm.trans z)
      refine⟨L2,fw2,_,rfl,s6,hd6,hq6,hf6,hr6,ll6,go6,fun p hp hRp=>?_⟩
      by_cases z:p=j
      ·subst z;exact absurd hRp hR
      ·exact ha6 p (by omega +splitDisjunctions) hRp
    ·have yi:x^^^2^j∈L2.map (·.1):=by
      by_cases z:x^^^2^j∈L2.map (·.1)
      ·exact z
      ·exact absurd (by rw[decide_eq_false z];rfl) c1
     refine iteF ?_
     refine⟨L2,fw2,_,rfl,s6,hd6,hq6,hf6,hr6,ll6,go6,fun p hp hRp=>?_⟩
     by_cases z:p=j
     ·subst z;exact yi
     ·exact ha6 p (by omega +splitDisjunctions) hRp
   ·rintro σ H6 ⟨L2,fw2,v7,rfl,s6,hd6,hq6,hf6,hr6,ll6,go6,ha6⟩
    rw[Jr,slen]at ha6
    exact⟨L2,fw2,_,_,rfl,s6,hd6,hq6,hf6,ll6,go6.next ha6⟩
  ·rintro σ H5 ⟨L',fw,v6,v7,rfl,s5,hd5,hq5,hf5,ll,go5⟩
   rw[wlen,List.drop_length]at go5
   have L2l:=go5.c.len
   refine⟨_,rfl,L',fw,fu,_,_,_,?_,rfl,s5,hd5,hf5,by omega +splitDisjunctions,⟨go5.c,go5.fk,(fun n hn=>nomatch hn),fun n hn h1 _=>go5.dn n hn (fun y=>nomatch y) h1⟩⟩
   rw[if_neg ne]
   by_cases z:fw = []
   ·rw[if_pos z]
    have:L'.length=L.length:=by rw[z]at ll;exact ll
    omega +splitDisjunctions
   ·rw[if_neg z]
    have:=List.length_pos_iff.mpr z
    omega +splitDisjunctions
 ·have e:wl = []:=by
   by_cases z:wl = []
   ·exact z
   ·refine absurd ?_ c
    rw[decide_eq_false (fun y=>z ?_)]
    ·rfl
    ·exact List.map_eq_nil_iff.mp y
  subst e
  have al:=go.c.all fun n hn=>go.dn n hn (fun y=>nomatch y) fun y=>nomatch y
  exact⟨_,rfl,kk d L _ s3l hd hd4 go.c al⟩
end
end K8
namespace K8
open PySem L2
local macro_rules | `(tactic| walk_at "cc") => `(tactic| first | exact ⟨by decide, by decide⟩ | (show (0 : Int) < _; decide) | (show (0 : Int) < _; omega) | (show (0 : Int) ≤ _; omega) | exact ⟨by decide, by decide, by decide⟩ | exact ⟨by omega, by omega, by decide⟩ | exact Or.inl ⟨by decide, by decide⟩ | exact Or.inl ⟨by omega, by omega⟩)
local macro_rules | `(tactic| walk_at "rd") => `(tactic| repeat (first | refine ⟨_, rfl, ?_⟩ | refine ⟨_, _, rfl, rfl, ?_⟩ | refine ⟨rfl, ?_⟩ | (refine ⟨?cc, ?_⟩; (case cc => walk_at "cc"))))
theorem Fun.okT{P:Program}{w:World}{K:Js}{mg:Str->Option Value}{base:Heap}{x qual:Str}{st:Stmt}{f c TT:Addr}{fd:FuncData}{N ps:List Str}{k:Nat}{sp:Sp}(F:Fun K x qual st f fd)(S:aE N ps (ah st))(ht:LA K x=some (c,TT))(hn:JH K mainGlobals x=some (some (.ref f)))
  (len:∀ vs H Q E,sp vs H Q E->vs.length=ps.length)
  (hbody:∀(A:Around)(outer:List Env)(s:Shared)(H:Hp)(vs:List V)(Q:VK)(E:XK),Room k (A.deeper (PyProof.Rows.envOfC qual (ah st) s.heap.objs.size f (.ref c)))->sp vs H Q E ->
   ∃ t,PSs (cxOf CX0 P w K mg base N qual (ah st) f (.ref c) A outer s H E).nox (aB st) t/\t { nx:=fun _ H'=>Q .non H',rt:=Q } (start N vs) H):FnOk P w K mg base CX0 (k+1) f fd ps sp:=by
 obtain⟨oc,od,kV,doc,pm,an,cdv,ct,osl,rfl,lk,hcd⟩:=F.ex
 have e:cdv=.ref c:=by
  unfold LA at ht
  rw[hn]at ht
  simp only[lk]at ht
  cases cdv<;>first | (cases ht;done) | skip
  simp only at ht
  split at ht
  ·split at ht
   ·cases ht;rfl
   ·cases ht
  ·cases ht
 subst e
 refine fn_of lk hcd S len fun A outer s H vs Q E hr hsp=>?_
 obtain⟨t,h,q⟩:=hbody A outer s H vs Q E hr hsp
 exact⟨t,h.nox,q⟩
theorem c9{lq:Str}{lp:Pos}{T:Addr}{H H':Hp}(h:Tb lq lp T H)(s:Same H H'):Tb lq lp T H':=by
 rcases h with h | ⟨c,h1,h2⟩
 ·exact .inl (s _ _ h)
 ·exact .inr ⟨c,s _ _ h1,s _ _ h2⟩
theorem HF{lq:Str}{lp:Pos}{T:Addr}{H:Hp}(h:Tb lq lp T H):H T≠none:=by
 rcases h with h | ⟨c,h1,_⟩
 ·rw[h];exact fun z=>nomatch z
 ·rw[h1];exact fun z=>nomatch z
theorem tb_tbl{lq:Str}{lp:Pos}{T:Addr}{H:Hp}(h:Tb lq lp T H):∃ ps,H T=some (.tbl ps):=by
 rcases h with h | ⟨c,h1,_⟩
 ·exact⟨_,h⟩
 ·exact⟨_,h1⟩
def SmC(H H':Hp):Prop:=∀ b o,(∀ ps,o≠.tbl ps)->H b=some o->H' b=some o
theorem SmC.trans{H H1 H2:Hp}(a:SmC H H1)(b:SmC H1 H2):SmC H H2:=fun c o n e=>b c o n (a c o n e)
theorem SmC.of{H H':Hp}(s:Same H H'):SmC H H':=fun c o _ e=>s c o e
theorem SmC.tbs{lq:Str}{lp:Pos}{T:Addr}{H H':Hp}(t:Tb lq lp T H)(s:TbS T H H'):SmC H H':=fun c o n e=>s c o (fun z=>by
 obtain⟨ps,hp⟩:=tb_tbl t
 rw[z,hp]at e
 cases e
 exact n _ rfl) e
theorem SmC.lst{H H':Hp}(s:SmC H H'){b:Addr}{xs:List V}(e:H b=some (.lst xs)):H' b=some (.lst xs):=s _ _ (fun ps z=>by cases z) e
theorem SmC.tup{H H':Hp}(s:SmC H H'){b:Addr}{xs:List V}(e:H b=some (.tup xs)):H' b=some (.tup xs):=s _ _ (fun ps z=>by cases z) e
theorem SmC.ins{H H':Hp}(s:SmC H H'){b C d:Addr}{fs:List (Str×V)}(e:H b=some (.ins C d fs)):H' b=some (.ins C d fs):=s _ _ (fun ps z=>by cases z) e
theorem WebC.sm{PL PS WC:Addr}{H H':Hp}{p:Addr}{m:Nat}{es:En}{ks:Kn}(h:WebC PL PS WC H p m es ks)(s:SmC H H'):WebC PL PS WC H' p m es ks:=by
 obtain⟨⟨⟨dx0,fs0,q1,xs,a1,a2,a3,a4⟩,a5,a6⟩,⟨dx,fs,b,c⟩,d,e⟩:=h
 exact⟨⟨⟨dx0,fs0,q1,xs,s.ins a1,a2,s.lst a3,a4.1,fun i x k q r=>by
  obtain⟨p',dx',u1,u2⟩:=a4.2 i x k q r
  exact⟨p',dx',u1,s.ins u2⟩⟩,a5,a6⟩,⟨dx,fs,s.ins b,c⟩,d,e⟩
def lpC:Pos:=⟨41,31,41,72⟩
def ox(TT PL PS WC:Addr):Sp:=fun vs H Q _=>∃(p q:Addr)(m st:Nat)(es:En)(ks:Kn)(cs:List Int)(h:Int),vs = [.ref p,.ref q,.int (st:Int),.int h]/\WebC PL PS WC H p m es ks/\H q=some (.lst (cs.map V.int))/\cs.length=2^m/\st<2^m/\Tb lqC lpC TT H /\
 ∀(d:Addr)(L:Ls)(H':Hp),SmC H H'->Tb lqC lpC TT H'->H d=none->H' d=some (.dK (kvL L))->Come m (fun _ y=>decide (cs.getD y 0<h)) st L->(∀ n,n∈L.map (·.1)↔Rc m (fun _ y=>decide (cs.getD y 0<h)) st n)->Q (.ref d) H'
section
variable{P:Program}{w:World}{K:Js}{mg:Str->Option Value}{base:Heap}
theorem ng:aE ["web","costs","start","height"] ["web","costs","start","height"] (ah aL):=⟨rfl,rfl,rfl,by decide +kernel,rfl,by decide +kernel,by decide +kernel⟩
theorem F8{f f1 c TT PL PS WC:Addr}{fd d1:FuncData} (F:Fun K "come_to_below" "come_to_below" aL f fd) (ht:LA K "come_to_below" = some (c,TT)) (hn:JH K mainGlobals "come_to_below" = some (some (.ref f))) (hcd:Lu base c TT) (hbm:Bm mg base)
  (G_come_to:Cal P w K mg base 2 "come_to" ["web","start","let"] (DC PL PS WC) f1 d1):FnOk P w K mg base CX0 3 f fd ["web","costs","start","height"] (ox TT PL PS WC):=by
 refine Fun.okT F ng ht hn (fun vs H Q E h=>?_) (fun A outer s H vs Q E hr h=>?_)
 ·obtain⟨p,q,m,st,es,ks,cs,h,rfl,_⟩:=h
  rfl
 obtain⟨p,q,m,st,es,ks,cs,z,rfl,wc,hq,cl,hs,tb,kk⟩:=h
 have LM:∀ N,LamC (cxOf CX0 P w K mg base N "come_to_below" (ah aL) f (.ref c) A outer s H E).nox c TT lqC ltSc [("height",s.heap.objs.size+2),("costs",s.heap.objs.size+1)]:=fun N=>⟨rfl,hcd,hbm,rfl,rfl⟩
 have hcl:∀ N,∀ p∈[(("height" : Str),s.heap.objs.size+2),(("costs" : Str),s.heap.objs.size+1)],(cxOf CX0 P w K mg base N "come_to_below" (ah aL) f (.ref c) A outer s H E).nox.env.cells.lookup p.1=some p.2/\(cxOf CX0 P w K mg base N "come_to_below" (ah aL) f (.ref c) A outer s H E).nox.fn p.1=true/\(cxOf CX0 P w K mg base N "come_to_below" (ah aL) f (.ref c) A outer s H E).nox.env.kindOf p.1=some .cell/\Vis (cxOf CX0 P w K mg base N "come_to_below" (ah aL) f (.ref c) A outer s H E).nox.env.scope p.1:=by
  intro N p hp
  rcases Ju.mp hp with rfl | hp
  ·exact⟨rfl,rfl,rfl,Or.inr (Or.inl rfl)⟩
  ·rw[JI.mp hp]
   exact⟨rfl,rfl,rfl,Or.inr (Or.inl rfl)⟩
 refine⟨_,(ao (aM (FP (E:=E0) (hcl _) G_come_to.ok (hr.mono (by decide)) rfl G_come_to.mg G_come_to.kp G_come_to.bn .nil (aa (pv 0) (aa (pv 2) (aa (pe_lam (LM _) rfl) ag)))))),?_⟩
 refine⟨_,rfl,_,rfl,tb,fun fl c' pm ctv H1 nf sm1 tb1 hc' hf=>?_⟩
 intro os hos
 have hct:=hos (("costs" : Str),s.heap.objs.size+1) (by simp)
 have hch:=hos (("height" : Str),s.heap.objs.size+2) (by simp)
 obtain⟨nct,ov1,ed1,rl1⟩:=hct
 obtain⟨nch,ov2,ed2,rl2⟩:=hch
 obtain⟨u1,rfl,ru1⟩:=rl1 1 (.ref q) rfl rfl
 obtain⟨u2,rfl,ru2⟩:=rl2 3 (.int z) rfl rfl
 obtain rfl:u1=Value.ref q:=ru1
 obtain⟨tz,rfl⟩:=ru2
 have smc:=SmC.tbs tb sm1
 have out:∀{b:Addr}{o:HO},H1 b=some o->b∉[(("height" : Str),s.heap.objs.size+2),(("costs" : Str),s.heap.objs.size+1)].map (·.2):=fun{b o} e hb=>by
  rcases Ju.mp hb with y | y
  ·rw[y]at e;rw[nch]at e;cases e
  ·rw[JI.mp y]at e;rw[nct]at e;cases e
 have up:Same H1 (frzH [(("height" : Str),s.heap.objs.size+2),(("costs" : Str),s.heap.objs.size+1)] os H1):=fun b o e=>by rw[bR (out e)];exact e
 refine⟨p,fl,m,st,es,ks,fun _ y=>decide (cs.getD y 0<z),rfl,(wc.sm smc).mono up,⟨cs,z,⟨c',_,_,q,pm,ctv,os (s.heap.objs.size+1),os (s.heap.objs.size+2),_,_,_,_,_,_,_,up _ _ hf,up _ _ hc',pB (by simp),ed1,pB (by simp),⟨tz,ed2⟩,up _ _ (smc.lst hq)⟩,cl,fun _ _=>rfl⟩,hs,fun d L H2 s2 nd hd co al=>?_⟩
 have s12:=up.trans s2
 have cells:∀ b,b∈[(("height" : Str),s.heap.objs.size+2),(("costs" : Str),s.heap.objs.size+1)].map (·.2)->∃ o,H2 b=some (.frz o (.own b)):=fun b hb=>⟨_,s2 _ _ (pB hb)⟩
 have dn:d∉[(("height" : Str),s.heap.objs.size+2),(("costs" : Str),s.heap.objs.size+1)].map (·.2):=fun hb=>by
  obtain⟨o,e⟩:=cells d hb
  rw[hd]at e
  cases e
 have cs2:Same H1 (cutH [(("height" : Str),s.heap.objs.size+2),(("costs" : Str),s.heap.objs.size+1)] H2):=fun b o e=>by rw[d6 (out e)];exact s12 _ _ e
 refine kk d L _ (smc.trans (.of cs2)) (c9 tb1 cs2) ?_ (by rw[d6 dn];exact hd) co al
 have n1:H1 d=none:=by
  rw[bR dn]at nd
  exact nd
 cases y:H d with
 |none=>rfl
 |some o =>
  by_cases c:d=TT
  ·rw[c]at n1;exact absurd n1 (HF tb1)
  ·rw[sm1 _ _ c y]at n1;cases n1
end
end K8
namespace K8
open PySem L2
local macro_rules | `(tactic| walk_at "cc") => `(tactic| first | exact ⟨by decide, by decide⟩ | (show (0 : Int) < _; decide) | (show (0 : Int) < _; omega) | (show (0 : Int) ≤ _; omega) | exact ⟨by decide, by decide, by decide⟩ | exact ⟨by omega, by omega, by decide⟩ | exact Or.inl ⟨by decide, by decide⟩ | exact Or.inl ⟨by omega, by omega⟩)
local macro_rules | `(tactic| walk_at "rd") => `(tactic| repeat (first | refine ⟨_, rfl, ?_⟩ | refine ⟨_, _, rfl, rfl, ?_⟩ | refine ⟨rfl, ?_⟩ | (refine ⟨?cc, ?_⟩; (case cc => walk_at "cc"))))
theorem DD{L:Ls}{out:List Int}(nd:(L.map (·.1)).Nodup)(pm:out.Perm (L.map fun x=>(x.1:Int)))(pw:out.Pairwise (·<=·)):∃ on:List Nat,out=on.map (fun n:Nat=>(n:Int))/\on.Pairwise (· < ·)/\∀ n,n∈on↔n∈L.map (·.1):=by
 have ex:∀ l:List Int,(∀ x∈l,∃ n:Nat,x=(n:Int))->∃ on:List Nat,l=on.map fun n:Nat=>(n:Int):=fun l=>by
  induction l with
  |nil=>exact fun _=>⟨[],rfl⟩
  |cons a l ih =>
   intro h
   obtain⟨n,rfl⟩:=h a (JD ..)
   obtain⟨on,e⟩:=ih fun x hx=>h x (JB _ hx)
   exact⟨n::on,by rw[Kl,← e]⟩
 obtain⟨on,rfl⟩:=ex out fun x hx=>by
  obtain⟨y,_,e⟩:=Kb.mp (pm.mem_iff.mp hx)
  exact⟨y.1,e.symm⟩
 have pm2:on.Perm (L.map (·.1)):=by
  have:=pm.map Int.toNat
  rw[Ly,Ly]at this
  have e1:on.map (Int.toNat∘fun n:Nat=>(n:Int))=on:=by
   rw[show(Int.toNat∘fun n:Nat=>(n:Int))=id from rfl,List.map_id]
  have e2:L.map (Int.toNat∘fun x:Nat×Option Nat=>(x.1:Int))=L.map (·.1):=rfl
  rw[e1,e2]at this
  exact this
 refine⟨on,rfl,?_,fun n=>pm2.mem_iff⟩
 have nd2:on.Nodup:=pm2.nodup_iff.mpr nd
 rw[List.pairwise_map]at pw
 refine(List.Pairwise.and pw nd2).imp fun{a b} ⟨h1,h2⟩=>?_
 have h1':(a:Int)<=(b:Int):=h1
 omega
theorem iV_map(on:List Nat):(on.map fun n:Nat=>(n:Int)).map V.int=on.map iV:=by
 rw[Ly];rfl
theorem Gq(L:Ls):(kvL L).map (·.1)=(L.map fun x=>(x.1:Int)).map Sum.inl:=by
 unfold kvL
 rw[Ly,Ly];rfl
theorem bT{es:En}{ks:Kn}{m L:Nat}(h:L<2^m):(aZ es ks m).getD L 0=wT es ks L:=by rw[Ka,pI h];rfl
theorem Rc.lt{m:Nat}{R:Nat->Nat->Bool}{s n:Nat}(h:Rc m R s n)(hs:s<2^m):n<2^m:=by
 induction h with
 |base=>exact hs
 |step _ hp _ ih=>exact lU ih hp
theorem Rc.low{m:Nat}{f:Nat->Int}{z:Int}{s n:Nat}(h:Rc m (fun _ y=>decide (f y<z)) s n)(hs:f s<z):f n<z:=by
 cases h with
 |base=>exact hs
 |step _ _ hR=>exact of_decide_eq_true hR
def xN(TT PL PS WC:Addr):Sp:=fun vs H Q _=>∃(p:Addr)(m st:Nat)(es:En)(ks:Kn)(z:Int),vs = [.ref p,.int (st:Int),.int z]/\WebC PL PS WC H p m es ks/\st<2^m/\Tb lqC lpC TT H /\
 ∀(l:Addr)(on:List Nat)(H':Hp),SmC H H'->Tb lqC lpC TT H'->H' l=some (.lst (on.map iV))->(z<=wT es ks st->on = [])->(wT es ks st<z->on.Pairwise (· < ·)/\∀ n,n∈on↔Rc m (fun _ y=>decide ((aZ es ks m).getD y 0<z)) st n)->Q (.ref l) H'
section
variable{P:Program}{w:World}{K:Js}{mg:Str->Option Value}{base:Heap}
theorem AM:aE ["web","start","height","costs"] ["web","start","height"] (ah lz):=⟨rfl,rfl,rfl,by decide +kernel,rfl,by decide +kernel,by decide +kernel⟩
theorem FZ{f f1 f2 TT PL PS WC:Addr}{fd d1 d2:FuncData} (F:Fun K "shore" "shore" lz f fd) (T:TxtC mg) (G_all_worths:Cal P w K mg base 5 "all_worths" ["web"] (AJ PL PS WC) f1 d1) (G_come_to_below:Cal P w K mg base 3 "come_to_below" ["web","costs","start","height"] (ox TT PL PS WC) f2 d2):FnOk P w K mg base CX0 6 f fd ["web","start","height"] (xN TT PL PS WC):=by
 refine F.ok AM (fun vs H Q E h=>?_) (fun cdv A outer s H vs Q E hr h=>?_)
 ·obtain⟨p,m,st,es,ks,z,rfl,_⟩:=h
  rfl
 obtain⟨p,m,st,es,ks,z,rfl,wc,hs,tb,kk⟩:=h
 refine⟨_,(af (ar (i:=3) AM.nd rfl (Or.inl rfl) (aA G_all_worths.ok (hr.mono (by decide)) rfl G_all_worths.mg G_all_worths.kp G_all_worths.bn .nil aY (aa (pv 0) ag)))
   (af (bV (aF vn (aD az (pv 3) (pv 1) (fun _ _=>rfl)) (pv 2) (aN _)) (ao (aM (bK ag))) aR)
   (ao (aM (au (CJ rfl) (by rfl) T.n_sorted pX (aa (aA G_come_to_below.ok (hr.mono (by decide)) rfl G_come_to_below.mg G_come_to_below.kp G_come_to_below.bn .nil aY (aa (pv 0) (aa (pv 3) (aa (pv 1) (aa (pv 2) ag))))) ag)))))),?_⟩
 refine⟨_,rfl,p,m,es,ks,rfl,wc,fun q H1 s1 nq hq=>?_⟩
 have stV:((aZ es ks m).map V.int)[st]?=some (.int (wT es ks st)):=by rw[Jy,pI hs];rfl
 refine⟨_,rfl,_,rfl,q,_,_,_,rfl,rfl,SqL.of hq,ay stV,_,rfl,_,_,rfl,rfl,_,rfl,ite2 (fun c=>?_) (fun c=>?_)⟩
 ·have c':z<=wT es ks st:=of_decide_eq_true c
  refine⟨(by show 0<=sizeLine;exact Ku _),fun l hl=>?_⟩
  exact kk l [] _ (.of (s1.trans (aj hl _))) (c9 tb (s1.trans (aj hl _))) ae (fun _=>rfl) fun y=>absurd c' (by omega +splitDisjunctions)
 ·have c':wT es ks st<z:=by
   have:¬ z<=wT es ks st:=fun y=>c (decide_eq_true y)
   omega +splitDisjunctions
  refine⟨_,rfl,_,rfl,_,rfl,_,rfl,p,q,m,st,es,ks,aZ es ks m,z,rfl,wc.mono s1,hq,jt _ _ _,hs,c9 tb s1,fun d L H2 sm2 tb2 nd hd co al=>?_⟩
  refine⟨d,kvL L,_,rfl,.inl hd,Gq L,fun l out hl pm pw=>?_⟩
  obtain⟨on,rfl,pw2,mem⟩:=DD co.nd pm pw
  rw[iV_map]
  exact kk l on _ ((SmC.of s1).trans (sm2.trans (.of (aj hl _)))) (c9 tb2 (aj hl _)) ae (fun y=>absurd c' (by omega +splitDisjunctions)) fun _=>⟨pw2,fun n=>(mem n).trans (al n)⟩
theorem GN(ns:List Int)(a b:Nat):∃ cs:List Int,cutV (ns.map V.int) (some (a:Int)) (some (b:Int))=cs.map V.int/\cs.length<=b-a:=by
 refine⟨(ns.drop (min a ns.length)).take (min b ns.length-min a ns.length),?_,?_⟩
 ·unfold cutV
  rw[HT.sIx_nat,HT.sIx_nat,Jr,LX,LY]
 ·rw[JP]
  omega
theorem Di{S:Addr->Prop}{PL PS WC p:Addr}{H:Hp}{m:Nat}{es:En}{ts rs:List (List Nat)}{ks:Kn}(h:WebF S PL PS WC H p m es ts rs ks)(kl:ks.length=es.length)(few:es.length<=30)(m10:m<=10)(kin:∀ k∈ks,k.1=0∨k.1=1):WebC PL PS WC H p m es ks:=by
 obtain⟨dx,fs,q1,xs,a,b,c,d,e,f⟩:=h
 exact⟨⟨⟨dx,fs,q1,xs,a,d,e,f⟩,kl,few⟩,⟨dx,fs,a,b.many⟩,m10,kin⟩
def AH(K:Js)(TT:Addr):Sp:=fun vs H Q _=>∃(a:Addr)(ns:List Int),vs = [.ref a]/\SqL K H a (ns.map V.int)/\ns.length<=63/\Tb lqC lpC TT H/\∀ H',Q (.bl true) H'
end
theorem Rc.mono{m:Nat}{R R':Nat->Nat->Bool}{s n:Nat}(h:Rc m R s n)(hR:∀ x y,R x y=true->R' x y=true):Rc m R' s n:=by
 induction h with
 |base=>exact .base
 |step _ hp h2 ih=>exact .step ih hp (hR _ _ h2)
theorem GF(x p:Nat):(x^^^2^p)^^^2^p=x:=by rw[Mi,Nat.xor_self,Nat.xor_zero]
structure WayT(m st goal:Nat)(l:List Nat):Prop where
 hd:l.head?=some st
 ls:l.getLast?=some goal
 nd:l.Nodup
 lt:∀ n∈l,n<2^m
 ad:∀(i x y:Nat),l[i]?=some x->l[i+1]?=some y->∃ p,p<m/\y=x^^^2^p
theorem WayT.rev{m st goal:Nat}{l:List Nat}(h:WayT m st goal l):WayT m goal st l.reverse:=by
 refine⟨by rw[List.head?_reverse];exact h.ls,by rw[List.getLast?_reverse];exact h.hd,List.pairwise_reverse.mpr (h.nd.imp Ne.symm),fun n hn=>h.lt n (MY.mp hn),fun i x y e1 e2=>?_⟩
 have l2:i+1<l.length:=by have:=(Jo.mp e2).1;rwa[MM]at this
 rw[Mx (by omega)]at e1
 rw[Mx l2]at e2
 obtain⟨p,hp,e⟩:=h.ad (l.length-1-(i+1)) y x e2 (by rw[show l.length-1-(i+1)+1=l.length-1-i by omega];exact e1)
 exact⟨p,hp,by rw[e,GF]⟩
theorem WayT.rc{m st goal:Nat}{l:List Nat}{R:Nat->Nat->Bool}(h:WayT m st goal l)(hR:∀ x,∀ n∈l,R x n=true):Rc m R st goal:=by
 have all:∀(i x:Nat),l[i]?=some x->Rc m R st x:=fun i=>by
  induction i with
  |zero =>
   intro x e
   have:=h.hd
   rw[Mo,e]at this
   cases this
   exact .base
  |succ i ih =>
   intro x e
   have l1:=(Jo.mp e).1
   obtain⟨p,hp,rfl⟩:=h.ad i _ x (Jp (by omega)) e
   exact .step (ih _ (Jp (by omega))) hp (hR _ _ (Jq e))
 have:=h.ls
 rw[Nh]at this
 exact all _ _ this
theorem WayT.st{m st goal:Nat}{l:List Nat}(h:WayT m st goal l):st∈l:=List.mem_of_head? h.hd
structure Bk(m st goal:Nat)(L:Ls)(b:List Nat)(o:Option Nat)(i:Nat):Prop where
 hd:(b++o.toList).head?=some goal
 nd:(b++o.toList).Nodup
 ad:∀(k x y:Nat),(b++o.toList)[k]?=some x->(b++o.toList)[k+1]?=some y->∃ p,p<m/\y=x^^^2^p
 sub:∀ n∈b++o.toList,n∈L.map (·.1)
 at_:match o with | none=>i=0/\b.getLast?=some st | some x=>∃(j:Nat)(o':Option Nat),i=j+1/\L[j]?=some (x,o')/\∀ n∈b,∀(k:Nat)(o'':Option Nat),L[k]?=some (n,o'')->j<k
theorem Come.once{m:Nat}{R:Nat->Nat->Bool}{s:Nat}{L:Ls}(h:Come m R s L){i j n:Nat}{o o':Option Nat}(h1:L[i]?=some (n,o))(h2:L[j]?=some (n,o')):i=j:=by
 obtain⟨l1,e1⟩:=Jo.mp h1
 obtain⟨l2,e2⟩:=Jo.mp h2
 have:=(List.nodup_iff_pairwise_ne.mp h.nd)
 rw[Kw]at this
 rcases Mf i j with c | c | c
 ·exact absurd (by rw[Mn,Mn,e1,e2]) (this i j (by rw[Jr];exact l1) (by rw[Jr];exact l2) c)
 ·exact c
 ·exact absurd (by rw[Mn,Mn,e1,e2]) (this j i (by rw[Jr];exact l2) (by rw[Jr];exact l1) c)
theorem Bk.start{m st goal:Nat}{R:Nat->Nat->Bool}{L:Ls}(h:goal∈L.map (·.1)):∃ i,Bk m st goal L [] (some goal) i:=by
 obtain⟨⟨x,o⟩,hm,rfl⟩:=Kb.mp h
 obtain⟨j,hj⟩:=Kd.mp hm
 refine⟨j+1,rfl,Jz.mpr ⟨KG,K6⟩,fun k x y e1 e2=>?_,fun n hn=>?_,j,o,rfl,hj,fun n hn=>nomatch hn⟩
 ·cases k<;>cases e2
 ·rw[JI.mp hn];exact h
theorem Bk.step{m st goal:Nat}{R:Nat->Nat->Bool}{L:Ls}(c:Come m R st L){b:List Nat}{x i:Nat}(h:Bk m st goal L b (some x) i):∃(o:Option Nat)(i':Nat),(∃ j:Nat,L[j]?=some (x,o))/\i'<i/\Bk m st goal L (b++[x]) o i':=by
 obtain⟨h1,h2,h3,h4,j,o,rfl,hj,h5⟩:=h
 by_cases j0:j=0
 ·subst j0
  have:=c.hd
  rw[hj]at this
  cases this
  refine⟨none,0,⟨0,hj⟩,Nat.succ_pos _,?_,?_,?_,?_,rfl,by rw[List.getLast?_append];rfl⟩
  ·rw[show(none:Option Nat).toList = [] from rfl,KJ];exact h1
  ·rw[show(none:Option Nat).toList = [] from rfl,KJ];exact h2
  ·rw[show(none:Option Nat).toList = [] from rfl,KJ];exact h3
  ·rw[show(none:Option Nat).toList = [] from rfl,KJ];exact h4
 ·obtain⟨k,x',o',p,kj,hk,rfl,hp,e,hR⟩:=c.par j x o hj (MN j0)
  have far:∀ n∈b++[x],∀(k':Nat)(o'':Option Nat),L[k']?=some (n,o'')->k<k':=fun n hn k' o'' e'=>by
   rcases JA.mp hn with z | z
   ·have:=h5 n z k' o'' e';omega
   ·rw[JI.mp z]at e'
    have:=c.once hj e'
    omega
  refine⟨some x',k+1,⟨j,hj⟩,by omega,?_,?_,?_,?_,k,o',rfl,hk,far⟩
  ·rw[List.head?_append,show b++[x]=b++(some x).toList from rfl,h1];rfl
  ·refine JE.mpr ⟨h2,Jz.mpr ⟨KG,K6⟩,fun a ha d hd e=>?_⟩
   have:d=x':=JI.mp hd
   rw[e,this]at ha
   exact absurd (far x' ha k o' hk) (KD _)
  ·intro k' u v e1 e2
   have lb:(b++[x]).length=b.length+1:=by rw[Jt,JF]
   have l2:=(Jo.mp e2).1
   rw[Jt,lb,show(some x').toList = [x'] from rfl,JF]at l2
   rw[Jx (by rw[lb];omega)]at e1
   by_cases z:k'+1<b.length+1
   ·rw[Jx (by rw[lb];exact z)]at e2
    exact h3 k' u v e1 e2
   ·have z2:k'=b.length:=by omega
    subst z2
    rw[Jv (Jw _),JV]at e1
    rw[Jv (by rw[lb];exact Jw _),lb,JV]at e2
    cases e1
    cases e2
    exact⟨p,hp,by rw[e,GF]⟩
  ·intro n hn
   rcases JA.mp hn with z | z
   ·exact h4 n z
   ·rw[JI.mp z];exact Kb.mpr ⟨_,Jq hk,rfl⟩
theorem Bk.fin{m st goal:Nat}{R:Nat->Nat->Bool}{L:Ls}(c:Come m R st L){b:List Nat}{i:Nat}(h:Bk m st goal L b none i):WayT m st goal b.reverse/\∀ n∈b.reverse,n∈L.map (·.1):=by
 obtain⟨h1,h2,h3,h4,h5,h6⟩:=h
 rw[show(none:Option Nat).toList = [] from rfl,KJ]at h1 h2 h3 h4
 exact⟨WayT.rev (st:=goal) (goal:=st) ⟨h1,h6,h2,fun n hn=>c.lt n (h4 n hn),h3⟩,fun n hn=>h4 n (MY.mp hn)⟩
theorem kvL_at{L:Ls}{j x:Nat}{o:Option Nat}(nd:(L.map (·.1)).Nodup)(h:L[j]?=some (x,o)):valV (kvL L) (Sum.inl (x:Int))=some (oNV o):=by
 have hm:=Jq h
 clear h
 induction L with
 |nil=>cases hm
 |cons y L ih =>
  rw[Kl,Jz]at nd
  rcases Ju.mp hm with z | z
  ·subst z
   unfold kvL valV
   simp
  ·have ne:y.1≠x:=fun e=>nd.1 (by rw[e];exact Kb.mpr ⟨_,z,rfl⟩)
   have ih:=ih nd.2 z
   have ne2:¬ (Sum.inl (y.1:Int):Key)=Sum.inl (x:Int):=fun e=>ne (by have:=Sum.inl.inj e;omega)
   unfold kvL valV at ih ⊢
   rw[Kl]
   simp only[Lz,ne2,decide_false]
   exact ih
theorem IE{hs:List Int}(pw:hs.Pairwise (· < ·)){k:Nat}{h h' x:Int}(hk:hs[k+1]?=some h)(hk':hs[k]?=some h')(hx:x∈hs)(lt:x<h):x<=h':=by
 obtain⟨i,hi,rfl⟩:=Lf hx
 obtain⟨l1,e1⟩:=Jo.mp hk
 obtain⟨l2,e2⟩:=Jo.mp hk'
 have pg:=Kw.mp pw
 rcases Mf i k with c | c | c
 ·have:=pg i k hi l2 c
  omega
 ·subst c;omega
 ·by_cases c2:i=k+1
  ·subst c2;omega
  ·have:=pg (k+1) i l1 hi (by omega)
   omega
theorem no_way{m st goal:Nat}{f:Nat->Int}{hs:List Int}{ends:Int}(hst:st<2^m)(hen:f st<=ends/\f goal<=ends/\(ends=f st∨ends=f goal))(pw:hs.Pairwise (· < ·))(mem:∀ x,x∈hs↔(∃ n,n<2^m/\f n=x)/\ends<=x)(hg:goal<2^m){k:Nat}{h:Int}(hk:hs[k]?=some h)
  (no:∀(i:Nat)(h':Int),i<k->hs[i]?=some h'->¬ Rc m (fun _ y=>decide (f y<h'+1)) st goal) (lo:f st<h):¬ Rc m (fun _ y=>decide (f y<h)) st goal:=fun r=>by
 have ein:ends∈hs:=(mem ends).mpr ⟨hen.2.2.elim (fun e=>⟨st,hst,e.symm⟩) fun e=>⟨goal,hg,e.symm⟩,K4 _⟩
 have he:ends<=h:=((mem h).mp (Jq hk)).2
 have lg:=r.low lo
 cases k with
 |zero =>
  obtain⟨i,hi,e⟩:=Lf ein
  obtain⟨l1,e1⟩:=Jo.mp hk
  have h0:h<=ends:=by
   by_cases c:i=0
   ·subst c;omega
   ·have:=Kw.mp pw 0 i l1 hi (MN c)
    omega
  rcases hen.2.2 with z | z<;>omega
 |succ k =>
  have l1:=(Jo.mp hk).1
  obtain⟨h',hk'⟩:∃ h',hs[k]?=some h':=⟨_,Jp (by omega)⟩
  refine no k h' (KA _) hk' ?_
  have all:∀ n,Rc m (fun _ y=>decide (f y<h)) st n->Rc m (fun _ y=>decide (f y<h'+1)) st n:=fun n r=>by
   induction r with
   |base=>exact .base
   | @step x p r2 hp hR ih =>
    refine .step ih hp (decide_eq_true ?_)
    have hR':f (x^^^2^p)<h:=of_decide_eq_true hR
    by_cases c:ends<=f (x^^^2^p)
    ·have:=IE pw hk hk' ((mem _).mpr ⟨⟨_,lU (r2.lt hst) hp,rfl⟩,c⟩) hR'
     omega
    ·have he':ends<=h':=((mem h').mp (Jq hk')).2
     omega
  exact all _ r
theorem rc_all{m:Nat}{R:Nat->Nat->Bool}{st:Nat}(hst:st<2^m)(hR:∀ x y,y<2^m->R x y=true):∀ goal,goal<2^m->Rc m R st goal:=by
 have go:∀(k:Nat)(goal:Nat),k<=m->goal<2^m->(∀ p,k<=p->(goal^^^st).testBit p=false)->Rc m R st goal:=fun k=>by
  induction k with
  |zero =>
   intro goal _ _ h
   have:goal^^^st=0:=LD fun i=>by rw[h i (Ku _),Mm]
   have e:goal=st:=by have:=congrArg (·^^^st) this;simpa[Mi] using this
   rw[e]
   exact .base
  |succ k ih =>
   intro goal hk hg h
   by_cases c:(goal^^^st).testBit k=true
   ·have hg2:=lU (p:=k) hg (by omega)
    have r:=ih (goal^^^2^k) (by omega) hg2 fun p hp=>by
     rw[show goal^^^2^k^^^st=(goal^^^st)^^^2^k by rw[Mi,Nat.xor_comm (2^k) st,← Mi],M5,MK]
     by_cases e:p=k
     ·subst e;rw[c,decide_eq_true rfl];rfl
     ·rw[h p (by omega),decide_eq_false (fun z=>e z.symm)];rfl
    have:=Rc.step r (show k<m by omega) (hR _ _ (by rw[GF];exact hg))
    rw[GF]at this
    exact this
   ·refine ih goal (by omega) hg fun p hp=>?_
    by_cases e:p=k
    ·subst e;simpa using c
    ·exact h p (by omega)
 intro goal hg
 refine go m goal (Jw _) hg fun p hp=>?_
 refine Nat.testBit_lt_two_pow (Ki (Nat.xor_lt_two_pow hg hst) (MB (by decide) hp))
end K8
namespace K8
open PySem L2
local macro_rules | `(tactic| walk_at "cc") => `(tactic| first | exact ⟨by decide, by decide⟩ | (show (0 : Int) < _; decide) | (show (0 : Int) < _; omega) | (show (0 : Int) ≤ _; omega) | exact ⟨by decide, by decide, by decide⟩ | exact ⟨by omega, by omega, by decide⟩ | exact Or.inl ⟨by decide, by decide⟩ | exact Or.inl ⟨by omega, by omega⟩)
local macro_rules | `(tactic| walk_at "rd") => `(tactic| repeat (first | refine ⟨_, rfl, ?_⟩ | refine ⟨_, _, rfl, rfl, ?_⟩ | refine ⟨rfl, ?_⟩ | (refine ⟨?cc, ?_⟩; (case cc => walk_at "cc"))))
structure TxtK(mg:Str->Option Value):Prop extends TxtC mg where
 n_reversed:mg "reversed" = none
 n_set:mg "set" = none
def xJ:Sp:=fun vs H Q _=>∃(d:Addr)(m st goal:Nat)(R:Nat->Nat->Bool)(L:Ls),vs = [.ref d,.int (goal:Int)]/\H d=some (.dK (kvL L))/\Come m R st L/\m<=10/\goal∈L.map (·.1) /\
 ∀(q:Addr)(l:List Nat)(H':Hp),Same H H'->H' q=some (.lst (l.map iV))->WayT m st goal l->(∀ n∈l,n∈L.map (·.1))->Q (.ref q) H'
def rY(TT PL PS WC:Addr):Sp:=fun vs H Q _=>∃(p q qh:Addr)(m st goal:Nat)(es:En)(ks:Kn)(cs hs:List Int),vs = [.ref p,.ref q,.ref qh,.int (st:Int),.int (goal:Int)]/\WebC PL PS WC H p m es ks/\H q=some (.lst (cs.map V.int))/\cs.length=2^m/\H qh=some (.lst (hs.map V.int))/\hs.Pairwise (· < ·)/\0<hs.length/\hs.length<=1024/\st<2^m/\Tb lqC lpC TT H/\Rc m (fun _ y=>decide (cs.getD y 0<hs.getD (hs.length-1) 0+1)) st goal /\
 ∀(k:Nat)(h:Int)(H':Hp),SmC H H'->Tb lqC lpC TT H'->hs[k]?=some h->Rc m (fun _ y=>decide (cs.getD y 0<h+1)) st goal->(∀(i:Nat)(h':Int),i<k->hs[i]?=some h'->¬ Rc m (fun _ y=>decide (cs.getD y 0<h'+1)) st goal)->Q (.int h) H'
def xW(TT PL PS WC:Addr):Sp:=fun vs H Q _=>∃(p:Addr)(m st goal:Nat)(es:En)(ks:Kn),vs = [.ref p,.int (st:Int),.int (goal:Int)]/\WebC PL PS WC H p m es ks/\st<2^m/\goal<2^m/\Tb lqC lpC TT H /\
 ∀(t q:Addr)(l:List Nat)(h:Int)(H':Hp),SmC H H'->Tb lqC lpC TT H'->H' t=some (.tup [.int h,.ref q])->H' q=some (.lst (l.map iV))->WayT m st goal l->(∀ n∈l,wT es ks n<=h)->(wT es ks st<h->¬ Rc m (fun _ y=>decide ((aZ es ks m).getD y 0<h)) st goal)->Q (.ref t) H'
section
variable{P:Program}{w:World}{K:Js}{mg:Str->Option Value}{base:Heap}
theorem kh:aE ["ahead","goal","back","here"] ["ahead","goal"] (ah i9):=⟨rfl,rfl,rfl,by decide +kernel,rfl,by decide +kernel,by decide +kernel⟩
theorem FX{f:Addr}{fd:FuncData} (F:Fun K "way_to" "way_to" i9 f fd) (T:TxtK mg):FnOk P w K mg base CX0 1 f fd ["ahead","goal"] xJ:=by
 refine F.ok kh (fun vs H Q E h=>?_) (fun cdv A outer s H vs Q E hr h=>?_)
 ·obtain⟨d,m,st,goal,R,L,rfl,_⟩:=h
  rfl
 obtain⟨d,m,st,goal,R,L,rfl,hd,co,m10,hg,kk⟩:=h
 have hu:=wb hr
 obtain⟨q1,q2,q3,q4⟩:=kr m10
 refine⟨_,(af (ar (i:=2) kh.nd rfl (Or.inl rfl) (bK ag))
   (af (ar (i:=3) kh.nd rfl (Or.inl rfl) (pv 1))
   (af (kq PassesOwn.never (aF Ig (pv 3) Hi (aN _)) (af (bp (ij JY Kq Ko bz (pv 2) (aa (pv 3) ag)))
   (ao (ar (i:=3) kh.nd rfl (Or.inl rfl) (yF hu (pv 0) (pv 3) (fun _ _=>rfl))))))
   (ao (aM (BM rfl rfl T.n_list rfl T.n_reversed (pv 2))))))),?_⟩
 refine⟨(by show 0<=sizeLine;exact Ku _),fun q hq=>?_⟩
 have sq:=aj hq (.lst [])
 obtain⟨i0,b0⟩:=Bk.start (m:=m) (st:=st) (R:=R) hg
 have nq:H q=none:=hq
 have dq:d≠q:=fun z=>by rw[← z,hd]at hq;cases hq
 refine⟨_,rfl,fun mm σ H'=>∃(b:List Nat)(o:Option Nat),σ = [some (.ref d),some (.int (goal:Int)),some (.ref q),some (oNV o)]/\Same H H'/\H' q=some (.lst (b.map iV))/\Bk m st goal L b o mm,⟨_,[],some goal,rfl,sq,ae,b0⟩,?_⟩
 rintro mm σ H2 ⟨b,o,rfl,s2,hq2,bk⟩
 refine⟨_,rfl,rfl,_,rfl,ite2 (fun c=>?_) (fun c=>?_)⟩
 ·obtain⟨x,rfl⟩:∃ x,o=some x:=by
   cases o with
   |none=>exact absurd c (by simp[oNV])
   |some x=>exact⟨x,rfl⟩
  obtain⟨o2,i2,⟨j,hj⟩,lt,bk2⟩:=bk.step co
  have bl:b.length<=1024:=Ky (dz (JE.mp bk.nd).1 fun n hn=>co.lt n (bk.sub n (Kh _ hn))) (by omega +splitDisjunctions)
  refine⟨fun σ' H'=>∃(mm':Nat)(b:List Nat)(o:Option Nat),mm'<mm/\σ' = [some (.ref d),some (.int (goal:Int)),some (.ref q),some (oNV o)]/\Same H H'/\H' q=some (.lst (b.map iV))/\Bk m st goal L b o mm',fun σ' H' ⟨mm',b,o,lt,r⟩=>⟨mm',lt,b,o,r⟩,?_⟩
  refine⟨_,rfl,.inl ⟨rfl,_,SqL.of hq2⟩,_,rfl,q,_,_,rfl,rfl,hq2,(by rw[Jr];exact Lk bl (by decide)),?_⟩
  have hd2:(upd H2 q (.lst (b.map iV++[V.int (x:Int)]))) d=some (.dK (kvL L)):=by rw[ak dq];exact s2 _ _ hd
  have dg:=DGet.k (k:=Sum.inl (x:Int)) hd2
  rw[kvL_at co.nd hj]at dg
  refine⟨_,rfl,_,rfl,d,_,rfl,dg,i2,b++[x],o2,lt,rfl,bg s2 nq _,?_,bk2⟩
  rw[ae,JX]
  rfl
 ·obtain rfl:o=none:=by
   cases o with
   |none=>rfl
   |some x=>exact absurd (by simp[oNV]) c
  obtain⟨wy,sub⟩:=bk.fin co
  refine⟨_,rfl,q,_,rfl,SqL.of hq2,fun q' hq'=>?_⟩
  exact kk q' b.reverse _ (s2.trans (aj hq' _)) (by rw[ae,List.map_reverse]) wy sub
theorem br:aE ["web","costs","heights","start","goal","lower","upper","middle"] ["web","costs","heights","start","goal"] (ah bH):=⟨rfl,rfl,rfl,by decide +kernel,rfl,by decide +kernel,by decide +kernel⟩
theorem D2{f f1 TT PL PS WC:Addr}{fd d1:FuncData} (F:Fun K "least_height" "least_height" bH f fd) (T:TxtC mg) (G_come_to_below:Cal P w K mg base 3 "come_to_below" ["web","costs","start","height"] (ox TT PL PS WC) f1 d1):FnOk P w K mg base CX0 4 f fd ["web","costs","heights","start","goal"] (rY TT PL PS WC):=by
 refine F.ok br (fun vs H Q E h=>?_) (fun cdv A outer s H vs Q E hr h=>?_)
 ·obtain⟨p,q,qh,m,st,goal,es,ks,cs,hs,rfl,_⟩:=h
  rfl
 obtain⟨p,q,qh,m,st,goal,es,ks,cs,hs,rfl,wc,hq,cl,hqh,pw,h0,h1,hst,tb,top,kk⟩:=h
 have hu:=wb hr
 refine⟨_,(af (ar (i:=5) br.nd rfl (Or.inl rfl) ai)
   (af (ar (i:=6) br.nd rfl (Or.inl rfl) (av mD (au aq (by rfl) T.n_len a8 (aa (pv 2) ag)) ai))
   (af (kq PassesOwn.never (aF sQ (pv 5) (pv 6) (aN _)) (af (ar (i:=7) br.nd rfl (Or.inl rfl) (av cE (av bA (pv 5) (pv 6)) ai))
   (ao (bV (qY (AV hu (pv 4) (aA G_come_to_below.ok (hr.mono (by decide)) rfl G_come_to_below.mg G_come_to_below.kp G_come_to_below.bn .nil aY (aa (pv 0) (aa (pv 1) (aa (pv 3) (aa (av bA (aD az (pv 2) (pv 7) (fun _ _=>rfl)) ai) ag))))))) (ao (ar (i:=6) br.nd rfl (Or.inl rfl) (pv 7))) (ao (ar (i:=5) br.nd rfl (Or.inl rfl) (av bA (pv 7) ai)))))))
   (ao (aM (aD az (pv 2) (pv 5) (fun _ _=>rfl))))))),?_⟩
 have hl:(hs.map V.int).length=hs.length:=Jr _
 refine⟨_,rfl,qh,_,rfl,.inl (SqL.of hqh),_,_,rfl,rfl,?_⟩
 have e0:((hs.map V.int).length:Int)-1=((hs.length-1:Nat):Int):=by omega +splitDisjunctions
 dsimp only
 rw[e0]
 have hV:∀ i,i<hs.length->(hs.map V.int)[i]?=some (.int (hs.getD i 0)):=fun i hi=>by rw[Jy,Ka,Jp hi];rfl
 refine⟨fun mm σ H'=>∃(lo up:Nat)(v7:Option V),mm=up-lo/\σ = [some (.ref p),some (.ref q),some (.ref qh),some (.int (st:Int)),some (.int (goal:Int)),some (.int (lo:Int)),some (.int (up:Int)),v7]/\SmC H H'/\Tb lqC lpC TT H'/\lo<=up/\up<hs.length/\Rc m (fun _ y=>decide (cs.getD y 0<hs.getD up 0+1)) st goal/\∀ i,i<lo->¬ Rc m (fun _ y=>decide (cs.getD y 0<hs.getD i 0+1)) st goal,⟨_,0,hs.length-1,_,rfl,rfl,.of fun _ _ e=>e,tb,Ku _,by omega +splitDisjunctions,top,fun i hi=>absurd hi (Ln _)⟩,?_⟩
 rintro mm σ H2 ⟨lo,up,v7,rfl,rfl,sm2,tb2,lu,ul,rc,no⟩
 have hqh2:=sm2.lst hqh
 refine⟨_,rfl,_,rfl,_,_,rfl,rfl,_,rfl,ite2 (fun c=>?_) (fun c=>?_)⟩
 ·have c':lo<up:=by have:(lo:Int)<(up:Int):=of_decide_eq_true c;omega +splitDisjunctions
  refine⟨fun σ' H'=>∃(lo' up':Nat)(v7:Option V),up'-lo'<up-lo/\σ' = [some (.ref p),some (.ref q),some (.ref qh),some (.int (st:Int)),some (.int (goal:Int)),some (.int (lo':Int)),some (.int (up':Int)),v7]/\SmC H H'/\Tb lqC lpC TT H'/\lo'<=up'/\up'<hs.length/\Rc m (fun _ y=>decide (cs.getD y 0<hs.getD up' 0+1)) st goal/\∀ i,i<lo'->¬ Rc m (fun _ y=>decide (cs.getD y 0<hs.getD i 0+1)) st goal,fun σ' H' ⟨lo',up',v7,a1,a2⟩=>⟨_,a1,lo',up',v7,rfl,a2⟩,?_⟩
  refine⟨_,rfl,_,rfl,_,_,rfl,rfl,_,_,rfl,rfl,⟨by decide,by decide⟩,?_⟩
  dsimp only
  rw[show((lo:Int)+(up:Int))/2=(((lo+up)/2:Nat):Int) by omega +splitDisjunctions]
  have m1:(lo+up)/2<up:=by omega +splitDisjunctions
  have m2:lo<=(lo+up)/2:=by omega +splitDisjunctions
  generalize (lo+up)/2=mid at m1 m2
  refine⟨_,rfl,_,rfl,_,rfl,_,rfl,_,rfl,_,rfl,qh,_,_,_,rfl,rfl,SqL.of hqh2,ay (hV mid (by omega +splitDisjunctions)),_,_,rfl,rfl,p,q,m,st,es,ks,cs,hs.getD mid 0+1,rfl,wc.sm sm2,sm2.lst hq,cl,hst,tb2,fun d L H3 sm3 tb3 nd hd co al=>?_⟩
  refine⟨d,_,rfl,DGet.k (k:=Sum.inl (goal:Int)) hd,_,rfl,?_⟩
  rw[zk L goal]
  have sm:=sm2.trans sm3
  refine ite2 (fun c2=>?_) (fun c2=>?_)
  ·have r:=(al goal).mp (of_decide_eq_true c2)
   exact⟨_,rfl,lo,mid,_,by omega +splitDisjunctions,rfl,sm,tb3,m2,by omega +splitDisjunctions,r,no⟩
  ·refine⟨_,rfl,_,_,rfl,rfl,mid+1,up,some (.int (mid:Int)),by omega +splitDisjunctions,?_,sm,tb3,by omega +splitDisjunctions,ul,rc,fun i hi r=>?_⟩
   ·dsimp only
    rw[show(mid:Int)+1=((mid+1:Nat):Int) by omega +splitDisjunctions]
    rfl
   ·refine c2 (decide_eq_true ((al goal).mpr (r.mono fun x y hy=>decide_eq_true ?_)))
    have h1:cs.getD y 0<hs.getD i 0+1:=of_decide_eq_true hy
    have h2:hs.getD i 0<=hs.getD mid 0:=by
     by_cases e:i=mid
     ·subst e;exact K4 _
     ·have:=Kw.mp pw i mid (by omega +splitDisjunctions) (by omega +splitDisjunctions) (by omega +splitDisjunctions)
      rw[Ka,Ka,Jp (show i<hs.length by omega +splitDisjunctions),Jp (show mid<hs.length by omega +splitDisjunctions)]
      exact K2 this
    omega +splitDisjunctions
 ·have c':lo=up:=by
   have:¬ (lo:Int)<(up:Int):=fun z=>c (decide_eq_true z)
   omega +splitDisjunctions
  subst c'
  have at_:∀ i,i<hs.length->hs[i]?=some (hs.getD i 0):=fun i hi=>by rw[Ka,Jp hi];rfl
  refine⟨_,rfl,_,rfl,qh,_,_,_,rfl,rfl,SqL.of hqh2,ay (hV lo ul),?_⟩
  refine kk lo _ H2 sm2 tb2 (at_ lo ul) rc fun i h' hi e=>?_
  rw[at_ i (by omega +splitDisjunctions)]at e
  cases e
  exact no i hi
theorem ki:aE ["web","start","goal","costs","ends","heights","height"] ["web","start","goal"] (ah lA):=⟨rfl,rfl,rfl,by decide +kernel,rfl,by decide +kernel,by decide +kernel⟩
theorem F7{f f1 f2 f3 f4 TT PL PS WC:Addr}{fd d1 d2 d3 d4:FuncData} (F:Fun K "climb" "climb" lA f fd) (T:TxtK mg) (G_all_worths:Cal P w K mg base 5 "all_worths" ["web"] (AJ PL PS WC) f1 d1) (G_come_to_below:Cal P w K mg base 3 "come_to_below" ["web","costs","start","height"] (ox TT PL PS WC) f2 d2) (G_least_height:Cal P w K mg base 4 "least_height" ["web","costs","heights","start","goal"] (rY TT PL PS WC) f3 d3) (G_way_to:Cal P w K mg base 1 "way_to" ["ahead","goal"] xJ f4 d4):FnOk P w K mg base CX0 6 f fd ["web","start","goal"] (xW TT PL PS WC):=by
 refine F.ok ki (fun vs H Q E h=>?_) (fun cdv A outer s H vs Q E hr h=>?_)
 ·obtain⟨p,m,st,goal,es,ks,rfl,_⟩:=h
  rfl
 obtain⟨p,m,st,goal,es,ks,rfl,wc,hst,hg,tb,kk⟩:=h
 have hu:=wb hr
 refine⟨_,(af (ar (i:=3) ki.nd rfl (Or.inl rfl) (aA G_all_worths.ok (hr.mono (by decide)) rfl G_all_worths.mg G_all_worths.kp G_all_worths.bn .nil aY (aa (pv 0) ag)))
   (af (ar (i:=4) ki.nd rfl (Or.inr rfl) (au (wM rfl) (by rfl) T.n_max E3 (aa (aD az (pv 3) (pv 1) (fun _ _=>rfl)) (aa (aD az (pv 3) (pv 2) (fun _ _=>rfl)) ag))))
   (af (ar (i:=5) ki.nd rfl (Or.inl rfl) (au (CI rfl rfl rfl) (by rfl) T.n_sorted pX (aa (gy (EZ rfl rfl rfl rfl) (by rfl) T.n_set bt_set (aa (AU rfl (fr:=[("ends",4)]) (xs:=["cost"]) (uE.of (by rfl) (by decide +kernel) (by rfl) (by decide +kernel) (by intro p hp;simp only[Ju,KG,or_false]at hp;rcases hp with rfl<;>exact⟨rfl,rfl⟩) (by decide +kernel) (by intro p hp;simp only[Ju,KG,or_false]at hp;rcases hp with rfl<;>rfl)) (bx (pv 3)) (fun C ex s H=>(aX (i:=0) (show(["cost","ends"]:List Str).Nodup from by decide +kernel) rfl (Or.inl rfl))) (fun C ex s H=>(HW (aF vn (pv 0) (pv 1) (aN _)))) (fun C ex s H=>(pv 0))) ag)) ag)))
   (af (ar (i:=6) ki.nd rfl (Or.inl rfl) (aA G_least_height.ok (hr.mono (by decide)) rfl G_least_height.mg G_least_height.kp G_least_height.bn .nil aY (aa (pv 0) (aa (pv 3) (aa (pv 5) (aa (pv 1) (aa (pv 2) ag)))))))
   (ao (aM (jx (aa (pv 6) (aa (aA G_way_to.ok (hr.mono (by decide)) rfl G_way_to.mg G_way_to.kp G_way_to.bn .nil aY (aa (aA G_come_to_below.ok (hr.mono (by decide)) rfl G_come_to_below.mg G_come_to_below.kp G_come_to_below.bn .nil aY (aa (pv 0) (aa (pv 3) (aa (pv 1) (aa (av bA (pv 6) ai) ag))))) (aa (pv 2) ag))) ag))))))))),?_⟩
 have m10:=wc.m10
 obtain⟨w1,w2,w3,w4⟩:=kr m10
 have cl:=jt es ks m
 have cV:∀ n,n<2^m->((aZ es ks m).map V.int)[n]?=some (.int (wT es ks n)):=fun n hn=>by rw[Jy,pI hn];rfl
 refine⟨_,rfl,p,m,es,ks,rfl,wc,fun q H1 s1 nq hq=>?_⟩
 refine⟨_,rfl,_,rfl,q,_,_,_,rfl,rfl,SqL.of hq,ay (cV st hst),_,rfl,_,rfl,q,_,_,_,rfl,rfl,SqL.of hq,ay (cV goal hg),_,_,rfl,?_⟩
 have hen:wT es ks st<=(if wT es ks goal > wT es ks st then wT es ks goal else wT es ks st)/\wT es ks goal<=(if wT es ks goal > wT es ks st then wT es ks goal else wT es ks st)/\((if wT es ks goal > wT es ks st then wT es ks goal else wT es ks st)=wT es ks st∨(if wT es ks goal > wT es ks st then wT es ks goal else wT es ks st)=wT es ks goal):=by
  split
  ·exact⟨by omega +splitDisjunctions,by omega +splitDisjunctions,.inr rfl⟩
  ·exact⟨by omega +splitDisjunctions,by omega +splitDisjunctions,.inl rfl⟩
 generalize (if wT es ks goal > wT es ks st then wT es ks goal else wT es ks st)=en at hen
 generalize hcs:aZ es ks m=cs at hq cl cV
 have fw:∀ n,n<2^m->cs.getD n 0=wT es ks n:=fun n hn=>by rw[← hcs];exact bT hn
 refine⟨_,rfl,q,rfl,⟨_,SqL.of hq⟩,CG (K:=K) (xs:=cs.map V.int) (fun i zs H2=>H2=H1/\zs=((cs.take i).filter (fun x=>decide (en<=x))).map V.int) (by rw[Jr,cl];exact Ky (show 2^m<=1024 by omega +splitDisjunctions) (by decide)) ⟨rfl,rfl⟩ (fun i zs H2 _ z=>by rw[z.1];exact SqL.of hq) ?_ ?_ (fun n zs H7 z=>by
  rw[z.2,Jr]
  have:=List.length_filter_le (fun x=>decide (en<=x)) (cs.take n)
  rw[JP]at this
  omega +splitDisjunctions)⟩
 ·rintro i x zs H2 hx ⟨rfl,rfl⟩
  rw[Jy]at hx
  obtain⟨x,hx',rfl⟩:=Kj.mp hx
  have et:cs.take (i+1)=cs.take i++[x]:=by rw[Kv,hx'];rfl
  refine⟨rfl,_,rfl,_,rfl,_,_,rfl,rfl,_,rfl,ite2 (fun c=>?_) (fun c=>?_)⟩
  ·have c':en<=x:=of_decide_eq_true c
   refine⟨_,rfl,rfl,?_⟩
   rw[et,List.filter_append,List.filter_cons_of_pos (p:=fun x=>decide (en<=x)) (decide_eq_true c'),List.filter_nil,JX]
   rfl
  ·have c':¬ en<=x:=fun z=>c (decide_eq_true z)
   refine⟨rfl,?_⟩
   rw[et,List.filter_append,List.filter_cons_of_neg (p:=fun x=>decide (en<=x)) (by rw[decide_eq_false c'];exact JZ),List.filter_nil,KJ]
 rintro zs H2 ⟨rfl,rfl⟩ D hD
 rw[Jr,KL]
 have fl:=List.length_filter_le (fun x=>decide (en<=x)) cs
 refine⟨D,_,rfl,SqL.of ae,by omega +splitDisjunctions,fun a ha=>?_⟩
 have sD:=aj hD (.lst ((cs.filter (fun x=>decide (en<=x))).map V.int))
 have sa:=aj ha (setO P w a ((cs.filter (fun x=>decide (en<=x))).foldl addN []))
 refine⟨a,_,rfl,ae,fun l hs hl mem0 pw=>?_⟩
 have sl:=aj hl (.lst (hs.map V.int))
 have mem:∀ x,x∈hs↔(∃ n,n<2^m/\cs.getD n 0=x)/\en<=x:=fun x=>by
  rw[mem0,G4,M8]
  constructor
  ·rintro(z | ⟨z1,z2⟩)
   ·cases z
   ·obtain⟨n,hn,e⟩:=Lf z1
    refine⟨⟨n,by omega +splitDisjunctions,?_⟩,of_decide_eq_true z2⟩
    rw[Ka,Jp hn]
    exact e
  ·rintro⟨⟨n,hn,e⟩,z⟩
   refine .inr ⟨?_,decide_eq_true z⟩
   rw[Ka,Jp (show n<cs.length by omega +splitDisjunctions)]at e
   rw[← show cs[n]=x from e]
   exact KN _
 have hen':cs.getD st 0<=en/\cs.getD goal 0<=en/\(en=cs.getD st 0∨en=cs.getD goal 0):=by rw[fw st hst,fw goal hg];exact hen
 have ein:en∈hs:=(mem en).mpr ⟨hen'.2.2.elim (fun e=>⟨st,hst,e.symm⟩) fun e=>⟨goal,hg,e.symm⟩,K4 _⟩
 have h0:0<hs.length:=Lh ein
 have h1:hs.length<=1024:=by
  have nd:hs.Nodup:=pw.imp fun h=>Int.ne_of_lt h
  have:=List.Nodup.length_le_of_subset (l₂:=cs) nd fun x hx=>by
   obtain⟨⟨n,hn,e⟩,_⟩:=(mem x).mp hx
   rw[Ka,Jp (show n<cs.length by omega +splitDisjunctions)]at e
   rw[← show cs[n]=x from e]
   exact KN _
  omega +splitDisjunctions
 have top:Rc m (fun _ y=>decide (cs.getD y 0<hs.getD (hs.length-1) 0+1)) st goal:=by
  have mx:∀ x∈hs,x<=hs.getD (hs.length-1) 0:=fun x hx=>by
   obtain⟨i,hi,rfl⟩:=Lf hx
   rw[Ka,Jp (show hs.length-1<hs.length by omega +splitDisjunctions)]
   show hs[i]<=hs[hs.length-1]
   by_cases e:i=hs.length-1
   ·subst e;exact K4 _
   ·exact K2 (Kw.mp pw i (hs.length-1) hi (by omega +splitDisjunctions) (by omega +splitDisjunctions))
  refine rc_all hst (fun x y hy=>decide_eq_true ?_) goal hg
  have e1:=mx en ein
  by_cases c:en<=cs.getD y 0
  ·have:=mx _ ((mem _).mpr ⟨⟨y,hy,rfl⟩,c⟩)
   omega +splitDisjunctions
  ·omega +splitDisjunctions
 have s2:=(sD.trans sa).trans sl
 have sm2:=SmC.of (s1.trans s2)
 refine⟨_,rfl,_,rfl,_,rfl,_,rfl,_,rfl,p,q,l,m,st,goal,es,ks,cs,hs,rfl,wc.sm sm2,s2 _ _ hq,cl,ae,pw,h0,h1,hst,c9 tb (s1.trans s2),top,fun k h H3 sm3 tb3 hk rc no=>?_⟩
 have sm23:=sm2.trans sm3
 refine⟨_,rfl,_,rfl,_,rfl,_,rfl,_,rfl,_,_,rfl,rfl,p,q,m,st,es,ks,cs,h+1,rfl,wc.sm sm23,sm3.lst (s2 _ _ hq),cl,hst,tb3,fun d L H4 sm4 tb4 nd hd co al=>?_⟩
 refine⟨_,rfl,d,m,st,goal,_,L,rfl,hd,co,m10,(al goal).mpr rc,fun qw lw H5 s5 hqw wy sub=>⟨(by show 2<=sizeLine;decide),fun t ht=>?_⟩⟩
 have st5:=aj ht (.tup [V.int h,V.ref qw])
 have he:en<=h:=((mem h).mp (Jq hk)).2
 refine kk t qw lw h _ (sm23.trans (sm4.trans (.of (s5.trans st5)))) (c9 tb4 (s5.trans st5)) ae (st5 _ _ hqw) wy (fun n hn=>?_) fun lo=>?_
 ·have r:=(al n).mp (sub n hn)
  have:=r.low (f:=fun y=>cs.getD y 0) (by show cs.getD st 0<h+1;omega +splitDisjunctions)
  have h2:cs.getD n 0<h+1:=this
  rw[fw n (wy.lt n hn)]at h2
  omega +splitDisjunctions
 ·rw[hcs]
  refine no_way (f:=fun y=>cs.getD y 0) hst hen' pw mem hg hk no ?_
  show cs.getD st 0<h
  rw[fw st hst]
  exact lo
end
end K8
namespace K8
open PySem L2
local macro_rules | `(tactic| walk_at "cc") => `(tactic| first | exact ⟨by decide, by decide⟩ | (show (0 : Int) < _; decide) | (show (0 : Int) < _; omega) | (show (0 : Int) ≤ _; omega) | exact ⟨by decide, by decide, by decide⟩ | exact ⟨by omega, by omega, by decide⟩ | exact Or.inl ⟨by decide, by decide⟩ | exact Or.inl ⟨by omega, by omega⟩)
local macro_rules | `(tactic| walk_at "rd") => `(tactic| repeat (first | refine ⟨_, rfl, ?_⟩ | refine ⟨_, _, rfl, rfl, ?_⟩ | refine ⟨rfl, ?_⟩ | (refine ⟨?cc, ?_⟩; (case cc => walk_at "cc"))))
theorem GY{l:List Nat}{n:Nat}(h:(l.map iV)[l.length-1]?=some (iV n)):atI (l.map iV) (-1)=some (iV n):=by
 have l1:=(Jo.mp h).1
 rw[Jr]at l1
 have e:ixN (l.map iV).length (-1)=some (l.length-1):=by
  unfold ixN
  rw[Jr]
  rw[if_neg (by decide),if_pos (by omega)]
  exact congrArg some (by omega)
 show(ixN (l.map iV).length (-1)).bind _=_
 rw[e]
 exact h
theorem Ia:∀ p,p<10->Builtin.bitAnd ((2^p:Nat):Int) (((2^p:Nat):Int)-1)=0:=by decide
def HK(K:Js):Sp:=fun vs H Q _=>∃(q qc:Addr)(m st goal:Nat)(l:List Nat)(cs:List Int)(h:Int),vs = [.ref q,.int (st:Int),.int (goal:Int),.ref qc,.int h]/\H q=some (.lst (l.map iV))/\SqL K H qc (cs.map V.int)/\cs.length=2^m/\m<=10/\WayT m st goal l/\(∀ n∈l,cs.getD n 0<=h)/\(∃ n∈l,cs.getD n 0=h)/\∀ H',Same H H'->Q (.bl true) H'
def Dv(K:Js):Sp:=fun vs H Q _=>∃(fo qc:Addr)(m st goal:Nat)(on:List Nat)(cs:List Int)(z:Int),vs = [.ref fo,.int (st:Int),.int (goal:Int),.ref qc,.int z,.int (m:Int)]/\H fo=some (.lst (on.map iV))/\SqL K H qc (cs.map V.int)/\cs.length=2^m/\m<=10/\st<2^m/\(∀ n∈on,n<2^m/\cs.getD n 0<z)/\on.length<=1024/\goal∉on/\(st∈on↔cs.getD st 0<z)/\(∀ n∈on,∀ p,p<m->cs.getD (n^^^2^p) 0<z->n^^^2^p∈on)/\∀ H',Same H H'->Q (.bl true) H'
section
variable{P:Program}{w:World}{K:Js}{mg:Str->Option Value}{base:Heap}
theorem i8:aE ["way","start","goal","costs","height","seen","k","turned"] ["way","start","goal","costs","height"] (ah gq):=⟨rfl,rfl,rfl,by decide +kernel,rfl,by decide +kernel,by decide +kernel⟩
theorem ok_way{f fn:Addr}{fd dn:FuncData} (F:Fun K "_law_way" "_law_way" gq f fd) (T:TxtK mg) (G_law_number:Cal P w K mg base 1 "_law_number" ["found"] Dy fn dn):FnOk P w K mg base CX0 2 f fd ["way","start","goal","costs","height"] (HK K):=by
 refine F.ok i8 (fun vs H Q E h=>?_) (fun cdv A outer s H vs Q E hr h=>?_)
 ·obtain⟨q,qc,m,st,goal,l,cs,h,rfl,_⟩:=h
  rfl
 obtain⟨q,qc,m,st,goal,l,cs,h,rfl,hq,hqc,cl,m10,wy,le,⟨nm,nml,nme⟩,kk⟩:=h
 have hu:=wb hr
 have hu64:=hr.units
 obtain⟨q1,q2,q3,q4⟩:=kr m10
 refine⟨_,(af (bV (PW.pt (lB (mB (jw (au kW (by rfl) T.n_isinstance cO (aa (pv 0) (aa (oG (v:=.ty "list") rfl T.n_list iS rfl) ag))))) (mz (aF (op_eqG hu64) (pv 0) (bK ag) (aN _))))) (ao (aM jE)) aR)
   (af (ar (i:=5) i8.nd rfl (Or.inl rfl) nZ)
   (af (bW PassesOwn.never rfl (a9 rfl T.n_range (aa (au aq (by rfl) T.n_len a8 (aa (pv 0) ag)) ag)) (aX (i:=6) i8.nd rfl (Or.inl rfl)) (af (bV (PW.pt (lB (mB (jw (aA G_law_number.ok (hr.mono (by decide)) rfl G_law_number.mg G_law_number.kp G_law_number.bn .nil aY (aa (aD az (pv 0) (pv 6) (fun _ _=>rfl)) ag)))) (lB (aF sQ (aD az (pv 0) (pv 6) (fun _ _=>rfl)) ai (aN _)) (lB (aF vn (aD az (pv 0) (pv 6) (fun _ _=>rfl)) (au aq (by rfl) T.n_len a8 (aa (pv 3) ag)) (aN _)) (mz (qY (AV hu (aD az (pv 0) (pv 6) (fun _ _=>rfl)) (pv 5)))))))) (ao (aM jE)) aR)
   (af (oB hu (pv 5) (aD az (pv 0) (pv 6) (fun _ _=>rfl)) jE rfl)
   (ao (bV (aF op_gt (pv 6) ai (aN _)) (af (ar (i:=7) i8.nd rfl (Or.inl rfl) (av vm (aD az (pv 0) (pv 6) (fun _ _=>rfl)) (aD az (pv 0) (av mD (pv 6) ai) (fun _ _=>rfl))))
   (ao (bV (aF nt (av AY (pv 7) (av mD (pv 7) ai)) ai (aN _)) (ao (aM jE)) aR))) aR)))))
   (af (bV (PW.pt (lB (aF nt (aD az (pv 0) ai (fun _ _=>rfl)) (pv 1) (aN _)) (mz (aF nt (aD az (pv 0) (pe_un un_neg ai) (fun _ _=>rfl)) (pv 2) (aN _))))) (ao (aM jE)) aR)
   (ao (aM (sP oI (au (E1 rfl) (by rfl) T.n_max E3 (aa (eG rfl (fr:=[("costs",3)]) (by exact bJ.one (by rfl) (by decide +kernel) (by rfl) (by decide +kernel) (by rfl) (by decide +kernel) (by rfl) (by rfl) (by decide +kernel) (by rfl)) (bx (pv 0)) (fun C ex s H=>(aD (tS (K:=K) rfl) (pv 1) (pv 0) (fun _ _=>rfl)))) ag)) (pv 4) (aN _)))))))),?_⟩
 have ovl:(l.map iV).length=l.length:=Jr _
 have clV:(cs.map V.int).length=2^m:=by rw[Jr,cl]
 have lpos:0<l.length:=Lh wy.st
 have llen:l.length<=2^m:=dz wy.nd wy.lt
 refine⟨_,rfl,_,_,_,_,_,rfl,TyOf.lst hq,Or.inl ⟨_,rfl,rfl⟩,Hl K,_,rfl,iteF ?_⟩
 refine⟨_,rfl,(by show 0<=sizeLine;exact Ku _),fun l0 hl0=>?_⟩
 have sl0:=aj hl0 (.lst [])
 refine⟨_,_,oQ (SqL.of (sl0 _ _ hq)),oQ (ps:=[]) (SqL.of ae),gU _,gU _,_,rfl,?_⟩
 rw[Bf,decide_eq_false (fun y=>by have:=List.map_eq_nil_iff.mp y;rw[this]at lpos;cases lpos)]
 refine iteF ?_
 intro d hd
 have sd:=aj hd (.dK [])
 have s1:=sl0.trans sd
 have nd0:H d=none:=bQ sl0 hd
 have tk:∀{i n:Nat},l[i]?=some n->∀ k,k∈l.take (i+1)↔k∈l.take i∨k=n:=fun{i n} hn k=>by
  rw[Kv,hn]
  show k∈l.take i++[n]↔_
  rw[JA,JI]
 refine⟨_,rfl,q,_,rfl,.inl (SqL.of (s1 _ _ hq)),_,rfl,by omega +splitDisjunctions,by omega +splitDisjunctions,cK (n:=((l.map iV).length:Int).toNat) (fun i σ H2=>∃(v6 v7:Option V)(kvs:List (Key×V)),σ = [some (.ref q),some (.int (st:Int)),some (.int (goal:Int)),some (.ref qc),some (.int h),some (.ref d),v6,v7]/\Same H H2/\H2 d=some (.dK kvs)/\kvs.length<=i/\∀ n:Nat,(valV kvs (Sum.inl (n:Int))).isSome=decide (n∈l.take i)) ⟨_,_,[],rfl,s1,ae,Ku _,fun n=>by rw[decide_eq_false (by simp)];rfl⟩ ?_ ?_⟩
 ·rintro i σ H2 hi ⟨v6,v7,kvs,rfl,s2,hd2,kl,kv⟩
  rw[JC,ovl]at hi
  rw[K9]
  obtain⟨n,hn⟩:∃ n,l[i]?=some n:=⟨_,Jp hi⟩
  have hnV:(l.map iV)[i]?=some (iV n):=by rw[Jy,hn];rfl
  have nlt:=wy.lt n (Jq hn)
  have q2:=s2 _ _ hq
  have nin:n∉l.take i:=fun z=>by
   obtain⟨k,hk,e⟩:=Lf z
   rw[JP]at hk
   rw[LO]at e
   have:=Kw.mp wy.nd k i (by omega +splitDisjunctions) hi (by omega +splitDisjunctions)
   exact this (e.trans (Jo.mp hn).2.symm)
  refine⟨_,rfl,_,rfl,q,_,_,_,rfl,rfl,SqL.of q2,ay hnV,(n:Int),rfl,_,rfl,iteF ?_⟩
  refine⟨_,rfl,_,rfl,q,_,_,_,rfl,rfl,SqL.of q2,ay hnV,_,_,rfl,rfl,_,rfl,ite2 (fun c=>absurd (of_decide_eq_true c) (by omega +splitDisjunctions)) (fun _=>?_)⟩
  refine⟨_,rfl,_,rfl,q,_,_,_,rfl,rfl,SqL.of q2,ay hnV,_,rfl,qc,_,rfl,.inl (s2.seq hqc),_,_,rfl,rfl,_,rfl,ite2 (fun c=>absurd (of_decide_eq_true c) (by rw[clV];omega +splitDisjunctions)) (fun _=>?_)⟩
  refine⟨_,rfl,_,rfl,q,_,_,_,rfl,rfl,SqL.of q2,ay hnV,_,rfl,d,_,rfl,DGet.k (k:=Sum.inl (n:Int)) hd2,_,rfl,?_⟩
  rw[kv n,decide_eq_false nin]
  refine iteF ?_
  refine⟨_,rfl,_,rfl,_,rfl,q,_,_,_,rfl,rfl,SqL.of q2,ay hnV,d,_,rfl,DPut.k (k:=Sum.inl (n:Int)) (v:=.bl true) hd2 (Lk (show kvs.length<=1024 by omega +splitDisjunctions) (by decide)),?_⟩
  have lp:=b9 kvs (Sum.inl (n:Int)) (V.bl true)
  have s3:Same H (upd H2 d (.dK (putK kvs (Sum.inl (n:Int)) (.bl true)))):=bg s2 nd0 _
  have hd3:(upd H2 d (.dK (putK kvs (Sum.inl (n:Int)) (.bl true)))) d=some (.dK (putK kvs (Sum.inl (n:Int)) (.bl true))):=ae
  have kv3:∀ k:Nat,(valV (putK kvs (Sum.inl (n:Int)) (.bl true)) (Sum.inl (k:Int))).isSome=decide (k∈l.take (i+1)):=fun k=>by
   rw[ke]
   by_cases c:k=n
   ·subst c
    rw[if_pos rfl,decide_eq_true ((tk hn k).mpr (.inr rfl))];rfl
   ·rw[if_neg (fun y=>c (by have:=Sum.inl.inj y;omega +splitDisjunctions)),kv k]
    exact decide_eq_decide.mpr ⟨fun z=>(tk hn k).mpr (.inl z),fun z=>((tk hn k).mp z).elim id fun e=>absurd e c⟩
  generalize upd H2 d (.dK (putK kvs (Sum.inl (n:Int)) (.bl true)))=H3 at s3 hd3
  generalize putK kvs (Sum.inl (n:Int)) (.bl true)=kvs3 at hd3 kv3 lp
  refine⟨_,rfl,_,_,rfl,rfl,_,rfl,ite2 (fun c=>?_) (fun c=>?_)⟩
  ·have c':(0:Int)<(i:Int):=of_decide_eq_true c
   obtain⟨n0,hn0⟩:∃ n,l[i-1]?=some n:=⟨_,Jp (by omega +splitDisjunctions)⟩
   have hn0V:(l.map iV)[i-1]?=some (iV n0):=by rw[Jy,hn0];rfl
   have ei:(i:Int)-1=((i-1:Nat):Int):=by omega +splitDisjunctions
   obtain⟨p,hp,e⟩:=wy.ad (i-1) n0 n hn0 (by rw[show i-1+1=i by omega +splitDisjunctions];exact hn)
   have ex:n^^^n0=2^p:=by rw[e,Nat.xor_comm n0,Mi,Nat.xor_self,Nat.xor_zero]
   refine⟨_,rfl,_,rfl,q,_,_,_,rfl,rfl,SqL.of (s3 _ _ hq),ay hnV,_,rfl,_,rfl,_,_,rfl,rfl,q,_,_,_,rfl,rfl,SqL.of (s3 _ _ hq),(by rw[ei];exact ay hn0V),_,_,rfl,rfl,?_⟩
   dsimp only
   rw[xorN,ex]
   refine⟨_,rfl,_,rfl,_,_,rfl,rfl,_,_,rfl,rfl,rfl,_,rfl,?_⟩
   refine ite2 (fun c=>absurd (congrArg V.int (Ia p (by omega +splitDisjunctions))) (of_decide_eq_false ((Ld _).mp c))) (fun _=>?_)
   exact⟨_,_,kvs3,rfl,s3,hd3,by omega +splitDisjunctions,kv3⟩
  ·exact⟨_,_,kvs3,rfl,s3,hd3,by omega +splitDisjunctions,kv3⟩
 rintro σ H2 ⟨v6,v7,kvs,rfl,s2,hd2,kl,kv⟩
 have q2:=s2 _ _ hq
 have a0:(l.map iV)[0]?=some (iV st):=by
  have:=wy.hd
  rw[Mo]at this
  rw[Jy,this];rfl
 have a1:(l.map iV)[l.length-1]?=some (iV goal):=by
  have:=wy.ls
  rw[Nh]at this
  rw[Jy,this];rfl
 refine⟨_,rfl,q,_,_,_,rfl,rfl,SqL.of q2,ay (j:=0) a0,_,rfl,rfl,_,rfl,ite2 (fun c=>absurd rfl (of_decide_eq_false ((Ld _).mp c))) (fun _=>?_)⟩
 refine⟨_,rfl,_,rfl,q,_,_,_,rfl,rfl,SqL.of q2,GY a1,_,rfl,rfl,_,rfl,ite2 (fun c=>absurd rfl (of_decide_eq_false ((Ld _).mp c))) (fun _=>?_)⟩
 have lsz:l.length<=sizeLine:=Ky (show l.length<=1024 by omega +splitDisjunctions) (by decide)
 refine⟨_,rfl,q,rfl,⟨_,SqL.of q2⟩,cN (K:=K) (xs:=l.map iV) (fun j zs H9=>H9=H2/\zs=((l.take j).map fun n=>cs.getD n 0).map V.int) (by rw[ovl];exact lsz) ⟨rfl,rfl⟩ (fun j zs H9 _ y=>y.1▸SqL.of q2) ?_ ?_⟩
 ·rintro j x zs H9 hx ⟨rfl,rfl⟩
  rw[Jy]at hx
  obtain⟨n,hn,rfl⟩:=Kj.mp hx
  have nV:(cs.map V.int)[n]?=some (.int (cs.getD n 0)):=by rw[Jy,zD (by rw[cl];exact wy.lt n (Jq hn))];rfl
  refine⟨_,rfl,_,rfl,qc,_,_,_,rfl,rfl,s2.seq hqc,ay nV,rfl,?_⟩
  rw[Kv,hn,JX,JX]
  rfl
 rintro zs H9 _ ⟨rfl,rfl⟩ D hD
 rw[ovl,KL]
 refine⟨D,l.map fun n=>cs.getD n 0,rfl,SqL.of ae,by rw[Jr];exact lpos,fun mx mem mxl=>?_⟩
 have e:mx=h:=by
  obtain⟨n,hn,e1⟩:=Kb.mp mem
  have h1:=le n hn
  have h2:=mxl _ (Kb.mpr ⟨nm,nml,rfl⟩)
  omega +splitDisjunctions
 subst e
 refine⟨_,rfl,rfl,?_⟩
 rw[decide_eq_true rfl]
 exact kk _ (s2.trans (aj hD _))
theorem cQ:aE ["found","start","goal","costs","height","many","inside","laying","p","other"] ["found","start","goal","costs","height","many"] (ah eg):=⟨rfl,rfl,rfl,by decide +kernel,rfl,by decide +kernel,by decide +kernel⟩
theorem Ij{f fn:Addr}{fd dn:FuncData} (F:Fun K "_law_shut" "_law_shut" eg f fd) (T:TxtK mg) (G_law_number:Cal P w K mg base 1 "_law_number" ["found"] Dy fn dn):FnOk P w K mg base CX0 2 f fd ["found","start","goal","costs","height","many"] (Dv K):=by
 refine F.ok cQ (fun vs H Q E h=>?_) (fun cdv A outer s H vs Q E hr h=>?_)
 ·obtain⟨fo,qc,m,st,goal,on,cs,z,rfl,_⟩:=h
  rfl
 obtain⟨fo,qc,m,st,goal,on,cs,z,rfl,hfo,hqc,cl,m10,hst,hon,ol,gn,sn,cls,kk⟩:=h
 have hu:=wb hr
 have hu64:=hr.units
 obtain⟨q1,q2,q3,q4⟩:=kr m10
 refine⟨_,(af (bV (mB (jw (au kW (by rfl) T.n_isinstance cO (aa (pv 0) (aa (oG (v:=.ty "list") rfl T.n_list iS rfl) ag))))) (ao (aM jE)) aR)
   (af (ar (i:=6) cQ.nd rfl (Or.inl rfl) nZ)
   (af (bW PassesOwn.never rfl (bx (pv 0)) (aX (i:=7) cQ.nd rfl (Or.inl rfl)) (af (bV (PW.pt (lB (mB (jw (aA G_law_number.ok (hr.mono (by decide)) rfl G_law_number.mg G_law_number.kp G_law_number.bn .nil aY (aa (pv 7) ag)))) (lB (aF sQ (pv 7) ai (aN _)) (lB (aF vn (pv 7) (au aq (by rfl) T.n_len a8 (aa (pv 3) ag)) (aN _)) (mz (aF vn (aD az (pv 3) (pv 7) (fun _ _=>rfl)) (pv 4) (aN _))))))) (ao (aM jE)) aR)
   (ao (oB hu (pv 6) (pv 7) jE rfl))))
   (af (bV (PW.pt (lB (qY (AV hu (pv 2) (pv 6))) (mz (aF nt (pe_cmp (AV hu (pv 1) (pv 6))) (sP sQ (aD az (pv 3) (pv 1) (fun _ _=>rfl)) (pv 4) (aN _)) (aN _))))) (ao (aM jE)) aR)
   (af (bW PassesOwn.never rfl (bx (pv 0)) (aX (i:=7) cQ.nd rfl (Or.inl rfl)) (ao (bW PassesOwn.never rfl (a9 rfl T.n_range (aa (pv 5) ag)) (aX (i:=8) cQ.nd rfl (Or.inl rfl)) (af (ar (i:=9) cQ.nd rfl (Or.inl rfl) (av vm (pv 7) (av mF ai (pv 8))))
   (ao (bV (PW.pt (DL (qY (oH hu (pv 9) (pv 6))) (yk (aF sQ (aD az (pv 3) (pv 9) (fun _ _=>rfl)) (pv 4) (aN _))))) (ao (aM jE)) aR))))))
   (ao (aM jE))))))),?_⟩
 have ovl:(on.map iV).length=on.length:=Jr _
 have clV:(cs.map V.int).length=2^m:=by rw[Jr,cl]
 have cV:∀ n,n<2^m->(cs.map V.int)[n]?=some (.int (cs.getD n 0)):=fun n hn=>by rw[Jy,zD (by omega +splitDisjunctions)];rfl
 refine⟨_,rfl,_,_,_,_,_,rfl,TyOf.lst hfo,Or.inl ⟨_,rfl,rfl⟩,Hl K,_,rfl,iteF ?_⟩
 intro d hd
 have s1:=aj hd (.dK [])
 have nd0:H d=none:=hd
 have tk:∀{i n:Nat},on[i]?=some n->∀ k,k∈on.take (i+1)↔k∈on.take i∨k=n:=fun{i n} hn k=>by
  rw[Kv,hn]
  show k∈on.take i++[n]↔_
  rw[JA,JI]
 refine⟨_,rfl,fo,rfl,⟨_,SqL.of (s1 _ _ hfo)⟩,dj (K:=K) (xs:=on.map iV) (fun i σ H2=>∃(v7:Option V)(kvs:List (Key×V)),σ = [some (.ref fo),some (.int (st:Int)),some (.int (goal:Int)),some (.ref qc),some (.int z),some (.int (m:Int)),some (.ref d),v7,none,none]/\Same H H2/\H2 d=some (.dK kvs)/\kvs.length<=i/\∀ n:Nat,(valV kvs (Sum.inl (n:Int))).isSome=decide (n∈on.take i)) ⟨_,[],rfl,s1,ae,Ku _,fun n=>by rw[decide_eq_false (by simp)];rfl⟩ (fun i σ H2 _ ⟨_,_,_,s2,_⟩=>SqL.of (s2 _ _ hfo)) ?_ ?_⟩
 ·rintro i x σ H2 hx ⟨v7,kvs,rfl,s2,hd2,kl,kv⟩
  rw[Jy]at hx
  obtain⟨n,hn,rfl⟩:=Kj.mp hx
  have il:=(Jo.mp hn).1
  obtain⟨nlt,nz⟩:=hon n (Jq hn)
  refine⟨_,rfl,(n:Int),rfl,_,rfl,iteF ?_⟩
  refine⟨_,rfl,_,_,rfl,rfl,_,rfl,ite2 (fun c=>absurd (of_decide_eq_true c) (by omega +splitDisjunctions)) (fun _=>?_)⟩
  refine⟨_,rfl,_,rfl,qc,_,rfl,.inl (s2.seq hqc),_,_,rfl,rfl,_,rfl,ite2 (fun c=>absurd (of_decide_eq_true c) (by rw[clV];omega +splitDisjunctions)) (fun _=>?_)⟩
  refine⟨_,rfl,_,rfl,qc,_,_,_,rfl,rfl,s2.seq hqc,ay (cV n nlt),_,rfl,_,_,rfl,rfl,_,rfl,ite2 (fun c=>absurd (of_decide_eq_true c) (by omega +splitDisjunctions)) (fun _=>?_)⟩
  refine⟨_,rfl,_,rfl,d,_,rfl,DPut.k (k:=Sum.inl (n:Int)) (v:=.bl true) hd2 (Lk (show kvs.length<=1024 by omega +splitDisjunctions) (by decide)),?_⟩
  have lp:=b9 kvs (Sum.inl (n:Int)) (V.bl true)
  refine⟨_,_,rfl,bg s2 nd0 _,ae,by omega +splitDisjunctions,fun k=>?_⟩
  rw[ke]
  by_cases c:k=n
  ·subst c
   rw[if_pos rfl,decide_eq_true ((tk hn k).mpr (.inr rfl))];rfl
  ·rw[if_neg (fun y=>c (by have:=Sum.inl.inj y;omega +splitDisjunctions)),kv k]
   exact decide_eq_decide.mpr ⟨fun z=>(tk hn k).mpr (.inl z),fun z=>((tk hn k).mp z).elim id fun e=>absurd e c⟩
 rintro σ H2 ⟨v7,kvs,rfl,s2,hd2,kl,kv⟩
 rw[ovl,KL]at kv
 refine⟨_,rfl,_,rfl,d,_,rfl,DGet.k (k:=Sum.inl (goal:Int)) hd2,_,rfl,?_⟩
 rw[kv goal,decide_eq_false gn]
 refine iteF ?_
 refine⟨_,rfl,_,rfl,d,_,rfl,DGet.k (k:=Sum.inl (st:Int)) hd2,_,rfl,_,rfl,qc,_,_,_,rfl,rfl,s2.seq hqc,ay (cV st hst),_,rfl,_,_,rfl,rfl,rfl,_,rfl,?_⟩
 rw[kv st,show decide (st∈on)=decide (cs.getD st 0<z) from decide_eq_decide.mpr sn,decide_eq_true rfl]
 refine iteF ?_
 refine⟨_,rfl,fo,rfl,⟨_,SqL.of (s2 _ _ hfo)⟩,dj (K:=K) (xs:=on.map iV) (fun i σ H3=>∃(v7 v8 v9:Option V),σ = [some (.ref fo),some (.int (st:Int)),some (.int (goal:Int)),some (.ref qc),some (.int z),some (.int (m:Int)),some (.ref d),v7,v8,v9]/\H3=H2) ⟨_,_,_,rfl,rfl⟩ (fun i σ H3 _ ⟨_,_,_,_,e⟩=>e▸SqL.of (s2 _ _ hfo)) ?_ ?_⟩
 ·rintro i x σ H3 hx ⟨v7,v8,v9,rfl,rfl⟩
  rw[Jy]at hx
  obtain⟨n,hn,rfl⟩:=Kj.mp hx
  have nm:=Jq hn
  obtain⟨nlt,nz⟩:=hon n nm
  refine⟨_,rfl,_,rfl,by omega +splitDisjunctions,by omega +splitDisjunctions,cK (n:=(m:Int).toNat) (fun j σ H4=>∃(v8 v9:Option V),σ = [some (.ref fo),some (.int (st:Int)),some (.int (goal:Int)),some (.ref qc),some (.int z),some (.int (m:Int)),some (.ref d),some (iV n),v8,v9]/\H4=H3) ⟨_,_,rfl,rfl⟩ ?_ ?_⟩
  ·rintro j σ H4 hj ⟨v8,v9,rfl,rfl⟩
   rw[JC]at hj
   rw[K9]
   have ylt:=lU nlt hj
   refine⟨_,rfl,_,rfl,_,_,rfl,rfl,⟨by omega +splitDisjunctions,by omega +splitDisjunctions,by decide⟩,_,_,rfl,rfl,?_⟩
   dsimp only
   have ex:Builtin.bitXor (n:Int) (1*2^((j:Nat):Int).toNat)=((n^^^2^j:Nat):Int):=by rw[shlN,xorN]
   rw[ex]
   refine⟨_,rfl,_,rfl,d,_,rfl,DGet.k (k:=Sum.inl ((n^^^2^j:Nat):Int)) hd2,_,rfl,?_⟩
   rw[kv]
   refine ite2 (fun c=>?_) (fun c=>?_)
   ·have yn:n^^^2^j∉on:=fun y=>by rw[decide_eq_true y]at c;cases c
    refine⟨_,rfl,_,rfl,qc,_,_,_,rfl,rfl,s2.seq hqc,ay (cV _ ylt),_,rfl,_,_,rfl,rfl,_,rfl,ite2 (fun c2=>?_) (fun c2=>?_)⟩
    ·exact absurd (cls n nm j hj (of_decide_eq_true c2)) yn
    ·exact⟨_,_,rfl,rfl⟩
   ·exact⟨_,_,rfl,rfl⟩
  ·rintro σ H4 ⟨v8,v9,rfl,rfl⟩
   exact⟨_,_,_,rfl,rfl⟩
 rintro σ H3 ⟨v7,v8,v9,rfl,rfl⟩
 exact kk _ s2
end
end K8
namespace K8
open PySem L2
local macro_rules | `(tactic| walk_at "cc") => `(tactic| first | exact ⟨by decide, by decide⟩ | (show (0 : Int) < _; decide) | (show (0 : Int) < _; omega) | (show (0 : Int) ≤ _; omega) | exact ⟨by decide, by decide, by decide⟩ | exact ⟨by omega, by omega, by decide⟩ | exact Or.inl ⟨by decide, by decide⟩ | exact Or.inl ⟨by omega, by omega⟩)
local macro_rules | `(tactic| walk_at "rd") => `(tactic| repeat (first | refine ⟨_, rfl, ?_⟩ | refine ⟨_, _, rfl, rfl, ?_⟩ | refine ⟨rfl, ?_⟩ | (refine ⟨?cc, ?_⟩; (case cc => walk_at "cc"))))
def restH(TT PL PS WC:Addr):TS:=fun D σ H=>∃(t' pe' pt' pr' pk qc a p:Addr)(m st goal:Nat)(es':En)(ks:Kn)(xs':List V)(v7 v8:Option V),σ = [some (.ref a),some (.ref t'),some (.ref pk),some (.ref qc),some (.ref p),some (.int (st:Int)),some (.int (goal:Int)),v7,v8]/\H t'=some (.tup [.ref pe',.ref pt',.ref pr'])/\H pt'=some (.lst xs')/\xs'.length=m/\WebC PL PS WC H p m es' ks/\H qc=some (.lst ((aZ es' ks m).map V.int))/\st<2^m/\goal<2^m/\Tb lqC lpC TT H/\∀ H',D.rt (.bl true) H'
theorem Ho{m st goal:Nat}{es:En}{ks:Kn}{l:List Nat}{h:Int}(hst:st<2^m)(wy:WayT m st goal l)(le:∀ n∈l,wT es ks n<=h)(no:wT es ks st<h->¬ Rc m (fun _ y=>decide ((aZ es ks m).getD y 0<h)) st goal):∃ n∈l,(aZ es ks m).getD n 0=h:=by
 refine Nj fun c=>?_
 have all:∀ n∈l,(aZ es ks m).getD n 0<h:=fun n hn=>by
  have h1:=le n hn
  have h2:(aZ es ks m).getD n 0≠h:=fun e=>c ⟨n,hn,e⟩
  rw[bT (wy.lt n hn)]at h2 ⊢
  omega
 have h3:=all st wy.st
 rw[bT hst]at h3
 exact no h3 (wy.rc fun x n hn=>decide_eq_true (all n hn))
theorem AO{m st goal:Nat}{es:En}{ks:Kn}{l:List Nat}{h h2:Int}(hst:st<2^m)(wy:WayT m goal st l)(le:∀ n∈l,wT es ks n<=h2)(no:wT es ks st<h->¬ Rc m (fun _ y=>decide ((aZ es ks m).getD y 0<h)) st goal):h<=h2:=by
 refine Nj fun c=>?_
 have wr:=wy.rev
 have all:∀ n∈l.reverse,(aZ es ks m).getD n 0<h:=fun n hn=>by
  have h1:=le n (MY.mp hn)
  rw[bT (wr.lt n hn)]
  omega
 have h3:=all st wr.st
 rw[bT hst]at h3
 exact no h3 (wr.rc fun x n hn=>decide_eq_true (all n hn))
section
variable{P:Program}{w:World}{K:Js}{mg:Str->Option Value}{base:Heap}
theorem jv:aE ["script","grown","kinds","costs","web","start","goal","found","back"] ["script"] (ah sy):=⟨rfl,rfl,rfl,by decide +kernel,rfl,by decide +kernel,by decide +kernel⟩
theorem ok_law{TT f fG fR fC fK fW fS fO fL fY fH fN PL PS WC:Addr}{fd dG dR dC dK dW dS dO dL dY dH dN:FuncData} (F:Fun K "law" "law" sy f fd) (T:TxtM mg) (G_law_grown:Cal P w K mg base 3 "_law_grown" ["cells","places"] (rZ K) fG dG) (G_law_renumbered:Cal P w K mg base 2 "_law_renumbered" ["grown","cell"] Dw fR dR) (G_law_cell:Cal P w K mg base 1 "_law_cell" ["script","k"] (AI K) fC dC) (G_law_kinds:Cal P w K mg base 2 "_law_kinds" ["script","many","limits"] (xU K) fK dK) (G_law_costs:Cal P w K mg base 2 "_law_costs" ["grown","kinds"] xV fO dO) (G_law_web:Cal P w K mg base 7 "_law_web" ["grown","kinds"] (xS PL PS WC) fW dW) (G_shore:Cal P w K mg base 6 "shore" ["web","start","height"] (xN TT PL PS WC) fS dS) (G_climb:Cal P w K mg base 6 "climb" ["web","start","goal"] (xW TT PL PS WC) fL dL) (G_law_way:Cal P w K mg base 2 "_law_way" ["way","start","goal","costs","height"] (HK K) fY dY) (G_law_shut:Cal P w K mg base 2 "_law_shut" ["found","start","goal","costs","height","many"] (Dv K) fH dH) (G_law_number:Cal P w K mg base 1 "_law_number" ["found"] Dy fN dN):FnOk P w K mg base CX0 9 f fd ["script"] (AH K TT):=by
 refine F.ok jv (fun vs H Q E h=>?_) (fun cdv A outer s H vs Q E hr h=>?_)
 ·obtain⟨a,ns,rfl,_⟩:=h
  rfl
 obtain⟨a,ns,rfl,hS,h63,tb,kk⟩:=h
 have hu64:=hr.units
 refine⟨_,(af (ar (i:=1) jv.nd rfl (Or.inl rfl) (aA G_law_renumbered.ok (hr.mono (by decide)) rfl G_law_renumbered.mg G_law_renumbered.kp G_law_renumbered.bn .nil aY (aa (aA G_law_grown.ok (hr.mono (by decide)) rfl G_law_grown.mg G_law_grown.kp G_law_grown.bn .nil aY (aa (fi ig (pv 0) (fQ ai) (fQ ai)) (aa ai ag))) (aa (aA G_law_cell.ok (hr.mono (by decide)) rfl G_law_cell.mg G_law_cell.kp G_law_cell.bn .nil aY (aa (pv 0) (aa ai ag))) ag))))
   (af (ar (i:=2) jv.nd rfl (Or.inl rfl) (aA G_law_kinds.ok (hr.mono (by decide)) rfl G_law_kinds.mg G_law_kinds.kp G_law_kinds.bn .nil aY (aa (pv 0) (aa (au aq (by rfl) T.n_len a8 (aa (aD aW (pv 1) ai (fun _ _=>rfl)) ag)) (aa (bK (aa ai (aa ai (aa (av bA (av op_pow ai ai) ai) ag)))) ag)))))
   (af (ar (i:=3) jv.nd rfl (Or.inl rfl) (aA G_law_costs.ok (hr.mono (by decide)) rfl G_law_costs.mg G_law_costs.kp G_law_costs.bn .nil aY (aa (pv 1) (aa (pv 2) ag))))
   (af (ar (i:=4) jv.nd rfl (Or.inl rfl) (aA G_law_web.ok (hr.mono (by decide)) rfl G_law_web.mg G_law_web.kp G_law_web.bn .nil aY (aa (pv 1) (aa (pv 2) ag))))
   (af (ar (i:=5) jv.nd rfl (Or.inl rfl) (av bD (av bA (av cE (aA G_law_cell.ok (hr.mono (by decide)) rfl G_law_cell.mg G_law_cell.kp G_law_cell.bn .nil aY (aa (pv 0) (aa ai ag))) ai) (au (Bq rfl) (by rfl) T.n_sum Hu (aa (pv 0) ag))) (au aq (by rfl) T.n_len a8 (aa (pv 3) ag))))
   (af (ar (i:=6) jv.nd rfl (Or.inl rfl) (av bD (aA G_law_cell.ok (hr.mono (by decide)) rfl G_law_cell.mg G_law_cell.kp G_law_cell.bn .nil aY (aa (pv 0) (aa ai ag))) (au aq (by rfl) T.n_len a8 (aa (pv 3) ag))))
   (af (bV (aF oI (av bD (aA G_law_cell.ok (hr.mono (by decide)) rfl G_law_cell.mg G_law_cell.kp G_law_cell.bn .nil aY (aa (pv 0) (aa ai ag))) ai) ai (aN _)) (ao (ar (i:=6) jv.nd rfl (Or.inl rfl) (pv 5))) aR)
   (ym (t2:=restH TT PL PS WC) (af (ar (i:=7) jv.nd rfl (Or.inl rfl) (aA G_climb.ok (hr.mono (by decide)) rfl G_climb.mg G_climb.kp G_climb.bn .nil aY (aa (pv 4) (aa (pv 5) (aa (pv 6) ag)))))
   (af (bV (PW.pt (lB (mB (jw (au kW (by rfl) T.n_isinstance cO (aa (pv 7) (aa (oG (v:=.ty "tuple") rfl T.n_tuple GV rfl) ag))))) (lB (aF nt (au aq (by rfl) T.n_len a8 (aa (pv 7) ag)) ai (aN _)) (mz (mB (jw (aA G_law_number.ok (hr.mono (by decide)) rfl G_law_number.mg G_law_number.kp G_law_number.bn .nil aY (aa (aD aW (pv 7) ai (fun _ _=>rfl)) ag)))))))) (ao (aM jE)) aR)
   (af (bV (mB (jw (aA G_law_way.ok (hr.mono (by decide)) rfl G_law_way.mg G_law_way.kp G_law_way.bn .nil aY (aa (aD aW (pv 7) ai (fun _ _=>rfl)) (aa (pv 5) (aa (pv 6) (aa (pv 3) (aa (aD aW (pv 7) ai (fun _ _=>rfl)) ag)))))))) (ao (aM jE)) aR)
   (af (bV (mB (jw (aA G_law_shut.ok (hr.mono (by decide)) rfl G_law_shut.mg G_law_shut.kp G_law_shut.bn .nil aY (aa (aA G_shore.ok (hr.mono (by decide)) rfl G_shore.mg G_shore.kp G_shore.bn .nil aY (aa (pv 4) (aa (pv 5) (aa (aD aW (pv 7) ai (fun _ _=>rfl)) ag)))) (aa (pv 5) (aa (pv 6) (aa (pv 3) (aa (aD aW (pv 7) ai (fun _ _=>rfl)) (aa (au aq (by rfl) T.n_len a8 (aa (aD aW (pv 1) ai (fun _ _=>rfl)) ag)) ag))))))))) (ao (aM jE)) aR)
   (af (ar (i:=8) jv.nd rfl (Or.inl rfl) (aA G_climb.ok (hr.mono (by decide)) rfl G_climb.mg G_climb.kp G_climb.bn .nil aY (aa (pv 4) (aa (pv 6) (aa (pv 5) ag)))))
   (ao (aM (Hj (sP oI (aD aW (pv 8) ai (fun _ _=>rfl)) (aD aW (pv 7) ai (fun _ _=>rfl)) (aN _)) (Hh (aA G_law_way.ok (hr.mono (by decide)) rfl G_law_way.mg G_law_way.kp G_law_way.bn .nil aY (aa (aD aW (pv 8) ai (fun _ _=>rfl)) (aa (pv 6) (aa (pv 5) (aa (pv 3) (aa (aD aW (pv 7) ai (fun _ _=>rfl)) ag))))))))))))))) (fun D0 S0 H0 h0=>?resth))))))))),?_⟩
 case resth =>
  clear kk tb hS
  obtain⟨t',pe',pt',pr',pk,qc,a,p,m,st,goal,es',ks,xs',v7,v8,rfl,ht,hpt,xl,wc,hqc,hst,hg,tb,kk⟩:=h0
  have m10:=wc.m10
  obtain⟨w1,w2,w3,w4⟩:=kr m10
  have cl:=jt es' ks m
  refine⟨_,rfl,_,rfl,_,rfl,p,m,st,goal,es',ks,rfl,wc,hst,hg,tb,fun t q l h H1 sm1 tb1 ht1 hq1 wy le no=>?_⟩
  refine⟨_,rfl,_,_,_,_,_,rfl,TyOf.tup ht1,Or.inl ⟨_,rfl,rfl⟩,kit_tt K,_,rfl,iteF ?_⟩
  refine⟨_,rfl,t,_,rfl,.inr (SqT.of ht1),rfl,_,rfl,ite2 (fun c=>absurd rfl (of_decide_eq_false ((Ld _).mp c))) (fun _=>?_)⟩
  refine⟨_,rfl,t,_,0,_,rfl,rfl,SqT.of ht1,rfl,h,rfl,_,rfl,iteF ?_⟩
  have hqc1:=sm1.lst hqc
  have leC:∀ n∈l,(aZ es' ks m).getD n 0<=h:=fun n hn=>by rw[bT (wy.lt n hn)];exact le n hn
  refine⟨_,rfl,t,_,1,_,rfl,rfl,SqT.of ht1,rfl,_,rfl,_,rfl,_,rfl,_,rfl,t,_,0,_,rfl,rfl,SqT.of ht1,rfl,q,qc,m,st,goal,l,aZ es' ks m,h,rfl,hq1,SqL.of hqc1,cl,m10,wy,leC,Ho hst wy le no,fun H2 s2=>⟨_,rfl,iteF ?_⟩⟩
  have sm02:=sm1.trans (.of s2)
  have ht2:=s2 _ _ ht1
  refine⟨_,rfl,_,rfl,_,rfl,t,_,0,_,rfl,rfl,SqT.of ht2,rfl,p,m,st,es',ks,h,rfl,wc.sm sm02,hst,c9 tb1 s2,fun lo on H3 sm3 tb3 hlo on1 on2=>?_⟩
  have sm03:=sm02.trans sm3
  have ht3:=sm3.tup ht2
  have olt:∀ n∈on,n<2^m:=fun n hn=>by
   by_cases c:h<=wT es' ks st
   ·rw[on1 c]at hn;cases hn
   ·exact(((on2 (by omega +splitDisjunctions)).2 n).mp hn).lt hst
  have low:∀ n∈on,n<2^m/\(aZ es' ks m).getD n 0<h:=fun n hn=>by
   refine⟨olt n hn,?_⟩
   by_cases c:h<=wT es' ks st
   ·rw[on1 c]at hn;cases hn
   ·exact(((on2 (by omega +splitDisjunctions)).2 n).mp hn).low (f:=fun y=>(aZ es' ks m).getD y 0) (by show(aZ es' ks m).getD st 0<h;rw[bT hst];omega +splitDisjunctions)
  have ol:on.length<=1024:=by
   by_cases c:h<=wT es' ks st
   ·rw[on1 c];exact Ku _
   ·have:=dz ((on2 (by omega +splitDisjunctions)).1.imp fun h=>JN h) olt
    omega +splitDisjunctions
  have gn:goal∉on:=fun hn=>by
   by_cases c:h<=wT es' ks st
   ·rw[on1 c]at hn;cases hn
   ·exact no (by omega +splitDisjunctions) (((on2 (by omega +splitDisjunctions)).2 goal).mp hn)
  have sn:st∈on↔(aZ es' ks m).getD st 0<h:=by
   rw[bT hst]
   by_cases c:h<=wT es' ks st
   ·rw[on1 c]
    exact⟨fun z=>absurd z KG,fun z=>absurd c (by omega +splitDisjunctions)⟩
   ·exact⟨fun _=>by omega +splitDisjunctions,fun _=>((on2 (by omega +splitDisjunctions)).2 st).mpr .base⟩
  have cls:∀ n∈on,∀ p,p<m->(aZ es' ks m).getD (n^^^2^p) 0<h->n^^^2^p∈on:=fun n hn p hp z=>by
   by_cases c:h<=wT es' ks st
   ·rw[on1 c]at hn;cases hn
   ·have al:=(on2 (by omega +splitDisjunctions)).2
    exact(al _).mpr (.step ((al n).mp hn) hp (decide_eq_true z))
  refine⟨_,rfl,_,rfl,_,rfl,_,rfl,t,_,0,_,rfl,rfl,SqT.of ht3,rfl,_,rfl,t',_,1,_,rfl,rfl,SqT.of (sm03.tup ht),at31,pt',xs',rfl,.inl (SqL.of (sm03.lst hpt)),lo,qc,m,st,goal,on,aZ es' ks m,h,(by rw[xl];rfl),hlo,SqL.of (sm03.lst hqc),cl,m10,hst,low,ol,gn,sn,cls,fun H4 s4=>⟨_,rfl,iteF ?_⟩⟩
  have sm04:=sm03.trans (.of s4)
  have ht4:=s4 _ _ ht3
  refine⟨_,rfl,_,rfl,_,rfl,p,m,goal,st,es',ks,rfl,wc.sm sm04,hg,hst,c9 tb3 s4,fun t2 q2 l2 h2 H5 sm5 tb5 ht2' hq2 wy2 le2 no2=>?_⟩
  have e:h2=h:=Int.le_antisymm (AO hg wy le no2) (AO hst wy2 le2 no)
  subst e
  have ht5:=sm5.tup ht4
  have leC2:∀ n∈l2,(aZ es' ks m).getD n 0<=h2:=fun n hn=>by rw[bT (wy2.lt n hn)];exact le2 n hn
  refine⟨_,rfl,t2,_,0,_,rfl,rfl,SqT.of ht2',rfl,_,rfl,t,_,0,_,rfl,rfl,SqT.of ht5,rfl,rfl,?_⟩
  refine⟨_,rfl,ite2 (fun _=>?_) (fun c=>absurd (decide_eq_true rfl) c)⟩
  exact⟨_,rfl,t2,_,1,_,rfl,rfl,SqT.of ht2',rfl,_,rfl,_,rfl,_,rfl,_,rfl,t,_,0,_,rfl,rfl,SqT.of ht5,rfl,q2,qc,m,goal,st,l2,aZ es' ks m,h2,rfl,hq2,SqL.of (sm5.lst (sm04.lst hqc)),cl,m10,wy2,leC2,Ho hg wy2 le2 no2,fun H6 s6=>kk H6⟩
 obtain⟨cs,hcs,csl⟩:=GN ns 2 10
 refine⟨_,rfl,_,rfl,_,rfl,a,_,rfl,hS,fun b hb=>?_⟩
 have sb:=aj hb (.lst (cs.map V.int))
 rw[show cutV (ns.map V.int) (some 2) (some 10)=cs.map V.int from hcs]
 refine⟨b,6,cs,rfl,SqL.of ae,by omega +splitDisjunctions,by decide,fun t pe pt pr m es ts rg H1 s1 ht ⟨⟨ys,xs,zs,C⟩,g,part⟩ e0 el mP=>?_⟩
 have s01:=sb.trans s1
 refine⟨_,rfl,a,0,ns,rfl,s01.seq hS,t,pe,pt,pr,_,m,es,ts,rg,rfl,ht,⟨⟨ys,C.he,C.en⟩,⟨xs,C.ht,C.rx.off⟩,g⟩,⟨zs,C.hr,C.rz.off⟩,part,g.two e0,by omega +splitDisjunctions,fun t' pe' pt' pr' es' ts' rg' H2 s2 ht' wp rp part' el'=>?_⟩
 have s02:=s01.trans s2
 obtain⟨⟨ys',hpe',hE'⟩,⟨xs',hpt',hR'⟩,g'⟩:=id wp
 have yl':ys'.length=es'.length:=hE'.1
 have xl:xs'.length=m:=by rw[hR'.1,g'.w.len]
 refine⟨_,rfl,_,rfl,t',_,0,_,rfl,rfl,SqT.of ht',at30,pe',ys',rfl,.inl (SqL.of hpe'),_,_,rfl,rfl,⟨by decide,by decide,by decide⟩,_,_,rfl,rfl,(by show 3<=sizeLine;decide),fun lm hlm=>?_⟩
 have sl:=aj hlm (.lst [V.int 2,V.int 4,V.int (10^(30:Int).toNat+1)])
 have s03:=s02.trans sl
 refine⟨a,lm,es'.length,ns,[2,4,10^(30:Int).toNat+1],(by rw[yl'];rfl),s03.seq hS,h63,SqL.of ae,by decide,by decide,fun x hx=>?_,by omega +splitDisjunctions,by omega +splitDisjunctions,fun pk ws ks H4 s4 hpk tk kl kb=>?_⟩
 ·rcases Ju.mp hx with z | z
  ·rw[z];decide
  ·rcases Ju.mp z with z | z
   ·rw[z];decide
   ·rw[JI.mp z];exact⟨by decide,K4 _⟩
 have s24:=sl.trans s4
 have s04:=s03.trans s4
 have mE:m<=10:=by omega +splitDisjunctions
 obtain⟨w1,w2,w3,w4⟩:=kr mE
 refine⟨_,rfl,_,rfl,t',pe',pt',pr',pk,m,es',ts',ks,rfl,s24 _ _ ht',wp.mono s24,⟨ws,hpk,tk⟩,kl,by omega +splitDisjunctions,mE,fun qc H5 s5 nqc hqc=>?_⟩
 have s25:=s24.trans s5
 have s05:=s04.trans s5
 have kin:∀ k∈ks,k.1=0∨k.1=1:=fun k hk=>by
  obtain⟨i,hi⟩:=List.getElem?_of_mem hk
  exact(tk.2 i k hi).1
 refine⟨_,rfl,_,rfl,t',pe',pt',pr',pk,m,es',ts',ks,rfl,s25 _ _ ht',wp.mono s25,⟨ws,s5 _ _ hpk,tk.mono s5⟩,by omega +splitDisjunctions,kl,by omega +splitDisjunctions,fun p rs H6 s6 wf=>?_⟩
 have s06:=s05.trans s6
 have s26:=s25.trans s6
 have hqc6:=s6 _ _ hqc
 have clV:((aZ es' ks m).map V.int).length=2^m:=by rw[Jr,jt]
 have cpos:(0:Int)<(((aZ es' ks m).map V.int).length:Int):=by omega +splitDisjunctions
 have nat_of:∀ X:Int,∃ L:Nat,X%(((aZ es' ks m).map V.int).length:Int)=(L:Int)/\L<2^m:=fun X=>by
  have h0:=La X (show(((aZ es' ks m).map V.int).length:Int)≠0 by omega +splitDisjunctions)
  have h1:=KP X cpos
  exact⟨_,(Lg h0).symm,by omega +splitDisjunctions⟩
 refine⟨_,rfl,a,1,ns,rfl,s06.seq hS,_,_,rfl,rfl,⟨by decide,by decide⟩,_,rfl,a,ns,rfl,s06.seq hS,_,_,rfl,rfl,_,rfl,qc,_,rfl,.inl (SqL.of hqc6),_,_,rfl,rfl,cpos,?_⟩
 dsimp only
 obtain⟨st,hst,hs⟩:=nat_of (qO ns 1/3+ns.sum)
 rw[hst]
 refine⟨_,rfl,a,2,ns,rfl,s06.seq hS,_,rfl,qc,_,rfl,.inl (SqL.of hqc6),_,_,rfl,rfl,cpos,?_⟩
 dsimp only
 obtain⟨goal,hgo,hg⟩:=nat_of (qO ns 2)
 rw[hgo]
 refine⟨_,rfl,a,3,ns,rfl,s06.seq hS,_,_,rfl,rfl,(by show(0:Int)<9;decide),rfl,_,rfl,ite2 (fun c1=>?_) (fun c1=>?_)⟩
 ·exact⟨_,rfl,t',pe',pt',pr',pk,qc,a,p,m,st,st,es',ks,xs',_,_,rfl,s26 _ _ ht',s26 _ _ hpt',xl,Di wf kl (by omega +splitDisjunctions) mE kin,hqc6,hs,hs,c9 tb s06,fun H'=>kk H'⟩
 ·exact⟨t',pe',pt',pr',pk,qc,a,p,m,st,goal,es',ks,xs',_,_,rfl,s26 _ _ ht',s26 _ _ hpt',xl,Di wf kl (by omega +splitDisjunctions) mE kin,hqc6,hs,hg,c9 tb s06,fun H'=>kk H'⟩
end
end K8
namespace K8
open PySem L2
theorem Fs{K:Js}{x:Str}{f c T:Addr}{o1 o3:Value}{o2 o4:Option Addr}{o5 o6:Array (Option Value)}{fd:FuncData}{vs:Array Value}(a:JH K mainGlobals x=some (some (.ref f)))(l:K.lookup f=some ⟨o1,o2,.func fd,o5⟩)(e:fd.code=.ref c)(lc:K.lookup c=some ⟨o3,o4,.fields vs,o6⟩)(v:vs[11]?=some (.ref T)):LA K x=some (c,T):=by
 unfold LA
 rw[a]
 simp only[l,e,lc,v]
theorem all_mk{l:M4}{w:World}{K:Js}{h:Heap}{mg:Str->Option Value}{fa bj bh d7 tW fF fB kL cM dt oe t9 tZ bC gA bf cb eQ Be kH js fD gX jk kG dZ dk cL cy jr jq kK jn g8 gZ bZ g7 kI gY g9 fE kJ jo IU:Addr}{cT TT:Addr}{oT:Value}{dT:Option Addr}{vT:Array Value}{sT:Array (Option Value)}(X:K.In h)(G:h.Ns mainGlobals mg) (hfa:mg "law" = some (.ref fa))
  {F9 GZ sV uz sR uw BV C4 nv nU oM qf D4 Fc Gd G3 Gb G0 sX uB yO Ar nA nW vx xo vy xp Iv Jk BQ CY yN Aq sS ux vo xg yI Al BP CV qE qR oK qd nu nR sW uA yM Ap yL Ao BU C3 yJ Am vv xm vq xi lF l9 vt xj BR CZ vp xh vw xn sU uy BS C2 yK An od_law Hv:Option Addr} {Fu sf r8 BC m7 oz DE Fw Fv sj yb m8 uU uV HN By ya r9 uN xX Bx qC oy mZ sh x9 x8 BB xY uR uP lx uQ Bz uO uT se BA xZ sl_law:Array (Option Value)} {Ge Gs GH FI Bn GO tm tP ug sJ kS uo sY tM ud sF kO uj B3 Cm Cw BL rA CD nC nH nL nj dE nO oO pj pF oF iK pH D5 Es ES DO wK EV Gi Gv GK FK Bp GQ Gg Gu GJ FJ Bo GP tD tR ui sM kU ur yV zy zO yz pQ zX nE nJ nM nk h7 nP vF vV wu vg mQ wG vG vW wx vh mR wH Iw IJ I8 Ib EY Jd BX Cf Cs BH rf Cz yU zx zN yx pP zW sZ tN ue sG kP uk vz vO wj u6 mJ wz yP zr zI yq pK zR BW Ce Cr BG rb Cy qF qK qM qD jy qN oN ph pE oE iJ pG nB nG nK ni hZ nN tq tQ uh sL kT uq yT zw zM yw pO zV yS zv zL yu pN zU B0 Cj Cv BK rm CC yQ zt zJ yr pL zS vD vS wq ve mN wD vB vQ wm vc mL wB lG lP lV lE gC lW vC vR wo vd mM wC BY Cg Ct BI rh CA vA vP wk u9 mK wA vE vU wt vf mO wF tj tO uf sH kQ um BZ Ci Cu BJ rj CB yR zu zK yt pM zT oc_law Hm Hs Hg EX Ht:Value}
  {ti_mplc:Tok}
  (Ax:JH K mainGlobals "Pull" = some (some (.ref bj)))
  (Aw:JH K mainGlobals "Push" = some (some (.ref bh)))
  (Fe:JH K mainGlobals "Web" = some (some (.ref d7)))
  (iy:JU K (.ref bj) "__init__" = some (some (.ref bC)))
  (iw:JU K (.ref bj) "wish" = some (some (.ref gA)))
  (c8:JU K (.ref bj) "unpleased" = some (some (.ref bf)))
  (gH:JU K (.ref bj) "price" = some (some (.ref cb)))
  (iu:JU K (.ref bh) "__init__" = some (some (.ref bC)))
  (ir:JU K (.ref bh) "wish" = some (some (.ref eQ)))
  (c7:JU K (.ref bh) "unpleased" = some (some (.ref bf)))
  (gG:JU K (.ref bh) "price" = some (some (.ref cb)))
  (jM:JU K (.ref d7) "__init__" = some (some (.ref cy)))
  (As:JH K mainGlobals "worth" = some (some (.ref tW)))
  (zg:K.lookup tW=some ⟨Ge,F9,.func (JO "worth" "worth" (aC ly) (aB ly) (ah ly) .none Gs GH FI GZ Bn GO),Fu⟩)
  (z9:JJ K Bn "worth" = true)
  (tJ:JG K (.ref tW)=true)
  (iY:JH K mainGlobals "all_worths" = some (some (.ref fF)))
  (iC:K.lookup fF=some ⟨tm,sV,.func (JO "all_worths" "all_worths" (aC cp) (aB cp) (ah cp) .none tP ug sJ uz kS uo),sf⟩)
  (iP:JJ K kS "all_worths" = true)
  (fy:JG K (.ref fF)=true)
  (iU:JH K mainGlobals "steps_from" = some (some (.ref fB)))
  (iz:K.lookup fB=some ⟨sY,sR,.func (JO "steps_from" "steps_from" (aC ck) (aB ck) (ah ck) .none tM ud sF uw kO uj),r8⟩)
  (iM:JJ K kO "steps_from" = true)
  (fm:JG K (.ref fB)=true)
  (qm:JH K mainGlobals "come_to" = some (some (.ref kL)))
  (pd:K.lookup kL=some ⟨B3,BV,.func (JO "come_to" "come_to" (aC gu) (aB gu) (ah gu) .none Cm Cw BL C4 rA CD),BC⟩)
  (pW:JJ K rA "come_to" = true)
  (kE:JG K (.ref kL)=true)
  (bO:JH K mainGlobals "come_to_below" = some (some (.ref cM)))
  (cF:K.lookup cM=some ⟨nC,nv,.func (JO "come_to_below" "come_to_below" (aC aL) (aB aL) (ah aL) .none nH nL nj nU dE nO),m7⟩)
  (eU:JJ K dE "come_to_below" = true)
  (cH:JG K (.ref cM)=true)
  (gh:JH K mainGlobals "least_height" = some (some (.ref dt)))
  (fX:K.lookup dt=some ⟨oO,oM,.func (JO "least_height" "least_height" (aC bH) (aB bH) (ah bH) .none pj pF oF qf iK pH),oz⟩)
  (f9:JJ K iK "least_height" = true)
  (de:JG K (.ref dt)=true)
  (uC:JH K mainGlobals "way_to" = some (some (.ref oe)))
  (tH:K.lookup oe=some ⟨D5,D4,.func (JO "way_to" "way_to" (aC i9) (aB i9) (ah i9) .none Es ES DO Fc wK EV),DE⟩)
  (uu:JJ K wK "way_to" = true)
  (n8:JG K (.ref oe)=true)
  (Av:JH K mainGlobals "climb" = some (some (.ref t9)))
  (zj:K.lookup t9=some ⟨Gi,Gd,.func (JO "climb" "climb" (aC lA) (aB lA) (ah lA) .none Gv GK FK G3 Bp GQ),Fw⟩)
  (Ab:JJ K Bp "climb" = true)
  (tL:JG K (.ref t9)=true)
  (Au:JH K mainGlobals "shore" = some (some (.ref tZ)))
  (zh:K.lookup tZ=some ⟨Gg,Gb,.func (JO "shore" "shore" (aC lz) (aB lz) (ah lz) .none Gu GJ FJ G0 Bo GP),Fv⟩)
  (Aa:JJ K Bo "shore" = true)
  (tK:JG K (.ref tZ)=true)
  (iE:K.lookup bC=some ⟨tD,sX,.func (JO "__init__" "Tie.__init__" (aC cx) (aB cx) (ah cx) .none tR ui sM uB kU ur),sj⟩)
  (iR:JJ K kU "Tie.__init__" = true)
  (iG:JG K (.ref bC)=true)
  (fA:Lw K (.ref bC)=true)
  (lO:K.lookup gA=some ⟨yV,yO,.func (JO "wish" "Tie.wish" (aC eB) (aB eB) (ah eB) .none zy zO yz Ar pQ zX),yb⟩)
  (l8:JJ K pQ "Tie.wish" = true)
  (ji:JG K (.ref gA)=true)
  (lR:Lw K (.ref gA)=true)
  (eJ:K.lookup bf=some ⟨nE,nA,.func (JO "unpleased" "Tie.unpleased" (aC bw) (aB bw) (ah bw) .none nJ nM nk nW h7 nP),m8⟩)
  (eV:JJ K h7 "Tie.unpleased" = true)
  (bN:JG K (.ref bf)=true)
  (cJ:Lw K (.ref bf)=true)
  (jT:K.lookup cb=some ⟨vF,vx,.func (JO "price" "Tie.price" (aC c5) (aB c5) (ah c5) .none vV wu vg xo mQ wG),uU⟩)
  (j4:JJ K mQ "Tie.price" = true)
  (eM:JG K (.ref cb)=true)
  (gW:Lw K (.ref cb)=true)
  (jU:K.lookup eQ=some ⟨vG,vy,.func (JO "wish" "Push.wish" (aC c6) (aB c6) (ah c6) .none vW wx vh xp mR wH),uV⟩)
  (j5:JJ K mR "Push.wish" = true)
  (gR:JG K (.ref eQ)=true)
  (jV:Lw K (.ref eQ)=true)
  (Fd:JH K mainGlobals "head" = some (some (.ref Be)))
  (Em:K.lookup Be=some ⟨Iw,Iv,.func (JO "head" "head" (aC qX) (aB qX) (ah qX) .none IJ I8 Ib Jk EY Jd),HN⟩)
  (E2:JJ K EY "head" = true)
  (k_head:JG K (.ref Be)=true)
  (qi:JH K mainGlobals "leaving" = some (some (.ref kH)))
  (oZ:K.lookup kH=some ⟨BX,BQ,.func (JO "leaving" "leaving" (aC gm) (aB gm) (ah gm) .none Cf Cs BH CY rf Cz),By⟩)
  (pS:JJ K rf "leaving" = true)
  (kz:JG K (.ref kH)=true)
  (mw:JH K mainGlobals "follower" = some (some (.ref js)))
  (lN:K.lookup js=some ⟨yU,yN,.func (JO "follower" "follower" (aC eA) (aB eA) (ah eA) .none zx zN yx Aq pP zW),ya⟩)
  (l7:JJ K pP "follower" = true)
  (jh:JG K (.ref js)=true)
  (iW:JH K mainGlobals "round_from" = some (some (.ref fD)))
  (iA:K.lookup fD=some ⟨sZ,sS,.func (JO "round_from" "round_from" (aC cm) (aB cm) (ah cm) .none tN ue sG ux kP uk),r9⟩)
  (iN:JJ K kP "round_from" = true)
  (fq:JG K (.ref fD)=true)
  (j6:JH K mainGlobals "rounds_of" = some (some (.ref gX)))
  (jN:K.lookup gX=some ⟨vz,vo,.func (JO "rounds_of" "rounds_of" (aC cS) (aB cS) (ah cS) .none vO wj u6 xg mJ wz),uN⟩)
  (jX:JJ K mJ "rounds_of" = true)
  (gL:JG K (.ref gX)=true)
  (ma:JH K mainGlobals "sides_of" = some (some (.ref jk)))
  (lH:K.lookup jk=some ⟨yP,yI,.func (JO "sides_of" "sides_of" (aC d8) (aB d8) (ah d8) .none zr zI yq Al pK zR),xX⟩)
  (lX:JJ K pK "sides_of" = true)
  (jc:JG K (.ref jk)=true)
  (qg:JH K mainGlobals "reached" = some (some (.ref kG)))
  (oY:K.lookup kG=some ⟨BW,BP,.func (JO "reached" "reached" (aC gk) (aB gk) (ah gk) .none Ce Cr BG CV rb Cy),Bx⟩)
  (pR:JJ K rb "reached" = true)
  (kx:JG K (.ref kG)=true)
  (hO:JH K mainGlobals "refuse_ends" = some (some (.ref dZ)))
  (gK:K.lookup dZ=some ⟨qF,qE,.func (JO "refuse_ends" "refuse_ends" (aC bP) (aB bP) (ah bP) .none qK qM qD qR jy qN),qC⟩)
  (hJ:JJ K jy "refuse_ends" = true)
  (dX:JG K (.ref dZ)=true)
  (gb:JH K mainGlobals "refuse_turns" = some (some (.ref dk)))
  (fV:K.lookup dk=some ⟨oN,oK,.func (JO "refuse_turns" "refuse_turns" (aC bG) (aB bG) (ah bG) .none ph pE oE qd iJ pG),oy⟩)
  (fZ:JJ K iJ "refuse_turns" = true)
  (da:JG K (.ref dk)=true)
  (eX:JH K mainGlobals "refuse_parted" = some (some (.ref cL)))
  (eI:K.lookup cL=some ⟨nB,nu,.func (JO "refuse_parted" "refuse_parted" (aC bu) (aB bu) (ah bu) .none nG nK ni nR hZ nN),mZ⟩)
  (eR:JJ K hZ "refuse_parted" = true)
  (cG:JG K (.ref cL)=true)
  (iD:K.lookup cy=some ⟨tq,sW,.func (JO "__init__" "Web.__init__" (aC cq) (aB cq) (ah cq) .none tQ uh sL uA kT uq),sh⟩)
  (iQ:JJ K kT "Web.__init__" = true)
  (iF:JG K (.ref cy)=true)
  (iH:Lw K (.ref cy)=true)
  (mv:JH K mainGlobals "_law_cell" = some (some (.ref jr)))
  (lM:K.lookup jr=some ⟨yT,yM,.func (JO "_law_cell" "_law_cell" (aC eu) (aB eu) (ah eu) .none zw zM yw Ap pO zV),x9⟩)
  (l6:JJ K pO "_law_cell" = true)
  (jg:JG K (.ref jr)=true)
  (mq:JH K mainGlobals "_law_head" = some (some (.ref jq)))
  (lL:K.lookup jq=some ⟨yS,yL,.func (JO "_law_head" "_law_head" (aC eh) (aB eh) (ah eh) .none zv zL yu Ao pN zU),x8⟩)
  (l5:JJ K pN "_law_head" = true)
  (jf:JG K (.ref jq)=true)
  (ql:JH K mainGlobals "_law_put" = some (some (.ref kK)))
  (o9:K.lookup kK=some ⟨B0,BU,.func (JO "_law_put" "_law_put" (aC gs) (aB gs) (ah gs) .none Cj Cv BK C3 rm CC),BB⟩)
  (pV:JJ K rm "_law_put" = true)
  (kD:JG K (.ref kK)=true)
  (mh:JH K mainGlobals "_law_step" = some (some (.ref jn)))
  (lJ:K.lookup jn=some ⟨yQ,yJ,.func (JO "_law_step" "_law_step" (aC d9) (aB d9) (ah d9) .none zt zJ yr Am pL zS),xY⟩)
  (lY:JJ K pL "_law_step" = true)
  (jd:JG K (.ref jn)=true)
  (ka:JH K mainGlobals "_law_grown" = some (some (.ref g8)))
  (jR:K.lookup g8=some ⟨vD,vv,.func (JO "_law_grown" "_law_grown" (aC cY) (aB cY) (ah cY) .none vS wq ve xm mN wD),uR⟩)
  (j2:JJ K mN "_law_grown" = true)
  (gP:JG K (.ref g8)=true)
  (j8:JH K mainGlobals "_law_order" = some (some (.ref gZ)))
  (jP:K.lookup gZ=some ⟨vB,vq,.func (JO "_law_order" "_law_order" (aC cW) (aB cW) (ah cW) .none vQ wm vc xi mL wB),uP⟩)
  (jZ:JJ K mL "_law_order" = true)
  (gN:JG K (.ref gZ)=true)
  (dJ:JH K mainGlobals "_law_renumbered" = some (some (.ref bZ)))
  (dD:K.lookup bZ=some ⟨lG,lF,.func (JO "_law_renumbered" "_law_renumbered" (aC bo) (aB bo) (ah bo) .none lP lV lE l9 gC lW),lx⟩)
  (dI:JJ K gC "_law_renumbered" = true)
  (bY:JG K (.ref bZ)=true)
  (j9:JH K mainGlobals "_law_kinds" = some (some (.ref g7)))
  (jQ:K.lookup g7=some ⟨vC,vt,.func (JO "_law_kinds" "_law_kinds" (aC cX) (aB cX) (ah cX) .none vR wo vd xj mM wC),uQ⟩)
  (j1:JJ K mM "_law_kinds" = true)
  (gO:JG K (.ref g7)=true)
  (qj:JH K mainGlobals "_law_web" = some (some (.ref kI)))
  (o7:K.lookup kI=some ⟨BY,BR,.func (JO "_law_web" "_law_web" (aC gp) (aB gp) (ah gp) .none Cg Ct BI CZ rh CA),Bz⟩)
  (pT:JJ K rh "_law_web" = true)
  (kA:JG K (.ref kI)=true)
  (j7:JH K mainGlobals "_law_worth" = some (some (.ref gY)))
  (jO:K.lookup gY=some ⟨vA,vp,.func (JO "_law_worth" "_law_worth" (aC cU) (aB cU) (ah cU) .none vP wk u9 xh mK wA),uO⟩)
  (jY:JJ K mK "_law_worth" = true)
  (gM:JG K (.ref gY)=true)
  (kc:JH K mainGlobals "_law_costs" = some (some (.ref g9)))
  (jS:K.lookup g9=some ⟨vE,vw,.func (JO "_law_costs" "_law_costs" (aC cZ) (aB cZ) (ah cZ) .none vU wt vf xn mO wF),uT⟩)
  (j3:JJ K mO "_law_costs" = true)
  (gQ:JG K (.ref g9)=true)
  (iX:JH K mainGlobals "_law_number" = some (some (.ref fE)))
  (iB:K.lookup fE=some ⟨tj,sU,.func (JO "_law_number" "_law_number" (aC cn) (aB cn) (ah cn) .none tO uf sH uy kQ um),se⟩)
  (iO:JJ K kQ "_law_number" = true)
  (fx:JG K (.ref fE)=true)
  (qk:JH K mainGlobals "_law_way" = some (some (.ref kJ)))
  (o8:K.lookup kJ=some ⟨BZ,BS,.func (JO "_law_way" "_law_way" (aC gq) (aB gq) (ah gq) .none Ci Cu BJ C2 rj CB),BA⟩)
  (pU:JJ K rj "_law_way" = true)
  (kC:JG K (.ref kJ)=true)
  (ml:JH K mainGlobals "_law_shut" = some (some (.ref jo)))
  (lK:K.lookup jo=some ⟨yR,yK,.func (JO "_law_shut" "_law_shut" (aC eg) (aB eg) (ah eg) .none zu zK yt An pM zT),xZ⟩)
  (lZ:JJ K pM "_law_shut" = true)
  (je:JG K (.ref jo)=true)
  (G7:JH K mainGlobals "law" = some (some (.ref IU)))
  (IF:K.lookup IU=some ⟨oc_law,od_law,.func (JO "law" "law" (aC sy) (aB sy) (ah sy) .none Hm Hs Hg Hv EX Ht),sl_law⟩)
  (Je:JJ K EX "law" = true)
  (II:JG K (.ref IU)=true)
  (yC:Lr K bj Str.empty=true)
  (zC:LB K bj=true)
  (yp:LN K bj=true)
  (yh:JU K (.ref bj) "__setattr__" = some (some (.builtin "object.__setattr__")))
  (yY:LZ K bj=true)
  (zp:JG K (.ref bj)=true)
  (jL:JU K (.ref bj) "one" = some none)
  (jK:JU K (.ref bj) "two" = some none)
  (dB:JU K (.ref bj) "strength" = some none)
  (yB:Lr K bh Str.empty=true)
  (zB:LB K bh=true)
  (yo:LN K bh=true)
  (yg:JU K (.ref bh) "__setattr__" = some (some (.builtin "object.__setattr__")))
  (yX:LZ K bh=true)
  (zo:JG K (.ref bh)=true)
  (jJ:JU K (.ref bh) "one" = some none)
  (jI:JU K (.ref bh) "two" = some none)
  (dA:JU K (.ref bh) "strength" = some none)
  (DS:Lr K d7 Str.empty=true)
  (EG:LB K d7=true)
  (DN:LN K d7=true)
  (DH:JU K (.ref d7) "__setattr__" = some (some (.builtin "object.__setattr__")))
  (D6:LZ K d7=true)
  (Er:JG K (.ref d7)=true)
  (jH:JU K (.ref d7) "many" = some none)
  (jG:JU K (.ref d7) "ties" = some none)
  (ik:JU K (.ref d7) "turns" = some none)
  (gF:JU K (.ref d7) "rounds" = some none)
  (iq:JU K (.ref d7) "sides" = some none)
  (gi_mplc:JH K mainGlobals "MOST_PLACES" = some (some (.int 10 ti_mplc)))
  (HC:JH K mainGlobals "len" = some none)
  (HD:JH K mainGlobals "int" = some none)
  (Dd:JH K mainGlobals "bool" = some none)
  (Dc:JH K mainGlobals "list" = some none)
  (xA:JH K mainGlobals "tuple" = some none)
  (xB:JH K mainGlobals "range" = some none)
  (jB:JH K mainGlobals "enumerate" = some none)
  (ic:JH K mainGlobals "isinstance" = some none)
  (HA:JH K mainGlobals "min" = some none)
  (Hy:JH K mainGlobals "sum" = some none)
  (rN:JH K mainGlobals "sorted" = some none)
  (HB:JH K mainGlobals "max" = some none)
  (k8:JH K mainGlobals "reversed" = some none)
  (Hz:JH K mainGlobals "set" = some none)
  (tbc:dE=.ref cT) (tbl:K.lookup cT=some ⟨oT,dT,.fields vT,sT⟩) (tbv:vT[11]?=some (.ref TT)) (tbn:K.lookup TT=none)
  : ∃ fd:FuncData,(∀(s:Shared)(v:Value),BindsTo s fd ⟨[v],[]⟩ [("script",v)])/\∃ c T,LA K "come_to_below" = some (c,T)/\K.lookup T=none/\∀ base:Heap,K.In base->base.Ns mainGlobals mg->Lu base c T->Bm mg base->FnOk l.prog w K mg base CX0 9 fa fd ["script"] (AH K T):=by
 have tbi:=Fs bO cF tbc tbl tbv
 have e:=hfa.symm.trans (JQ X G G7)
 cases e
 have Fh:=aP (st:=ly) zg z9 tJ
 have Jg:=Fh.binds (ps:=["web","laying"]) fun _ _ _ _ _ _ us hl=>by obtain⟨x0,x1,rfl⟩:=gJ hl;rfl
 have mW:=aP (st:=cp) iC iP fy
 have xc:=mW.binds (ps:=["web"]) fun _ _ _ _ _ _ us hl=>by obtain⟨x0,rfl⟩:=Ek hl;rfl
 have mT:=aP (st:=ck) iz iM fm
 have wX:=mT.binds (ps:=["web","laying"]) fun _ _ _ _ _ _ us hl=>by obtain⟨x0,x1,rfl⟩:=gJ hl;rfl
 have xy:=aP (st:=gu) pd pW kE
 have E9:=xy.binds (ps:=["web","start","let"]) fun _ _ _ _ _ _ us hl=>by obtain⟨x0,x1,x2,rfl⟩:=qI hl;rfl
 have i4:=aP (st:=aL) cF eU cH
 have qa:=i4.binds (ps:=["web","costs","start","height"]) fun _ _ _ _ _ _ us hl=>by obtain⟨x0,x1,x2,x3,rfl⟩:=Ej hl;rfl
 have jA:=aP (st:=bH) fX f9 de
 have qQ:=jA.binds (ps:=["web","costs","heights","start","goal"]) fun _ _ _ _ _ _ us hl=>by obtain⟨x0,x1,x2,x3,x4,rfl⟩:=Gn hl;rfl
 have Bt:=aP (st:=i9) tH uu n8
 have GX:=Bt.binds (ps:=["ahead","goal"]) fun _ _ _ _ _ _ us hl=>by obtain⟨x0,x1,rfl⟩:=gJ hl;rfl
 have Fj:=aP (st:=lA) zj Ab tL
 have Ji:=Fj.binds (ps:=["web","start","goal"]) fun _ _ _ _ _ _ us hl=>by obtain⟨x0,x1,x2,rfl⟩:=qI hl;rfl
 have Fi:=aP (st:=lz) zh Aa tK
 have Jh:=Fi.binds (ps:=["web","start","height"]) fun _ _ _ _ _ _ us hl=>by obtain⟨x0,x1,x2,rfl⟩:=qI hl;rfl
 have mY:=aP (st:=cx) iE iR iG
 have mS:=mY.binds (ps:=["self","one","two","strength"]) fun _ _ _ _ _ _ us hl=>by obtain⟨x0,x1,x2,x3,rfl⟩:=Ej hl;rfl
 have rM:=aP (st:=eB) lO l8 ji
 have CS:=rM.binds (ps:=["self"]) fun _ _ _ _ _ _ us hl=>by obtain⟨x0,rfl⟩:=Ek hl;rfl
 have eZ:=aP (st:=bw) eJ eV bN
 have iT:=eZ.binds (ps:=["self","laying"]) fun _ _ _ _ _ _ us hl=>by obtain⟨x0,x1,rfl⟩:=gJ hl;rfl
 have kd:=aP (st:=c5) jT j4 eM
 have qb:=kd.binds (ps:=["self","laying"]) fun _ _ _ _ _ _ us hl=>by obtain⟨x0,x1,rfl⟩:=gJ hl;rfl
 have qB:=aP (st:=c6) jU j5 gR
 have Ak:=qB.binds (ps:=["self"]) fun _ _ _ _ _ _ us hl=>by obtain⟨x0,rfl⟩:=Ek hl;rfl
 have Hx:=aP (st:=qX) Em E2 k_head
 have b_head:=Hx.binds (ps:=["ties","dart"]) fun _ _ _ _ _ _ us hl=>by obtain⟨x0,x1,rfl⟩:=gJ hl;rfl
 have xr:=aP (st:=gm) oZ pS kz
 have E5:=xr.binds (ps:=["ties","number","place"]) fun _ _ _ _ _ _ us hl=>by obtain⟨x0,x1,x2,rfl⟩:=qI hl;rfl
 have rK:=aP (st:=eA) lN l7 jh
 have CQ:=rK.binds (ps:=["ties","turns","dart"]) fun _ _ _ _ _ _ us hl=>by obtain⟨x0,x1,x2,rfl⟩:=qI hl;rfl
 have mU:=aP (st:=cm) iA iN fq
 have wY:=mU.binds (ps:=["ties","turns","first"]) fun _ _ _ _ _ _ us hl=>by obtain⟨x0,x1,x2,rfl⟩:=qI hl;rfl
 have qu:=aP (st:=cS) jN jX gL
 have Ad:=qu.binds (ps:=["ties","turns"]) fun _ _ _ _ _ _ us hl=>by obtain⟨x0,x1,rfl⟩:=gJ hl;rfl
 have rE:=aP (st:=d8) lH lX jc
 have CK:=rE.binds (ps:=["ties","rounds"]) fun _ _ _ _ _ _ us hl=>by obtain⟨x0,x1,rfl⟩:=gJ hl;rfl
 have xq:=aP (st:=gk) oY pR kx
 have E4:=xq.binds (ps:=["start","pairs"]) fun _ _ _ _ _ _ us hl=>by obtain⟨x0,x1,rfl⟩:=gJ hl;rfl
 have kX:=aP (st:=bP) gK hJ dX
 have uv:=kX.binds (ps:=["many","ties"]) fun _ _ _ _ _ _ us hl=>by obtain⟨x0,x1,rfl⟩:=gJ hl;rfl
 have jz:=aP (st:=bG) fV fZ da
 have qP:=jz.binds (ps:=["many","ties","turns"]) fun _ _ _ _ _ _ us hl=>by obtain⟨x0,x1,x2,rfl⟩:=qI hl;rfl
 have i3:=aP (st:=bu) eI eR cG
 have pZ:=i3.binds (ps:=["many","ties"]) fun _ _ _ _ _ _ us hl=>by obtain⟨x0,x1,rfl⟩:=gJ hl;rfl
 have mX:=aP (st:=cq) iD iQ iF
 have xf:=mX.binds (ps:=["self","many","ties","turns"]) fun _ _ _ _ _ _ us hl=>by obtain⟨x0,x1,x2,x3,rfl⟩:=Ej hl;rfl
 have rJ:=aP (st:=eu) lM l6 jg
 have CP:=rJ.binds (ps:=["script","k"]) fun _ _ _ _ _ _ us hl=>by obtain⟨x0,x1,rfl⟩:=gJ hl;rfl
 have rH:=aP (st:=eh) lL l5 jf
 have CO:=rH.binds (ps:=["ends","dart"]) fun _ _ _ _ _ _ us hl=>by obtain⟨x0,x1,rfl⟩:=gJ hl;rfl
 have xw:=aP (st:=gs) o9 pV kD
 have E8:=xw.binds (ps:=["turns","place","behind","fresh"]) fun _ _ _ _ _ _ us hl=>by obtain⟨x0,x1,x2,x3,rfl⟩:=Ej hl;rfl
 have rF:=aP (st:=d9) lJ lY jd
 have CM:=rF.binds (ps:=["cell","ends","turns","rings","places"]) fun _ _ _ _ _ _ us hl=>by obtain⟨x0,x1,x2,x3,x4,rfl⟩:=Gn hl;rfl
 have qz:=aP (st:=cY) jR j2 gP
 have Ai:=qz.binds (ps:=["cells","places"]) fun _ _ _ _ _ _ us hl=>by obtain⟨x0,x1,rfl⟩:=gJ hl;rfl
 have qx:=aP (st:=cW) jP jZ gN
 have Af:=qx.binds (ps:=["cell","many"]) fun _ _ _ _ _ _ us hl=>by obtain⟨x0,x1,rfl⟩:=gJ hl;rfl
 have h9:=aP (st:=bo) dD dI bY
 have nQ:=h9.binds (ps:=["grown","cell"]) fun _ _ _ _ _ _ us hl=>by obtain⟨x0,x1,rfl⟩:=gJ hl;rfl
 have qy:=aP (st:=cX) jQ j1 gO
 have Ag:=qy.binds (ps:=["script","many","limits"]) fun _ _ _ _ _ _ us hl=>by obtain⟨x0,x1,x2,rfl⟩:=qI hl;rfl
 have xt:=aP (st:=gp) o7 pT kA
 have E6:=xt.binds (ps:=["grown","kinds"]) fun _ _ _ _ _ _ us hl=>by obtain⟨x0,x1,rfl⟩:=gJ hl;rfl
 have qv:=aP (st:=cU) jO jY gM
 have Ae:=qv.binds (ps:=["ends","kinds","laying"]) fun _ _ _ _ _ _ us hl=>by obtain⟨x0,x1,x2,rfl⟩:=qI hl;rfl
 have qA:=aP (st:=cZ) jS j3 gQ
 have Aj:=qA.binds (ps:=["grown","kinds"]) fun _ _ _ _ _ _ us hl=>by obtain⟨x0,x1,rfl⟩:=gJ hl;rfl
 have mV:=aP (st:=cn) iB iO fx
 have wZ:=mV.binds (ps:=["found"]) fun _ _ _ _ _ _ us hl=>by obtain⟨x0,rfl⟩:=Ek hl;rfl
 have xu:=aP (st:=gq) o8 pU kC
 have E7:=xu.binds (ps:=["way","start","goal","costs","height"]) fun _ _ _ _ _ _ us hl=>by obtain⟨x0,x1,x2,x3,x4,rfl⟩:=Gn hl;rfl
 have rG:=aP (st:=eg) lK lZ je
 have CN:=rG.binds (ps:=["found","start","goal","costs","height","many"]) fun _ _ _ _ _ _ us hl=>by obtain⟨x0,x1,x2,x3,x4,x5,rfl⟩:=len_6 hl;rfl
 have F_law:=aP (st:=sy) IF Je II
 refine⟨JO "law" "law" (aC sy) (aB sy) (ah sy) .none Hm Hs Hg Hv EX Ht,fun s v=>.of_eq rfl,cT,TT,tbi,tbn,fun base _ _ hcd hbm=>?_⟩
 have IB:=JQ X G As
 have vL:=JQ X G iY
 have vI:=JQ X G iU
 have Eg:=JQ X G qm
 have oS:=JQ X G bO
 have qH:=JQ X G gh
 have Gk:=JQ X G uC
 have ID:=JQ X G Av
 have IC:=JQ X G Au
 have m_head:=JQ X G Fd
 have Ec:=JQ X G qi
 have Cc:=JQ X G mw
 have vJ:=JQ X G iW
 have y6:=JQ X G j6
 have B7:=JQ X G ma
 have Eb:=JQ X G qg
 have tE:=JQ X G hO
 have qG:=JQ X G gb
 have oR:=JQ X G eX
 have Cb:=JQ X G mv
 have Ca:=JQ X G mq
 have Ef:=JQ X G ql
 have B8:=JQ X G mh
 have zc:=JQ X G ka
 have y8:=JQ X G j8
 have nF:=JQ X G dJ
 have y9:=JQ X G j9
 have Ed:=JQ X G qj
 have y7:=JQ X G j7
 have zd:=JQ X G kc
 have vK:=JQ X G iX
 have Ee:=JQ X G qk
 have B9:=JQ X G ml
 have m_law:=JQ X G G7
 have m_Pull:=JQ X G Ax
 have m_Push:=JQ X G Aw
 have m_Web:=JQ X G Fe
 have mplc:=JQ X G gi_mplc
 have n_len:=Kz X G HC
 have n_int:=Kz X G HD
 have n_bool:=Kz X G Dd
 have n_list:=Kz X G Dc
 have n_tuple:=Kz X G xA
 have n_range:=Kz X G xB
 have n_enumerate:=Kz X G jB
 have n_isinstance:=Kz X G ic
 have n_min:=Kz X G HA
 have n_sum:=Kz X G Hy
 have n_sorted:=Kz X G rN
 have n_max:=Kz X G HB
 have n_reversed:=Kz X G k8
 have n_set:=Kz X G Hz
 have TL:CT K bj:=⟨⟨yC,zC,yp,yh⟩,jL,jK,dB⟩
 have TS:CT K bh:=⟨⟨yB,zB,yo,yg⟩,jJ,jI,dA⟩
 have cw:CW K d7:=⟨⟨DS,EG,DN,DH⟩,jH,jG,ik,gF,iq⟩
 have T:Txt mg:=⟨n_len,n_int,n_bool,n_list,n_tuple,n_range,n_enumerate,n_isinstance,n_min,n_sum,n_sorted⟩
 have GI:FnOk l.prog w K mg base CX0 1 bC _ _ (qT K):=Il mY
 have ML:Mak l.prog w K mg base 1 "Pull" _ (qT K) bj bC _:=⟨⟨yY,iy,fA,zp⟩,GI,mS,m_Pull⟩
 have MS:Mak l.prog w K mg base 1 "Push" _ (qT K) bh bC _:=⟨⟨yX,iu,fA,zo⟩,GI,mS,m_Push⟩
 have Gh:Cal l.prog w K mg base 1 "head" _ (DA K) Be _:=⟨Im Hx,b_head,m_head,k_head⟩
 have Gl:Cal l.prog w K mg base 1 "leaving" _ (Dz K) kH _:=⟨BO xr,E5,Ec,kz⟩
 have Gf:Cal l.prog w K mg base 2 "follower" _ (HL K) js _:=⟨yH rK T Gh Gl,CQ,Cc,jh⟩
 have Gr:Cal l.prog w K mg base 3 "round_from" _ (DB K) fD _:=⟨Io mU Gf,wY,vJ,fq⟩
 have GR:Cal l.prog w K mg base 4 "rounds_of" _ (rW K) gX _:=⟨DZ qu T Gr,Ad,y6,gL⟩
 have GS:Cal l.prog w K mg base 1 "sides_of" _ (xM K) jk _:=⟨FY rE T,CK,B7,jc⟩
 have wL:Met l.prog w K mg base 1 bj "wish" _ (uJ false) gA _:=⟨⟨iw,lR,ji⟩,FV rM,CS⟩
 have wS:Met l.prog w K mg base 1 bh "wish" _ (uJ true) eQ _:=⟨⟨ir,jV,gR⟩,FU qB,Ak⟩
 have Ga:Cal l.prog w K mg base 1 "reached" _ (xO K) kG _:=⟨BN xq,E4,Eb,kx⟩
 have R1:Cal l.prog w K mg base 1 "refuse_ends" _ (xQ K) dZ _:=⟨F1 kX,uv,tE,dX⟩
 have R2:Cal l.prog w K mg base 1 "refuse_turns" _ (rX K) dk _:=⟨DY jz T,qP,qG,da⟩
 have R3:Cal l.prog w K mg base 2 "refuse_parted" _ (xP K) cL _:=⟨F0 i3 Ga,pZ,oR,cG⟩
 have WI:FnOk l.prog w K mg base CX0 5 cy _ _ (rV K):=FW mX T R1 R2 R3 GR GS
 have MW:Mak l.prog w K mg base 5 "Web" _ (rV K) d7 cy _:=⟨⟨D6,jM,iH,Er⟩,WI,xf,m_Web⟩
 have Gc:Cal l.prog w K mg base 1 "_law_cell" _ (AI K) jr _:=⟨Iq rJ T,CP,Cb,jg⟩
 have L1:Cal l.prog w K mg base 1 "_law_head" _ (xT K) jq _:=⟨F3 rH,CO,Ca,jf⟩
 have L5:Cal l.prog w K mg base 1 "_law_order" _ xR gZ _:=⟨F2 qx T,Af,y8,gN⟩
 have TM:TxtM mg:={ T with n_max:=n_max }
 have N1:Cal l.prog w K mg base 1 "_law_put" _ (Dx K) kK _:=⟨ok_put xw,E8,Ef,kD⟩
 have N2:Cal l.prog w K mg base 2 "_law_step" _ Du jn _:=⟨Ii rF T L1 N1,CM,B8,jd⟩
 have N3:Cal l.prog w K mg base 3 "_law_grown" _ (rZ K) g8 _:=⟨F5 qz N2,Ai,zc,gP⟩
 have N4:Cal l.prog w K mg base 2 "_law_renumbered" _ Dw bZ _:=⟨ok_ren h9 TM L5,nQ,nF,bY⟩
 have N5:Cal l.prog w K mg base 2 "_law_kinds" _ (xU K) g7 _:=⟨F4 qy T Gc,Ag,y9,gO⟩
 have N6:Cal l.prog w K mg base 7 "_law_web" _ (xS bj bh d7) kI _:=⟨Ik xt T ML MS TL TS MW cw,E6,Ed,kA⟩
 have N7:Cal l.prog w K mg base 1 "_law_number" _ Dy fE _:=⟨D1 mV T,wZ,vK,fx⟩
 have N8:Cal l.prog w K mg base 1 "_law_worth" _ (HJ K) gY _:=⟨FT qv T,Ae,y7,gM⟩
 have N9:Cal l.prog w K mg base 2 "_law_costs" _ xV g9 _:=⟨F6 qA T N8,Aj,zd,gQ⟩
 have TC:TxtC mg:={ TM with mplc:=⟨_,mplc⟩ }
 have uL:Met l.prog w K mg base 2 bj "unpleased" _ (AG bj false) bf _:=⟨⟨c8,cJ,bN⟩,DW eZ TL wL,iT⟩
 have uS:Met l.prog w K mg base 2 bh "unpleased" _ (AG bh true) bf _:=⟨⟨c7,cJ,bN⟩,DW eZ TS wS,iT⟩
 have rL:Met l.prog w K mg base 3 bj "price" _ (ow bj false) cb _:=⟨⟨gH,gW,eM⟩,AZ kd TL uL,qb⟩
 have rS:Met l.prog w K mg base 3 bh "price" _ (ow bh true) cb _:=⟨⟨gG,gW,eM⟩,AZ kd TS uS,qb⟩
 have Gw:Cal l.prog w K mg base 4 "worth" _ (Dt bj bh d7) tW _:=⟨Ih Fh T cw TL TS rL rS,Jg,IB,tJ⟩
 have Gaw:Cal l.prog w K mg base 5 "all_worths" _ (AJ bj bh d7) fF _:=⟨Ir mW TC cw Gw,xc,vL,fy⟩
 have Gst:Cal l.prog w K mg base 1 "steps_from" _ (xK bj bh d7) fB _:=⟨DX mT TC cw,wX,vI,fm⟩
 have Gco:Cal l.prog w K mg base 2 "come_to" _ (DC bj bh d7) kL _:=⟨Ip xy TC Gst,E9,Eg,kE⟩
 have TK:TxtK mg:={ TC with n_reversed:=n_reversed,n_set:=n_set }
 have Gbe:Cal l.prog w K mg base 3 "come_to_below" _ (ox TT bj bh d7) cM _:=⟨F8 i4 tbi bO hcd hbm Gco,qa,oS,cH⟩
 have Gsh:Cal l.prog w K mg base 6 "shore" _ (xN TT bj bh d7) tZ _:=⟨FZ Fi TC Gaw Gbe,Jh,IC,tK⟩
 have Gwt:Cal l.prog w K mg base 1 "way_to" _ xJ oe _:=⟨FX Bt TK,GX,Gk,n8⟩
 have Glh:Cal l.prog w K mg base 4 "least_height" _ (rY TT bj bh d7) dt _:=⟨D2 jA TC Gbe,qQ,qH,de⟩
 have Gcl:Cal l.prog w K mg base 6 "climb" _ (xW TT bj bh d7) t9 _:=⟨F7 Fj TK Gaw Gbe Glh Gwt,Ji,ID,tL⟩
 have Gwy:Cal l.prog w K mg base 2 "_law_way" _ (HK K) kJ _:=⟨ok_way xu TK N7,E7,Ee,kC⟩
 have Gsu:Cal l.prog w K mg base 2 "_law_shut" _ (Dv K) jo _:=⟨Ij rG TK N7,CN,B9,je⟩
 exact ok_law F_law TM N3 N4 Gc N5 N9 N6 Gsh Gcl Gwy Gsu N7
theorem walk{l:M4}{q:Program}{loose:List Str}{XP:(Str->Option Value)->Heap->Prop}{YP:World->Heap->Prop}{d:DefRec}{K:Params->Js}(hn:l.most=some 63)(hdf:d.params.defaults = [])
  (hY:∀(w:World)(h:Heap),YP w h->(K w.params).In h) (hrec:((PyProof.Rows.recsOf q).find? (fun e=>e.name == ("come_to_below" : Str))).isSome=true)
  (F:∀(w:World)(mg:Str->Option Value)(fa:Addr)(h:Heap),(K w.params).In h->h.Ns mainGlobals mg->mg d.name=some (.ref fa) ->
   ∃ fd:FuncData,(∀(s:Shared)(u:Value),BindsTo s fd ⟨[u],[]⟩ [("script",u)])/\∃ c T,LA (K w.params) "come_to_below" = some (c,T)/\(K w.params).lookup T=none/\∀ base:Heap,(K w.params).In base->base.Ns mainGlobals mg->Lu base c T->Bm mg base->FnOk l.prog w (K w.params) mg base CX0 9 fa fd ["script"] (AH (K w.params) T)) :
  PySem.W.WalkO q loose XP YP l.row.toRowW d [] (fun f vs=>PySem.call f vs) :=
 L2.walk_ofT (n:=63) (k:=9) (x:="script") (CX:=CX0) (sp:=fun K T=>AH K T) hn (by decide) hdf ⟨rfl,by decide,by decide⟩ hY (Option.some_get hrec).symm F (fun _ _ _ a ns hl hT hS=>⟨a,ns,rfl,hS,hl,.inl hT,fun _=>rfl⟩) fun _ _ _ _ z=>z
end K8
def PySem.W.Fast.tw1097050114613611744:Nat:=0
def PySem.W.Fast.tw13928021235468651587:Nat:=0
def PySem.W.Fast.tw11794774317573990053:Nat:=0
def PySem.W.Fast.tw123721753682426599:Nat:=0
def PySem.W.Fast.tw16869140321908285194:Nat:=0
def PySem.W.Fast.tw17663816186560820430:Nat:=0
def PySem.W.Fast.tw17646982412119881744:Nat:=0
def PySem.W.Fast.tw3933811132027072241:Nat:=0
def PySem.W.Fast.tw16971922616083425460:Nat:=0
def PySem.W.Fast.tw5748010050074414708:Nat:=0
def PySem.W.Fast.tw17773423143529528085:Nat:=0
def PySem.W.Fast.tw6781415679550665242:Nat:=0
def PySem.W.Fast.tw9324320825045682971:Nat:=0
def PySem.W.Fast.tw11943731965318264316:Nat:=0
def PySem.W.Fast.tw3625749240610352060:Nat:=0
def PySem.W.Fast.tw297325936691896318:Nat:=0
def PySem.W.Fast.tw5313288395463843007:Nat:=0
namespace PySem.W.Fast
def tw237189840286862560:=0
def tw13274177917730737408:=0
def tw8854404273926334880:=0
def tw18393349697218304448:=0
def tw9726607481320564256:=0
def tw1840172093553494656:=0
def tw7516838616235670144:=0
def tw12723212979154440896:=0
def tw10925222407732886208:=0
def tw9302631457096793888:=0
def tw11024476573883762528:=0
def tw7500322965741235072:=0
def tw10125497649338349472:=0
def tw7743147934417024065:=0
def tw11341244219348419681:=0
def tw18268503977016970529:=0
def tw14256692566650859873:=0
def tw4959833004541323649:=0
def tw2401665361131026849:=0
def tw12357364137978307009:=0
def tw882375632523177569:=0
def tw18291157949771137729:=0
def tw7420668902930956322:=0
def tw17605675943606412418:=0
def tw10802674549832100002:=0
def tw9084438484604589314:=0
def tw3860502450398404994:=0
def tw12245481494071485826:=0
def tw1600245624037175842:=0
def tw11792594320971256354:=0
def tw8019796703081801314:=0
def tw2372367591577603810:=0
def tw15334016082709518082:=0
def tw16049209524321422242:=0
def tw2549375526886457282:=0
def tw12126857766138723363:=0
def tw14868966063930363971:=0
def tw13869201281172036675:=0
def tw10268240596715725891:=0
def tw12856324028241461347:=0
def tw140066744580109411:=0
def tw10046609543201198243:=0
def tw804179822857173251:=0
def tw261368103437549827:=0
def tw1555591036894818595:=0
def tw10306969123930391075:=0
def tw4099113979362263619:=0
def tw13719535989229429315:=0
def tw4610885234459606627:=0
def tw12008066271428516483:=0
def tw16007146832851617475:=0
def tw13277228539098227395:=0
def tw2043465692583883459:=0
def tw12627972722541479747:=0
def tw11241133276369274916:=0
def tw10237336348909449348:=0
def tw12424809325210047716:=0
def tw18319634929772391684:=0
def tw15354265243739910468:=0
def tw12123011103977059684:=0
def tw6322452456363743620:=0
def tw3063665222675000932:=0
def tw14034167608078890596:=0
def tw6734572085459218052:=0
def tw1520647983840252612:=0
def tw10455945219278499524:=0
def tw6623506570785047268:=0
def tw2851794553688778500:=0
def tw3792166741248241412:=0
def tw15718003694453558052:=0
def tw11373515525922775876:=0
def tw11037721534564705124:=0
def tw9430997830887998372:=0
def tw6536608756740045732:=0
def tw5957887318508291012:=0
def tw4092278800292110469:=0
def tw6548978425035756901:=0
def tw94739033048072645:=0
def tw16092001149650884101:=0
def tw2798552840579566117:=0
def tw17120073843479676453:=0
def tw1402608716018886213:=0
def tw18033967150195410821:=0
def tw384609322013861926:=0
def tw3530880637395834950:=0
def tw5310613519060977830:=0
def tw9058127950102798662:=0
def tw17416522756159211942:=0
def tw17371653612967760294:=0
def tw16416063774659723718:=0
def tw5394514685452034534:=0
def tw14892555681291865606:=0
def tw2878892886718278150:=0
def tw9075482070042543654:=0
def tw8758816161124224550:=0
def tw15825110750472906374:=0
def tw16147255391789954854:=0
def tw12590305736604960678:=0
def tw7768616449234856870:=0
def tw4450252339055244295:=0
def tw9263906086007778311:=0
def tw10293981822469448807:=0
def tw18327516502429250727:=0
def tw8716914286161243399:=0
def tw2909903840763982119:=0
def tw6356135591008799111:=0
def tw11292287671527651911:=0
def tw4352443286242517575:=0
def tw6023495970616290919:=0
def tw3170817778794582663:=0
def tw4694107736896255687:=0
def tw11974858103013274375:=0
def tw5987484315694496551:=0
def tw13510006367599901479:=0
def tw13987308331512904551:=0
def tw8527511566405021671:=0
def tw17527904963154840744:=0
def tw16583376747462121640:=0
def tw15166848841241824520:=0
def tw17115126097774651688:=0
def tw3353633641781086568:=0
def tw958052817218825576:=0
def tw10631453489689147784:=0
def tw8618789565729450408:=0
def tw335743376320890312:=0
def tw7112232665683346056:=0
def tw3731203914825450152:=0
def tw3236899907301573416:=0
def tw4100656155101857640:=0
def tw16454981532390136841:=0
def tw8613888737376708681:=0
def tw394573817782184073:=0
def tw10291309442434970761:=0
def tw15666675273815030953:=0
def tw649004007686633673:=0
def tw2643427629066627273:=0
def tw12113553273229690121:=0
def tw11928554639371771177:=0
def tw15926852140396843337:=0
def tw15979989020594759049:=0
def tw4571651585477616009:=0
def tw1842318512854966729:=0
def tw13408946778739332617:=0
def tw8881432356723732009:=0
def tw13652392490333794889:=0
def tw17599602418566022793:=0
def tw16478821332296310473:=0
def tw4589013799129704265:=0
def tw17606259379085024169:=0
def tw2570435772884453386:=0
def tw14850160987411659818:=0
def tw7024118592735736906:=0
def tw3377024412722511018:=0
def tw8619403821415402666:=0
def tw14414543275882481834:=0
def tw16560730462555716842:=0
def tw5256725833987213578:=0
def tw16325710939853898026:=0
def tw8399851928192843210:=0
def tw15808327086257492426:=0
def tw16239217213227276874:=0
def tw11458175751925898826:=0
def tw5001831530929176170:=0
def tw16450021463121760874:=0
def tw15560551161702559402:=0
def tw2705938150534865610:=0
def tw5855521725802065738:=0
def tw15012151758308008874:=0
def tw10749928584333658219:=0
def tw16191336165996916875:=0
def tw1279699657390453963:=0
def tw2198940702807274731:=0
def tw9920222120543096107:=0
def tw4259694824345022891:=0
def tw16059747479603355211:=0
def tw14963040045662860939:=0
def tw10423464190001473451:=0
def tw14540232061015770188:=0
def tw17742933827384983660:=0
def tw14324385454691578092:=0
def tw3003482428189908268:=0
def tw10769187348612223372:=0
def tw12441520665500622284:=0
def tw14540132512884898252:=0
def tw6560156584193368588:=0
def tw16032912762509400620:=0
def tw10032593594694093356:=0
def tw11797608246830993068:=0
def tw5210820805719750380:=0
def tw591665044703163437:=0
def tw11749935896912184365:=0
def tw3482106037895096365:=0
def tw13301582459107542093:=0
def tw17719200472439390285:=0
def tw14954913753021290605:=0
def tw16234138219207008461:=0
def tw17085643546884238637:=0
def tw2207882315126788493:=0
def tw13624830273708354221:=0
def tw14928110418229698253:=0
def tw16587702074033424269:=0
def tw18295059834853230606:=0
def tw17962866711917508686:=0
def tw12355714751624418414:=0
def tw16240474603564888206:=0
def tw1842813012913406094:=0
def tw16255838157505087758:=0
def tw9759448507930312014:=0
def tw16031420589767300494:=0
def tw6517052498657899054:=0
def tw9104082634024488526:=0
def tw15376251266460123758:=0
def tw1974053342331355790:=0
def tw5247709397153308302:=0
def tw12549837698996755182:=0
def tw2044705568984596206:=0
def tw11614781507458589582:=0
def tw5999427400689281006:=0
def tw4779506252082066479:=0
def tw3372665715735609423:=0
def tw7783695502033041487:=0
def tw4335597589395622991:=0
def tw6828854832014444719:=0
def tw12124458571181411535:=0
def tw3907065912484325775:=0
def tw12584466873936293263:=0
def tw766528575501228463:=0
def tw8024614442240468399:=0
def tw2686183361969905071:=0
def tw14637418403319828975:=0
def tw12977815342660243983:=0
def tw11971057240931478063:=0
def tw1184509120344964655:=0
def tw11380860210945769007:=0
def tw10623469673267963471:=0
def tw1896352635510654575:=0
def tw3588800284509213295:=0
def tw17394836310934038127:=0
def tw11385871744089584303:=0
def tw11221503337092369071:=0
def tw14731170671048326927:=0
def tw16491321531414667023:=0
def tw7048900285492031279:=0
def tw13861959668046169935:=0
def tw12569314236704111503:=0
def tw11322110100242921648:=0
def tw3869699523836647856:=0
def tw13002535557584095696:=0
def tw3740910732761964080:=0
def tw16047377669620353744:=0
def tw13738654380095653680:=0
def tw3049516857414140945:=0
def tw1608265462274492465:=0
def tw6736256758728154289:=0
def tw13165819617038877969:=0
def tw579616632286577:=0
def tw4467021459433252369:=0
def tw9402798801449743921:=0
def tw2390620256087893553:=0
def tw13247425101991598737:=0
def tw5097523382993543825:=0
def tw11235277220794190513:=0
def tw2678333734222778065:=0
def tw6080900526112049905:=0
def tw7578773135403933553:=0
def tw7446707117460239217:=0
def tw5608705283123207186:=0
def tw3523118900059246642:=0
def tw10901936702759757906:=0
def tw34836633605648466:=0
def tw11903477800232911154:=0
def tw11579300520267413970:=0
def tw5652652262802334194:=0
def tw10905459685493686834:=0
def tw4270458621330164466:=0
def tw9435621391152678674:=0
def tw14015251820851008306:=0
def tw6949058660072227666:=0
def tw8460081411140149234:=0
def tw4153089117341122579:=0
def tw16088050271978846387:=0
def tw14738121235093980595:=0
def tw4255613276709413331:=0
def tw14457049526093533875:=0
def tw10602116520266668723:=0
def tw11476817268960876275:=0
def tw8239555389449893683:=0
def tw12163216540165440692:=0
def tw9344150444556220628:=0
def tw12195080585689544116:=0
def tw10549496351355910676:=0
def tw5594986470064127508:=0
def tw7807258360752618036:=0
def tw10494680235154140852:=0
def tw2841366509888555732:=0
def tw17302343499278323476:=0
def tw13176606306878371700:=0
def tw11311621384125295669:=0
def tw12362785775657808981:=0
def tw4146498734925827413:=0
def tw9827392046665922933:=0
def tw10595268742613538261:=0
def tw16284161343847833077:=0
def tw6467540771508989429:=0
def tw13612057250026607125:=0
def tw13331865903844911765:=0
def tw9940833050516377365:=0
def tw1640086865807800309:=0
def tw11051341122386459766:=0
def tw12300223126244285590:=0
def tw14511720755631071446:=0
def tw12117531928948538614:=0
def tw16900195041536586038:=0
def tw12945262837433842006:=0
def tw6460462382292373910:=0
def tw5640474964724012502:=0
def tw17278364079942071798:=0
def tw8250454131580421654:=0
def tw16980462437597413942:=0
def tw11955452012123837142:=0
def tw6772752059571579670:=0
def tw12390512623785733910:=0
def tw880474077547554678:=0
def tw15561566338890068950:=0
def tw14694111063353308150:=0
def tw8906031068688841879:=0
def tw10049608160675894455:=0
def tw4382971566524546327:=0
def tw2438099636704857367:=0
def tw9697028313104469303:=0
def tw5332457037027826103:=0
def tw6865275118841703895:=0
def tw5530179211022594519:=0
def tw621033227151530487:=0
def tw2616202851338331767:=0
def tw13179908618560890519:=0
def tw5029182594341490423:=0
def tw3510426119907629911:=0
def tw4846712820959765367:=0
def tw15140226966038581304:=0
def tw12487676515775272248:=0
def tw17519499532155713848:=0
def tw8644430330405729656:=0
def tw13517802610096767416:=0
def tw4942837762728144344:=0
def tw5147275901945545272:=0
def tw10783786085482634808:=0
def tw12771726625897733688:=0
def tw14625200498550048472:=0
def tw16546270706322321336:=0
def tw11249757612828337080:=0
def tw13757734005273494488:=0
def tw6425223621266126808:=0
def tw5478930324638759065:=0
def tw11710120839381008665:=0
def tw2914603701213779257:=0
def tw5795320949922746681:=0
def tw6787732982472363353:=0
def tw1856748697071014361:=0
def tw13131634759670928953:=0
def tw6867903594921263705:=0
def tw3032791327518328441:=0
def tw10695940555836164793:=0
def tw15423138874005613273:=0
def tw10344696704271696665:=0
def tw12479812520754213753:=0
def tw6657242547845989369:=0
def tw15829808783291907098:=0
def tw10347952858867137594:=0
def tw3839215406958198874:=0
def tw7074258175398242426:=0
def tw7637947384302200986:=0
def tw8682975230039171258:=0
def tw4448758215313525946:=0
def tw5756624121602902234:=0
def tw4837235614275845466:=0
def tw15621755740536020346:=0
def tw7290344768863219098:=0
def tw11892167688040964570:=0
def tw15105974312334168570:=0
def tw2562389948578439834:=0
def tw11960403229110031162:=0
def tw15105663397375359866:=0
def tw3498892901490705306:=0
def tw1938184254565726267:=0
def tw2644582278738299163:=0
def tw7345628804384366875:=0
def tw15960836897971025243:=0
def tw9826041792796883291:=0
def tw3137334031269407067:=0
def tw3541685444918705595:=0
def tw6719109285317000763:=0
def tw689204475856378779:=0
def tw15468458861018256347:=0
def tw7552423016844398652:=0
def tw5889350172451426460:=0
def tw7045298508141602012:=0
def tw16773036428880492796:=0
def tw9611167606115120668:=0
def tw3779842833539834556:=0
def tw13851133955703107292:=0
def tw1594494617914283900:=0
def tw7336600567322833852:=0
def tw12630932454044061692:=0
def tw16780244964733974557:=0
def tw5780593786902538269:=0
def tw11025982893594454109:=0
def tw14408338660236950653:=0
def tw4134213835682574493:=0
def tw12619375106205403357:=0
def tw3481635450357288253:=0
def tw12907615127366610429:=0
def tw1924712984947070525:=0
def tw14091558932444581501:=0
def tw1095838901652373277:=0
def tw4543671128858568605:=0
def tw12375129537192077245:=0
def tw17894715443370283965:=0
def tw5326982350768394237:=0
def tw13666587199834971133:=0
def tw5934643479309597726:=0
def tw16275768563822254174:=0
def tw18213993315882414238:=0
def tw8290562891226320126:=0
def tw7018287411178126622:=0
def tw2428568544278592062:=0
def tw3883231912723067454:=0
def tw16354351257997952638:=0
def tw13007375063040037534:=0
def tw16929905801733641918:=0
def tw15129436370162255582:=0
def tw9275598010479838974:=0
def tw853563348770123582:=0
def tw6035776667006956382:=0
def tw898756573738086302:=0
def tw9223585314509290398:=0
def tw951313354716698655:=0
def tw18211517989933252799:=0
def tw2513716426916408543:=0
def tw13246659389799351583:=0
def tw17436955224259848639:=0
def tw2840819288252709311:=0
def tw5305089863888522783:=0
def tw654586837903023647:=0
def tw3167150991496172127:=0
def tw10318704047225548415:=0
def tw16660623893222530751:=0
def tw1871137202244490015:=0
def tw3665813737350365023:=0
def tw17716446323618060159:=0
def tw18342347584051727112:=0
end PySem.W.Fast
open PySem PySem.W PyProof.Rows
set_option maxRecDepth 100000 in
set_option maxHeartbeats 0 in
theorem PySem.Challenge.cw_spinfloor_k56_whole_climbs_holds : PySem.Challenge.rw_spinfloor_k56_whole_climbs.Holds := by
 w_on;o_law;k_head;(case hw=>w_witness2)
 k_fill
 refine K8.walk (l:=PySem.Challenge.rw_spinfloor_k56_whole_climbs) rfl rfl (fun w h Y=>PySem.W.km_in_of Y) ?R ?F
 (case R=>kernel_rfl)
 case F =>
  intro w mg fa h KX G hmg
  refine' K8.all_mk KX G hmg ?Ax ?Aw ?Fe ?iy ?iw ?c8 ?gH ?iu ?ir ?c7 ?gG ?jM ?As ?zg ?z9 ?tJ ?iY ?iC ?iP ?fy ?iU ?iz ?iM ?fm ?qm ?pd ?pW ?kE ?bO ?cF ?eU ?cH ?gh ?fX ?f9 ?de ?uC ?tH ?uu ?n8 ?Av ?zj ?Ab ?tL ?Au ?zh ?Aa ?tK ?iE ?iR ?iG ?fA ?lO ?l8 ?ji ?lR ?eJ ?eV ?bN ?cJ ?jT ?j4 ?eM ?gW ?jU ?j5 ?gR ?jV ?Fd ?Em ?E2 ?k_head ?qi ?oZ ?pS ?kz ?mw ?lN ?l7 ?jh ?iW ?iA ?iN ?fq ?j6 ?jN ?jX ?gL ?ma ?lH ?lX ?jc ?qg ?oY ?pR ?kx ?hO ?gK ?hJ ?dX ?gb ?fV ?fZ ?da ?eX ?eI ?eR ?cG ?iD ?iQ ?iF ?iH ?mv ?lM ?l6 ?jg ?mq ?lL ?l5 ?jf ?ql ?o9 ?pV ?kD ?mh ?lJ ?lY ?jd ?ka ?jR ?j2 ?gP ?j8 ?jP ?jZ ?gN ?dJ ?dD ?dI ?bY ?j9 ?jQ ?j1 ?gO ?qj ?o7 ?pT ?kA ?j7 ?jO ?jY ?gM ?kc ?jS ?j3 ?gQ ?iX ?iB ?iO ?fx ?qk ?o8 ?pU ?kC ?ml ?lK ?lZ ?je ?G7 ?IF ?Je ?II ?yC ?zC ?yp ?yh ?yY ?zp ?jL ?jK ?dB ?yB ?zB ?yo ?yg ?yX ?zo ?jJ ?jI ?dA ?DS ?EG ?DN ?DH ?D6 ?Er ?jH ?jG ?ik ?gF ?iq ?gi_mplc ?HC ?HD ?Dd ?Dc ?xA ?xB ?jB ?ic ?HA ?Hy ?rN ?HB ?k8 ?Hz ?tbc ?tbl ?tbv ?tbn
  (case Ax=>k_is)
  (case Aw=>k_is)
  (case Fe=>k_is)
  (case iy=>k_is)
  (case iw=>k_is)
  (case c8=>k_is)
  (case gH=>k_is)
  (case iu=>k_is)
  (case ir=>k_is)
  (case c7=>k_is)
  (case gG=>k_is)
  (case jM=>k_is)
  (case As=>k_is)
  (case zg=>k_is)
  (case z9=>k_is)
  (case tJ=>k_is)
  (case iY=>k_is)
  (case iC=>k_is)
  (case iP=>k_is)
  (case fy=>k_is)
  (case iU=>k_is)
  (case iz=>k_is)
  (case iM=>k_is)
  (case fm=>k_is)
  (case qm=>k_is)
  (case pd=>k_is)
  (case pW=>k_is)
  (case kE=>k_is)
  (case bO=>k_is)
  (case cF=>k_is)
  (case eU=>k_is)
  (case cH=>k_is)
  (case gh=>k_is)
  (case fX=>k_is)
  (case f9=>k_is)
  (case de=>k_is)
  (case uC=>k_is)
  (case tH=>k_is)
  (case uu=>k_is)
  (case n8=>k_is)
  (case Av=>k_is)
  (case zj=>k_is)
  (case Ab=>k_is)
  (case tL=>k_is)
  (case Au=>k_is)
  (case zh=>k_is)
  (case Aa=>k_is)
  (case tK=>k_is)
  (case iE=>k_is)
  (case iR=>k_is)
  (case iG=>k_is)
  (case fA=>k_is)
  (case lO=>k_is)
  (case l8=>k_is)
  (case ji=>k_is)
  (case lR=>k_is)
  (case eJ=>k_is)
  (case eV=>k_is)
  (case bN=>k_is)
  (case cJ=>k_is)
  (case jT=>k_is)
  (case j4=>k_is)
  (case eM=>k_is)
  (case gW=>k_is)
  (case jU=>k_is)
  (case j5=>k_is)
  (case gR=>k_is)
  (case jV=>k_is)
  (case Fd=>k_is)
  (case Em=>k_is)
  (case E2=>k_is)
  (case k_head=>k_is)
  (case qi=>k_is)
  (case oZ=>k_is)
  (case pS=>k_is)
  (case kz=>k_is)
  (case mw=>k_is)
  (case lN=>k_is)
  (case l7=>k_is)
  (case jh=>k_is)
  (case iW=>k_is)
  (case iA=>k_is)
  (case iN=>k_is)
  (case fq=>k_is)
  (case j6=>k_is)
  (case jN=>k_is)
  (case jX=>k_is)
  (case gL=>k_is)
  (case ma=>k_is)
  (case lH=>k_is)
  (case lX=>k_is)
  (case jc=>k_is)
  (case qg=>k_is)
  (case oY=>k_is)
  (case pR=>k_is)
  (case kx=>k_is)
  (case hO=>k_is)
  (case gK=>k_is)
  (case hJ=>k_is)
  (case dX=>k_is)
  (case gb=>k_is)
  (case fV=>k_is)
  (case fZ=>k_is)
  (case da=>k_is)
  (case eX=>k_is)
  (case eI=>k_is)
  (case eR=>k_is)
  (case cG=>k_is)
  (case iD=>k_is)
  (case iQ=>k_is)
  (case iF=>k_is)
  (case iH=>k_is)
  (case mv=>k_is)
  (case lM=>k_is)
  (case l6=>k_is)
  (case jg=>k_is)
  (case mq=>k_is)
  (case lL=>k_is)
  (case l5=>k_is)
  (case jf=>k_is)
  (case ql=>k_is)
  (case o9=>k_is)
  (case pV=>k_is)
  (case kD=>k_is)
  (case mh=>k_is)
  (case lJ=>k_is)
  (case lY=>k_is)
  (case jd=>k_is)
  (case ka=>k_is)
  (case jR=>k_is)
  (case j2=>k_is)
  (case gP=>k_is)
  (case j8=>k_is)
  (case jP=>k_is)
  (case jZ=>k_is)
  (case gN=>k_is)
  (case dJ=>k_is)
  (case dD=>k_is)
  (case dI=>k_is)
  (case bY=>k_is)
  (case j9=>k_is)
  (case jQ=>k_is)
  (case j1=>k_is)
  (case gO=>k_is)
  (case qj=>k_is)
  (case o7=>k_is)
  (case pT=>k_is)
  (case kA=>k_is)
  (case j7=>k_is)
  (case jO=>k_is)
  (case jY=>k_is)
  (case gM=>k_is)
  (case kc=>k_is)
  (case jS=>k_is)
  (case j3=>k_is)
  (case gQ=>k_is)
  (case iX=>k_is)
  (case iB=>k_is)
  (case iO=>k_is)
  (case fx=>k_is)
  (case qk=>k_is)
  (case o8=>k_is)
  (case pU=>k_is)
  (case kC=>k_is)
  (case ml=>k_is)
  (case lK=>k_is)
  (case lZ=>k_is)
  (case je=>k_is)
  (case G7=>k_is)
  (case IF=>k_is)
  (case Je=>k_is)
  (case II=>k_is)
  (case yC=>k_is)
  (case zC=>k_is)
  (case yp=>k_is)
  (case yh=>k_is)
  (case yY=>k_is)
  (case zp=>k_is)
  (case jL=>k_is)
  (case jK=>k_is)
  (case dB=>k_is)
  (case yB=>k_is)
  (case zB=>k_is)
  (case yo=>k_is)
  (case yg=>k_is)
  (case yX=>k_is)
  (case zo=>k_is)
  (case jJ=>k_is)
  (case jI=>k_is)
  (case dA=>k_is)
  (case DS=>k_is)
  (case EG=>k_is)
  (case DN=>k_is)
  (case DH=>k_is)
  (case D6=>k_is)
  (case Er=>k_is)
  (case jH=>k_is)
  (case jG=>k_is)
  (case ik=>k_is)
  (case gF=>k_is)
  (case iq=>k_is)
  (case gi_mplc=>k_is)
  (case HC=>k_is)
  (case HD=>k_is)
  (case Dd=>k_is)
  (case Dc=>k_is)
  (case xA=>k_is)
  (case xB=>k_is)
  (case jB=>k_is)
  (case ic=>k_is)
  (case HA=>k_is)
  (case Hy=>k_is)
  (case rN=>k_is)
  (case HB=>k_is)
  (case k8=>k_is)
  (case Hz=>k_is)
  (case tbc=>rfl)
  (case tbl=>k_is)
  (case tbv=>rfl)
  (case tbn=>kernel_rfl)
