import PyProof.Rows.All
import Wide.All
import OpenK.AllK
import Wide.FinOn
import Lean
import PyProof.EqAt
import PyProof.EqKinds
import PyProof.TupleCall
import PySem.Challenge.RW_spinfloor_k45_worths_of_trees
open Array renaming toList_append → Js, length_toList → JK, getElem?_toList → Kh, toList_push → KC, perm_iff_toList_perm → K2, toList_reverse → K3, toList_extract → Lq, toList_setIfInBounds → Mw, getElem?_eq_some_iff → Mx, getElem?_eq_getElem → MD, size_setIfInBounds → MH
open Bool renaming false_ne_true → IS, false_eq_true → JM, and_eq_true_iff → Kt, or_false → KL, true_and → K1, false_and → K9, not_eq_true' → Li, eq_iff_iff → LW, false_or → Md, and_false → MC
open Int renaming toNat_natCast → JB, add_zero → JS, le_refl → Kk, zero_add → Km, le_of_lt → Ko, emod_nonneg → KA, natCast_nonneg → Mb, emod_lt_of_pos → Mc, le_trans → Mj, fdiv_eq_ediv_of_nonneg → Mv
open List renaming getElem?_eq_some_iff → IA, getElem?_eq_getElem → IB, mem_of_getElem? → ID, getElem?_append_right → IE, length_append → IF, getElem?_append_left → IH, getElem?_map → II, length_map → IJ, mem_append → IK, mem_cons → IL, length_singleton → IM, mem_append_right → IP, getD_eq_getElem?_getD → IT, mem_cons_of_mem → IV, mem_singleton → IX, mem_map → IY, mem_cons_self → Jc, length_take → Jg, take_append_drop → Ji, take_add_one → Jk, size_toArray → Jl, length_cons → Jm, mem_append_left → Jn, nodup_append → Jo, append_assoc → Jq, map_append → Jr, map_cons → Ju, take_of_length_le → Jx, take_length → Jy, mem_range → Jz, range → JC, nodup_cons → JD, length_drop → JF, pairwise_append → JH, getElem?_of_mem → JI, not_mem_nil → JJ, mem_flatten → JN, length_set → JO, getElem?_set → JP, mem_of_mem_take → JQ, mem_of_mem_drop → JR, mem_iff_getElem? → JU, length_range → JV, flatten_cons → JW, flatten_append → J2, perm_append_comm → Ka, getElem_mem → Kc, perm_ext_iff_of_nodup → Kd, pairwise_iff_getElem → Kf, nodup_range → Kr, drop_eq_getElem_cons → Ks, pairwise_map → Kw, mem_filter → Kx, ext_getElem? → Ky, append_nil → Kz, map_map → KD, getElem?_replicate → KJ, any_eq_true → KO, getElem?_take → KP, getElem?_drop → KQ, lookup → KU, length_nil → KW, getElem?_eq_none → KY, replicate → K4, nodup_nil → K5, extract_eq_drop_take → K6, drop_drop → K7, map_congr_left → Lb, pairwise_singleton → Ld, length_eq_zero_iff → Le, find?_cons → Lf, drop_take → Lk, length_filter_le → Lm, take_append_of_le_length → Lo, take_add → Lr, dropLast_concat_getLast → Ls, filter_append → Lv, append_of_mem → Lw, take_take → Lx, mem_or_eq_of_mem_set → Ly, idxOf_lt_length_iff → Lz, getElem_take → LA, getElem?_inj → LB, flatMap_cons → LC, any_cons → LG, Pairwise → LI, length_pos_of_mem → LJ, getElem?_set_self → LK, drop_eq_nil_of_le → LL, set_append_right → LR, range_succ → LS, of_mem_zip → LU, nil_append → LV, getElem?_set_ne → LX, drop_zero → LZ, getElem?_range → L6, filterMap_cons → L7, pairwise_cons → L8, mem_filterMap → Ma, getElem_drop → Mf, map_nil → Mi, zipIdx_cons → Mm, drop_append → Mn, sum_append → Mt, filter_nil → Mu, take_zero → MA, getElem?_zip_eq_some → MB, sum_cons → MJ, filter_cons_of_pos → MK, filter_cons_of_neg → MM
open List.Pairwise renaming nil → Mg, imp_of_mem → MG
open List.Perm renaming append_left → Kg, refl → Ll
open Nat renaming le_refl → IG, sub_self → Je, ne_of_lt → Jf, lt_of_lt_of_le → Jp, testBit_two_pow → JE, le_trans → JG, zero_le → JL, lt_irrefl → JT, ne_of_gt → JX, le_of_lt → JY, testBit_or → JZ, zero_testBit → Ki, lt_succ_self → Kj, eq_of_testBit_eq → Kl, lt_succ_of_lt → Kp, mod_eq_of_lt → Kq, testBit_and → Kv, min_eq_left → KS, le_succ_of_le → K0, le_succ → La, testBit_lt_two_pow → Lg, le_add_right → Ln, pow_le_pow_right → Lp, mod_self → LQ, or_zero → L4, and_zero → Mh, testBit → Mr, not_lt_zero → Ms
open Option renaming map_eq_some_iff → Jd, map_some → LP, isSome_iff_exists → MF
open Option.some renaming inj → IW
open PySem renaming Spec → Ja, mem_of_lookup → J1
open PySem.F renaming plainAttrs_list → Jt, type_list_append → Jv, slot_list_append → Jw, slot_dict_items → KH, plainAttrs_dict → KI, type_dict_items → LF, slot_dict_get → LN, slot_dict_setdefault → Mo, plain_extend_loop → My, args_dict_items_1 → Mz, entry_dict_items → ME, args_dict_get_3 → MI
open PySem.W renaming Frag → IC, keepIn → IQ, nsIn → IU, codeIn → IZ, fnOf → Jb, mg_of → Jh, findIn → Jj, mg_none_of → JA, kia_one → Kb, emptyDict → Ke, instObj → Ku, mroIn → KG, plainGet → KN, isFn → KR, hasDictIn → KZ, callWith_K → Lc, plainOver → Lh, kitOne → Lj, makesIn → Lu, excIn → LD, lookIn → LY, plainGet_of → L0, hideAll_get → L3, methodObj → Me, takerIn → Mp, OpenLaw → Mq
set_option Elab.async false
set_option linter.all false
set_option maxRecDepth 100000
local macro_rules | `(tactic| omega) => `(tactic| first | assumption | lia | omega +splitDisjunctions)
namespace L2
open PySem PySem.Spec PyProof.Rows
abbrev Key:=Sum Int Str
def yj:Key->Value->Bool
 |.inl k,v=>Value.isInt k v
 |.inr x,v=>Value.isStrOf x v
def keyH(w:World):Key->Int
 |.inl k=>hashInt k
 |.inr x=>hashStr w x
theorem aX:∀{k:Key}{v:Value},yj k v=true->(∃ i t,k=Sum.inl i/\v=Value.int i t)∨(∃ x t,k=Sum.inr x/\v=Value.str x t)
 |.inl i,v,h=>by
  obtain⟨t,e⟩:=Value.isInt_shape (k:=i) (v:=v) h
  exact .inl ⟨i,t,rfl,e⟩
 |.inr x,v,h=>by
  obtain⟨t,e⟩:=Value.isStrOf_shape (x:=x) (v:=v) h
  exact .inr ⟨x,t,rfl,e⟩
theorem Dp(i:Int)(t:Tok):yj (.inl i) (.int i t)=true:=by simp[yj,Value.isInt]
theorem Dl(x:Str)(t:Tok):yj (.inr x) (.str x t)=true:=by simp[yj,Value.isStrOf]
theorem key_ll(a b:Int):decide ((Sum.inl a:Key)=Sum.inl b)=(a == b):=by
 by_cases e:a=b
 ·subst e;simp
 ·have h:¬ (Sum.inl a:Key)=Sum.inl b:=fun q=>e (Sum.inl.inj q)
  rw[decide_eq_false h]
  exact(beq_eq_false_iff_ne.mpr e).symm
theorem key_rr(a b:Str):decide ((Sum.inr a:Key)=Sum.inr b)=decide (a=b):=by
 by_cases e:a=b
 ·subst e;simp
 ·have h:¬ (Sum.inr a:Key)=Sum.inr b:=fun q=>e (Sum.inr.inj q)
  rw[decide_eq_false h,decide_eq_false e]
theorem key_lr(a:Int)(b:Str):decide ((Sum.inl a:Key)=Sum.inr b)=false:=decide_eq_false (fun q=>nomatch q)
theorem key_rl(a:Str)(b:Int):decide ((Sum.inr a:Key)=Sum.inl b)=false:=decide_eq_false (fun q=>nomatch q)
def bA(prog:Program)(w:World):PySem.KeyKind prog w Key where
 is:=yj
 hash:=keyH w
 inj:=fun v a b ha hb=>by
  rcases aX ha with⟨i,t,rfl,rfl⟩ | ⟨x,t,rfl,rfl⟩
  ·rcases aX hb with⟨j,u,rfl,e⟩ | ⟨y,u,rfl,e⟩
   ·injection e with e1 _;rw[e1]
   ·exact nomatch e
  ·rcases aX hb with⟨j,u,rfl,e⟩ | ⟨y,u,rfl,e⟩
   ·exact nomatch e
   ·injection e with e1 _;rw[e1]
 byValue:=fun k v h=>by
  rcases aX h with⟨i,t,rfl,rfl⟩ | ⟨x,t,rfl,rfl⟩<;>rfl
 pyHash:=fun hv h=>by
  rcases aX hv with⟨i,t,rfl,rfl⟩ | ⟨x,t,rfl,rfl⟩
  ·exact wpAny_pyHash_int h
  ·exact wpAny_pyHash_str h
 eqBool:=fun hu hv h=>by
  rcases aX hu with⟨i,t,rfl,rfl⟩ | ⟨x,t,rfl,rfl⟩
  ·rcases aX hv with⟨j,u,rfl,rfl⟩ | ⟨y,u,rfl,rfl⟩
   ·rw[key_ll]at h;exact wpAny_eqBool_int h
   ·rw[key_lr]at h;exact SeqAt.EqAt.int_str i t y u _ _ _ _ h
  ·rcases aX hv with⟨j,u,rfl,rfl⟩ | ⟨y,u,rfl,rfl⟩
   ·rw[key_rl]at h;exact SeqAt.EqAt.str_int x t j u _ _ _ _ h
   ·rw[key_rr]at h;exact wpAny_eqBool_str h
 «strs»:=fun k x t v h=>by
  rcases aX h with⟨i,u,rfl,e⟩ | ⟨y,u,rfl,e⟩
  ·exact nomatch e
  ·injection e with e1 _
   subst e1
   cases v<;>rfl
theorem yb(prog:Program)(w:World)(i:Int)(t:Tok):(bA prog w).is (.inl i) (.int i t)=true:=Dp i t
theorem ya(prog:Program)(w:World)(x:Str)(t:Tok):(bA prog w).is (.inr x) (.str x t)=true:=Dl x t
end L2
namespace L2
open PySem PySem.Spec PyProof.Rows
inductive V where
 |non | bl (b:Bool) | int (i:Int) | str (x:Str) | byt (b:Array UInt8) | flt (b:UInt64) | ref (a:Addr) | ty (n:String)
 deriving DecidableEq
def RelV:V->Value->Prop
 |.non,u=>u=Value.none
 |.bl b,u=>u=Value.bool b
 |.int i,u=>∃ t,u=Value.int i t
 |.str x,u=>∃ t,u=Value.str x t
 |.byt b,u=>∃ t,u=Value.bytes b t
 |.flt b,u=>∃ t,u=Value.float b t
 |.ref a,u=>u=Value.ref a
 |.ty n,u=>u=Value.type n
abbrev Vals:List V->List Value->Prop:=Paired RelV
theorem Vals.length{xs:List V}{us:List Value}(r:Vals xs us):xs.length=us.length:=Paired.length r
theorem Vals.get:∀{xs:List V}{us:List Value}{i:Nat}{x:V},Vals xs us->xs[i]?=some x->∃ u,us[i]?=some u/\RelV x u
 |_,_,_,_,.nil,e=>by simp at e
 |_,_,0,_,.cons r _,e=>by simp at e;subst e;exact⟨_,rfl,r⟩
 |_,_,i+1,x,.cons _ t,e=>by
  obtain⟨u,h1,h2⟩:=Vals.get (i:=i) (x:=x) t (by simpa using e)
  exact⟨u,by simpa using h1,h2⟩
theorem Vals.append:∀{xs ys:List V}{us ws:List Value},Vals xs us->Vals ys ws->Vals (xs++ys) (us++ws)
 |_,_,_,_,.nil,s=>s
 |_,_,_,_,.cons r t,s=>.cons r (Vals.append t s)
theorem Vals.take:∀{xs:List V}{us:List Value}(n:Nat),Vals xs us->Vals (xs.take n) (us.take n)
 |_,_,0,_=>.nil
 |_,_,_+1,.nil=>.nil
 |_,_,n+1,.cons r t=>.cons r (Vals.take n t)
theorem Vals.drop:∀{xs:List V}{us:List Value}(n:Nat),Vals xs us->Vals (xs.drop n) (us.drop n)
 |_,_,0,r=>r
 |_,_,_+1,.nil=>.nil
 |_,_,n+1,.cons _ t=>Vals.drop n t
def RelO:Option V->Option Value->Prop
 |some v,some u=>RelV v u
 |none,none=>True
 |_,_=>False
def KV{κ:Type}:List (κ×V)->List (κ×Value)->Prop:=Paired fun(p:κ×V) (q:κ×Value)=>p.1=q.1/\RelV p.2 q.2
def kV:Key->V
 |.inl i=>.int i
 |.inr x=>.str x
inductive HO where
  |lst (xs:List V)
  |tup (xs:List V)
  |dK (kvs:List (Key×V)) | dT (kvs:List (List Key×V))
  |set (S:Int->Bool) (n:Nat)
  |ins (C dx:Addr) (fs:List (Str×V))
  |own (x:Addr)
  |xd (fs:List (Str×V))
  |met (f x:Addr)
  |rng (lo hi:Int)
  |frz (o:Obj) (u:HO)
  |tbl (ps:Array Value)
  |ext (φ:Heap->Prop)
abbrev Hp:=Addr->Option HO
def upd(H:Hp)(a:Addr)(o:HO):Hp:=fun b=>if b=a then some o else H b
theorem ae{H:Hp}{a:Addr}{o:HO}:upd H a o a=some o:=by unfold upd;rw[if_pos rfl]
theorem ai{H:Hp}{a b:Addr}{o:HO}(h:b≠a):upd H a o b=H b:=by unfold upd;rw[if_neg h]
theorem AM{H:Hp}{a b:Addr}{o u:HO}(h:H a=some o)(h':H b=some u)(d:o≠u):a≠b:=by
 intro e;subst e;rw[h]at h';exact d (IW h')
theorem ar{H:Hp}{a b:Addr}{o:HO}(h:H a=some o)(h':H b=none):a≠b:=by
 intro e;subst e;rw[h]at h';cases h'
section
variable(P:Program)(w:World)
def aY(H:Hp)(h:Heap)(a:Addr):HO->Prop
 |.lst xs=>xs.length<=sizeLine/\∃(its:List Value)(n:Nat),Vals xs its/\h.get? a=some { cls:=.type "list",data:=.seq its.toArray n }
 |.tup xs=>xs.length<=sizeLine/\∃ its:List Value,Vals xs its/\IsTup h a its.toArray
 |.dK kvs=>kvs.length<=sizeLine/\(a == sysModules)=false/\∃ vs,KV kvs vs/\h.DictOf (bA P w) a vs
 |.dT kvs=>kvs.length<=sizeLine/\(a == sysModules)=false/\∃ xs:List (List Key×Addr×Value),
   Paired (fun(p:List Key×V) (q:List Key×Addr×Value)=>p.1=q.1/\H q.2.1=some (.tup (p.1.map kV))/\RelV p.2 q.2.2) kvs xs /\
   ∃ o es ep,h.get? a=some o/\o.ExactDict/\o.data=.dict es ep/\es.toList=xs.map (entryOfKey (tupleKind (bA P w)))/\(xs.map (·.1)).Nodup
 |.set S n=>h.SetOf (intKind P w) a S n
 |.ins C dx fs=>H dx=some (.own a)/\fs.length<=1000/\dx≠a/\h.get? a=some (Ku C dx) /\
   ∃ mA,h.Ns1 dx mA/\(∀ f,RelO (fs.lookup f) (mA f))/\PySem.Within mA (fs.map (·.1))
 |.own _=>∃ o,h.get? a=some o
 |.xd fs=>∃ mA,h.Ns1 a mA/\∀ f,RelO (fs.lookup f) (mA f)
 |.rng lo hi=>∃ t u v,h.get? a=some { cls:=.type "range",data:=.fields #[.int lo t,.int hi u,.int 1 v] }
 |.frz o u=>h.get? a=some o/\aY H h a u
 |.tbl ps=>h.get? a=some { cls:=.none,data:=.fields ps }
 |.met f x=>h.get? a=some (Me (.ref f) (.ref x))
 |.ext φ=>φ h/\(∃ o,h.get? a=some o)/\∀ h1 h2:Heap,φ h1->(∀ o,h1.get? a=some o->h2.get? a=some o)->φ h2
def HOk(H:Hp)(h:Heap):Prop:=∀ a o,H a=some o->aY P w H h a o
end
section
variable{P:Program}{w:World}{H H':Hp}{h h':Heap}{a:Addr}{o:HO}
theorem aY.lt(x:aY P w H h a o):a<h.objs.size:=by
 cases o with
 |lst xs=>obtain⟨_,_,_,_,e⟩:=x;exact Heap.lt_size e
 |tup xs=>obtain⟨_,_,_,p⟩:=x;exact p.lt
 |dK kvs=>obtain⟨_,_,_,_,o,_,_,e,_⟩:=x;exact Heap.lt_size e
 |dT kvs=>obtain⟨_,_,_,_,o,_,_,e,_⟩:=x;exact Heap.lt_size e
 |set S n=>obtain⟨o,_,_,_,e,_⟩:=x;exact Heap.lt_size e
 |ins C dx fs=>obtain⟨_,_,_,e,_⟩:=x;exact Heap.lt_size e
 |own y=>obtain⟨_,e⟩:=x;exact Heap.lt_size e
 |xd fs=>obtain⟨_,⟨_,_,_,e,_⟩,_⟩:=x;exact Heap.lt_size e
 |rng lo hi=>obtain⟨_,_,_,e⟩:=x;exact Heap.lt_size e
 |frz ob u=>obtain⟨e,_⟩:=x;exact Heap.lt_size e
 |tbl ps=>exact Heap.lt_size (show h.get? a=some _ from x)
 |met f y=>exact Heap.lt_size (show h.get? a=some _ from x)
 |ext φ=>obtain⟨_,⟨_,e⟩,_⟩:=x;exact Heap.lt_size e
theorem Paired.mapP{α β:Type}{F G:α->β->Prop}:∀{l₁:List α}{l₂:List β},Paired F l₁ l₂->(∀ a b,F a b->G a b)->Paired G l₁ l₂
 |_,_,.nil,_=>.nil
 |_,_,.cons r t,f=>.cons (f _ _ r) (Paired.mapP t f)
theorem aY.stay(x:aY P w H h a o)(k:∀ b u,(b=a∨H b=some (.own a))->h.get? b=some u->h'.get? b=some u)
  (ho:∀ b,H b=some (.own a)->H' b=some (.own a)) (ht:∀ b xs,H b=some (.tup xs)->H' b=some (.tup xs)):aY P w H' h' a o:=by
 induction o with
 |lst xs=>obtain⟨z,its,n,r,e⟩:=x;exact⟨z,its,n,r,k _ _ (.inl rfl) e⟩
 |tup xs=>obtain⟨z,its,r,ob,e,c⟩:=x;exact⟨z,its,r,ob,k _ _ (.inl rfl) e,c⟩
 |dK kvs=>obtain⟨z,y,vs,r,ob,es,ep,e,c⟩:=x;exact⟨z,y,vs,r,ob,es,ep,k _ _ (.inl rfl) e,c⟩
 |dT kvs =>
  obtain⟨z,y,xs,r,ob,es,ep,e,c⟩:=x
  exact⟨z,y,xs,Paired.mapP r fun p q z=>⟨z.1,ht _ _ z.2.1,z.2.2⟩,ob,es,ep,k _ _ (.inl rfl) e,c⟩
 |set S n=>obtain⟨ob,es,ep,t,e,c⟩:=x;exact⟨ob,es,ep,t,k _ _ (.inl rfl) e,c⟩
 |ins C dx fs =>
  obtain⟨d,z,ne,e,mA,⟨od,es,ep,e2,c⟩,r⟩:=x
  exact⟨ho _ d,z,ne,k _ _ (.inl rfl) e,mA,⟨od,es,ep,k _ _ (.inr d) e2,c⟩,r⟩
 |own y=>obtain⟨ob,e⟩:=x;exact⟨ob,k _ _ (.inl rfl) e⟩
 |xd fs=>obtain⟨mA,⟨od,es,ep,e,c⟩,r⟩:=x;exact⟨mA,⟨od,es,ep,k _ _ (.inl rfl) e,c⟩,r⟩
 |rng lo hi=>obtain⟨t,u,v,e⟩:=x;exact⟨t,u,v,k _ _ (.inl rfl) e⟩
 |frz ob u ih=>obtain⟨e,q⟩:=x;exact⟨k _ _ (.inl rfl) e,ih q⟩
 |tbl ps =>
  have e:h.get? a=some { cls:=.none,data:=.fields ps }:=x
  show h'.get? a=some { cls:=.none,data:=.fields ps }
  exact k a _ (.inl rfl) e
 |met f y =>
  have e:h.get? a=some (Me (.ref f) (.ref y)):=x
  show h'.get? a=some (Me (.ref f) (.ref y))
  exact k a _ (.inl rfl) e
 |ext φ=>obtain⟨p,⟨o,e⟩,st⟩:=x;exact⟨st _ _ p fun o q=>k _ _ (.inl rfl) q,⟨o,k _ _ (.inl rfl) e⟩,st⟩
theorem HOk.lt(x:HOk P w H h)(e:H a=some o):a<h.objs.size:=(x a o e).lt
theorem HOk.fresh(x:HOk P w H h)(e:h.objs.size<=a):H a=none:=by
 cases q:H a with
 |none=>rfl
 |some u=>exact absurd (Jp (x.lt q) e) (JT _)
theorem HOk.kept(x:HOk P w H h)(k:∀ b u,h.get? b=some u->h'.get? b=some u):HOk P w H h':=fun a o e =>
 (x a o e).stay (fun b u _ q=>k b u q) (fun _ q=>q) fun _ _ q=>q
theorem HOk.laid(x:HOk P w H h)(k:∀ b u,h.get? b=some u->h'.get? b=some u)(hp:h.objs.size<=a)(new:aY P w (upd H a o) h' a o):HOk P w (upd H a o) h':=fun b u e=>by
 have hn:=x.fresh hp
 by_cases hb:b=a
 ·subst hb;rw[ae]at e;cases e;exact new
 ·rw[ai hb]at e
  exact(x b u e).stay (fun c v _ q=>k c v q) (fun c q=>by rw[ai (ar q hn)];exact q) fun c xs q=>by rw[ai (ar q hn)];exact q
end
def Rd(H:Hp)(a:Addr)(u:HO):Prop:=H a=some u∨∃ o,H a=some (.frz o u)
theorem Rd.ok{P:Program}{w:World}{H:Hp}{h:Heap}{a:Addr}{u:HO}(r:Rd H a u)(x:HOk P w H h):aY P w H h a u:=by
 rcases r with r | ⟨o,r⟩
 ·exact x a u r
 ·obtain⟨_,q⟩:=x a _ r
  exact q
def Mut:Option HO->Prop
 |some (.lst _)=>True
 |some (.dK _)=>True
 |some (.dT _)=>True
 |some (.set _ _)=>True
 |some (.ins _ _ _)=>True
 |some (.ext _)=>True
 |_=>False
section
variable{P:Program}{w:World}{H:Hp}{h h':Heap}{x e:Addr}{o':HO}
theorem HOk.write(ok:HOk P w H h)(mu:Mut (H x))(he:e=x∨H e=some (.own x))(k:∀ b u,b≠e->h.get? b=some u->h'.get? b=some u)(heo:∃ u,h'.get? e=some u)
  (new:aY P w (upd H x o') h' x o'):HOk P w (upd H x o') h':=fun b u q=>by
 have nown:∀ c y,H c=some (.own y)->c≠x:=fun c y r z=>by subst z;rw[r]at mu;exact mu
 have ntup:∀ c xs,H c=some (.tup xs)->c≠x:=fun c xs r z=>by subst z;rw[r]at mu;exact mu
 by_cases hb:b=x
 ·subst hb;rw[ae]at q;cases q;exact new
 ·rw[ai hb]at q
  by_cases hbe:b=e
  ·have q':H b=some (.own x):=by
    rcases he with z | z
    ·exact absurd (hbe.trans z) hb
    ·rw[hbe];exact z
   rw[q]at q';cases q'
   obtain⟨v,hv⟩:=heo
   exact⟨v,by rw[hbe];exact hv⟩
  ·refine(ok b u q).stay (fun c v hc r=>k c v ?_ r) (fun c r=>by rw[ai (nown c b r)];exact r) fun c xs r=>by rw[ai (ntup c xs r)];exact r
   rcases hc with rfl | hc
   ·exact hbe
   ·rintro rfl
    rcases he with z | z
    ·exact nown c b hc z
    ·rw[hc]at z;cases z;exact hb rfl
end
structure Un(fs ex:List Addr)(H H':Hp)(h h':Heap):Prop where
 keep:∀ b o,h.get? b=some o->H b=none->b∉fs->b∉ex->h'.get? b=some o
 slot:∀ b o,h.get? b=some o->H b=none->b∈fs->b∉ex->∃ sl,h'.get? b=some { o with slots:=sl }
 free:∀ b o,h.get? b=some o->H b=none->b∉ex->H' b=none
 there:∀ b o,h.get? b=some o->b∉ex->∃ o',h'.get? b=some o'
 tups:∀ b xs,H b=some (.tup xs)->H' b=some (.tup xs)
 frzs:∀ b o u,H b=some (.frz o u)->H' b=some (.frz o u)
 tbls:∀ b ps,H b=some (.tbl ps)->∃ more,H' b=some (.tbl (ps++more))
section
variable{fs fs' ex ex':List Addr}{H H1 H2:Hp}{h h1 h2 h':Heap}{a x e:Addr}{o:HO}
theorem Un.any(u:Un fs ex H H1 h h1){b:Addr}{ob:Obj}(q:h.get? b=some ob)(n:H b=none)(hx:b∉ex):∃ sl,h1.get? b=some { ob with slots:=sl }:=by
 by_cases hb:b∈fs
 ·exact u.slot b ob q n hb hx
 ·exact⟨ob.slots,u.keep b ob q n hb hx⟩
theorem Un.kept(k:∀ b u,h.get? b=some u->h'.get? b=some u):Un fs ex H H h h' :=
 ⟨fun b ob q _ _ _=>k b ob q,fun b ob q _ _ _=>⟨ob.slots,k b ob q⟩,fun _ _ _ n _=>n,fun b ob q _=>⟨ob,k b ob q⟩,fun _ _ q=>q,fun _ _ _ q=>q,fun _ ps q=>⟨#[],by rw[q];simp⟩⟩
theorem Un.refl:Un fs ex H H h h:=Un.kept fun _ _ q=>q
theorem Un.laid(k:∀ b u,h.get? b=some u->h'.get? b=some u)(hp:h.objs.size<=a)(hn:H a=none):Un fs ex H (upd H a o) h h' where
 keep:=fun b u q _ _ _=>k b u q
 slot:=fun b u q _ _ _=>⟨u.slots,k b u q⟩
 free:=fun b u q n _=>by rw[ai (Jf (Jp (Heap.lt_size q) hp))];exact n
 there:=fun b u q _=>⟨u,k b u q⟩
 tups:=fun b xs q=>by rw[ai (ar q hn)];exact q
 frzs:=fun b u xs q=>by rw[ai (ar q hn)];exact q
 tbls:=fun b ps q=>⟨#[],by rw[ai (ar q hn),q];simp⟩
theorem Un.write(mu:Mut (H x))(he:e=x∨H e=some (.own x))(k:∀ b u,b≠e->h.get? b=some u->h'.get? b=some u)(heo:∃ u,h'.get? e=some u):Un fs ex H (upd H x o) h h':=by
 have hx:∀ b,H b=none->b≠x:=fun b n z=>by subst z;rw[n]at mu;exact mu
 have hb:∀ b,H b=none->b≠e:=fun b n z=>by
  subst z
  rcases he with r | r
  ·exact hx b n r
  ·rw[n]at r;cases r
 have hm:∀ b u,H b=some u->¬ Mut (some u)->b≠x:=fun b u q nm z=>by subst z;rw[q]at mu;exact nm mu
 refine⟨fun b u q n _ _=>k b u (hb b n) q,fun b u q n _ _=>⟨u.slots,k b u (hb b n) q⟩,fun b u q n _=>by rw[ai (hx b n)];exact n,fun b u q _=>?_,
  fun b xs q=>by rw[ai (hm b _ q fun z=>z)];exact q,fun b u xs q=>by rw[ai (hm b _ q fun z=>z)];exact q,fun b ps q=>⟨#[],by rw[ai (hm b _ q fun z=>z),q];simp⟩⟩
 by_cases hbe:b=e
 ·subst hbe;exact heo
 ·exact⟨u,k b u hbe q⟩
end
def trk(h:Heap)(H:Hp):List Addr:=(JC h.objs.size).filter fun a=>(H a).isSome
def hidT(h:Heap)(H:Hp):Heap:=PySem.W.hideAll h (trk h H)
theorem DI(h:Heap)(H:Hp):(hidT h H).objs.size=h.objs.size:=PySem.W.hideAll_size _ _
theorem Fy{h:Heap}{H:Hp}{b:Addr}{o:Obj}(e:h.get? b=some o)(n:H b=none):(hidT h H).get? b=some o :=
 L3 _ e fun hm=>by
  have q:(H b).isSome=true:=(Kx.mp hm).2
  rw[n]at q;simp at q
theorem HE{h:Heap}{H:Hp}{b:Addr}{o:Obj}(e:(hidT h H).get? b=some o):h.get? b=some o/\H b=none:=by
 have e':h.get? b=some o:=PySem.W.of_hideAll (trk h H) e
 refine⟨e',?_⟩
 cases q:H b with
 |none=>rfl
 |some x =>
  have hm:b∈trk h H:=Kx.mpr ⟨Jz.mpr (Heap.lt_size e'),by simp[q]⟩
  have z:(hidT h H).get? b=none:=PySem.W.hideAll_none (trk h H) hm
  rw[z]at e;cases e
end L2
namespace L2
open PySem PySem.Spec PyProof.Rows
structure Mod(K:IC)(mg:Str->Option Value)(base:Heap):Prop where
 kin:K.In base
 glob:base.Ns mainGlobals mg
 blt:∃ mb,base.Ns builtinsNs mb/\∀ x:Str,x≠"__name__"->mb x=bootBuiltins x
 nolimit:base.NoLimit
structure Cx where
 prog:Program
 w:World
 K:IC
 mg:Str->Option Value
 base:Heap
 A:Around
 N:List Str
 s₀:Shared
 H₀:Hp
 env:Env
 outer:List Env
 stack:List Env
 ex:List Addr
 fn:Str->Bool
 calm:Bool
 pn:List (Addr×Obj)
 xe:Value->Shared->Prop
def frs(l:List Env):List Addr:=l.filterMap (·.frame)
abbrev Cx.fs(X:Cx):List Addr:=frs X.outer
def Vis(sc:Scope)(x:Str):Prop:=sc.names.lookup x=some .local∨sc.names.lookup x=some .cell∨sc.names.lookup x=some .free
def Loc(sc:Scope)(x:Str):Prop:=sc.names.lookup x=some .local∨sc.names.lookup x=some .cell
def Look(env:Env)(h:Heap)(m:Str->Option Value)(x:Str)(u:Value):Prop :=
 (env.kindOf x=some .local/\m x=some u)∨((env.kindOf x=some .cell∨env.kindOf x=some .free)/\∃ c,env.cells.lookup x=some c/\h.IsCell c (some u))
structure Cx.Ok(X:Cx):Prop where
 mod:Mod X.K X.mg X.base
 kind:X.env.scope.kind=.function
 glob:X.env.globals=mainGlobals
 blt:X.env.builtins=builtinsNs
 above:X.s₀.heap.objs.size<=X.env.locals
 inj:∀ x y c,X.env.cells.lookup x=some c->X.env.cells.lookup y=some c->x=y
 has:∀ x,(X.env.kindOf x=some .cell∨X.env.kindOf x=some .free)->∃ c,X.env.cells.lookup x=some c
 cab:∀ x c,X.fn x=true->X.env.cells.lookup x=some c->X.s₀.heap.objs.size<=c
 hd:X.calm=true->X.A.handled=none
 frames:X.A.frames=some X.stack
 stk:X.stack=X.outer∨(X.stack=X.env::X.outer/\X.env.frame=some X.env.locals)
 exf:∀ b∈X.ex,b≠X.env.locals/\∀ x c,X.env.cells.lookup x=some c->c≠b
 bs:∀ b o,X.base.get? b=some o->X.s₀.heap.get? b=some o/\X.H₀ b=none
 bsz:X.base.objs.size<=X.s₀.heap.objs.size
 noex:∀ b o,X.base.get? b=some o->b∉X.ex
 exfs:∀ b∈X.ex,b∉X.fs
 funs:X.s₀.heap.FunFrames X.base X.outer
 frf:∀ b∈X.fs,X.H₀ b=none
structure Inv(X:Cx)(pins:List (Addr×Obj))(σ:List (Option V))(H:Hp)(s:Shared):Prop where
 ok:X.Ok
 os:s.os=X.s₀.os
 bare:AllBare s.gens
 base:Un X.fs X.ex X.H₀ H X.s₀.heap s.heap
 loc:∃ m,s.heap.Ns X.env.locals m/\∀(i:Nat)(x:Str)(v:V),X.N[i]?=some x->σ[i]?=some (some v)->Vis X.env.scope x->∃ u,RelV v u/\Look X.env s.heap m x u
 cell:∀ x c,X.env.cells.lookup x=some c->∃ v,s.heap.IsCell c v
 free:H X.env.locals=none
 freeC:∀ x c,X.env.cells.lookup x=some c->H c=none
 pin:∀ p∈X.pn++pins,s.heap.get? p.1=some p.2/\H p.1=none/\p.1≠X.env.locals/\p.1∉X.fs/\∀ v,p.2.data≠.cell v
 hok:HOk X.prog X.w H s.heap
 len:σ.length=X.N.length
section
variable{X:Cx}{pins:List (Addr×Obj)}{σ:List (Option V)}{H H':Hp}{s:Shared}{h':Heap}
theorem Cx.Ok.nofr(ok:X.Ok){b:Addr}{o:Obj}(e:X.base.get? b=some o):b∉X.fs:=fun hb=>by
 have:=(ok.funs.mem hb).1
 rw[e]at this;cases this
theorem Inv.bs(I:Inv X pins σ H s):∀ b o,X.base.get? b=some o->s.heap.get? b=some o/\H b=none:=fun b o e =>
 ⟨I.base.keep b o (I.ok.bs b o e).1 (I.ok.bs b o e).2 (I.ok.nofr e) (I.ok.noex b o e),I.base.free b o (I.ok.bs b o e).1 (I.ok.bs b o e).2 (I.ok.noex b o e)⟩
theorem Inv.bk(I:Inv X pins σ H s):∀ b o,X.base.get? b=some o->s.heap.get? b=some o:=fun b o e=>(I.bs b o e).1
theorem Inv.mod(I:Inv X pins σ H s):Mod X.K X.mg X.base:=I.ok.mod
theorem Inv.kIn(I:Inv X pins σ H s):X.K.In s.heap:=I.ok.mod.kin.keeps I.bk
theorem Inv.lt(I:Inv X pins σ H s):X.env.locals<s.heap.objs.size:=let ⟨_,hn,_⟩:=I.loc;hn.lt
theorem Inv.sz(I:Inv X pins σ H s):X.s₀.heap.objs.size<=s.heap.objs.size:=JG I.ok.above (JY I.lt)
theorem Inv.nofs(I:Inv X pins σ H s){a:Addr}(h:s.heap.objs.size<=a):a∉X.fs:=fun hb=>by
 obtain⟨_,o,ho,_⟩:=I.ok.funs.mem hb
 exact absurd (Jp (Heap.lt_size ho) (JG I.sz h)) (JT _)
theorem Inv.cne(I:Inv X pins σ H s):∀ x c,X.env.cells.lookup x=some c->c≠X.env.locals:=fun x c e z=>by
 obtain⟨v,o,ho,hd⟩:=I.cell x c e
 obtain⟨m,⟨o',es,ep,ho',hd',_⟩,_⟩:=I.loc
 rw[z,ho']at ho;cases ho;rw[hd']at hd;cases hd
theorem Inv.funs(I:Inv X pins σ H s):s.heap.FunFrames X.base X.outer:=by
 have all:∀(l:List Env),(∀ b∈frs l,b∈X.fs)->X.s₀.heap.FunFrames X.base l->s.heap.FunFrames X.base l:=by
  intro l
  induction l with
  |nil=>intro _ _;trivial
  |cons env r ih =>
   intro hs hl
   obtain⟨hk,⟨L,o,hf,hn,ho,hd⟩,hr⟩:=hl
   have hL:L∈X.fs:=hs L (by unfold frs;rw[L7,hf];exact Jc)
   obtain⟨sl,e⟩:=I.base.slot L o ho (I.ok.frf L hL) hL fun z=>I.ok.exfs L z hL
   exact⟨hk,⟨L,_,hf,hn,e,hd⟩,ih (fun b hb=>hs b (by unfold frs;rw[L7,hf];exact IV _ hb)) hr⟩
 exact all X.outer (fun _ hb=>hb) I.ok.funs
theorem Inv.stack(I:Inv X pins σ H s):s.heap.FunFrames X.base X.stack:=by
 rcases I.ok.stk with e | ⟨e,hf⟩
 ·rw[e];exact I.funs
 ·rw[e]
  obtain⟨m,hn,_⟩:=I.loc
  refine .cons (by rw[I.ok.kind];decide) hf hn ?_ I.funs
  exact Heap.get?_none_of_le (JG I.ok.bsz I.ok.above)
theorem Inv.stkSub(I:Inv X pins σ H s):∀ b∈frs X.stack,b∈X.env.locals::X.fs:=fun b hb=>by
 rcases I.ok.stk with e | ⟨e,hf⟩
 ·rw[e]at hb;exact IV _ hb
 ·rw[e]at hb
  unfold frs at hb
  rw[L7,hf]at hb
  exact hb
theorem Inv.stkFree(I:Inv X pins σ H s):∀ b∈frs X.stack,H b=none:=fun b hb=>by
 rcases IL.mp (I.stkSub b hb)with e | hb
 ·rw[e];exact I.free
 ·obtain⟨_,o,ho,_⟩:=I.ok.funs.mem hb
  exact I.base.free b o ho (I.ok.frf b hb) fun z=>I.ok.exfs b z hb
theorem Inv.step{g':Array GenState}{t':Nat}{d':Drawn}{ch:List Addr}(I:Inv X pins σ H s)
  (hch:∀ b∈ch,(b∈X.ex∨X.s₀.heap.objs.size<=b)/\b≠X.env.locals/\(∀ x c,X.env.cells.lookup x=some c->c≠b)/\∀ p∈X.pn++pins,p.1≠b)
  (keep:∀ b o,b≠X.env.locals->b∉X.fs->b∉ch->s.heap.get? b=some o->H b=none->h'.get? b=some o)
  (slot:∀ b o,b≠X.env.locals->b∈X.fs->b∉ch->s.heap.get? b=some o->H b=none->∃ sl,h'.get? b=some { o with slots:=sl }) (free:∀ b o,b∉ch->s.heap.get? b=some o->H b=none->H' b=none)
  (there:∀ b o,b∉ch->s.heap.get? b=some o->∃ o',h'.get? b=some o')
  (tups:∀ b xs,H b=some (.tup xs)->H' b=some (.tup xs)) (frzs:∀ b o u,H b=some (.frz o u)->H' b=some (.frz o u)) (tbls:∀ b ps,H b=some (.tbl ps)->∃ more,H' b=some (.tbl (ps++more)))
  (ns:∀ m,s.heap.Ns X.env.locals m->h'.Ns X.env.locals m) (hok:HOk X.prog X.w H' h') (hg:AllBare g') :
  Inv X pins σ H' { s with heap:=h',gens:=g',drawn:=d',toks:=t' }:=by
 have neL:∀ b o,X.s₀.heap.get? b=some o->b≠X.env.locals:=fun b o e=>Jf (Jp (Heap.lt_size e) I.ok.above)
 have neC:∀ b o,X.s₀.heap.get? b=some o->b∉X.ex->b∉ch:=fun b o e hx hb=>by
  rcases(hch b hb).1 with z | z
  ·exact hx z
  ·exact absurd (Jp (Heap.lt_size e) z) (JT _)
 have cellK:∀ x c,X.env.cells.lookup x=some c->∀ v,s.heap.IsCell c v->h'.IsCell c v:=fun x c e v ⟨o,ho,hd⟩=>by
  have nch:c∉ch:=fun z=>(hch c z).2.2.1 x c e rfl
  by_cases hc:c∈X.fs
  ·obtain⟨sl,q⟩:=slot c o (I.cne x c e) hc nch ho (I.freeC x c e)
   exact⟨_,q,hd⟩
  ·exact⟨o,keep c o (I.cne x c e) hc nch ho (I.freeC x c e),hd⟩
 refine⟨I.ok,I.os,hg,⟨fun b o e n hb hx=>?_,fun b o e n hb hx=>?_,fun b o e n hx=>?_,fun b o e hx=>?_,fun b xs e=>tups b xs (I.base.tups b xs e),fun b o xs e=>frzs b o xs (I.base.frzs b o xs e),fun b ps e=>?_⟩,?_,fun x c e=>?_,?_,fun x c e=>?_,fun p hp=>?_,hok,I.len⟩
 ·exact keep b o (neL b o e) hb (neC b o e hx) (I.base.keep b o e n hb hx) (I.base.free b o e n hx)
 ·obtain⟨sl,e1⟩:=I.base.slot b o e n hb hx
  obtain⟨sl',e2⟩:=slot b _ (neL b o e) hb (neC b o e hx) e1 (I.base.free b o e n hx)
  exact⟨sl',e2⟩
 ·obtain⟨o',e1⟩:=I.base.there b o e hx
  exact free b o' (neC b o e hx) e1 (I.base.free b o e n hx)
 ·obtain⟨o',e1⟩:=I.base.there b o e hx
  exact there b o' (neC b o e hx) e1
 ·obtain⟨m1,e1⟩:=I.base.tbls b ps e
  obtain⟨m2,e2⟩:=tbls b _ e1
  exact⟨m1++m2,by rw[e2,Array.append_assoc]⟩
 ·obtain⟨m,hn,hl⟩:=I.loc
  refine⟨m,ns m hn,fun i x v e1 e2 e3=>?_⟩
  obtain⟨u,r,l⟩:=hl i x v e1 e2 e3
  refine⟨u,r,?_⟩
  rcases l with l | ⟨k,c,e,z⟩
  ·exact .inl l
  ·exact .inr ⟨k,c,e,cellK x c e _ z⟩
 ·obtain⟨v,z⟩:=I.cell x c e
  exact⟨v,cellK x c e v z⟩
 ·obtain⟨m,⟨o,_,_,ho,_⟩,_⟩:=I.loc
  exact free _ o (fun z=>(hch _ z).2.1 rfl) ho I.free
 ·obtain⟨v,o,ho,hd⟩:=I.cell x c e
  exact free c o (fun z=>(hch c z).2.2.1 x c e rfl) ho (I.freeC x c e)
 ·obtain⟨e,n,ne,nf,d⟩:=I.pin p hp
  have nch:p.1∉ch:=fun z=>(hch p.1 z).2.2.2 p hp rfl
  exact⟨keep p.1 p.2 ne nf nch e n,free p.1 p.2 nch e n,ne,nf,d⟩
theorem Inv.un{t':Nat}(I:Inv X pins σ H s)(u:Un X.fs [] H H' s.heap h')(hok:HOk X.prog X.w H' h'):Inv X pins σ H' { s with heap:=h',toks:=t' }:=by
 obtain⟨m,⟨o,es,ep,ho,r⟩,_⟩:=id I.loc
 obtain⟨sl,hL⟩:=u.any ho I.free (by simp)
 exact I.step (g':=s.gens) (d':=s.drawn) (ch:=[]) (fun _ z=>nomatch z) (fun b o _ hb _ e n=>u.keep b o e n hb (by simp)) (fun b o _ hb _ e n=>u.slot b o e n hb (by simp)) (fun b o _ e n=>u.free b o e n (by simp)) (fun b o _ e=>u.there b o e (by simp)) u.tups u.frzs u.tbls (fun m' hm=>by
  obtain⟨o',es',ep',ho',r'⟩:=hm
  rw[ho]at ho';cases ho'
  exact⟨_,es',ep',hL,r'⟩) hok I.bare
theorem Inv.call{g':Array GenState}{t':Nat}{d':Drawn}{ch:List Addr}(I:Inv X pins σ H s)(u:Un (frs X.stack) ch H H' s.heap h')(hok:HOk X.prog X.w H' h')(hg:AllBare g')
  (hch:∀ b∈ch,(b∈X.ex∨X.s₀.heap.objs.size<=b)/\b≠X.env.locals/\(∀ x c,X.env.cells.lookup x=some c->c≠b)/\∀ p∈X.pn++pins,p.1≠b) :
  Inv X pins σ H' { s with heap:=h',gens:=g',drawn:=d',toks:=t' }:=by
 obtain⟨m,⟨o,es,ep,ho,r⟩,_⟩:=id I.loc
 obtain⟨sl,hL⟩:=u.any ho I.free fun z=>(hch _ z).2.1 rfl
 exact I.step (ch:=ch) hch (fun b o hL hb hc e n=>u.keep b o e n (fun z=>(IL.mp (I.stkSub b z)).elim hL hb) hc) (fun b o _ _ hc e n=>u.any e n hc) (fun b o hc e n=>u.free b o e n hc) (fun b o hc e=>u.there b o e hc) u.tups u.frzs u.tbls (fun m' hm=>by
  obtain⟨o',es',ep',ho',r'⟩:=hm
  rw[ho]at ho';cases ho'
  exact⟨_,es',ep',hL,r'⟩) hok hg
theorem Inv.turned{t':Nat}{it:Addr}(I:Inv X pins σ H s)(k:∀ b o,b≠it->s.heap.get? b=some o->h'.get? b=some o)(hn:H it=none)(hL:it≠X.env.locals)
  (h1:it∈X.ex∨X.s₀.heap.objs.size<=it) (h2:∀ x c,X.env.cells.lookup x=some c->c≠it) (h3:∀ p∈X.pn++pins,p.1≠it):Inv X pins σ H { s with heap:=h',toks:=t' }:=by
 have nit:∀ b u,H b=some u->b≠it:=fun b u e z=>by rw[z,hn]at e;cases e
 refine I.step (g':=s.gens) (d':=s.drawn) (ch:=[it]) (fun b hb=>?_) (fun b o _ _ hc e _=>k b o (fun z=>hc (by simp[z])) e) (fun b o _ _ hc e _=>⟨o.slots,k b o (fun z=>hc (by simp[z])) e⟩) (fun _ _ _ _ n=>n)
  (fun b o hc e=>⟨o,k b o (fun z=>hc (by simp[z])) e⟩) (fun _ _ e=>e) (fun _ _ _ e=>e) (fun b ps e=>⟨#[],by rw[e];simp⟩) (fun m hm=>?_) (fun b u e=>?_) I.bare
 ·have e:b=it:=by simpa using hb
  subst e
  exact⟨h1,hL,h2,h3⟩
 ·obtain⟨o,es,ep,ho,r⟩:=hm
  exact⟨o,es,ep,k _ o (Ne.symm hL) ho,r⟩
 ·refine(I.hok b u e).stay (fun c v hc q=>k c v ?_ q) (fun _ q=>q) fun _ _ q=>q
  rcases hc with z | z
  ·rw[z];exact nit b u e
  ·exact nit c _ z
theorem Inv.tok(I:Inv X pins σ H s)(t:Nat):Inv X pins σ H { s with toks:=t }:=I.un (h':=s.heap) (t':=t) Un.refl I.hok
theorem Inv.kept{t':Nat}(I:Inv X pins σ H s)(k:∀ b u,s.heap.get? b=some u->h'.get? b=some u):Inv X pins σ H { s with heap:=h',toks:=t' }:=I.un (Un.kept k) (I.hok.kept k)
theorem Inv.laid{a:Addr}{o:HO}{t':Nat}(I:Inv X pins σ H s)(k:∀ b u,s.heap.get? b=some u->h'.get? b=some u)(hp:s.heap.objs.size<=a)(new:aY X.prog X.w (upd H a o) h' a o) :
  Inv X pins σ (upd H a o) { s with heap:=h',toks:=t' }:=I.un (Un.laid k hp (I.hok.fresh hp)) (I.hok.laid k hp new)
theorem Inv.write{x e:Addr}{o:HO}{t':Nat}(I:Inv X pins σ H s)(mu:Mut (H x))(he:e=x∨H e=some (.own x))(k:∀ b u,b≠e->s.heap.get? b=some u->h'.get? b=some u)(heo:∃ u,h'.get? e=some u)
  (new:aY X.prog X.w (upd H x o) h' x o):Inv X pins σ (upd H x o) { s with heap:=h',toks:=t' }:=I.un (Un.write mu he k heo) (I.hok.write mu he k heo new)
theorem Inv.weak{σ':List (Option V)}(I:Inv X pins σ H s)(hl:σ'.length=σ.length)(w:∀ (i:Nat) v,σ'[i]?=some (some v)->σ[i]?=some (some v)):Inv X pins σ' H s :=
 ⟨I.ok,I.os,I.bare,I.base,let ⟨m,hn,hl'⟩:=I.loc;⟨m,hn,fun i x v e1 e2 e3=>hl' i x v e1 (w i v e2) e3⟩,I.cell,I.free,I.freeC,I.pin,I.hok,hl.trans I.len⟩
theorem Inv.pins_of{pins':List (Addr×Obj)}(I:Inv X pins σ H s)(h:∀ p∈pins',s.heap.get? p.1=some p.2/\H p.1=none/\p.1≠X.env.locals/\p.1∉X.fs/\∀ v,p.2.data≠.cell v):Inv X pins' σ H s :=
 ⟨I.ok,I.os,I.bare,I.base,I.loc,I.cell,I.free,I.freeC,fun p hp=>(IK.mp hp).elim (fun z=>I.pin p (Jn _ z)) (h p),I.hok,I.len⟩
theorem rE{N:List Str}(hN:N.Nodup){i j:Nat}{x:Str}(a:N[i]?=some x)(b:N[j]?=some x):i=j:=by
 obtain⟨h1,e1⟩:=IA.mp a
 obtain⟨h2,e2⟩:=IA.mp b
 exact(List.getElem_inj hN).mp (e1.trans e2.symm)
theorem BW{M:Model}{A:Around}{E:Value->Shared->Prop}{i:Nat}{x:Str}{v:V}{u:Value}{Q:Unit->Shared->Prop}(I:Inv X pins σ H s)(hN:X.N.Nodup)(hi:X.N[i]?=some x)(hx:Loc X.env.scope x)(r:RelV v u)
  (h:∀ s',Inv X pins (σ.set i (some v)) H s'->(∃ a,Heap.SameBut a s.heap s'.heap/\(a=X.env.locals∨X.env.cells.lookup x=some a))->Q () s') (hf:X.fn x=true∨X.env.scope.names.lookup x=some .local:=by first | exact .inl rfl | exact .inr rfl | assumption):wpAny M A (storeName X.env x u) Q E s:=by
 obtain⟨m,hn,hl⟩:=id I.loc
 have hcls:(X.env.scope.kind == .class||(X.env.scope.kind == .module&&X.env.locals != X.env.globals))=false:=by rw[I.ok.kind];rfl
 have hiσ:i<σ.length:=by rw[I.len];exact(IA.mp hi).1
 have cne:=I.cne
 have tracked:∀{a:Addr}{h':Heap},(∃ o,s.heap.get? a=some o/\H a=none)->Heap.SameBut a s.heap h'->HOk X.prog X.w H h':=fun{a h'} ha hs b ob e=>by
  obtain⟨_,_,hfree⟩:=ha
  refine(I.hok b ob e).stay (fun c w' hc q=>(hs.2 c ?_).trans q) (fun _ q=>q) fun _ _ q=>q
  rintro rfl
  rcases hc with rfl | hc
  ·rw[hfree]at e;cases e
  ·rw[hfree]at hc;cases hc
 rcases hx with hk | hk
 ·refine wpAny_storeName_local hk hn (fun h' hn' hs=>?_) hcls
  obtain⟨oL,_,_,hoL,_⟩:=id hn
  refine h _ ⟨I.ok,I.os,I.bare,⟨fun b o e n hb hx=>?_,fun b o e n hb hx=>?_,I.base.free,fun b o e hx=>?_,I.base.tups,I.base.frzs,I.base.tbls⟩,⟨_,hn',fun j y v' e1 e2 e3=>?_⟩,fun y c e=>?_,I.free,I.freeC,fun p hp=>?_,tracked ⟨oL,hoL,I.free⟩ hs,by simpa using I.len⟩ ⟨_,hs,.inl rfl⟩
  ·exact(hs.2 b (Jf (Jp (Heap.lt_size e) I.ok.above))).trans (I.base.keep b o e n hb hx)
  ·obtain⟨sl,e1⟩:=I.base.slot b o e n hb hx
   exact⟨sl,(hs.2 b (Jf (Jp (Heap.lt_size e) I.ok.above))).trans e1⟩
  ·obtain⟨o',e1⟩:=I.base.there b o e hx
   exact⟨o',(hs.2 b (Jf (Jp (Heap.lt_size e) I.ok.above))).trans e1⟩
  ·by_cases hj:j=i
   ·subst hj
    rw[hi]at e1;cases e1
    rw[LK hiσ]at e2
    cases e2
    exact⟨u,r,.inl ⟨hk,by simp⟩⟩
   ·rw[LX (Ne.symm hj)]at e2
    obtain⟨u',r',q⟩:=hl j y v' e1 e2 e3
    refine⟨u',r',?_⟩
    rcases q with⟨k,e⟩ | ⟨k,c,e,z⟩
    ·refine .inl ⟨k,?_⟩
     have:y≠x:=fun e=>hj (rE hN e1 (e▸hi))
     simp[this,e]
    ·exact .inr ⟨k,c,e,z.sameBut hs (cne y c e)⟩
  ·obtain⟨w',z⟩:=I.cell y c e
   exact⟨w',z.sameBut hs (cne y c e)⟩
  ·obtain⟨e,n,ne,nf,d⟩:=I.pin p hp
   exact⟨(hs.2 p.1 ne).trans e,n,ne,nf,d⟩
 ·have hfn:X.fn x=true:=by
   rcases hf with z | z
   ·exact z
   ·rw[z]at hk;cases hk
  obtain⟨c,hc⟩:=I.ok.has x (.inl hk)
  obtain⟨w',z⟩:=I.cell x c hc
  refine wpAny_storeName_cell I.ok.kind hk hc z (fun h' hc' hs=>?_)
  obtain⟨oc,hoc,hocd⟩:=id z
  refine h { s with heap:=h' } ⟨I.ok,I.os,I.bare,⟨fun b o e n hb hx=>?_,fun b o e n hb hx=>?_,I.base.free,fun b o e hx=>?_,I.base.tups,I.base.frzs,I.base.tbls⟩,⟨m,hn.sameBut hs (Ne.symm (cne x c hc)),fun j y v' e1 e2 e3=>?_⟩,fun y c' e=>?_,I.free,I.freeC,fun p hp=>?_,tracked ⟨oc,hoc,I.freeC x c hc⟩ hs,by simpa using I.len⟩ ⟨c,hs,.inr hc⟩
  ·exact(hs.2 b (Jf (Jp (Heap.lt_size e) (I.ok.cab x c hfn hc)))).trans (I.base.keep b o e n hb hx)
  ·obtain⟨sl,e1⟩:=I.base.slot b o e n hb hx
   exact⟨sl,(hs.2 b (Jf (Jp (Heap.lt_size e) (I.ok.cab x c hfn hc)))).trans e1⟩
  ·obtain⟨o',e1⟩:=I.base.there b o e hx
   exact⟨o',(hs.2 b (Jf (Jp (Heap.lt_size e) (I.ok.cab x c hfn hc)))).trans e1⟩
  ·by_cases hj:j=i
   ·subst hj
    rw[hi]at e1;cases e1
    rw[LK hiσ]at e2
    cases e2
    exact⟨u,r,.inr ⟨.inl hk,c,hc,hc'⟩⟩
   ·rw[LX (Ne.symm hj)]at e2
    obtain⟨u',r',q⟩:=hl j y v' e1 e2 e3
    refine⟨u',r',?_⟩
    rcases q with q | ⟨k,c',e,z'⟩
    ·exact .inl q
    ·refine .inr ⟨k,c',e,z'.sameBut hs ?_⟩
     rintro rfl
     exact hj (rE hN e1 (I.ok.inj _ _ _ e hc▸hi))
  ·by_cases hcc:c'=c
   ·subst hcc;exact⟨_,hc'⟩
   ·obtain⟨w2,z2⟩:=I.cell y c' e
    exact⟨w2,z2.sameBut hs hcc⟩
  ·obtain⟨e,n,ne,nf,d⟩:=I.pin p hp
   refine⟨(hs.2 p.1 ?_).trans e,n,ne,nf,d⟩
   intro q
   rw[q,hoc]at e
   have q':oc=p.2:=IW e
   exact d w' (by rw[← q'];exact hocd)
theorem mM{M:Model}{A:Around}{E:Value->Shared->Prop}{i:Nat}{x:Str}{v:V}{u:Value}{Q:Unit->Shared->Prop}(I:Inv X pins σ H s)(hN:X.N.Nodup)(hi:X.N[i]?=some x)(hx:Loc X.env.scope x)(r:RelV v u)
  (h:∀ s',Inv X pins (σ.set i (some v)) H s'->Q () s') (hf:X.fn x=true∨X.env.scope.names.lookup x=some .local:=by first | exact .inl rfl | exact .inr rfl | assumption):wpAny M A (storeName X.env x u) Q E s :=
 BW I hN hi hx r (fun s' I' _=>h s' I') hf
theorem Inv.call'{s':Shared}{ch:List Addr}(I:Inv X pins σ H s)(ho:s'.os=s.os)(u:Un (frs X.stack) ch H H' s.heap s'.heap)(hok:HOk X.prog X.w H' s'.heap)(hg:AllBare s'.gens)
  (hch:∀ b∈ch,(b∈X.ex∨X.s₀.heap.objs.size<=b)/\b≠X.env.locals/\(∀ x c,X.env.cells.lookup x=some c->c≠b)/\∀ p∈X.pn++pins,p.1≠b):Inv X pins σ H' s':=by
 obtain⟨h',g',d',t',o'⟩:=s'
 have e:o'=s.os:=ho
 subst e
 exact I.call (g':=g') (t':=t') (d':=d') u hok hg hch
end
abbrev XK:=Value->Option Addr->Hp->Prop
abbrev St:=List (Option V)
abbrev VK:=V->Hp->Prop
abbrev TE:=St->Hp->VK->Prop
abbrev TT:=St->Hp->(Bool->Hp->Prop)->Prop
abbrev TA:=St->Hp->(List V->Hp->Prop)->Prop
structure Ends where
 nx:St->Hp->Prop
 rt:VK
 bk:St->Hp->Prop:=fun _ _=>False
 ct:St->Hp->Prop:=fun _ _=>False
abbrev TS:=Ends->St->Hp->Prop
def EP(X:Cx)(pins:List (Addr×Obj))(σ:St)(Q:VK)(u:Value)(s':Shared):Prop:=∃ v H',Inv X pins σ H' s'/\RelV v u/\Q v H'
def TP(X:Cx)(pins:List (Addr×Obj))(σ:St)(Q:Bool->Hp->Prop)(b:Bool)(s':Shared):Prop:=∃ H',Inv X pins σ H' s'/\Q b H'
def AP(X:Cx)(pins:List (Addr×Obj))(σ:St)(Q:List V->Hp->Prop)(us:List Value)(s':Shared):Prop:=∃ vs H',Inv X pins σ H' s'/\Vals vs us/\Q vs H'
def SP(X:Cx)(pins:List (Addr×Obj))(D:Ends)(f:Flow)(s':Shared):Prop :=
 match f with
 |.next=>∃ σ' H',Inv X pins σ' H' s'/\D.nx σ' H'
 |.brk=>∃ σ' H',Inv X pins σ' H' s'/\D.bk σ' H'
 |.cont=>∃ σ' H',Inv X pins σ' H' s'/\D.ct σ' H'
 |.ret u=>∃ v σ' H',Inv X pins σ' H' s'/\RelV v u/\D.rt v H'
def PE(X:Cx)(e:Expr)(t:TE):Prop :=
 ∀(pins:List (Addr×Obj))(s:Shared)(σ:St)(H:Hp)(Q:VK),Inv X pins σ H s->t σ H Q->wpAny (model X.prog X.w) X.A (eval e X.env) (EP X pins σ Q) X.xe s
def PT(X:Cx)(e:Expr)(t:TT):Prop :=
 ∀(pins:List (Addr×Obj))(s:Shared)(σ:St)(H:Hp)(Q:Bool->Hp->Prop),Inv X pins σ H s->t σ H Q->wpAny (model X.prog X.w) X.A (isTrue e X.env (eval e X.env)) (TP X pins σ Q) X.xe s
def PW(X:Cx)(e:Expr)(t:TT):Prop :=
 ∀(whole:Sem Value)(pins:List (Addr×Obj))(s:Shared)(σ:St)(H:Hp)(Q:Bool->Hp->Prop),Inv X pins σ H s->t σ H Q->wpAny (model X.prog X.w) X.A (isTrue e X.env whole) (TP X pins σ Q) X.xe s
theorem PW.pt{X:Cx}{e:Expr}{t:TT}(h:PW X e t):PT X e t:=h _
def PA(X:Cx)(es:List Expr)(t:TA):Prop :=
 ∀(pos:Pos)(pins:List (Addr×Obj))(s:Shared)(σ:St)(H:Hp)(Q:List V->Hp->Prop),Inv X pins σ H s->t σ H Q->wpAny (model X.prog X.w) X.A (spliced (backTo pos (starEach es X.env))) (AP X pins σ Q) X.xe s
def PS(X:Cx)(st:Stmt)(t:TS):Prop :=
 ∀(pins:List (Addr×Obj))(s:Shared)(σ:St)(H:Hp)(D:Ends),Inv X pins σ H s->t D σ H->wpAny (model X.prog X.w) X.A (exec st X.env) (SP X pins D) X.xe s
def PSs(X:Cx)(st:List Stmt)(t:TS):Prop :=
 ∀(pins:List (Addr×Obj))(s:Shared)(σ:St)(H:Hp)(D:Ends),Inv X pins σ H s->t D σ H->wpAny (model X.prog X.w) X.A (execs st X.env) (SP X pins D) X.xe s
theorem thn{α:Type}{t:Sem α}{Q Q':α->Shared->Prop}{M:Model}{A:Around}{E:Value->Shared->Prop}{s:Shared}(h:wpAny M A t Q E s)(hQ:∀ a s,Q a s->Q' a s):wpAny M A t Q' E s:=wpAny_mono h hQ fun _ _ x=>x
end L2
namespace L2
open PySem PySem.Spec PyProof.Rows
section
variable{X:Cx}
def tVar(i:Nat):TE:=fun σ H Q=>∃ v,σ[i]?=some (some v)/\Q v H
def tC(v:V):TE:=fun _ H Q=>Q v H
theorem pe_var{i:Nat}{x:Str}{pos:Pos}(hN:X.N[i]?=some x)(hv:Vis X.env.scope x) (hd:(x == ("__debug__" : Str))=false:=by decide) (hcd:(x == ("__classdict__" : Str))=false:=by decide):PE X (.Name x pos) (tVar i):=by
 intro pins s σ H Q I h
 obtain⟨v,e,h⟩:=h
 obtain⟨m,hn,hl⟩:=I.loc
 obtain⟨u,r,l⟩:=hl i x v hN e hv
 have fin:EP X pins σ Q u s:=⟨v,H,I,r,h⟩
 rcases l with⟨hk,hm⟩ | ⟨hk,c,hc,hcell⟩
 ·exact wpAny_Name (wpAny_loadName_local I.ok.kind hk hn hm fin) hd
 ·rcases hk with hk | hk
  ·exact wpAny_Name (wpAny_loadName_cell I.ok.kind hk hc hcell fin) hd
  ·exact wpAny_Name (wpAny_loadName_free I.ok.kind hk hc hcell fin hcd) hd
theorem aj{i j pos}:PE X (.Constant (.int i) j pos) (tC (.int i)):=fun _ _ _ H _ I h=>wpAny_Constant_int ⟨.int i,H,I.tok _,⟨_,rfl⟩,h⟩
theorem CJ{b j pos}:PE X (.Constant (.bool b) j pos) (tC (.bl b)):=fun _ _ _ H _ I h=>Constant_bool ⟨.bl b,H,I,rfl,h⟩
theorem CD{j pos}:PE X (.Constant .none j pos) (tC .non):=fun _ _ _ H _ I h=>Constant_none ⟨.non,H,I,rfl,h⟩
theorem F4{x j pos}:PE X (.Constant (.str x) j pos) (tC (.str x)):=fun _ _ _ H _ I h=>Calls.Constant_str ⟨.str x,H,I.tok _,⟨_,rfl⟩,h⟩
def Gl(X:Cx)(x:Str):Prop:=X.env.kindOf x=some .globalImplicit
theorem kq{E:Value->Shared->Prop}{pins:List (Addr×Obj)}{s:Shared}{σ:St}{H:Hp}{x:Str}{u:Value}{pos:Pos}{Q:Value->Shared->Prop}(I:Inv X pins σ H s)(hg:Gl X x)(hm:X.mg x=some u)(h:Q u s)
  (hd:(x == ("__debug__" : Str))=false:=by decide):wpAny (model X.prog X.w) X.A (eval (.Name x pos) X.env) Q E s :=
 Calls.Name_function_global I.ok.kind hg (Calls.loadGlobal_global (by rw[I.ok.glob];exact I.mod.glob.keeps I.bk) hm h) hd
theorem jL{E:Value->Shared->Prop}{pins:List (Addr×Obj)}{s:Shared}{σ:St}{H:Hp}{x:Str}{u:Value}{pos:Pos}{Q:Value->Shared->Prop}(I:Inv X pins σ H s)(hg:Gl X x)(hm:X.mg x=none)(hv:bootBuiltins x=some u)(h:Q u s)
  (hn:x≠"__name__":=by decide) (hd:(x == ("__debug__" : Str))=false:=by decide):wpAny (model X.prog X.w) X.A (eval (.Name x pos) X.env) Q E s:=by
 obtain⟨mb,h1,h2⟩:=I.mod.blt
 exact Calls.Name_function_global I.ok.kind hg (Calls.loadGlobal_builtin (by rw[I.ok.glob];exact I.mod.glob.keeps I.bk) hm (by rw[I.ok.blt];exact h1.keeps I.bk) ((h2 x hn).trans hv) h) hd
theorem CF{x:Str}{v:V}{u:Value}{pos:Pos}(hg:Gl X x)(hm:X.mg x=some u)(r:RelV v u) (hd:(x == ("__debug__" : Str))=false:=by decide):PE X (.Name x pos) (tC v) :=
 fun _ _ _ H _ I h=>kq I hg hm ⟨v,H,I,r,h⟩ hd
theorem qY{x:Str}{v:V}{u:Value}{pos:Pos}(hg:Gl X x)(hm:X.mg x=none)(hv:bootBuiltins x=some u)(r:RelV v u) (hn:x≠"__name__":=by decide) (hd:(x == ("__debug__" : Str))=false:=by decide):PE X (.Name x pos) (tC v) :=
 fun _ _ _ H _ I h=>jL I hg hm hv ⟨v,H,I,r,h⟩ hn hd
variable{a b:Expr}{ta tb:TE}{pos:Pos}
def PC(X:Cx)(op:CmpOp)(a b:Expr)(t:TE):Prop :=
 ∀(pins:List (Addr×Obj))(s:Shared)(σ:St)(H:Hp)(Q:VK),Inv X pins σ H s->t σ H Q ->
  wpAny (model X.prog X.w) X.A (eval a X.env) (fun v s₁=>wpAny (model X.prog X.w) X.A (eval b X.env) (fun u s₂=>wpAny (model X.prog X.w) X.A (compareOp op v u) (EP X pins σ Q) X.xe s₂) X.xe s₁) X.xe s
def tB(t:TE):TT:=fun σ H Q=>t σ H fun x H1=>∃ c,x=.bl c/\Q c H1
theorem F2{op:CmpOp}{t:TE}(h:PC X op a b t)(h1:behindInMarks op b=false:=by first | exact nobehind _ (by decide) (by decide) | rfl):PT X (.Compare a [op] [b] pos) (tB t):=by
 intro pins s σ H Q I hw
 refine wpAny_isTrue_Compare1 (thn (h pins s σ H _ I hw) fun v s1 h1=>thn h1 fun u s2 h2=>thn h2 fun c s3 ⟨x,H1,I1,r1,q1⟩=>?_) h1
 obtain⟨d,rfl,q⟩:=q1
 cases r1
 exact wpAny_truthy_bool ⟨H1,I1,q⟩
theorem nv{e:Expr}{t:TE}(h:PE X e t)(he:∀ whole,isTrue e X.env whole=(do let v ← whole;standAt e.pos;holding [v] (truthy v)):=by intro _;rfl):PT X e (tB t):=by
 intro pins s σ H Q I hw
 refine isTrue_plain (thn (h pins s σ H _ I hw) fun v s1 ⟨x,H1,I1,r1,q1⟩=>?_) (he _)
 obtain⟨d,rfl,q⟩:=q1
 cases r1
 exact wpAny_truthy_bool ⟨H1,I1,q⟩
variable{tA tB':TT}{rest:List Expr}
def tOr(t u:TT):TT:=fun σ H Q=>t σ H fun c H1=>if c=true then Q true H1 else u σ H1 Q
def tNot(t:TT):TT:=fun σ H Q=>t σ H fun c H1=>Q (!c) H1
theorem tZ(ha:PT X a tA):PW X (.BoolOp .Or [a] pos) tA:=by
 intro wh pins s σ H Q I h
 refine isTrue_or (thn (ha pins s σ H Q I h) fun c s1 e=>?_)
 cases c with
 |false=>exact isTrue_or_nil e
 |true=>exact e
theorem t8(ha:PT X a tA)(hb:PW X (.BoolOp .Or (b::rest) pos) tB'):PW X (.BoolOp .Or (a::b::rest) pos) (tOr tA tB'):=by
 intro wh pins s σ H Q I h
 refine isTrue_or (thn (ha pins s σ H _ I h) fun c s1 ⟨H1,I1,q1⟩=>?_)
 cases c with
 |true=>exact⟨H1,I1,q1⟩
 |false=>exact hb wh pins s1 σ H1 Q I1 q1
theorem Cn(ha:PT X a tA):PT X (.UnaryOp .Not a pos) (tNot tA):=by
 intro pins s σ H Q I h
 exact isTrue_not (ha pins s σ H (fun c H1=>Q (!c) H1) I h)
def tAndV(ta tb:TE):TE:=fun σ H Q=>ta σ H fun x H1=>∃ c,x=.bl c/\if c=true then tb σ H1 Q else Q (.bl false) H1
def tNotV(ta:TE):TE:=fun σ H Q=>ta σ H fun x H1=>∃ c,x=.bl c/\Q (.bl (!c)) H1
theorem F5{op}{t:TE}(h:PE X a t):PE X (.BoolOp op [a] pos) t:=fun pins s σ H Q I hw=>BoolOp_one (h pins s σ H Q I hw)
theorem F7(ha:PE X a ta)(hb:PE X (.BoolOp .And (b::rest) pos) tb):PE X (.BoolOp .And (a::b::rest) pos) (tAndV ta tb):=by
 intro pins s σ H Q I h
 refine BoolOp_and (thn (ha pins s σ H _ I h) fun v s1 ⟨x,H1,I1,r1,q1⟩=>?_)
 obtain⟨c,rfl,q1⟩:=q1
 cases r1
 refine wpAny_truthy_bool ?_
 cases c with
 |true=>exact hb pins s1 σ H1 Q I1 q1
 |false=>exact⟨.bl false,H1,I1,rfl,q1⟩
theorem pe_not(ha:PE X a ta):PE X (.UnaryOp .Not a pos) (tNotV ta):=by
 intro pins s σ H Q I h
 refine UnaryOp_ (thn (ha pins s σ H _ I h) fun v s1 ⟨x,H1,I1,r1,q1⟩=>?_)
 obtain⟨c,rfl,q1⟩:=q1
 cases r1
 exact not_of (wpAny_truthy_bool ⟨.bl (!c),H1,I1,rfl,q1⟩)
def tIf(t:TT)(ta tb:TE):TE:=fun σ H Q=>t σ H fun c H1=>if c=true then ta σ H1 Q else tb σ H1 Q
theorem qV{c:Expr}(hc:PT X c tA)(ha:PE X a ta)(hb:PE X b tb):PE X (.IfExp c a b pos) (tIf tA ta tb):=by
 intro pins s σ H Q I h
 refine wpAny_IfExp (thn (hc pins s σ H _ I h) fun d s1 ⟨H1,I1,q1⟩=>?_)
 cases d with
 |true=>exact ha pins s1 σ H1 Q I1 q1
 |false=>exact hb pins s1 σ H1 Q I1 q1
end
end L2
namespace L2
open PySem PySem.Spec PyProof.Rows
def SqL(K:IC)(H:Hp)(a:Addr)(xs:List V):Prop :=
 Rd H a (.lst xs) ∨
  ∃(o:Obj)(its:Array Value)(n:Nat),K.lookup a=some o/\o.cls=.type "list"/\o.dict=none/\o.data=.seq its n/\its.size<=sizeLine/\Vals xs its.toList
def SqT(K:IC)(H:Hp)(a:Addr)(xs:List V):Prop :=
 Rd H a (.tup xs) ∨
  ∃(o:Obj)(its:Array Value)(n:Nat),K.lookup a=some o/\o.cls=.type "tuple"/\o.data=.seq its n/\its.size<=sizeLine/\Vals xs its.toList
def absV:Value->Option V
 |.none=>some .non
 |.bool b=>some (.bl b)
 |.int i _=>some (.int i)
 |.str x _=>some (.str x)
 |.bytes b _=>some (.byt b)
 |.float b _=>some (.flt b)
 |.ref a=>some (.ref a)
 |.type n=>some (.ty n)
 |_=>none
theorem RelV.abs{x:V}{u:Value}(r:RelV x u):absV u=some x:=by
 cases x with
 |non=>cases r;rfl
 |bl _=>cases r;rfl
 |int _=>obtain⟨t,rfl⟩:=r;rfl
 |str _=>obtain⟨t,rfl⟩:=r;rfl
 |byt _=>obtain⟨t,rfl⟩:=r;rfl
 |flt _=>obtain⟨t,rfl⟩:=r;rfl
 |ref _=>cases r;rfl
 |ty _=>cases r;rfl
theorem RelV.inj{x y:V}{u:Value}(r:RelV x u)(q:RelV y u):x=y:=IW (r.abs.symm.trans q.abs)
theorem Vals.inj:∀{xs ys:List V}{us:List Value},Vals xs us->Vals ys us->xs=ys
 |_,_,_,.nil,.nil=>rfl
 |_,_,_,.cons r t,.cons r' t'=>by rw[r.inj r',Vals.inj t t']
section
variable{X:Cx}{pins:List (Addr×Obj)}{σ:St}{H:Hp}{s:Shared}{a:Addr}{xs ys:List V}
theorem SqL.of{K:IC}(h:H a=some (.lst xs)):SqL K H a xs:=.inl (.inl h)
theorem SqT.of{K:IC}(h:H a=some (.tup xs)):SqT K H a xs:=.inl (.inl h)
theorem Inv.list(I:Inv X pins σ H s)(h:SqL X.K H a xs):∃ its:List Value,Vals xs its/\PlainL s.heap a its.toArray/\xs.length<=sizeLine:=by
 rcases h with h | ⟨o,its,n,hk,hc,hd,hs,hz,r⟩
 ·obtain⟨z,its,n,r,e⟩:=h.ok I.hok
  exact⟨its,r,⟨_,n,e,rfl,rfl,rfl⟩,z⟩
 ·refine⟨its.toList,r,⟨o,n,I.kIn a o hk,hc,hd,by simpa using hs⟩,?_⟩
  have e:=r.length
  simp only[JK]at e
  omega
theorem Inv.tuple(I:Inv X pins σ H s)(h:SqT X.K H a xs):∃ its:List Value,Vals xs its/\IsTup s.heap a its.toArray/\xs.length<=sizeLine:=by
 rcases h with h | ⟨o,its,n,hk,hc,hs,hz,r⟩
 ·obtain⟨z,its,r,p⟩:=h.ok I.hok
  exact⟨its,r,p,z⟩
 ·refine⟨its.toList,r,⟨o,I.kIn a o hk,hc,n,by simpa using hs⟩,?_⟩
  have e:=r.length
  simp only[JK]at e
  omega
theorem Inv.list_inj(I:Inv X pins σ H s)(h:SqL X.K H a xs)(h':SqL X.K H a ys):xs=ys:=by
 obtain⟨its,r,⟨o,n,e,_,_,d⟩,_⟩:=I.list h
 obtain⟨its',r',⟨o',n',e',_,_,d'⟩,_⟩:=I.list h'
 rw[e]at e';cases e'
 rw[d]at d'
 injection d' with d1 _
 have:its=its':=by simpa using congrArg Array.toList d1
 subst this
 exact r.inj r'
end
abbrev Cx.wish(X:Cx)(E:Value->Shared->Prop):Cx:={ X with xe:=E }
abbrev Cx.nox(X:Cx):Cx:=X.wish fun _ _=>False
theorem Cx.Ok.wish{X:Cx}(ok:X.Ok)(E:Value->Shared->Prop):(X.wish E).Ok :=
 ⟨ok.mod,ok.kind,ok.glob,ok.blt,ok.above,ok.inj,ok.has,ok.cab,ok.hd,ok.frames,ok.stk,ok.exf,ok.bs,ok.bsz,ok.noex,ok.exfs,ok.funs,ok.frf⟩
theorem Cx.Ok.unwish{X:Cx}{E:Value->Shared->Prop}(ok:(X.wish E).Ok):X.Ok :=
 ⟨ok.mod,ok.kind,ok.glob,ok.blt,ok.above,ok.inj,ok.has,ok.cab,ok.hd,ok.frames,ok.stk,ok.exf,ok.bs,ok.bsz,ok.noex,ok.exfs,ok.funs,ok.frf⟩
section
variable{X:Cx}{pins:List (Addr×Obj)}{σ:St}{H:Hp}{s:Shared}{E:Value->Shared->Prop}
theorem Inv.wish(I:Inv X pins σ H s)(E:Value->Shared->Prop):Inv (X.wish E) pins σ H s:=⟨I.ok.wish E,I.os,I.bare,I.base,I.loc,I.cell,I.free,I.freeC,I.pin,I.hok,I.len⟩
theorem Inv.unwish(I:Inv (X.wish E) pins σ H s):Inv X pins σ H s:=⟨I.ok.unwish,I.os,I.bare,I.base,I.loc,I.cell,I.free,I.freeC,I.pin,I.hok,I.len⟩
theorem SP.unwish{D:Ends}{f:Flow}{s':Shared}(h:SP (X.wish E) pins D f s'):SP X pins D f s':=by
 cases f with
 |next=>obtain⟨σ',H',I,q⟩:=h;exact⟨σ',H',I.unwish,q⟩
 |brk=>obtain⟨σ',H',I,q⟩:=h;exact⟨σ',H',I.unwish,q⟩
 |cont=>obtain⟨σ',H',I,q⟩:=h;exact⟨σ',H',I.unwish,q⟩
 |ret u=>obtain⟨v,σ',H',I,r,q⟩:=h;exact⟨v,σ',H',I.unwish,r,q⟩
theorem PSs.nox{st:List Stmt}{t:TS}(h:PSs X.nox st t):PSs X st t:=fun pins s σ H D I hw =>
 wpAny_mono (h pins s σ H D (I.wish _) hw) (fun _ _ q=>q.unwish) fun _ _ z=>False.elim z
end
section
variable{X:Cx}{st:Stmt}{rest:List Stmt}{t u:TS}{e:Expr}{te:TE}{pos:Pos}
def tNext:TS:=fun D σ H=>D.nx σ H
def tSeq(t u:TS):TS:=fun D σ H=>t { D with nx:=u D } σ H
theorem aP:PSs X [] tNext:=fun _ _ σ H _ I h=>wpAny_execs_nil ⟨σ,H,I,h⟩
theorem ag(h1:PS X st t)(h2:PSs X rest u):PSs X (st::rest) (tSeq t u):=by
 intro pins s σ H D I h
 refine wpAny_execs_cons (thn (h1 pins s σ H { D with nx:=u D } I h) fun f s1 q=>?_)
 cases f with
 |next =>
  obtain⟨σ',H',I',q⟩:=q
  exact h2 pins s1 σ' H' D I' q
 |ret v=>exact q
 |brk=>exact q
 |cont=>exact q
theorem ao(h1:PS X st t):PSs X [st] t:=by
 intro pins s σ H D I h
 refine wpAny_execs_cons (thn (h1 pins s σ H D I h) fun f s1 q=>?_)
 cases f with
 |next=>exact wpAny_execs_nil q
 |ret v=>exact q
 |brk=>exact q
 |cont=>exact q
theorem Inv.quiet{pins:List (Addr×Obj)}{σ:St}{H:Hp}{s:Shared}(I:Inv X pins σ H s):interactive X.env=false:=by simp[interactive,I.ok.kind]
def tDrop(te:TE):TS:=fun D σ H=>te σ H fun _ H1=>D.nx σ H1
theorem bp(he:PE X e te)(hs:swapsWith e none pos.line X.env=pure false:=by rfl):PS X (.Expr e pos) (tDrop te):=by
 intro pins s σ H D I h
 exact wpAny_Expr_any (thn (he pins s σ H _ I h) fun v s1 ⟨x,H1,I1,r1,q1⟩=>⟨σ,H1,I1,q1⟩) I.quiet hs
def tRet(te:TE):TS:=fun D σ H=>te σ H D.rt
theorem aK(he:PE X e te):PS X (.Return (some e) pos) (tRet te):=by
 intro pins s σ H D I h
 exact wpAny_Return_some (thn (he pins s σ H _ I h) fun v s1 ⟨x,H1,I1,r1,q1⟩=>⟨x,σ,H1,I1,r1,q1⟩)
def tIfS(c:TT)(t u:TS):TS:=fun D σ H=>c σ H fun b H1=>if b=true then t D σ H1 else u D σ H1
theorem cT{c:Expr}{a b:List Stmt}{tc:TT}(hc:PT X c tc)(ha:PSs X a t)(hb:PSs X b u):PS X (.If c a b pos) (tIfS tc t u):=by
 intro pins s σ H D I h
 refine wpAny_If (thn (hc pins s σ H _ I h) fun d s1 ⟨H1,I1,q1⟩=>?_)
 cases d with
 |true=>exact ha pins s1 σ H1 D I1 q1
 |false=>exact hb pins s1 σ H1 D I1 q1
def tNever:TS:=fun _ _ _=>False
theorem fe:PS X st tNever:=fun _ _ _ _ _ _ h=>h.elim
end
abbrev TG:=V->St->Hp->(St->Hp->Prop)->Prop
abbrev TGs:=List V->St->Hp->(St->Hp->Prop)->Prop
def PG(X:Cx)(target:Expr)(t:TG):Prop :=
 ∀(pins:List (Addr×Obj))(s:Shared)(σ:St)(H:Hp)(v:V)(u:Value)(Q:St->Hp->Prop),Inv X pins σ H s->RelV v u->t v σ H Q ->
  wpAny (model X.prog X.w) X.A (assign target X.env u) (fun _ s'=>∃ σ' H',Inv X pins σ' H' s'/\Q σ' H') X.xe s
def PGs(X:Cx)(ts:List Expr)(t:TGs):Prop :=
 ∀(pins:List (Addr×Obj))(s:Shared)(σ:St)(H:Hp)(vs:List V)(us:List Value)(Q:St->Hp->Prop),Inv X pins σ H s->Vals vs us->t vs σ H Q ->
  wpAny (model X.prog X.w) X.A (assignInOrder ((assignEach ts X.env).map (·.2)) us) (fun _ s'=>∃ σ' H',Inv X pins σ' H' s'/\Q σ' H') X.xe s
section
variable{X:Cx}{pos:Pos}
def DM(i:Nat):TG:=fun v σ H Q=>Q (σ.set i (some v)) H
theorem aH{i:Nat}{x:Str}(hN:X.N.Nodup)(hi:X.N[i]?=some x)(hx:Loc X.env.scope x)(hf:X.fn x=true∨X.env.scope.names.lookup x=some .local:=by first | exact .inl rfl | exact .inr rfl | assumption):PG X (.Name x pos) (DM i):=by
 intro pins s σ H v u Q I r h
 exact wpAny_assign_Name (mM I hN hi hx r (fun s' I'=>⟨_,H,I',h⟩) hf)
def gNil:TGs:=fun vs σ H Q=>vs = []/\Q σ H
def gCons(t:TG)(u:TGs):TGs:=fun vs σ H Q=>∃ v r,vs=v::r/\t v σ H fun σ' H'=>u r σ' H' Q
theorem iZ:PGs X [] gNil:=by
 intro pins s σ H vs us Q I r h
 obtain⟨e,h⟩:=h
 subst e
 cases r
 exact assignInOrder_nil ⟨σ,H,I,h⟩
theorem bq{e:Expr}{es:List Expr}{t:TG}{u:TGs}(h1:PG X e t)(h2:PGs X es u)
  (hs:(assignEach (e::es) X.env).map (·.2)=assign e X.env::(assignEach es X.env).map (·.2):=by rfl):PGs X (e::es) (gCons t u):=by
 intro pins s σ H vs us Q I r h
 obtain⟨v,vr,e1,h⟩:=h
 subst e1
 cases r with
 |cons r rr =>
  rw[hs]
  refine assignInOrder_cons (thn (h1 pins s σ H _ _ _ I r h) fun _ s1 ⟨σ1,H1,I1,q1⟩=>?_)
  exact h2 pins s1 σ1 H1 _ _ Q I1 rr q1
def gTup(K:IC)(n:Nat)(t:TGs):TG:=fun v σ H Q=>∃ a xs,v=.ref a/\SqT K H a xs/\xs.length=n/\t xs σ H Q
theorem nC{es:List Expr}{k:Nat}{t:TGs}{n:Nat}(hc:X.calm=true)(h:PGs X es t)
  (hn:(assignEach es X.env).length=n:=by rfl) (hst:(assignEach es X.env).findIdx? (·.1)=none:=by rfl):PG X (.Tuple es k pos) (gTup X.K n t):=by
 intro pins s σ H v u Q I r hw
 obtain⟨a,xs,e1,hq,hl,hw⟩:=hw
 subst e1
 cases r
 obtain⟨its,rv,ht,hz⟩:=I.tuple hq
 refine assign_Tuple_tuple (I.ok.hd hc) ht (by simp[hn,← hl,rv.length]) hst fun h' hx=>?_
 have I1:Inv X pins σ H { s with heap:=h' }:=I.kept (t':=s.toks) fun b o e=>hx b o (Jf (Heap.lt_size e)) e
 exact h pins _ σ H xs _ Q I1 (by simpa using rv) hw
def tAsg(te:TE)(g:TG):TS:=fun D σ H=>te σ H fun x H1=>g x σ H1 D.nx
theorem az{i:Nat}{x:Str}{e:Expr}{te:TE}{pos':Pos}(hN:X.N.Nodup)(hi:X.N[i]?=some x)(hx:Loc X.env.scope x)(he:PE X e te)(hs:swapsWith e (some (.Name x pos')) pos.line X.env=pure false:=by rfl)(hf:X.fn x=true∨X.env.scope.names.lookup x=some .local:=by first | exact .inl rfl | exact .inr rfl | assumption) :
  PS X (.Assign [.Name x pos'] e pos) (tAsg te (DM i)):=by
 intro pins s σ H D I h
 refine wpAny_Assign_Name (thn (he pins s σ H _ I h) fun v s1 ⟨y,H1,I1,r1,q1⟩=>?_) hs
 exact mM I1 hN hi hx r1 (fun s2 I2=>⟨_,H1,I2,q1⟩) hf
end
section
variable{X:Cx}{pos:Pos}
def FU(c:TT)(tb:TS):TS:=fun D σ H=>∃ W:Nat->St->Hp->Prop,(∃ m,W m σ H)/\∀ m σ H,W m σ H ->
 c σ H fun b H1=>if b=true then ∃ N:St->Hp->Prop,(∀ σ' H',N σ' H'->∃ m',m'<m/\W m' σ' H')/\tb { D with nx:=N,ct:=N,bk:=D.nx } σ H1 else D.nx σ H1
theorem zL{c:Expr}{body:List Stmt}{tc:TT}{tb:TS}(hp:PassesOwn (model X.prog X.w) X.A X.env X.xe)(hc:PT X c tc)(hb:PSs X body tb):PS X (.While c body [] pos) (FU tc tb):=by
 intro pins s σ H D I h
 obtain⟨W,⟨m0,w0⟩,turn⟩:=h
 refine wpAny_While (codeAny_whileLoop (fun n s'=>∃ σ' H',Inv X pins σ' H' s'/\W n σ' H') ?_ m0 ⟨σ,H,I,w0⟩)
 rintro n s1 ⟨σ1,H1,I1,w1⟩
 refine wpAny_passesOwn hp (thn (hc pins s1 σ1 H1 _ I1 (turn n σ1 H1 w1)) fun b s2 ⟨H2,I2,q2⟩=>?_)
 cases b with
 |true =>
  obtain⟨N,hN,q2⟩:=q2
  rw[if_pos rfl]
  refine wpAny_passesOwn hp (thn (hb pins s2 σ1 H2 _ I2 q2) fun f s3 q3=>?_)
  cases f with
  |next =>
   obtain⟨σ3,H3,I3,n3⟩:=q3
   obtain⟨m',hm,w3⟩:=hN σ3 H3 n3
   exact⟨m',hm,σ3,H3,I3,w3⟩
  |cont =>
   obtain⟨σ3,H3,I3,n3⟩:=q3
   obtain⟨m',hm,w3⟩:=hN σ3 H3 n3
   exact⟨m',hm,σ3,H3,I3,w3⟩
  |brk=>exact q3
  |ret v=>exact q3
 |false =>
  rw[if_neg IS]
  exact wpAny_execs_nil ⟨σ1,H2,I2,q2⟩
end
structure It where
 go:Nat->Hp->Prop
 yld:Nat->Hp->V->Hp->Prop
 stop:Nat->Hp->Prop
def FpOk(X:Cx)(pins:List (Addr×Obj))(H:Hp)(b:Addr):Prop :=
 H b=none/\b≠X.env.locals/\b∉X.fs/\(b∈X.ex∨X.s₀.heap.objs.size<=b)/\(∀ x c,X.env.cells.lookup x=some c->c≠b)/\∀ p∈X.pn++pins,p.1≠b
theorem Inv.fpOk{X:Cx}{pins:List (Addr×Obj)}{σ:St}{H H':Hp}{s:Shared}{b:Addr}(I:Inv X pins σ H s)(hb:s.heap.objs.size<=b)(hn:H' b=none):FpOk X pins H' b:=by
 refine⟨hn,JX (Jp I.lt hb),I.nofs hb,.inr (JG I.sz hb),fun x c e z=>?_,fun p hp z=>?_⟩
 ·obtain⟨v,q⟩:=I.cell x c e
  exact absurd (Jp q.lt (by rw[z];exact hb)) (JT _)
 ·exact absurd (Jp (Heap.lt_size (I.pin p hp).1) (by rw[z];exact hb)) (JT _)
structure Turn(P:Program)(w:World)(K:IC)(tg:Expr)(J:It)(fp:List Addr)(it:Addr)(tn:Nat->Heap->Prop):Prop where
 mem:it∈fp
 obj:∀ i h,tn i h->∀ b∈fp,∃ o,h.get? b=some o/\∀ v,o.data≠.cell v
 keep:∀ i h h',tn i h->(∀ b∈fp,∀ o,h.get? b=some o->h'.get? b=some o)->tn i h'
 item:∀(X:Cx),X.prog=P->X.w=w->X.K=K->X.calm=true->∀(i:Nat)(pins:List (Addr×Obj))(s:Shared)(σ:St)(H:Hp)(E:Value->Shared->Prop),Inv X pins σ H s->(∀ b∈fp,FpOk X pins H b)->tn i s.heap->J.go i H ->
  wpAny (model P w) X.A (pyNext (.ref it)) (fun r s1=>∃ u,r=some u /\
   wpAny (model P w) X.A (letOwnedTupleGo tg (.ref it) u) (fun _ s2=>∃ x H',Inv X pins σ H' s2/\RelV x u/\J.yld i H x H'/\tn (i+1) s2.heap/\∀ b∈fp,H' b=none) E s1) E s
 done:∀(X:Cx),X.prog=P->X.w=w->X.K=K->X.calm=true->∀(i:Nat)(pins:List (Addr×Obj))(s:Shared)(σ:St)(H:Hp)(E:Value->Shared->Prop),Inv X pins σ H s->(∀ b∈fp,FpOk X pins H b)->tn i s.heap->J.stop i H ->
  wpAny (model P w) X.A (pyNext (.ref it)) (fun r s1=>r=none/\Inv X pins σ H s1) E s
 self:∀(A:Around)(i:Nat)(s:Shared)(Q:Value->Shared->Prop)(E:Value->Shared->Prop),tn i s.heap->Q (.ref it) s->wpAny (model P w) A (pyIter (.ref it)) Q E s
abbrev TI:=St->Hp->(It->Hp->Prop)->Prop
def PIE(X:Cx)(pins:List (Addr×Obj))(σ:St)(tg:Expr)(R:It->Hp->Prop)(itv:Value)(s2:Shared):Prop :=
 ∃(it:Addr)(fp:List Addr)(tn:Nat->Heap->Prop)(J:It)(H':Hp),itv=.ref it/\Inv X pins σ H' s2/\Turn X.prog X.w X.K tg J fp it tn/\tn 0 s2.heap/\(∀ b∈fp,FpOk X pins H' b)/\R J H'
def PI(X:Cx)(tg iter:Expr)(wi:TI):Prop :=
 ∀(pins:List (Addr×Obj))(s:Shared)(σ:St)(H:Hp)(R:It->Hp->Prop),Inv X pins σ H s->wi σ H R ->
  wpAny (model X.prog X.w) X.A (eval iter X.env) (fun v s1=>wpAny (model X.prog X.w) X.A (pyIter v) (PIE X pins σ tg R) X.xe s1) X.xe s
theorem go_of{M:Model}{A:Around}{E:Value->Shared->Prop}{s:Shared}{tg:Expr}{it:Addr}{u:Value}{o:Obj}{n:String}{vs:Array Value}{Q:Unit->Shared->Prop}(ho:s.heap.get? it=some o)(hc:o.cls=.type n)(hd:o.data=.fields vs)
  (hn : ["enumerate","zip","dict_itemiterator","dict_reverseitemiterator","odict_iterator","itertools.zip_longest","itertools.pairwise"].contains n=false) (hQ:Q () s):wpAny M A (letOwnedTupleGo tg (.ref it) u) Q E s:=by
 unfold letOwnedTupleGo
 cases tg<;>first
  |exact wpAny_pure hQ
  | (cases u<;>first
    |exact wpAny_pure hQ
    | (refine wpAny_bind (wpAny_load ho ?_)
       rw[hc,hd]
       show wpAny M A (if(["enumerate","zip","dict_itemiterator","dict_reverseitemiterator","odict_iterator","itertools.zip_longest","itertools.pairwise"].contains n&&vs[0]? == some (rawInt _))=true then _ else _) Q E s
       rw[if_neg (by intro h;rw[hn,K9]at h;cases h)]
       exact wpAny_pure hQ))
def Itl(K:IC)(a:Addr):It :=
 ⟨fun i H=>∃ xs x,SqL K H a xs/\xs[i]?=some x,fun i H x H'=>H'=H/\∀ xs,SqL K H a xs->xs[i]?=some x,fun i H=>∃ xs,SqL K H a xs/\xs.length<=i⟩
def Itr(lo:Int)(n:Nat):It:=⟨fun i _=>i<n,fun i H x H'=>H'=H/\x=.int (lo+i),fun i _=>n<=i⟩
theorem BN{P:Program}{w:World}{K:IC}{tg:Expr}(a it:Addr):Turn P w K tg (Itl K a) [it] it (fun i h=>h.IsListIter it a i) where
 mem:=by simp
 obj:=fun i h st b hb=>by
  have e:b=it:=by simpa using hb
  subst e
  obtain⟨o,e,c,d⟩:=st
  exact⟨o,e,fun v z=>by rw[d]at z;cases z⟩
 keep:=fun i h h' st k=>st.at fun o e=>k it (by simp) o e
 item:=by
  intro X hP hw hK hc i pins s σ H E I hf st hg
  subst hP hw hK
  obtain⟨xs,x,hq,hx⟩:=hg
  obtain⟨its,rv,p,hz⟩:=I.list hq
  obtain⟨u,hu,ru⟩:=rv.get hx
  obtain⟨f0,f1,f2,f3,f4,f5⟩:=hf it (by simp)
  refine wpAny_pyNext_list_item st p.isList (x:=u) (by simpa using hu) fun h' st' sb=>?_
  have I1:Inv X pins σ H { s with heap:=h' }:=I.turned (t':=s.toks) (fun b o hb e=>(sb.2 b hb).trans e) f0 f1 f3 f4 f5
  obtain⟨o,e,c,d⟩:=id st'
  exact⟨u,rfl,go_of (s:={ s with heap:=h' }) e c d (by decide) ⟨x,H,I1,ru,⟨rfl,fun ys hy=>by rw[I.list_inj hy hq];exact hx⟩,st',fun b hb=>(hf b hb).1⟩⟩
 done:=by
  intro X hP hw hK hc i pins s σ H E I hf st hg
  subst hP hw hK
  obtain⟨xs,hq,hx⟩:=hg
  obtain⟨its,rv,p,hz⟩:=I.list hq
  obtain⟨f0,f1,f2,f3,f4,f5⟩:=hf it (by simp)
  have hl:=rv.length
  exact wpAny_pyNext_list_end (I.ok.hd hc) st p.isList (by simp;omega) fun h' eb=>⟨rfl,I.turned (t':=s.toks) (fun b o hb e=>eb b o hb e) f0 f1 f3 f4 f5⟩
 self:=fun _ _ _ _ _ st h=>wpAny_pyIter_listiter st h
theorem As{P:Program}{w:World}{K:IC}{tg:Expr}(it:Addr)(lo:Int)(n:Nat):Turn P w K tg (Itr lo n) [it] it (fun i h=>IsRangeIter h it (lo+(i:Nat)*1) ((n:Int)-(i:Nat)) 1) where
 mem:=by simp
 obj:=fun i h st b hb=>by
  have e:b=it:=by simpa using hb
  subst e
  exact⟨_,st,fun v z=>by
   have z':Data.fields _=Data.cell v:=z
   cases z'⟩
 keep:=fun i h h' st k=>k it (by simp) _ st
 item:=by
  intro X hP hw hK hc i pins s σ H E I hf st hg
  subst hP hw hK
  obtain⟨f0,f1,f2,f3,f4,f5⟩:=hf it (by simp)
  have W:=Walks.range (prog:=X.prog) (w:=X.w) (I.ok.hd hc) it lo 1 n
  refine W.item i s _ _ hg st fun v h' tk hv st' kk=>?_
  obtain⟨t,rfl⟩:=hv
  have I1:Inv X pins σ H { s with heap:=h',toks:=tk }:=I.turned (fun b o hb e=>kk b o (by simpa using hb) e) f0 f1 f3 f4 f5
  refine⟨_,rfl,go_of (s:={ s with heap:=h',toks:=tk }) (n:="range_iterator") st' rfl rfl (by decide) ⟨.int (lo+i),H,I1,⟨t,?_⟩,⟨rfl,rfl⟩,st',fun b hb=>(hf b hb).1⟩⟩
  rw[Int.mul_one]
 done:=by
  intro X hP hw hK hc i pins s σ H E I hf st hg
  subst hP hw hK
  obtain⟨f0,f1,f2,f3,f4,f5⟩:=hf it (by simp)
  exact wpAny_pyNext_range_end (I.ok.hd hc) st (by have:n<=i:=hg;omega) fun h' eb=>⟨rfl,I.turned (t':=s.toks) (fun b o hb e=>eb b o hb e) f0 f1 f3 f4 f5⟩
 self:=fun _ _ _ _ _ st h=>wpAny_pyIter_rangeiter st h
end L2
namespace L2
open PySem PySem.Spec PyProof.Rows
section
variable{X:Cx}{tg:Expr}
def iList(K:IC)(tl:TE):TI:=fun σ H R=>tl σ H fun x H1=>∃ a,x=.ref a/\(∃ xs,SqL K H1 a xs)/\R (Itl K a) H1
theorem bx{l:Expr}{tl:TE}(hl:PE X l tl):PI X tg l (iList X.K tl):=by
 intro pins s σ H R I h
 refine thn (hl pins s σ H _ I h) fun v s1 ⟨x,H1,I1,r1,q1⟩=>?_
 obtain⟨a,e,⟨xs,hq⟩,q⟩:=q1
 subst e
 cases r1
 obtain⟨its,rv,p,hz⟩:=I1.list hq
 refine wpAny_pyIter_list p.isList ?_
 refine⟨s1.heap.objs.size,[s1.heap.objs.size],_,_,H1,rfl,I1.kept (t':=s1.toks) fun b o e=>Heap.get?_push_of_some _ e,BN a _,⟨_,Heap.get?_push_size _ rfl,rfl,rfl⟩,fun b hb=>?_,q⟩
 have e:b=s1.heap.objs.size:=by simpa using hb
 subst e
 exact I1.fpOk (IG _) (I1.hok.fresh (IG _))
theorem zK{pins:List (Addr×Obj)}{σ:St}{H:Hp}{s:Shared}{R:It->Hp->Prop}{E:Value->Shared->Prop}{lo hi:Int}{t u v:Tok}{tk:Nat}(I:Inv X pins σ H s)(h1 : -(2^62)<=lo)(h2:lo<2^62)(h3 : -(2^62)<=hi)(h4:hi<2^62)
  (q:R (Itr lo (hi-lo).toNat) H):wpAny (model X.prog X.w) X.A (pyIter (.ref s.heap.objs.size)) (PIE X pins σ tg R) E { s with heap:=s.heap.push { cls:=.type "range",data:=.fields #[.int lo t,.int hi u,.int 1 v] },toks:=tk }:=by
 refine wpAny_pyIter_range (IsRange.new ..) (small_one h1 h2 h3 h4) ?_
 have I1:Inv X pins σ H { s with heap:=s.heap.push { cls:=.type "range",data:=.fields #[.int lo t,.int hi u,.int 1 v] },toks:=tk }:=I.kept fun b o e=>Heap.get?_push_of_some _ e
 refine⟨(s.heap.push { cls:=.type "range",data:=.fields #[.int lo t,.int hi u,.int 1 v] }).objs.size,[(s.heap.push { cls:=.type "range",data:=.fields #[.int lo t,.int hi u,.int 1 v] }).objs.size],_,_,H,rfl,
  I1.kept (t':=tk) fun b o e=>Heap.get?_push_of_some _ e,As _ lo (hi-lo).toNat,?_,fun b hb=>?_,q⟩
 ·have e1:lo+((0:Nat):Int)*1=lo:=by simp
  have e2:(((hi-lo).toNat:Nat):Int)-((0:Nat):Int)=Builtin.Range.rangeSize lo hi 1:=by rw[rangeSize_one];split<;>omega +splitDisjunctions
  show IsRangeIter _ _ (lo+((0:Nat):Int)*1) ((((hi-lo).toNat:Nat):Int)-((0:Nat):Int)) 1
  rw[e1,e2]
  exact Heap.get?_push_size _ rfl
 ·have e:b=(s.heap.push { cls:=.type "range",data:=.fields #[.int lo t,.int hi u,.int 1 v] }).objs.size:=by simpa using hb
  subst e
  exact I1.fpOk (IG _) (I1.hok.fresh (IG _))
def iRng1(ta:TA):TI:=fun σ H R=>ta σ H fun vs H1=>∃ j:Int,vs = [.int j]/\-(2^62)<=j/\j<2^62/\R (Itr 0 j.toNat) H1
def iRng2(ta:TA):TI:=fun σ H R=>ta σ H fun vs H1=>∃ i j:Int,vs = [.int i,.int j]/\(-(2^62)<=i/\i<2^62/\-(2^62)<=j/\j<2^62)/\R (Itr i (j-i).toNat) H1
theorem gh{a:Expr}{ta:TA}{p pos:Pos} (hg:Gl X "range") (hm:X.mg "range" = none) (ha:PA X [a] ta) (hs:starEach [a] X.env = [(false,eval a X.env)]:=by rfl):PI X tg (.Call (.Name "range" p) [a] [] pos) (iRng1 ta):=by
 intro pins s σ H R I h
 refine Call_ (jL I hg hm boot_range (PyProof.Rows.callWith_type1 (thn (ha pos pins s σ H _ I h) fun us s1 ⟨vs,H1,I1,r1,q1⟩=>?_) hs rfl))
 obtain⟨j,e,q1,q2,q⟩:=q1
 subst e
 cases r1 with
 |cons r rr =>
  cases rr
  obtain⟨t,rfl⟩:=r
  exact call_range_1 (zK I1 (by omega) (by omega) q1 q2 (by simpa using q))
theorem CA{a b:Expr}{ta:TA}{p pos:Pos} (hg:Gl X "range") (hm:X.mg "range" = none) (ha:PA X [a,b] ta) (hs:starEach [a,b] X.env = [(false,eval a X.env),(false,eval b X.env)]:=by rfl) (hs2:starEach [b] X.env = [(false,eval b X.env)]:=by rfl) :
  PI X tg (.Call (.Name "range" p) [a,b] [] pos) (iRng2 ta):=by
 intro pins s σ H R I h
 refine Call_ (jL I hg hm boot_range (PyProof.Rows.callWith_type1 (thn (ha pos pins s σ H _ I h) fun us s1 ⟨vs,H1,I1,r1,q1⟩=>?_) (by rw[hs,hs2]) (by rw[hs2];rfl)))
 obtain⟨i,j,e,⟨q1,q2,q3,q4⟩,q⟩:=q1
 subst e
 cases r1 with
 |cons r rr =>
  cases rr with
  |cons r' rr =>
   cases rr
   obtain⟨t,rfl⟩:=r
   obtain⟨t',rfl⟩:=r'
   exact call_range_2 (zK I1 q1 q2 q3 q4 q)
def tFor(wi:TI)(g:TG)(tb:TS):TS:=fun D σ H=>wi σ H fun J H1=>∃ W:Nat->Nat->St->Hp->Prop,(∃ m,W 0 m σ H1)/\∀ i m σ H,W i m σ H ->
 (J.stop i H/\D.nx σ H)∨(J.go i H/\∃ N:St->Hp->Prop,(∀ σ' H',N σ' H'->∃ m',m'<m/\W (i+1) m' σ' H')/\∀ x H',J.yld i H x H'->g x σ H' fun σ2 H2=>tb { D with nx:=N,ct:=N,bk:=D.nx } σ2 H2)
def pV(fp:List Addr)(h:Heap):List (Addr×Obj):=fp.filterMap fun b=>(h.get? b).map fun o=>(b,o)
theorem cF{fp:List Addr}{h:Heap}{b:Addr}{o:Obj}(hb:b∈fp)(e:h.get? b=some o):(b,o)∈pV fp h:=Ma.mpr ⟨b,hb,by rw[e];rfl⟩
theorem CU{fp:List Addr}{h:Heap}{p:Addr×Obj}(hp:p∈pV fp h):p.1∈fp/\h.get? p.1=some p.2:=by
 obtain⟨b,hb,e⟩:=Ma.mp hp
 cases q:h.get? b with
 |none=>rw[q]at e;cases e
 |some o =>
  rw[q]at e
  have e':(b,o)=p:=IW e
  subst e'
  exact⟨hb,q⟩
theorem Inv.pinned{pins:List (Addr×Obj)}{σ:St}{H:Hp}{s:Shared}{fp:List Addr}(I:Inv X pins σ H s)(hf:∀ b∈fp,FpOk X pins H b)(ho:∀ b∈fp,∃ o,s.heap.get? b=some o/\∀ v,o.data≠.cell v):Inv X (pins++pV fp s.heap) σ H s :=
 I.pins_of fun p hp=>(IK.mp hp).elim (fun z=>I.pin p (IP _ z)) fun z=>by
  obtain⟨hb,e⟩:=CU z
  obtain⟨f0,f1,f2,_⟩:=hf p.1 hb
  obtain⟨o,e',d⟩:=ho p.1 hb
  rw[e]at e';cases e'
  exact⟨e,f0,f1,f2,d⟩
theorem Inv.unpinned{pins pl:List (Addr×Obj)}{σ:St}{H:Hp}{s:Shared}(I:Inv X (pins++pl) σ H s):Inv X pins σ H s:=I.pins_of fun p hp=>I.pin p (IP _ (Jn _ hp))
theorem cu{iter:Expr}{body:List Stmt}{wi:TI}{g:TG}{tb:TS}{pos:Pos}(hp:PassesOwn (model X.prog X.w) X.A X.env X.xe)(hc:X.calm=true)(hi:PI X tg iter wi)(hg:PG X tg g)(hb:PSs X body tb)
  (hs:∀ x,foldedSetIterable iter X.env x=pure x:=by intro _;rfl):PS X (.For tg iter body [] pos) (tFor wi g tb):=by
 intro pins s σ H D I h
 refine wpAny_For (thn (hi pins s σ H _ I h) fun v s1 h1=>thn h1 fun itv s2 h2=>?_) hs
 obtain⟨it,fp,tn,J,H2,e,I2,T,st2,f2,W,⟨m0,w0⟩,turn⟩:=h2
 subst e
 have stat:∀{H':Hp},(∀ b∈fp,H' b=none)->∀ b∈fp,FpOk X pins H' b:=fun hn b hb=>⟨hn b hb,(f2 b hb).2⟩
 refine codeAny_forLoop_any (fun n s'=>∃ i σ' H',Inv X pins σ' H' s'/\tn i s'.heap/\(∀ b∈fp,H' b=none)/\W i n σ' H') ?_ m0 ⟨0,σ,H2,I2,st2,fun b hb=>(f2 b hb).1,w0⟩
 rintro n s3 ⟨i,σ3,H3,I3,st3,fr3,w3⟩
 rcases turn i n σ3 H3 w3 with⟨stop,qn⟩ | ⟨go,N,hN,step⟩
 ·refine wpAny_passesOwn hp (thn (T.done X rfl rfl rfl hc i pins s3 σ3 H3 X.xe I3 (stat fr3) st3 stop) fun r s4 ⟨hr,I4⟩=>?_)
  subst hr
  exact wpAny_execs_nil ⟨σ3,H3,I4,qn⟩
 ·refine wpAny_passesOwn hp (thn (T.item X rfl rfl rfl hc i pins s3 σ3 H3 X.xe I3 (stat fr3) st3 go) fun r s4 ⟨u,hr,h4⟩=>?_)
  subst hr
  refine wpAny_passesOwn hp (thn h4 fun _ s5 ⟨x,H5,I5,r5,y5,st5,fr5⟩=>?_)
  have I5':=I5.pinned (stat fr5) (T.obj _ _ st5)
  refine wpAny_passesOwn hp (thn (hg _ s5 σ3 H5 x u _ I5' r5 (step x H5 y5)) fun _ s6 ⟨σ6,H6,I6,q6⟩=>?_)
  refine wpAny_passesOwn hp (thn (hb _ s6 σ6 H6 _ I6 q6) fun f s7 q7=>?_)
  have again:∀{σ7:St}{H7:Hp},Inv X (pins++pV fp s5.heap) σ7 H7 s7->N σ7 H7->∃ m,m<n/\∃ i σ' H',Inv X pins σ' H' s7/\tn i s7.heap/\(∀ b∈fp,H' b=none)/\W i m σ' H':=fun{σ7 H7} I7 n7=>by
   obtain⟨m',hm,w7⟩:=hN σ7 H7 n7
   refine⟨m',hm,i+1,σ7,H7,I7.unpinned,T.keep _ _ _ st5 fun b hb o e=>(I7.pin (b,o) (IP _ (IP _ (cF hb e)))).1,fun b hb=>?_,w7⟩
   obtain⟨o,e,d⟩:=T.obj _ _ st5 b hb
   exact(I7.pin (b,o) (IP _ (IP _ (cF hb e)))).2.1
  cases f with
  |next=>obtain⟨σ7,H7,I7,n7⟩:=q7;exact again I7 n7
  |cont=>obtain⟨σ7,H7,I7,n7⟩:=q7;exact again I7 n7
  |brk=>obtain⟨σ7,H7,I7,q7⟩:=q7;exact⟨σ7,H7,I7.unpinned,q7⟩
  |ret v=>obtain⟨x7,σ7,H7,I7,r7,q7⟩:=q7;exact⟨x7,σ7,H7,I7.unpinned,r7,q7⟩
end
theorem cO{K:IC}{a:Addr}{xs:List V}{g:TG}{tb:TS}{D:Ends}{σ:St}{H:Hp}(Pv:Nat->St->Hp->Prop)(h0:Pv 0 σ H)(hl:∀ i σ H,i<=xs.length->Pv i σ H->SqL K H a xs)
  (hs:∀ i x σ H,xs[i]?=some x->Pv i σ H->g x σ H fun σ2 H2=>tb { D with nx:=Pv (i+1),ct:=Pv (i+1),bk:=D.nx } σ2 H2) (hd:∀ σ H,Pv xs.length σ H->D.nx σ H) :
  ∃ W:Nat->Nat->St->Hp->Prop,(∃ m,W 0 m σ H)/\∀ i m σ H,W i m σ H ->
   ((Itl K a).stop i H/\D.nx σ H)∨((Itl K a).go i H/\∃ N:St->Hp->Prop,(∀ σ' H',N σ' H'->∃ m',m'<m/\W (i+1) m' σ' H')/\∀ x H',(Itl K a).yld i H x H'->g x σ H' fun σ2 H2=>tb { D with nx:=N,ct:=N,bk:=D.nx } σ2 H2):=by
 refine⟨fun i m σ H=>m=xs.length-i/\i<=xs.length/\Pv i σ H,⟨xs.length,by simp,JL _,h0⟩,?_⟩
 rintro i m σ H ⟨rfl,hi,p⟩
 have q:=hl i σ H hi p
 by_cases hlt:i<xs.length
 ·refine .inr ⟨⟨xs,xs[i],q,by simp[hlt]⟩,Pv (i+1),fun σ' H' p'=>⟨xs.length-(i+1),by omega,rfl,hlt,p'⟩,fun x H' y=>?_⟩
  obtain⟨e,y⟩:=y
  subst e
  exact hs i x σ _ (y xs q) p
 ·have e:i=xs.length:=by omega
  subst e
  exact .inl ⟨⟨xs,q,IG _⟩,hd σ H p⟩
theorem jS{lo:Int}{n:Nat}{g:TG}{tb:TS}{D:Ends}{σ:St}{H:Hp}(Pv:Nat->St->Hp->Prop)(h0:Pv 0 σ H)
  (hs:∀ i σ H,i<n->Pv i σ H->g (.int (lo+i)) σ H fun σ2 H2=>tb { D with nx:=Pv (i+1),ct:=Pv (i+1),bk:=D.nx } σ2 H2) (hd:∀ σ H,Pv n σ H->D.nx σ H) :
  ∃ W:Nat->Nat->St->Hp->Prop,(∃ m,W 0 m σ H)/\∀ i m σ H,W i m σ H ->
   ((Itr lo n).stop i H/\D.nx σ H)∨((Itr lo n).go i H/\∃ N:St->Hp->Prop,(∀ σ' H',N σ' H'->∃ m',m'<m/\W (i+1) m' σ' H')/\∀ x H',(Itr lo n).yld i H x H'->g x σ H' fun σ2 H2=>tb { D with nx:=N,ct:=N,bk:=D.nx } σ2 H2):=by
 refine⟨fun i m σ H=>m=n-i/\i<=n/\Pv i σ H,⟨n,by simp,JL _,h0⟩,?_⟩
 rintro i m σ H ⟨rfl,hi,p⟩
 by_cases hlt:i<n
 ·refine .inr ⟨hlt,Pv (i+1),fun σ' H' p'=>⟨n-(i+1),by omega,rfl,hlt,p'⟩,fun x H' y=>?_⟩
  obtain⟨e,y⟩:=y
  subst e y
  exact hs i σ _ hlt p
 ·have e:i=n:=by omega
  subst e
  exact .inl ⟨IG _,hd σ H p⟩
theorem zB{c:TT}{tb:TS}{D:Ends}{σ:St}{H:Hp}(Pv:St->Hp->Prop)(μ:St->Hp->Nat)(h0:Pv σ H)
  (hs:∀ σ H,Pv σ H->c σ H fun b H1=>if b=true then tb { D with nx:=fun σ' H'=>Pv σ' H'/\μ σ' H'<μ σ H,ct:=fun σ' H'=>Pv σ' H'/\μ σ' H'<μ σ H,bk:=D.nx } σ H1 else D.nx σ H1)
  (mono:∀ σ H Q Q',(∀ b H1,Q b H1->Q' b H1)->c σ H Q->c σ H Q'):FU c tb D σ H:=by
 refine⟨fun m σ H=>m=μ σ H/\Pv σ H,⟨_,rfl,h0⟩,?_⟩
 rintro m σ H ⟨rfl,p⟩
 refine mono σ H _ _ (fun b H1 q=>?_) (hs σ H p)
 cases b with
 |true=>exact⟨_,fun σ' H' ⟨p',l⟩=>⟨_,l,rfl,p'⟩,q⟩
 |false=>exact q
end L2
namespace L2
open PySem PySem.Spec PyProof.Rows
abbrev R2:=V->V->Hp->VK->Prop
def OpR(X:Cx)(f:Value->Value->Sem Value)(r:R2):Prop :=
 ∀(pins:List (Addr×Obj))(s:Shared)(σ:St)(H:Hp)(x y:V)(v u:Value)(Q:VK),Inv X pins σ H s->RelV x v->RelV y u->r x y H Q ->
  wpAny (model X.prog X.w) X.A (f v u) (EP X pins σ Q) X.xe s
def UnR(X:Cx)(f:Value->Sem Value)(r:V->Hp->VK->Prop):Prop :=
 ∀(pins:List (Addr×Obj))(s:Shared)(σ:St)(H:Hp)(x:V)(v:Value)(Q:VK),Inv X pins σ H s->RelV x v->r x H Q ->
  wpAny (model X.prog X.w) X.A (f v) (EP X pins σ Q) X.xe s
def j9(X:Cx)(f:Value)(r:List V->Hp->VK->Prop):Prop :=
 ∀(pins:List (Addr×Obj))(s:Shared)(σ:St)(H:Hp)(xs:List V)(us:List Value)(Q:VK),Inv X pins σ H s->Vals xs us->r xs H Q ->
  wpAny (model X.prog X.w) X.A (call f us) (EP X pins σ Q) X.xe s
def tOp(r:R2)(ta tb:TE):TE:=fun σ H Q=>ta σ H fun x H1=>tb σ H1 fun y H2=>r x y H2 Q
def tUn(r:V->Hp->VK->Prop)(ta:TE):TE:=fun σ H Q=>ta σ H fun x H1=>r x H1 Q
def rI(C:Int->Int->Prop)(g:Int->Int->V):R2:=fun x y H Q=>∃ i j,x=.int i/\y=.int j/\C i j/\Q (g i j) H
def rI0(g:Int->Int->V):R2:=fun x y H Q=>∃ i j,x=.int i/\y=.int j/\Q (g i j) H
def rU(g:Int->V):V->Hp->VK->Prop:=fun x H Q=>∃ i,x=.int i/\Q (g i) H
section
variable{X:Cx}{a b c:Expr}{ta tb tc:TE}{pos:Pos}
theorem binT(ha:PE X a ta)(hb:PE X b tb){pins:List (Addr×Obj)}{s:Shared}{σ:St}{H:Hp}{R:V->V->Hp->Prop}(I:Inv X pins σ H s)
  (h:ta σ H fun x H1=>tb σ H1 fun y H2=>R x y H2) {Q:Value->Shared->Prop} {f:Value->Value->Sem Value}
  (hf:∀ v u s2 x y H2,Inv X pins σ H2 s2->RelV x v->RelV y u->R x y H2->wpAny (model X.prog X.w) X.A (f v u) Q X.xe s2) :
  wpAny (model X.prog X.w) X.A (eval a X.env) (fun v s₁=>wpAny (model X.prog X.w) X.A (eval b X.env) (fun u s₂=>wpAny (model X.prog X.w) X.A (f v u) Q X.xe s₂) X.xe s₁) X.xe s:=by
 refine thn (ha pins s σ H _ I h) fun v s1 ⟨x,H1,I1,r1,q1⟩=>?_
 refine thn (hb pins s1 σ H1 _ I1 q1) fun u s2 ⟨y,H2,I2,r2,q2⟩=>?_
 exact hf v u s2 x y H2 I2 r1 r2 q2
theorem aA{op:Operator}{r:R2}(ho:OpR X (binaryOp op) r)(ha:PE X a ta)(hb:PE X b tb):PE X (.BinOp a op b pos) (tOp r ta tb):=by
 intro pins s σ H Q I h
 exact wpAny_BinOp (binT ha hb I h fun v u s2 x y H2 I2 rx ry q=>ho pins s2 σ H2 x y v u Q I2 rx ry q)
theorem pe_un{op:UnaryOp}{r:V->Hp->VK->Prop}(ho:UnR X (unaryOp op) r)(ha:PE X a ta):PE X (.UnaryOp op a pos) (tUn r ta):=by
 intro pins s σ H Q I h
 exact UnaryOp_ (thn (ha pins s σ H _ I h) fun v s1 ⟨x,H1,I1,r1,q1⟩=>ho pins s1 σ H1 x v Q I1 r1 q1)
theorem opI{f:Value->Value->Sem Value}{C:Int->Int->Prop}{g:Int->Int->Int}
  (rule:∀(i j:Int)(t u:Tok)(s:Shared)(Q:Value->Shared->Prop)(E:Value->Shared->Prop),C i j->Q (.int (g i j) s.toks) { s with toks:=s.toks+1 }->wpAny (model X.prog X.w) X.A (f (.int i t) (.int j u)) Q E s) :
  OpR X f (rI C fun i j=>.int (g i j)):=by
 intro pins s σ H x y v u Q I rx ry h
 obtain⟨i,j,rfl,rfl,hc,q⟩:=h
 obtain⟨t,rfl⟩:=rx
 obtain⟨t',rfl⟩:=ry
 exact rule i j t t' s _ _ hc ⟨.int (g i j),H,I.tok _,⟨_,rfl⟩,q⟩
theorem opI0{f:Value->Value->Sem Value}{g:Int->Int->Int}
  (rule:∀(i j:Int)(t u:Tok)(s:Shared)(Q:Value->Shared->Prop)(E:Value->Shared->Prop),Q (.int (g i j) s.toks) { s with toks:=s.toks+1 }->wpAny (model X.prog X.w) X.A (f (.int i t) (.int j u)) Q E s) :
  OpR X f (rI0 fun i j=>.int (g i j)):=by
 intro pins s σ H x y v u Q I rx ry h
 obtain⟨i,j,rfl,rfl,q⟩:=h
 obtain⟨t,rfl⟩:=rx
 obtain⟨t',rfl⟩:=ry
 exact rule i j t t' s _ _ ⟨.int (g i j),H,I.tok _,⟨_,rfl⟩,q⟩
theorem opB0{f:Value->Value->Sem Value}{g:Int->Int->Bool}
  (rule:∀(i j:Int)(t u:Tok)(s:Shared)(Q:Value->Shared->Prop)(E:Value->Shared->Prop),Q (.bool (g i j)) s->wpAny (model X.prog X.w) X.A (f (.int i t) (.int j u)) Q E s) :
  OpR X f (rI0 fun i j=>.bl (g i j)):=by
 intro pins s σ H x y v u Q I rx ry h
 obtain⟨i,j,rfl,rfl,q⟩:=h
 obtain⟨t,rfl⟩:=rx
 obtain⟨t',rfl⟩:=ry
 exact rule i j t t' s _ _ ⟨.bl (g i j),H,I,rfl,q⟩
def CDiv(i j:Int):Prop:=0<j/\j<1073741824
def CPow(i j:Int):Prop:=0<=j/\j<=1000000/\i.natAbs<2^64
def CMul(i j:Int):Prop:=(-(2^64)<i/\i<2^64)∨(-(2^64)<j/\j<2^64)
theorem CMul.ok{i j:Int}(h:CMul i j):IntMulOk i j:=by
 rcases h with⟨h1,h2⟩ | ⟨h1,h2⟩
 ·exact .of_left (intBits_le_64 h1 h2)
 ·exact .of_right (intBits_le_64 h1 h2)
theorem Aq(k:Nat):(0:Int)<=2^k:=by
 rw[two_pow_cast]
 exact Mb _
theorem cU:OpR X (binaryOp .Add) (rI0 fun i j=>.int (i+j)):=opI0 fun _ _ _ _ _ _ _ q=>add_int q
theorem pW:OpR X (binaryOp .Sub) (rI0 fun i j=>.int (i-j)):=opI0 fun _ _ _ _ _ _ _ q=>sub_int q
theorem pX:OpR X (binaryOp .Mult) (rI CMul fun i j=>.int (i*j)):=opI fun _ _ _ _ _ _ _ hc q=>mul_int q hc.ok
theorem fg:OpR X (binaryOp .FloorDiv) (rI CDiv fun i j=>.int (i/j)):=opI fun i j _ _ _ _ _ hc q=>by
 have h1:(0:Int)<j:=hc.1
 have h2:j<1073741824:=hc.2
 exact floordiv_int (by omega) (by rw[Mv i (by omega)];exact q) (.inl (PyProof.noPylong_small (by omega)))
theorem cv:OpR X (binaryOp .Mod) (rI (fun _ j=>0<j) fun i j=>.int (i%j)):=opI fun i j _ _ _ _ _ hc q=>by
 have h1:(0:Int)<j:=hc
 exact mod_int' (by omega) (by rw[Int.fmod_eq_emod_of_nonneg i (by omega)];exact q)
theorem op_pow:OpR X (binaryOp .Pow) (rI CPow fun i j=>.int (i^j.toNat)):=opI fun _ _ _ _ _ _ _ hc q=>pow_int_small hc.1 hc.2.1 hc.2.2 q
theorem jI:OpR X (binaryOp .LShift) (rI CPow fun i j=>.int (i*2^j.toNat)):=opI fun _ _ _ _ _ _ _ hc q=>lshift_int_small hc.1 hc.2.1 hc.2.2 q
theorem zS:OpR X (binaryOp .RShift) (rI (fun _ j=>0<=j) fun i j=>.int (i/2^j.toNat)):=opI fun i j _ _ _ _ _ hc q =>
 rshift_int hc (by rw[Mv i (Aq _)];exact q)
theorem pY:OpR X (binaryOp .BitAnd) (rI0 fun i j=>.int (Builtin.bitAnd i j)):=opI0 fun _ _ _ _ _ _ _ q=>and_int q
theorem xD:OpR X (binaryOp .BitOr) (rI0 fun i j=>.int (Builtin.bitOr i j)):=opI0 fun _ _ _ _ _ _ _ q=>or_int q
theorem op_xor:OpR X (binaryOp .BitXor) (rI0 fun i j=>.int (Builtin.bitXor i j)):=opI0 fun _ _ _ _ _ _ _ q=>xor_int q
theorem unI{f:Value->Sem Value}{g:Int->Int}
  (rule:∀(i:Int)(t:Tok)(s:Shared)(Q:Value->Shared->Prop)(E:Value->Shared->Prop),Q (.int (g i) s.toks) { s with toks:=s.toks+1 }->wpAny (model X.prog X.w) X.A (f (.int i t)) Q E s) :
  UnR X f (rU fun i=>.int (g i)):=by
 intro pins s σ H x v Q I rx h
 obtain⟨i,rfl,q⟩:=h
 obtain⟨t,rfl⟩:=rx
 exact rule i t s _ _ ⟨.int (g i),H,I.tok _,⟨_,rfl⟩,q⟩
theorem un_neg:UnR X (unaryOp .USub) (rU fun i=>.int (-i)):=unI fun _ _ _ _ _ q=>neg_int q
end
def scal:V->V->Bool
 |.non,.non=>true | .non,.int _=>true | .int _,.non=>true | .non,.bl _=>true | .bl _,.non=>true | .non,.str _=>true | .str _,.non=>true
 |.int _,.int _=>true | .bl _,.bl _=>true | .str _,.str _=>true | .byt _,.byt _=>true
 |.int _,.str _=>true | .str _,.int _=>true | .bl _,.str _=>true | .str _,.bl _=>true
 |_,_=>false
def rEq:R2:=fun x y H Q=>scal x y=true/\Q (.bl (decide (x=y))) H
def rNe:R2:=fun x y H Q=>scal x y=true/\Q (.bl (!decide (x=y))) H
theorem DV{i j:Int}:decide (V.int i=V.int j)=(i == j):=by
 rw[LW]
 simp
theorem Gm{i j:Bool}:decide (V.bl i=V.bl j)=(i == j):=by
 rw[LW]
 simp
theorem DU{i j:Str}:decide (V.str i=V.str j)=(i == j):=by
 rw[LW]
 simp
theorem DW{i j:Array UInt8}:decide (V.byt i=V.byt j)=(i.toList == j.toList):=by
 rw[LW]
 cases i
 cases j
 simp
section
variable{X:Cx}{a b c:Expr}{ta tb tc:TE}{pos:Pos}
theorem aR{pins:List (Addr×Obj)}{σ:St}{H:Hp}{s:Shared}{Q:VK}{k k':Bool}(I:Inv X pins σ H s)(q:Q (.bl k) H)(e:k=k'):EP X pins σ Q (.bool k') s:=by
 subst e
 exact⟨.bl k,H,I,rfl,q⟩
theorem rf:OpR X (compareOp .Eq) rEq:=by
 intro pins s σ H x y v u Q I rx ry h
 obtain⟨hs,q⟩:=h
 cases x with
 |non =>
  cases rx
  cases y with
  |non=>cases ry;exact PySem.EqNone.eq_none_none (aR I q (by simp))
  |bl j=>cases ry;exact PySem.EqNone.eq_none_bool (aR I q (by simp))
  |int j=>obtain⟨t',rfl⟩:=ry;exact PySem.EqNone.eq_none_int (aR I q (by simp))
  |str j=>obtain⟨t',rfl⟩:=ry;exact PySem.EqNone.eq_none_str (aR I q (by simp))
  |_=>exact absurd (show false=true from hs) IS
 |bl i =>
  cases rx
  cases y with
  |non=>cases ry;exact PySem.EqNone.eq_bool_none (aR I q (by simp))
  |bl j=>cases ry;exact eq_bool (aR I q Gm)
  |str j=>obtain⟨t',rfl⟩:=ry;exact PySem.EqMixed.eq_bool_str (aR I q (by simp))
  |_=>exact absurd (show false=true from hs) IS
 |int i =>
  obtain⟨t,rfl⟩:=rx
  cases y with
  |non=>cases ry;exact PySem.EqNone.eq_int_none (aR I q (by simp))
  |int j=>obtain⟨t',rfl⟩:=ry;exact eq_int (aR I q DV)
  |str j=>obtain⟨t',rfl⟩:=ry;exact PySem.EqMixed.eq_int_str (aR I q (by simp))
  |_=>exact absurd (show false=true from hs) IS
 |str i =>
  obtain⟨t,rfl⟩:=rx
  cases y with
  |non=>cases ry;exact PySem.EqNone.eq_str_none (aR I q (by simp))
  |bl j=>cases ry;exact PySem.EqMixed.eq_str_bool (aR I q (by simp))
  |int j=>obtain⟨t',rfl⟩:=ry;exact PySem.EqMixed.eq_str_int (aR I q (by simp))
  |str j=>obtain⟨t',rfl⟩:=ry;exact eq_str (aR I q DU)
  |_=>exact absurd (show false=true from hs) IS
 |byt i =>
  obtain⟨t,rfl⟩:=rx
  cases y with
  |byt j=>obtain⟨t',rfl⟩:=ry;exact PySem.W.eq_bytes (aR I q DW)
  |_=>exact absurd (show false=true from hs) IS
 |_=>cases y<;>exact absurd (show false=true from hs) IS
theorem ra:OpR X (compareOp .NotEq) rNe:=by
 intro pins s σ H x y v u Q I rx ry h
 obtain⟨hs,q⟩:=h
 cases x with
 |non =>
  cases rx
  cases y with
  |non=>cases ry;exact PySem.EqNone.ne_none_none (aR I q (by simp))
  |bl j=>cases ry;exact PySem.EqNone.ne_none_bool (aR I q (by simp))
  |int j=>obtain⟨t',rfl⟩:=ry;exact PySem.EqNone.ne_none_int (aR I q (by simp))
  |str j=>obtain⟨t',rfl⟩:=ry;exact PySem.EqNone.ne_none_str (aR I q (by simp))
  |_=>exact absurd (show false=true from hs) IS
 |bl i =>
  cases rx
  cases y with
  |non=>cases ry;exact PySem.EqNone.ne_bool_none (aR I q (by simp))
  |bl j=>cases ry;exact ne_bool (aR I q (congrArg not Gm))
  |str j=>obtain⟨t',rfl⟩:=ry;exact PySem.EqMixed.ne_bool_str (aR I q (by simp))
  |_=>exact absurd (show false=true from hs) IS
 |int i =>
  obtain⟨t,rfl⟩:=rx
  cases y with
  |non=>cases ry;exact PySem.EqNone.ne_int_none (aR I q (by simp))
  |int j=>obtain⟨t',rfl⟩:=ry;exact ne_int (aR I q (congrArg not DV))
  |str j=>obtain⟨t',rfl⟩:=ry;exact PySem.EqMixed.ne_int_str (aR I q (by simp))
  |_=>exact absurd (show false=true from hs) IS
 |str i =>
  obtain⟨t,rfl⟩:=rx
  cases y with
  |non=>cases ry;exact PySem.EqNone.ne_str_none (aR I q (by simp))
  |bl j=>cases ry;exact PySem.EqMixed.ne_str_bool (aR I q (by simp))
  |int j=>obtain⟨t',rfl⟩:=ry;exact PySem.EqMixed.ne_str_int (aR I q (by simp))
  |str j=>obtain⟨t',rfl⟩:=ry;exact ne_str (aR I q (congrArg not DU))
  |_=>exact absurd (show false=true from hs) IS
 |byt i =>
  obtain⟨t,rfl⟩:=rx
  cases y with
  |byt j=>obtain⟨t',rfl⟩:=ry;exact PySem.W.ne_bytes (aR I q (congrArg not DW))
  |_=>exact absurd (show false=true from hs) IS
 |_=>cases y<;>exact absurd (show false=true from hs) IS
theorem E5:OpR X (compareOp .Lt) (rI0 fun i j=>.bl (decide (i<j))):=opB0 fun _ _ _ _ _ _ _ q=>lt_int q
theorem op_le:OpR X (compareOp .LtE) (rI0 fun i j=>.bl (decide (i<=j))):=opB0 fun _ _ _ _ _ _ _ q=>le_int q
theorem CK:OpR X (compareOp .Gt) (rI0 fun i j=>.bl (decide (j<i))):=opB0 fun _ _ _ _ _ _ _ q=>gt_int q
theorem op_ge:OpR X (compareOp .GtE) (rI0 fun i j=>.bl (decide (j<=i))):=opB0 fun _ _ _ _ _ _ _ q=>ge_int q
theorem op_isN:OpR X (compareOp .Is) (fun x y H Q=>y=.non/\Q (.bl (decide (x=.non))) H):=by
 intro pins s σ H x y v u Q I rx ry h
 obtain⟨rfl,q⟩:=h
 cases ry
 refine is_none_gen (aR I q ?_)
 cases x<;>first
  | (cases rx;rfl)
  | (obtain⟨t,rfl⟩:=rx;rfl)
theorem aM(b:Expr){op:CmpOp}(h:op≠.In:=by decide)(h2:op≠.NotIn:=by decide):behindInMarks op b=false:=by
 have e1:(op == CmpOp.In)=false:=by cases op<;>first | rfl | exact absurd rfl h
 have e2:(op == CmpOp.NotIn)=false:=by cases op<;>first | rfl | exact absurd rfl h2
 cases b<;>simp[behindInMarks,e1,e2]
theorem CI{op:CmpOp}{r:R2}(ho:OpR X (compareOp op) r)(ha:PE X a ta)(hb:PE X b tb)(hm:behindInMarks op b=false):PE X (.Compare a [op] [b] pos) (tOp r ta tb):=by
 intro pins s σ H Q I h
 exact wpAny_Compare1 (binT ha hb I h fun v u s2 x y H2 I2 rx ry q=>ho pins s2 σ H2 x y v u Q I2 rx ry q) hm
def tTest(t:TE):TT:=fun σ H Q=>t σ H fun x H'=>∃ k,x=.bl k/\Q k H'
theorem aG{op:CmpOp}{r:R2}(ho:OpR X (compareOp op) r)(ha:PE X a ta)(hb:PE X b tb)(hm:behindInMarks op b=false):PT X (.Compare a [op] [b] pos) (tTest (tOp r ta tb)):=by
 intro pins s σ H Q I h
 refine wpAny_isTrue_Compare1 (thn (ha pins s σ H _ I h) fun v s1 ⟨x,H1,I1,r1,q1⟩=>thn (hb pins s1 σ H1 _ I1 q1) fun u s2 ⟨y,H2,I2,r2,q2⟩ =>
  thn (ho pins s2 σ H2 x y v u _ I2 r1 r2 q2) fun c s3 ⟨z,H3,I3,r3,k,e,q3⟩=>?_) hm
 subst e
 cases r3
 exact wpAny_truthy_bool ⟨H3,I3,q3⟩
theorem z9:(sizeLine:Nat)<2^63:=by rw[sizeLine_eq];decide
theorem tE{x:V}{us:List Value}(r:Vals [x] us):∃ u,us = [u]/\RelV x u:=by
 cases r with
 |cons r1 r2=>cases r2;exact⟨_,rfl,r1⟩
theorem GP{x y:V}{us:List Value}(r:Vals [x,y] us):∃ u w',us = [u,w']/\RelV x u/\RelV y w':=by
 cases r with
 |cons r1 r2 =>
  cases r2 with
  |cons r3 r4=>cases r4;exact⟨_,_,rfl,r1,r3⟩
theorem vI(hc:X.calm=true):j9 X (.builtin "max") (fun xs H Q=>∃ i j,xs = [.int i,.int j]/\Q (.int (if j > i then j else i)) H):=by
 intro pins s σ H xs us Q I r h
 obtain⟨i,j,rfl,q⟩:=h
 obtain⟨u,w',rfl,⟨t,rfl⟩,⟨t',rfl⟩⟩:=GP r
 refine max_two_ints (I.ok.hd hc) fun h' tk k=>⟨_,H,I.kept k,?_,q⟩
 by_cases hj:j > i
 ·rw[if_pos hj,if_pos hj];exact⟨_,rfl⟩
 ·rw[if_neg hj,if_neg hj];exact⟨_,rfl⟩
end
end L2
namespace L2
open PySem PySem.Spec PyProof.Rows
structure ObjM(h:Heap)(x dx C:Addr)(mA:Str->Option Value):Prop where
 obj:h.get? x=some (Ku C dx)
 ns:h.Ns1 dx mA
 ne:dx≠x
theorem Dg{h:Heap}{dx:Addr}{mA:Str->Option Value}(n:h.Ns1 dx mA):∃ od,h.get? dx=some od/\∀ name,LY name od=some (mA name):=by
 obtain⟨o,es,ep,ho,hd,hk,_,hm⟩:=n
 refine⟨o,ho,fun name=>?_⟩
 have e:=hm name
 unfold nsFind findBy at e
 rw[← Array.find?_toList]at e
 unfold LY
 rw[hd]
 dsimp only
 split
 ·rename_i y q
  rw[q]at e
  exact congrArg some e
 ·rename_i q
  rw[q]at e
  have a:es.toList.any (·.refKey)=false:=by
   rw[List.any_eq_false]
   intro y hy
   obtain⟨z,t,hkey⟩:=hk y (Array.mem_toList_iff.mp hy)
   simp[DictEntry.refKey,hkey]
  have a':¬ es.toList.any (·.refKey)=true:=by rw[a];exact IS
  rw[if_neg a']
  exact congrArg some e
theorem ObjM.look{h:Heap}{x dx C:Addr}{mA:Str->Option Value}(I:ObjM h x dx C mA):∃ od,PySem.W.InstAt h x (Ku C dx) C (some od)/\∀ name,LY name od=some (mA name) :=
 let ⟨od,ho,hl⟩:=Dg I.ns
 ⟨od,⟨I.obj,rfl,rfl,ho⟩,hl⟩
section
variable{prog:Program}{w:World}{A:Around}{E:Value->Shared->Prop}{s:Shared}{K:IC}{x dx C f:Addr}{mA:Str->Option Value}{name:Str}{v:Value}
theorem HY{expr:Bool}{Q:Value->Shared->Prop}(X:K.In s.heap)(I:ObjM s.heap x dx C mA)(hg:KN K C name=true)(hh:KZ K C=true)
  (ha:Jj K (.ref C) name=some none) (hv:mA name=some v) (hv':PySem.W.handedIn v=true) (h:Q v { s with toks:=s.toks+1 }) :
  wpAny (model prog w) A (getAttr (.ref x) name expr) Q E s:=by
 obtain⟨od,J,hl⟩:=I.look
 exact PySem.W.get_value X J (L0 hg).1 (PySem.W.findObj_own hh ha rfl (by rw[hl,hv])) hv' h
theorem Fz{pl:Sem Bool}{Q:Value×List Value->Shared->Prop}(X:K.In s.heap)(I:ObjM s.heap x dx C mA)(hg:KN K C name=true)
  (hf:Jj K (.ref C) name=some (some (.ref f))) (ht:KR K (.ref f)=true) (hv:mA name=none) (h:Q (.ref f,[.ref x]) s) :
  wpAny (model prog w) A (getMethod (.ref x) name pl) Q E s:=by
 obtain⟨od,J,hl⟩:=I.look
 exact PySem.W.method_fn X J (L0 hg).1 (L0 hg).2 hf (beq_iff_eq.mp ht) (by show(LY name od).map (·.isSome)=some false;rw[hl,hv];rfl) h
theorem Ha{ns:List Str}{Q:Unit->Shared->Prop}(X:K.In s.heap)(I:ObjM s.heap x dx C mA)
  (hs:Jj K (.ref C) "__setattr__" = some (some (.builtin "object.__setattr__"))) (hp:Lh K C=true) (ht:Mp K C name=some none) (hh:KZ K C=true)
  (hw:PySem.Within mA ns) (hsz:ns.length<=sizeLine)
  (h:∀ h',ObjM h' x dx C (fun y=>if y=name then some v else mA y)->Heap.SameBut dx s.heap h'->Q () { s with heap:=h',toks:=s.toks+2 }) :
  wpAny (model prog w) A (setAttr (.ref x) name v) Q E s:=by
 obtain⟨od,J,hl⟩:=I.look
 refine PySem.W.set_plain X J hs (PySem.W.osa_open (s:={ s with toks:=s.toks+1 }) (r:=none) X J hp ht fun b=>?_)
 obtain⟨cd,hc,hd'⟩:=PySem.W.any_some hh
 have hx:s.heap.get? x=some ⟨.ref C,some dx,.plain,#[]⟩:=I.obj
 refine wpAny_bind (wpAny_pure (wpAny_bind (wpAny_bind (wpAny_loadPart hx (wpAny_bind (PySem.W.Looks.here (s:={ s with toks:=s.toks+1 }) (PySem.W.looks_clsIn X hc) ?_))))))
 rw[hd']
 refine wpAny_pure (a:=some dx) (wpAny_bind (wpAny_pure (wpAny_bind ?_)))
 refine wpAny_nsSet1 (s:={ s with toks:=s.toks+1 }) I.ns fun h' hn2 hs2=>?_
 obtain⟨oD,esD,epD,hoD,hdD,hcD⟩:=hn2.count (PySem.Within.cons name v hw)
 refine wpAny_bind (wpAny_lookBehind hoD (by rw[hdD];exact pastItsLine_dict (JG hcD (by rw[Jm];omega))) ?_)
 exact wpAny_pure (h _ ⟨(hs2.2 _ (Ne.symm I.ne)).trans I.obj,hn2,I.ne⟩ hs2)
theorem Fi{R:Result->Shared->Prop}{vs:List Value}{kw:List (Str×Value)}(X:K.In s.heap)(hm:Lu K C=true)
  (hi:Jj K (.ref C) "__init__" = some (some (.ref f))) (hf:PySem.W.typeIn K (.ref f)=some (.type "function"))
  (h:codeAny (model prog w) (A.under (.builtin "type.__call__" ⟨.ref C::vs,kw⟩)) (.call (.ref f) ⟨.ref (s.heap.objs.size+1)::vs,kw⟩) (PySem.W.InitBack (s.heap.objs.size+1) R)
   { s with heap:=(s.heap.push Ke).push (Ku C s.heap.objs.size) }) :
  codeAny (model prog w) A (.call (.ref C) ⟨vs,kw⟩) R s:=by
 obtain⟨hh,g,d,t,os⟩:=s
 exact PySem.W.make_core (PySem.W.makes_of X hm) (PySem.W.looks_findIn X hi) (fun self=>PySem.W.bind_fn X self hf) (.inl rfl) h
end
def putF(f:Str)(v:V):List (Str×V)->List (Str×V)
 |[]=>[(f,v)]
 | (g,x)::r=>if g=f then(g,v)::r else(g,x)::putF f v r
theorem au(f g:Str)(v:V):∀ fs:List (Str×V),(putF f v fs).lookup g=if g=f then some v else fs.lookup g
 |[]=>by
  show KU g [(f,v)]=_
  by_cases h:g=f
  ·have hb:(g == f)=true:=beq_iff_eq.mpr h
   simp only[KU,hb,if_pos h]
  ·have hb:(g == f)=false:=beq_eq_false_iff_ne.mpr h
   simp only[KU,hb,if_neg h]
 | (k,x)::r=>by
  have ih:=au f g v r
  rw[show putF f v ((k,x)::r)=(if k=f then(k,v)::r else(k,x)::putF f v r) from rfl]
  by_cases hk:k=f
  ·rw[if_pos hk]
   by_cases h:g=k
   ·have hb:(g == k)=true:=beq_iff_eq.mpr h
    simp only[KU,hb,if_pos (h.trans hk)]
   ·have hb:(g == k)=false:=beq_eq_false_iff_ne.mpr h
    simp only[KU,hb,if_neg (fun e:g=f=>h (e.trans hk.symm))]
  ·rw[if_neg hk]
   by_cases h:g=k
   ·have hb:(g == k)=true:=beq_iff_eq.mpr h
    simp only[KU,hb,if_neg (fun e:g=f=>hk (h.symm.trans e))]
   ·have hb:(g == k)=false:=beq_eq_false_iff_ne.mpr h
    simp only[KU,hb]
    exact ih
theorem nR(f:Str)(v:V):∀ fs:List (Str×V),f∈(putF f v fs).map (·.1)/\∀ g,g∈fs.map (·.1)->g∈(putF f v fs).map (·.1)
 |[]=>⟨by simp[putF],fun g h=>by simp at h⟩
 | (k,x)::r=>by
  obtain⟨i1,i2⟩:=nR f v r
  rw[show putF f v ((k,x)::r)=(if k=f then(k,v)::r else(k,x)::putF f v r) from rfl]
  by_cases hk:k=f
  ·rw[if_pos hk]
   subst hk
   exact⟨by simp,fun g h=>by simpa using h⟩
  ·rw[if_neg hk]
   refine⟨?_,fun g h=>?_⟩
   ·rw[Ju]
    exact IV _ i1
   ·rw[Ju]at h ⊢
    rcases IL.mp h with e | e
    ·exact IL.mpr (.inl e)
    ·exact IV _ (i2 g e)
theorem nK(f:Str)(v:V):∀ fs:List (Str×V),(putF f v fs).length<=fs.length+1
 |[]=>by simp[putF]
 | (k,x)::r=>by
  have ih:=nK f v r
  rw[show putF f v ((k,x)::r)=(if k=f then(k,v)::r else(k,x)::putF f v r) from rfl]
  by_cases hk:k=f
  ·rw[if_pos hk,Jm,Jm];omega
  ·rw[if_neg hk,Jm,Jm];omega
theorem RelO.some_of{v:V}{o:Option Value}(r:RelO (some v) o):∃ u,o=some u/\RelV v u:=by
 cases o with
 |none=>exact(show False from r).elim
 |some u=>exact⟨u,rfl,r⟩
theorem RelO.none_of{o:Option Value}(r:RelO none o):o=none:=by
 cases o with
 |none=>rfl
 |some u=>exact(show False from r).elim
theorem DK{v:V}{u:Value}(r:RelV v u):PySem.W.handedIn u=true:=by
 cases v with
 |non=>cases (show u=Value.none from r);rfl
 |bl b=>cases (show u=Value.bool b from r);rfl
 |int i=>obtain⟨t,e⟩:=(show ∃ t,u=Value.int i t from r);cases e;rfl
 |str x=>obtain⟨t,e⟩:=(show ∃ t,u=Value.str x t from r);cases e;rfl
 |byt b=>obtain⟨t,e⟩:=(show ∃ t,u=Value.bytes b t from r);cases e;rfl
 |flt b=>obtain⟨t,e⟩:=(show ∃ t,u=Value.float b t from r);cases e;rfl
 |ref a=>cases (show u=Value.ref a from r);rfl
 |ty n=>cases (show u=Value.type n from r);rfl
section
variable{P:Program}{w:World}{H H':Hp}{h h':Heap}{a C dx:Addr}{fs fs':List (Str×V)}
theorem r6(hok:HOk P w H h)(e:H a=some (.ins C dx fs)):∃ mA,ObjM h a dx C mA/\(∀ f,RelO (fs.lookup f) (mA f))/\PySem.Within mA (fs.map (·.1))/\fs.length<=1000/\H dx=some (.own a):=by
 obtain⟨d,z,ne,ob,mA,n,r,q⟩:=(show aY P w H h a (.ins C dx fs) from hok a _ e)
 exact⟨mA,⟨ob,n,ne⟩,r,q,z,d⟩
end
structure Cls(K:IC)(C:Addr):Prop where
 pg:KN K C Str.empty=true
 hd:KZ K C=true
 po:Lh K C=true
 sa:Jj K (.ref C) "__setattr__" = some (some (.builtin "object.__setattr__"))
theorem Cls.get{K:IC}{C:Addr}(c:Cls K C)(f:Str):KN K C f=true:=c.pg
def eG(K:IC)(C:Addr)(f:Str):Prop:=Jj K (.ref C) f=some none
theorem eG.taker{K:IC}{C:Addr}{f:Str}(n:eG K C f):Mp K C f=some none:=by
 unfold Mp
 rw[show Jj K (.ref C) f=some none from n]
 rfl
structure Meth(K:IC)(C:Addr)(m:Str)(f:Addr):Prop where
 at_:Jj K (.ref C) m=some (some (.ref f))
 fn:KR K (.ref f)=true
 kp:IQ K (.ref f)=true
section
variable{X:Cx}{pins:List (Addr×Obj)}{σ:St}{H:Hp}{s:Shared}{a C dx:Addr}{fs:List (Str×V)}{f:Str}{v:V}{A:Around}{E:Value->Shared->Prop}
theorem Bb{b:Bool}{Q:Value->Shared->Prop}(I:Inv X pins σ H s)(e:H a=some (.ins C dx fs))(c:Cls X.K C)(n:eG X.K C f)(l:fs.lookup f=some v)
  (h:∀ u s',Inv X pins σ H s'->RelV v u->Q u s'):wpAny (model X.prog X.w) A (getAttr (.ref a) f b) Q E s:=by
 obtain⟨mA,O,r,_,_,_⟩:=r6 I.hok e
 obtain⟨u,hu,ru⟩:=RelO.some_of (v:=v) (o:=mA f) (by rw[← l];exact r f)
 exact HY I.kIn O (c.get f) c.hd n hu (DK ru) (h u _ (I.tok _) ru)
theorem p0{m:Str}{g:Addr}{pl:Sem Bool}{Q:Value×List Value->Shared->Prop}(I:Inv X pins σ H s)(e:H a=some (.ins C dx fs))(c:Cls X.K C)(k:Meth X.K C m g)(l:fs.lookup m=none)
  (h:Q (.ref g,[.ref a]) s):wpAny (model X.prog X.w) A (getMethod (.ref a) m pl) Q E s:=by
 obtain⟨mA,O,r,_,_,_⟩:=r6 I.hok e
 have hn:mA m=none:=RelO.none_of (by rw[← l];exact r m)
 exact Fz I.kIn O (c.get m) k.at_ k.fn hn h
theorem Ax{y:V}{u:Value}{Q:Unit->Shared->Prop}(I:Inv X pins σ H s)(e:H a=some (.ins C dx fs))(c:Cls X.K C)(n:eG X.K C f)(hl:fs.length<1000)(ry:RelV y u)
  (h:∀ s',Inv X pins σ (upd H a (.ins C dx (putF f y fs))) s'->Q () s'):wpAny (model X.prog X.w) A (setAttr (.ref a) f u) Q E s:=by
 obtain⟨mA,O,r,wi,_,ho⟩:=r6 I.hok e
 have hz:(fs.map (·.1)).length<=sizeLine:=by rw[IJ,sizeLine_eq];omega
 refine Ha I.kIn O c.sa c.po n.taker c.hd wi hz fun h' O' sb=>h _ ?_
 have hd:∃ o,h'.get? dx=some o:=let ⟨o,_,_,e',_⟩:=O'.ns;⟨o,e'⟩
 refine I.write (x:=a) (e:=dx) (by rw[e];exact True.intro) (.inr ho) (fun b q hb z=>(sb.2 b hb).trans z) hd ?_
 refine⟨by rw[ai O.ne];exact ho,?_,O.ne,O'.obj,_,O'.ns,fun g=>?_,fun g hg=>?_⟩
 ·have:=nK f y fs;omega
 ·show RelO ((putF f y fs).lookup g) (if g=f then some u else mA g)
  rw[au]
  by_cases q:g=f
  ·rw[if_pos q,if_pos q];exact ry
  ·rw[if_neg q,if_neg q];exact r g
 ·by_cases q:g=f
  ·rw[q];exact(nR f y fs).1
  ·refine(nR f y fs).2 g (wi g fun z=>hg ?_)
   show(if g=f then some u else mA g)=none
   rw[if_neg q];exact z
theorem Inv.made(I:Inv X pins σ H s):Inv X pins σ (upd (upd H s.heap.objs.size (.own (s.heap.objs.size+1))) (s.heap.objs.size+1) (.ins C s.heap.objs.size []))
  { s with heap:=(s.heap.push Ke).push (Ku C s.heap.objs.size) }:=by
 have e1:(s.heap.push Ke).get? s.heap.objs.size=some Ke:=Heap.get?_push_size s.heap rfl
 have e2:((s.heap.push Ke).push (Ku C s.heap.objs.size)).get? (s.heap.objs.size+1)=some (Ku C s.heap.objs.size):=by
  have:=Heap.get?_push_size (s.heap.push Ke) (o:=Ku C s.heap.objs.size) rfl
  rwa[Heap.size_push]at this
 have e3:(s.heap.push Ke).Ns s.heap.objs.size (fun _=>none):=⟨Ke,#[],_,e1,rfl,(fun e he=>absurd he (by simp)),fun _=>rfl⟩
 have I1:=I.laid (a:=s.heap.objs.size) (o:=.own (s.heap.objs.size+1)) (h':=s.heap.push Ke) (t':=s.toks) (fun b u q=>Heap.get?_push_of_some _ q) (IG _) ⟨_,e1⟩
 refine I1.laid (a:=s.heap.objs.size+1) (o:=.ins C s.heap.objs.size []) (t':=s.toks) (fun b u q=>Heap.get?_push_of_some _ q) (Nat.le_of_eq (Heap.size_push _ _)) ?_
 have ne:s.heap.objs.size≠s.heap.objs.size+1:=Jf (Kj _)
 refine⟨by rw[ai ne,ae],JL _,ne,e2,fun _=>none,(Heap.Ns1.of_empty e3).at fun o q=>Heap.get?_push_of_some _ q,fun _=>True.intro,fun y hy=>absurd rfl hy⟩
theorem Iw{prog:Program}{w:World}{env:Env}{e:Expr}{f:Str}{pos:Pos}{s:Shared}{Q:Value->Shared->Prop}(hb:attributeBase e f env (eval e env)=eval e env)
  (h:wpAny (model prog w) A (eval e env) (fun o s₁=>wpAny (model prog w) A (getAttr o f true) Q E s₁) E s):wpAny (model prog w) A (eval (.Attribute e f pos) env) Q E s :=
 Attribute_any_ h (by rw[arm_eval_Attribute,hb])
end
def tFld(K:IC)(ta:TE)(f:Str):TE:=fun σ H Q=>ta σ H fun x H1=>∃ a C dx fs v,x=.ref a/\H1 a=some (.ins C dx fs)/\Cls K C/\eG K C f/\fs.lookup f=some v/\Q v H1
def sFld(K:IC)(ta tv:TE)(f:Str):TS:=fun D σ H=>tv σ H fun y H1=>ta σ H1 fun x H2=>∃ a C dx fs,x=.ref a/\H2 a=some (.ins C dx fs)/\Cls K C/\eG K C f/\fs.length<1000 /\
 D.nx σ (upd H2 a (.ins C dx (putF f y fs)))
section
variable{X:Cx}{o e value:Expr}{f:Str}{pos pos' tpos:Pos}{ta tv:TE}
theorem b5(he:PE X e ta)(hb:attributeBase e f X.env (eval e X.env)=eval e X.env):PE X (.Attribute e f pos) (tFld X.K ta f):=by
 intro pins s σ H Q I h
 refine Iw hb (thn (he pins s σ H _ I h) fun u s1 ⟨x,H1,I1,rx,a,C,dx,fs,v,ex,ea,c,n,l,q⟩=>?_)
 subst ex
 obtain rfl:u=Value.ref a:=rx
 exact Bb I1 ea c n l fun u' s2 I2 ru=>⟨v,H1,I2,ru,q⟩
theorem lC(ha:PE X o ta)(hv:PE X value tv)(hs:swapsWith value (some (.Attribute o f pos')) pos.line X.env=pure false):PS X (.Assign [.Attribute o f pos'] value pos) (sFld X.K ta tv f):=by
 intro pins s σ H D I h
 refine plainObj_wpAny_Assign_Attribute (thn (hv pins s σ H _ I h) fun u s1 ⟨y,H1,I1,ry,q⟩=>thn (ha pins s1 σ H1 _ I1 q) fun ov s2 ⟨x,H2,I2,rx,a,C,dx,fs,ex,ea,c,n,l,q2⟩=>?_) hs
 subst ex
 obtain rfl:ov=Value.ref a:=rx
 exact Ax I2 ea c n l ry fun s3 I3=>⟨σ,_,I3,q2⟩
end
section
variable{X:Cx}{pins:List (Addr×Obj)}{σ:St}{H:Hp}{s:Shared}{A:Around}{E:Value->Shared->Prop}{Q:Value->Shared->Prop}{c:Value}{b:Bool}
inductive TyOf(K:IC)(H:Hp):V->Value->Prop where
 |non:TyOf K H .non (.type "NoneType")
 |bl (x:Bool):TyOf K H (.bl x) (.type "bool")
 |int (i:Int):TyOf K H (.int i) (.type "int")
 |str (x:Str):TyOf K H (.str x) (.type "str")
 |flt (x:UInt64):TyOf K H (.flt x) (.type "float")
 |lst {a:Addr} {xs:List V} (e:H a=some (.lst xs)):TyOf K H (.ref a) (.type "list")
 |frz {a:Addr} {o:Obj} {xs:List V} (e:H a=some (.frz o (.lst xs))):TyOf K H (.ref a) (.type "list")
 |tup {a:Addr} {xs:List V} (e:H a=some (.tup xs)):TyOf K H (.ref a) (.type "tuple")
 |dK {a:Addr} {kvs:List (Key×V)} (e:H a=some (.dK kvs)):TyOf K H (.ref a) (.type "dict")
 |dT {a:Addr} {kvs:List (List Key×V)} (e:H a=some (.dT kvs)):TyOf K H (.ref a) (.type "dict")
 |ins {a C dx:Addr} {fs:List (Str×V)} (e:H a=some (.ins C dx fs)) (cl:Cls K C) (ha:Jj K (.ref C) "__class__" = some (some (.builtin "object.__class__")))
   (hn:PySem.W.specialIn K (.builtin "object.__class__") "__get__" = some (some (.builtin "getset_descriptor.__get__"))) (htk:PySem.W.takesIn K (.builtin "object.__class__")=some true)
   (hm:KG K C (.type "object")=some true):TyOf K H (.ref a) (.ref C)
theorem Dx{x:V}{u t:Value}(I:Inv X pins σ H s)(rx:RelV x u)(ty:TyOf X.K H x t)(e:Lj X.K t c=some b)(h:∀ tk,Q (.bool b) { s with toks:=tk }) :
  wpAny (model X.prog X.w) A (call (.builtin "isinstance") [u,c]) Q E s:=by
 cases ty with
 |non=>cases (show u=Value.none from rx);exact Kb PySem.W.kitx_none I.kIn True.intro e (fun z=>nomatch z) h
 |bl y=>cases (show u=Value.bool y from rx);exact Kb PySem.W.kitx_bool I.kIn True.intro e (fun z=>nomatch z) h
 |int i=>obtain⟨t,q⟩:=(show ∃ t,u=Value.int i t from rx);cases q;exact Kb PySem.W.kitx_int I.kIn True.intro e (fun z=>nomatch z) h
 |str y=>obtain⟨t,q⟩:=(show ∃ t,u=Value.str y t from rx);cases q;exact Kb PySem.W.kitx_str I.kIn True.intro e (fun z=>nomatch z) h
 |flt y=>obtain⟨t,q⟩:=(show ∃ t,u=Value.float y t from rx);cases q;exact Kb PySem.W.kitx_float I.kIn True.intro e (fun z=>nomatch z) h
 | @lst a xs ea =>
  cases (show u=Value.ref a from rx)
  obtain⟨_,_,n,_,h1⟩:=(show aY X.prog X.w H s.heap a (.lst xs) from I.hok a _ ea)
  exact Kb PySem.W.kitx_list I.kIn ⟨_,h1,rfl⟩ e (fun z=>nomatch z) h
 | @frz a ob xs ea =>
  cases (show u=Value.ref a from rx)
  obtain⟨_,_,_,n,_,h1⟩:=(show aY X.prog X.w H s.heap a (.frz ob (.lst xs)) from I.hok a _ ea)
  exact Kb PySem.W.kitx_list I.kIn ⟨_,h1,rfl⟩ e (fun z=>nomatch z) h
 | @tup a xs ea =>
  cases (show u=Value.ref a from rx)
  obtain⟨_,_,_,p⟩:=(show aY X.prog X.w H s.heap a (.tup xs) from I.hok a _ ea)
  obtain⟨o,h1,h2,_⟩:=p
  exact Kb PySem.W.kitx_tuple I.kIn ⟨o,h1,h2⟩ e (fun z=>nomatch z) h
 | @dK a kvs ea =>
  cases (show u=Value.ref a from rx)
  obtain⟨_,_,vs,_,p⟩:=(show aY X.prog X.w H s.heap a (.dK kvs) from I.hok a _ ea)
  obtain⟨o,es,ep,h1,h2,_⟩:=p
  exact Kb PySem.W.kitx_dict I.kIn ⟨o,h1,h2.1⟩ e (fun z=>nomatch z) h
 | @dT a kvs ea =>
  cases (show u=Value.ref a from rx)
  obtain⟨_,_,xs,_,o,es,ep,h1,h2,_⟩:=(show aY X.prog X.w H s.heap a (.dT kvs) from I.hok a _ ea)
  exact Kb PySem.W.kitx_dict I.kIn ⟨o,h1,h2.1⟩ e (fun z=>nomatch z) h
 | @ins a C dx fs ea cl ha hn htk hm =>
  cases (show u=Value.ref a from rx)
  obtain⟨mA,O,_⟩:=r6 I.hok ea
  obtain⟨od,J,_⟩:=O.look
  exact Kb (PySem.W.kitx_own (cl.get _) cl.hd ha hn htk hm) I.kIn J e (fun z=>nomatch z) h
end
end L2
namespace L2
open PySem PySem.Spec PyProof.Rows
structure Room(k:Nat)(A:Around):Prop where
 hd:A.handled=none
 dp:A.depth+3*k+5<recursionLimit
 un:A.units+16*k+200<cLine
theorem Room.mono{j k:Nat}{A:Around}(r:Room k A)(h:j<=k):Room j A:=⟨r.hd,by have:=r.dp;omega,by have:=r.un;omega⟩
theorem Room.deeper{k:Nat}{A:Around}(r:Room (k+1) A)(env:Env):Room k (A.deeper env) :=
 ⟨r.hd,by have:=r.dp;show A.depth+1+3*k+5<_;omega,by have:=r.un;show A.units+3+16*k+200<_;omega⟩
theorem AR{A:Around}{C:Addr}{us:List Value}{kw:List (Str×Value)}:(A.under (.builtin "type.__call__" ⟨.ref C::us,kw⟩)).depth=A.depth+1:=by
 first | rfl | simp[Around.under,Code.weight,Code.isCreation,Code.isGuard,Code.isCaller,Code.frames,Code.isFrame,guardIds]
theorem AQ{A:Around}{C:Addr}{us:List Value}{kw:List (Str×Value)}:(A.under (.builtin "type.__call__" ⟨.ref C::us,kw⟩)).units=A.units+1:=by
 first | rfl | simp[Around.under,Code.cUnits,Code.frames,Code.isFrame]
theorem Room.make{k:Nat}{A:Around}(r:Room (k+1) A)(C:Addr)(us:List Value)(kw:List (Str×Value)):Room k (A.under (.builtin "type.__call__" ⟨.ref C::us,kw⟩)) :=
 ⟨r.hd,by have:=r.dp;rw[AR];omega,by have:=r.un;rw[AQ];omega⟩
theorem Room.depth{k:Nat}{A:Around}(r:Room k A):A.depth<recursionLimit:=by have:=r.dp;omega
theorem Room.units{k:Nat}{A:Around}(r:Room k A):A.units+64<cLine:=by have:=r.un;omega
def tNil:TA:=fun _ H Q=>Q [] H
def tCons(ta:TE)(tr:TA):TA:=fun σ H Q=>ta σ H fun x H1=>tr σ H1 fun xs H2=>Q (x::xs) H2
section
variable{X:Cx}{e:Expr}{es:List Expr}{te:TE}{t:TA}{pos:Pos}
theorem ak:PA X [] tNil:=fun _ _ _ _ H Q I h=>Calls.spliced_nil ⟨[],H,I,.nil,h⟩
theorem aa(ha:PE X e te)(hr:PA X es t)(hs:starEach (e::es) X.env=(false,eval e X.env)::starEach es X.env:=by rfl):PA X (e::es) (tCons te t):=by
 intro pos pins s σ H Q I h
 rw[hs]
 show wpAny _ _ (spliced ((false,eval e X.env)::backTo pos (starEach es X.env))) _ _ s
 refine Calls.spliced_cons (thn (ha pins s σ H _ I h) fun u s1 ⟨x,H1,I1,r1,q1⟩=>?_)
 exact thn (hr pos pins s1 σ H1 _ I1 q1) fun us s2 ⟨xs,H2,I2,r2,q2⟩=>⟨x::xs,H2,I2,.cons r1 r2,q2⟩
def tTup(t:TA):TE:=fun σ H Q=>t σ H fun xs H1=>xs.length<=sizeLine/\∀ p,H1 p=none->Q (.ref p) (upd H1 p (.tup xs))
def tLst(t:TA):TE:=fun σ H Q=>t σ H fun xs H1=>xs.length<=sizeLine/\∀ p,H1 p=none->Q (.ref p) (upd H1 p (.lst xs))
theorem uk{x1}(h:PA X es t):PE X (.Tuple es x1 pos) (tTup t):=by
 intro pins s σ H Q I hq
 refine wpAny_Tuple_spliced (thn (h pos pins s σ H _ I hq) fun us s1 ⟨xs,H1,I1,r,z,q⟩=>⟨by rw[← r.length];exact z,?_⟩)
 have hf:H1 s1.heap.objs.size=none:=I1.hok.fresh (IG _)
 refine⟨.ref s1.heap.objs.size,upd H1 s1.heap.objs.size (.tup xs),I1.laid (t':=s1.toks) (fun b u e=>Heap.get?_push_of_some _ e) (IG _) ?_,rfl,q _ hf⟩
 exact⟨z,us,r,⟨_,Heap.get?_push_size _ rfl,rfl,_,rfl⟩⟩
theorem eS(h:PA X es t):PE X (.List es pos) (tLst t):=by
 intro pins s σ H Q I hq
 refine wpAny_List_spliced (thn (h pos pins s σ H _ I hq) fun us s1 ⟨xs,H1,I1,r,z,q⟩=>⟨by rw[← r.length];exact z,?_⟩)
 have hf:H1 s1.heap.objs.size=none:=I1.hok.fresh (IG _)
 refine⟨.ref s1.heap.objs.size,upd H1 s1.heap.objs.size (.lst xs),I1.laid (t':=s1.toks) (fun b u e=>Heap.get?_push_of_some _ e) (IG _) ?_,rfl,q _ hf⟩
 exact⟨z,us,0,r,Heap.get?_push_size _ rfl⟩
end
abbrev Sp:=List V->Hp->VK->XK->Prop
abbrev CXT:=List Env->Hp->Shared->XK->Value->Shared->Prop
structure Env0(P:Program)(w:World)(K:IC)(mg:Str->Option Value)(base:Heap)(A:Around)(outer:List Env)(s:Shared)(H:Hp):Prop where
 frames:A.frames=some outer
 mod:Mod K mg base
 bs:∀ b o,base.get? b=some o->s.heap.get? b=some o/\H b=none
 bsz:base.objs.size<=s.heap.objs.size
 funs:s.heap.FunFrames base outer
 frf:∀ b∈frs outer,H b=none
 hok:HOk P w H s.heap
 bare:AllBare s.gens
def CE(outer:List Env)(P:Program)(w:World)(H:Hp)(s:Shared)(Q:VK)(u:Value)(s':Shared):Prop :=
 ∃ v H',s'.os=s.os/\AllBare s'.gens/\Un (frs outer) [] H H' s.heap s'.heap/\HOk P w H' s'.heap/\RelV v u/\Q v H'
def CR(CX:CXT)(outer:List Env)(P:Program)(w:World)(H:Hp)(s:Shared)(Q:VK)(E:XK)(r:Result)(s':Shared):Prop :=
 match r with
 |.ok (.ret u)=>CE outer P w H s Q u s'
 |.ok _=>False
 |.error e=>CX outer H s E e s'
structure FnOk(P:Program)(w:World)(K:IC)(mg:Str->Option Value)(base:Heap)(CX:CXT)(k:Nat)(f:Addr)(fd:FuncData)(ps:List Str)(sp:Sp):Prop where
 len:∀ vs H Q E,sp vs H Q E->vs.length=ps.length
 run:∀(A:Around)(outer:List Env)(s:Shared)(H:Hp)(args:Args)(us:List Value)(vs:List V)(Q:VK)(E:XK),Room k A->Env0 P w K mg base A outer s H->BindsTo s fd args (ps.zip us)->Vals vs us->sp vs H Q E ->
  codeAny (model P w) A (.call (.ref f) args) (CR CX outer P w H s Q E) s
theorem Env0.make{P:Program}{w:World}{K:IC}{mg:Str->Option Value}{base:Heap}{A:Around}{outer:List Env}{s:Shared}{H:Hp}(e:Env0 P w K mg base A outer s H)(C:Addr)(us:List Value)(kw:List (Str×Value)) :
  Env0 P w K mg base (A.under (.builtin "type.__call__" ⟨.ref C::us,kw⟩)) outer s H:=⟨by first | exact e.frames | (simpa[Around.under,Code.envs,Code.isFrame,pushEnvs] using e.frames),e.mod,e.bs,e.bsz,e.funs,e.frf,e.hok,e.bare⟩
section
variable{X:Cx}{pins:List (Addr×Obj)}{σ:St}{H:Hp}{s s':Shared}
theorem Inv.env0(I:Inv X pins σ H s):Env0 X.prog X.w X.K X.mg X.base X.A X.stack s H :=
 ⟨I.ok.frames,I.ok.mod,I.bs,JG I.ok.bsz I.sz,I.stack,I.stkFree,I.hok,I.bare⟩
theorem Inv.after{Q:VK}{u:Value}(I:Inv X pins σ H s)(h:CE X.stack X.prog X.w H s Q u s'):EP X pins σ Q u s':=by
 obtain⟨v,H',os,bare,un,hok,r,q⟩:=h
 obtain⟨hh,g,d,t,os'⟩:=s'
 obtain rfl:os'=s.os:=os
 exact⟨v,H',I.call (h':=hh) (g':=g) (d':=d) (t':=t) (ch:=[]) un hok bare (fun b z=>absurd z (by simp)),r,q⟩
end
def tCall(sp:Sp)(dvs:List V)(E:XK)(t:TA):TE:=fun σ H Q=>t σ H fun vs H1=>sp (vs++dvs) H1 Q E
def tMeth(C:Addr)(m:Str)(sp:Sp)(dvs:List V)(E:XK)(ta:TE)(t:TA):TE:=fun σ H Q=>ta σ H fun x H1=>∃ a dx fs,x=.ref a/\H1 a=some (.ins C dx fs)/\fs.lookup m=none /\
 t σ H1 fun vs H2=>sp (x::(vs++dvs)) H2 Q E
def tMake(C:Addr)(sp:Sp)(dvs:List V)(E:XK)(t:TA):TE:=fun σ H Q=>t σ H fun vs H1=>∀ x dx,H1 x=none->H1 dx=none->dx≠x ->
 sp (.ref x::(vs++dvs)) (upd (upd H1 dx (.own x)) x (.ins C dx [])) (fun v H2=>v=.non/\Q (.ref x) H2) E
def fZ(K:IC)(fd:FuncData)(ps:List Str)(ds:List Value):Prop :=
 ∀(s:Shared)(us:List Value),K.In s.heap->(us++ds).length=ps.length->BindsTo s fd ⟨us,[]⟩ (ps.zip (us++ds))
theorem fZ.all{K:IC}{fd:FuncData}{ps:List Str}(h:∀ us:List Value,us.length=ps.length->bindArgs fd ⟨us,[]⟩=pure (ps.zip us)):fZ K fd ps []:=fun s us _ hl=>by
 rw[Kz]at hl ⊢
 exact .of_eq (h us hl)
def lN(CX:CXT)(X:Cx)(E:XK):Prop:=∀(pins:List (Addr×Obj))(σ:St)(H:Hp)(s:Shared)(e:Value)(s':Shared),Inv X pins σ H s->CX X.stack H s E e s'->X.xe e s'
section
variable{X:Cx}{CX:CXT}{k:Nat}{f C:Addr}{fd:FuncData}{ps:List Str}{sp:Sp}{dvs:List V}{ds:List Value}{E:XK}{x m:Str}{p pos apos:Pos}{e o:Expr}{es:List Expr}{ta:TE}{t:TA}
theorem Cg{pins:List (Addr×Obj)}{σ:St}{H:Hp}{s:Shared}{Q:VK}{us:List Value}{vs:List V}(F:FnOk X.prog X.w X.K X.mg X.base CX k f fd ps sp)(hr:Room k X.A)(hb:fZ X.K fd ps ds)(hd:Vals dvs ds)(hx:lN CX X E)
  (I:Inv X pins σ H s) (r:Vals vs us) (h:sp (vs++dvs) H Q E):wpAny (model X.prog X.w) X.A (call (.ref f) us) (EP X pins σ Q) X.xe s:=by
 have r2:Vals (vs++dvs) (us++ds):=r.append hd
 have hl:(us++ds).length=ps.length:=by rw[← r2.length];exact F.len _ _ _ _ h
 refine wpAny_call (codeAny_mono (F.run X.A X.stack s H ⟨us,[]⟩ (us++ds) (vs++dvs) Q E hr I.env0 (hb s us I.kIn hl) r2 h) fun r s' hq=>?_)
 cases r with
 |error e=>exact hx pins σ H s e s' I hq
 |ok fl =>
  cases fl with
  |ret u=>exact I.after hq
  |next=>exact False.elim hq
  |brk=>exact False.elim hq
  |cont=>exact False.elim hq
theorem aI(F:FnOk X.prog X.w X.K X.mg X.base CX k f fd ps sp)(hr:Room k X.A)(hg:Gl X x)(hm:X.mg x=some (.ref f))(hk:IQ X.K (.ref f)=true)(hb:fZ X.K fd ps ds)(hd:Vals dvs ds)(hx:lN CX X E)
  (ha:PA X (e::es) t) (hdb:(x == ("__debug__" : Str))=false:=by decide) (he:starEach (e::es) X.env=(false,eval e X.env)::starEach es X.env:=by rfl) (hpl:(backTo pos (starEach es X.env)).any (·.1)=false:=by rfl) :
  PE X (.Call (.Name x p) (e::es) [] pos) (tCall sp dvs E t):=by
 intro pins s σ H Q I h
 refine wpAny_Call_Name_kw (kq I hg hm ?_ hdb)
 refine Lc (h₀:=X.base) I.ok.mod.kin hk (thn (ha pos pins s σ H _ I h) fun us s1 ⟨vs,H1,I1,r,q⟩=>⟨I1.kIn,?_⟩) he hpl
 exact Cg F hr hb hd hx I1 r q
theorem xB{pl:Sem Bool}(he:PE X o ta)(c:Cls X.K C)(hm:Meth X.K C m f)(F:FnOk X.prog X.w X.K X.mg X.base CX k f fd ps sp)(hr:Room k X.A)(hb:fZ X.K fd ps ds)(hd:Vals dvs ds)(hx:lN CX X E)(ha:PA X (e::es) t)
  (hst:starEach (e::es) X.env=(false,eval e X.env)::starEach es X.env:=by rfl) (hpl:(backTo pos (starEach es X.env)).any (·.1)=false:=by rfl)
  (ht:eval (.Call (.Attribute o m apos) (e::es) [] pos) X.env=(do
   let ov ← eval o X.env
   standAt apos.atName
   let (f,first) ← holding [ov] (getMethod ov m pl)
   callWith pos f first (backTo pos (starEach (e::es) X.env)) (backToKw pos (keywordEach [] X.env))):=by rfl) :
  PE X (.Call (.Attribute o m apos) (e::es) [] pos) (tMeth C m sp dvs E ta t):=by
 intro pins s σ H Q I h
 refine PySem.W.methodCall_KW (pl:=pl) (thn (he pins s σ H _ I h) fun u s1 ⟨x,H1,I1,rx,a,dx,fs,ex,ea,l,q⟩=>?_) ht
 subst ex
 obtain rfl:u=Value.ref a:=rx
 refine p0 I1 ea c hm l ?_
 refine Lc (first:=[.ref a]) (h₀:=X.base) I.ok.mod.kin hm.kp (thn (ha pos pins s1 σ H1 _ I1 q) fun us s2 ⟨vs,H2,I2,r,q2⟩=>⟨I2.kIn,?_⟩) hst hpl
 exact Cg (us:=.ref a::us) (vs:=.ref a::vs) F hr hb hd hx I2 (.cons rfl r) q2
theorem E1{pl:Sem Bool}(he:PE X o ta)(c:Cls X.K C)(hm:Meth X.K C m f)(F:FnOk X.prog X.w X.K X.mg X.base CX k f fd ps sp)(hr:Room k X.A)(hb:fZ X.K fd ps ds)(hd:Vals dvs ds)(hx:lN CX X E)
  (ht:eval (.Call (.Attribute o m apos) [] [] pos) X.env=(do
   let ov ← eval o X.env
   standAt apos.atName
   let (f,first) ← holding [ov] (getMethod ov m pl)
   callWith pos f first (backTo pos (starEach [] X.env)) (backToKw pos (keywordEach [] X.env))):=by rfl) :
  PE X (.Call (.Attribute o m apos) [] [] pos) (tMeth C m sp dvs E ta tNil):=by
 intro pins s σ H Q I h
 refine PySem.W.methodCall_KW (pl:=pl) (thn (he pins s σ H _ I h) fun u s1 ⟨x,H1,I1,rx,a,dx,fs,ex,ea,l,q⟩=>?_) ht
 subst ex
 obtain rfl:u=Value.ref a:=rx
 refine p0 I1 ea c hm l ?_
 exact PySem.W.callWith_K0 (first:=[.ref a]) I1.kIn hm.kp (Cg (us:=[.ref a]) (vs:=[.ref a]) F hr hb hd hx I1 (.cons rfl .nil) q)
structure Mk(K:IC)(C f:Addr):Prop where
 makes:Lu K C=true
 init:Jj K (.ref C) "__init__" = some (some (.ref f))
 fn:KR K (.ref f)=true
 kp:IQ K (.ref C)=true
theorem ET{pins:List (Addr×Obj)}{σ:St}{H:Hp}{s:Shared}{Q:VK}{us:List Value}{vs:List V}(M:Mk X.K C f)(F:FnOk X.prog X.w X.K X.mg X.base CX k f fd ps sp)(hr:Room (k+1) X.A)(hb:fZ X.K fd ps ds)(hd:Vals dvs ds)
  (hx:lN CX X E) (I:Inv X pins σ H s) (r:Vals vs us)
  (h:∀ x dx,H x=none->H dx=none->dx≠x->sp (.ref x::(vs++dvs)) (upd (upd H dx (.own x)) x (.ins C dx [])) (fun v H2=>v=.non/\Q (.ref x) H2) E) :
  wpAny (model X.prog X.w) X.A (call (.ref C) us) (EP X pins σ Q) X.xe s:=by
 have hq:=h (s.heap.objs.size+1) s.heap.objs.size (I.hok.fresh (La _)) (I.hok.fresh (IG _)) (Jf (Kj _))
 have I2:=Inv.made (C:=C) I
 have r2:Vals (V.ref (s.heap.objs.size+1)::(vs++dvs)) (Value.ref (s.heap.objs.size+1)::(us++ds)):=.cons rfl (r.append hd)
 have hl:(Value.ref (s.heap.objs.size+1)::us++ds).length=ps.length:=by
  have e:=r2.length
  rw[F.len _ _ _ _ hq]at e
  exact e.symm
 refine wpAny_call (Fi (f:=f) I.kIn M.makes M.init (beq_iff_eq.mp M.fn) (codeAny_mono (F.run _ X.stack _ _ ⟨Value.ref (s.heap.objs.size+1)::us,[]⟩ (Value.ref (s.heap.objs.size+1)::(us++ds)) _ _ E (hr.make C us [])
  (I2.env0.make C us []) (hb _ (Value.ref (s.heap.objs.size+1)::us) I2.kIn hl) r2 hq) fun r s' hq'=>?_))
 cases r with
 |error e=>exact hx pins σ _ _ e s' I2 hq'
 |ok fl =>
  cases fl with
  |ret u =>
   obtain⟨v,H',I3,rv,ev,q3⟩:=I2.after hq'
   subst ev
   exact⟨rv,⟨V.ref (s.heap.objs.size+1),H',I3,rfl,q3⟩⟩
  |next=>exact False.elim hq'
  |brk=>exact False.elim hq'
  |cont=>exact False.elim hq'
theorem xC(M:Mk X.K C f)(F:FnOk X.prog X.w X.K X.mg X.base CX k f fd ps sp)(hr:Room (k+1) X.A)(hg:Gl X x)(hm:X.mg x=some (.ref C))(hb:fZ X.K fd ps ds)(hd:Vals dvs ds)(hx:lN CX X E)
  (ha:PA X (e::es) t) (hdb:(x == ("__debug__" : Str))=false:=by decide) (he:starEach (e::es) X.env=(false,eval e X.env)::starEach es X.env:=by rfl) (hpl:(backTo pos (starEach es X.env)).any (·.1)=false:=by rfl) :
  PE X (.Call (.Name x p) (e::es) [] pos) (tMake C sp dvs E t):=by
 intro pins s σ H Q I h
 refine wpAny_Call_Name_kw (kq I hg hm ?_ hdb)
 refine Lc (h₀:=X.base) I.ok.mod.kin M.kp (thn (ha pos pins s σ H _ I h) fun us s1 ⟨vs,H1,I1,r,q⟩=>⟨I1.kIn,?_⟩) he hpl
 exact ET M F hr hb hd hx I1 r q
end
section
variable{X:Cx}{CX:CXT}{k:Nat}{f C:Addr}{fd:FuncData}{ps ks:List Str}{sp:Sp}{E:XK}{x m:Str}{p pos apos kpos:Pos}{e o:Expr}{es:List Expr}{kws:List Keyword}{te ta:TE}{t tk:TA}{nm:Option Str}
variable{g:List Value->List Value->List Value}{gV:List V->List V->List V}
end
structure aC(N P:List Str)(sc:Scope):Prop where
 kind:sc.kind=.function
 co:sc.isCoroutine=false
 gen:sc.isGenerator=false
 nd:N.Nodup
 pre:N.take P.length=P
 par:∀ x∈P,sc.names.lookup x=some .local∨sc.names.lookup x=some .cell
 nofree:∀ y∈sc.names,y.2≠.free
theorem vL{kindOf:Str->Option NameKind}{x:Str}:∀{binds:List (Str×Value)}{m:Str->Option Value},(∀ v,(x,v)∉binds)->bindL kindOf binds m x=m x
 |[],_,_=>rfl
 | (n,v)::r,m,h=>by
  unfold bindL
  rw[vL fun w hw=>h w (IV _ hw)]
  split
  ·have:x≠n:=by rintro rfl;exact h v Jc
   simp[this]
  ·rfl
theorem vN{kindOf:Str->Option NameKind}{x:Str}:∀{binds:List (Str×Value)}{m:Str->Option Value},(∀ v,(x,v)∉binds)->bindC kindOf binds m x=m x
 |[],_,_=>rfl
 | (n,v)::r,m,h=>by
  unfold bindC
  rw[vN fun w hw=>h w (IV _ hw)]
  split
  ·rfl
  ·have:x≠n:=by rintro rfl;exact h v Jc
   simp[this]
theorem vM{kindOf:Str->Option NameKind}{x:Str}{v:Value}:∀{P:List Str}{vs:List Value}{i:Nat}{m:Str->Option Value},P.Nodup->P[i]?=some x->vs[i]?=some v->kindOf x=some .local ->
  bindL kindOf (P.zip vs) m x=some v
 |[],_,_,_,_,h,_,_=>by simp at h
 |_::_,[],_,_,_,_,h,_=>by simp at h
 |p::P,w::vs,0,m,nd,h1,h2,hk=>by
  simp at h1 h2;subst h1;subst h2
  show bindL kindOf ((p,w)::P.zip vs) m p=_
  unfold bindL
  rw[vL fun v hv=>(JD.mp nd).1 (LU hv).1,if_pos hk]
  simp
 |p::P,w::vs,i+1,m,nd,h1,h2,hk=>by
  show bindL kindOf ((p,w)::P.zip vs) m x=_
  unfold bindL
  exact vM (i:=i) (JD.mp nd).2 (by simpa using h1) (by simpa using h2) hk
theorem vO{kindOf:Str->Option NameKind}{x:Str}{v:Value}:∀{P:List Str}{vs:List Value}{i:Nat}{m:Str->Option Value},P.Nodup->P[i]?=some x->vs[i]?=some v->kindOf x≠some .local ->
  bindC kindOf (P.zip vs) m x=some v
 |[],_,_,_,_,h,_,_=>by simp at h
 |_::_,[],_,_,_,_,h,_=>by simp at h
 |p::P,w::vs,0,m,nd,h1,h2,hk=>by
  simp at h1 h2;subst h1;subst h2
  show bindC kindOf ((p,w)::P.zip vs) m p=_
  unfold bindC
  rw[vN fun v hv=>(JD.mp nd).1 (LU hv).1,if_neg hk]
  simp
 |p::P,w::vs,i+1,m,nd,h1,h2,hk=>by
  show bindC kindOf ((p,w)::P.zip vs) m x=_
  unfold bindC
  exact vO (i:=i) (JD.mp nd).2 (by simpa using h1) (by simpa using h2) hk
def oZ(N:List Str)(vs:List V):St:=vs.map some++K4 (N.length-vs.length) none
def cxOf(CX:CXT)(P:Program)(w:World)(K:IC)(mg:Str->Option Value)(base:Heap)(N:List Str)(qual:Str)(scope:Scope)(f:Addr)(cd:Value)(A:Around)(outer:List Env)(s:Shared)(H:Hp)(E:XK):Cx where
 prog:=P
 w:=w
 K:=K
 mg:=mg
 base:=base
 A:=A.deeper (envOfC qual scope s.heap.objs.size f cd)
 N:=N
 s₀:=s
 H₀:=H
 env:=envOfC qual scope s.heap.objs.size f cd
 outer:=outer
 stack:=envOfC qual scope s.heap.objs.size f cd::outer
 ex:=[]
 calm:=true
 fn:=fun _=>true
 pn:=[]
 xe:=fun e s'=>wpAny (model P w) (A.deeper (envOfC qual scope s.heap.objs.size f cd)) (leaving (envOfC qual scope s.heap.objs.size f cd) e) (fun _ s''=>CX outer H s E e s'') (fun e' s''=>CX outer H s E e' s'') s'
theorem Am{sc:Scope}{n:Nat}{x:Str}(h:sc.names.lookup x=some .cell):∃ c,(cellsFrom n sc.names []).lookup x=some c:=by
 have q:=PySem.W.cellsFrom_some sc.names n [] (.inl h)
 exact MF.mp q
theorem Dz{CX:CXT}{P:Program}{w:World}{K:IC}{mg:Str->Option Value}{base:Heap}{N ps:List Str}{qual:Str}{scope:Scope}{f:Addr}{cd:Value}{A:Around}{outer:List Env}{s s1:Shared}{H:Hp}{E:XK}{us:List Value}{vs:List V}
  (S:aC N ps scope) (hd:A.handled=none) (e0:Env0 P w K mg base A outer s H) (hl:vs.length=ps.length) (r:Vals vs us)
  (x:InCallC s s.heap.objs.size (bindL (envOfC qual scope s.heap.objs.size f cd).kindOf (ps.zip us) fun _=>none) (cellsFrom (s.heap.objs.size+1) scope.names []) (bindC (envOfC qual scope s.heap.objs.size f cd).kindOf (ps.zip us) fun _=>none) s1) :
  Inv (cxOf CX P w K mg base N qual scope f cd A outer s H E) [] (oZ N vs) H s1:=by
 have hpl:ps.length<=N.length:=by have:=congrArg List.length S.pre;rw[Jg]at this;omega
 obtain⟨h1,tk,rfl,hk⟩:=x.done
 have noA:∀ b:Addr,b∉(cxOf CX P w K mg base N qual scope f cd A outer s H E).ex:=fun b z=>absurd (show b∈([]:List Addr) from z) (by simp)
 refine⟨⟨e0.mod,S.kind,rfl,rfl,IG _,fun y z c h1 h2=>?_,fun y hy=>?_,fun y c _ h=>?_,fun _=>hd,Around.frames_deeper e0.frames,.inr ⟨rfl,rfl⟩,fun b z=>absurd z (noA b),e0.bs,e0.bsz,fun b _ _=>noA b,fun b z=>absurd z (noA b),e0.funs,e0.frf⟩,
  rfl,e0.bare,Un.kept hk,⟨_,x.toInCall.ns,fun i y v h1 h2 h3=>?_⟩,fun y c h=>⟨_,x.cell y c h⟩,e0.hok.fresh (IG _),fun y c h=>?_,fun p hp=>absurd (show p∈([]:List (Addr×Obj)) from hp) (by simp),e0.hok.kept hk,?_⟩
 ·exact name_of_addr x.apart (J1 h1) (J1 h2)
 ·have hy:scope.names.lookup y=some .cell∨scope.names.lookup y=some .free:=hy
  rcases hy with hy | hy
  ·exact Am hy
  ·exact absurd rfl (S.nofree _ (J1 hy))
 ·exact JY (x.above y c (J1 h))
 ·have hi:i<vs.length:=by
   unfold oZ at h2
   by_cases hi:i<vs.length
   ·exact hi
   ·rw[IE (by simpa using hi)]at h2
    rw[KJ]at h2
    split at h2<;>cases h2
  have ha:vs[i]?=some v:=by
   unfold oZ at h2
   rw[IH (by simpa using hi),II]at h2
   cases e:vs[i]? with
   |none=>rw[e]at h2;cases h2
   |some a=>rw[e]at h2;cases h2;rfl
  obtain⟨u,hu,rv⟩:=r.get ha
  have hp:ps[i]?=some y:=by
   rw[← S.pre,List.getElem?_take_of_lt (by omega)];exact h1
  have ndP:ps.Nodup:=by rw[← S.pre];exact S.nd.sublist (List.take_sublist _ _)
  refine⟨u,rv,?_⟩
  rcases S.par y (ID hp)with k | k
  ·exact .inl ⟨k,vM ndP hp hu k⟩
  ·obtain⟨c,e⟩:=Am (n:=s.heap.objs.size+1) k
   refine .inr ⟨.inl k,c,e,?_⟩
   have q:=x.cell y c e
   rw[vO ndP hp hu (by show scope.names.lookup y≠_;rw[k];decide)]at q
   exact q
 ·exact e0.hok.fresh (JY (x.above y c (J1 h)))
 ·unfold oZ
  show _=N.length
  rw[IF,IJ,List.length_replicate]
  omega
theorem Ia{CX:CXT}{P:Program}{w:World}{K:IC}{mg:Str->Option Value}{base:Heap}{k:Nat}{f:Addr}{name qual:Str}{params:Arguments}{body:List Stmt}{scope:Scope}{dV kV doc pm cdv ct oc:Value}{an od:Option Addr}
  {osl:Array (Option Value)} {N ps:List Str} {sp:Sp} (lk:K.lookup f=some ⟨oc,od,.func (Jb name qual params body scope dV kV doc pm an cdv ct),osl⟩) (hcd:IZ K cdv qual=true) (S:aC N ps scope)
  (len:∀ vs H Q E,sp vs H Q E->vs.length=ps.length)
  (hbody:∀(A:Around)(outer:List Env)(s:Shared)(H:Hp)(vs:List V)(Q:VK)(E:XK),Room k (A.deeper (envOfC qual scope s.heap.objs.size f cdv))->sp vs H Q E ->
   ∃ t,PSs (cxOf CX P w K mg base N qual scope f cdv A outer s H E) body t/\t { nx:=fun _ H'=>Q .non H',rt:=Q } (oZ N vs) H) :
  FnOk P w K mg base CX (k+1) f (Jb name qual params body scope dV kV doc pm an cdv ct) ps sp:=by
 refine⟨len,fun A outer s H args us vs Q E hr e0 hb r hsp=>?_⟩
 have hl:=len _ _ _ _ hsp
 have KX:K.In s.heap:=e0.mod.kin.keeps fun b o e=>(e0.bs b o e).1
 have lim:s.heap.NoLimit:=e0.mod.nolimit.keeps fun b o e=>(e0.bs b o e).1
 have hkind:∀ y∈ps.zip us,scope.names.lookup y.1=some .local∨(scope.names.lookup y.1=some .cell/\((cellsFrom (s.heap.objs.size+1) scope.names []).lookup y.1).isSome=true):=fun⟨n,v⟩ hy=>by
  rcases S.par n (LU hy).1 with q | q
  ·exact .inl q
  ·exact .inr ⟨q,PySem.W.cellsFrom_some _ _ _ (.inl q)⟩
 refine codeAny_call_function hr.depth (KX _ _ lk) rfl S.co S.gen rfl (PySem.W.codeRec_of KX hcd) (hb _ _ _ _ ?_)
 refine wpAny_newFunctionEnv_cells S.kind hkind fun env he s1 x=>?_
 subst he
 refine⟨lim.keeps x.toInCall.keep,codeAny_func ?_⟩
 obtain⟨t,ht,hq⟩:=hbody A outer s H vs Q E (hr.deeper _) hsp
 have I:Inv (cxOf CX P w K mg base N qual scope f cdv A outer s H E) [] (oZ N vs) H s1:=Dz S hr.hd e0 hl r x
 refine wpAny_mono (ht [] s1 (oZ N vs) H _ I hq) (fun fl s' hs=>?_) fun e s' hs=>hs
 have fin:∀{σ':St}{H':Hp}{v:V}{u:Value},Inv (cxOf CX P w K mg base N qual scope f cdv A outer s H E) [] σ' H' s'->RelV v u->Q v H'->CE outer P w H s Q u s' :=
  fun{σ' H' v u} J rv q=>⟨v,H',J.os,J.bare,J.base,J.hok,rv,q⟩
 cases fl with
 |ret u =>
  obtain⟨v,σ',H',J,rv,q⟩:=hs
  exact fin J rv q
 |next =>
  obtain⟨σ',H',J,q⟩:=hs
  exact fin (v:=V.non) (u:=Value.none) J rfl q
 |brk =>
  obtain⟨_,_,_,q⟩:=hs
  exact False.elim q
 |cont =>
  obtain⟨_,_,_,q⟩:=hs
  exact False.elim q
end L2
namespace L2
open PySem PySem.Spec PyProof.Rows
section
variable{X:Cx}{x:Str}{p pos:Pos}{e:Expr}{es:List Expr}{t:TA}{id T:String}{r:List V->Hp->VK->Prop}
def tCB(r:List V->Hp->VK->Prop)(t:TA):TE:=fun σ H Q=>t σ H fun vs H1=>r vs H1 Q
theorem aJ(hc:j9 X (.builtin id) r)(hg:Gl X x)(hm:X.mg x=none)(hv:bootBuiltins x=some (.builtin id))(ha:PA X (e::es) t) (hn:x≠"__name__":=by decide) (hdb:(x == ("__debug__" : Str))=false:=by decide)
  (he:starEach (e::es) X.env=(false,eval e X.env)::starEach es X.env:=by rfl) (hpl:(backTo pos (starEach es X.env)).any (·.1)=false:=by rfl):PE X (.Call (.Name x p) (e::es) [] pos) (tCB r t):=by
 intro pins s σ H Q I h
 refine wpAny_Call_Name_kw (jL I hg hm hv ?_ hn hdb)
 exact PyProof.Rows.callWith_builtin1 (thn (ha pos pins s σ H _ I h) fun us s1 ⟨vs,H1,I1,r1,q1⟩=>hc pins s1 σ H1 vs us Q I1 r1 q1) he hpl
theorem gj(hc:j9 X (.type T) r)(hg:Gl X x)(hm:X.mg x=none)(hv:bootBuiltins x=some (.type T))(ha:PA X (e::es) t) (hn:x≠"__name__":=by decide) (hdb:(x == ("__debug__" : Str))=false:=by decide)
  (he:starEach (e::es) X.env=(false,eval e X.env)::starEach es X.env:=by rfl) (hpl:(backTo pos (starEach es X.env)).any (·.1)=false:=by rfl):PE X (.Call (.Name x p) (e::es) [] pos) (tCB r t):=by
 intro pins s σ H Q I h
 refine wpAny_Call_Name_kw (jL I hg hm hv ?_ hn hdb)
 exact PyProof.Rows.callWith_type1 (thn (ha pos pins s σ H _ I h) fun us s1 ⟨vs,H1,I1,r1,q1⟩=>hc pins s1 σ H1 vs us Q I1 r1 q1) he hpl
end
end L2
namespace HT
open PySem PyProof.Rows
section
open PySem.SeqAt
open PySem.AutoSeq1 (wpAny_loadPart')
open PySem.MeetsSeq PySem.MeetsSeq2 PySem.MeetsSeq3
end
section
variable{prog:Program}{w:World}{A:Around}{E:Value->Shared->Prop}{s:Shared}
def sIx(n d:Nat):Option Int->Nat
 |none=>d
 |some v=>if v<0 then(v+(n:Int)).toNat else min v.toNat n
theorem sIx_none(n d:Nat):sIx n d none=d:=rfl
theorem sIx_nat(n d k:Nat):sIx n d (some (k:Int))=min k n:=by
 show(if(k:Int)<0 then((k:Int)+(n:Int)).toNat else min (k:Int).toNat n)=min k n
 rw[if_neg (by omega),JB]
end
end HT
namespace L2
open PySem PySem.Spec PyProof.Rows
abbrev TO:=St->Hp->(Option Int->Hp->Prop)->Prop
def PO(X:Cx)(e:Option Expr)(t:TO):Prop :=
 ∀(pins:List (Addr×Obj))(s:Shared)(σ:St)(H:Hp)(Q:Option Int->Hp->Prop),Inv X pins σ H s->t σ H Q ->
  wpAny (model X.prog X.w) X.A (evalPart e X.env) (fun u s'=>∃ o H',Inv X pins σ H' s'/\IsPart u o/\Q o H') X.xe s
def GV:TO:=fun _ H Q=>Q none H
def tPart(t:TE):TO:=fun σ H Q=>t σ H fun x H1=>∃ i,x=.int i/\Q (some i) H1
section
variable{X:Cx}{e:Expr}{te:TE}{lo hi:Option Expr}{tl th:TO}{pos p2:Pos}
theorem Hi:PO X none GV:=by
 intro pins s σ H Q I h
 rw[evalPart_none]
 exact wpAny_pure ⟨none,H,I,.none,h⟩
theorem Hg(h:PE X e te):PO X (some e) (tPart te):=by
 intro pins s σ H Q I hw
 rw[evalPart_some]
 refine thn (h pins s σ H _ I hw) fun u s1 ⟨x,H1,I1,r1,q1⟩=>?_
 obtain⟨i,rfl,q⟩:=q1
 obtain⟨t,rfl⟩:=r1
 exact⟨some i,H1,I1,.int i t,q⟩
def SlR(X:Cx)(r:V->Option Int->Option Int->Hp->VK->Prop):Prop :=
 ∀(pins:List (Addr×Obj))(s:Shared)(σ:St)(H:Hp)(x:V)(v vl vu:Value)(lo hi:Option Int)(sl:Addr)(Q:VK),Inv X pins σ H s->RelV x v->s.heap.IsSliceOf sl vl vu .none->IsPart vl lo->IsPart vu hi->r x lo hi H Q ->
  ∃ T id,typeLookup (.type T) "__getitem__" = pure (some (.builtin id))/\s.TypeIs v T/\wpAny (model X.prog X.w) X.A (getItem v (.ref sl)) (EP X pins σ Q) X.xe s
def tSl(r:V->Option Int->Option Int->Hp->VK->Prop)(te:TE)(tl th:TO):TE:=fun σ H Q=>te σ H fun x H1=>tl σ H1 fun l H2=>th σ H2 fun u H3=>r x l u H3 Q
theorem EZ{r:V->Option Int->Option Int->Hp->VK->Prop}(hr:SlR X r)(he:PE X e te)(hl:PO X lo tl)(hu:PO X hi th):PE X (.Subscript e (.Slice lo hi none p2) pos) (tSl r te tl th):=by
 intro pins s σ H Q I h
 refine Subscript_ (thn (he pins s σ H _ I h) fun v s1 ⟨x,H1,I1,r1,q1⟩=>?_)
 refine wpAny_Slice (thn (hl pins s1 σ H1 _ I1 q1) fun vl s2 ⟨l,H2,I2,pl,q2⟩=>thn (hu pins s2 σ H2 _ I2 q2) fun vu s3 ⟨u,H3,I3,pu,q3⟩=>?_)
 rw[evalPart_none]
 refine wpAny_pure ?_
 have I4:Inv X pins σ H3 { s3 with heap:=s3.heap.push { cls:=.type "slice",data:=.fields #[vl,vu,.none] } }:=I3.kept (t':=s3.toks) fun b ob q=>Heap.get?_push_of_some _ q
 obtain⟨T,id,hT,ht,hg⟩:=hr pins { s3 with heap:=s3.heap.push { cls:=.type "slice",data:=.fields #[vl,vu,.none] } } σ H3 x v vl vu l u s3.heap.objs.size Q I4 r1 (Heap.IsSliceOf.new ..) pl pu q3
 show wpAny (model X.prog X.w) X.A (subscriptTail e (.Slice lo hi none p2) v (.ref s3.heap.objs.size)) (EP X pins σ Q) X.xe { s3 with heap:=s3.heap.push { cls:=.type "slice",data:=.fields #[vl,vu,.none] } }
 exact tail_any (ops:=[.ref s3.heap.objs.size,v]) ht hT hg (by with_unfolding_all rfl)
def cutV(xs:List V)(lo hi:Option Int):List V:=(xs.drop (HT.sIx xs.length 0 lo)).take (HT.sIx xs.length xs.length hi-HT.sIx xs.length 0 lo)
theorem yQ(xs:List V)(lo hi:Option Int):(cutV xs lo hi).length<=xs.length:=by
 unfold cutV
 rw[Jg,JF]
 omega
end
end L2
namespace L2
open PySem PySem.Spec PyProof.Rows
def ixN(n:Nat)(i:Int):Option Nat:=if 0<=i then(if i<n then some i.toNat else none) else if -(n:Int)<=i then some (i+n).toNat else none
def atI{α:Type}(xs:List α)(i:Int):Option α:=(ixN xs.length i).bind fun j=>xs[j]?
theorem HQ{n:Nat}{i:Int}{j:Nat}(h:ixN n i=some j):seqIndex? i n=some j/\j<n/\-(n:Int)<=i/\i<n:=by
 unfold ixN at h
 by_cases h0:0<=i
 ·rw[if_pos h0]at h
  by_cases h1:i<n
  ·rw[if_pos h1]at h
   have e:i.toNat=j:=IW h
   exact⟨by rw[seqIndex_of h0 h1,e],by omega,by omega,h1⟩
  ·rw[if_neg h1]at h;cases h
 ·rw[if_neg h0]at h
  by_cases h1 : -(n:Int)<=i
  ·rw[if_pos h1]at h
   have e:(i+n).toNat=j:=IW h
   exact⟨by rw[seqIndex_neg (by omega) h1,e],by omega,h1,by omega⟩
  ·rw[if_neg h1]at h;cases h
theorem Et{α:Type}{xs:List α}{i:Int}{v:α}(h:atI xs i=some v):∃ j,seqIndex? i xs.length=some j/\xs[j]?=some v/\j<xs.length/\-(xs.length:Int)<=i/\i<xs.length:=by
 unfold atI at h
 cases e:ixN xs.length i with
 |none=>rw[e]at h;cases h
 |some j =>
  rw[e]at h
  obtain⟨h1,h2,h3,h4⟩:=HQ e
  exact⟨j,h1,h,h2,h3,h4⟩
theorem bD{α:Type}{xs:List α}{j:Nat}{v:α}(h:xs[j]?=some v):atI xs (j:Int)=some v:=by
 have hj:j<xs.length:=(IA.mp h).1
 have e:ixN xs.length (j:Int)=some j:=by
  unfold ixN
  rw[if_pos (by omega),if_pos (by omega)];simp
 unfold atI;rw[e];exact h
def Iz(b:Expr):Prop:=∀ o i,subscripted b false o i=operate [o,i] (getItem o i)
def IxR(X:Cx)(r:R2):Prop :=
 ∀(value slice:Expr)(pins:List (Addr×Obj))(s:Shared)(σ:St)(H:Hp)(x y:V)(v u:Value)(Q:VK),Inv X pins σ H s->RelV x v->RelV y u->r x y H Q ->
  subscripted slice false v u=operate [v,u] (getItem v u)->wpAny (model X.prog X.w) X.A (subscriptTail value slice v u) (EP X pins σ Q) X.xe s
def MtR(X:Cx)(id:String)(r:V->List V->Hp->VK->Prop):Prop :=
 ∀(pins:List (Addr×Obj))(s:Shared)(σ:St)(H:Hp)(x:V)(xs:List V)(v:Value)(us:List Value)(Q:VK),Inv X pins σ H s->RelV x v->Vals xs us->r x xs H Q ->
  wpAny (model X.prog X.w) X.A (call (.builtin id) (v::us)) (EP X pins σ Q) X.xe s
section
variable{X:Cx}{a b:Expr}{ta tb:TE}{pos:Pos}
theorem bL{r:R2}(hr:IxR X r)(ha:PE X a ta)(hb:PE X b tb)(hs:Iz b):PE X (.Subscript a b pos) (tOp r ta tb):=by
 intro pins s σ H Q I h
 exact Subscript_ (binT ha hb I h fun v u s2 x y H2 I2 rx ry q=>hr a b pins s2 σ H2 x y v u Q I2 rx ry q (hs _ _))
def rIxL(K:IC):R2:=fun x y H Q=>∃ p xs i v,x=.ref p/\y=.int i/\SqL K H p xs/\atI xs i=some v/\Q v H
def rIxT(K:IC):R2:=fun x y H Q=>∃ p xs i v,x=.ref p/\y=.int i/\SqT K H p xs/\atI xs i=some v/\Q v H
theorem bJ:IxR X (rIxL X.K):=by
 intro value slice pins s σ H x y v u Q I rx ry h hs
 obtain⟨p,xs,i,z,rfl,rfl,hq,he,q⟩:=h
 cases rx
 obtain⟨t,rfl⟩:=ry
 obtain⟨its,r,pl,hz⟩:=I.list hq
 obtain⟨j,h1,h2,h3,h4,h5⟩:=Et he
 obtain⟨w,ew,rw'⟩:=r.get h2
 have hl:=r.length
 have hn:=z9
 have fin:EP X pins σ Q w s:=⟨z,H,I,rw',q⟩
 by_cases h0:0<=i
 ·have hj:i.toNat=j:=by
   rw[seqIndex_of h0 h5]at h1
   exact IW h1
  exact item_listR pl.isList h0 (by omega) (by rw[hj];simpa using ew) fin hs
 ·have hj:(i+(its.toArray.size:Int)).toNat=j:=by
   rw[seqIndex_neg (by omega) h4]at h1
   rw[Jl,← hl]
   exact IW h1
  exact subscriptTail_builtinR (x:=w) pl.isList.typeIs slot_list_getitem.lookup
   (wpAny_getItem_list_neg (Q:=fun r s'=>r=w/\EP X pins σ Q r s') pl.isList (by omega) (by rw[Jl]<;>omega) (by omega) (by rw[hj];simpa using ew) ⟨rfl,fin⟩) hs
theorem dN:IxR X (rIxT X.K):=by
 intro value slice pins s σ H x y v u Q I rx ry h hs
 obtain⟨p,xs,i,z,rfl,rfl,hq,he,q⟩:=h
 cases rx
 obtain⟨t,rfl⟩:=ry
 obtain⟨its,r,pl,hz⟩:=I.tuple hq
 obtain⟨j,h1,h2,h3,h4,h5⟩:=Et he
 obtain⟨w,ew,rw'⟩:=r.get h2
 have hl:=r.length
 have hn:=z9
 have fin:EP X pins σ Q w s:=⟨z,H,I,rw',q⟩
 exact subscriptTail_builtinR (x:=w) pl.typeIs slot_tuple_getitem.lookup
  (getItem_tuple (j:=j) (Q:=fun r s'=>r=w/\EP X pins σ Q r s') pl (by omega) (by omega) (by rw[Jl,← hl];exact h1) (by simpa using ew) ⟨rfl,fin⟩) hs
theorem tJ(lo hi:Option Int)(n:Nat):(sliceBounds lo hi none n).1=((HT.sIx n 0 lo:Nat):Int)/\(sliceBounds lo hi none n).2.1=((HT.sIx n n hi:Nat):Int)/\(sliceBounds lo hi none n).2.2=1:=by
 refine⟨?_,?_,rfl⟩
 ·cases lo with
  |none=>simp[sliceBounds,HT.sIx]
  |some i =>
   simp only[sliceBounds,HT.sIx,Option.getD_none,show(1:Int) > 0 by decide,if_true]
   by_cases h:i<0
   ·simp only[h,if_true]<;>omega
   ·simp only[h,if_false]<;>omega
 ·cases hi with
  |none=>simp[sliceBounds,HT.sIx]
  |some i =>
   simp only[sliceBounds,HT.sIx,Option.getD_none,show(1:Int) > 0 by decide,if_true]
   by_cases h:i<0
   ·simp only[h,if_true]<;>omega
   ·simp only[h,if_false]<;>omega
theorem qE(its:List Value)(lo hi:Option Int):slicePick its.toArray lo hi none=((its.drop (HT.sIx its.length 0 lo)).take (HT.sIx its.length its.length hi-HT.sIx its.length 0 lo)).toArray:=by
 obtain⟨h1,h2,h3⟩:=tJ lo hi its.toArray.size
 unfold slicePick
 rw[h1,h2,h3]
 simp only[sliceRange_one,pick_run,Jl]<;>rfl
def rSlL(K:IC):V->Option Int->Option Int->Hp->VK->Prop:=fun x lo hi H Q=>∃ a xs,x=.ref a/\SqL K H a xs/\∀ p,H p=none->Q (.ref p) (upd H p (.lst (cutV xs lo hi)))
theorem G6:SlR X (rSlL X.K):=by
 intro pins s σ H x v vl vu lo hi sl Q I rx hs pl pu h
 obtain⟨a,xs,rfl,hx,q⟩:=h
 cases rx
 obtain⟨its,r,ht,hz⟩:=I.list hx
 have hlen:=r.length
 refine⟨"list",_,slot_list_getitem.lookup,ht.isList.typeIs,?_⟩
 refine wpAny_getItem_list_slice ht.isList hs pl pu .none (by simp) ?_ (by rw[Jl]<;>omega)
 rw[qE,← hlen]
 refine⟨.ref s.heap.objs.size,_,I.laid (t':=s.toks) (o:=.lst (cutV xs lo hi)) (fun b ob q=>Heap.get?_push_of_some _ q) (IG _) ?_,rfl,q _ (I.hok.fresh (IG _))⟩
 exact⟨JG (yQ xs lo hi) hz,_,0,(r.drop (HT.sIx xs.length 0 lo)).take (HT.sIx xs.length xs.length hi-HT.sIx xs.length 0 lo),Heap.get?_push_size _ rfl⟩
theorem aL:j9 X (.builtin "len") (fun xs H Q=>∃ p ys,xs = [.ref p]/\(SqL X.K H p ys∨SqT X.K H p ys)/\Q (.int ys.length) H):=by
 intro pins s σ H xs us Q I r h
 obtain⟨p,ys,rfl,hq,q⟩:=h
 obtain⟨u,rfl,rx⟩:=tE r
 cases rx
 have hn:=z9
 rcases hq with hq | hq
 ·obtain⟨its,r',pl,hz⟩:=I.list hq
  have hlen:=r'.length
  exact Calls.call_len_list pl.isList (by simp only[Jl]<;>omega) ⟨.int ys.length,H,I.tok _,⟨s.toks+1,by rw[Jl,hlen]⟩,q⟩
 ·obtain⟨its,r',pl,hz⟩:=I.tuple hq
  have hlen:=r'.length
  exact len_tuple pl (by simp only[Jl]<;>omega) ⟨.int ys.length,H,I.tok _,⟨s.toks+1,by rw[Jl,hlen]⟩,q⟩
theorem eF:j9 X (.type "list") (fun xs H Q=>∃ p ys,xs = [.ref p]/\(SqL X.K H p ys∨SqT X.K H p ys)/\∀ l,H l=none->Q (.ref l) (upd H l (.lst ys))):=by
 intro pins s σ H xs us Q I r h
 obtain⟨p,ys,rfl,hq,q⟩:=h
 obtain⟨u,rfl,rx⟩:=tE r
 cases rx
 have fin:∀(its:List Value),Vals ys its->ys.length<=sizeLine->∀(h':Heap)(c':Nat),(∀ b o',s.heap.get? b=some o'->h'.get? b=some o') ->
   h'.get? s.heap.objs.size=some { cls:=.type "list",dict:=none,data:=.seq its.toArray c',slots:=#[] }->EP X pins σ Q (.ref s.heap.objs.size) { s with heap:=h' }:=fun its r' hz h' c' kp e =>
  ⟨.ref s.heap.objs.size,_,I.laid (t':=s.toks) kp (IG _) (show aY X.prog X.w _ h' _ (.lst ys) from⟨hz,its,c',r',e⟩),rfl,q _ (I.hok.fresh (IG _))⟩
 rcases hq with hq | hq
 ·obtain⟨its,r',pl,hz⟩:=I.list hq
  have hlen:=r'.length
  obtain⟨o,ho,hc,n,hd⟩:=pl.isList
  exact call_list_seq p (.inl rfl) ho hc hd (fun h' c' kp e=>fin its r' hz h' c' kp e) (by simp only[Jl]<;>omega)
 ·obtain⟨its,r',pl,hz⟩:=I.tuple hq
  have hlen:=r'.length
  obtain⟨o,ho,hc,n,hd⟩:=pl
  exact call_list_seq p (.inr rfl) ho hc hd (fun h' c' kp e=>fin its r' hz h' c' kp e) (by simp only[Jl]<;>omega)
def tyV(K:IC)(T:String)(x:V)(H:Hp):Prop:=match x with
 |.str _=>T = "str"
 |.int _=>T = "int"
 |.ref p=>(T = "list"/\∃ xs,SqL K H p xs)∨(T = "tuple"/\∃ o,K.lookup p=some o/\o.cls=.type "tuple"/\o.dict=none) ∨
   (T = "dict"/\((∃ kvs,H p=some (.dK kvs))∨∃ kvs,H p=some (.dT kvs)))∨(T = "set"/\∃ S n,H p=some (.set S n))
 |_=>False
theorem FT{pins:List (Addr×Obj)}{σ:St}{H:Hp}{s:Shared}{T:String}{x:V}{v:Value}(I:Inv X pins σ H s)(r:RelV x v)(ty:tyV X.K T x H) :
  s.TypeIs v T/\∀ a,v=.ref a->∃ ob,s.heap.get? a=some ob/\ob.dict=none:=by
 cases x with
 |str z =>
  obtain⟨t,rfl⟩:=r
  cases (show T = "str" from ty)
  exact⟨typeIs_str s z t,fun _ e=>nomatch e⟩
 |int i =>
  obtain⟨t,rfl⟩:=r
  cases (show T = "int" from ty)
  exact⟨typeIs_int s i t,fun _ e=>nomatch e⟩
 |ref p =>
  cases r
  rcases ty with⟨rfl,xs,hq⟩ | ⟨rfl,o,hk,hc,hd⟩ | ⟨rfl,hk⟩ | ⟨rfl,S,n,hk⟩
  ·obtain⟨its,_,pl,_⟩:=I.list hq
   refine⟨pl.isList.typeIs,fun a e=>?_⟩
   cases e
   obtain⟨o,n,e,c,hd,_⟩:=pl
   exact⟨o,e,hd⟩
  ·refine⟨⟨o,I.kIn p o hk,hc⟩,fun a e=>?_⟩
   cases e
   exact⟨o,I.kIn _ o hk,hd⟩
  ·have z:∃ o,s.heap.get? p=some o/\o.ExactDict:=by
    rcases hk with⟨kvs,hk⟩ | ⟨kvs,hk⟩
    ·obtain⟨_,_,_,_,o,_,_,e,ex,_⟩:=I.hok p _ hk
     exact⟨o,e,ex⟩
    ·obtain⟨_,_,_,_,o,_,_,e,ex,_⟩:=I.hok p _ hk
     exact⟨o,e,ex⟩
   obtain⟨o,e,ex⟩:=z
   refine⟨⟨o,e,ex.1⟩,fun a e2=>?_⟩
   cases e2
   exact⟨o,e,ex.2.1⟩
  ·obtain⟨o,_,_,_,e,ex,_⟩:=I.hok p _ hk
   refine⟨⟨o,e,ex.1⟩,fun a e2=>?_⟩
   cases e2
   exact⟨o,e,ex.2.1⟩
 |_=>exact False.elim ty
def tBM0(K:IC)(T:String)(r:V->List V->Hp->VK->Prop)(to:TE):TE:=fun σ H Q=>to σ H fun x H1=>tyV K T x H1/\r x [] H1 Q
def tBM(K:IC)(T:String)(r:V->List V->Hp->VK->Prop)(to:TE)(t:TA):TE:=fun σ H Q=>to σ H fun x H1=>tyV K T x H1/\t σ H1 fun xs H2=>r x xs H2 Q
variable{o e:Expr}{es:List Expr}{to:TE}{t:TA}{name:Str}{apos cpos:Pos}{T id:String}{r:V->List V->Hp->VK->Prop}
theorem F6(pa:PlainAttrs T)(slot:Slot T name id) (hty:typeOf (.builtin id)=pure (.type "method_descriptor")) (hm:MtR X id r) (ho:PE X o to)
  (hbase:attributeBase o name X.env (eval o X.env)=eval o X.env:=by rfl) (hline:(apos.endLine == cpos.line)=true:=by rfl):PE X (.Call (.Attribute o name apos) [] [] cpos) (tBM0 X.K T r to):=by
 intro pins s σ H Q I h
 refine wpAny_Call_method0_late hbase hline (thn (ho pins s σ H _ I h) fun v s1 ⟨x,H1,I1,r1,ty,q1⟩=>?_)
 obtain⟨h1,h2⟩:=FT I1 r1 ty
 exact⟨T,id,pa,slot,hty,h1,h2,Calls.callWith_builtin rfl (PySem.evalArgs_none (hm pins s1 σ H1 x [] v [] Q I1 r1 .nil q1))⟩
theorem i0(pa:PlainAttrs T)(slot:Slot T name id) (hty:typeOf (.builtin id)=pure (.type "method_descriptor")) (hm:MtR X id r) (ho:PE X o to) (ha:PA X (e::es) t)
  (hbase:attributeBase o name X.env (eval o X.env)=eval o X.env:=by rfl)
  (hfew:((backTo cpos (starEach (e::es) X.env)).all (fun x=>!x.1)&&(backToKw cpos (keywordEach [] X.env)).all (fun x=>x.1.isSome)
   && decide ((e::es).length+([]:List Keyword).length+(if([]:List Keyword).isEmpty then 0 else 1)<30))=true:=by rfl)
  (hline:(apos.endLine == cpos.line)=true:=by rfl) (hs:starEach (e::es) X.env=(false,eval e X.env)::starEach es X.env:=by rfl) (hplain:(backTo cpos (starEach es X.env)).any (·.1)=false:=by rfl) :
  PE X (.Call (.Attribute o name apos) (e::es) [] cpos) (tBM X.K T r to t):=by
 intro pins s σ H Q I h
 refine wpAny_Call_method_late hbase hfew hline rfl (thn (ho pins s σ H _ I h) fun v s1 ⟨x,H1,I1,r1,ty,q1⟩=>?_)
 obtain⟨h1,h2⟩:=FT I1 r1 ty
 refine⟨T,id,pa,slot,hty,h1,h2,?_⟩
 have hA:=ha cpos pins s1 σ H1 _ I1 q1
 rw[hs]at hA ⊢
 refine Calls.callWith_builtin (by show(false||(backTo cpos (starEach es X.env)).any (·.1))=false;rw[hplain]<;>rfl) (Calls.evalArgs_plain ?_)
 exact thn hA fun us s2 ⟨vs,H2,I2,r2,q2⟩=>hm pins s2 σ H2 x vs v us Q I2 r1 r2 q2
end
end L2
namespace L2
open PySem PySem.Spec PyProof.Rows
def MtM(X:Cx)(id:String)(r:V->List V->Hp->VK->Prop):Prop :=
 ∀(pins:List (Addr×Obj))(s:Shared)(σ:St)(H:Hp)(x:V)(xs:List V)(v:Value)(us:List Value)(Q:VK),Inv X pins σ H s->RelV x v->Vals xs us->r x xs H Q ->
  wpAny (model X.prog X.w) X.A (call (.builtin id) (v::us)) (EP X pins σ Q) X.xe s
theorem Vals.one:∀{x:V}{us:List Value},Vals [x] us->∃ u,us = [u]/\RelV x u
 |_,_,.cons r .nil=>⟨_,rfl,r⟩
theorem Vals.two:∀{x y:V}{us:List Value},Vals [x,y] us->∃ u v,us = [u,v]/\RelV x u/\RelV y v
 |_,_,_,.cons r (.cons q .nil)=>⟨_,_,rfl,r,q⟩
theorem Vals.zero:∀{us:List Value},Vals [] us->us = []
 |_,.nil=>rfl
section
variable{X:Cx}{pins:List (Addr×Obj)}{σ:St}{H:Hp}{s:Shared}{l b:Addr}{xs ys zs:List V}
theorem Inv.lset{its its':List Value}{n:Nat}{f:Array Value->Array Value}{t':Nat}(I:Inv X pins σ H s)(hH:H l=some (.lst xs))
  (e:s.heap.get? l=some { cls:=.type "list",data:=.seq its.toArray n }) (hf:f its.toArray=its'.toArray) (hv:Vals ys its') (hz:ys.length<=sizeLine) :
  Inv X pins σ (upd H l (.lst ys)) { s with heap:=s.heap.update l (Obj.mapSeq f),toks:=t' }:=by
 have q:=PySem.IsL.update e f
 rw[hf]at q
 refine I.write (x:=l) (e:=l) (by rw[hH];exact trivial) (.inl rfl) (fun b' u hb hu=>(Heap.get?_update_other s.heap (Obj.mapSeq f) (Ne.symm hb)).trans hu) ⟨_,q⟩ ?_
 exact⟨hz,its',_,hv,q⟩
theorem Inv.lnew{its:List Value}{t':Nat}(I:Inv X pins σ H s)(hv:Vals ys its)(hz:ys.length<=sizeLine) :
  Inv X pins σ (upd H s.heap.objs.size (.lst ys)) { s with heap:=s.heap.push { cls:=.type "list",data:=.seq its.toArray },toks:=t' } :=
 I.laid (fun _ _ q=>Heap.get?_push_of_some _ q) (IG _) ⟨hz,its,0,hv,Heap.get?_push_size _ rfl⟩
theorem Inv.fresh(I:Inv X pins σ H s):H s.heap.objs.size=none:=I.hok.fresh (IG _)
theorem Inv.lstM(I:Inv X pins σ H s)(hH:H l=some (.lst xs)):xs.length<=sizeLine/\∃(its:List Value)(n:Nat),Vals xs its/\xs.length=its.length/\s.heap.get? l=some { cls:=.type "list",data:=.seq its.toArray n }:=by
 obtain⟨z,its,n,r,e⟩:=I.hok l _ hH
 exact⟨z,its,n,r,r.length,e⟩
end
section
variable{X:Cx}
def Hd:V->List V->Hp->VK->Prop:=fun x vs H Q=>∃ l xs y,x=.ref l/\vs = [y]/\H l=some (.lst xs)/\xs.length<sizeLine/\Q .non (upd H l (.lst (xs++[y])))
theorem bg:MtM X "list.append" Hd:=by
 intro pins s σ H x vs v us Q I rx rv h
 obtain⟨l,xs,y,rfl,rfl,hH,hz,q⟩:=h
 cases rx
 obtain⟨u,rfl,ru⟩:=rv.one
 obtain⟨z,its,n,r,hl,e⟩:=I.lstM hH
 refine call_meets F.slot_list_append ⟨_,e,rfl⟩ F.entry_list_append (F.args_list_append_2 _ _) (PySem.list_append l its.toArray n u (by rw[Jl];omega)) ⟨e,?_⟩
 refine⟨.non,_,I.lset (its':=its++[u]) hH e (by simp) (r.append (.cons ru .nil)) ?_,rfl,q⟩
 rw[IF,IM]
 omega
end
section
variable{prog:Program}{w:World}{A:Around}{E:Value->Shared->Prop}{s:Shared}
end
section
variable{X:Cx}
end
end L2
namespace Att
open PySem PySem.W PySem.Calls PyProof.Rows
theorem nV{P:Params}{h:Heap}:∀(ns:List Int)(vs:List Value),WellAll P h vs (ns.map WData.int)->IntsAre vs ns:=by
 intro ns
 induction ns with
 |nil =>
  intro vs w
  rw[Mi]at w
  cases w
  exact .nil
 |cons n ns ih =>
  intro vs w
  rw[Ju]at w
  cases w with
  |cons a b =>
   cases a
   exact .cons _ _ (ih _ b)
theorem Cc{l:OpenLaw}{n:Nat}(hn:l.most=some n){P:Params}{h:Heap}{args:List WData}{vals:List Value}
  (hpre:l.row.toRowW.claim.pre args=true) (hwl:WellAll P h vals args) :
  ∃ a vs ns,vals = [Value.ref a]/\args = [WData.list (ns.map WData.int)]/\h.get? a=some { cls:=.type "list",data:=.seq vs.toArray }/\IntsAre vs ns/\ns.length<=n:=by
 have hsh:WShape.hasAll [] args [.list .int]=true:=(pre_splitW hpre).1
 have hc:l.pre.holds [] { args:=args }=true:=(pre_splitW hpre).2
 obtain⟨d,r,rfl,h1,h2⟩:=hasAllW_cons hsh
 obtain rfl:=hasAllW_nil h2
 obtain⟨xs,rfl,h3⟩:=hasW_list h1
 obtain⟨ns,rfl⟩:=items_int h3
 have hlen:ns.length<=n:=by
  unfold OpenLaw.pre at hc
  have h4:(WTm.not (.lt (.lit (.int (n:Int))) (.len (.arg 0)))).holds [] { args:=[.list (ns.map .int)] }=true:=by
   have h4:=(holds_andW hc).1
   rw[hn]at h4
   exact h4
  have h5:=condW_of h4 (w_not (w_lt w_lit (w_len_list (w_arg rfl))))
  rw[IJ]at h5
  refine Nat.le_of_not_lt fun q=>?_
  have q':(n:Int)<((ns.length:Nat):Int):=by omega
  first
   | (rw[decide_eq_true q']at h5;exact absurd h5 (by decide))
   | (simp at h5;omega)
 cases hwl with
 |cons w1 w2 =>
  cases w2
  cases w1 with
  |list ho hall=>exact⟨_,_,ns,rfl,rfl,ho,nV ns _ hall,hlen⟩
theorem Cv(l:OpenLaw)(args:List WData):l.row.toRowW.claim.post args (.bool true) args=true :=
 postW_of (r:=l.row.toRowW) (X:=(true == true))
  (show WShape.has [] (.bool true) .bool=true by first | rfl | decide | simp[WShape.has,WShape.arms,WShape.armsAll])
  (show(WTm.eq .res (.lit (.bool true))).value [] { args:=args,res:=some (.bool true),after:=args }=some (.bool (true == true)) from w_eq_bool (w_res rfl) w_lit) rfl
theorem attach_call{l:OpenLaw}{n:Nat}{q:Program}{loose:List Str}{XP:(Str->Option Value)->Heap->Prop}{YP:World->Heap->Prop}{d:DefRec}
  (hn:l.most=some n) (hdf:d.params.defaults = [])
  (call:∀(w:World)(s₀ s₁:Shared)(mg mb:Str->Option Value)(fa:Addr)(o:Obj)(pm cd doc:Value)(a:Addr)(vs:List Value)(ns:List Int),
   Ground q loose [] XP w s₀ mg mb s₁.heap->YP w s₁.heap ->
   s₁.heap.get? fa=some o->o.data=.func (docDef d.name d.params d.body d.scope pm cd doc)->s₁.heap.CodeRec cd d.name->mg d.name=some (.ref fa) ->
   s₁.heap.get? a=some { cls:=.type "list",data:=.seq vs.toArray }->IntsAre vs ns->ns.length<=n->s₁.gens=#[] ->
   codeAny (model l.prog w) callerA (.call (.ref fa) ⟨[.ref a],[]⟩) (fun r s'=>r=.ok (.ret (.bool true))/\OldK s₁.heap s'.heap/\s'.os=s₁.os/\AllBare s'.gens) s₁) :
  WalkO q loose XP YP l.row.toRowW d [] (fun f vs=>PySem.call f vs):=by
 intro w s₀ s₁ mg mb G Y fa o pm cd doc dV kV ho hd hcd hD hmg hg args vals as hpre hlay hrd hwl hlo
 obtain rfl:dV=.none:=Dflts.none hD hdf
 obtain rfl:kV=.none:=Dflts.noKw hD
 obtain⟨a,vs,ns,rfl,rfl,hobj,hints,hlen⟩:=Cc hn hpre hwl
 refine enter_call (codeAny_mono (call w s₀ s₁ mg mb fa o pm cd doc a vs ns G Y ho (fd_plain hd) hcd hmg hobj hints hlen hg) fun r s' hq=>?_)
 obtain⟨rfl,h2,h3,h4⟩:=hq
 exact⟨.inl ⟨.bool true,.bool true,[],rfl,fun _=>rfl,.bool true,Cv l _,fun _=>⟨Mg,fun _ hm=>(nomatch hm)⟩⟩,h2,h3,h4⟩
section
variable{prog:Program}{w:World}{A:Around}{E:Value->Shared->Prop}{s:Shared}{K:Frag}
end
end Att
namespace L2
open PySem PySem.Spec PyProof.Rows
theorem tD:∀{vs:List Value}{ns:List Int},IntsAre vs ns->Vals (ns.map V.int) vs
 |_,_,.nil=>.nil
 |_,_,.cons n t h=>.cons ⟨t,rfl⟩ (tD h)
def Only(H:Hp):Prop:=∀ b,H b=none∨∃ o xs,H b=some (.frz o (.lst xs))
theorem Fu{P:Program}{w:World}{K:IC}{mg mb:Str->Option Value}{CX:CXT}{k:Nat}{fa a:Addr}{fd:FuncData}{x:Str}{sp:Sp}{s₁:Shared}{vs:List Value}{ns:List Int}
  (KX:K.In s₁.heap) (hns:s₁.heap.Ns mainGlobals mg) (hb:s₁.heap.Ns builtinsNs mb) (hbb:∀ x:Str,x≠"__name__"->mb x=bootBuiltins x) (hlim:s₁.heap.NoLimit) (hg:s₁.gens=#[])
  (ha:s₁.heap.get? a=some { cls:=.type "list",data:=.seq vs.toArray }) (hi:IntsAre vs ns) (hl:ns.length<=sizeLine) (hr:Room k callerA)
  (F:∀ base:Heap,K.In base->base.Ns mainGlobals mg->FnOk P w K mg base CX k fa fd [x] sp) (hbind:∀(s:Shared)(u:Value),BindsTo s fd ⟨[u],[]⟩ [(x,u)])
  (hsp:∀ H:Hp,Only H->SqL K H a (ns.map V.int)->sp [.ref a] H (fun v _=>v=.bl true) fun _ _ _=>False)
  (hCX:∀ H e s',CX [] H s₁ (fun _ _ _=>False) e s'->False) :
  codeAny (model P w) callerA (.call (.ref fa) ⟨[.ref a],[]⟩) (fun r s'=>r=.ok (.ret (.bool true))/\OldK s₁.heap s'.heap/\s'.os=s₁.os/\AllBare s'.gens) s₁:=by
 have rv:=tD hi
 have lenV:=hi.length
 have core:∀ H:Hp,Only H->SqL K H a (ns.map V.int)->HOk P w H s₁.heap->(∀ b,H b≠none->b=a)->(H a≠none->K.lookup a=none) ->
   codeAny (model P w) callerA (.call (.ref fa) ⟨[.ref a],[]⟩) (fun r s'=>r=.ok (.ret (.bool true))/\OldK s₁.heap s'.heap/\s'.os=s₁.os/\AllBare s'.gens) s₁:=by
  intro H hO hS hok hA hK
  have base_of:∀{b:Addr}{o:Obj},s₁.heap.get? b=some o->H b=none->(hidT s₁.heap H).get? b=some o:=fun e n=>Fy e n
  have noA:∀{b:Addr}{o:Obj}{es:Array DictEntry}{ep:Nat},s₁.heap.get? b=some o->o.data=.dict es ep->H b=none:=fun{b o es ep} e d=>by
   cases q:H b with
   |none=>rfl
   |some u =>
    have e':b=a:=hA b (by rw[q];simp)
    subst e'
    rw[ha]at e;cases e
    have d':Data.seq vs.toArray _=Data.dict es ep:=d
    cases d'
  have nsK:∀{b:Addr}{m:Str->Option Value},s₁.heap.Ns b m->(hidT s₁.heap H).Ns b m:=fun{b m} ⟨o,es,ep,e,d,r⟩=>⟨o,es,ep,base_of e (noA e d),d,r⟩
  have hKb:K.In (hidT s₁.heap H):=fun b o e=>base_of (KX b o e) (by
   cases q:H b with
   |none=>rfl
   |some u =>
    have e':b=a:=hA b (by rw[q];simp)
    subst e'
    rw[hK (by rw[q];simp)]at e;cases e)
  have hM:Mod K mg (hidT s₁.heap H):=⟨hKb,nsK hns,⟨mb,nsK hb,hbb⟩,let ⟨mc,h1,h2⟩:=hlim;⟨mc,nsK h1,h2⟩⟩
  have e0:Env0 P w K mg (hidT s₁.heap H) callerA [] s₁ H:=⟨rfl,hM,fun b o e=>HE e,Nat.le_of_eq (DI _ _),trivial,fun b hb=>absurd (show b∈([]:List Addr) from hb) (by simp),hok,.of_eq hg⟩
  refine codeAny_mono ((F _ hKb (nsK hns)).run callerA [] s₁ H ⟨[.ref a],[]⟩ [.ref a] [.ref a] _ _ hr e0 (hbind s₁ (.ref a)) (.cons rfl .nil) (hsp H hO hS)) fun r s' h=>?_
  cases r with
  |error e=>exact(hCX H e s' h).elim
  |ok fl =>
   cases fl with
   |next=>exact False.elim h
   |brk=>exact False.elim h
   |cont=>exact False.elim h
   |ret u =>
    obtain⟨v,H',os,bare,un,hok',r',q⟩:=h
    have q':v=.bl true:=q
    subst q'
    obtain rfl:u=Value.bool true:=r'
    refine⟨rfl,OldK.of_keep fun b o e=>?_,os,bare⟩
    cases q:H b with
    |none=>exact un.keep b o e q (by intro z;exact absurd (show b∈([]:List Addr) from z) (by simp)) (by simp)
    |some u =>
     rcases hO b with z | ⟨ob,xs,z⟩
     ·rw[q]at z;cases z
     ·have z2:=un.frzs b ob _ z
      obtain⟨e1,_⟩:=hok b _ z
      obtain⟨e2,_⟩:=hok' b _ z2
      rw[e]at e1;cases e1
      exact e2
 cases hk:K.lookup a with
 |some o =>
  have e:=KX a o hk
  rw[ha]at e
  cases e
  refine core (fun _=>none) (fun _=>.inl rfl) (.inr ⟨_,vs.toArray,_,hk,rfl,rfl,rfl,by rw[Jl,lenV];exact hl,by simpa using rv⟩) (fun b u z=>by have z':(none:Option HO)=some u:=z;cases z') (fun b z=>absurd rfl z) fun z=>absurd rfl z
 |none =>
  refine core (fun b=>if b=a then some (.frz { cls:=.type "list",data:=.seq vs.toArray } (.lst (ns.map V.int))) else none) (fun b=>?_) (.inl (.inr ⟨{ cls:=.type "list",data:=.seq vs.toArray },if_pos rfl⟩)) (fun b u z=>?_) (fun b z=>?_) fun _=>hk
  ·by_cases hb:b=a
   ·exact .inr ⟨_,_,if_pos hb⟩
   ·exact .inl (if_neg hb)
  ·by_cases hb:b=a
   ·have z':=(if_pos hb).symm.trans z
    cases z'
    subst hb
    exact⟨ha,by rw[IJ];exact hl,vs,_,rv,ha⟩
   ·have z':=(if_neg hb).symm.trans z
    cases z'
  ·by_cases hb:b=a
   ·exact hb
   ·exact absurd (if_neg hb) z
end L2
namespace L2
open PySem PySem.Spec PyProof.Rows
theorem walk_of{l:Mq}{n k:Nat}{q:Program}{loose:List Str}{XP:(Str->Option Value)->Heap->Prop}{YP:World->Heap->Prop}{d:DefRec}{K:Params->IC}{CX:World->CXT}{sp:World->Sp}{x:Str}
  (hn:l.most=some n) (hn2:n<=sizeLine) (hdf:d.params.defaults = []) (hr:Room k callerA)
  (hY:∀(w:World)(h:Heap),YP w h->(K w.params).In h)
  (F:∀(w:World)(mg:Str->Option Value)(fa:Addr)(h:Heap),(K w.params).In h->h.Ns mainGlobals mg->mg d.name=some (.ref fa) ->
   ∃ fd:FuncData,(∀(s:Shared)(u:Value),BindsTo s fd ⟨[u],[]⟩ [(x,u)]) /\
    ∀ base:Heap,(K w.params).In base->base.Ns mainGlobals mg->FnOk l.prog w (K w.params) mg base (CX w) k fa fd [x] (sp w))
  (hsp:∀(w:World)(H:Hp)(a:Addr)(ns:List Int),ns.length<=n->Only H->SqL (K w.params) H a (ns.map V.int)->sp w [.ref a] H (fun v _=>v=.bl true) fun _ _ _=>False)
  (hCX:∀(w:World)(H:Hp)(s:Shared)(e:Value)(s':Shared),CX w [] H s (fun _ _ _=>False) e s'->False) :
  PySem.W.WalkO q loose XP YP l.row.toRowW d [] (fun f vs=>PySem.call f vs):=by
 refine Att.attach_call hn hdf fun w s₀ s₁ mg mb fa o pm cd doc a vs ns G Y ho hd hcd hmg hobj hints hlen hg=>?_
 have KX:=hY w _ Y
 obtain⟨fd,hb,hF⟩:=F w mg fa _ KX G.T.g hmg
 exact Fu KX G.T.g G.T.b G.T.builtins G.T.nolimit hg hobj hints (JG hlen hn2) hr hF hb (fun H hO hS=>hsp w H a ns hlen hO hS) fun H e s'=>hCX w H s₁ e s'
end L2
namespace L2
open PySem PySem.Spec PyProof.Rows
def kL(s:Stmt)(j:Nat):Stmt:=match s with
 |.ClassDef _ _ _ body _ _ _ _ _ _ _=>body.getD j (.Pass ⟨0,0,0,0⟩)
 |_=>.Pass ⟨0,0,0,0⟩
def ay(s:Stmt):Arguments:=match s with
 |.FunctionDef _ a _ _ _ _ _ _ _ _=>a
 |_=>{ posonlyargs:=[],args:=[],vararg:=none,kwonlyargs:=[],kw_defaults:=[],kwarg:=none,defaults:=[] }
def aw(s:Stmt):List Stmt:=match s with
 |.FunctionDef _ _ b _ _ _ _ _ _ _=>b
 |_=>[]
def ah(s:Stmt):Scope:=match s with
 |.FunctionDef _ _ _ _ _ _ sc _ _ _=>sc
 |_=>{ kind:=.function,names:=[],isGenerator:=false,isCoroutine:=false }
abbrev CX0:CXT:=fun _ _ _ _ _ _=>False
abbrev E0:XK:=fun _ _ _=>False
theorem bt{X:Cx}:lN CX0 X E0:=fun _ _ _ _ _ _ _ h=>h.elim
structure Fun(K:IC)(x qual:Str)(st:Stmt)(f:Addr)(fd:FuncData):Prop where
 ex:∃(oc:Value)(od:Option Addr)(kV doc pm:Value)(an:Option Addr)(cdv ct:Value)(osl:Array (Option Value)),
  fd=Jb x qual (ay st) (aw st) (ah st) .none kV doc pm an cdv ct/\K.lookup f=some ⟨oc,od,.func fd,osl⟩/\IZ K cdv qual=true
 kp:IQ K (.ref f)=true
section
variable{P:Program}{w:World}{K:IC}{mg:Str->Option Value}{base:Heap}
theorem Fun.ok{x qual:Str}{st:Stmt}{f:Addr}{fd:FuncData}{N ps:List Str}{k:Nat}{sp:Sp}(F:Fun K x qual st f fd)(S:aC N ps (ah st))(len:∀ vs H Q E,sp vs H Q E->vs.length=ps.length)
  (hbody:∀(cdv:Value)(A:Around)(outer:List Env)(s:Shared)(H:Hp)(vs:List V)(Q:VK)(E:XK),Room k (A.deeper (envOfC qual (ah st) s.heap.objs.size f cdv))->sp vs H Q E ->
   ∃ t,PSs (cxOf CX0 P w K mg base N qual (ah st) f cdv A outer s H E).nox (aw st) t/\t { nx:=fun _ H'=>Q .non H',rt:=Q } (oZ N vs) H):FnOk P w K mg base CX0 (k+1) f fd ps sp:=by
 obtain⟨oc,od,kV,doc,pm,an,cdv,ct,osl,rfl,lk,hcd⟩:=F.ex
 refine Ia lk hcd S len fun A outer s H vs Q E hr hsp=>?_
 obtain⟨t,h,q⟩:=hbody cdv A outer s H vs Q E hr hsp
 exact⟨t,h.nox,q⟩
theorem Fun.binds{x qual:Str}{st:Stmt}{f:Addr}{fd:FuncData}{ps:List Str}(F:Fun K x qual st f fd)
  (h:∀(kV doc pm:Value)(an:Option Addr)(cdv ct:Value)(us:List Value),us.length=ps.length->bindArgs (Jb x qual (ay st) (aw st) (ah st) .none kV doc pm an cdv ct) ⟨us,[]⟩=pure (ps.zip us)):fZ K fd ps []:=by
 obtain⟨oc,od,kV,doc,pm,an,cdv,ct,osl,rfl,lk,hcd⟩:=F.ex
 exact .all (h kV doc pm an cdv ct)
theorem aO{x qual:Str}{st:Stmt}{f:Addr}{oc:Value}{od an:Option Addr}{osl:Array (Option Value)}{kV doc pm cdv ct:Value}(l:K.lookup f=some ⟨oc,od,.func (Jb x qual (ay st) (aw st) (ah st) .none kV doc pm an cdv ct),osl⟩)
  (c:IZ K cdv qual=true) (k:IQ K (.ref f)=true):Fun K x qual st f (Jb x qual (ay st) (aw st) (ah st) .none kV doc pm an cdv ct):=⟨⟨oc,od,kV,doc,pm,an,cdv,ct,osl,rfl,l,c⟩,k⟩
end
theorem yA{A:Around}{k:Nat}(hr:Room k A):A.units+1<cLine:=Nat.lt_of_le_of_lt (Nat.add_le_add_left (by decide:1<=64) _) hr.units
theorem aB{n:Nat}(h:n<=1000):n<sizeLine:=Nat.lt_of_le_of_lt h (by decide)
section
variable{X:Cx}
theorem pv(i:Nat){x:Str}{pos:Pos}(hN:X.N[i]?=some x:=by rfl)(hv:Vis X.env.scope x:=by first | exact Or.inl rfl | exact Or.inr (Or.inl rfl) | exact Or.inr (Or.inr rfl)) (hd:(x == ("__debug__" : Str))=false:=by decide)
  (hcd:(x == ("__classdict__" : Str))=false:=by decide):PE X (.Name x pos) (tVar i):=pe_var hN hv hd hcd
end
theorem iteF{A B:Prop}(h:B):if false=true then A else B:=by
 rw[if_neg IS]
 exact h
theorem iteT{A B:Prop}(h:A):if true=true then A else B:=by
 rw[if_pos rfl]
 exact h
theorem ite2{c A B:Prop} [Decidable c] (h1:c->A) (h2:¬ c->B):if c then A else B:=by
 by_cases h:c
 ·rw[if_pos h]
  exact h1 h
 ·rw[if_neg h]
  exact h2 h
theorem Dv{c A B:Prop} [Decidable c] (hc:c) (h:B):if(!decide c)=true then A else B:=by
 rw[decide_eq_true hc]
 exact iteF h
def Same(H H':Hp):Prop:=∀ b o,H b=some o->H' b=some o
theorem Same.trans{H H1 H2:Hp}(a:Same H H1)(b:Same H1 H2):Same H H2:=fun c o h=>b c o (a c o h)
theorem Same.seq{K:IC}{H H':Hp}{a:Addr}{xs:List V}(e:Same H H')(h:SqL K H a xs):SqL K H' a xs:=by
 rcases h with(h | ⟨o,h⟩) | h
 ·exact .inl (.inl (e _ _ h))
 ·exact .inl (.inr ⟨o,e _ _ h⟩)
 ·exact .inr h
end L2
set_option maxRecDepth 100000
set_option maxHeartbeats 4000000
namespace L2
open PySem PySem.Spec PyProof.Rows
end L2
namespace L2
open PySem PySem.Spec PyProof.Rows
section
variable(P:Program)(w:World)
end
section
variable{P:Program}{w:World}{H H':Hp}{h h':Heap}{a:Addr}{o:HO}
end
section
variable{P:Program}{w:World}{H:Hp}{h h':Heap}{x e:Addr}{o':HO}
end
section
variable{fs fs' ex ex':List Addr}{H H1 H2:Hp}{h h1 h2 h':Heap}{a x e:Addr}{o:HO}
end
end L2
namespace L2
open PySem PySem.Spec PyProof.Rows
section
variable{X:Cx}{pins:List (Addr×Obj)}{σ:List (Option V)}{H H':Hp}{s:Shared}{h':Heap}
end
end L2
namespace L2
open PySem PySem.Spec PyProof.Rows
section
variable{X:Cx}
variable{a b:Expr}{ta tb:TE}{pos:Pos}
variable{tA tB':TT}{rest:List Expr}
end
end L2
namespace L2
open PySem PySem.Spec PyProof.Rows
section
variable{X:Cx}{pins:List (Addr×Obj)}{σ:St}{H:Hp}{s:Shared}{a:Addr}{xs ys:List V}
end
section
variable{X:Cx}{pins:List (Addr×Obj)}{σ:St}{H:Hp}{s:Shared}{E:Value->Shared->Prop}
end
section
variable{X:Cx}{st:Stmt}{rest:List Stmt}{t u:TS}{e:Expr}{te:TE}{pos:Pos}
end
section
variable{X:Cx}{pos:Pos}
end
section
variable{X:Cx}{pos:Pos}
end
end L2
namespace L2
open PySem PySem.Spec PyProof.Rows
section
variable{X:Cx}{tg:Expr}
end
end L2
namespace L2
open PySem PySem.Spec PyProof.Rows
section
variable{X:Cx}{a b c:Expr}{ta tb tc:TE}{pos:Pos}
end
section
variable{X:Cx}{a b c:Expr}{ta tb tc:TE}{pos:Pos}
end
end L2
namespace L2
open PySem PySem.Spec PyProof.Rows
section
variable{prog:Program}{w:World}{A:Around}{E:Value->Shared->Prop}{s:Shared}{K:IC}{x dx C f:Addr}{mA:Str->Option Value}{name:Str}{v:Value}
end
section
variable{P:Program}{w:World}{H H':Hp}{h h':Heap}{a C dx:Addr}{fs fs':List (Str×V)}
end
section
variable{X:Cx}{pins:List (Addr×Obj)}{σ:St}{H:Hp}{s:Shared}{a C dx:Addr}{fs:List (Str×V)}{f:Str}{v:V}{A:Around}{E:Value->Shared->Prop}
end
section
variable{X:Cx}{o e value:Expr}{f:Str}{pos pos' tpos:Pos}{ta tv:TE}
end
section
variable{X:Cx}{pins:List (Addr×Obj)}{σ:St}{H:Hp}{s:Shared}{A:Around}{E:Value->Shared->Prop}{Q:Value->Shared->Prop}{c:Value}{b:Bool}
end
end L2
namespace L2
open PySem PySem.Spec PyProof.Rows
section
variable{X:Cx}{e:Expr}{es:List Expr}{te:TE}{t:TA}{pos:Pos}
end
section
variable{X:Cx}{pins:List (Addr×Obj)}{σ:St}{H:Hp}{s s':Shared}
end
section
variable{X:Cx}{CX:CXT}{k:Nat}{f C:Addr}{fd:FuncData}{ps:List Str}{sp:Sp}{dvs:List V}{ds:List Value}{E:XK}{x m:Str}{p pos apos:Pos}{e o:Expr}{es:List Expr}{ta:TE}{t:TA}
end
section
variable{X:Cx}{CX:CXT}{k:Nat}{f C:Addr}{fd:FuncData}{ps ks:List Str}{sp:Sp}{E:XK}{x m:Str}{p pos apos kpos:Pos}{e o:Expr}{es:List Expr}{kws:List Keyword}{te ta:TE}{t tk:TA}{nm:Option Str}
variable{g:List Value->List Value->List Value}{gV:List V->List V->List V}
end
end L2
namespace L2
open PySem PySem.Spec PyProof.Rows
section
variable{X:Cx}{x:Str}{p pos:Pos}{e:Expr}{es:List Expr}{t:TA}{id T:String}{r:List V->Hp->VK->Prop}
end
end L2
namespace L2
open PySem PySem.Spec PyProof.Rows
section
variable{κ:Type} [DecidableEq κ]
def valV(kvs:List (κ×V))(k:κ):Option V:=(kvs.find? fun kv=>decide (kv.1=k)).map (·.2)
def putK(kvs:List (κ×V))(k:κ)(v:V):List (κ×V) :=
 if(kvs.any fun kv=>decide (kv.1=k))=true then kvs.map (fun kv=>if kv.1=k then(kv.1,v) else kv) else kvs++[(k,v)]
theorem bE{p:κ×V}{r:List (κ×V)}{k:κ}(e:p.1=k):valV (p::r) k=some p.2:=by simp[valV,Lf,e]
theorem bF{p:κ×V}{r:List (κ×V)}{k:κ}(e:¬ p.1=k):valV (p::r) k=valV r k:=by simp[valV,Lf,e]
theorem hV(k:κ):∀ kvs:List (κ×V),(kvs.any fun kv=>decide (kv.1=k))=(valV kvs k).isSome
 |[]=>rfl
 |p::r=>by
  rw[LG]
  by_cases e:p.1=k
  ·simp only[bE e,decide_eq_true e,Bool.true_or,Option.isSome_some]
  ·rw[bF e,decide_eq_false e,Md];exact hV k r
theorem zC(k j:κ)(y:V):∀ kvs:List (κ×V),valV (kvs.map fun kv=>if kv.1=k then(kv.1,y) else kv) j=(valV kvs j).map fun x=>if j=k then y else x
 |[]=>rfl
 |p::r=>by
  have ih:=zC k j y r
  rw[Ju]
  by_cases h:p.1=k
  ·rw[if_pos h]
   by_cases e:p.1=j
   ·rw[bE (p:=(p.1,y)) e,bE e,LP,if_pos (e.symm.trans h)]
   ·rw[bF (p:=(p.1,y)) e,bF e,ih]
  ·rw[if_neg h]
   by_cases e:p.1=j
   ·rw[bE (p:=p) e,bE e,LP,if_neg (fun z=>h (e.trans z))]
   ·rw[bF (p:=p) e,bF e,ih]
theorem tF(k j:κ)(y:V):∀ kvs:List (κ×V),valV kvs k=none->valV (kvs++[(k,y)]) j=if j=k then some y else valV kvs j
 |[],_=>by
  by_cases e:k=j
  ·rw[if_pos e.symm];exact bE (p:=(k,y)) e
  ·rw[if_neg (fun z=>e z.symm)];exact bF (p:=(k,y)) e
 |p::r,hn=>by
  rw[List.cons_append]
  have hk:¬ p.1=k:=fun z=>by rw[bE z]at hn;cases hn
  rw[bF hk]at hn
  have ih:=tF k j y r hn
  by_cases e:p.1=j
  ·rw[bE e,bE e,if_neg (fun z=>hk (e.trans z))]
  ·rw[bF e,bF e,ih]
theorem qy(kvs:List (κ×V))(k j:κ)(y:V):valV (putK kvs k y) j=if j=k then some y else valV kvs j:=by
 unfold putK
 by_cases a:(kvs.any fun kv=>decide (kv.1=k))=true
 ·rw[if_pos a,zC]
  rw[hV]at a
  by_cases e:j=k
  ·obtain⟨x,hx⟩:=MF.mp a
   rw[if_pos e,e,hx,LP,if_pos rfl]
  ·rw[if_neg e]
   cases valV kvs j with
   |none=>rfl
   |some x=>rw[LP,if_neg e]
 ·rw[if_neg a]
  refine tF k j y kvs ?_
  rw[hV]at a
  cases q:valV kvs k with
  |none=>rfl
  |some x=>rw[q]at a;exact(a rfl).elim
theorem cJ(kvs:List (κ×V))(k:κ)(v:V):(putK kvs k v).length<=kvs.length+1:=by
 unfold putK
 split
 ·rw[IJ];omega
 ·rw[IF,Jm,KW];omega
theorem mP{kvs:List (κ×V)}{k:κ}(v:V)(h:valV kvs k=none):putK kvs k v=kvs++[(k,v)]:=by
 unfold putK
 rw[hV,h]
 exact if_neg (by decide)
theorem RelO.isSome_eq{o:Option V}{u:Option Value}(r:RelO o u):o.isSome=u.isSome:=by
 cases o with
 |none=>cases u with
  |none=>rfl
  |some _=>exact(show False from r).elim
 |some _=>cases u with
  |none=>exact(show False from r).elim
  |some _=>rfl
theorem RelO.getD{o:Option V}{u:Option Value}{d:V}{d':Value}(r:RelO o u)(rd:RelV d d'):RelV (o.getD d) (u.getD d'):=by
 cases o with
 |none=>cases u with
  |none=>exact rd
  |some _=>exact(show False from r).elim
 |some _=>cases u with
  |none=>exact(show False from r).elim
  |some _=>exact r
theorem KV.val{kvs:List (κ×V)}{vs:List (κ×Value)}(r:KV kvs vs)(k:κ):RelO (valV kvs k) (valueAt vs k):=by
 unfold KV at r
 induction r with
 |nil=>exact True.intro
 | @cons p q ps qs h t ih =>
  obtain⟨h1,h2⟩:=h
  by_cases e:p.1=k
  ·have e':q.1=k:=h1.symm.trans e
   have b:valueAt (q::qs) k=some q.2:=by simp[valueAt,Lf,e']
   rw[bE e,b];exact h2
  ·have e':¬ q.1=k:=fun z=>e (h1.trans z)
   have b:valueAt (q::qs) k=valueAt qs k:=by simp[valueAt,Lf,e']
   rw[bF e,b];exact ih
theorem KV.any{kvs:List (κ×V)}{vs:List (κ×Value)}(r:KV kvs vs)(k:κ):(kvs.any fun kv=>decide (kv.1=k))=vs.any fun kv=>decide (kv.1=k):=by
 unfold KV at r
 induction r with
 |nil=>rfl
 |cons h t ih=>rw[LG,LG,ih,h.1]
theorem KV.repl{kvs:List (κ×V)}{vs:List (κ×Value)}(r:KV kvs vs)(k:κ){y:V}{u:Value}(ry:RelV y u) :
  KV (kvs.map fun kv=>if kv.1=k then(kv.1,y) else kv) (vs.map fun kv=>if kv.1=k then(kv.1,u) else kv):=by
 unfold KV at r ⊢
 induction r with
 |nil=>exact .nil
 | @cons p q ps qs h t ih =>
  rw[Ju,Ju]
  refine .cons ?_ ih
  obtain⟨h1,h2⟩:=h
  by_cases e:p.1=k
  ·rw[if_pos e,if_pos (h1.symm.trans e)];exact⟨h1,ry⟩
  ·rw[if_neg e,if_neg (fun z=>e (h1.trans z))];exact⟨h1,h2⟩
theorem KV.put{kvs:List (κ×V)}{vs:List (κ×Value)}(r:KV kvs vs)(k:κ){y:V}{u:Value}(ry:RelV y u):KV (putK kvs k y) (stored vs k u):=by
 unfold putK stored
 rw[r.any k]
 by_cases e:(vs.any fun kv=>decide (kv.1=k))=true
 ·rw[if_pos e,if_pos e];exact r.repl k ry
 ·rw[if_neg e,if_neg e];exact Paired.snoc r ⟨rfl,ry⟩
theorem KV.length{kvs:List (κ×V)}{vs:List (κ×Value)}(r:KV kvs vs):kvs.length=vs.length:=Paired.length r
end
theorem yu{P:Program}{w:World}{k:Key}{u:Value}(r:RelV (kV k) u):(bA P w).is k u=true:=by
 cases k with
 |inl i=>obtain⟨t,e⟩:=(show ∃ t,u=Value.int i t from r);subst e;exact yb P w i t
 |inr x=>obtain⟨t,e⟩:=(show ∃ t,u=Value.str x t from r);subst e;exact ya P w x t
theorem u6{P:Program}{w:World}:∀{ks:List Key}{us:List Value},Vals (ks.map kV) us->ItemsAre (bA P w) ks us
 |[],_,r=>by rw[Mi]at r;cases r;exact .nil
 |k::ks,_,r=>by
  rw[Ju]at r
  cases r with
  |cons h t=>exact .cons (yu h) (u6 t)
abbrev KT(H:Hp):List (List Key×V)->List (List Key×Addr×Value)->Prop:=Paired fun p q=>p.1=q.1/\H q.2.1=some (.tup (p.1.map kV))/\RelV p.2 q.2.2
theorem KT.val{H:Hp}{kvs:List (List Key×V)}{xs:List (List Key×Addr×Value)}(r:KT H kvs xs)(k:List Key):RelO (valV kvs k) ((atKey xs k).map (·.2)):=by
 induction r with
 |nil=>exact True.intro
 | @cons p q ps qs h t ih =>
  obtain⟨h1,_,h2⟩:=h
  by_cases e:p.1=k
  ·have e':q.1=k:=h1.symm.trans e
   have b:atKey (q::qs) k=some q.2:=by simp[atKey,Lf,e']
   rw[bE e,b];exact h2
  ·have e':¬ q.1=k:=fun z=>e (h1.trans z)
   have b:atKey (q::qs) k=atKey qs k:=by simp[atKey,Lf,e']
   rw[bF e,b];exact ih
theorem KT.repl{H:Hp}{kvs:List (List Key×V)}{xs:List (List Key×Addr×Value)}(r:KT H kvs xs)(k:List Key){y:V}{u:Value}(ry:RelV y u) :
  KT H (kvs.map fun kv=>if kv.1=k then(kv.1,y) else kv) (xs.map (putAt k u)):=by
 induction r with
 |nil=>exact .nil
 | @cons p q ps qs h t ih =>
  rw[Ju,Ju]
  refine .cons ?_ ih
  obtain⟨h1,h2,h3⟩:=h
  unfold putAt
  by_cases e:p.1=k
  ·rw[if_pos e,if_pos (h1.symm.trans e)];exact⟨h1,h2,ry⟩
  ·rw[if_neg e,if_neg (fun z=>e (h1.trans z))];exact⟨h1,h2,h3⟩
theorem KT.put{H:Hp}{kvs:List (List Key×V)}{xs:List (List Key×Addr×Value)}(r:KT H kvs xs)(k:List Key){b:Addr}{y:V}{u:Value}(hb:H b=some (.tup (k.map kV)))(ry:RelV y u) :
  KT H (putK kvs k y) (storedH xs k b u):=by
 have e:(kvs.any fun kv=>decide (kv.1=k))=(atKey xs k).isSome:=by
  rw[hV,(r.val k).isSome_eq,Option.isSome_map]
 unfold putK storedH
 rw[e]
 by_cases q:(atKey xs k).isSome=true
 ·rw[if_pos q,if_pos q];exact r.repl k ry
 ·rw[if_neg q,if_neg q];exact Paired.snoc r ⟨rfl,hb,ry⟩
theorem KT.keeps{H H':Hp}{kvs:List (List Key×V)}{xs:List (List Key×Addr×Value)}(r:KT H kvs xs)(ht:∀ b ys,H b=some (.tup ys)->H' b=some (.tup ys)):KT H' kvs xs :=
 Paired.mapP r fun _ _ z=>⟨z.1,ht _ _ z.2.1,z.2.2⟩
section
variable{P:Program}{w:World}{H:Hp}{h:Heap}{a:Addr}
theorem rd_of{u:HO}(ok:HOk P w H h)(e:Rd H a u):aY P w H h a u:=e.ok ok
theorem vh{kvs:List (Key×V)}(ok:HOk P w H h)(e:Rd H a (.dK kvs)):kvs.length<=sizeLine/\(a == sysModules)=false/\∃ vs,KV kvs vs/\h.DictOf (bA P w) a vs :=
 show aY P w H h a (.dK kvs) from rd_of ok e
theorem Ik{kvs:List (Key×V)}(ok:HOk P w H h)(e:H a=some (.dK kvs)):kvs.length<=sizeLine/\(a == sysModules)=false/\∃ vs,KV kvs vs/\h.DictOf (bA P w) a vs:=vh ok (.inl e)
theorem uV{ks:List Key}(ok:HOk P w H h)(e:H a=some (.tup (ks.map kV))):(tupleKind (bA P w)).is h ks a:=by
 obtain⟨_,its,r,o,h1,h2,n,h3⟩:=(show aY P w H h a (.tup (ks.map kV)) from ok a _ e)
 exact⟨o,its.toArray,n,h1,h2,h3,by simpa using u6 r⟩
theorem Be{kvs:List (List Key×V)}(ok:HOk P w H h)(e:Rd H a (.dT kvs)):kvs.length<=sizeLine/\(a == sysModules)=false /\
  ∃ xs,KT H kvs xs/\h.DictOfH (tupleKind (bA P w)) a xs:=by
 obtain⟨z,y,xs,r,o,es,ep,h1,h2,h3,h4,h5⟩:=(show aY P w H h a (.dT kvs) from rd_of ok e)
 refine⟨z,y,xs,r,o,es,ep,h1,h2,h3,h4,fun x hx=>?_,h5⟩
 have all:∀{l:List (List Key×V)}{m:List (List Key×Addr×Value)},KT H l m->∀ x∈m,(tupleKind (bA P w)).is h x.1 x.2.1:=by
  intro l m q
  induction q with
  |nil=>intro x hx;exact nomatch hx
  | @cons p q ps qs hq t ih =>
   intro x hx
   rcases IL.mp hx with e | hx
   ·subst e
    exact uV ok (by rw[← hq.1];exact hq.2.1)
   ·exact ih x hx
 exact all r x hx
theorem dt_of{kvs:List (List Key×V)}(ok:HOk P w H h)(e:H a=some (.dT kvs)):kvs.length<=sizeLine/\(a == sysModules)=false /\
  ∃ xs,KT H kvs xs/\h.DictOfH (tupleKind (bA P w)) a xs:=Be ok (.inl e)
end
def DGet(H:Hp)(a:Addr)(y:V)(r:Option V):Prop :=
 (∃ kvs k,Rd H a (.dK kvs)/\y=kV k/\r=valV kvs k)∨∃ kvs k b,Rd H a (.dT kvs)/\y=.ref b/\H b=some (.tup (k.map kV))/\r=valV kvs k
def DPut(H:Hp)(a:Addr)(y v:V)(H':Hp):Prop :=
 (∃ kvs k,H a=some (.dK kvs)/\y=kV k/\kvs.length<sizeLine/\H'=upd H a (.dK (putK kvs k v))) ∨
 ∃ kvs k b,H a=some (.dT kvs)/\y=.ref b/\H b=some (.tup (k.map kV))/\kvs.length<sizeLine/\H'=upd H a (.dT (putK kvs k v))
theorem DGet.k{H:Hp}{a:Addr}{kvs:List (Key×V)}{k:Key}(e:H a=some (.dK kvs)):DGet H a (kV k) (valV kvs k):=.inl ⟨kvs,k,.inl e,rfl,rfl⟩
theorem DPut.k{H:Hp}{a:Addr}{kvs:List (Key×V)}{k:Key}{v:V}(e:H a=some (.dK kvs))(hl:kvs.length<sizeLine):DPut H a (kV k) v (upd H a (.dK (putK kvs k v))):=.inl ⟨kvs,k,e,rfl,hl,rfl⟩
section
variable{X:Cx}{pins:List (Addr×Obj)}{σ:St}{H:Hp}{s:Shared}{a:Addr}{y v:V}{u r:Value}{o:Option V}{A:Around}{E:Value->Shared->Prop}
theorem Inv.big(I:Inv X pins σ H s):sysModules<s.heap.objs.size:=by
 have h:mainGlobals<s.heap.objs.size:=(I.mod.glob.keeps I.bk).lt
 exact Nat.lt_trans (by decide) h
theorem D4{Q:Value->Shared->Prop}(hu:A.units+1<cLine)(I:Inv X pins σ H s)(g:DGet H a y (some v))(ry:RelV y u)(h:∀ w' s',Inv X pins σ H s'->RelV v w'->Q w' s') :
  wpAny (model X.prog X.w) A (getItem (.ref a) u) Q E s:=by
 rcases g with⟨kvs,k,e,ey,l⟩ | ⟨kvs,k,b,e,ey,eb,l⟩
 ·subst ey
  obtain⟨z,hd,vs,rel,dd⟩:=vh I.hok e
  obtain⟨w',hw,rw'⟩:=RelO.some_of (v:=v) (o:=valueAt vs k) (by rw[l];exact rel.val k)
  exact wpAny_getItem_of (yu ry) dd.mapOf hw (h w' _ (I.tok _) rw')
 ·subst ey
  cases (show u=Value.ref b from ry)
  obtain⟨z,hd,xs,rel,dd⟩:=Be I.hok e
  obtain⟨w',hw,rw'⟩:=RelO.some_of (v:=v) (o:=(atKey xs k).map (·.2)) (by rw[l];exact rel.val k)
  obtain⟨p,hp,hp2⟩:=Jd.mp hw
  refine wpAny_getItem_heap (tupleKind_room_in1 hu) (uV I.hok eb) dd hp ?_
  rw[hp2]
  exact h w' _ (I.tok _) rw'
theorem Im{Q:Value->Shared->Prop}(hu:A.units+1<cLine)(I:Inv X pins σ H s)(g:DGet H a y o)(ry:RelV y u)(h:∀ s',Inv X pins σ H s'->Q (.bool (!o.isSome)) s') :
  wpAny (model X.prog X.w) A (compareOp .NotIn u (.ref a)) Q E s:=by
 rcases g with⟨kvs,k,e,ey,l⟩ | ⟨kvs,k,b,e,ey,eb,l⟩
 ·subst ey
  obtain⟨z,hd,vs,rel,dd⟩:=vh I.hok e
  refine wpAny_notIn_of (yu ry) hd dd.mapOf ?_
  rw[← (rel.val k).isSome_eq,← l]
  exact h _ (I.tok _)
 ·subst ey
  cases (show u=Value.ref b from ry)
  obtain⟨z,hd,xs,rel,dd⟩:=Be I.hok e
  refine wpAny_notIn_heap (tupleKind_room_in1 hu) (uV I.hok eb) hd dd ?_
  have q:=(rel.val k).isSome_eq
  rw[Option.isSome_map]at q
  rw[← q,← l]
  exact h _ (I.tok _)
theorem su{h':Heap}{t':Nat}{ob:HO}(I:Inv X pins σ H s)(mu:Mut (H a))(hs:Heap.SameBut a s.heap h')(he:∃ q,h'.get? a=some q)(new:aY X.prog X.w (upd H a ob) h' a ob) :
  Inv X pins σ (upd H a ob) { s with heap:=h',toks:=t' } :=
 I.write (x:=a) (e:=a) mu (.inl rfl) (fun b q hb z=>(hs.2 b hb).trans z) he new
theorem Ai{P:Program}{w:World}{H':Hp}{h':Heap}{kvs:List (Key×V)}{vs:List (Key×Value)}(z:kvs.length<=sizeLine)(hd:(a == sysModules)=false)(rel:KV kvs vs)(dd:h'.DictOf (bA P w) a vs) :
  aY P w H' h' a (.dK kvs):=⟨z,hd,vs,rel,dd⟩
theorem DZ{H':Hp}{Q:Unit->Shared->Prop}(hu:A.units+1<cLine)(I:Inv X pins σ H s)(g:DPut H a y v H')(ry:RelV y u)(rv:RelV v r)(h:∀ s',Inv X pins σ H' s'->Q () s') :
  wpAny (model X.prog X.w) A (setItem (.ref a) u r) Q E s:=by
 rcases g with⟨kvs,k,e,ey,l,eH⟩ | ⟨kvs,k,b,e,ey,eb,l,eH⟩
 ·subst ey eH
  obtain⟨z,hd,vs,rel,dd⟩:=Ik I.hok e
  have hz:vs.length<=sizeLine:=by rw[← rel.length];exact z
  have hl:(putK kvs k v).length<=sizeLine:=by have:=cJ kvs k v;omega
  refine wpAny_setItem_pairs (hsz:=hz) (yu ry) dd fun h' dd' hs=>h _ ?_
  have he:∃ q,h'.get? a=some q:=let ⟨q,_,_,hq,_⟩:=dd';⟨q,hq⟩
  exact su I (by rw[e];exact True.intro) hs he (Ai hl hd (rel.put k rv) dd')
 ·subst ey eH
  cases (show u=Value.ref b from ry)
  obtain⟨z,hd,xs,rel,dd⟩:=dt_of I.hok e
  have hz:xs.length<=sizeLine:=by rw[← Paired.length rel];exact z
  have hl:(putK kvs k v).length<=sizeLine:=by have:=cJ kvs k v;omega
  refine wpAny_setItem_heap (hsz:=hz) (tupleKind_room_in1 hu) (uV I.hok eb) dd fun h' dd' hs=>h _ ?_
  obtain⟨q,es,ep,hq,h2,h3,h4,_,h5⟩:=dd'
  refine su I (by rw[e];exact True.intro) hs ⟨q,hq⟩ ⟨hl,hd,_,(rel.put k eb rv).keeps fun c ys ec=>?_,q,es,ep,hq,h2,h3,h4,h5⟩
  rw[ai (AM ec e (fun z=>nomatch z))]
  exact ec
end
section
variable{X:Cx}{pins:List (Addr×Obj)}{σ:St}{H:Hp}{s:Shared}{a:Addr}{kvs:List (Key×V)}{k:Key}{u:Value}{A:Around}{E:Value->Shared->Prop}
theorem d_len{Q:Value->Shared->Prop}(I:Inv X pins σ H s)(e:Rd H a (.dK kvs))(h:∀ t s',Inv X pins σ H s'->Q (.int kvs.length t) s'):wpAny (model X.prog X.w) A (call (.builtin "len") [.ref a]) Q E s:=by
 obtain⟨z,hd,vs,rel,dd⟩:=vh I.hok e
 refine call_len_dict hd dd (by rw[← rel.length];rw[sizeLine_eq]at z;omega) ?_
 rw[← rel.length]
 exact h _ _ (I.tok _)
end
def NoSl(i:Expr):Prop:=∀ ov iv,subscripted i false ov iv=operate [ov,iv] (getItem ov iv)
theorem G0{prog:Program}{w:World}{A:Around}{E:Value->Shared->Prop}{s:Shared}{env:Env}{value slice:Expr}{pos:Pos}{T id:String}{Q:Value->Shared->Prop}
  (hl:typeLookup (.type T) "__getitem__" = pure (some (.builtin id))) (hs:NoSl slice)
  (h:wpAny (model prog w) A (eval value env) (fun o s₁=>wpAny (model prog w) A (eval slice env) (fun i s₂=>s₂.TypeIs o T/\wpAny (model prog w) A (getItem o i) Q E s₂) E s₁) E s) :
  wpAny (model prog w) A (eval (.Subscript value slice pos) env) Q E s:=by
 refine Subscript_ (wpAny_mono h (fun o s₁ h₁=>wpAny_mono h₁ (fun i s₂ h₂=>?_) fun _ _ x=>x) fun _ _ x=>x)
 obtain⟨hT,h₂⟩:=h₂
 unfold subscriptTail
 refine wpAny_bind ?_
 rw[getitemInPython_of_ne hT.not_modules]
 refine wpAny_bind (wpAny_specialOf hT hl ?_)
 have fin:wpAny (model prog w) A (subscripted slice false o i) (fun r s₃=>wpAny (model prog w) A (letTemporaryGo value o r >>= fun _=>pure r) Q E s₃) E s₂:=by
  rw[hs o i]
  exact wpAny_operating (wpAny_mono h₂ (fun r s₃ h₃=>wpAny_bind (wpAny_letTemporaryGo (wpAny_pure h₃))) fun _ _ x=>x)
 first
  |exact wpAny_pure (wpAny_bind fin)
  |exact wpAny_bind (wpAny_pure (wpAny_bind fin))
  |exact wpAny_bind fin
theorem yF{X:Cx}{pins:List (Addr×Obj)}{σ:St}{H:Hp}{s:Shared}{a:Addr}{y:V}{o:Option V}(I:Inv X pins σ H s)(g:DGet H a y o):s.TypeIs (.ref a) "dict":=by
 rcases g with⟨kvs,k,e,_,_⟩ | ⟨kvs,k,b,e,_,_,_⟩
 ·obtain⟨_,_,vs,_,dd⟩:=vh I.hok e
  exact dd.typeIs
 ·obtain⟨_,_,xs,_,dd⟩:=Be I.hok e
  exact dd.typeIs
def tDGet(td ty:TE):TE:=fun σ H Q=>td σ H fun x H1=>ty σ H1 fun y H2=>∃ a v,x=.ref a/\DGet H2 a y (some v)/\Q v H2
def GX(ty td:TE):TE:=fun σ H Q=>ty σ H fun y H1=>td σ H1 fun x H2=>∃ a o,x=.ref a/\DGet H2 a y o/\Q (.bl (!o.isSome)) H2
def sDPut(td ty tv:TE):TS:=fun D σ H=>tv σ H fun v H1=>td σ H1 fun x H2=>ty σ H2 fun y H3=>∃ a H4,x=.ref a/\DPut H3 a y v H4/\D.nx σ H4
section
variable{X:Cx}{o i e value:Expr}{pos pos' tpos:Pos}{td ty tv:TE}
theorem qX(hu:X.A.units+1<cLine)(ho:PE X o td)(hi:PE X i ty)(hs:NoSl i):PE X (.Subscript o i pos) (tDGet td ty):=by
 intro pins s σ H Q I h
 refine G0 PySem.F.slot_dict_getitem.lookup hs (thn (ho pins s σ H _ I h) fun u s1 ⟨x,H1,I1,rx,q1⟩=>thn (hi pins s1 σ H1 _ I1 q1) fun iv s2 ⟨y,H2,I2,ry,a,v,ex,g,q2⟩=>?_)
 subst ex
 obtain rfl:u=Value.ref a:=rx
 exact⟨yF I2 g,D4 hu I2 g ry fun w' s3 I3 rw'=>⟨v,H2,I3,rw',q2⟩⟩
theorem uu(hu:X.A.units+1<cLine)(hi:PE X i ty)(ho:PE X o td):PC X .NotIn i o (GX ty td):=by
 intro pins s σ H Q I h
 refine thn (hi pins s σ H _ I h) fun iv s1 ⟨y,H1,I1,ry,q1⟩=>thn (ho pins s1 σ H1 _ I1 q1) fun u s2 ⟨x,H2,I2,rx,a,ov,ex,g,q2⟩=>?_
 subst ex
 obtain rfl:u=Value.ref a:=rx
 exact Im hu I2 g ry fun s3 I3=>⟨.bl (!ov.isSome),H2,I3,rfl,q2⟩
theorem qP(hu:X.A.units+1<cLine)(ho:PE X o td)(hi:PE X i ty)(hv:PE X value tv)(hs:swapsWith value (some (.Subscript o i pos')) pos.line X.env=pure false) :
  PS X (.Assign [.Subscript o i pos'] value pos) (sDPut td ty tv):=by
 intro pins s σ H D I h
 refine wpAny_Assign_Subscript (thn (hv pins s σ H _ I h) fun r s1 ⟨v,H1,I1,rv,q1⟩=>thn (ho pins s1 σ H1 _ I1 q1) fun u s2 ⟨x,H2,I2,rx,q2⟩=>thn (hi pins s2 σ H2 _ I2 q2) fun iv s3 ⟨y,H3,I3,ry,a,H4,ex,g,q3⟩=>?_) hs
 subst ex
 obtain rfl:u=Value.ref a:=rx
 exact DZ hu I3 g ry rv fun s4 I4=>⟨σ,H4,I4,q3⟩
end
theorem Aj{P:Program}{w:World}{H:Hp}(h:Heap)(hb:sysModules<h.objs.size):aY P w H (h.push { cls:=.type "dict",data:=.dict #[] }) h.objs.size (.dK []) :=
 ⟨JL _,beq_eq_false_iff_ne.mpr (Ne.symm (Jf hb)),[],.nil,Heap.DictOf.new h⟩
def tDNewK:TE:=fun _ H Q=>∀ p,H p=none->Q (.ref p) (upd H p (.dK []))
section
variable{X:Cx}{pos:Pos}
theorem mQ:PE X (.Dict [] [] pos) tDNewK:=fun pins s σ H Q I h =>
 wpAny_Dict_empty ⟨.ref s.heap.objs.size,_,I.laid (a:=s.heap.objs.size) (o:=.dK []) (t':=s.toks) (fun _ _ q=>Heap.get?_push_of_some _ q) (IG _) (Aj s.heap I.big),rfl,h _ (I.hok.fresh (IG _))⟩
end
def BS:List (TE×TE)->St->Hp->(List (V×V)->Hp->Prop)->Prop
 |[],_,H,Q=>Q [] H
 | (tk,tv)::r,σ,H,Q=>tk σ H fun x H1=>tv σ H1 fun y H2=>BS r σ H2 fun ps H3=>Q ((x,y)::ps) H3
abbrev VV:List (V×V)->List (Value×Value)->Prop:=Paired fun p q=>RelV p.1 q.1/\RelV p.2 q.2
def PPs(X:Cx)(pos:Pos)(keys:List (Option Expr))(values:List Expr)(trs:List (TE×TE)):Prop :=
 ∀(pins:List (Addr×Obj))(s:Shared)(σ:St)(H:Hp)(Q:List (V×V)->Hp->Prop),Inv X pins σ H s->BS trs σ H Q ->
  wpAny (model X.prog X.w) X.A (evalPairs (pairTrees keys values X.env pos)) (fun vs s'=>∃ ps H',Inv X pins σ H' s'/\VV ps vs/\Q ps H') X.xe s
theorem Cu{X:Cx}{pos:Pos}:PPs X pos [] [] []:=fun pins s σ H Q I h=>pairTrees_nil_walk ⟨[],H,I,.nil,h⟩
theorem zN{X:Cx}{pos:Pos}{k v:Expr}{ks:List (Option Expr)}{vs:List Expr}{tk tv:TE}{trs:List (TE×TE)}(hk:PE X k tk)(hv:PE X v tv)(hr:PPs X pos ks vs trs) :
  PPs X pos (some k::ks) (v::vs) ((tk,tv)::trs):=fun pins s σ H Q I h =>
 pairTrees_cons_walk (thn (hk pins s σ H _ I h) fun u s1 ⟨x,H1,I1,rx,q1⟩=>thn (hv pins s1 σ H1 _ I1 q1) fun w2 s2 ⟨y,H2,I2,ry,q2⟩ =>
  thn (hr pins s2 σ H2 _ I2 q2) fun ws s3 ⟨ps,H3,I3,rel,q3⟩=>⟨(x,y)::ps,H3,I3,.cons ⟨rx,ry⟩ rel,q3⟩)
def nG(kvs more:List (Key×V)):List (Key×V):=more.foldl (fun acc kv=>putK acc kv.1 kv.2) kvs
theorem KV.merge:∀{more:List (Key×V)}{rs:List (Key×Value)}{kvs:List (Key×V)}{vs:List (Key×Value)},KV more rs->KV kvs vs->KV (nG kvs more) (merged vs rs):=by
 intro more rs kvs vs r
 unfold KV at r
 induction r generalizing kvs vs with
 |nil=>intro q;exact q
 | @cons p q ps qs h t ih =>
  intro r0
  have e:KV (putK kvs p.1 p.2) (stored vs q.1 q.2):=by
   have:=r0.put p.1 h.2
   rw[← h.1];exact this
  exact ih e
theorem jJ:∀(more kvs:List (Key×V)),(nG kvs more).length<=kvs.length+more.length
 |[],kvs=>by show kvs.length<=kvs.length+0;omega
 |p::r,kvs=>by
  have h1:=jJ r (putK kvs p.1 p.2)
  have h2:=cJ kvs p.1 p.2
  show(nG (putK kvs p.1 p.2) r).length<=_
  rw[Jm];omega
theorem qe{P:Program}{w:World}:∀{kvs:List (Key×V)}{ws:List (Value×Value)},VV (kvs.map fun kv=>(kV kv.1,kv.2)) ws->∃ rs,Carries (bA P w) ws rs/\KV kvs rs
 |[],_,r=>by rw[Mi]at r;cases r;exact⟨[],True.intro,.nil⟩
 |p::kvs,_,r=>by
  rw[Ju]at r
  cases r with
  | @cons a b as bs h t =>
   obtain⟨rs,c,q⟩:=qe (P:=P) (w:=w) t
   obtain⟨b1,b2⟩:=b
   exact⟨(p.1,b2)::rs,⟨yu h.1,rfl,c⟩,.cons ⟨rfl,h.2⟩ q⟩
def oY(trs:List (TE×TE)):TE:=fun σ H Q=>∀ p,H p=none->BS trs σ (upd H p (.dK [])) fun ps H2=>H2 p=some (.dK [])/\∃ kvs:List (Key×V),ps=kvs.map (fun kv=>(kV kv.1,kv.2))/\kvs.length<=15/\Q (.ref p) (upd H2 p (.dK (nG [] kvs)))
theorem CG{X:Cx}{pos:Pos}{keys:List (Option Expr)}{values:List Expr}{trs:List (TE×TE)}(h:PPs X pos keys values trs)(hall:keys.all (·.isSome)=true)(hl:keys.length=values.length)(h0:keys≠[])
  (h15:keys.length<=15):PE X (.Dict keys values pos) (oY trs):=by
 intro pins s σ H Q I q
 have hn:=I.hok.fresh (IG s.heap.objs.size)
 have I1:=I.laid (a:=s.heap.objs.size) (o:=.dK []) (h':=s.heap.push { cls:=.type "dict",data:=.dict #[] }) (t':=s.toks) (fun _ _ q=>Heap.get?_push_of_some _ q) (IG _) (Aj s.heap I.big)
 refine wpAny_Dict_walk (knd:=bA X.prog X.w) hall hl h0 h15 (thn (h pins _ σ _ _ I1 (q _ hn)) fun ws s2 ⟨ps,H2,I2,rel,e,kvs,ep,lk,q2⟩=>?_)
 subst ep
 obtain⟨rs,c,rk⟩:=qe (P:=X.prog) (w:=X.w) rel
 obtain⟨z,hd,vs0,r0,dd⟩:=Ik I2.hok e
 cases r0
 refine⟨rs,c,dd,fun h' dd' hs=>⟨.ref s.heap.objs.size,_,?_,rfl,q2⟩⟩
 have hz:(nG [] kvs).length<=sizeLine:=by
  have h1:=jJ kvs []
  rw[KW]at h1
  rw[sizeLine_eq];omega
 have he:∃ q,h'.get? s.heap.objs.size=some q:=let ⟨q,_,_,hq,_⟩:=dd';⟨q,hq⟩
 exact su I2 (by rw[e];exact True.intro) hs he (Ai hz hd (rk.merge .nil) dd')
structure M2(X:Cx)(o:Expr)(m:Str)(apos:Pos)(e f:Expr)(cpos:Pos):Prop where
 base:attributeBase o m X.env (eval o X.env)=eval o X.env
 few:((backTo cpos (starEach [e,f] X.env)).all (fun x=>!x.1)&&(backToKw cpos (keywordEach [] X.env)).all (fun x=>x.1.isSome)
  && decide (([e,f]:List Expr).length+([]:List Keyword).length+(if([]:List Keyword).isEmpty then 0 else 1)<30))=true
 line:(apos.endLine == cpos.line)=true
 trees:backTo cpos (starEach [e,f] X.env) = [(false,eval e X.env),(false,eval f X.env)]
def IsD(H:Hp)(a:Addr):Prop:=(∃ kvs,Rd H a (.dK kvs))∨∃ kvs,Rd H a (.dT kvs)
theorem Gi{X:Cx}{pins:List (Addr×Obj)}{σ:St}{H:Hp}{s:Shared}{a:Addr}(I:Inv X pins σ H s)(d:IsD H a) :
  s.TypeIs (.ref a) "dict"/\(∀ b,Value.ref a=.ref b->∃ ob,s.heap.get? b=some ob/\ob.dict=none)/\(a == sysModules)=false:=by
 rcases d with⟨kvs,e⟩ | ⟨kvs,e⟩
 ·obtain⟨_,hd,vs,_,dd⟩:=vh I.hok e
  refine⟨dd.typeIs,fun b q=>?_,hd⟩
  cases q
  obtain⟨ob,_,_,h1,h2,_⟩:=dd
  exact⟨ob,h1,h2.2.1⟩
 ·obtain⟨_,hd,xs,_,dd⟩:=Be I.hok e
  refine⟨dd.typeIs,fun b q=>?_,hd⟩
  cases q
  obtain⟨ob,_,_,h1,h2,_⟩:=dd
  exact⟨ob,h1,h2.2.1⟩
section
variable{X:Cx}{pins:List (Addr×Obj)}{σ:St}{H:Hp}{s:Shared}{a:Addr}{y d:V}{u r:Value}{o:Option V}{A:Around}{E:Value->Shared->Prop}
theorem d_get2{Q:Value->Shared->Prop}(hu:A.units+1<cLine)(I:Inv X pins σ H s)(g:DGet H a y o)(ry:RelV y u)(rd:RelV d r)(h:∀ w' s',Inv X pins σ H s'->RelV (o.getD d) w'->Q w' s') :
  wpAny (model X.prog X.w) A (call (.builtin "dict.get") [.ref a,u,r]) Q E s:=by
 rcases g with⟨kvs,k,e,ey,l⟩ | ⟨kvs,k,b,e,ey,eb,l⟩
 ·subst ey
  obtain⟨z,hd,vs,rel,dd⟩:=vh I.hok e
  refine call_meetsIn LN dd.typeIs PySem.F.entry_dict_get (MI _ _ _) (meets_dict_get_default (bA X.prog X.w) a (yu ry) hd r) ⟨_,dd.mapOf,h _ _ (I.tok _) ?_⟩
  rw[l]
  exact(rel.val k).getD rd
 ·subst ey
  cases (show u=Value.ref b from ry)
  obtain⟨z,hd,xs,rel,dd⟩:=Be I.hok e
  refine call_meetsIn LN dd.typeIs PySem.F.entry_dict_get (MI _ _ _) (meetsH_dict_get_default (tupleKind (bA X.prog X.w)) a b hd r) ⟨tupleKind_room_in1 hu,k,xs,uV I.hok eb,dd,h _ _ (I.tok _) ?_⟩
  rw[l]
  exact(rel.val k).getD rd
end
def tDGet2(td ty tx:TE):TE:=fun σ H Q=>td σ H fun x H1=>∃ a,x=.ref a/\IsD H1 a/\ty σ H1 fun y H2=>tx σ H2 fun z H3=>∃ o,DGet H3 a y o/\Q (o.getD z) H3
section
variable{X:Cx}{o e f:Expr}{apos cpos:Pos}{td ty tx:TE}
theorem zQ(hu:X.A.units+1<cLine)(ho:PE X o td)(he:PE X e ty)(hf:PE X f tx) (m:M2 X o "get" apos e f cpos):PE X (.Call (.Attribute o "get" apos) [e,f] [] cpos) (tDGet2 td ty tx):=by
 intro pins s σ H Q I h
 refine wpAny_Call_method m.base m.few m.line KI LN PySem.F.type_dict_get (thn (ho pins s σ H _ I h) fun u s1 ⟨x,H1,I1,rx,a,ex,d,q1⟩=>?_)
 subst ex
 obtain rfl:u=Value.ref a:=rx
 obtain⟨t1,t2,_⟩:=Gi I1 d
 refine⟨t1,t2,?_⟩
 rw[m.trees]
 refine Calls.callWith_builtin rfl (Calls.evalArgs_plain (Calls.spliced_cons (thn (he pins s1 σ H1 _ I1 q1) fun iv s2 ⟨y,H2,I2,ry,q2⟩ =>
  Calls.spliced_cons (thn (hf pins s2 σ H2 _ I2 q2) fun fv s3 ⟨z,H3,I3,rz,ov,g,q3⟩=>Calls.spliced_nil ?_))))
 exact d_get2 hu I3 g ry rz fun w' s4 I4 rw'=>⟨_,H3,I4,rw',q3⟩
end
section
variable{X:Cx}{pins:List (Addr×Obj)}{σ:St}{H:Hp}{s:Shared}{a:Addr}{kvs:List (Key×V)}{A:Around}{E:Value->Shared->Prop}
theorem FH{Q:Value->Shared->Prop}(I:Inv X pins σ H s)(e:Rd H a (.dK kvs))(h:∀ p s',H p=none->Inv X pins σ (upd H p (.dK kvs)) s'->Q (.ref p) s'):wpAny (model X.prog X.w) A (call (.type "dict") [.ref a]) Q E s:=by
 obtain⟨z,hd,vs,rel,dd⟩:=vh I.hok e
 refine kt_call_dict hd dd (by rw[← rel.length];exact z) fun h' dd' hs=>?_
 refine h _ _ (I.hok.fresh (IG _)) (I.laid (a:=s.heap.objs.size) (o:=.dK kvs) (t':=s.toks) (fun b q hq=>?_) (IG _) (Ai z (beq_eq_false_iff_ne.mpr (Ne.symm (Jf I.big))) rel dd'))
 exact(hs.2 b (Jf (Heap.lt_size hq))).trans (Heap.get?_push_of_some _ hq)
end
section
variable{X:Cx}{pins:List (Addr×Obj)}{σ:St}{H:Hp}{s:Shared}{a:Addr}{y:V}{u:Value}{A:Around}{E:Value->Shared->Prop}
end
end L2
namespace Att
open PySem PySem.W PySem.Calls PyProof.Rows
section
variable{prog:Program}{w:World}{A:Around}{E:Value->Shared->Prop}{s:Shared}{K:Frag}
end
end Att
namespace L2
open PySem PySem.Spec PyProof.Rows
end L2
namespace L2
open PySem PySem.Spec PyProof.Rows
end L2
namespace L2
open PySem PySem.Spec PyProof.Rows
section
variable{P:Program}{w:World}{K:IC}{mg:Str->Option Value}{base:Heap}
end
section
variable{X:Cx}
theorem El:j9 X (.builtin "len") (fun xs H Q=>∃ a kvs,xs = [V.ref a]/\H a=some (.dK kvs)/\Q (.int kvs.length) H):=by
 intro pins s σ H xs us Q I r h
 obtain⟨a,kvs,rfl,ha,q⟩:=h
 obtain⟨u,rfl,ru⟩:=tE r
 cases ru
 exact d_len I (.inl ha) fun t s' I'=>⟨.int kvs.length,H,I',⟨t,rfl⟩,q⟩
end
section
variable{κ:Type} [DecidableEq κ]
theorem EE{kvs:List (κ×V)}{k:κ}(h:valV kvs k=none):¬ k∈kvs.map (·.1):=by
 intro m
 obtain⟨p,hp,e⟩:=IY.mp m
 have q:(kvs.any fun kv=>decide (kv.1=k))=true:=KO.mpr ⟨p,hp,decide_eq_true e⟩
 rw[hV,h]at q
 exact absurd q (by simp)
end
end L2
namespace L2
open PySem PySem.Spec PyProof.Rows
def clOf(env:Env)(fr:List (Str×Nat)):List (Str×Addr):=fr.map fun p=>(p.1,(env.cells.lookup p.1).getD 0)
def frOf(fr:List (Str×Nat))(σ:St):St:=fr.map fun p=>(σ[p.2]?).join
def c7(X:Cx)(scope:Scope)(fr:List (Str×Nat))(x:Str)(C:Addr)(ex:List Addr)(s:Shared)(H:Hp):Cx where
 prog:=X.prog
 w:=X.w
 K:=X.K
 mg:=X.mg
 base:=X.base
 A:=X.A
 N:=x::fr.map (·.1)
 s₀:=s
 H₀:=H
 env:=compEnvC scope (clOf X.env fr) C X.env
 outer:=X.stack
 stack:=X.stack
 ex:=ex
 fn:=fun _=>false
 calm:=X.calm
 pn:=[]
 xe:=fun _ _=>False
structure cW(X:Cx)(scope:Scope)(fr:List (Str×Nat))(x:Str):Prop where
 clos:closureFor scope X.env=pure (clOf X.env fr)
 cell:∀ y∈scope.names,y.2≠.cell
 kind:scope.kind=.function
 names:∀ y∈scope.names,y.2=.local->scope.names.lookup y.1=some .local
 xl:scope.names.lookup x=some .local
 nd:(x::fr.map (·.1)).Nodup
 slot:∀ p∈fr,X.N[p.2]?=some p.1/\X.env.kindOf p.1=some .cell
 has:∀ y∈(relabel scope X.env).names,(y.2=.cell∨y.2=.free)->y.1∈fr.map (·.1)
 frk:∀ p∈fr,(relabel scope X.env).names.lookup p.1=some .cell
theorem cW.plain{X:Cx}{scope:Scope}{x:Str}(clos:closureFor scope X.env=pure [])(cell:∀ y∈scope.names,y.2≠.cell)(kind:scope.kind=.function)(names:∀ y∈scope.names,y.2=.local->scope.names.lookup y.1=some .local)
  (hx:scope.names.lookup x=some .local) (nf:∀ y∈scope.names,y.2≠.free):cW X scope [] x where
 clos:=clos
 cell:=cell
 kind:=kind
 names:=names
 xl:=hx
 nd:=by simp
 slot:=fun p hp=>nomatch hp
 has:=fun y hy hk=>by
  obtain⟨⟨n,k⟩,hz,e⟩:=IY.mp (show y∈scope.names.map _ from hy)
  have h1:=nf _ hz
  have h2:=cell _ hz
  dsimp only at e h1 h2
  have hf:(k == NameKind.free)=false:=by simpa using h1
  rw[hf]at e
  simp only[K9,JM,if_false]at e
  subst e
  exact(hk.elim h2 h1).elim
 frk:=fun p hp=>nomatch hp
theorem cW.one{X:Cx}{scope:Scope}{x y:Str}{j:Nat}(clos:closureFor scope X.env=pure (clOf X.env [(y,j)]))(cell:∀ y∈scope.names,y.2≠.cell)(kind:scope.kind=.function)(names:∀ y∈scope.names,y.2=.local->scope.names.lookup y.1=some .local)
  (hx:scope.names.lookup x=some .local) (nd:([x,y]:List Str).Nodup) (hN:X.N[j]?=some y) (hk:X.env.kindOf y=some .cell) (nf:∀ z∈scope.names,z.2=.free->z.1=y) (hr:(relabel scope X.env).names.lookup y=some .cell):cW X scope [(y,j)] x where
 clos:=clos
 cell:=cell
 kind:=kind
 names:=names
 xl:=hx
 nd:=nd
 slot:=fun p hp=>by
  have e:p=(y,j):=by simpa using hp
  subst e
  exact⟨hN,hk⟩
 has:=fun z hz hk=>by
  obtain⟨⟨n,k⟩,hm,e⟩:=IY.mp (show z∈scope.names.map _ from hz)
  have h2:=cell _ hm
  dsimp only at e h2
  have hn:z.1=n:=by rw[← e];split<;>rfl
  have hf:k=.free:=by
   by_cases q:k=.free
   ·exact q
   ·have hb:(k == NameKind.free)=false:=by simpa using q
    rw[hb]at e
    simp only[K9,JM,if_false]at e
    subst e
    exact(hk.elim h2 q).elim
  have:=nf _ hm hf
  rw[hn]
  simp[← this]
 frk:=fun p hp=>by
  have e:p=(y,j):=by simpa using hp
  subst e
  exact hr
theorem eI{env:Env}:∀{fr:List (Str×Nat)}{y:Str}{c:Addr},(clOf env fr).lookup y=some c->y∈fr.map (·.1)/\c=(env.cells.lookup y).getD 0
 |[],_,_,h=>by cases h
 |p::r,y,c,h=>by
  unfold clOf at h
  rw[Ju,List.lookup_cons]at h
  cases e:y == p.1 with
  |true =>
   rw[e]at h
   have ey:y=p.1:=eq_of_beq e
   cases h
   exact⟨by rw[ey];exact Jc,by rw[ey]⟩
  |false =>
   rw[e]at h
   obtain⟨a,b⟩:=eI (env:=env) (fr:=r) h
   exact⟨IV _ a,b⟩
theorem bB{env:Env}:∀{fr:List (Str×Nat)}{y:Str},y∈fr.map (·.1)->(clOf env fr).lookup y=some ((env.cells.lookup y).getD 0)
 |[],_,h=>by cases h
 |p::r,y,h=>by
  unfold clOf
  rw[Ju,List.lookup_cons]
  cases e:y == p.1 with
  |true =>
   have ey:y=p.1:=eq_of_beq e
   rw[ey]
  |false =>
   have ny:y≠p.1:=fun z=>by rw[z]at e;simp at e
   rcases IL.mp h with z | z
   ·exact absurd z ny
   ·exact bB (env:=env) (fr:=r) z
section
variable{X:Cx}{pins:List (Addr×Obj)}{σ:St}{H:Hp}{s:Shared}{scope:Scope}{fr:List (Str×Nat)}{x:Str}
theorem cW.cells(O:cW X scope fr x)(I:Inv X pins σ H s){y:Str}{c:Addr}(h:(clOf X.env fr).lookup y=some c):X.env.cells.lookup y=some c:=by
 obtain⟨hm,e⟩:=eI h
 obtain⟨p,hp,ep⟩:=IY.mp hm
 have k:=(O.slot p hp).2
 rw[ep]at k
 obtain⟨c',e'⟩:=I.ok.has y (.inl k)
 rw[e']at e
 rw[e',e]
 rfl
theorem Fw{fp:List Addr}(O:cW X scope fr x)(I:Inv X pins σ H s)(hf:∀ b∈fp,FpOk X pins H b)(hfs:∀ b∈fp,b<s.heap.objs.size){g h':Heap}{tk:Nat}(hg:g=s.heap.push (LCg.lst []))
  (hk:∀ b o,g.get? b=some o->h'.get? b=some o) (hC:h'.Ns g.objs.size fun _=>none) :
  Inv (c7 X scope fr x g.objs.size (s.heap.objs.size::fp) { s with heap:=g } H) (X.pn++pins++[(s.heap.objs.size,LCg.lst [])]) (none::frOf fr σ) H { s with heap:=h',toks:=tk }:=by
 have hsz:g.objs.size=s.heap.objs.size+1:=by rw[hg,Heap.size_push]
 have kp:∀ b o,s.heap.get? b=some o->g.get? b=some o:=fun b o e=>by rw[hg];exact Heap.get?_push_of_some _ e
 have hk0:∀ b o,s.heap.get? b=some o->h'.get? b=some o:=fun b o e=>hk b o (kp b o e)
 have hDo:h'.get? s.heap.objs.size=some (LCg.lst []):=hk _ _ (by rw[hg];exact Heap.get?_push_size _ rfl)
 have neC:∀ b,b<s.heap.objs.size->b≠g.objs.size:=fun b e=>by rw[hsz];exact Jf (Kp e)
 have hDC:s.heap.objs.size≠g.objs.size:=by rw[hsz];exact Jf (Kj _)
 have hfr:H g.objs.size=none:=I.hok.fresh (by rw[hsz];exact La _)
 have hfD:H s.heap.objs.size=none:=I.hok.fresh (IG _)
 have cne:∀ y c,X.env.cells.lookup y=some c->c<s.heap.objs.size:=fun y c e=>by
  obtain⟨v,q⟩:=I.cell y c e
  exact q.lt
 have nst:∀ b,b≠X.env.locals->b∉X.fs->b∉frs X.stack:=fun b h1 h2 z=>(IL.mp (I.stkSub b z)).elim h1 h2
 have nstD:s.heap.objs.size∉frs X.stack:=nst _ (JX I.lt) (I.nofs (IG _))
 refine⟨⟨I.ok.mod,O.kind,I.ok.glob,I.ok.blt,IG _,?_,?_,fun _ _ z _=>(by cases z),I.ok.hd,I.ok.frames,.inl rfl,?_,?_,?_,?_,?_,?_,I.stkFree⟩,rfl,I.bare,Un.kept hk,?_,?_,hfr,?_,?_,I.hok.kept hk0,?_⟩
 ·intro y z c h1 h2
  exact I.ok.inj y z c (O.cells I h1) (O.cells I h2)
 ·intro y hy
  have hm:y∈fr.map (·.1):=by
   rcases hy with hy | hy
   ·exact O.has (y,_) (J1 hy) (.inl rfl)
   ·exact O.has (y,_) (J1 hy) (.inr rfl)
  exact⟨_,bB hm⟩
 ·intro b hb
  rcases IL.mp hb with rfl | hb
  ·exact⟨hDC,fun y c e=>Jf (cne y c (O.cells I e))⟩
  ·exact⟨neC b (hfs b hb),fun y c e=>(hf b hb).2.2.2.2.1 y c (O.cells I e)⟩
 ·intro b o e
  exact⟨kp b o (I.bs b o e).1,(I.bs b o e).2⟩
 ·show X.base.objs.size<=g.objs.size
  rw[hsz]
  exact K0 (JG I.ok.bsz I.sz)
 ·intro b o e hb
  rcases IL.mp hb with z | hb
  ·have:=Heap.lt_size (I.bs b o e).1
   rw[z]at this
   exact JT _ this
  ·rcases(hf b hb).2.2.2.1 with z | z
   ·exact I.ok.noex b o e z
   ·exact absurd (Jp (Heap.lt_size (I.ok.bs b o e).1) z) (JT _)
 ·intro b hb
  rcases IL.mp hb with z | hb
  ·rw[z];exact nstD
  ·exact nst b (hf b hb).2.1 (hf b hb).2.2.1
 ·exact(I.kept (h':=g) (t':=s.toks) kp).stack
 ·refine⟨_,hC,fun i y v e1 e2 e3=>?_⟩
  cases i with
  |zero=>cases e2
  |succ k =>
   have e1':(fr.map (·.1))[k]?=some y:=e1
   have e2':(frOf fr σ)[k]?=some (some v):=e2
   unfold frOf at e2'
   rw[II]at e1' e2'
   cases q:fr[k]? with
   |none=>rw[q]at e1';cases e1'
   |some p =>
    rw[q]at e1' e2'
    have ey:p.1=y:=IW e1'
    have ev:(σ[p.2]?).join=some v:=IW e2'
    have hp:p∈fr:=ID q
    obtain⟨hN,hK⟩:=O.slot p hp
    have hkk:=O.frk p hp
    rw[ey]at hN hK hkk
    have ev':σ[p.2]?=some (some v):=by
     cases q2:σ[p.2]? with
     |none=>rw[q2]at ev;cases ev
     |some w=>rw[q2]at ev;exact congrArg some ev
    obtain⟨m,hn,hl⟩:=I.loc
    obtain⟨u,r,l⟩:=hl p.2 y v hN ev' (.inr (.inl hK))
    refine⟨u,r,?_⟩
    rcases l with⟨k1,_⟩ | ⟨_,c,ec,z⟩
    ·rw[hK]at k1;cases k1
    ·have hm:y∈fr.map (·.1):=by rw[← ey];exact IY.mpr ⟨p,hp,rfl⟩
     have el:=bB (env:=X.env) hm
     rw[ec]at el
     exact .inr ⟨.inl hkk,c,el,by obtain⟨o,ho,hd⟩:=z;exact⟨o,hk0 _ _ ho,hd⟩⟩
 ·intro y c e
  obtain⟨v,o,ho,hd⟩:=I.cell y c (O.cells I e)
  exact⟨v,o,hk0 _ _ ho,hd⟩
 ·intro y c e
  exact I.freeC y c (O.cells I e)
 ·intro p hp
  rcases IK.mp hp with hp | hp
  ·cases hp
  ·rcases IK.mp hp with hp | hp
   ·obtain⟨e,n,ne,nf,d⟩:=I.pin p hp
    exact⟨hk0 _ _ e,n,neC _ (Heap.lt_size e),nst _ ne nf,d⟩
   ·have ep:p=(s.heap.objs.size,LCg.lst []):=by simpa using hp
    subst ep
    exact⟨hDo,hfD,hDC,nstD,fun v z=>by cases z⟩
 ·show(none::frOf fr σ).length=(x::fr.map (·.1)).length
  unfold frOf
  simp
theorem u9{fp:List Addr}{g:Heap}{s':Shared}{H':Hp}{σ':St}{ys:List V}{us:List Value}(I:Inv X pins σ H s)(hf:∀ b∈fp,FpOk X pins H b)(hg:g=s.heap.push (LCg.lst []))
  (J:Inv (c7 X scope fr x g.objs.size (s.heap.objs.size::fp) { s with heap:=g } H) (X.pn++pins++[(s.heap.objs.size,LCg.lst us)]) σ' H' s') (hv:Vals ys us) (hl:ys.length<=sizeLine) :
  Inv X pins σ (upd H' s.heap.objs.size (.lst ys)) s'/\H' s.heap.objs.size=none/\FpOk X pins (upd H' s.heap.objs.size (.lst ys)) g.objs.size/\∃ m,s'.heap.Ns g.objs.size m:=by
 have hsz:g.objs.size=s.heap.objs.size+1:=by rw[hg,Heap.size_push]
 have kp:∀ b o,s.heap.get? b=some o->g.get? b=some o:=fun b o e=>by rw[hg];exact Heap.get?_push_of_some _ e
 obtain⟨eD,nD,_,_,_⟩:=J.pin (s.heap.objs.size,LCg.lst us) (by simp)
 have hDC:g.objs.size≠s.heap.objs.size:=by rw[hsz];exact JX (Kj _)
 have nD':∀ b u,H' b=some u->b≠s.heap.objs.size:=fun b u e z=>by rw[z]at e;rw[e]at nD;cases nD
 have hx:∀ b o,s.heap.get? b=some o->b∉fp->b∉s.heap.objs.size::fp:=fun b o e hb z=>by
  rcases IL.mp z with z | z
  ·have:=Heap.lt_size e
   rw[z]at this
   exact JT _ this
  ·exact hb z
 have bU:Un (frs X.stack) (s.heap.objs.size::fp) H H' g s'.heap:=J.base
 have ltD:∀ b o,s.heap.get? b=some o->b≠s.heap.objs.size:=fun b o e=>Jf (Heap.lt_size e)
 have un:Un (frs X.stack) fp H (upd H' s.heap.objs.size (.lst ys)) s.heap s'.heap:=by
  refine⟨fun b o e n hb he=>bU.keep b o (kp b o e) n hb (hx b o e he),fun b o e n hb he=>bU.slot b o (kp b o e) n hb (hx b o e he),fun b o e n he=>?_,fun b o e he=>bU.there b o (kp b o e) (hx b o e he),fun b xs e=>?_,fun b o u e=>?_,fun b ps e=>?_⟩
  ·rw[ai (ltD b o e)];exact bU.free b o (kp b o e) n (hx b o e he)
  ·have q:=bU.tups b xs e
   rw[ai (nD' b _ q)];exact q
  ·have q:=bU.frzs b o u e
   rw[ai (nD' b _ q)];exact q
  ·obtain⟨more,q⟩:=bU.tbls b ps e
   exact⟨more,by rw[ai (nD' b _ q)];exact q⟩
 have hok:HOk X.prog X.w (upd H' s.heap.objs.size (.lst ys)) s'.heap:=fun b u e=>by
  by_cases hb:b=s.heap.objs.size
  ·rw[hb,ae]at e
   cases e
   rw[hb]
   exact⟨hl,us,us.length,hv,eD⟩
  ·rw[ai hb]at e
   exact(J.hok b u e).stay (fun c v _ q=>q) (fun c q=>by rw[ai (nD' c _ q)];exact q) fun c xs q=>by rw[ai (nD' c _ q)];exact q
 have os:s'.os=s.os:=J.os
 refine⟨I.call' os un hok J.bare fun b hb=>⟨(hf b hb).2.2.2.1,(hf b hb).2.1,(hf b hb).2.2.2.2⟩,nD,?_,?_⟩
 ·refine I.fpOk (H':=upd H' s.heap.objs.size (.lst ys)) (b:=g.objs.size) (by rw[hsz];exact La _) ?_
  rw[ai hDC]
  exact J.free
 ·obtain⟨m,hn,_⟩:=J.loc
  exact⟨m,hn⟩
end
def tG(te:TE)(fv:St)(J:It)(H1:Hp)(QQ:List V->Hp->Prop):Prop :=
 ∃ W:Nat->Nat->List V->Hp->Prop,(∃ m,W 0 m [] H1)/\∀ i m ys H,W i m ys H->ys.length<=sizeLine /\
  ((J.stop i H/\QQ ys H)∨(J.go i H/\∃ N:V->Hp->Prop,(∀ y H2,N y H2->∃ m',m'<m/\W (i+1) m' (ys++[y]) H2)/\∀ x H',J.yld i H x H'->te (some x::fv) H' N))
section
variable{X:Cx}{scope:Scope}{fr:List (Str×Nat)}{x:Str}{elt iter:Expr}{px pos:Pos}{te:TE}{wi:TI}
theorem vE{pins:List (Addr×Obj)}{σ:St}{H:Hp}{s:Shared}{E:Value->Shared->Prop}{it:Addr}{fp:List Addr}{tn:Nat->Heap->Prop}{J:It}{RR:Value->Addr->Result->Shared->Prop}{QQ:List V->Hp->Prop}(hc:X.calm=true)(O:cW X scope fr x)
  (he:∀ C ex s H,PE (c7 X scope fr x C ex s H) elt te) (I:Inv X pins σ H s) (T:Turn X.prog X.w X.K (.Name x px) J fp it tn) (st:tn 0 s.heap) (hf:∀ b∈fp,FpOk X pins H b) (hq:tG te (frOf fr σ) J H QQ)
  (fin:∀ D C H4 ys s4 m,Inv X pins σ (upd H4 D (.lst ys)) s4->H4 D=none->FpOk X pins (upd H4 D (.lst ys)) C->s4.heap.Ns C m->QQ ys H4->RR (.ref D) C (.ok .next) s4) :
  wpAny (model X.prog X.w) X.A (newList []) (fun acc s₃=>wpAny (model X.prog X.w) X.A (newFunctionEnv scope X.env.globals (clOf X.env fr) [] X.env.qual none .none (some X.env)) (fun cenv s₄ =>
   codeAny (model X.prog X.w) X.A (.compStart (.ListComp elt [⟨.Name x px,iter,[],0⟩] scope pos) 0 (.ref it) acc { cenv with scope:=relabel scope X.env }) (RR acc cenv.locals) s₄) E s₃) E s:=by
 obtain⟨W,⟨m0,w0⟩,turn⟩:=hq
 have hfs:∀ b∈fp,b<s.heap.objs.size:=fun b hb=>by
  obtain⟨o,e,_⟩:=T.obj 0 s.heap st b hb
  exact Heap.lt_size e
 refine wpAny_newObj_type (wpAny_newFunctionEnv O.cell (by intro y hy;simp at hy) (fun h₁ hns₁ hsb₁=>?_) O.kind)
 dsimp only at hns₁ hsb₁ ⊢
 generalize hH2:s.heap.push { cls:=.type "list",dict:=none,data:=.seq ([]:List Value).toArray }=g at hns₁ hsb₁ ⊢
 have hg:g=s.heap.push (LCg.lst []):=hH2.symm
 have hsz:g.objs.size=s.heap.objs.size+1:=by rw[hg,Heap.size_push]
 have hk:∀ b o,g.get? b=some o->h₁.get? b=some o:=fun b o e=>hsb₁.extBut b o (Jf (Heap.lt_size e)) (Heap.get?_push_of_some _ e)
 have kp:∀ b o,s.heap.get? b=some o->h₁.get? b=some o:=fun b o e=>hk b o (by rw[hg];exact Heap.get?_push_of_some _ e)
 have J0:=Fw (h':=h₁) (tk:=s.toks+([]:List (Str×Value)).length) O I hf hfs hg hk hns₁
 have stat:∀{H':Hp}{us:List Value},(∀ b∈fp,H' b=none)->∀ b∈fp,FpOk (c7 X scope fr x g.objs.size (s.heap.objs.size::fp) { s with heap:=g } H) (X.pn++pins++[(s.heap.objs.size,LCg.lst us)]) H' b:=fun{H' us} hn b hb=>by
  obtain⟨_,f1,f2,f3,f4,f5⟩:=hf b hb
  refine⟨hn b hb,?_,fun z=>(IL.mp (I.stkSub b z)).elim f1 f2,.inl (IV _ hb),fun y c e=>f4 y c (O.cells I e),fun p hp=>?_⟩
  ·show b≠g.objs.size
   rw[hsz];exact Jf (Kp (hfs b hb))
  ·rcases IK.mp hp with hp | hp
   ·cases hp
   ·rcases IK.mp hp with hp | hp
    ·exact f5 p hp
    ·have ep:p=(s.heap.objs.size,LCg.lst us):=by simpa using hp
     rw[ep]
     exact JX (hfs b hb)
 have loop:codeAny (model X.prog X.w) X.A (.compLoop (.ListComp elt [⟨.Name x px,iter,[],0⟩] scope pos) 0 (.ref it) (.ref s.heap.objs.size) (compEnvC scope (clOf X.env fr) g.objs.size X.env))
   (RR (.ref s.heap.objs.size) g.objs.size) { s with heap:=h₁,toks:=s.toks+([]:List (Str×Value)).length }:=by
  refine codeAny_compLoop_tests (fun n s'=>∃ i ys us H',Inv (c7 X scope fr x g.objs.size (s.heap.objs.size::fp) { s with heap:=g } H) (X.pn++pins++[(s.heap.objs.size,LCg.lst us)]) (none::frOf fr σ) H' s'/\Vals ys us/\tn i s'.heap/\(∀ b∈fp,H' b=none)/\W i n ys H') ?_ m0
   ⟨0,[],[],H,J0,.nil,T.keep 0 s.heap h₁ st fun b _ o e=>kp b o e,fun b hb=>(hf b hb).1,w0⟩
  rintro n s3 ⟨i,ys,us,H3,J3,hv,st3,fr3,w3⟩
  obtain⟨hlen,hh⟩:=turn i n ys H3 w3
  have none_err:∀{α:Type}{t:Sem α}{Q:α->Shared->Prop}{E':Value->Shared->Prop}{s:Shared},wpAny (model X.prog X.w) X.A t Q (fun _ _=>False) s->wpAny (model X.prog X.w) X.A t Q E' s:=fun h=>wpAny_mono h (fun _ _ q=>q) fun _ _ z=>z.elim
  rcases hh with⟨stop,qn⟩ | ⟨go,N,hN,step⟩
  ·refine none_err (thn (T.done (c7 X scope fr x g.objs.size (s.heap.objs.size::fp) { s with heap:=g } H) rfl rfl rfl hc i _ s3 _ H3 _ J3 (stat fr3) st3 stop) fun r s4 ⟨hr,J4⟩=>?_)
   subst hr
   obtain⟨I4,nD,fC,m,hn⟩:=u9 I hf hg J4 hv hlen
   exact fin _ _ H3 ys s4 m I4 nD fC hn qn
  ·refine none_err (thn (T.item (c7 X scope fr x g.objs.size (s.heap.objs.size::fp) { s with heap:=g } H) rfl rfl rfl hc i _ s3 _ H3 _ J3 (stat fr3) st3 go) fun r s4 ⟨u,hr,h4⟩=>?_)
   subst hr
   have h4':=wpAny_bind (f:=fun _=>assign (.Name x px) (compEnvC scope (clOf X.env fr) g.objs.size X.env) u) (thn h4 (Q':=fun _ s5=>wpAny (model X.prog X.w) X.A (assign (.Name x px) (compEnvC scope (clOf X.env fr) g.objs.size X.env) u) (fun _ s6=>∃(σ6:St)(H6:Hp)(v:V)(s5':Shared)(H5:Hp),Inv (c7 X scope fr x g.objs.size (s.heap.objs.size::fp) { s with heap:=g } H) (X.pn++pins++[(s.heap.objs.size,LCg.lst us)]++pV fp s5'.heap) σ6 H6 s6/\σ6=some v::frOf fr σ/\H6=H5/\J.yld i H3 v H5/\tn (i+1) s5'.heap) (fun _ _=>False) s5) fun _ s5 ⟨v,H5,J5,r5,y5,st5,fr5⟩=>by
    have J5':=J5.pinned (stat fr5) (T.obj _ _ st5)
    have hNd:(c7 X scope fr x g.objs.size (s.heap.objs.size::fp) { s with heap:=g } H).N.Nodup:=O.nd
    have hxl:(c7 X scope fr x g.objs.size (s.heap.objs.size::fp) { s with heap:=g } H).env.scope.names.lookup x=some .local:=lookup_relabel_local O.xl
    exact thn (aH (X:=c7 X scope fr x g.objs.size (s.heap.objs.size::fp) { s with heap:=g } H) (i:=0) hNd rfl (.inl hxl) (.inr hxl) _ s5 _ H5 v u (fun σ6 H6=>σ6=some v::frOf fr σ/\H6=H5) J5' r5 ⟨rfl,rfl⟩) fun _ s6 ⟨σ6,H6,J6,e6,e7⟩=>⟨σ6,H6,v,s5,H5,J6,e6,e7,y5,st5⟩)
   refine none_err (thn h4' fun _ s6 ⟨σ6,H6,v,s5,H5,J6,e6,e7,y5,st5⟩=>?_)
   subst e6 e7
   refine wpAny_tests_nil ?_
   rw[if_pos rfl]
   refine none_err (thn (he _ _ _ _ _ s6 _ H6 _ J6 (step v H6 y5)) fun u7 s7 ⟨v7,H7,J7,r7,q7⟩=>?_)
   obtain⟨m',hm,w7⟩:=hN v7 H7 q7
   obtain⟨eD,nD,dC,dF,dd⟩:=J7.pin (s.heap.objs.size,LCg.lst us) (IP _ (Jn _ (IP _ (by simp))))
   have hvl:=hv.length
   refine append_at (hsz:=by show us.toArray.size<=sizeLine;rw[Jl,← hvl];exact hlen) eD fun h8 hs8 hD8=>?_
   have pinD:∀ p∈X.pn++pins,p.1≠s.heap.objs.size:=fun p hp z=>by
    have:=Heap.lt_size (I.pin p hp).1
    rw[z]at this
    exact JT _ this
   have J7a:Inv (c7 X scope fr x g.objs.size (s.heap.objs.size::fp) { s with heap:=g } H) (X.pn++pins) _ H7 s7:=J7.pins_of fun p hp=>J7.pin p (IP _ (Jn _ (Jn _ hp)))
   have J8:Inv (c7 X scope fr x g.objs.size (s.heap.objs.size::fp) { s with heap:=g } H) (X.pn++pins) _ H7 { s7 with heap:=h8 }:=J7a.turned (t':=s7.toks) (fun b o hb e=>(hs8.2 b hb).trans e) nD dC (.inl Jc) (fun y c e z=>by
    obtain⟨w',q⟩:=I.cell y c (O.cells I e)
    have:=q.lt
    rw[z]at this
    exact JT _ this) (fun p hp=>(IK.mp hp).elim (fun z=>by cases z) (pinD p))
   have J9:Inv (c7 X scope fr x g.objs.size (s.heap.objs.size::fp) { s with heap:=g } H) (X.pn++pins++[(s.heap.objs.size,LCg.lst (us++[u7]))]) _ H7 { s7 with heap:=h8 }:=J8.pins_of fun p hp=>by
    rcases IK.mp hp with hp | hp
    ·exact J8.pin p (IP _ hp)
    ·have ep:p=(s.heap.objs.size,LCg.lst (us++[u7])):=by simpa using hp
     subst ep
     exact⟨hD8.trans (congrArg some (LCg.lst_snoc us u7)),nD,dC,dF,fun v z=>by cases z⟩
   have J10:=J9.weak (σ':=none::frOf fr σ) rfl fun i v e=>by
    cases i with
    |zero=>cases e
    |succ k=>exact e
   have pinF:∀ b∈fp,∀ o,s5.heap.get? b=some o->s7.heap.get? b=some o/\H7 b=none:=fun b hb o e=>by
    obtain⟨q1,q2,_⟩:=J7.pin (b,o) (IP _ (IP _ (cF hb e)))
    exact⟨q1,q2⟩
   refine⟨m',hm,i+1,ys++[v7],us++[u7],H7,J10,hv.append (.cons r7 .nil),T.keep _ _ _ st5 fun b hb o e=>(hs8.2 b (Jf (hfs b hb))).trans (pinF b hb o e).1,fun b hb=>?_,w7⟩
   obtain⟨o,e,_⟩:=T.obj _ _ st5 b hb
   exact(pinF b hb o e).2
 exact codeAny_compStart_list loop (T.self X.A 0 _ _ _ (T.keep 0 s.heap h₁ st fun b _ o e=>kp b o e) loop)
def tComp(wi:TI)(te:TE)(fr:List (Str×Nat)):TE:=fun σ H Q=>wi σ H fun J H1=>tG te (frOf fr σ) J H1 fun ys H2=>∀ D,H2 D=none->Q (.ref D) (upd H2 D (.lst ys))
theorem ki(hc:X.calm=true)(O:cW X scope fr x)(hi:PI X (.Name x px) iter wi)(he:∀ C ex s H,PE (c7 X scope fr x C ex s H) elt te)(hs:∀ x,foldedSetIterable iter X.env x=pure x:=by intro _;rfl) :
  PE X (.ListComp elt [⟨.Name x px,iter,[],0⟩] scope pos) (tComp wi te fr):=by
 intro pins s σ H Q I h
 rw[eval_ListComp]
 refine wpAny_comprehension_free (use:=none) rfl hs O.clos O.kind O.names (thn (hi pins s σ H _ I h) fun xv s1 h1=>thn h1 fun itv s2 h2=>?_)
 obtain⟨it,fp,tn,J,H2,e,I2,T,st2,f2,q2⟩:=h2
 subst e
 refine vE (RR:=fun acc C=>compPost (model X.prog X.w) X.A X.xe none (EP X pins σ Q) acc C) hc O he I2 T st2 f2 q2 ?_
 intro D C H4 ys s4 m I4 nD fC hn q4
 refine⟨m,hn,fun h' hs'=>?_⟩
 obtain⟨g0,g1,g2,g3,g4,g5⟩:=fC
 exact⟨.ref D,_,I4.turned (t':=s4.toks) (fun b o hb e=>(hs'.2 b hb).trans e) g0 g1 g3 g4 g5,rfl,q4 D nD⟩
def EK(i:Nat)(wi:TI)(te:TE)(fr:List (Str×Nat)):TS:=fun D σ H=>wi σ H fun J H1=>tG te (frOf fr σ) J H1 fun ys H2=>∀ a,H2 a=none->D.nx (σ.set i (some (.ref a))) (upd H2 a (.lst ys))
theorem AB{i:Nat}{y:Str}{py spos:Pos}(hc:X.calm=true)(hN:X.N.Nodup)(hi':X.N[i]?=some y)(hy:X.env.scope.names.lookup y=some .local)(O:cW X scope fr x)(hi:PI X (.Name x px) iter wi)(he:∀ C ex s H,PE (c7 X scope fr x C ex s H) elt te)
  (hsw:swapsWith (.ListComp elt [⟨.Name x px,iter,[],0⟩] scope pos) (some (.Name y py)) spos.line X.env=pure true:=by rfl) (hs:∀ x,foldedSetIterable iter X.env x=pure x:=by intro _;rfl) :
  PS X (.Assign [.Name y py] (.ListComp elt [⟨.Name x px,iter,[],0⟩] scope pos) spos) (EK i wi te fr):=by
 intro pins s σ H D I h
 rw[exec_Assign_Name_used _ _ _ _ hsw]
 refine wpAny_bind (wpAny_standAt (wpAny_bind ?_))
 show wpAny _ X.A (do let _ ← comprehension (.ListComp elt [⟨.Name x px,iter,[],0⟩] scope pos) scope X.env _ (newList []) false (eval iter X.env) (some (assign (.Name y py) X.env))) _ _ s
 refine wpAny_bind (thn (wpAny_comprehension_free (use:=some (assign (.Name y py) X.env)) (Q:=fun _ s'=>SP X pins D .next s') rfl hs O.clos O.kind O.names (thn (hi pins s σ H _ I h) fun xv s1 h1=>thn h1 fun itv s2 h2=>?_)) fun _ s' hq=>wpAny_pure (wpAny_pure hq))
 obtain⟨it,fp,tn,J,H2,e,I2,T,st2,f2,q2⟩:=h2
 subst e
 refine vE (RR:=fun acc C=>compPost (model X.prog X.w) X.A X.xe (some (assign (.Name y py) X.env)) (fun _ s'=>SP X pins D .next s') acc C) hc O he I2 T st2 f2 q2 ?_
 intro a C H4 ys s4 m I4 nD fC hn q4
 obtain⟨g0,g1,g2,g3,g4,g5⟩:=fC
 obtain⟨oC,eC,hoC⟩:=LCg.ns_obj hn
 have I5:Inv X (pins++[(C,oC)]) σ (upd H4 a (.lst ys)) s4:=I4.pins_of fun p hp=>by
  rcases IK.mp hp with hp | hp
  ·exact I4.pin p (IP _ hp)
  ·have ep:p=(C,oC):=by simpa using hp
   subst ep
   obtain⟨es,epp,hd,_⟩:=hoC
   exact⟨eC,g0,g1,g2,fun v z=>by rw[hd]at z;cases z⟩
 show wpAny _ X.A (assign (.Name y py) X.env (.ref a)) _ _ _
 refine wpAny_assign_Name (mM I5 hN hi' (.inl hy) (v:=.ref a) rfl (fun s6 I6=>?_) (.inr hy))
 obtain⟨e6,_⟩:=I6.pin (C,oC) (IP _ (IP _ (by simp)))
 refine⟨m,hoC.ns e6,fun h' hs'=>?_⟩
 exact⟨_,_,I6.unpinned.turned (t':=s6.toks) (fun b o hb e=>(hs'.2 b hb).trans e) g0 g1 g3 g4 g5,q4 a nD⟩
end
theorem gL{K:IC}{a:Addr}{xs:List V}{te:TE}{fv:St}{H1:Hp}{QQ:List V->Hp->Prop}(Pv:Nat->List V->Hp->Prop)(hz:xs.length<=sizeLine)(h0:Pv 0 [] H1)(hl:∀ i ys H,i<=xs.length->Pv i ys H->SqL K H a xs)
  (hs:∀ i x ys H,xs[i]?=some x->Pv i ys H->te (some x::fv) H fun y H2=>Pv (i+1) (ys++[y]) H2) (hd:∀ ys H,ys.length=xs.length->Pv xs.length ys H->QQ ys H)
  : tG te fv (Itl K a) H1 QQ:=by
 refine⟨fun i m ys H=>m=xs.length-i/\i<=xs.length/\ys.length=i/\Pv i ys H,⟨xs.length,by simp,JL _,rfl,h0⟩,?_⟩
 rintro i m ys H ⟨rfl,hi,hy,p⟩
 have q:=hl i ys H hi p
 refine⟨by omega,?_⟩
 by_cases hlt:i<xs.length
 ·refine .inr ⟨⟨xs,xs[i],q,by simp[hlt]⟩,fun y H2=>Pv (i+1) (ys++[y]) H2,fun y H2 p2=>⟨xs.length-(i+1),by omega,rfl,hlt,by rw[IF,hy];rfl,p2⟩,fun x H' y=>?_⟩
  obtain⟨e,y⟩:=y
  subst e
  exact hs i x ys _ (y xs q) p
 ·have e:i=xs.length:=by omega
  subst e
  exact .inl ⟨⟨xs,q,IG _⟩,hd ys H hy p⟩
theorem qa{lo:Int}{n:Nat}{te:TE}{fv:St}{H1:Hp}{QQ:List V->Hp->Prop}(Pv:Nat->List V->Hp->Prop)(hz:n<=sizeLine)(h0:Pv 0 [] H1)
  (hs:∀ i ys H,i<n->Pv i ys H->te (some (.int (lo+i))::fv) H fun y H2=>Pv (i+1) (ys++[y]) H2) (hd:∀ ys H,ys.length=n->Pv n ys H->QQ ys H)
  : tG te fv (Itr lo n) H1 QQ:=by
 refine⟨fun i m ys H=>m=n-i/\i<=n/\ys.length=i/\Pv i ys H,⟨n,by simp,JL _,rfl,h0⟩,?_⟩
 rintro i m ys H ⟨rfl,hi,hy,p⟩
 refine⟨by omega,?_⟩
 by_cases hlt:i<n
 ·refine .inr ⟨hlt,fun y H2=>Pv (i+1) (ys++[y]) H2,fun y H2 p2=>⟨n-(i+1),by omega,rfl,hlt,by rw[IF,hy];rfl,p2⟩,fun x H' y=>?_⟩
  obtain⟨e,y⟩:=y
  subst e y
  exact hs i ys _ hlt p
 ·have e:i=n:=by omega
  subst e
  exact .inl ⟨IG _,hd ys H hy p⟩
end L2
namespace L2
open PySem PySem.Spec PyProof.Rows
theorem bt_int:bootBuiltins "int" = some (.type "int"):=by decide +kernel
theorem Iu:bootBuiltins "bool" = some (.type "bool"):=by decide +kernel
theorem kZ:bootBuiltins "list" = some (.type "list"):=by decide +kernel
theorem FL:bootBuiltins "tuple" = some (.type "tuple"):=by decide +kernel
theorem Ir:bootBuiltins "dict" = some (.type "dict"):=by decide +kernel
theorem gc:bootBuiltins "len" = some (.builtin "len"):=by decide +kernel
theorem cj:bootBuiltins "isinstance" = some (.builtin "isinstance"):=by decide +kernel
theorem oF:bootBuiltins "sorted" = some (.builtin "sorted"):=by decide +kernel
theorem vK:bootBuiltins "enumerate" = some (.type "enumerate"):=by decide +kernel
structure Cal(P:Program)(w:World)(K:IC)(mg:Str->Option Value)(base:Heap)(k:Nat)(x:Str)(ps:List Str)(sp:Sp)(f:Addr)(fd:FuncData):Prop where
 ok:FnOk P w K mg base CX0 k f fd ps sp
 bn:fZ K fd ps []
 mg:mg x=some (.ref f)
 kp:IQ K (.ref f)=true
structure Mak(P:Program)(w:World)(K:IC)(mg:Str->Option Value)(base:Heap)(k:Nat)(x:Str)(ps:List Str)(sp:Sp)(C f:Addr)(fd:FuncData):Prop where
 mkc:Mk K C f
 ok:FnOk P w K mg base CX0 k f fd ps sp
 bn:fZ K fd ps []
 mg:mg x=some (.ref C)
structure Met(P:Program)(w:World)(K:IC)(mg:Str->Option Value)(base:Heap)(k:Nat)(C:Addr)(m:Str)(ps:List Str)(sp:Sp)(f:Addr)(fd:FuncData):Prop where
 me:Meth K C m f
 ok:FnOk P w K mg base CX0 k f fd ps sp
 bn:fZ K fd ps []
theorem nz{X:Cx}{sts:List Stmt}{t t2:TS}(h:PSs X sts t)(i:∀ D σ H,t2 D σ H->t D σ H):PSs X sts t2:=fun pins s σ H D I q=>h pins s σ H D I (i D σ H q)
section
variable{X:Cx}
def rIsi(K:IC):List V->Hp->VK->Prop:=fun xs H Q=>∃ x c t b u,xs = [x,c]/\TyOf K H x t/\((∃ n,c=.ty n/\u=Value.type n)∨∃ a,c=.ref a/\u=Value.ref a)/\Lj K t u=some b/\Q (.bl b) H
theorem mY:j9 X (.builtin "isinstance") (rIsi X.K):=by
 intro pins s σ H xs us Q I r h
 obtain⟨x,c,t,b,u,rfl,ty,hu,e,q⟩:=h
 obtain⟨v1,v2,rfl,r1,r2⟩:=GP r
 have e2:v2=u:=by
  rcases hu with⟨n,rfl,rfl⟩ | ⟨a,rfl,rfl⟩
  ·exact r2
  ·exact r2
 subst e2
 exact Dx I r1 ty e fun tk=>⟨.bl b,H,I.tok tk,rfl,q⟩
theorem kit_ii(K:IC):Lj K (.type "int") (.type "int")=some true:=by with_unfolding_all rfl
theorem kit_ib(K:IC):Lj K (.type "int") (.type "bool")=some false:=by with_unfolding_all rfl
theorem kit_ll(K:IC):Lj K (.type "list") (.type "list")=some true:=by with_unfolding_all rfl
theorem kit_tt(K:IC):Lj K (.type "tuple") (.type "tuple")=some true:=by with_unfolding_all rfl
end
inductive RdD(K:IC)(H:Hp):V->PyData->Prop where
 |non:RdD K H .non .none
 |bl (b:Bool):RdD K H (.bl b) (.bool b)
 |int (i:Int):RdD K H (.int i) (.int i)
 |lst {a:Addr} {xs:List V} {ds:List PyData} (h:SqL K H a xs) (hl:xs.length=ds.length) (r:∀(i:Nat)(x:V)(d:PyData),xs[i]?=some x->ds[i]?=some d->RdD K H x d):RdD K H (.ref a) (.list ds)
 |tup {a:Addr} {xs:List V} {ds:List PyData} (h:SqT K H a xs) (hl:xs.length=ds.length) (r:∀(i:Nat)(x:V)(d:PyData),xs[i]?=some x->ds[i]?=some d->RdD K H x d):RdD K H (.ref a) (.tuple ds)
theorem iY{h:Heap}:∀{xs:List V}{us:List Value}{ds:List PyData},Vals xs us->xs.length=ds.length->(∀(i:Nat) x d,xs[i]?=some x->ds[i]?=some d->∀ u,RelV x u->∃ as,Reads h u d as)->∃ as,ReadsAll h us ds as
 |_,_,[],.nil,_,_=>⟨_,.nil⟩
 |_,_,_::_,.nil,e,_=>by cases e
 |_,_,[],.cons _ _,e,_=>by cases e
 |_,_,d::ds,.cons r rr,e,k=>by
  obtain⟨a1,q1⟩:=k 0 _ d rfl rfl _ r
  obtain⟨a2,q2⟩:=iY rr (Nat.succ.inj e) fun i x d' e1 e2=>k (i+1) x d' e1 e2
  exact⟨_,.cons q1 q2⟩
section
variable{X:Cx}
theorem RdD.reads{pins:List (Addr×Obj)}{σ:St}{H:Hp}{s:Shared}(I:Inv X pins σ H s){x:V}{d:PyData}(r:RdD X.K H x d):∀ u,RelV x u->∃ as,Reads s.heap u d as:=by
 induction r with
 |non=>intro u hu;cases hu;exact⟨_,.none⟩
 |bl b=>intro u hu;cases hu;exact⟨_,.bool b⟩
 |int i=>intro u hu;obtain⟨t,rfl⟩:=hu;exact⟨_,.int i t⟩
 |lst h hl r ih =>
  intro u hu
  cases hu
  obtain⟨its,rv,p,_⟩:=I.list h
  obtain⟨as,q⟩:=iY (h:=s.heap) rv hl ih
  obtain⟨o,n,e,c,_,d⟩:=p
  exact⟨_,.list e c d (by simpa using q)⟩
 |tup h hl r ih =>
  intro u hu
  cases hu
  obtain⟨its,rv,p,_⟩:=I.tuple h
  obtain⟨as,q⟩:=iY (h:=s.heap) rv hl ih
  obtain⟨o,e,c,n,d⟩:=p
  exact⟨_,.tuple e c d (by simpa using q)⟩
def rSame(b:Bool)(K:IC):R2:=fun x y H Q=>∃ d,RdD K H x d/\RdD K H y d/\SeqAt.shaped d=true/\Q (.bl b) H
theorem F8(hu:X.A.units+64<cLine):OpR X (compareOp .NotEq) (rSame false X.K):=by
 intro pins s σ H x y v u Q I rx ry h
 obtain⟨d,r1,r2,hs,q⟩:=h
 obtain⟨as,q1⟩:=r1.reads I v rx
 obtain⟨bs,q2⟩:=r2.reads I u ry
 refine ne_dataH q1 q2 hs hs hu ?_
 rw[SeqAt.eqv_refl d (SeqAt.canLay_of_shaped hs)]
 exact⟨.bl false,H,I,rfl,q⟩
end
section
variable{X:Cx}{tg:Expr}
end
end L2
namespace L2
open PySem PySem.Spec PyProof.Rows
section
variable{P:Program}{w:World}{H:Hp}{h:Heap}{a:Addr}{o:HO}
theorem aY.get(x:aY P w H h a o):∃ ob,h.get? a=some ob:=by
 cases o with
 |lst xs=>obtain⟨_,_,_,_,e⟩:=x;exact⟨_,e⟩
 |tup xs=>obtain⟨_,_,_,ob,e,_⟩:=x;exact⟨_,e⟩
 |dK kvs=>obtain⟨_,_,_,_,o,_,_,e,_⟩:=x;exact⟨_,e⟩
 |dT kvs=>obtain⟨_,_,_,_,o,_,_,e,_⟩:=x;exact⟨_,e⟩
 |set S n=>obtain⟨o,_,_,_,e,_⟩:=x;exact⟨_,e⟩
 |ins C dx fs=>obtain⟨_,_,_,e,_⟩:=x;exact⟨_,e⟩
 |own y=>exact x
 |xd fs=>obtain⟨_,⟨_,_,_,e,_⟩,_⟩:=x;exact⟨_,e⟩
 |rng lo hi=>obtain⟨_,_,_,e⟩:=x;exact⟨_,e⟩
 |frz ob u=>exact⟨_,x.1⟩
 |tbl ps=>exact⟨_,(show h.get? a=some _ from x)⟩
 |met f y=>exact⟨_,(show h.get? a=some _ from x)⟩
 |ext φ=>exact x.2.1
theorem HOk.none_of(x:HOk P w H h)(e:h.get? a=none):H a=none:=by
 cases q:H a with
 |none=>rfl
 |some u =>
  obtain⟨ob,z⟩:=(x a u q).get
  rw[e]at z
  cases z
end
structure XOk(X:Cx)(pins:List (Addr×Obj))(H:Hp)(b:Addr):Prop where
 old:X.s₀.heap.get? b=none
 trk:H b=none
 nl:b≠X.env.locals
 nc:∀ x c,X.env.cells.lookup x=some c->c≠b
 np:∀ p∈X.pn++pins,p.1≠b
section
variable{X:Cx}{pins:List (Addr×Obj)}{σ:St}{H H':Hp}{s s':Shared}{b:Addr}
theorem Inv.xok(I:Inv X pins σ H s)(hx:X.ex = [])(e:s.heap.get? b=none)(n:H' b=none):XOk X pins H' b:=by
 refine⟨?_,n,fun z=>?_,fun x c q z=>?_,fun p hp z=>?_⟩
 ·cases q:X.s₀.heap.get? b with
  |none=>rfl
  |some o =>
   obtain⟨o',e'⟩:=I.base.there b o q (by rw[hx];simp)
   rw[e]at e'
   cases e'
 ·obtain⟨m,⟨o,_,_,ho,_⟩,_⟩:=I.loc
  rw[z,ho]at e
  cases e
 ·obtain⟨v,o,ho,_⟩:=I.cell x c q
  rw[z,e]at ho
  cases ho
 ·have:=(I.pin p hp).1
  rw[z,e]at this
  cases this
theorem Inv.xstep{h':Heap}{ch:List Addr}(I:Inv X pins σ H s)(hch:∀ b∈ch,XOk X pins H b)
  (keep:∀ b o,s.heap.get? b=some o->b∉ch->b∉frs X.stack->h'.get? b=some o)
  (slot:∀ b o,s.heap.get? b=some o->b∉ch->b∈frs X.stack->∃ sl,h'.get? b=some { o with slots:=sl }):Inv X pins σ H { s with heap:=h' }:=by
 have any:∀ b o,s.heap.get? b=some o->b∉ch->∃ sl,h'.get? b=some { o with slots:=sl }:=fun b o e hc=>by
  by_cases hb:b∈frs X.stack
  ·exact slot b o e hc hb
  ·exact⟨o.slots,keep b o e hc hb⟩
 have fsub:∀ b,b∈frs X.stack->b≠X.env.locals->b∈X.fs:=fun b hb n=>(IL.mp (I.stkSub b hb)).elim (fun z=>absurd z n) fun z=>z
 have neL:∀ b o,X.s₀.heap.get? b=some o->b≠X.env.locals:=fun b o e=>Jf (Jp (Heap.lt_size e) I.ok.above)
 have neC:∀ b o,X.s₀.heap.get? b=some o->b∉ch:=fun b o e hb=>by
  have:=(hch b hb).old
  rw[e]at this
  cases this
 have cellK:∀ x c,X.env.cells.lookup x=some c->∀ v,s.heap.IsCell c v->h'.IsCell c v:=fun x c e v ⟨o,ho,hd⟩=>by
  obtain⟨sl,q⟩:=any c o ho fun z=>(hch c z).nc x c e rfl
  exact⟨_,q,hd⟩
 refine⟨I.ok,I.os,I.bare,⟨fun b o e n hb hx=>?_,fun b o e n hb hx=>?_,I.base.free,fun b o e hx=>?_,I.base.tups,I.base.frzs,I.base.tbls⟩,?_,fun x c e=>?_,I.free,I.freeC,fun p hp=>?_,fun b u e=>?_,I.len⟩
 ·exact keep b o (I.base.keep b o e n hb hx) (neC b o e) fun z=>hb (fsub b z (neL b o e))
 ·obtain⟨sl,e1⟩:=I.base.slot b o e n hb hx
  obtain⟨sl',e2⟩:=any b _ e1 (neC b o e)
  exact⟨sl',e2⟩
 ·obtain⟨o',e1⟩:=I.base.there b o e hx
  obtain⟨sl,e2⟩:=any b _ e1 (neC b o e)
  exact⟨_,e2⟩
 ·obtain⟨m,⟨o,es,ep,ho,r⟩,hl⟩:=I.loc
  obtain⟨sl,e2⟩:=any _ o ho fun z=>(hch _ z).nl rfl
  refine⟨m,⟨_,es,ep,e2,r⟩,fun i x v e1 e2 e3=>?_⟩
  obtain⟨u,r,l⟩:=hl i x v e1 e2 e3
  refine⟨u,r,?_⟩
  rcases l with l | ⟨k,c,e,z⟩
  ·exact .inl l
  ·exact .inr ⟨k,c,e,cellK x c e _ z⟩
 ·obtain⟨v,z⟩:=I.cell x c e
  exact⟨v,cellK x c e v z⟩
 ·obtain⟨e,n,ne,nf,d⟩:=I.pin p hp
  exact⟨keep p.1 p.2 e (fun z=>(hch p.1 z).np p hp rfl) fun z=>nf (fsub p.1 z ne),n,ne,nf,d⟩
 ·have nof:∀ c u',H c=some u'->c∉ch/\c∉frs X.stack:=fun c u' q=>⟨fun z=>(by rw[(hch c z).trk]at q;exact nomatch q),fun z=>(by rw[I.stkFree c z]at q;exact nomatch q)⟩
  refine(I.hok b u e).stay (fun c v hc q=>?_) (fun _ q=>q) fun _ _ q=>q
  rcases hc with z | z
  ·rw[z]at q ⊢
   exact keep b v q (nof b u e).1 (nof b u e).2
  ·exact keep c v q (nof c _ z).1 (nof c _ z).2
theorem Inv.xtrack{a:Addr}{o:HO}(I:Inv X pins σ H s)(f:XOk X pins H a)(new:aY X.prog X.w (upd H a o) s.heap a o):Inv X pins σ (upd H a o) s:=by
 have ne:∀ b u,H b=some u->b≠a:=fun b u e=>ar e f.trk
 have nb:∀ b u,s.heap.get? b=some u->b≠a->H b=none->upd H a o b=none:=fun b u _ n q=>by rw[ai n];exact q
 refine⟨I.ok,I.os,I.bare,⟨I.base.keep,I.base.slot,fun b ob e n hx=>?_,I.base.there,fun b xs e=>?_,fun b ob xs e=>?_,fun b ps e=>?_⟩,I.loc,I.cell,?_,fun x c e=>?_,fun p hp=>?_,fun b u e=>?_,I.len⟩
 ·rw[ai (fun z=>by rw[z,f.old]at e;cases e)]
  exact I.base.free b ob e n hx
 ·have:=I.base.tups b xs e
  rw[ai (ne _ _ this)]
  exact this
 ·have:=I.base.frzs b ob xs e
  rw[ai (ne _ _ this)]
  exact this
 ·obtain⟨m,q⟩:=I.base.tbls b ps e
  exact⟨m,by rw[ai (ne _ _ q)];exact q⟩
 ·rw[ai (Ne.symm f.nl)]
  exact I.free
 ·rw[ai (f.nc x c e)]
  exact I.freeC x c e
 ·obtain⟨e,n,r⟩:=I.pin p hp
  exact⟨e,by rw[ai (f.np p hp)];exact n,r⟩
 ·by_cases hb:b=a
  ·rw[hb,ae]at e
   cases e
   rw[hb]
   exact new
  ·rw[ai hb]at e
   exact(I.hok b u e).stay (fun c v _ q=>q) (fun c q=>by rw[ai (ne c _ q)];exact q) fun c xs q=>by rw[ai (ne c _ q)];exact q
end
def Trc(h:Heap)(x:Addr)(C:Value)(T:Addr):Prop :=
 ∃ oe vs a0 oT ts,h.get? x=some oe/\oe.cls=C/\vs[0]?=some a0/\oe.data=.fields vs/\vs[1]?=some (.ref T)/\T≠x/\h.get? T=some oT/\oT.data=.fields ts/\ts[3]?=some .none
def Xnw(h:Heap)(x:Addr)(C:Value):Prop:=∃ oe vs a0,h.get? x=some oe/\oe.cls=C/\oe.data=.fields vs/\vs[0]?=some a0/\vs[1]?=some .none
def XA(X:Cx)(pins:List (Addr×Obj))(H:Hp)(s:Shared)(x:Addr)(C:Value):Prop:=XOk X pins H x/\(Xnw s.heap x C∨∃ T,XOk X pins H T/\Trc s.heap x C T)
def CXr(P:Program)(w:World):CXT:=fun outer H s E e s'=>∃(x:Addr)(C:Value)(T:Addr)(H':Hp),e=.ref x/\s'.os=s.os/\AllBare s'.gens/\Un (frs outer) [] H H' s.heap s'.heap/\HOk P w H' s'.heap /\
 s.heap.get? x=none/\s.heap.get? T=none/\H' x=none/\H' T=none/\Trc s'.heap x C T/\E C none H'
section
variable{X:Cx}{pins:List (Addr×Obj)}{σ:St}{H:Hp}{s:Shared}{x:Addr}{C:Value}{E:Value->Shared->Prop}
abbrev hidX(X:Cx)(h:Heap)(ch:List Addr):Heap:=PySem.W.hideAll h (ch++frs X.stack)
theorem Inv.hidF(I:Inv X pins σ H s)(ch:List Addr):s.heap.FunFrames (hidX X s.heap ch) X.stack :=
 PySem.W.funFrames_hide I.stack fun env he a hf=>IP _ (Ma.mpr ⟨env,he,hf⟩)
theorem DH(ch:List Addr)(h:Heap):(hidX X h ch).StaysIn h:=fun _ _ e=>PySem.W.of_hideAll _ e
theorem jQ{ch:List Addr}{h:Heap}{b:Addr}(hb:b∈ch):(hidX X h ch).get? b=none:=PySem.W.hideAll_none _ (Jn _ hb)
theorem Inv.left{h':Heap}{ch:List Addr}{a0:Value}(I:Inv X pins σ H s)(hx:X.ex = [])(hch:∀ b∈ch,XOk X pins H b)(k:(hidX X s.heap ch).StaysIn h')(t:h'.TracedW (hidX X s.heap ch) x C a0)(u:s.heap.UpToSlots h') :
  Inv X pins σ H { s with heap:=h' }/\∃ T,XOk X pins H T/\Trc h' x C T:=by
 have fr:∀ b o,s.heap.get? b=some o->b∈frs X.stack->∃ sl,h'.get? b=some { o with slots:=sl }:=fun b o e hb=>by
  obtain⟨_,o',ho,hd⟩:=I.stack.mem hb
  rw[e]at ho
  cases ho
  exact u b o e hd
 refine⟨I.xstep hch (fun b o e n1 n2=>k b o (L3 _ e fun z=>(IK.mp z).elim n1 n2)) fun b o e _ hb=>fr b o e hb,?_⟩
 obtain⟨oe,vs,T,oT,ts,he,⟨hcls,h0⟩,hd,h1,hnT,hTe,hT,hdT,h3⟩:=t
 refine⟨T,?_,oe,vs,a0,oT,ts,he,hcls,h0,hd,h1,hTe,hT,hdT,h3⟩
 cases q:s.heap.get? T with
 |none=>exact I.xok hx q (I.hok.none_of q)
 |some o =>
  by_cases z:T∈ch
  ·exact hch T z
  ·by_cases z2:T∈frs X.stack
   ·obtain⟨_,o',ho,hd'⟩:=I.stack.mem z2
    obtain⟨sl,e⟩:=fr T o q z2
    rw[hT]at e
    cases e
    rw[q]at ho
    cases ho
    exact absurd hdT (hd' ts)
   ·have:=L3 (ch++frs X.stack) q fun z3=>(IK.mp z3).elim z z2
    rw[hnT]at this
    cases this
theorem Inv.leave{Q:Unit->Shared->Prop}(I:Inv X pins σ H s)(hx:X.ex = [])(hst:X.stack=X.env::X.outer)(hfr:X.env.frame=some X.env.locals)(xa:XA X pins H s x C)
  (h:∀ h' T,Inv X pins σ H { s with heap:=h' }->XOk X pins H x->XOk X pins H T->Trc h' x C T->Q () { s with heap:=h' }):wpAny (model X.prog X.w) X.A (leaving X.env (.ref x)) Q E s:=by
 obtain⟨x1,x2⟩:=xa
 have frm:X.A.frames=some (X.env::X.outer):=by rw[← hst];exact I.ok.frames
 rcases x2 with⟨oe,vs,a0,he,hc,hd,h0,h1⟩ | ⟨T,xT,oe,vs,a0,oT,ts,he,hc,h0,hd,h1,hTe,hT,hdT,h3⟩
 ·have hch:∀ b∈[x],XOk X pins H b:=fun b hb=>by
   have e:b=x:=by simpa using hb
   rw[e]
   exact x1
  refine wpAny_leaving_firstW (base:=hidX X s.heap [x]) frm (hst▸I.hidF [x]) hfr he (DH _ _) (jQ (by simp)) hd h1 h0 fun h' L=>?_
  obtain⟨k1,_,k3,k4⟩:=L
  obtain⟨I',T,xT,tr⟩:=I.left hx hch k1 k3 k4
  rw[hc]at tr
  exact h h' T I' x1 xT tr
 ·have hch:∀ b∈[x,T],XOk X pins H b:=fun b hb=>by
   rcases IL.mp hb with e | hb
   ·rw[e]
    exact x1
   ·have e:b=T:=by simpa using hb
    rw[e]
    exact xT
  refine wpAny_leaving_nextW (base:=hidX X s.heap [x,T]) frm (hst▸I.hidF [x,T]) hfr ⟨oe,vs,T,oT,ts,he,⟨hc,h0⟩,hd,h1,jQ (by simp),hTe,hT,hdT,h3⟩ (DH _ _) (jQ (by simp)) fun h' L=>?_
  obtain⟨k1,_,k3,k4⟩:=L
  obtain⟨I',T',xT',tr⟩:=I.left hx hch k1 k3 k4
  exact h h' T' I' x1 xT' tr
end
abbrev WK:=Value->St->Hp->Prop
def Wsh(X:Cx)(W:WK):Prop:=∀(pins:List (Addr×Obj))(σ:St)(H:Hp)(s:Shared)(x:Addr)(C:Value),Inv X pins σ H s->XA X pins H s x C->W C σ H->X.xe (.ref x) s
theorem lB{P:Program}{w:World}{K:IC}{mg:Str->Option Value}{base:Heap}{N:List Str}{qual:Str}{scope:Scope}{f:Addr}{cd:Value}{A:Around}{outer:List Env}{s₀:Shared}{H₀:Hp}{E:XK} :
  Wsh (cxOf (CXr P w) P w K mg base N qual scope f cd A outer s₀ H₀ E) (fun C _ H=>E C none H):=fun pins σ H s x C I xa hE=>by
 show wpAny (model P w) (A.deeper (envOfC qual scope s₀.heap.objs.size f cd)) (leaving (envOfC qual scope s₀.heap.objs.size f cd) (.ref x)) _ _ s
 refine Inv.leave I rfl rfl rfl xa fun h' T I' x1 xT tr=>?_
 exact⟨x,C,T,H,rfl,I'.os,I'.bare,I'.base,I'.hok,x1.old,xT.old,x1.trk,xT.trk,tr,hE⟩
theorem pass0r{P:Program}{w:World}{X:Cx}:lN (CXr P w) X E0:=fun _ _ _ _ _ _ _ ⟨_,_,_,_,_,_,_,_,_,_,_,_,_,_,z⟩=>z.elim
section
variable{X:Cx}{k:Nat}{f C:Addr}{fd:FuncData}{ps:List Str}{sp:Sp}{dvs:List V}{ds:List Value}{W:WK}{x m:Str}{p pos apos:Pos}{e o:Expr}{es:List Expr}{ta:TE}{t:TA}
theorem Wsh.of{pins:List (Addr×Obj)}{σ:St}{H:Hp}{s s':Shared}{v:Value}(ws:Wsh X W)(hx:X.ex = [])(I:Inv X pins σ H s)(h:CXr X.prog X.w X.stack H s (fun C _ H'=>W C σ H') v s'):X.xe v s':=by
 obtain⟨x,C,T,H',rfl,os,bare,un,hok,nx,nT,tx,tT,tr,q⟩:=h
 have I':Inv X pins σ H' s':=I.call' os un hok bare fun b z=>absurd z (by simp)
 exact ws pins σ H' s' x C I' ⟨I.xok hx nx tx,.inr ⟨T,I.xok hx nT tT,tr⟩⟩ q
theorem Hb{pins:List (Addr×Obj)}{σ:St}{H:Hp}{s:Shared}{Q:VK}{us:List Value}{vs:List V}(F:FnOk X.prog X.w X.K X.mg X.base (CXr X.prog X.w) k f fd ps sp)(hr:Room k X.A)(hb:fZ X.K fd ps ds)(hd:Vals dvs ds)(ws:Wsh X W)(hx:X.ex = [])
  (I:Inv X pins σ H s) (r:Vals vs us) (h:sp (vs++dvs) H Q (fun C _ H'=>W C σ H')):wpAny (model X.prog X.w) X.A (call (.ref f) us) (EP X pins σ Q) X.xe s:=by
 have r2:Vals (vs++dvs) (us++ds):=r.append hd
 have hl:(us++ds).length=ps.length:=by rw[← r2.length];exact F.len _ _ _ _ h
 refine wpAny_call (codeAny_mono (F.run X.A X.stack s H ⟨us,[]⟩ (us++ds) (vs++dvs) Q _ hr I.env0 (hb s us I.kIn hl) r2 h) fun r s' hq=>?_)
 cases r with
 |error e=>exact ws.of hx I hq
 |ok fl =>
  cases fl with
  |ret u=>exact I.after hq
  |next=>exact False.elim hq
  |brk=>exact False.elim hq
  |cont=>exact False.elim hq
def FW(sp:Sp)(dvs:List V)(W:WK)(t:TA):TE:=fun σ H Q=>t σ H fun vs H1=>sp (vs++dvs) H1 Q fun C _ H'=>W C σ H'
theorem ig(F:FnOk X.prog X.w X.K X.mg X.base (CXr X.prog X.w) k f fd ps sp)(hr:Room k X.A)(hg:Gl X x)(hm:X.mg x=some (.ref f))(hk:IQ X.K (.ref f)=true)(hb:fZ X.K fd ps ds)(hd:Vals dvs ds)(ws:Wsh X W)(hx:X.ex = [])
  (ha:PA X (e::es) t) (hdb:(x == ("__debug__" : Str))=false:=by decide) (he:starEach (e::es) X.env=(false,eval e X.env)::starEach es X.env:=by rfl) (hpl:(backTo pos (starEach es X.env)).any (·.1)=false:=by rfl) :
  PE X (.Call (.Name x p) (e::es) [] pos) (FW sp dvs W t):=by
 intro pins s σ H Q I h
 refine wpAny_Call_Name_kw (kq I hg hm ?_ hdb)
 refine Lc (h₀:=X.base) I.ok.mod.kin hk (thn (ha pos pins s σ H _ I h) fun us s1 ⟨vs,H1,I1,r,q⟩=>⟨I1.kIn,?_⟩) he hpl
 exact Hb F hr hb hd ws hx I1 r q
end
end L2
namespace L2
open PySem PySem.Spec PyProof.Rows
structure CalX(P:Program)(w:World)(K:IC)(mg:Str->Option Value)(base:Heap)(k:Nat)(x:Str)(ps:List Str)(sp:Sp)(f:Addr)(fd:FuncData):Prop where
 ok:FnOk P w K mg base (CXr P w) k f fd ps sp
 bn:fZ K fd ps []
 mg:mg x=some (.ref f)
 kp:IQ K (.ref f)=true
theorem Fun.okX{P:Program}{w:World}{K:IC}{mg:Str->Option Value}{base:Heap}{x qual:Str}{st:Stmt}{f:Addr}{fd:FuncData}{N ps:List Str}{k:Nat}{sp:Sp}(F:Fun K x qual st f fd)(S:aC N ps (ah st))(len:∀ vs H Q E,sp vs H Q E->vs.length=ps.length)
  (hbody:∀(cdv:Value)(A:Around)(outer:List Env)(s:Shared)(H:Hp)(vs:List V)(Q:VK)(E:XK),Room k (A.deeper (envOfC qual (ah st) s.heap.objs.size f cdv))->sp vs H Q E ->
   ∃ t,PSs (cxOf (CXr P w) P w K mg base N qual (ah st) f cdv A outer s H E) (aw st) t/\t { nx:=fun _ H'=>Q .non H',rt:=Q } (oZ N vs) H):FnOk P w K mg base (CXr P w) (k+1) f fd ps sp:=by
 obtain⟨oc,od,kV,doc,pm,an,cdv,ct,osl,rfl,lk,hcd⟩:=F.ex
 exact Ia lk hcd S len fun A outer s H vs Q E hr hsp=>hbody cdv A outer s H vs Q E hr hsp
abbrev veM:List Value:=[.type "ValueError",.type "Exception",.type "BaseException",.type "object"]
abbrev ExC(K:IC)(C:Addr):Prop:=LD K C veM "ValueError.__new__" = true
theorem yD{K:IC}{C:Addr}{h:Heap}(e:ExC K C)(X:K.In h):∃ bm N nm qn bs hdct sn sub ab col dd k0 k1 k2 k3 k5 mN,h.get? C=some (excClassObj nm qn C N bs bm hdct sn sub ab col dd k0 k1 k2 k3 k5 "ValueError.__new__")/\h.Ns N mN/\mN "__init__" = none/\OwnTail h veM bm/\∀ B b,KG K C B=some b->(Value.ref C::bm).contains B=b:=by
 have z:=e
 unfold ExC LD at z
 split at z
 ·rename_i ddx cdx slx hobj
  split at z
  ·rename_i Cx bmx y0 y1 y2 y3 nx y5 hmro hslots
   have zz:=z
   simp only[Bool.and_eq_true,beq_iff_eq,Li]at zz
   obtain⟨⟨⟨⟨⟨eC,eN⟩,edel⟩,etail⟩,ens⟩,einit⟩:=zz
   subst eC
   subst eN
   obtain⟨l⟩:=slx
   have hl:l = [y0,y1,y2,y3,some (.builtin "ValueError.__new__"),y5]:=hslots
   subst hl
   obtain⟨nm,bs,mro,ns,qn,hd,sn,sub,ab,col,del⟩:=cdx
   have hmro':mro=.ref Cx::bmx:=hmro
   have hdel':del=false:=edel
   subst hmro' hdel'
   refine⟨bmx,ns,nm,qn,bs,hd,sn,sub,ab,col,ddx,y0,y1,y2,y3,y5,_,X _ _ hobj,.of_isNs (PySem.W.isNs_of_in X ens),PySem.W.nsMap_none_of_in X ens einit,PySem.W.tail_of_in X etail,fun B b hB=>?_⟩
   unfold KG PySem.W.clsIn at hB
   rw[hobj]at hB
   simpa using hB
  ·cases z
 ·cases z
def FV(C:Addr)(W:WK)(t:TA):TS:=fun _ σ H=>t σ H fun vs H1=>vs.length<=sizeLine/\W (.ref C) σ H1
theorem t9{X:Cx}{x:Str}{C:Addr}{e:Expr}{es:List Expr}{t:TA}{W:WK}{np cpos pos:Pos}(ec:ExC X.K C)(hm:X.mg x=some (.ref C))(hg:Gl X x)(ws:Wsh X W)(hx:X.ex = [])(hc:X.calm=true)(ha:PA X (e::es) t)
  (he:starEach (e::es) X.env=(false,eval e X.env)::starEach es X.env:=by rfl) (hpl:(backTo cpos (starEach es X.env)).any (·.1)=false:=by rfl) (hdb:(x == ("__debug__" : Str))=false:=by decide) :
  PS X (.Raise (some (.Call (.Name x np) (e::es) [] cpos)) none pos) (FV C W t):=by
 intro pins s σ H D I h
 obtain⟨tl,N,nm,qn,bs,hdct,sn,sub,ab,col,dd,k0,k1,k2,k3,k5,mN,hC,hN,hni,T,_⟩:=yD ec I.ok.mod.kin
 have hpl2:(backTo cpos (starEach (e::es) X.env)).any (·.1)=false:=by
  rw[he]
  show(false||(backTo cpos (starEach es X.env)).any (·.1))=false
  rw[hpl];rfl
 refine wpAny_Raise_call_subT (C:=C) (nm:=nm) (q:=qn) (N:=N) (bs:=bs) (bm:=tl) (hdct:=hdct) (sn:=sn) (sub:=sub) (ab:=ab) (col:=col) (dd:=dd) (k0:=k0) (k1:=k1) (k2:=k2) (k3:=k3) (k5:=k5) PySem.F.excBase_ValueError (mN:=mN) (T.hasType PySem.F.excBase_ValueError.hasBase) (I.ok.hd hc) hpl2 hni (kq I hg hm ⟨rfl,?_⟩ hdb)
 have z:=ha cpos pins s σ H _ I h
 rw[he]at z ⊢
 refine Calls.evalArgs_plain (wpAny_mono z (fun us s2 zz=>?_) fun _ _ y=>y)
 obtain⟨vs,H1,I2,r,hz,q⟩:=zz
 refine⟨rfl,by rw[← r.length];exact hz,I2.bk _ _ hC,hN.keeps I2.bk,T.keeps I2.bk,fun h' e' hme=>?_⟩
 obtain⟨t0,ht0,_,_⟩:=hme.there
 have I3:Inv X pins σ H1 { s2 with heap:=h' }:=I2.kept (t':=s2.toks) hme.keeps
 exact ws pins σ H1 _ e' (.ref C) I3 ⟨I2.xok hx hme.new (I2.hok.none_of hme.new),.inl ⟨_,_,_,ht0,rfl,rfl,rfl,rfl⟩⟩ q
def excO(x C:Addr):HO:=.ext fun h=>∃ o,h.get? x=some o/\o.cls=.ref C
section
variable{X:Cx}{pins:List (Addr×Obj)}{σ:St}{H:Hp}{s:Shared}{x:Addr}{C:Value}
def Cx.marked(X:Cx)(v:Value):Cx:={ X with A:=X.A.mark (some v),calm:=false,xe:=fun _ _=>False }
theorem Inv.marked(I:Inv X pins σ H s)(v:Value):Inv (X.marked v) pins σ H s :=
 ⟨⟨I.ok.mod,I.ok.kind,I.ok.glob,I.ok.blt,I.ok.above,I.ok.inj,I.ok.has,I.ok.cab,fun z=>(by cases z),I.ok.frames,I.ok.stk,I.ok.exf,I.ok.bs,I.ok.bsz,I.ok.noex,I.ok.exfs,I.ok.funs,I.ok.frf⟩,I.os,I.bare,I.base,I.loc,I.cell,I.free,I.freeC,I.pin,I.hok,I.len⟩
theorem Inv.unmarked{hd:X.calm=true->X.A.handled=none}{fr:X.A.frames=some X.stack}{v:Value}(I:Inv (X.marked v) pins σ H s):Inv X pins σ H s :=
 ⟨⟨I.ok.mod,I.ok.kind,I.ok.glob,I.ok.blt,I.ok.above,I.ok.inj,I.ok.has,I.ok.cab,hd,fr,I.ok.stk,I.ok.exf,I.ok.bs,I.ok.bsz,I.ok.noex,I.ok.exfs,I.ok.funs,I.ok.frf⟩,I.os,I.bare,I.base,I.loc,I.cell,I.free,I.freeC,I.pin,I.hok,I.len⟩
theorem Inv.gone{i:Nat}{n:Str}{h':Heap}{tk:Nat}{m:Str->Option Value}{v:Option Value}(I:Inv X pins σ H s)(hN:X.N.Nodup)(hi:X.N[i]?=some n)(hm:s.heap.Ns X.env.locals m/\∀ (i:Nat) (x:Str) (v:V),X.N[i]?=some x->σ[i]?=some (some v)->Vis X.env.scope x->∃ u,RelV v u/\Look X.env s.heap m x u)
  (hn:h'.Ns X.env.locals (fun y=>if y=n then v else m y)) (hs:Heap.SameBut X.env.locals s.heap h'):Inv X pins (σ.set i none) H { s with heap:=h',toks:=tk }:=by
 have lo:∀ b o,X.s₀.heap.get? b=some o->b≠X.env.locals:=fun b o e=>Jf (Jp (Heap.lt_size e) I.ok.above)
 obtain⟨oL,_,_,hoL,_⟩:=id hm.1
 refine⟨I.ok,I.os,I.bare,⟨fun b o e n1 hb hx=>(hs.2 b (lo b o e)).trans (I.base.keep b o e n1 hb hx),fun b o e n1 hb hx=>?_,I.base.free,fun b o e hx=>?_,I.base.tups,I.base.frzs,I.base.tbls⟩,⟨_,hn,fun j y w' e1 e2 e3=>?_⟩,fun y c e=>?_,I.free,I.freeC,fun p hp=>?_,fun b u e=>?_,by simpa using I.len⟩
 ·obtain⟨sl,q⟩:=I.base.slot b o e n1 hb hx
  exact⟨sl,(hs.2 b (lo b o e)).trans q⟩
 ·obtain⟨o',q⟩:=I.base.there b o e hx
  exact⟨o',(hs.2 b (lo b o e)).trans q⟩
 ·by_cases hj:j=i
  ·subst hj
   rw[JP]at e2
   split at e2
   ·split at e2<;>cases e2
   ·rename_i z;exact absurd rfl z
  ·rw[LX (Ne.symm hj)]at e2
   obtain⟨u',r',l'⟩:=hm.2 j y w' e1 e2 e3
   refine⟨u',r',?_⟩
   rcases l' with⟨kk,e⟩ | ⟨kk,c,e,z⟩
   ·refine .inl ⟨kk,?_⟩
    have ny:y≠n:=fun q=>hj (rE hN e1 (q▸hi))
    show(if y=n then v else m y)=some u'
    rw[if_neg ny];exact e
   ·exact .inr ⟨kk,c,e,z.sameBut hs (I.cne y c e)⟩
 ·obtain⟨w2,z⟩:=I.cell y c e
  exact⟨w2,z.sameBut hs (I.cne y c e)⟩
 ·obtain⟨e,n1,ne,nf,d⟩:=I.pin p hp
  exact⟨(hs.2 p.1 ne).trans e,n1,ne,nf,d⟩
 ·refine(I.hok b u e).stay (fun c v2 hc q=>(hs.2 c fun z=>?_).trans q) (fun _ q=>q) fun _ _ q=>q
  have fr:=I.free
  rcases hc with y | y
  ·rw[← y,z,fr]at e;cases e
  ·rw[z,fr]at y;cases y
end
section
variable{M:Model}{A:Around}{E:Value->Shared->Prop}{h:Heap}{g:Array GenState}{d:Drawn}{t:Nat}{os:OsState}
theorem exc_up{C D:Addr}{nm qn nm2 qn2:Str}{N N2:Addr}{bs bm bs2 bm2:List Value}{hdct hdct2:Bool}{sn sn2:List Str}{sub sub2:List Value}{ab ab2:Bool}{col col2:Option Bool}{dd dd2:Option Addr}{k0 k1 k2 k3 k5 j0 j1 j2 j3 j5:Option Value}{id1 id2:String}{x:Addr}{ob:Obj}{Q:Bool->Shared->Prop}
  (hC:h.get? C=some (excClassObj nm qn C N bs bm hdct sn sub ab col dd k0 k1 k2 k3 k5 id1)) (hD:h.get? D=some (excClassObj nm2 qn2 D N2 bs2 bm2 hdct2 sn2 sub2 ab2 col2 dd2 j0 j1 j2 j3 j5 id2)) (hob:h.get? x=some ob) (hcl:ob.cls=.ref C)
  (hDB:(Value.ref D::bm2).contains (.type "BaseException")=true) (hCD:(Value.ref C::bm).contains (.ref D)=true) (hq:Q true ⟨h,g,d,t,os⟩):wpAny M A (excMatches (.ref x) (.ref D)) Q E ⟨h,g,d,t,os⟩:=by
 have ntup:=tc_notTuple
 unfold excMatches
 repeat (first | (with_reducible refine wpAny_loadPart_at hob ?_;rw[hcl]) | with_reducible refine wpAny_loadPart_at hD ?_ | (with_reducible refine wpAny_isSubtype_exc hD ?_;rw[hDB]) | (with_reducible refine wpAny_isSubtype_exc hC ?_;rw[hCD]) | wp_step)
 exact hq
end
def Cx.tried(X:Cx)(pins:List (Addr×Obj))(E:Value->Shared->Prop):Cx:={ X with pn:=X.pn++pins,xe:=E }
section
variable{X:Cx}{pins pins':List (Addr×Obj)}{σ:St}{H:Hp}{s:Shared}{E:Value->Shared->Prop}{b:Addr}
theorem Inv.tried(I:Inv X pins σ H s):Inv (X.tried pins E) [] σ H s :=
 ⟨⟨I.ok.mod,I.ok.kind,I.ok.glob,I.ok.blt,I.ok.above,I.ok.inj,I.ok.has,I.ok.cab,I.ok.hd,I.ok.frames,I.ok.stk,I.ok.exf,I.ok.bs,I.ok.bsz,I.ok.noex,I.ok.exfs,I.ok.funs,I.ok.frf⟩,I.os,I.bare,I.base,I.loc,I.cell,I.free,I.freeC,fun p hp=>I.pin p (by rw[Kz]at hp;exact hp),I.hok,I.len⟩
theorem Inv.untried(I:Inv (X.tried pins E) pins' σ H s):Inv X pins σ H s :=
 ⟨⟨I.ok.mod,I.ok.kind,I.ok.glob,I.ok.blt,I.ok.above,I.ok.inj,I.ok.has,I.ok.cab,I.ok.hd,I.ok.frames,I.ok.stk,I.ok.exf,I.ok.bs,I.ok.bsz,I.ok.noex,I.ok.exfs,I.ok.funs,I.ok.frf⟩,I.os,I.bare,I.base,I.loc,I.cell,I.free,I.freeC,fun p hp=>I.pin p (Jn _ hp),I.hok,I.len⟩
theorem XOk.untried(x:XOk (X.tried pins E) pins' H b):XOk X pins H b:=⟨x.old,x.trk,x.nl,x.nc,fun p hp=>x.np p (Jn _ hp)⟩
theorem SP.untried{D:Ends}{f:Flow}(h:SP (X.tried pins E) [] D f s):SP X pins D f s:=by
 cases f with
 |next=>obtain⟨σ',H',I,q⟩:=h;exact⟨σ',H',I.untried,q⟩
 |brk=>obtain⟨σ',H',I,q⟩:=h;exact⟨σ',H',I.untried,q⟩
 |cont=>obtain⟨σ',H',I,q⟩:=h;exact⟨σ',H',I.untried,q⟩
 |ret u=>obtain⟨v,σ',H',I,r,q⟩:=h;exact⟨v,σ',H',I.untried,r,q⟩
end
def WshT(X:Cx)(W:WK):Prop:=∀(pins:List (Addr×Obj))(σ:St)(H:Hp)(s:Shared)(x T:Addr)(C:Value),Inv X pins σ H s->XOk X pins H x->XOk X pins H T->Trc s.heap x C T->W C σ H->X.xe (.ref x) s
section
variable{X:Cx}{k:Nat}{f:Addr}{fd:FuncData}{ps:List Str}{sp:Sp}{dvs:List V}{ds:List Value}{W:WK}{x:Str}{p pos:Pos}{e:Expr}{es:List Expr}{t:TA}
theorem E3(F:FnOk X.prog X.w X.K X.mg X.base (CXr X.prog X.w) k f fd ps sp)(hr:Room k X.A)(hg:Gl X x)(hm:X.mg x=some (.ref f))(hk:IQ X.K (.ref f)=true)(hb:fZ X.K fd ps ds)(hd:Vals dvs ds)(ws:WshT X W)(hx:X.ex = [])
  (ha:PA X (e::es) t) (hdb:(x == ("__debug__" : Str))=false:=by decide) (he:starEach (e::es) X.env=(false,eval e X.env)::starEach es X.env:=by rfl) (hpl:(backTo pos (starEach es X.env)).any (·.1)=false:=by rfl) :
  PE X (.Call (.Name x p) (e::es) [] pos) (FW sp dvs W t):=by
 intro pins s σ H Q I h
 refine wpAny_Call_Name_kw (kq I hg hm ?_ hdb)
 refine Lc (h₀:=X.base) I.ok.mod.kin hk (thn (ha pos pins s σ H _ I h) fun us s1 ⟨vs,H1,I1,r,q⟩=>⟨I1.kIn,?_⟩) he hpl
 have r2:Vals (vs++dvs) (us++ds):=r.append hd
 have hl:(us++ds).length=ps.length:=by rw[← r2.length];exact F.len _ _ _ _ q
 refine wpAny_call (codeAny_mono (F.run X.A X.stack s1 H1 ⟨us,[]⟩ (us++ds) (vs++dvs) Q _ hr I1.env0 (hb s1 us I1.kIn hl) r2 q) fun r s' hq=>?_)
 cases r with
 |error e =>
  obtain⟨x,C,T,H',rfl,os,bare,un,hok,nx,nT,tx,tT,tr,q'⟩:=hq
  have I':Inv X pins σ H' s':=I1.call' os un hok bare fun b z=>absurd z (by simp)
  exact ws pins σ H' s' x T C I' (I1.xok hx nx tx) (I1.xok hx nT tT) tr q'
 |ok fl =>
  cases fl with
  |ret u=>exact I1.after hq
  |next=>exact False.elim hq
  |brk=>exact False.elim hq
  |cont=>exact False.elim hq
end
def tTryAs(ie:Nat)(Cs:Addr->Prop)(tb:WK->TS)(ts:TS):TS:=fun Ds σ H=>tb (fun C σ1 H1=>∃ c,C=.ref c/\Cs c/\∀ x,H1 x=none->ts { nx:=fun σ2 H2=>Ds.nx (σ2.set ie none) H2,rt:=fun _ _=>False } (σ1.set ie (some (.ref x))) (upd H1 x (excO x c))) Ds σ H
theorem EW{X:Cx}{body:List Stmt}{b0:Stmt}{suite:List Stmt}{dn en:Str}{np hpos pos:Pos}{D:Addr}{ie:Nat}{Cs:Addr->Prop}{tb:WK->TS}{ts:TS}(hx:X.ex = [])(hst:X.stack=X.env::X.outer)(hfr:X.env.frame=some X.env.locals)(hN:X.N.Nodup)(hi:X.N[ie]?=some en)(hl:X.env.kindOf en=some .local)
  (hgD:Gl X dn) (hmD:X.mg dn=some (.ref D)) (eD:ExC X.K D) (hCs:∀ c,Cs c->ExC X.K c/\KG X.K c (.ref D)=some true)
  (hb:∀ pins XE W,WshT (X.tried pins XE) W->PSs (X.tried pins XE) body (tb W)) (hs:∀ v,PSs (X.marked v) (b0::suite) ts) (hdb:(dn == ("__debug__" : Str))=false:=by decide) :
  PS X (.Try body [.ExceptHandler (some (.Name dn np)) (some en) (b0::suite) hpos] [] [] pos) (tTryAs ie Cs tb ts):=by
 intro pins s σ H Ds I h
 refine wpAny_Try_except ?_
 refine wpAny_mono (hb pins (fun e s₁=>wpAny (model X.prog X.w) X.A (noteFrame e X.env) (fun _ s₂=>wpAny (model X.prog X.w) X.A (setFlight e none) (fun _ s₃=>wpAny (model X.prog X.w) X.A (handleBy e X.env [.ExceptHandler (some (.Name dn np)) (some en) (b0::suite) hpos]) (SP X pins Ds) X.xe s₃) X.xe s₂) X.xe s₁) _ ?_ [] s σ H Ds I.tried h) (fun f s1 q=>?_) fun _ _ z=>z
 ·intro pins' σ1 H1 s1 x T C I1 xx xT tr hw
  obtain⟨c,rfl,hc,hts⟩:=hw
  have I2:Inv X pins σ1 H1 s1:=I1.untried
  have x2:XOk X pins H1 x:=xx.untried
  have T2:XOk X pins H1 T:=xT.untried
  have frm:X.A.frames=some (X.env::X.outer):=by rw[← hst];exact I2.ok.frames
  have fly:∀{h:Heap}{T:Addr},Inv X pins σ1 H1 { s1 with heap:=h }->Trc h x (.ref c) T->∃ a0,Heap.FlyingW (hidX X h [x,T]) (X.env::X.outer) x (.ref c) a0 h:=fun{h T} J tr=>by
   obtain⟨oe,vs,a0,oT,ts,he,hcl,h0,hd,h1,hTe,hT,hdT,h3⟩:=tr
   exact⟨a0,DH _ _,jQ (by simp),hst▸J.hidF [x,T],⟨oe,vs,T,oT,ts,he,⟨hcl,h0⟩,hd,h1,jQ (by simp),hTe,hT,hdT,h3⟩⟩
  have two:∀{T:Addr},XOk X pins H1 T->∀ b∈[x,T],XOk X pins H1 b:=fun{T} hT b hb=>by
   rcases IL.mp hb with e | hb
   ·rw[e];exact x2
   ·have e:b=T:=by simpa using hb
    rw[e];exact hT
  obtain⟨a0,fl⟩:=fly (h:=s1.heap) I2 tr
  refine wpAny_looks_onW frm hfr fl fun h4 held4 up4=>?_
  refine wpAny_landsW held4 fun h5 fl5 up5=>?_
  obtain⟨I5,T5,xT5,tr5⟩:=I2.left hx (two T2) fl5.1 fl5.2.2.2 (up4.trans up5)
  refine wpAny_handleBy_cons (codeAny_handlers_test (Calls.Name_function_global I5.ok.kind hgD (Calls.loadGlobal_global (by rw[I5.ok.glob];exact I5.mod.glob.keeps I5.bk) hmD ?_) hdb)) (by intro q;cases q)
  obtain⟨e1,e2⟩:=hCs c hc
  obtain⟨_,_,_,_,_,_,_,_,_,_,_,_,_,_,_,_,_,hC,_,_,_,mC⟩:=yD e1 I5.kIn
  obtain⟨_,_,_,_,_,_,_,_,_,_,_,_,_,_,_,_,_,hD,_,_,TD,_⟩:=yD eD I5.kIn
  have hDB:=TD.hasType (X:="BaseException") (b:=true) rfl
  obtain⟨ob,_,_,_,_,hob,hcl,_⟩:=id tr5
  refine exc_up hC hD hob hcl (by rw[List.contains_cons,hDB,Bool.or_true]) (mC _ _ e2) ?_
  refine codeAny_handlers_suite_as ?_
  obtain⟨a5,fl5'⟩:=fly I5 tr5
  refine lands_againW (s:={ s1 with heap:=h5 }) fl5' fun h6 fl6 up6=>?_
  obtain⟨I6,T6,xT6,tr6⟩:=I5.left hx (two xT5) fl6.1 fl6.2.2.2 up6
  obtain⟨oe,_,_,_,_,he,hcl6,_⟩:=id tr6
  have I7:=I6.xtrack (o:=excO x c) x2 ⟨⟨oe,he,hcl6⟩,⟨oe,he⟩,fun h1 h2 ⟨o,z1,z2⟩ kk=>⟨o,kk o z1,z2⟩⟩
  refine mM I7 hN hi (.inl hl) (v:=.ref x) rfl (fun s8 I8=>?_) (.inr hl)
  refine wpAny_mono (hs (.ref x) pins s8 _ _ _ (I8.marked _) (hts x x2.trk)) (fun f s9 q9=>?_) fun _ _ z=>z.elim
  cases f with
  |next =>
   obtain⟨σ9,H9,I9,q9⟩:=q9
   have I9':Inv X pins σ9 H9 s9:=Inv.unmarked (hd:=I2.ok.hd) (fr:=I2.ok.frames) I9
   obtain⟨m,hm⟩:=I9'.loc
   refine wpAny_nameGoes_keeps hl hm.1 (by rw[I9'.ok.kind];rfl) fun h' v hn hss=>?_
   exact⟨_,_,I9'.gone hN hi hm hn hss,q9⟩
  |brk=>obtain⟨_,_,_,z⟩:=q9;exact z.elim
  |cont=>obtain⟨_,_,_,z⟩:=q9;exact z.elim
  |ret u=>obtain⟨_,_,_,_,_,z⟩:=q9;exact z.elim
 ·have q':=SP.untried q
  cases f with
  |next=>exact wpAny_execs_nil q'
  |brk=>exact q'
  |cont=>exact q'
  |ret u=>exact q'
theorem Dy{K:IC}{x c:Value}{Hh:Heap->Prop}(ty:∀ (M:Model) (h:Heap),Hh h->PySem.W.Looks M h (typeOf x) c):Answers (fun s=>Hh s.heap) x c true:=by
 intro dep tk prog w A R s hs
 obtain⟨h0,g,d,tt,os⟩:=s
 obtain⟨p,hq⟩:=hs
 have LT:=ty (model prog w) h0 p
 unfold Builtin.«isinstance.nested»
 refine wpAny_bind (LT.at ?_)
 rw[if_pos (by simp)]
 first
  |exact wpAny_bind (wpAny_rule (hq tt))
  |exact wpAny_bind (wpAny_rule (wpAny_pure (hq tt)))
  | ((repeat lk);exact hq tt)
end L2
namespace L2
open PySem PySem.Spec PyProof.Rows
theorem Eo{X:Cx}:j9 X (.builtin "isinstance") (fun xs H Q=>∃ x c,xs = [.ref x,.ref c]/\H x=some (excO x c)/\Q (.bl true) H):=by
 intro pins s σ H xs us Q I r h
 obtain⟨x,c,rfl,hx,q⟩:=h
 obtain⟨v1,v2,rfl,r1,r2⟩:=GP r
 cases r1
 cases r2
 obtain⟨⟨o,e,hc⟩,_,_⟩:=(show aY X.prog X.w H s.heap x (excO x c) from I.hok x _ hx)
 have an:=Dy (K:=X.K) (x:=.ref x) (c:=.ref c) (Hh:=fun h=>∃ o,h.get? x=some o/\o.cls=.ref c) fun M h ⟨o,z1,z2⟩=>z2▸(PySem.W.Looks.ld z1).andThen .now
 exact call_isinstance (S:=fun _ R s=>(∃ o,s.heap.get? x=some o/\o.cls=.ref c)/\∀ tk,R (.ok (.ret (.bool true))) { s with toks:=tk }) (fun prog w A R s hs=>isinstance_outer (an 0 _ prog w A R s hs) (by intro z;cases z)) ⟨⟨o,e,hc⟩,fun tk=>⟨.bl true,H,I.tok tk,rfl,q⟩⟩
end L2
namespace L2
open PySem PySem.Spec PyProof.Rows
section
variable{prog:Program}{w:World}{A:Around}{E:Value->Shared->Prop}{s:Shared}
end
end L2
namespace L2
open PySem PySem.Spec PyProof.Rows
section
variable{prog:Program}{w:World}{A:Around}{E:Value->Shared->Prop}{s:Shared}
end
section
variable{X:Cx}
theorem Inv.track{pins:List (Addr×Obj)}{σ:St}{H:Hp}{s:Shared}{a:Addr}{o:HO}(I:Inv X pins σ H s)(f:FpOk X pins H a)(new:aY X.prog X.w (upd H a o) s.heap a o):Inv X pins σ (upd H a o) s:=by
 obtain⟨f0,f1,f2,f3,f4,f5⟩:=f
 have ne:∀ b u,H b=some u->b≠a:=fun b u e=>ar e f0
 refine I.step (g':=s.gens) (t':=s.toks) (d':=s.drawn) (h':=s.heap) (ch:=[a]) (fun b hb=>?_) (fun b o _ _ _ e _=>e) (fun b o _ _ _ e _=>⟨o.slots,e⟩) (fun b o hc e n=>?_) (fun b o _ e=>⟨o,e⟩) (fun b xs e=>by rw[ai (ne b _ e)];exact e) (fun b o u e=>by rw[ai (ne b _ e)];exact e)
  (fun b ps e=>⟨#[],by rw[ai (ne b _ e),e];simp⟩) (fun m hm=>hm) (fun b u e=>?_) I.bare
 ·have eb:b=a:=by simpa using hb
  rw[eb]
  exact⟨f3,f1,f4,f5⟩
 ·rw[ai (fun z=>hc (by simp[z]))]
  exact n
 ·by_cases hb:b=a
  ·rw[hb,ae]at e
   cases e
   rw[hb]
   exact new
  ·rw[ai hb]at e
   exact(I.hok b u e).stay (fun c v _ q=>q) (fun c q=>by rw[ai (ne c _ q)];exact q) fun c xs q=>by rw[ai (ne c _ q)];exact q
end
end L2
namespace L2
open PySem PySem.Spec PyProof.Rows
section
variable{X:Cx}
end
end L2
namespace L2
open PySem PySem.Spec PyProof.Rows
theorem Inv.turnedL{X:Cx}{pins:List (Addr×Obj)}{σ:St}{H:Hp}{s:Shared}{h':Heap}{t':Nat}{fp:List Addr}(I:Inv X pins σ H s)(k:∀ b o,b∉fp->s.heap.get? b=some o->h'.get? b=some o)(hf:∀ b∈fp,FpOk X pins H b):Inv X pins σ H { s with heap:=h',toks:=t' }:=by
 have nit:∀ b u,H b=some u->b∉fp:=fun b u e z=>by rw[(hf b z).1]at e;cases e
 refine I.step (g':=s.gens) (d':=s.drawn) (ch:=fp) (fun b hb=>?_) (fun b o _ _ hc e _=>k b o hc e) (fun b o _ _ hc e _=>⟨o.slots,k b o hc e⟩) (fun _ _ _ _ n=>n)
  (fun b o hc e=>⟨o,k b o hc e⟩) (fun _ _ e=>e) (fun _ _ _ e=>e) (fun b ps e=>⟨#[],by rw[e];simp⟩) (fun m hm=>?_) (fun b u e=>?_) I.bare
 ·obtain⟨f0,f1,f2,f3,f4,f5⟩:=hf b hb
  exact⟨f3,f1,f4,f5⟩
 ·obtain⟨o,es,ep,ho,r⟩:=hm
  exact⟨o,es,ep,k _ o (fun z=>(hf _ z).2.1 rfl) ho,r⟩
 ·refine(I.hok b u e).stay (fun c v hc q=>k c v ?_ q) (fun _ q=>q) fun _ _ q=>q
  rcases hc with z | z
  ·rw[z];exact nit b u e
  ·exact nit c _ z
def Ite(K:IC)(a:Addr):It :=
 ⟨fun i H=>∃ xs x,SqL K H a xs/\xs[i]?=some x,fun i H v H'=>∃ T x,H T=none/\v=.ref T/\H'=upd H T (.tup [.int (i:Int),x])/\∀ xs,SqL K H a xs->xs[i]?=some x,fun i H=>∃ xs,SqL K H a xs/\xs.length<=i⟩
theorem BP{P:Program}{w:World}{K:IC}{es:List Expr}{k:Nat}{pos:Pos}(a e it:Addr)(hei:e≠it):Turn P w K (.Tuple es k pos) (Ite K a) [e,it] e (fun i h=>(∃ old,IsEnum h e it ((i:Nat):Int) old)/\h.IsListIter it a i) where
 mem:=by simp
 obj:=fun i h st b hb=>by
  obtain⟨⟨old,he⟩,o,e2,c,d⟩:=st
  rcases IL.mp hb with rfl | hb
  ·exact⟨_,he,fun v z=>by
    have z':Data.fields _=Data.cell v:=z
    cases z'⟩
  ·have e3:b=it:=by simpa using hb
   subst e3
   exact⟨o,e2,fun v z=>by rw[d]at z;cases z⟩
 keep:=fun i h h' st kk=>by
  obtain⟨⟨old,he⟩,hit⟩:=st
  exact⟨⟨old,kk e (by simp) _ he⟩,hit.at fun o q=>kk it (by simp) o q⟩
 item:=by
  intro X hP hw hK hc i pins s σ H E I hf st hg
  subst hP hw hK
  obtain⟨xs,x,hq,hx⟩:=hg
  obtain⟨its,rv,p,hz⟩:=I.list hq
  obtain⟨u,hu,ru⟩:=rv.get hx
  obtain⟨⟨old,he⟩,hit⟩:=st
  refine wpAny_pyNext_enum_item he hit p.isList (x:=u) (by simpa using hu) hei fun h' ho hit' hT hsz hk=>?_
  refine⟨_,rfl,?_⟩
  refine wpAny_letOwnedTupleGo_enum ho fun h2 he2 hs2=>?_
  have hs2':Heap.SameBut e h' h2:=hs2
  have hel:e<s.heap.objs.size:=Heap.lt_size he
  have hil:it<s.heap.objs.size:=by obtain⟨_,q,_⟩:=hit;exact Heap.lt_size q
  have hfr:H s.heap.objs.size=none:=I.hok.fresh (IG _)
  have I0:Inv X pins σ (upd H s.heap.objs.size (.tup [.int (i:Int),x])) { s with heap:=s.heap.push { cls:=.type "tuple",data:=.seq #[.int (i:Int) s.toks,u] },toks:=s.toks+1 } :=
   I.laid (t':=s.toks+1) (fun b u e=>Heap.get?_push_of_some _ e) (IG _) ⟨by show 2<=sizeLine;decide,[.int (i:Int) s.toks,u],.cons ⟨_,rfl⟩ (.cons ru .nil),⟨_,Heap.get?_push_size _ rfl,rfl,_,rfl⟩⟩
  have hfb:∀ b∈[e,it],b<s.heap.objs.size:=fun b hb=>by
   rcases IL.mp hb with rfl | hb
   ·exact hel
   ·have e3:b=it:=by simpa using hb
    rw[e3];exact hil
  have hn:∀ b∈[e,it],upd H s.heap.objs.size (.tup [.int (i:Int),x]) b=none:=fun b hb=>by
   rw[ai (Jf (hfb b hb))]
   exact(hf b hb).1
  have I2:Inv X pins σ (upd H s.heap.objs.size (.tup [.int (i:Int),x])) { s with heap:=h2,toks:=s.toks+1 }:=Inv.turnedL (s:={ s with heap:=s.heap.push { cls:=.type "tuple",data:=.seq #[.int (i:Int) s.toks,u] },toks:=s.toks+1 }) (h':=h2) I0 (t':=s.toks+1) (fp:=[e,it]) (fun b o hb q=>by
   have nb:b≠e:=fun z=>hb (by simp[z])
   have nb2:b≠it:=fun z=>hb (by simp[z])
   refine(hs2'.2 b nb).trans ?_
   rcases Heap.get?_push_cases q with⟨z1,z2⟩ | q
   ·rw[z1,z2];exact hT
   ·exact hk b o nb nb2 q) fun b hb=>⟨hn b hb,(hf b hb).2⟩
  refine⟨.ref s.heap.objs.size,_,I2,rfl,⟨s.heap.objs.size,x,hfr,rfl,rfl,fun ys hy=>by rw[I.list_inj hy hq];exact hx⟩,?_,hn⟩
  refine⟨⟨u,?_⟩,hit'.at fun o q=>(hs2'.2 it (Ne.symm hei)).trans q⟩
  have e4:(((i+1:Nat):Nat):Int)=(i:Int)+1:=by omega
  rw[e4]
  exact he2
 done:=by
  intro X hP hw hK hc i pins s σ H E I hf st hg
  subst hP hw hK
  obtain⟨xs,hq,hx⟩:=hg
  obtain⟨its,rv,p,hz⟩:=I.list hq
  obtain⟨⟨old,he⟩,hit⟩:=st
  have hl:=rv.length
  obtain⟨f0,f1,f2,f3,f4,f5⟩:=hf it (by simp)
  exact wpAny_pyNext_enum_end (I.ok.hd hc) he hit p.isList (by simp;omega) fun h' eb=>⟨rfl,I.turned (t':=s.toks) (fun b o hb e=>eb b o hb e) f0 f1 f3 f4 f5⟩
 self:=fun _ _ _ _ _ st h=>by
  obtain⟨⟨old,he⟩,_⟩:=st
  exact wpAny_pyIter_enum he h
section
variable{X:Cx}
def iEnum(K:IC)(ta:TA):TI:=fun σ H R=>ta σ H fun vs H1=>∃ a,vs = [.ref a]/\(∃ xs,SqL K H1 a xs)/\R (Ite K a) H1
theorem CB{l:Expr}{ta:TA}{es:List Expr}{k:Nat}{tp p pos:Pos} (hg:Gl X "enumerate") (hm:X.mg "enumerate" = none) (ha:PA X [l] ta) (hs:starEach [l] X.env = [(false,eval l X.env)]:=by rfl) :
  PI X (.Tuple es k tp) (.Call (.Name "enumerate" p) [l] [] pos) (iEnum X.K ta):=by
 intro pins s σ H R I h
 refine Call_ (jL I hg hm vK (PyProof.Rows.callWith_type1 (thn (ha pos pins s σ H _ I h) fun us s1 ⟨vs,H1,I1,r1,q1⟩=>?_) hs rfl))
 obtain⟨a,e,⟨xs,hq⟩,q⟩:=q1
 subst e
 obtain⟨u,rfl,ru⟩:=tE r1
 cases ru
 obtain⟨its,rv,p,hz⟩:=I1.list hq
 refine call_enumerate_list p.isList fun h' he hit hsz hk=>?_
 refine wpAny_pyIter_enum he ?_
 refine⟨s1.heap.objs.size+1,[s1.heap.objs.size+1,s1.heap.objs.size],_,_,H1,rfl,I1.kept (t':=s1.toks) hk,BP a _ _ (Nat.succ_ne_self _),⟨⟨_,he⟩,hit⟩,fun b hb=>?_,q⟩
 have hb':s1.heap.objs.size<=b:=by
  rcases IL.mp hb with rfl | hb
  ·exact La _
  ·have e3:b=s1.heap.objs.size:=by simpa using hb
   rw[e3];exact IG _
 exact I1.fpOk hb' (I1.hok.fresh hb')
end
theorem Ad{K:IC}{a:Addr}{xs:List V}{g:TG}{tb:TS}{D:Ends}{σ:St}{H:Hp}(Pv:Nat->St->Hp->Prop)(h0:Pv 0 σ H)(hl:∀ i σ H,i<=xs.length->Pv i σ H->SqL K H a xs)
  (hs:∀ i x σ H T,xs[i]?=some x->Pv i σ H->H T=none->g (.ref T) σ (upd H T (.tup [.int (i:Int),x])) fun σ2 H2=>tb { D with nx:=Pv (i+1),ct:=Pv (i+1),bk:=D.nx } σ2 H2) (hd:∀ σ H,Pv xs.length σ H->D.nx σ H) :
  ∃ W:Nat->Nat->St->Hp->Prop,(∃ m,W 0 m σ H)/\∀ i m σ H,W i m σ H ->
   ((Ite K a).stop i H/\D.nx σ H)∨((Ite K a).go i H/\∃ N:St->Hp->Prop,(∀ σ' H',N σ' H'->∃ m',m'<m/\W (i+1) m' σ' H')/\∀ x H',(Ite K a).yld i H x H'->g x σ H' fun σ2 H2=>tb { D with nx:=N,ct:=N,bk:=D.nx } σ2 H2):=by
 refine⟨fun i m σ H=>m=xs.length-i/\i<=xs.length/\Pv i σ H,⟨xs.length,by simp,JL _,h0⟩,?_⟩
 rintro i m σ H ⟨rfl,hi,p⟩
 have q:=hl i σ H hi p
 by_cases hlt:i<xs.length
 ·refine .inr ⟨⟨xs,xs[i],q,by simp[hlt]⟩,Pv (i+1),fun σ' H' p'=>⟨xs.length-(i+1),by omega,rfl,hlt,p'⟩,fun v H' y=>?_⟩
  obtain⟨T,x,hT,rfl,rfl,y⟩:=y
  exact hs i x σ _ T (y xs q) p hT
 ·have e:i=xs.length:=by omega
  subst e
  exact .inl ⟨⟨xs,q,IG _⟩,hd σ H p⟩
end L2
namespace L2
open PySem PySem.Spec PyProof.Rows
section
variable{X:Cx}
end
end L2
namespace L2
open PySem PySem.Spec PyProof.Rows
theorem gO:∀{ds:List PyData},(∀ d∈ds,d.canLay0=true)->PyData.canLayAll0 ds=true
 |[],_=>by simp[PyData.canLayAll0]
 |d::ds,h=>by
  rw[PyData.canLayAll0,h d (by simp),gO fun x hx=>h x (by simp[hx])]
  rfl
theorem jm{n:Nat}:∀{ds:List PyData},(∀ d∈ds,d.depth<=n)->PyData.depthAll ds<=n
 |[],_=>by simp[PyData.depthAll]
 |d::ds,h=>by
  have h1:=h d (by simp)
  have h2:=jm (ds:=ds) fun x hx=>h x (IV _ hx)
  rw[PyData.depthAll]
  omega
theorem nk{ds:List PyData}(h:∀ d∈ds,d.canLay0=true/\d.depth<=10):SeqAt.shaped (.list ds)=true:=by
 have h1:=gO fun d hd=>(h d hd).1
 have h2:=jm fun d hd=>(h d hd).2
 have h3:PyData.depth (.list ds)<=64:=by simp only[PyData.depth];omega
 show(PyData.canLay0 (.list ds)&&decide (PyData.depth (.list ds)<=64))=true
 rw[Bool.and_eq_true]
 exact⟨by simp only[PyData.canLay0];exact h1,decide_eq_true h3⟩
end L2
namespace L2
open PySem PySem.Spec PyProof.Rows
def cxG(X:Cx)(scope:Scope)(fr:List (Str×Nat))(xs:List Str)(C:Addr)(ex:List Addr)(s:Shared)(H:Hp):Cx where
 prog:=X.prog
 w:=X.w
 K:=X.K
 mg:=X.mg
 base:=X.base
 A:=X.A
 N:=xs++fr.map (·.1)
 s₀:=s
 H₀:=H
 env:=compEnvC scope (clOf X.env fr) C X.env
 outer:=X.stack
 stack:=X.stack
 ex:=ex
 fn:=fun _=>false
 calm:=X.calm
 pn:=[]
 xe:=fun _ _=>False
structure tw(X:Cx)(scope:Scope)(fr:List (Str×Nat))(xs:List Str):Prop where
 clos:closureFor scope X.env=pure (clOf X.env fr)
 cell:∀ y∈scope.names,y.2≠.cell
 kind:scope.kind=.function
 names:∀ y∈scope.names,y.2=.local->scope.names.lookup y.1=some .local
 slot:∀ p∈fr,X.N[p.2]?=some p.1/\X.env.kindOf p.1=some .cell
 has:∀ y∈(relabel scope X.env).names,(y.2=.cell∨y.2=.free)->y.1∈fr.map (·.1)
 frk:∀ p∈fr,(relabel scope X.env).names.lookup p.1=some .cell
theorem tw.of{X:Cx}{scope:Scope}{fr:List (Str×Nat)}{xs:List Str}(clos:closureFor scope X.env=pure (clOf X.env fr))(cell:∀ y∈scope.names,y.2≠.cell)(kind:scope.kind=.function)(names:∀ y∈scope.names,y.2=.local->scope.names.lookup y.1=some .local)
  (slot:∀ p∈fr,X.N[p.2]?=some p.1/\X.env.kindOf p.1=some .cell) (nf:∀ z∈scope.names,z.2=.free->z.1∈fr.map (·.1)) (frk:∀ p∈fr,(relabel scope X.env).names.lookup p.1=some .cell):tw X scope fr xs where
 clos:=clos
 cell:=cell
 kind:=kind
 names:=names
 slot:=slot
 has:=fun z hz hk=>by
  obtain⟨⟨n,k⟩,hm,e⟩:=IY.mp (show z∈scope.names.map _ from hz)
  have h2:=cell _ hm
  dsimp only at e h2
  have hn:z.1=n:=by rw[← e];split<;>rfl
  have hf:k=.free:=by
   by_cases q:k=.free
   ·exact q
   ·have hb:(k == NameKind.free)=false:=by simpa using q
    rw[hb]at e
    simp only[K9,JM,if_false]at e
    subst e
    exact(hk.elim h2 q).elim
  have:=nf _ hm hf
  rw[hn]
  exact this
 frk:=frk
abbrev nons(xs:List Str):St:=K4 xs.length none
section
variable{X:Cx}{pins:List (Addr×Obj)}{σ:St}{H:Hp}{s:Shared}{scope:Scope}{fr:List (Str×Nat)}{xs:List Str}
theorem tw.cells(O:tw X scope fr xs)(I:Inv X pins σ H s){y:Str}{c:Addr}(h:(clOf X.env fr).lookup y=some c):X.env.cells.lookup y=some c:=by
 obtain⟨hm,e⟩:=eI h
 obtain⟨p,hp,ep⟩:=IY.mp hm
 have k:=(O.slot p hp).2
 rw[ep]at k
 obtain⟨c',e'⟩:=I.ok.has y (.inl k)
 rw[e']at e
 rw[e',e]
 rfl
theorem DA{fp:List Addr}(O:tw X scope fr xs)(I:Inv X pins σ H s)(hf:∀ b∈fp,FpOk X pins H b)(hfs:∀ b∈fp,b<s.heap.objs.size){g h':Heap}{tk:Nat}(hg:g=s.heap.push (LCg.lst []))
  (hk:∀ b o,g.get? b=some o->h'.get? b=some o) (hC:h'.Ns g.objs.size fun _=>none) :
  Inv (cxG X scope fr xs g.objs.size (s.heap.objs.size::fp) { s with heap:=g } H) (X.pn++pins++[(s.heap.objs.size,LCg.lst [])]) (nons xs++frOf fr σ) H { s with heap:=h',toks:=tk }:=by
 have hsz:g.objs.size=s.heap.objs.size+1:=by rw[hg,Heap.size_push]
 have kp:∀ b o,s.heap.get? b=some o->g.get? b=some o:=fun b o e=>by rw[hg];exact Heap.get?_push_of_some _ e
 have hk0:∀ b o,s.heap.get? b=some o->h'.get? b=some o:=fun b o e=>hk b o (kp b o e)
 have hDo:h'.get? s.heap.objs.size=some (LCg.lst []):=hk _ _ (by rw[hg];exact Heap.get?_push_size _ rfl)
 have neC:∀ b,b<s.heap.objs.size->b≠g.objs.size:=fun b e=>by rw[hsz];exact Jf (Kp e)
 have hDC:s.heap.objs.size≠g.objs.size:=by rw[hsz];exact Jf (Kj _)
 have hfr:H g.objs.size=none:=I.hok.fresh (by rw[hsz];exact La _)
 have hfD:H s.heap.objs.size=none:=I.hok.fresh (IG _)
 have cne:∀ y c,X.env.cells.lookup y=some c->c<s.heap.objs.size:=fun y c e=>by
  obtain⟨v,q⟩:=I.cell y c e
  exact q.lt
 have nst:∀ b,b≠X.env.locals->b∉X.fs->b∉frs X.stack:=fun b h1 h2 z=>(IL.mp (I.stkSub b z)).elim h1 h2
 have nstD:s.heap.objs.size∉frs X.stack:=nst _ (JX I.lt) (I.nofs (IG _))
 refine⟨⟨I.ok.mod,O.kind,I.ok.glob,I.ok.blt,IG _,?_,?_,fun _ _ z _=>(by cases z),I.ok.hd,I.ok.frames,.inl rfl,?_,?_,?_,?_,?_,?_,I.stkFree⟩,rfl,I.bare,Un.kept hk,?_,?_,hfr,?_,?_,I.hok.kept hk0,?_⟩
 ·intro y z c h1 h2
  exact I.ok.inj y z c (O.cells I h1) (O.cells I h2)
 ·intro y hy
  have hm:y∈fr.map (·.1):=by
   rcases hy with hy | hy
   ·exact O.has (y,_) (J1 hy) (.inl rfl)
   ·exact O.has (y,_) (J1 hy) (.inr rfl)
  exact⟨_,bB hm⟩
 ·intro b hb
  rcases IL.mp hb with rfl | hb
  ·exact⟨hDC,fun y c e=>Jf (cne y c (O.cells I e))⟩
  ·exact⟨neC b (hfs b hb),fun y c e=>(hf b hb).2.2.2.2.1 y c (O.cells I e)⟩
 ·intro b o e
  exact⟨kp b o (I.bs b o e).1,(I.bs b o e).2⟩
 ·show X.base.objs.size<=g.objs.size
  rw[hsz]
  exact K0 (JG I.ok.bsz I.sz)
 ·intro b o e hb
  rcases IL.mp hb with z | hb
  ·have:=Heap.lt_size (I.bs b o e).1
   rw[z]at this
   exact JT _ this
  ·rcases(hf b hb).2.2.2.1 with z | z
   ·exact I.ok.noex b o e z
   ·exact absurd (Jp (Heap.lt_size (I.ok.bs b o e).1) z) (JT _)
 ·intro b hb
  rcases IL.mp hb with z | hb
  ·rw[z];exact nstD
  ·exact nst b (hf b hb).2.1 (hf b hb).2.2.1
 ·exact(I.kept (h':=g) (t':=s.toks) kp).stack
 ·refine⟨_,hC,fun i y v e1 e2 e3=>?_⟩
  have e1a:(xs++fr.map (·.1))[i]?=some y:=e1
  by_cases hi:i<xs.length
  ·rw[IH (by simpa using hi)]at e2
   rw[KJ,if_pos hi]at e2
   cases e2
  ·have e1':(fr.map (·.1))[i-xs.length]?=some y:=by
    rw[IE (by omega)]at e1a
    exact e1a
   have e2':(frOf fr σ)[i-xs.length]?=some (some v):=by
    rw[IE (by simp;omega)]at e2
    simpa using e2
   generalize i-xs.length=k at e1' e2'
   unfold frOf at e2'
   rw[II]at e1' e2'
   cases q:fr[k]? with
   |none=>rw[q]at e1';cases e1'
   |some p =>
    rw[q]at e1' e2'
    have ey:p.1=y:=IW e1'
    have ev:(σ[p.2]?).join=some v:=IW e2'
    have hp:p∈fr:=ID q
    obtain⟨hN,hK⟩:=O.slot p hp
    have hkk:=O.frk p hp
    rw[ey]at hN hK hkk
    have ev':σ[p.2]?=some (some v):=by
     cases q2:σ[p.2]? with
     |none=>rw[q2]at ev;cases ev
     |some w=>rw[q2]at ev;exact congrArg some ev
    obtain⟨m,hn,hl⟩:=I.loc
    obtain⟨u,r,l⟩:=hl p.2 y v hN ev' (.inr (.inl hK))
    refine⟨u,r,?_⟩
    rcases l with⟨k1,_⟩ | ⟨_,c,ec,z⟩
    ·rw[hK]at k1;cases k1
    ·have hm:y∈fr.map (·.1):=by rw[← ey];exact IY.mpr ⟨p,hp,rfl⟩
     have el:=bB (env:=X.env) hm
     rw[ec]at el
     exact .inr ⟨.inl hkk,c,el,by obtain⟨o,ho,hd⟩:=z;exact⟨o,hk0 _ _ ho,hd⟩⟩
 ·intro y c e
  obtain⟨v,o,ho,hd⟩:=I.cell y c (O.cells I e)
  exact⟨v,o,hk0 _ _ ho,hd⟩
 ·intro y c e
  exact I.freeC y c (O.cells I e)
 ·intro p hp
  rcases IK.mp hp with hp | hp
  ·cases hp
  ·rcases IK.mp hp with hp | hp
   ·obtain⟨e,n,ne,nf,d⟩:=I.pin p hp
    exact⟨hk0 _ _ e,n,neC _ (Heap.lt_size e),nst _ ne nf,d⟩
   ·have ep:p=(s.heap.objs.size,LCg.lst []):=by simpa using hp
    subst ep
    exact⟨hDo,hfD,hDC,nstD,fun v z=>by cases z⟩
 ·show(nons xs++frOf fr σ).length=(xs++fr.map (·.1)).length
  unfold frOf
  simp
theorem rZ{fp:List Addr}{g:Heap}{s':Shared}{H':Hp}{σ':St}{ys:List V}{us:List Value}(I:Inv X pins σ H s)(hf:∀ b∈fp,FpOk X pins H b)(hg:g=s.heap.push (LCg.lst []))
  (J:Inv (cxG X scope fr xs g.objs.size (s.heap.objs.size::fp) { s with heap:=g } H) (X.pn++pins++[(s.heap.objs.size,LCg.lst us)]) σ' H' s') (hv:Vals ys us) (hl:ys.length<=sizeLine) :
  Inv X pins σ (upd H' s.heap.objs.size (.lst ys)) s'/\H' s.heap.objs.size=none/\FpOk X pins (upd H' s.heap.objs.size (.lst ys)) g.objs.size/\∃ m,s'.heap.Ns g.objs.size m:=by
 have hsz:g.objs.size=s.heap.objs.size+1:=by rw[hg,Heap.size_push]
 have kp:∀ b o,s.heap.get? b=some o->g.get? b=some o:=fun b o e=>by rw[hg];exact Heap.get?_push_of_some _ e
 obtain⟨eD,nD,_,_,_⟩:=J.pin (s.heap.objs.size,LCg.lst us) (by simp)
 have hDC:g.objs.size≠s.heap.objs.size:=by rw[hsz];exact JX (Kj _)
 have nD':∀ b u,H' b=some u->b≠s.heap.objs.size:=fun b u e z=>by rw[z]at e;rw[e]at nD;cases nD
 have hx:∀ b o,s.heap.get? b=some o->b∉fp->b∉s.heap.objs.size::fp:=fun b o e hb z=>by
  rcases IL.mp z with z | z
  ·have:=Heap.lt_size e
   rw[z]at this
   exact JT _ this
  ·exact hb z
 have bU:Un (frs X.stack) (s.heap.objs.size::fp) H H' g s'.heap:=J.base
 have ltD:∀ b o,s.heap.get? b=some o->b≠s.heap.objs.size:=fun b o e=>Jf (Heap.lt_size e)
 have un:Un (frs X.stack) fp H (upd H' s.heap.objs.size (.lst ys)) s.heap s'.heap:=by
  refine⟨fun b o e n hb he=>bU.keep b o (kp b o e) n hb (hx b o e he),fun b o e n hb he=>bU.slot b o (kp b o e) n hb (hx b o e he),fun b o e n he=>?_,fun b o e he=>bU.there b o (kp b o e) (hx b o e he),fun b xs e=>?_,fun b o u e=>?_,fun b ps e=>?_⟩
  ·rw[ai (ltD b o e)];exact bU.free b o (kp b o e) n (hx b o e he)
  ·have q:=bU.tups b xs e
   rw[ai (nD' b _ q)];exact q
  ·have q:=bU.frzs b o u e
   rw[ai (nD' b _ q)];exact q
  ·obtain⟨more,q⟩:=bU.tbls b ps e
   exact⟨more,by rw[ai (nD' b _ q)];exact q⟩
 have hok:HOk X.prog X.w (upd H' s.heap.objs.size (.lst ys)) s'.heap:=fun b u e=>by
  by_cases hb:b=s.heap.objs.size
  ·rw[hb,ae]at e
   cases e
   rw[hb]
   exact⟨hl,us,us.length,hv,eD⟩
  ·rw[ai hb]at e
   exact(J.hok b u e).stay (fun c v _ q=>q) (fun c q=>by rw[ai (nD' c _ q)];exact q) fun c xs q=>by rw[ai (nD' c _ q)];exact q
 have os:s'.os=s.os:=J.os
 refine⟨I.call' os un hok J.bare fun b hb=>⟨(hf b hb).2.2.2.1,(hf b hb).2.1,(hf b hb).2.2.2.2⟩,nD,?_,?_⟩
 ·refine I.fpOk (H':=upd H' s.heap.objs.size (.lst ys)) (b:=g.objs.size) (by rw[hsz];exact La _) ?_
  rw[ai hDC]
  exact J.free
 ·obtain⟨m,hn,_⟩:=J.loc
  exact⟨m,hn⟩
end
def PTs(X:Cx)(ifs:List Expr)(t:TT):Prop :=
 ∀(pins:List (Addr×Obj))(s:Shared)(σ:St)(H:Hp)(Q:Bool->Hp->Prop),Inv X pins σ H s->t σ H Q ->
  wpAny (model X.prog X.w) X.A (forIn ifs true fun c r=>if r=true then do let ok ← isTrue c X.env (eval c X.env);pure (ForInStep.yield ok) else pure (ForInStep.yield r)) (fun b s'=>∃ H',Inv X pins σ H' s'/\Q b H') X.xe s
theorem Cm{X:Cx}{c:Expr}{t:TT}(h:PT X c t):PTs X [c] t:=fun pins s σ H Q I q=>wpAny_tests_one (h pins s σ H Q I q)
section
variable{prog:Program}{w:World}{A:Around}{s:Shared}
theorem Eh{elt target iter:Expr}{ifs:List Expr}{scope:Scope}{pos:Pos}{it acc:Value}{env:Env}{R:Result->Shared->Prop}(I:Nat->Shared->Prop)
  (turn:∀ n s,I n s->wpAny (model prog w) A (pyNext it) (fun r s₁=>match r with
   |none=>R (.ok .next) s₁
   |some v=>wpAny (model prog w) A (letOwnedTupleGo target it v) (fun _ s₀=>wpAny (model prog w) A (assign target env v) (fun _ s₂ =>
     wpAny (model prog w) A (forIn ifs true fun c r=>if r=true then do let ok ← isTrue c env (eval c env);pure (ForInStep.yield ok) else pure (ForInStep.yield r)) (fun ok s₃=>if ok=true then wpAny (model prog w) A (eval elt env) (fun x s₄ =>
      wpAny (model prog w) A (call (.builtin "list.append") [acc,x]) (fun _ s₅=>∃ m,m<n/\I m s₅) (notedBy (model prog w) A env fun e s'=>R (.error e) s') s₄) (notedBy (model prog w) A env fun e s'=>R (.error e) s') s₃
      else ∃ m,m<n/\I m s₃) (notedBy (model prog w) A env fun e s'=>R (.error e) s') s₂)
     (notedBy (model prog w) A env fun e s'=>R (.error e) s') s₀) (notedBy (model prog w) A env fun e s'=>R (.error e) s') s₁) (notedBy (model prog w) A env fun e s'=>R (.error e) s') s)
  (n:Nat) (h:I n s):codeAny (model prog w) A (.compLoop (.ListComp elt [⟨target,iter,ifs,0⟩] scope pos) 0 it acc env) R s:=by
 refine codeAny_loop rfl I (fun n s hI=>?_) n h
 show wpAny _ A ((compTurn (.ListComp elt [⟨target,iter,ifs,0⟩] scope pos) 0 it acc env).onRaise (fun x=>do noteFrame x env;theTreesLotGoes x)) _ _ s
 refine wpAny_noted ?_
 rw[compTurn_list]
 refine wpAny_bind (wpAny_standAt (wpAny_bind (wpAny_mono (turn n s hI) (fun r s₁ h₁=>?_) fun _ _ h'=>h')))
 cases r with
 |none=>exact wpAny_pure h₁
 |some v =>
  refine wpAny_bind (wpAny_mono h₁ (fun _ s₀ h₀'=>?_) fun _ _ h'=>h')
  refine wpAny_bind (wpAny_mono h₀' (fun _ s₂ h₂=>?_) fun _ _ h'=>h')
  refine wpAny_bind (wpAny_mono h₂ (fun okb s₃ h₃=>?_) fun _ _ h'=>h')
  cases okb with
  |false=>exact wpAny_pure ⟨rfl,h₃⟩
  |true=>exact wpAny_bind (wpAny_bind (wpAny_mono h₃ (fun x s₄ h₄=>wpAny_bind (wpAny_mono h₄ (fun _ s₅ h₅=>wpAny_pure (wpAny_pure ⟨rfl,h₅⟩)) fun _ _ h'=>h')) fun _ _ h'=>h'))
end
def BU(g:TG)(tt:TT)(te:TE)(n:Nat)(fv:St)(J:It)(H1:Hp)(QQ:List V->Hp->Prop):Prop :=
 ∃ W:Nat->Nat->List V->Hp->Prop,(∃ m,W 0 m [] H1)/\∀ i m ys H,W i m ys H->ys.length<=sizeLine /\
  ((J.stop i H/\QQ ys H)∨(J.go i H/\∃ N:List V->Hp->Prop,(∀ zs H2,N zs H2->∃ m',m'<m/\W (i+1) m' zs H2) /\
   ∀ x H',J.yld i H x H'->g x (K4 n none++fv) H' fun σ2 H2=>σ2.drop n=fv/\tt σ2 H2 fun b H3=>if b=true then te σ2 H3 (fun y H4=>N (ys++[y]) H4) else N ys H3))
section
variable{X:Cx}{scope:Scope}{fr:List (Str×Nat)}{xs:List Str}{elt iter tg:Expr}{ifs:List Expr}{pos:Pos}{te:TE}{tt:TT}{tgt:TG}{wi:TI}
theorem Bk{pins:List (Addr×Obj)}{σ:St}{H:Hp}{s:Shared}{E:Value->Shared->Prop}{it:Addr}{fp:List Addr}{tn:Nat->Heap->Prop}{J:It}{RR:Value->Addr->Result->Shared->Prop}{QQ:List V->Hp->Prop}(hc:X.calm=true)(O:tw X scope fr xs)
  (hg0:∀ C ex s H,PG (cxG X scope fr xs C ex s H) tg tgt) (ht:∀ C ex s H,PTs (cxG X scope fr xs C ex s H) ifs tt) (he:∀ C ex s H,PE (cxG X scope fr xs C ex s H) elt te) (I:Inv X pins σ H s) (T:Turn X.prog X.w X.K tg J fp it tn) (st:tn 0 s.heap) (hf:∀ b∈fp,FpOk X pins H b) (hq:BU tgt tt te xs.length (frOf fr σ) J H QQ)
  (fin:∀ D C H4 ys s4 m,Inv X pins σ (upd H4 D (.lst ys)) s4->H4 D=none->FpOk X pins (upd H4 D (.lst ys)) C->s4.heap.Ns C m->QQ ys H4->RR (.ref D) C (.ok .next) s4) :
  wpAny (model X.prog X.w) X.A (newList []) (fun acc s₃=>wpAny (model X.prog X.w) X.A (newFunctionEnv scope X.env.globals (clOf X.env fr) [] X.env.qual none .none (some X.env)) (fun cenv s₄ =>
   codeAny (model X.prog X.w) X.A (.compStart (.ListComp elt [⟨tg,iter,ifs,0⟩] scope pos) 0 (.ref it) acc { cenv with scope:=relabel scope X.env }) (RR acc cenv.locals) s₄) E s₃) E s:=by
 obtain⟨W,⟨m0,w0⟩,turn⟩:=hq
 have hfs:∀ b∈fp,b<s.heap.objs.size:=fun b hb=>by
  obtain⟨o,e,_⟩:=T.obj 0 s.heap st b hb
  exact Heap.lt_size e
 refine wpAny_newObj_type (wpAny_newFunctionEnv O.cell (by intro y hy;simp at hy) (fun h₁ hns₁ hsb₁=>?_) O.kind)
 dsimp only at hns₁ hsb₁ ⊢
 generalize hH2:s.heap.push { cls:=.type "list",dict:=none,data:=.seq ([]:List Value).toArray }=g at hns₁ hsb₁ ⊢
 have hg:g=s.heap.push (LCg.lst []):=hH2.symm
 have hsz:g.objs.size=s.heap.objs.size+1:=by rw[hg,Heap.size_push]
 have hk:∀ b o,g.get? b=some o->h₁.get? b=some o:=fun b o e=>hsb₁.extBut b o (Jf (Heap.lt_size e)) (Heap.get?_push_of_some _ e)
 have kp:∀ b o,s.heap.get? b=some o->h₁.get? b=some o:=fun b o e=>hk b o (by rw[hg];exact Heap.get?_push_of_some _ e)
 have J0:=DA (h':=h₁) (tk:=s.toks+([]:List (Str×Value)).length) O I hf hfs hg hk hns₁
 have stat:∀{H':Hp}{us:List Value},(∀ b∈fp,H' b=none)->∀ b∈fp,FpOk (cxG X scope fr xs g.objs.size (s.heap.objs.size::fp) { s with heap:=g } H) (X.pn++pins++[(s.heap.objs.size,LCg.lst us)]) H' b:=fun{H' us} hn b hb=>by
  obtain⟨_,f1,f2,f3,f4,f5⟩:=hf b hb
  refine⟨hn b hb,?_,fun z=>(IL.mp (I.stkSub b z)).elim f1 f2,.inl (IV _ hb),fun y c e=>f4 y c (O.cells I e),fun p hp=>?_⟩
  ·show b≠g.objs.size
   rw[hsz];exact Jf (Kp (hfs b hb))
  ·rcases IK.mp hp with hp | hp
   ·cases hp
   ·rcases IK.mp hp with hp | hp
    ·exact f5 p hp
    ·have ep:p=(s.heap.objs.size,LCg.lst us):=by simpa using hp
     rw[ep]
     exact JX (hfs b hb)
 have loop:codeAny (model X.prog X.w) X.A (.compLoop (.ListComp elt [⟨tg,iter,ifs,0⟩] scope pos) 0 (.ref it) (.ref s.heap.objs.size) (compEnvC scope (clOf X.env fr) g.objs.size X.env))
   (RR (.ref s.heap.objs.size) g.objs.size) { s with heap:=h₁,toks:=s.toks+([]:List (Str×Value)).length }:=by
  refine Eh (fun n s'=>∃ i ys us H',Inv (cxG X scope fr xs g.objs.size (s.heap.objs.size::fp) { s with heap:=g } H) (X.pn++pins++[(s.heap.objs.size,LCg.lst us)]) (nons xs++frOf fr σ) H' s'/\Vals ys us/\tn i s'.heap/\(∀ b∈fp,H' b=none)/\W i n ys H') ?_ m0
   ⟨0,[],[],H,J0,.nil,T.keep 0 s.heap h₁ st fun b _ o e=>kp b o e,fun b hb=>(hf b hb).1,w0⟩
  rintro n s3 ⟨i,ys,us,H3,J3,hv,st3,fr3,w3⟩
  obtain⟨hlen,hh⟩:=turn i n ys H3 w3
  have none_err:∀{α:Type}{t:Sem α}{Q:α->Shared->Prop}{E':Value->Shared->Prop}{s:Shared},wpAny (model X.prog X.w) X.A t Q (fun _ _=>False) s->wpAny (model X.prog X.w) X.A t Q E' s:=fun h=>wpAny_mono h (fun _ _ q=>q) fun _ _ z=>z.elim
  have weakN:∀{σ6:St},σ6.length=(nons xs++frOf fr σ).length->σ6.drop xs.length=frOf fr σ->∀(i:Nat) v,(nons xs++frOf fr σ)[i]?=some (some v)->σ6[i]?=some (some v):=fun{σ6} hl6 e6 i v e=>by
   by_cases hi:i<xs.length
   ·rw[IH (by simpa using hi),KJ,if_pos hi]at e
    cases e
   ·rw[IE (by simp;omega),← e6,KQ]at e
    have:xs.length+(i-(nons xs).length)=i:=by simp;omega
    rw[this]at e
    exact e
  rcases hh with⟨stop,qn⟩ | ⟨go,N,hN,step⟩
  ·refine none_err (thn (T.done (cxG X scope fr xs g.objs.size (s.heap.objs.size::fp) { s with heap:=g } H) rfl rfl rfl hc i _ s3 _ H3 _ J3 (stat fr3) st3 stop) fun r s4 ⟨hr,J4⟩=>?_)
   subst hr
   obtain⟨I4,nD,fC,m,hn⟩:=rZ I hf hg J4 hv hlen
   exact fin _ _ H3 ys s4 m I4 nD fC hn qn
  ·refine none_err (thn (T.item (cxG X scope fr xs g.objs.size (s.heap.objs.size::fp) { s with heap:=g } H) rfl rfl rfl hc i _ s3 _ H3 _ J3 (stat fr3) st3 go) fun r s4 ⟨u,hr,h4⟩=>?_)
   subst hr
   refine none_err (thn h4 fun _ s5 ⟨v,H5,J5,r5,y5,st5,fr5⟩=>?_)
   have J5':=J5.pinned (stat fr5) (T.obj _ _ st5)
   refine none_err (thn (hg0 _ _ _ _ _ s5 _ H5 v u _ J5' r5 (step v H5 y5)) fun _ s6 ⟨σ6,H6,J6,e6,q6⟩=>?_)
   refine none_err (thn (ht _ _ _ _ _ s6 σ6 H6 _ J6 q6) fun b s6' ⟨H6',J6',q6'⟩=>?_)
   have hl6:σ6.length=(nons xs++frOf fr σ).length:=J6.len.trans J3.len.symm
   cases b with
   |false =>
    rw[if_neg IS]at q6' ⊢
    obtain⟨m',hm,w7⟩:=hN ys H6' q6'
    have pinF:∀ b∈fp,∀ o,s5.heap.get? b=some o->s6'.heap.get? b=some o/\H6' b=none:=fun b hb o e=>by
     obtain⟨q1,q2,_⟩:=J6'.pin (b,o) (IP _ (IP _ (cF hb e)))
     exact⟨q1,q2⟩
    refine⟨m',hm,i+1,ys,us,H6',J6'.unpinned.weak (σ':=nons xs++frOf fr σ) hl6.symm (weakN hl6 e6),hv,T.keep _ _ _ st5 fun b hb o e=>(pinF b hb o e).1,fun b hb=>?_,w7⟩
    obtain⟨o,e,_⟩:=T.obj _ _ st5 b hb
    exact(pinF b hb o e).2
   |true =>
    rw[if_pos rfl]at q6' ⊢
    refine none_err (thn (he _ _ _ _ _ s6' _ H6' _ J6' q6') fun u7 s7 ⟨v7,H7,J7,r7,q7⟩=>?_)
    obtain⟨m',hm,w7⟩:=hN _ H7 q7
    obtain⟨eD,nD,dC,dF,dd⟩:=J7.pin (s.heap.objs.size,LCg.lst us) (IP _ (Jn _ (IP _ (by simp))))
    have hvl:=hv.length
    refine append_at (hsz:=by show us.toArray.size<=sizeLine;rw[Jl,← hvl];exact hlen) eD fun h8 hs8 hD8=>?_
    have pinD:∀ p∈X.pn++pins,p.1≠s.heap.objs.size:=fun p hp z=>by
     have:=Heap.lt_size (I.pin p hp).1
     rw[z]at this
     exact JT _ this
    have J7a:Inv (cxG X scope fr xs g.objs.size (s.heap.objs.size::fp) { s with heap:=g } H) (X.pn++pins) _ H7 s7:=J7.pins_of fun p hp=>J7.pin p (IP _ (Jn _ (Jn _ hp)))
    have J8:Inv (cxG X scope fr xs g.objs.size (s.heap.objs.size::fp) { s with heap:=g } H) (X.pn++pins) _ H7 { s7 with heap:=h8 }:=J7a.turned (t':=s7.toks) (fun b o hb e=>(hs8.2 b hb).trans e) nD dC (.inl Jc) (fun y c e z=>by
     obtain⟨w',q⟩:=I.cell y c (O.cells I e)
     have:=q.lt
     rw[z]at this
     exact JT _ this) (fun p hp=>(IK.mp hp).elim (fun z=>by cases z) (pinD p))
    have J9:Inv (cxG X scope fr xs g.objs.size (s.heap.objs.size::fp) { s with heap:=g } H) (X.pn++pins++[(s.heap.objs.size,LCg.lst (us++[u7]))]) _ H7 { s7 with heap:=h8 }:=J8.pins_of fun p hp=>by
     rcases IK.mp hp with hp | hp
     ·exact J8.pin p (IP _ hp)
     ·have ep:p=(s.heap.objs.size,LCg.lst (us++[u7])):=by simpa using hp
      subst ep
      exact⟨hD8.trans (congrArg some (LCg.lst_snoc us u7)),nD,dC,dF,fun v z=>by cases z⟩
    have J10:=J9.weak (σ':=nons xs++frOf fr σ) hl6.symm (weakN hl6 e6)
    have pinF:∀ b∈fp,∀ o,s5.heap.get? b=some o->s7.heap.get? b=some o/\H7 b=none:=fun b hb o e=>by
     obtain⟨q1,q2,_⟩:=J7.pin (b,o) (IP _ (IP _ (cF hb e)))
     exact⟨q1,q2⟩
    refine⟨m',hm,i+1,ys++[v7],us++[u7],H7,J10,hv.append (.cons r7 .nil),T.keep _ _ _ st5 fun b hb o e=>(hs8.2 b (Jf (hfs b hb))).trans (pinF b hb o e).1,fun b hb=>?_,w7⟩
    obtain⟨o,e,_⟩:=T.obj _ _ st5 b hb
    exact(pinF b hb o e).2
 exact codeAny_compStart_list loop (T.self X.A 0 _ _ _ (T.keep 0 s.heap h₁ st fun b _ o e=>kp b o e) loop)
def tCompE(wi:TI)(g:TG)(tt:TT)(te:TE)(n:Nat)(fr:List (Str×Nat)):TE:=fun σ H Q=>wi σ H fun J H1=>BU g tt te n (frOf fr σ) J H1 fun ys H2=>∀ D,H2 D=none->Q (.ref D) (upd H2 D (.lst ys))
theorem zR(hc:X.calm=true)(O:tw X scope fr xs)(hi:PI X tg iter wi)(hg0:∀ C ex s H,PG (cxG X scope fr xs C ex s H) tg tgt)(ht:∀ C ex s H,PTs (cxG X scope fr xs C ex s H) ifs tt)(he:∀ C ex s H,PE (cxG X scope fr xs C ex s H) elt te)(hs:∀ x,foldedSetIterable iter X.env x=pure x:=by intro _;rfl) :
  PE X (.ListComp elt [⟨tg,iter,ifs,0⟩] scope pos) (tCompE wi tgt tt te xs.length fr):=by
 intro pins s σ H Q I h
 rw[eval_ListComp]
 refine wpAny_comprehension_free (use:=none) rfl hs O.clos O.kind O.names (thn (hi pins s σ H _ I h) fun xv s1 h1=>thn h1 fun itv s2 h2=>?_)
 obtain⟨it,fp,tn,J,H2,e,I2,T,st2,f2,q2⟩:=h2
 subst e
 refine Bk (RR:=fun acc C=>compPost (model X.prog X.w) X.A X.xe none (EP X pins σ Q) acc C) hc O hg0 ht he I2 T st2 f2 q2 ?_
 intro D C H4 ys s4 m I4 nD fC hn q4
 refine⟨m,hn,fun h' hs'=>?_⟩
 obtain⟨g0,g1,g2,g3,g4,g5⟩:=fC
 exact⟨.ref D,_,I4.turned (t':=s4.toks) (fun b o hb e=>(hs'.2 b hb).trans e) g0 g1 g3 g4 g5,rfl,q4 D nD⟩
end
theorem qb{K:IC}{a:Addr}{xs:List V}{g:TG}{tt:TT}{te:TE}{n:Nat}{fv:St}{H1:Hp}{QQ:List V->Hp->Prop}(Pv:Nat->List V->Hp->Prop)(hz:xs.length<=sizeLine)(h0:Pv 0 [] H1)(hl:∀ i ys H,i<=xs.length->Pv i ys H->SqL K H a xs)
  (hs:∀ i x ys H,xs[i]?=some x->Pv i ys H->g x (K4 n none++fv) H fun σ2 H2=>σ2.drop n=fv/\tt σ2 H2 fun b H3=>if b=true then te σ2 H3 (fun y H4=>Pv (i+1) (ys++[y]) H4) else Pv (i+1) ys H3) (hd:∀ ys H,Pv xs.length ys H->QQ ys H) (hy:∀ i ys H,Pv i ys H->ys.length<=i)
  : BU g tt te n fv (Itl K a) H1 QQ:=by
 refine⟨fun i m ys H=>m=xs.length-i/\i<=xs.length/\Pv i ys H,⟨xs.length,by simp,JL _,h0⟩,?_⟩
 rintro i m ys H ⟨rfl,hi,p⟩
 have q:=hl i ys H hi p
 have hyl:=hy i ys H p
 refine⟨by omega,?_⟩
 by_cases hlt:i<xs.length
 ·refine .inr ⟨⟨xs,xs[i],q,by simp[hlt]⟩,fun zs H2=>Pv (i+1) zs H2,fun zs H2 p2=>⟨xs.length-(i+1),by omega,rfl,hlt,p2⟩,fun x H' y=>?_⟩
  obtain⟨e,y⟩:=y
  subst e
  exact hs i x ys _ (y xs q) p
 ·have e:i=xs.length:=by omega
  subst e
  exact .inl ⟨⟨xs,q,IG _⟩,hd ys H p⟩
end L2
namespace L2
open PySem PySem.Spec PyProof.Rows
section
variable{X:Cx}{K:IC}{pos:Pos}
theorem Ab(h:X.K=K):IxR X (rIxL K):=h▸bJ
theorem Bo(h:X.K=K):j9 X (.type "list") (fun xs H Q=>∃ p ys,xs = [.ref p]/\(SqL K H p ys∨SqT K H p ys)/\∀ l,H l=none->Q (.ref l) (upd H l (.lst ys))):=h▸eF
theorem qW{e:Expr}{f:Str}{ta:TE}(h:X.K=K)(he:PE X e ta)(hb:attributeBase e f X.env (eval e X.env)=eval e X.env):PE X (.Attribute e f pos) (tFld K ta f):=h▸b5 he hb
end
end L2
namespace L2
open PySem PySem.Spec PyProof.Rows
section
variable{X:Cx}
def Hc:V->List V->Hp->VK->Prop:=fun x vs H Q=>∃ l xs k y,x=.ref l/\vs = [.int k,y]/\H l=some (.lst xs)/\0<=k/\k<=xs.length/\xs.length<sizeLine/\Q .non (upd H l (.lst (xs.take k.toNat++y::xs.drop k.toNat)))
theorem C2:MtM X "list.insert" Hc:=by
 intro pins s σ H x vs v us Q I rx rv h
 obtain⟨l,xs,k,y,rfl,rfl,hH,h0,hk,hz,q⟩:=h
 cases rx
 obtain⟨u1,u2,rfl,r1,r2⟩:=rv.two
 obtain⟨t,rfl⟩:=r1
 obtain⟨z,its,n,r,hl,e⟩:=I.lstM hH
 have hn:=z9
 have hfit:¬ (!Builtin.List.listFitsIndex k)=true:=by
  rw[fitsIndex_both (by omega) (by omega)]
  exact IS
 refine call_meets F.slot_list_insert ⟨_,e,rfl⟩ F.entry_list_insert (F.args_list_insert_3 _ _ _) (AutoListH.list_insert_list_int_val_1 l its.toArray n k t u2 hfit (by rw[Jl];omega)) ⟨e,?_⟩
 refine⟨.non,_,I.lset (its':=its.take k.toNat++u2::its.drop k.toNat) hH e ?_ ((r.take _).append (.cons r2 (r.drop _))) ?_,rfl,q⟩
 ·dsimp only
  rw[if_neg (by omega),Jl,KS (by omega)]
  simp
  exact Jx (by rw[JF];omega)
 ·rw[IF,Jm,Jg,JF]
  omega
theorem mT:∀{ns:List Int}{us:List Value},Vals (ns.map V.int) us->IntsAre us ns
 |[],_,.nil=>.nil
 |n::ns,_,.cons r rr=>by
  obtain⟨t,rfl⟩:=r
  exact .cons n t (mT rr)
theorem An(hc:X.calm=true):j9 X (.builtin "sum") (fun xs H Q=>∃(p:Addr)(ns:List Int),xs = [.ref p]/\SqL X.K H p (ns.map V.int)/\Q (.int ns.sum) H):=by
 intro pins s σ H xs us Q I r h
 obtain⟨p,ns,rfl,hq,q⟩:=h
 obtain⟨u,rfl,ru⟩:=tE r
 cases ru
 obtain⟨its,rv,pl,hz⟩:=I.list hq
 have hi:=mT rv
 obtain⟨zs,e⟩:=hi.allInts.items
 have hns:(numsOf its)=ns:=hi.numsOf
 have hl:s.heap.IsList p (intItems zs):=by rw[← e];exact pl.isList
 refine sum_intListG (I.ok.hd hc) hl fun h' tk t' hk=>⟨.int ns.sum,H,I.kept (t':=tk) hk,⟨t',?_⟩,q⟩
 have h2:numsOf (intItems zs).toList=ns:=by rw[← e];exact hns
 rw[nums_intItems]at h2
 rw[preSum_eq,Jx (by simp),← h2]
end
end L2
namespace L2
open PySem PySem.Spec PyProof.Rows
theorem m7:∀{ps:List Nat},(∀ p∈ps,p<1000)->PyData.weightAll ((ps.map fun(p:Nat)=>((p:Nat):Int)).map PyData.int)<=12*ps.length
 |[],_=>by simp[PyData.weightAll]
 |p::ps,h=>by
  have ih:=m7 (ps:=ps) fun x hx=>h x (IV _ hx)
  have hp:=h p (by simp)
  have hw:PyData.weight (.int (p:Int))<=11:=by
   rw[PyData.weight]
   split
   ·exact JL _
   ·rename_i z
    have z':p≠0:=fun e=>z (by rw[e];rfl)
    have e:((p:Int)).natAbs=p:=rfl
    rw[e]
    have:=(Nat.log2_lt z').mpr (show p<2^10 by omega)
    omega
  rw[Ju,Ju,PyData.weightAll,Jm]
  omega
theorem Fs{ps:List Nat}(h:∀ p∈ps,p<1000)(hl:ps.length<=1000):PyData.layable0 (.list ((ps.map fun(p:Nat)=>((p:Nat):Int)).map PyData.int))=true:=by
 have h1:=PySem.W.shaped_ints (ps.map fun(p:Nat)=>((p:Nat):Int))
 have h2:=m7 h
 have h3:PyData.weight (.list ((ps.map fun(p:Nat)=>((p:Nat):Int)).map PyData.int))<=2^20:=by
  rw[PyData.weight];omega +splitDisjunctions
 unfold PyData.layable0
 unfold SeqAt.shaped at h1
 rw[h1,decide_eq_true h3]
 rfl
section
variable{X:Cx}
def rIndex(K:IC):V->List V->Hp->VK->Prop:=fun x vs H Q=>∃(l:Addr)(ps:List Nat)(k:Nat),x=.ref l/\vs = [.int (k:Int)]/\SqL K H l (ps.map fun(p:Nat)=>V.int (p:Int))/\(∀ p∈ps,p<1000)/\ps.length<=1000/\k∈ps/\Q (.int ((ps.idxOf k:Nat):Int)) H
theorem Fx{ps:List Nat}{k:Nat}:(ps.map fun(p:Nat)=>((p:Nat):Int)).idxOf (k:Int)=ps.idxOf k:=by
 induction ps with
 |nil=>rfl
 |cons p ps ih =>
  rw[Ju,List.idxOf_cons,List.idxOf_cons,ih]
  have e:(((p:Nat):Int) == (k:Int))=(p == k):=by
   by_cases h:p=k
   ·subst h;simp
   ·have h2:¬ (p:Int)=(k:Int):=fun z=>h (by omega)
    rw[beq_eq_false_iff_ne.mpr h,beq_eq_false_iff_ne.mpr h2]
  rw[e]
theorem Fh:MtM X "list.index" (rIndex X.K):=by
 intro pins s σ H x vs v us Q I rx rv h
 obtain⟨l,ps,k,rfl,rfl,hq,hs,hl,hk,q⟩:=h
 cases rx
 obtain⟨u,rfl,ru⟩:=rv.one
 obtain⟨t,rfl⟩:=ru
 have e:(ps.map fun(p:Nat)=>V.int (p:Int))=(ps.map fun(p:Nat)=>((p:Nat):Int)).map V.int:=by rw[KD];rfl
 rw[e]at hq
 obtain⟨its,r,pl,hz⟩:=I.list hq
 refine index_list_ints pl.isList (mT r) (Fs hs hl) (IY.mpr ⟨k,hk,rfl⟩) ?_
 rw[Fx]
 exact⟨.int _,H,I.tok _,⟨_,rfl⟩,q⟩
end
end L2
namespace L2
open PySem PySem.Spec PyProof.Rows
theorem BK:∀{us:List Value}{ns:List Int},IntsAre us ns->Vals (ns.map V.int) us
 |_,_,.nil=>.nil
 |_,_,.cons _ t r=>.cons ⟨t,rfl⟩ (BK r)
section
variable{X:Cx}
def Ck(K:IC):List V->Hp->VK->Prop:=fun xs H Q=>∃(p:Addr)(ns:List Int),xs = [.ref p]/\SqL K H p (ns.map V.int)/\ns.length<64/\∀(l:Addr)(out:List Int),H l=none->out.Perm ns->out.Pairwise (·<=·)->Q (.ref l) (upd H l (.lst (out.map V.int)))
theorem oA:j9 X (.builtin "sorted") (Ck X.K):=by
 intro pins s σ H xs us Q I r h
 obtain⟨p,ns,rfl,hq,h64,q⟩:=h
 obtain⟨u,rfl,ru⟩:=tE r
 cases ru
 obtain⟨its,rv,pl,hz⟩:=I.list hq
 have hi:=mT rv
 have hl:=rv.length
 rw[IJ]at hl
 refine sorted_ints pl.isList hi (by omega) fun out ns' a1 a2 a3=>?_
 obtain⟨e,he⟩:=sortedAll_at s.heap its out
 refine⟨.ref (s.heap.objs.size+1),_,I.laid (t':=s.toks) (fun _ _=>sortedAll_old) (La _) (show aY X.prog X.w _ _ _ (.lst (ns'.map V.int)) from⟨?_,out.toList,e,BK a1,?_⟩),rfl,q _ ns' (I.hok.fresh (La _)) a2 a3⟩
 ·rw[IJ,a2.length_eq]
  exact JY (aB (by omega))
 ·exact he
theorem vJ{K:IC}(h:X.K=K):j9 X (.builtin "sorted") (Ck K):=h▸oA
end
end L2
namespace L2
open PySem PySem.Spec PyProof.Rows
section
variable{X:Cx}{tg:Expr}
end
end L2
namespace L2
open PySem PySem.Spec PyProof.Rows
theorem Gs:bootBuiltins "max" = some (.builtin "max"):=by decide +kernel
section
variable{X:Cx}
def rCatS(K:IC):R2:=fun x y H Q=>∃ l b xs zs,x=.ref l/\y=.ref b/\SqL K H l xs/\SqL K H b zs/\xs.length+zs.length<=sizeLine/\∀ p,H p=none->Q (.ref p) (upd H p (.lst (xs++zs)))
theorem Hn:OpR X (binaryOp .Add) (rCatS X.K):=by
 intro pins s σ H x y v u Q I rx ry h
 obtain⟨l,b,xs,zs,rfl,rfl,hH,hB,hz,q⟩:=h
 cases rx
 cases ry
 obtain⟨its,r,pl,_⟩:=I.list hH
 obtain⟨its2,r2,pl2,_⟩:=I.list hB
 obtain⟨⟨cls,dd,data,sl⟩,ho,hc,n,hd⟩:=pl.isList
 obtain⟨⟨cls2,dd2,data2,sl2⟩,ho2,hc2,n2,hd2⟩:=pl2.isList
 simp only at hc hd hc2 hd2
 subst hc hd hc2 hd2
 have ea:its.toArray++its2.toArray=(its++its2).toArray:=by simp
 have e1:=r.length
 have e2:=r2.length
 refine concat_meets ⟨_,ho,rfl⟩ ⟨_,ho2,rfl⟩ noFill_list_add seq_list_add PySem.F.slot_list_add PySem.F.entry_list_add (PySem.F.args_list_add_2 _ _) (list_addW l b its.toArray its2.toArray n n2 dd dd2 sl sl2 (by rw[Jl,Jl];omega)) ⟨ho,ho2,?_⟩
 rw[ea]
 exact⟨.ref _,_,I.lnew (t':=s.toks) (r.append r2) (by rw[IF];omega),rfl,q _ I.fresh⟩
end
end L2
namespace L2
open PySem PySem.Spec PyProof.Rows
theorem Gq:bootBuiltins "sum" = some (.builtin "sum"):=by decide +kernel
theorem bt_zip:bootBuiltins "zip" = some (.type "zip"):=by decide +kernel
theorem aN(x y:Nat)(h:¬ x=y):@Ne Addr x y:=h
section
variable{X:Cx}
end
section
variable{X:Cx}
end
end L2
namespace L2
open PySem PySem.Spec PyProof.Rows
def LsAt{α:Type}(R:Hp->V->α->Prop)(H:Hp)(ys:List V)(xs:List α):Prop:=ys.length=xs.length/\∀(i:Nat)(x:α),xs[i]?=some x->∃ y,ys[i]?=some y/\R H y x
theorem LsAt.nil{α:Type}{R:Hp->V->α->Prop}{H:Hp}:LsAt R H [] []:=⟨rfl,fun i x e=>by simp at e⟩
theorem LsAt.imp{α:Type}{R R':Hp->V->α->Prop}{H H':Hp}{ys:List V}{xs:List α}(h:LsAt R H ys xs)(m:∀ y x,R H y x->R' H' y x):LsAt R' H' ys xs:=⟨h.1,fun i x e=>by
 obtain⟨y,a,b⟩:=h.2 i x e
 exact⟨y,a,m y x b⟩⟩
theorem LsAt.snoc{α:Type}{R:Hp->V->α->Prop}{H:Hp}{ys:List V}{xs:List α}{y:V}{x:α}(h:LsAt R H ys xs)(r:R H y x):LsAt R H (ys++[y]) (xs++[x]):=by
 refine⟨by rw[IF,IF,h.1];rfl,fun j k e=>?_⟩
 by_cases hj:j<xs.length
 ·rw[IH hj]at e
  obtain⟨p,a1,a2⟩:=h.2 j k e
  exact⟨p,by rw[IH (by rw[h.1];exact hj)];exact a1,a2⟩
 ·rw[IE (by omega)]at e
  have hj2:j=xs.length:=by
   have:=(IA.mp e).1
   rw[IM]at this
   omega
  subst hj2
  rw[Je]at e
  cases e
  exact⟨y,by rw[← h.1,IE (IG _),Je];rfl,r⟩
theorem LsAt.get{α:Type}{R:Hp->V->α->Prop}{H:Hp}{ys:List V}{xs:List α}{i:Nat}{y:V}(h:LsAt R H ys xs)(e:ys[i]?=some y):∃ x,xs[i]?=some x/\R H y x:=by
 have hi:i<xs.length:=by rw[← h.1];exact(IA.mp e).1
 obtain⟨z,a,b⟩:=h.2 i _ (IB hi)
 rw[e]at a
 cases a
 exact⟨_,IB hi,b⟩
end L2
namespace L2
open PySem PySem.Spec PyProof.Rows
theorem BL:∀{ys:List V}{us:List Value},ys.length=us.length->(∀(i:Nat)(y:V)(u:Value),ys[i]?=some y->us[i]?=some u->RelV y u)->Vals ys us
 |[],[],_,_=>.nil
 |[],_::_,e,_=>by cases e
 |_::_,[],e,_=>by cases e
 |y::ys,u::us,e,h=>.cons (h 0 y u rfl rfl) (BL (Nat.succ.inj e) fun i y u a b=>h (i+1) y u a b)
section
variable{X:Cx}
theorem uo{e:Expr}{te:TE}{p p2 pos pos2:Pos}(hc:X.calm=true) (hg:Gl X "list") (hm:X.mg "list" = none) (hg2:Gl X "range") (hm2:X.mg "range" = none) (he:PE X e te)
  (h1:starEach [.Call (.Name "range" p2) [e] [] pos2] X.env = [(false,eval (.Call (.Name "range" p2) [e] [] pos2) X.env)]:=by rfl) (h2:starEach [e] X.env=(false,eval e X.env)::starEach [] X.env:=by rfl) :
  PE X (.Call (.Name "list" p) [.Call (.Name "range" p2) [e] [] pos2] [] pos) (fun σ H Q=>te σ H fun x H1=>∃ n:Nat,x=.int (n:Int)/\n<=1000/\∀ q,H1 q=none->Q (.ref q) (upd H1 q (.lst ((JC n).map fun(i:Nat)=>V.int ((i:Nat):Int))))):=by
 intro pins s σ H Q I h
 refine wpAny_Call_Name_kw (jL I hg hm kZ ?_)
 refine PyProof.Rows.callWith_type1 ?_ h1 rfl
 rw[h1]
 refine Calls.spliced_cons ?_
 refine wpAny_Call_Name_kw (jL I hg2 hm2 boot_range ?_)
 refine PyProof.Rows.callWith_type1 ?_ h2 rfl
 rw[h2]
 refine Calls.spliced_cons (thn (he pins s σ H _ I h) fun u s1 ⟨x,H1,I1,r1,q1⟩=>?_)
 obtain⟨n,rfl,hn,q⟩:=q1
 obtain⟨t,rfl⟩:=r1
 refine Calls.spliced_nil ?_
 refine call_range_1 ?_
 refine Calls.spliced_nil ?_
 have I2:Inv X pins σ H1 { s1 with heap:=s1.heap.push { cls:=.type "range",data:=.fields #[.int 0 s1.toks,.int (n:Int) t,.int 1 (s1.toks+1)] },toks:=s1.toks+1+1 }:=I1.kept fun b o e=>Heap.get?_push_of_some _ e
 refine call_list_range (n:=n) (I.ok.hd hc) (IsRange.new ..) (small_one (by omega) (by omega) (by omega) (by omega)) (by rw[rangeSize_one];split<;>omega) (by omega) fun h' tk acc' c' hk hS hacc=>?_
 have I3:Inv X pins σ H1 { s1 with heap:=h',toks:=tk }:=I2.kept (t':=tk) fun b o e=>hk b o e
 have fS:=I2.fpOk (H':=H1) (IG _) (I2.hok.fresh (IG _))
 have hz:((JC n).map fun(i:Nat)=>V.int ((i:Nat):Int)).length<=sizeLine:=by
  rw[IJ,JV]
  exact JG hn (by decide)
 have hv:Vals ((JC n).map fun(i:Nat)=>V.int ((i:Nat):Int)) acc'.toList:=by
  refine BL (by rw[IJ,JV,JK,hacc.1]) fun i y u a b=>?_
  rw[Kh]at b
  obtain⟨tk',e⟩:=hacc.2 i u b
  rw[II]at a
  obtain⟨j,a1,a2⟩:=Jd.mp a
  have hi:i<n:=by
   have:=(IA.mp a1).1
   rwa[JV]at this
  rw[L6 hi]at a1
  cases a1
  subst a2
  subst e
  exact⟨tk',by rw[Km,Int.mul_one]⟩
 have I4:=I3.track (o:=.lst ((JC n).map fun(i:Nat)=>V.int ((i:Nat):Int))) fS ⟨hz,acc'.toList,c',hv,by rw[Array.toArray_toList];exact hS⟩
 exact⟨.ref _,_,I4,rfl,q _ fS.1⟩
theorem op_neG(hu:X.A.units+64<cLine):OpR X (compareOp .NotEq) (fun x y H Q=>∃ d1 d2,RdD X.K H x d1/\RdD X.K H y d2/\SeqAt.shaped d1=true/\SeqAt.shaped d2=true/\Q (.bl (!PyData.eqv d1 d2)) H):=by
 intro pins s σ H x y v u Q I rx ry h
 obtain⟨d1,d2,r1,r2,h1,h2,q⟩:=h
 obtain⟨as,q1⟩:=r1.reads I v rx
 obtain⟨bs,q2⟩:=r2.reads I u ry
 exact ne_dataH q1 q2 h1 h2 hu ⟨.bl _,H,I,rfl,q⟩
theorem nY:∀(a b:List Int),PyData.eqvAll (a.map PyData.int) (b.map PyData.int)=decide (a=b)
 |[],[]=>by simp[PyData.eqvAll]
 |[],y::b=>by simp[PyData.eqvAll]
 |x::a,[]=>by simp[PyData.eqvAll]
 |x::a,y::b=>by
  rw[Ju,Ju]
  simp only[PyData.eqvAll,PyData.eqv,nY a b]
  by_cases h:x=y
  ·by_cases h2:a=b
   ·simp[h,h2]
   ·simp[h,h2]
  ·simp[h]
theorem FD(a b:List Int):PyData.eqv (.list (a.map PyData.int)) (.list (b.map PyData.int))=decide (a=b):=by
 rw[← nY]
 simp only[PyData.eqv]
end
theorem jC{α:Type}{M:Model}{A:Around}{s:Shared}{t:Sem α}{Q:α->Shared->Prop}{E:Value->Shared->Prop}(h:wpAny M A t Q (fun _ _=>False) s):wpAny M A t Q E s:=wpAny_mono h (fun _ _ q=>q) fun _ _ z=>False.elim z
section
variable{X:Cx}{tg:Expr}
theorem Co{iter:Expr}{body:List Stmt}{wi:TI}{g:TG}{tb:TS}{pos:Pos}(hc:X.calm=true)(hi:PI X tg iter wi)(hg:PG X.nox tg g)(hb:PSs X.nox body tb)
  (hs:∀ x,foldedSetIterable iter X.env x=pure x:=by intro _;rfl):PS X (.For tg iter body [] pos) (tFor wi g tb):=by
 intro pins s σ H D I h
 refine wpAny_For (thn (hi pins s σ H _ I h) fun v s1 h1=>thn h1 fun itv s2 h2=>?_) hs
 obtain⟨it,fp,tn,J,H2,e,I2,T,st2,f2,W,⟨m0,w0⟩,turn⟩:=h2
 subst e
 have stat:∀{H':Hp},(∀ b∈fp,H' b=none)->∀ b∈fp,FpOk X pins H' b:=fun hn b hb=>⟨hn b hb,(f2 b hb).2⟩
 refine codeAny_forLoop_any (fun n s'=>∃ i σ' H',Inv X pins σ' H' s'/\tn i s'.heap/\(∀ b∈fp,H' b=none)/\W i n σ' H') ?_ m0 ⟨0,σ,H2,I2,st2,fun b hb=>(f2 b hb).1,w0⟩
 rintro n s3 ⟨i,σ3,H3,I3,st3,fr3,w3⟩
 rcases turn i n σ3 H3 w3 with⟨stop,qn⟩ | ⟨go,N,hN,step⟩
 ·refine jC (thn (T.done X rfl rfl rfl hc i pins s3 σ3 H3 (fun _ _=>False) I3 (stat fr3) st3 stop) fun r s4 ⟨hr,I4⟩=>?_)
  subst hr
  exact wpAny_execs_nil ⟨σ3,H3,I4,qn⟩
 ·refine jC (thn (T.item X rfl rfl rfl hc i pins s3 σ3 H3 (fun _ _=>False) I3 (stat fr3) st3 go) fun r s4 ⟨u,hr,h4⟩=>?_)
  subst hr
  refine jC (thn h4 fun _ s5 ⟨x,H5,I5,r5,y5,st5,fr5⟩=>?_)
  have I5':=I5.pinned (stat fr5) (T.obj _ _ st5)
  refine jC (thn (hg _ s5 σ3 H5 x u _ (I5'.wish _) r5 (step x H5 y5)) fun _ s6 ⟨σ6,H6,I6,q6⟩=>?_)
  refine jC (thn (hb _ s6 σ6 H6 _ I6 q6) fun f s7 q7=>?_)
  replace q7:=SP.unwish q7
  have again:∀{σ7:St}{H7:Hp},Inv X (pins++pV fp s5.heap) σ7 H7 s7->N σ7 H7->∃ m,m<n/\∃ i σ' H',Inv X pins σ' H' s7/\tn i s7.heap/\(∀ b∈fp,H' b=none)/\W i m σ' H':=fun{σ7 H7} I7 n7=>by
   obtain⟨m',hm,w7⟩:=hN σ7 H7 n7
   refine⟨m',hm,i+1,σ7,H7,I7.unpinned,T.keep _ _ _ st5 fun b hb o e=>(I7.pin (b,o) (IP _ (IP _ (cF hb e)))).1,fun b hb=>?_,w7⟩
   obtain⟨o,e,d⟩:=T.obj _ _ st5 b hb
   exact(I7.pin (b,o) (IP _ (IP _ (cF hb e)))).2.1
  cases f with
  |next=>obtain⟨σ7,H7,I7,n7⟩:=q7;exact again I7 n7
  |cont=>obtain⟨σ7,H7,I7,n7⟩:=q7;exact again I7 n7
  |brk=>obtain⟨σ7,H7,I7,q7⟩:=q7;exact⟨σ7,H7,I7.unpinned,q7⟩
  |ret v=>obtain⟨x7,σ7,H7,I7,r7,q7⟩:=q7;exact⟨x7,σ7,H7,I7.unpinned,r7,q7⟩
end
structure FunD(K:IC)(x qual:Str)(st:Stmt)(f:Addr)(fd:FuncData)(items:Array Value):Prop where
 ex:∃(oc:Value)(od:Option Addr)(d:Addr)(kV doc pm:Value)(an:Option Addr)(cdv ct:Value)(osl:Array (Option Value)),
  fd=Jb x qual (ay st) (aw st) (ah st) (.ref d) kV doc pm an cdv ct/\K.lookup f=some ⟨oc,od,.func fd,osl⟩/\IZ K cdv qual=true/\∃ o n,K.lookup d=some o/\o.data=.seq items n
 kp:IQ K (.ref f)=true
section
variable{P:Program}{w:World}{K:IC}{mg:Str->Option Value}{base:Heap}
theorem FunD.okX{x qual:Str}{st:Stmt}{f:Addr}{fd:FuncData}{items:Array Value}{N ps:List Str}{k:Nat}{sp:Sp}(F:FunD K x qual st f fd items)(S:aC N ps (ah st))(len:∀ vs H Q E,sp vs H Q E->vs.length=ps.length)
  (hbody:∀(cdv:Value)(A:Around)(outer:List Env)(s:Shared)(H:Hp)(vs:List V)(Q:VK)(E:XK),Room k (A.deeper (envOfC qual (ah st) s.heap.objs.size f cdv))->sp vs H Q E ->
   ∃ t,PSs (cxOf (CXr P w) P w K mg base N qual (ah st) f cdv A outer s H E) (aw st) t/\t { nx:=fun _ H'=>Q .non H',rt:=Q } (oZ N vs) H):FnOk P w K mg base (CXr P w) (k+1) f fd ps sp:=by
 obtain⟨oc,od,d,kV,doc,pm,an,cdv,ct,osl,rfl,lk,hcd,_⟩:=F.ex
 exact Ia lk hcd S len fun A outer s H vs Q E hr hsp=>hbody cdv A outer s H vs Q E hr hsp
theorem FunD.binds{x qual:Str}{st:Stmt}{f:Addr}{fd:FuncData}{items:Array Value}{ps:List Str}{ds:List Value}(F:FunD K x qual st f fd items)
  (h:∀(dV kV doc pm:Value)(an:Option Addr)(cdv ct:Value)(us:List Value),(us++ds).length=ps.length->∃ k,bindArgs (Jb x qual (ay st) (aw st) (ah st) dV kV doc pm an cdv ct) ⟨us,[]⟩=seqItems? dV >>= k/\k (some items)=pure (ps.zip (us++ds))):fZ K fd ps ds:=by
 obtain⟨oc,od,d,kV,doc,pm,an,cdv,ct,osl,rfl,lk,hcd,o,n,ho,hs⟩:=F.ex
 intro s us X hl
 obtain⟨k,h1,h2⟩:=h (.ref d) kV doc pm an cdv ct us hl
 exact BindsTo.of_defaults rfl (X _ _ ho) hs h1 h2
theorem DN{x qual:Str}{st:Stmt}{f d:Addr}{oc:Value}{od an:Option Addr}{osl:Array (Option Value)}{kV doc pm cdv ct:Value}{items:Array Value}{o:Obj}{n:Nat}(l:K.lookup f=some ⟨oc,od,.func (Jb x qual (ay st) (aw st) (ah st) (.ref d) kV doc pm an cdv ct),osl⟩)
  (c:IZ K cdv qual=true) (k:IQ K (.ref f)=true) (ld:K.lookup d=some o) (hs:o.data=.seq items n):FunD K x qual st f (Jb x qual (ay st) (aw st) (ah st) (.ref d) kV doc pm an cdv ct) items:=⟨⟨oc,od,d,kV,doc,pm,an,cdv,ct,osl,rfl,l,c,o,n,ld,hs⟩,k⟩
end
end L2
namespace PyProof.Rows
open PySem
local macro_rules | `(tactic| walk_at "gallop") => do
 let n:=Lean.mkIdent (Lean.mkPrivateNameCore `PySem.Builtin.List.W1All `PySem.Builtin.gallop)
 `(tactic| delta $n)
local macro_rules | `(tactic| walk_at "st") => `(tactic| try dsimp -zeta -zetaHave only)
local macro_rules | `(tactic| walk_at "l4") => `(tactic| (extract_lets -underBinder +onlyGivenNames a b; subst a b))
variable{prog:Program}{w:World}{A:Around}{E:Value->Shared->Prop}{s:Shared}
end PyProof.Rows
namespace PyProof.Rows
open PySem
local macro_rules | `(tactic| walk_at "setG") => do
 let n:=Lean.mkIdent (Lean.mkPrivateNameCore `PySem.Builtin.List.W1All `PySem.Builtin.setMinGallop)
 `(tactic| delta $n)
local macro_rules | `(tactic| walk_at "mergeLo") => do
 let n:=Lean.mkIdent (Lean.mkPrivateNameCore `PySem.Builtin.List.W1All `PySem.Builtin.mergeLo)
 `(tactic| delta $n)
local macro_rules | `(tactic| walk_at "st") => `(tactic| try dsimp -zeta -zetaHave only)
local macro_rules | `(tactic| walk_at "l3") => `(tactic| (extract_lets -underBinder +onlyGivenNames a b c; subst a b c))
local macro_rules | `(tactic| walk_at "l11") => `(tactic| (extract_lets -underBinder +onlyGivenNames a b c d e f g h i j k; subst a b c d e f g h i j k; dsimp -zeta -zetaHave only))
variable{prog:Program}{w:World}{A:Around}{E:Value->Shared->Prop}{s:Shared}
end PyProof.Rows
namespace PyProof.Rows
open PySem
local macro_rules | `(tactic| walk_at "mergeHi") => do
 let n:=Lean.mkIdent (Lean.mkPrivateNameCore `PySem.Builtin.List.W1All `PySem.Builtin.mergeHi)
 `(tactic| delta $n)
local macro_rules | `(tactic| walk_at "st") => `(tactic| try dsimp -zeta -zetaHave only)
local macro_rules | `(tactic| walk_at "l3") => `(tactic| (extract_lets -underBinder +onlyGivenNames a b c; subst a b c))
local macro_rules | `(tactic| walk_at "l11") => `(tactic| (extract_lets -underBinder +onlyGivenNames a b c d e f g h i j k; subst a b c d e f g h i j k; dsimp -zeta -zetaHave only))
variable{prog:Program}{w:World}{A:Around}{E:Value->Shared->Prop}{s:Shared}
end PyProof.Rows
namespace PyProof.Rows
open PySem
local macro_rules | `(tactic| walk_at "countRun") => do
 let n:=Lean.mkIdent (Lean.mkPrivateNameCore `PySem.Builtin.List.W1All `PySem.Builtin.countRun)
 `(tactic| delta $n)
local macro_rules | `(tactic| walk_at "binarySort") => do
 let n:=Lean.mkIdent (Lean.mkPrivateNameCore `PySem.Builtin.List.W1All `PySem.Builtin.binarySort)
 `(tactic| delta $n)
local macro_rules | `(tactic| walk_at "st") => `(tactic| try dsimp -zeta -zetaHave only)
local macro_rules | `(tactic| walk_at "l3") => `(tactic| (extract_lets -underBinder +onlyGivenNames a b c; subst a b c))
local macro_rules | `(tactic| walk_at "l11") => `(tactic| (extract_lets -underBinder +onlyGivenNames a b c d e f g h i j k; subst a b c d e f g h i j k; dsimp -zeta -zetaHave only))
local macro_rules | `(tactic| walk_at "l1") => `(tactic| (extract_lets -underBinder +onlyGivenNames a; subst a; try dsimp -zeta -zetaHave only))
local macro_rules | `(tactic| walk_at "l2") => `(tactic| (extract_lets -underBinder +onlyGivenNames a b; subst a b; try dsimp -zeta -zetaHave only))
local macro_rules | `(tactic| walk_at "l4") => `(tactic| (extract_lets -underBinder +onlyGivenNames a b c d; subst a b c d; try dsimp -zeta -zetaHave only))
variable{prog:Program}{w:World}{A:Around}{E:Value->Shared->Prop}{s:Shared}
end PyProof.Rows
namespace PyProof.Rows
open PySem
local macro_rules | `(tactic| walk_at "mergeAt") => do
 let n:=Lean.mkIdent (Lean.mkPrivateNameCore `PySem.Builtin.List.W1All `PySem.Builtin.mergeAt)
 `(tactic| delta $n)
local macro_rules | `(tactic| walk_at "st") => `(tactic| try dsimp -zeta -zetaHave only)
local macro_rules | `(tactic| walk_at "l3") => `(tactic| (extract_lets -underBinder +onlyGivenNames a b c; subst a b c))
local macro_rules | `(tactic| walk_at "l11") => `(tactic| (extract_lets -underBinder +onlyGivenNames a b c d e f g h i j k; subst a b c d e f g h i j k; dsimp -zeta -zetaHave only))
local macro_rules | `(tactic| walk_at "l1") => `(tactic| (extract_lets -underBinder +onlyGivenNames a; subst a; try dsimp -zeta -zetaHave only))
local macro_rules | `(tactic| walk_at "l2") => `(tactic| (extract_lets -underBinder +onlyGivenNames a b; subst a b; try dsimp -zeta -zetaHave only))
local macro_rules | `(tactic| walk_at "l4") => `(tactic| (extract_lets -underBinder +onlyGivenNames a b c d; subst a b c d; try dsimp -zeta -zetaHave only))
variable{prog:Program}{w:World}{A:Around}{E:Value->Shared->Prop}{s:Shared}
end PyProof.Rows
namespace PyProof.Rows
open PySem
local macro_rules | `(tactic| walk_at "sortRuns") => do
 let n:=Lean.mkIdent (Lean.mkPrivateNameCore `PySem.Builtin.List.W1All `PySem.Builtin.sortRuns)
 `(tactic| delta $n)
local macro_rules | `(tactic| walk_at "st") => `(tactic| try dsimp -zeta -zetaHave only)
local macro_rules | `(tactic| walk_at "l3") => `(tactic| (extract_lets -underBinder +onlyGivenNames a b c; subst a b c))
local macro_rules | `(tactic| walk_at "l11") => `(tactic| (extract_lets -underBinder +onlyGivenNames a b c d e f g h i j k; subst a b c d e f g h i j k; dsimp -zeta -zetaHave only))
local macro_rules | `(tactic| walk_at "l1") => `(tactic| (extract_lets -underBinder +onlyGivenNames a; subst a; try dsimp -zeta -zetaHave only))
local macro_rules | `(tactic| walk_at "l2") => `(tactic| (extract_lets -underBinder +onlyGivenNames a b; subst a b; try dsimp -zeta -zetaHave only))
local macro_rules | `(tactic| walk_at "l4") => `(tactic| (extract_lets -underBinder +onlyGivenNames a b c d; subst a b c d; try dsimp -zeta -zetaHave only))
variable{prog:Program}{w:World}{A:Around}{E:Value->Shared->Prop}{s:Shared}
end PyProof.Rows
namespace PyProof.Rows
open PySem
variable{prog:Program}{w:World}{A:Around}{E:Value->Shared->Prop}{s:Shared}
end PyProof.Rows
namespace L2
open PySem PySem.Spec PyProof.Rows
section
variable{X:Cx}
end
end L2
namespace L2
open PySem PySem.Spec PyProof.Rows
section
variable{X:Cx}
end
end L2
namespace L2
open PySem PySem.Spec PyProof.Rows
section
variable{prog:Program}{w:World}{A:Around}{E:Value->Shared->Prop}{s:Shared}{z TI TO i1 i2 l1 l2:Addr}{f0:Value}{f1:Bool}
end
section
variable{X:Cx}
end
end L2
namespace L2
open PySem PySem.Spec PyProof.Rows
section
variable{X:Cx}
end
end L2
namespace L2
open PySem PySem.Spec PyProof.Rows
section
variable{prog:Program}{w:World}{A:Around}{E:Value->Shared->Prop}{s:Shared}{d:Addr}
def Ent(h:Heap)(d:Addr)(es:Array DictEntry)(ep:Nat):Prop:=∃ o,h.get? d=some o/\o.ExactDict/\o.data=.dict es ep
theorem Ent.ty{es:Array DictEntry}{ep:Nat}(x:Ent s.heap d es ep):s.TypeIs (.ref d) "dict":=by
 obtain⟨o,h1,h2,_⟩:=x
 exact⟨o,h1,h2.1⟩
theorem Ag(hd:(d == sysModules)=false):MeetsIn prog w (Builtin.«dict.items» ⟨[.ref d],[]⟩) (fun _ R s=>(∃ es ep,Ent s.heap d es ep)/\R (.ok (.ret (.ref s.heap.objs.size))) { s with heap:=s.heap.push { cls:=.type "dict_items",data:=.fields #[.ref d] } }) :=
 .of_wp fun A R s ⟨⟨es,ep,hm⟩,h⟩=>by
  unfold Builtin.«dict.items» Builtin.Dict.noArgs
  refine wpAny_bind (wpAny_bind (wpAny_notOrdered_dict hm.ty ?_))
  show wpAny _ _ (pure d) _ _ s
  refine wpAny_pure ?_
  show wpAny _ _ (Builtin.Dict.showsAll d >>= _) _ _ s
  unfold Builtin.Dict.showsAll
  rw[if_neg (by simp[hd])]
  exact wpAny_bind (wpAny_pure (wpAny_bind (wpAny_newObj_type (wpAny_pure ⟨_,rfl,h⟩))))
theorem sh{v:Addr}{es:Array DictEntry}{ep:Nat}{Q:Value->Shared->Prop}(hv:s.heap.IsItemsView v d)(hm:Ent s.heap d es ep)
  (hQ:Q (.ref s.heap.objs.size) { s with heap:=s.heap.push { cls:=.type "dict_itemiterator",data:=.fields #[.none,.bool false,.ref d,.int 0 0,.int es.size 0,.int ep 0,.none,.none] } }) :
  wpAny (model prog w) A (pyIter (.ref v)) Q E s:=by
 obtain⟨ov,h1,h2,h3⟩:=id hv
 obtain⟨o,e1,e2,e3⟩:=hm
 refine wpAny_pyIter_slot hv.typeIs F.slot_dict_items_iter (wpAny_call_entry F.slot_dict_items_iter hv.typeIs F.entry_dict_items_iter ?_ (F.args_dict_items_iter_1 _))
 show wpAny _ _ (Builtin.«dict_items.__iter__» _) _ _ s
 unfold Builtin.«dict_items.__iter__» Builtin.Dict_items.dictOf Builtin.Dict_items.newIterator
 refine wpAny_bind (wpAny_pure (wpAny_bind (wpAny_bind (wpAny_field h1 h3 (x:=.ref d) rfl (wpAny_pure (wpAny_bind (wpAny_bind (wpAny_dictEntries e1 e3 (wpAny_bind (wpAny_dictEpoch e1 e3 ?_))))))))))
 simp only[show Builtin.Dict_items.ownsTuple "dict_itemiterator" = true by decide,if_true]
 refine wpAny_newObj_type (wpAny_pure ⟨_,rfl,"dict_itemiterator",_,⟨_,Heap.get?_push_size _ rfl,rfl⟩,F.slot_dict_itemiterator_next.lookup,?_⟩)
  (by simp only[sizeOk,Builtin.Dict_items.ownedTupleFields,Jl,IF,Jm,KW,sizeLine_eq];omega)
 simpa[rawInt,Builtin.Dict_items.ownedTupleFields] using hQ
theorem nZ{it:Addr}{i ep:Nat}{es:Array DictEntry}{ok ov:Value}{Q:Option Value->Shared->Prop}(hit:IsItemIter s.heap it d i es.size ep ok ov)(hm:Ent s.heap d es ep)(hh:A.handled=none)
  (hI:∀ e,es[i]?=some e->∀ h',IsItemIterOut h' it d (i+1) es.size ep e.key e.val s.heap.objs.size->h'.get? s.heap.objs.size=some { cls:=.type "tuple",data:=.seq #[e.key,e.val] }->(∀ b o,b≠it->s.heap.get? b=some o->h'.get? b=some o)->Q (some (.ref s.heap.objs.size)) { s with heap:=h' })
  (hE:es[i]?=none->∀ h',Heap.ExtBut it s.heap h'->Q none { s with heap:=h' }):wpAny (model prog w) A (pyNext (.ref it)) Q E s:=by
 obtain⟨o,e1,e2,e3⟩:=hm
 have hT:s.TypeIs (.ref it) "dict_itemiterator":=⟨_,hit,rfl⟩
 have own:Builtin.Dict_items.ownsTuple "dict_itemiterator" = true:=by decide
 unfold pyNext
 refine wpAny_bind (wpAny_attempt (wpAny_callSpecial?_slot (name:=Str.ofString "__next__") hT F.slot_dict_itemiterator_next (wpAny_call_entry F.slot_dict_itemiterator_next hT F.entry_dict_itemiterator_next ?_ (F.args_dict_itemiterator_next_1 _))))
 refine wpAny_bind (wpAny_pure (wpAny_bind (wpAny_bind (wpAny_bind (wpAny_typeNameOfWhole_itemiter hT (wpAny_pure ?_))))))
 refine wpAny_bind (wpAny_fieldsOf hit rfl ?_)
 simp only[own,if_true]
 show wpAny _ _ (if(Value.ref d == Value.none)=true then _ else _) _ _ _
 rw[if_neg (show ¬ ((Value.ref d == Value.none)=true) from IS)]
 refine wpAny_bind (wpAny_pure (wpAny_bind (wpAny_dictEntries e1 e3 ?_)))
 rw[if_neg (by simp)]
 refine wpAny_bind (wpAny_pure (wpAny_bind (wpAny_dictEpoch e1 e3 ?_)))
 rw[if_neg (by simp)]
 refine wpAny_pure ?_
 have n0:¬ ((i:Int)<0):=by omega
 simp only[n0,if_false,JB]
 cases he:es[i]? with
 |none =>
  refine wpAny_bind (wpAny_bind (wpAny_typeNameOfWhole_itemiter hT (wpAny_pure ?_)))
  show wpAny _ _ (setField (.ref it) 2 .none >>= _) _ _ s
  refine wpAny_bind (wpAny_setField hit rfl (by simp) ?_)
  show wpAny _ _ (newExc (.type "StopIteration") [] >>= _) _ _ _
  refine wpAny_bind ?_
  simp only[newExc,newTuple]
  refine wpAny_bind (wpAny_newObj_type (wpAny_bind (m:=firstArgMember _ _) (wpAny_of_eq (a:=Value.none) (by first | rfl | (simp only[firstArgMember];rfl)) (wpAny_newObj_type ?_ (by size_fits)))) (by size_fits))
  simp only[raiseNew]
  refine wpAny_bind (wpAny_handled ?_)
  rw[show A.in1.handled=none from hh]
  refine wpAny_bind (wpAny_pure (wpAny_throw ?_))
  refine wpAny_bind (wpAny_isInstance (T:="StopIteration") (b:=true) ⟨_,Heap.get?_push_size _ rfl,rfl⟩ isSubtype_stop (wpAny_pure ?_))
  exact hE he _ (((Heap.SameBut.update ..).extBut.push _).push _)
 |some e =>
  refine wpAny_bind (wpAny_bind (wpAny_typeNameOfWhole_itemiter hT (wpAny_pure ?_)))
  refine wpAny_bind (wpAny_isOneOf_itemiter hT ?_)
  show wpAny _ _ (setField (.ref it) 3 (rawInt ((i:Int)+1)) >>= _) _ _ s
  refine wpAny_bind (wpAny_setField_rec hit (by simp) fun g1 q1 k1=>?_)
  have c1:((i+1:Nat):Int)=(i:Int)+1:=by omega
  have q1':IsItemIter g1 it d (i+1) es.size ep ok ov:=by
   unfold IsItemIter
   rw[c1]
   simpa[rawInt] using q1
  have lt:it<s.heap.objs.size:=Heap.lt_size hit
  have z1:g1.objs.size=s.heap.objs.size:=k1.1
  have hT1:Shared.TypeIs { s with heap:=g1 } (.ref it) "dict_itemiterator":=⟨_,q1',rfl⟩
  refine wpAny_bind (wpAny_holding (wpAny_bind (wpAny_isOneOf_itemiter hT1 (wpAny_bind (wpAny_isOneOf_itemiter hT1 ?_)))))
  show wpAny _ _ (Builtin.Dict_items.pairFromOwner (.ref it) 6 e.key e.val) _ _ { s with heap:=g1 }
  unfold Builtin.Dict_items.pairFromOwner Builtin.Dict_items.ownedTupleIsFree
  refine wpAny_bind (wpAny_newTuple ?_)
  have q2:IsItemIter (g1.push { cls:=.type "tuple",data:=.seq #[e.key,e.val] }) it d (i+1) es.size ep ok ov:=Heap.get?_push_of_some _ q1'
  have t2:(g1.push { cls:=.type "tuple",data:=.seq #[e.key,e.val] }).get? s.heap.objs.size=some { cls:=.type "tuple",data:=.seq #[e.key,e.val] }:=by rw[← z1];exact Heap.get?_push_size _ rfl
  have k2:∀ b o,b≠it->s.heap.get? b=some o->(g1.push { cls:=.type "tuple",data:=.seq #[e.key,e.val] }).get? b=some o:=fun b o hb q=>Heap.get?_push_of_some _ (k1.extBut b o hb q)
  rw[z1]
  generalize g1.push { cls:=.type "tuple",data:=.seq #[e.key,e.val] }=g2 at q2 t2 k2
  show wpAny _ _ (_ >>= _) _ _ { s with heap:=g2 }
  refine wpAny_bind (wpAny_bind (wpAny_field q2 rfl (x:=.none) rfl (wpAny_pure ?_)))
  simp only[if_true]
  refine wpAny_bind (wpAny_field q2 rfl (x:=ok) rfl (wpAny_bind (wpAny_field q2 rfl (x:=ov) rfl ?_)))
  refine wpAny_bind (wpAny_setField_rec q2 (by simp) fun g3 q3 k3=>?_)
  replace q3:IsItemIter g3 it d (i+1) es.size ep e.key ov:=q3
  refine wpAny_bind (wpAny_setField_rec q3 (by simp) fun g4 q4 k4=>?_)
  replace q4:IsItemIter g4 it d (i+1) es.size ep e.key e.val:=q4
  refine wpAny_bind (wpAny_setField_rec q4 (by simp) fun g5 q5 k5=>?_)
  replace q5:IsItemIterOut g5 it d (i+1) es.size ep e.key e.val s.heap.objs.size:=q5
  refine wpAny_bind (wpAny_setField_rec q5 (by simp) fun g6 q6 k6=>?_)
  replace q6:IsItemIterOut g6 it d (i+1) es.size ep e.key e.val s.heap.objs.size:=q6
  have up:∀ b o,b≠it->g2.get? b=some o->g6.get? b=some o:=fun b o hb q=>k6.extBut b o hb (k5.extBut b o hb (k4.extBut b o hb (k3.extBut b o hb q)))
  exact wpAny_bind (wpAny_letGo (wpAny_pure (wpAny_pure ⟨_,rfl,wpAny_pure (hI e he g6 q6 (up _ _ (JX lt) t2) fun b o hb q=>up b o hb (k2 b o hb q))⟩)))
end
def cV(v d:Addr):HO:=.ext fun h=>h.IsItemsView v d
def KvA(H:Hp)(u:HO)(i:Nat)(x y:V):Prop:=(∃ kvs k,u=.dK kvs/\kvs[i]?=some (k,y)/\x=kV k)∨∃ kvs k t,u=.dT kvs/\kvs[i]?=some (k,y)/\x=.ref t/\H t=some (.tup (k.map kV))
def dlen:HO->Nat
 |.dK kvs=>kvs.length
 |.dT kvs=>kvs.length
 |_=>0
def rY:HO->Prop
 |.dK _=>True
 |.dT _=>True
 |_=>False
theorem qZ{α β:Type}{F:α->β->Prop}:∀{l₁:List α}{l₂:List β},Paired F l₁ l₂->∀{i:Nat}{b:β},l₂[i]?=some b->∃ a,l₁[i]?=some a/\F a b
 |_,_,.nil,i,b,e=>by simp at e
 |_,_,.cons r t,0,b,e=>⟨_,rfl,by cases e;exact r⟩
 |_,_,.cons r t,i+1,b,e=>qZ t (i:=i) e
theorem lE{P:Program}{w:World}{H:Hp}{h:Heap}{d:Addr}{u:HO}(hd:rY u)(x:aY P w H h d u):(d == sysModules)=false/\∃ es ep,Ent h d es ep/\es.size=dlen u/\∀ i e,es[i]?=some e->∃ x y,KvA H u i x y/\RelV x e.key/\RelV y e.val:=by
 cases u with
 |dK kvs =>
  obtain⟨hz,lo,vs,rk,o,es,ep,h1,h2,h3,h4,h5,h6⟩:=x
  have l1:kvs.length=vs.length:=Paired.length rk
  have sz:es.size=vs.length:=by rw[← h5.length,JK]
  refine⟨lo,es,ep,⟨o,h1,h2,h3⟩,by rw[sz];exact l1.symm,fun i e he=>?_⟩
  have hi:i<vs.length:=by
   have:i<es.size:=(Mx.mp he).1
   omega
  obtain⟨⟨k,v⟩,hv⟩:∃ q,vs[i]?=some q:=⟨_,IB hi⟩
  obtain⟨hk,hval⟩:=h5.get? (e:=e) (by rw[Kh];exact he) hv
  obtain⟨⟨k',y⟩,hy,ek,ry⟩:=qZ rk hv
  have ek':k'=k:=ek
  subst ek'
  refine⟨kV k',y,.inl ⟨kvs,k',rfl,hy,rfl⟩,?_,by rw[hval];exact ry⟩
  rcases aX (show yj k' e.key=true from hk) with⟨j,t,e1,e2⟩ | ⟨z,t,e1,e2⟩
  ·rw[e1,e2];exact⟨t,rfl⟩
  ·rw[e1,e2];exact⟨t,rfl⟩
 |dT kvs =>
  obtain⟨hz,lo,xs,r,o,es,ep,h1,h2,h3,h4,h5⟩:=x
  have sz:es.size=xs.length:=by rw[← JK,h4,IJ]
  refine⟨lo,es,ep,⟨o,h1,h2,h3⟩,by rw[sz];exact r.length.symm,fun i e he=>?_⟩
  have e1:es.toList[i]?=some e:=by rw[Kh];exact he
  rw[h4,II]at e1
  cases hx:xs[i]? with
  |none=>rw[hx]at e1;cases e1
  |some q =>
   rw[hx]at e1
   cases e1
   obtain⟨⟨k,y⟩,hy,ek,ht,ry⟩:=qZ r hx
   exact⟨.ref q.2.1,y,.inr ⟨kvs,k,q.2.1,rfl,hy,rfl,ht⟩,rfl,ry⟩
 |_=>exact hd.elim
section
variable{X:Cx}{pins:List (Addr×Obj)}{σ:St}{H:Hp}{s:Shared}{d:Addr}{u:HO}{o:Obj}
theorem rY.notT(h:rY u):(∀ xs,u≠.tup xs)/\(∀ o v,u≠.frz o v)/\(∀ ps,u≠.tbl ps)/\∀ a,u≠.own a:=by
 cases u<;>first | exact h.elim | exact⟨fun _=>by simp,fun _ _=>by simp,fun _=>by simp,fun _=>by simp⟩
theorem HOk.frz{P:Program}{w:World}{h:Heap}(x:HOk P w H h)(hd:H d=some u)(hu:rY u)(e:h.get? d=some o):HOk P w (upd H d (.frz o u)) h:=fun b v q=>by
 obtain⟨n1,n2,n3,n4⟩:=hu.notT
 have ow:∀ c y,H c=some (.own y)->upd H d (.frz o u) c=some (.own y):=fun c y r=>by rw[ai (AM r hd fun z=>n4 y z.symm)];exact r
 have tp:∀ c xs,H c=some (.tup xs)->upd H d (.frz o u) c=some (.tup xs):=fun c xs r=>by rw[ai (AM r hd fun z=>n1 xs z.symm)];exact r
 by_cases hb:b=d
 ·subst hb
  rw[ae]at q
  cases q
  exact⟨e,(x b u hd).stay (fun _ _ _ r=>r) (fun c r=>ow c b r) tp⟩
 ·rw[ai hb]at q
  exact(x b v q).stay (fun _ _ _ r=>r) (fun c r=>ow c b r) tp
theorem Inv.freeze(I:Inv X pins σ H s)(hd:H d=some u)(hu:rY u)(e:s.heap.get? d=some o):Inv X pins σ (upd H d (.frz o u)) s:=by
 obtain⟨n1,n2,n3,n4⟩:=hu.notT
 exact I.step (H':=upd H d (.frz o u)) (h':=s.heap) (g':=s.gens) (d':=s.drawn) (t':=s.toks) (ch:=[]) (fun _ z=>nomatch z) (fun b _ _ _ _ q _=>q) (fun b ob _ _ _ q _=>⟨ob.slots,q⟩)
  (fun b _ _ _ n=>by rw[ai (ar hd n).symm];exact n) (fun b ob _ q=>⟨ob,q⟩) (fun b xs r=>by rw[ai (AM r hd fun z=>n1 xs z.symm)];exact r)
  (fun b ob v r=>by rw[ai (AM r hd fun z=>n2 ob v z.symm)];exact r) (fun b ps r=>⟨#[],by rw[ai (AM r hd fun z=>n3 ps z.symm),r];simp⟩) (fun _ q=>q) (I.hok.frz hd hu e) I.bare
theorem zX:MtR X "dict.items" (fun x xs H Q=>∃ d u,x=.ref d/\xs = []/\H d=some u/\rY u/\∀ v,H v=none->Q (.ref v) (upd H v (cV v d))):=by
 intro pins s σ H x xs v us Q I rx rv h
 obtain⟨d,u,rfl,rfl,hd,hu,q⟩:=h
 cases rx
 have hus:=rv.zero
 subst hus
 obtain⟨lo,es,ep,hm,_⟩:=lE hu (I.hok d _ hd)
 refine call_meetsIn KH hm.ty ME (Mz _) (Ag lo) ⟨⟨es,ep,hm⟩,?_⟩
 have hv:(s.heap.push { cls:=.type "dict_items",data:=.fields #[.ref d] }).IsItemsView s.heap.objs.size d:=⟨_,Heap.get?_push_size _ rfl,rfl,rfl⟩
 refine⟨.ref s.heap.objs.size,_,I.laid (t':=s.toks) (fun b o e=>Heap.get?_push_of_some _ e) (IG _) ?_,rfl,q _ (I.hok.fresh (IG _))⟩
 exact⟨hv,⟨_,Heap.get?_push_size _ rfl⟩,fun h1 h2 x k=>let ⟨o,ho,r⟩:=x;⟨o,k _ ho,r⟩⟩
end
def Itd(o:Obj)(u:HO)(d:Addr):It :=
 ⟨fun i H=>H d=some (.frz o u)/\i<dlen u,
  fun i H v H'=>∃ T x y,H T=none/\v=.ref T/\H'=upd H T (.tup [x,y])/\KvA H u i x y,
  fun i H=>H d=some (.frz o u)/\dlen u<=i⟩
theorem pR{P:Program}{w:World}{K:IC}{el:List Expr}{kk:Nat}{pos:Pos}(o:Obj)(u:HO)(d I:Addr)(hu:rY u)(es:Array DictEntry)(ep:Nat)(hx:o.ExactDict)(ho:o.data=.dict es ep):Turn P w K (.Tuple el kk pos) (Itd o u d) [I] I
  (fun i h=>∃ ok ov,IsItemIter h I d i es.size ep ok ov) where
 mem:=by simp
 obj:=fun i h st b hb=>by
  obtain⟨ok,ov,he⟩:=st
  rw[IX.mp hb]
  exact⟨_,he,fun v z=>by have z':Data.fields _=Data.cell v:=z;cases z'⟩
 keep:=fun i h h' st kk=>by
  obtain⟨ok,ov,he⟩:=st
  exact⟨ok,ov,kk I (by simp) _ he⟩
 item:=by
  intro X hP hw hK hc i pins s σ H E Iv hf st hg
  subst hP hw hK
  obtain⟨hd,hi⟩:=hg
  obtain⟨ok,ov,he⟩:=st
  obtain⟨g1,g2⟩:=(show aY X.prog X.w H s.heap d (.frz o u) from Iv.hok d _ hd)
  obtain⟨_,es',ep',⟨o',q1,q2,q3⟩,sz,al⟩:=lE hu g2
  rw[g1]at q1
  cases q1
  rw[ho]at q3
  cases q3
  have lt:I<s.heap.objs.size:=Heap.lt_size he
  refine nZ he ⟨o,g1,hx,ho⟩ (Iv.ok.hd hc) (fun e hee h' hit hT hk=>?_) (fun z=>by rw[Array.getElem?_eq_none_iff]at z;omega)
  refine⟨_,rfl,?_⟩
  refine wpAny_letOwnedTupleGo_items hit fun h2 he2 hs2=>?_
  obtain⟨x,y,kv,rx,ry⟩:=al i e hee
  have hfr:H s.heap.objs.size=none:=Iv.hok.fresh (IG _)
  have I0:Inv X pins σ (upd H s.heap.objs.size (.tup [x,y])) { s with heap:=s.heap.push { cls:=.type "tuple",data:=.seq #[e.key,e.val] },toks:=s.toks } :=
   Iv.laid (t':=s.toks) (fun b u e=>Heap.get?_push_of_some _ e) (IG _) ⟨by show 2<=sizeLine;decide,[e.key,e.val],.cons rx (.cons ry .nil),⟨_,Heap.get?_push_size _ rfl,rfl,_,rfl⟩⟩
  have hn:∀ b∈[I],upd H s.heap.objs.size (.tup [x,y]) b=none:=fun b hb=>by
   rw[ai (by rw[IX.mp hb];exact Jf lt)]
   exact(hf b hb).1
  have I2:Inv X pins σ (upd H s.heap.objs.size (.tup [x,y])) { s with heap:=h2,toks:=s.toks }:=Inv.turnedL (s:={ s with heap:=s.heap.push { cls:=.type "tuple",data:=.seq #[e.key,e.val] },toks:=s.toks }) (h':=h2) I0 (t':=s.toks) (fp:=[I]) (fun b ob hb q=>by
   have nb:b≠I:=fun z=>hb (by simp[z])
   refine(hs2.2 b nb).trans ?_
   rcases Heap.get?_push_cases q with⟨z1,z2⟩ | q
   ·rw[z1,z2];exact hT
   ·exact hk b ob nb q) fun b hb=>⟨hn b hb,(hf b hb).2⟩
  exact⟨.ref s.heap.objs.size,_,I2,rfl,⟨s.heap.objs.size,x,y,hfr,rfl,rfl,kv⟩,⟨_,_,he2⟩,hn⟩
 done:=by
  intro X hP hw hK hc i pins s σ H E Iv hf st hg
  subst hP hw hK
  obtain⟨hd,hi⟩:=hg
  obtain⟨ok,ov,he⟩:=st
  obtain⟨g1,g2⟩:=(show aY X.prog X.w H s.heap d (.frz o u) from Iv.hok d _ hd)
  obtain⟨_,es',ep',⟨o',q1,q2,q3⟩,sz,al⟩:=lE hu g2
  rw[g1]at q1
  cases q1
  rw[ho]at q3
  cases q3
  obtain⟨f0,f1,f2,f3,f4,f5⟩:=hf I (by simp)
  refine nZ he ⟨o,g1,hx,ho⟩ (Iv.ok.hd hc) (fun e hee=>by have:=(Mx.mp hee).1;omega) (fun _ h' hk=>⟨rfl,Iv.turned (t':=s.toks) (fun b o hb e=>hk b o hb e) f0 f1 f3 f4 f5⟩)
 self:=fun _ _ _ _ _ st h=>by
  obtain⟨ok,ov,he⟩:=st
  exact PySem.W.kcp_self he h
section
variable{X:Cx}
def iItems(te:TE):TI:=fun σ H R=>te σ H fun x H1=>∃ vw d u,x=.ref vw/\H1 vw=some (cV vw d)/\H1 d=some u/\rY u/\∀ o,R (Itd o u d) (upd H1 d (.frz o u))
theorem EY{e:Expr}{te:TE}{es:List Expr}{k:Nat}{tp:Pos}(he:PE X e te):PI X (.Tuple es k tp) e (iItems te):=by
 intro pins s σ H R I h
 refine thn (he pins s σ H _ I h) fun v s1 ⟨x,H1,I1,r1,q1⟩=>?_
 obtain⟨vw,d,u,rfl,hv,hd,hu,q⟩:=q1
 cases r1
 obtain⟨hview,_,_⟩:=(show aY X.prog X.w H1 s1.heap vw (cV vw d) from I1.hok vw _ hv)
 obtain⟨_,ents,ep,hm,sz,_⟩:=lE hu (I1.hok d _ hd)
 obtain⟨o,q1,q2,q3⟩:=id hm
 refine sh hview hm ?_
 have I2:=I1.freeze hd hu q1
 have ne:d≠s1.heap.objs.size:=Jf (Heap.lt_size q1)
 refine⟨s1.heap.objs.size,[s1.heap.objs.size],_,_,upd H1 d (.frz o u),rfl,I2.kept (t':=s1.toks) fun b u e=>Heap.get?_push_of_some _ e,pR o u d _ hu ents ep q2 q3,⟨_,_,Heap.get?_push_size _ rfl⟩,fun b hb=>?_,q o⟩
 rw[IX.mp hb]
 exact I2.fpOk (IG _) (I2.hok.fresh (IG _))
end
theorem nW{o:Obj}{u:HO}{d:Addr}{g:TG}{tb:TS}{D:Ends}{σ:St}{H:Hp}(Pv:Nat->St->Hp->Prop)(h0:Pv 0 σ H)(hl:∀ i σ H,i<=dlen u->Pv i σ H->H d=some (.frz o u))
  (hs:∀ i x y σ H T,i<dlen u->KvA H u i x y->Pv i σ H->H T=none->g (.ref T) σ (upd H T (.tup [x,y])) fun σ2 H2=>tb { D with nx:=Pv (i+1),ct:=Pv (i+1),bk:=D.nx } σ2 H2) (hd:∀ σ H,Pv (dlen u) σ H->D.nx σ H) :
  ∃ W:Nat->Nat->St->Hp->Prop,(∃ m,W 0 m σ H)/\∀ i m σ H,W i m σ H ->
   ((Itd o u d).stop i H/\D.nx σ H)∨((Itd o u d).go i H/\∃ N:St->Hp->Prop,(∀ σ' H',N σ' H'->∃ m',m'<m/\W (i+1) m' σ' H')/\∀ x H',(Itd o u d).yld i H x H'->g x σ H' fun σ2 H2=>tb { D with nx:=N,ct:=N,bk:=D.nx } σ2 H2):=by
 refine⟨fun i m σ H=>m=dlen u-i/\i<=dlen u/\Pv i σ H,⟨dlen u,by simp,JL _,h0⟩,?_⟩
 rintro i m σ H ⟨rfl,hi,p⟩
 have q:=hl i σ H hi p
 by_cases hlt:i<dlen u
 ·refine .inr ⟨⟨q,hlt⟩,Pv (i+1),fun σ' H' p'=>⟨dlen u-(i+1),by omega,rfl,hlt,p'⟩,fun v H' y=>?_⟩
  obtain⟨T,x,z,hT,rfl,rfl,kv⟩:=y
  exact hs i x z σ _ T hlt kv p hT
 ·have e:i=dlen u:=by omega
  subst e
  exact .inl ⟨⟨q,IG _⟩,hd σ H p⟩
end L2
namespace L2
open PySem PySem.Spec PyProof.Rows
section
open PySem.W
end
section
open PySem.W
variable{prog:Program}{w:World}{A:Around}{E:Value->Shared->Prop}{s:Shared}
def PrV(h:Heap)(v:Value):Prop:=∃ a o n x y tx ty,v=.ref a/\h.get? a=some o/\o.cls=.type "tuple"/\o.data=.seq #[.int x tx,.int y ty] n
theorem PrV.keep{h h':Heap}{v:Value}(p:PrV h v)(k:∀ b o,v=.ref b->h.get? b=some o->h'.get? b=some o):PrV h' v:=by
 obtain⟨a,o,n,x,y,tx,ty,rfl,h1,r⟩:=p
 exact⟨a,o,n,x,y,tx,ty,rfl,k _ _ rfl h1,r⟩
theorem zM{M:Model}:∀{vs:List Value},(∀ v∈vs,PrV s.heap v)->∃ fs,KatTups s.heap vs fs/\fs.length=vs.length/\∀ v∈fs,Looks M s.heap (typeOf v) (.type "int")
 |[],_=>⟨[],trivial,rfl,fun v hv=>nomatch hv⟩
 |v::vs,h=>by
  obtain⟨fs,h1,h2,h3⟩:=zM (M:=M) (vs:=vs) fun u hu=>h u (IV _ hu)
  obtain⟨a,o,n,x,y,tx,ty,rfl,k1,k2,k3⟩:=h v (Jc ..)
  refine⟨.int x tx::fs,KatTups.cons k1 k2 k3 rfl h1,by rw[Jm,Jm,h2],fun u hu=>?_⟩
  rcases IL.mp hu with rfl | hu
  ·exact .now
  ·exact h3 u hu
end
section
variable{X:Cx}
end
section
variable{X:Cx}
end
end L2
namespace L2
open PySem PySem.Spec PyProof.Rows
section
variable{prog:Program}{w:World}{K:Type} [DecidableEq K] {knd:KeyKind prog w K} {A:Around} {E:Value->Shared->Prop} {s:Shared}
theorem Aw{d:Addr}{kvs:List (K×Value)}{k:K}{key dflt:Value}{Q:Value->Shared->Prop}(hkey:knd.is k key=true)(hm:s.heap.DictOf knd d kvs)
  (hthere:∀ v,valueAt kvs k=some v->Q v { s with toks:=s.toks+1 })
  (hnew:valueAt kvs k=none->∀ h',h'.DictOf knd d (stored kvs k dflt)->Heap.SameBut d s.heap h'->Q dflt { s with heap:=h',toks:=s.toks+1 }) (hsz:kvs.length<=sizeLine) :
  wpAny (model prog w) A (dictSetDefault d key dflt) Q E s:=by
 have hmap:=hm.mapOf
 obtain⟨o,es,ep,ho,hc,hd,hk,hp,hn⟩:=hm
 obtain⟨o',es',ep',ho',_,hd',_,hf⟩:=hmap
 rw[ho]at ho'
 cases ho'
 rw[hd]at hd'
 cases hd'
 have hes:es.size<=sizeLine:=by have e1:=hp.length;have e2:es.toList.length=es.size:=by simp
                                omega
 unfold dictSetDefault
 try with_reducible refine wpAny_holding ?_
 refine wpAny_bind (knd.pyHash hkey ?_)
 refine wpAny_bind (wpAny_dictFind_of (s:={ s with toks:=s.toks+1 }) hkey ho hd hk ?_)
 have hidx:(es.findIdx? fun e=>knd.is k e.key)=kvs.findIdx? fun kv=>decide (kv.1=k):=by
  rw[← hp.findIdx k];obtain⟨l⟩:=es;simp
 cases hi:es.findIdx? fun e=>knd.is k e.key with
 |some i =>
  have hfk:valueAt kvs k=(es[i]?).map (·.val):=by rw[← hf k,findBy_of_findIdx?,hi]
  refine wpAny_bind (wpAny_dictEntries (s:={ s with toks:=s.toks+1 }) ho hd ?_)
  cases he:es[i]? with
  |none =>
   exfalso
   have:=Array.findIdx?_eq_some_iff_findIdx_eq.mp hi
   have hlt:i<es.size:=this.1
   rw[MD hlt]at he
   exact nomatch he
  |some e =>
   rw[he]at hfk
   exact wpAny_bind (wpAny_rule (wpAny_pure (hthere e.val hfk)))
 |none =>
  have hfk:valueAt kvs k=none:=by rw[← hf k,findBy_of_findIdx?,hi]
  have hnot:k∉kvs.map (·.1):=not_mem_of_findIdx_none (hidx▸hi)
  have hany:¬ (kvs.any fun kv=>decide (kv.1=k))=true:=by
   rw[KO];rintro⟨kv,hkv,he⟩
   exact hnot (IY.mpr ⟨kv,hkv,of_decide_eq_true he⟩)
  refine wpAny_bind (wpAny_rule (wpAny_bind (wpAny_updateDictKeys (hz:=hes) (s:={ s with toks:=s.toks+1 }) ho hd (wpAny_pure (hnew hfk _ ⟨_,_,ep+1,Heap.get?_update_self _ ho (Obj.isFreed_of_dict (Obj.data_mapDictKeys hd _)),
   hc.mapDictKeys _,Obj.data_mapDictKeys hd _,hk.push hkey _,?_,?_⟩ (Heap.SameBut.update ..))))))
  ·rw[stored,if_neg hany]
   have:=hp.append hkey (knd.hash k) dflt
   obtain⟨l⟩:=es
   simpa using this
  ·rw[stored,if_neg hany,Jr,Jo]
   refine⟨hn,by simp,?_⟩
   intro a ha b hb
   simp only[Ju,Mi,IX]at hb
   subst hb
   exact fun e=>hnot (e▸ha)
theorem AO{d:Addr}{k:K}{key:Value}(hkey:knd.is k key=true)(hd:(d == sysModules)=false)(dflt:Value) :
  MeetsIn prog w (Builtin.«dict.setdefault» ⟨[.ref d,key,dflt],[]⟩) (fun _ R s=>∃ kvs,s.heap.DictOf knd d kvs/\kvs.length<=sizeLine /\
   (∀ v,valueAt kvs k=some v->R (.ok (.ret v)) { s with toks:=s.toks+1 }) /\
   (valueAt kvs k=none->∀ h',h'.DictOf knd d (stored kvs k dflt)->Heap.SameBut d s.heap h'->R (.ok (.ret dflt)) { s with heap:=h',toks:=s.toks+1 })) :=
 .of_wp fun A R s ⟨kvs,hm,hz,h1,h2⟩=>by
  unfold Builtin.«dict.setdefault»
  refine wpAny_bind ?_
  unfold Builtin.Dict.keyAndDefault
  refine wpAny_bind (wpAny_notOrdered_dict hm.typeIs ?_)
  show wpAny _ _ (pure (d,key,some dflt)) _ _ s
  refine wpAny_pure ?_
  show wpAny _ _ (if(d == sysModules)=true then _ else(dictSetDefault d key dflt >>= _)) _ _ s
  rw[if_neg (by rw[hd];exact IS)]
  exact wpAny_bind (Aw hkey hm (fun v hv=>wpAny_pure ⟨v,rfl,h1 v hv⟩) (fun hn h' hm' hs'=>wpAny_pure ⟨dflt,rfl,h2 hn h' hm' hs'⟩) hz)
end
def tSetD(td ty tx:TE):TE:=fun σ H Q=>td σ H fun x H1=>∃ a,x=.ref a/\IsD H1 a/\ty σ H1 fun y H2=>tx σ H2 fun z H3=>∃ kvs k,H3 a=some (.dK kvs)/\y=kV k/\kvs.length<sizeLine /\
 (∀ v,valV kvs k=some v->Q v H3)/\(valV kvs k=none->Q z (upd H3 a (.dK (putK kvs k z))))
section
variable{X:Cx}{o e f:Expr}{apos cpos:Pos}{td ty tx:TE}
theorem Hm(ho:PE X o td)(he:PE X e ty)(hf:PE X f tx) (m:M2 X o "setdefault" apos e f cpos):PE X (.Call (.Attribute o "setdefault" apos) [e,f] [] cpos) (tSetD td ty tx):=by
 intro pins s σ H Q I h
 refine wpAny_Call_method m.base m.few m.line KI Mo PySem.F.type_dict_setdefault (thn (ho pins s σ H _ I h) fun u s1 ⟨x,H1,I1,rx,a,ex,d,q1⟩=>?_)
 subst ex
 obtain rfl:u=Value.ref a:=rx
 obtain⟨t1,t2,_⟩:=Gi I1 d
 refine⟨t1,t2,?_⟩
 rw[m.trees]
 refine Calls.callWith_builtin rfl (Calls.evalArgs_plain (Calls.spliced_cons (thn (he pins s1 σ H1 _ I1 q1) fun iv s2 ⟨y,H2,I2,ry,q2⟩ =>
  Calls.spliced_cons (thn (hf pins s2 σ H2 _ I2 q2) fun fv s3 ⟨z,H3,I3,rz,kvs,k,ea,ey,hl,q3,q4⟩=>Calls.spliced_nil ?_))))
 subst ey
 obtain⟨hz,hd,vs,rel,dd⟩:=Ik I3.hok ea
 have hzv:vs.length<=sizeLine:=by rw[← rel.length];exact hz
 refine call_meetsIn Mo dd.typeIs PySem.F.entry_dict_setdefault (PySem.F.args_dict_setdefault_3 _ _ _) (AO (yu ry) hd fv) ⟨vs,dd,hzv,fun v hv=>?_,fun hn h' dd' hs=>?_⟩
 ·have r:=rel.val k
  rw[hv]at r
  cases l:valV kvs k with
  |none=>rw[l]at r;exact r.elim
  |some v'=>rw[l]at r;exact⟨v',H3,I3.tok _,r,q3 v' l⟩
 ·have r:=rel.val k
  rw[hn]at r
  cases l:valV kvs k with
  |some v'=>rw[l]at r;exact r.elim
  |none =>
   have hl2:(putK kvs k z).length<=sizeLine:=by have:=cJ kvs k z;omega
   have hE:∃ q,h'.get? a=some q:=let ⟨q,_,_,hq,_⟩:=dd';⟨q,hq⟩
   exact⟨z,_,su I3 (by rw[ea];exact True.intro) hs hE (Ai hl2 hd (rel.put k rz) dd'),rz,q4 l⟩
end
section
variable{X:Cx}
end
section
variable{prog:Program}{w:World}{A:Around}{E:Value->Shared->Prop}{s:Shared}{T:String}{r d:Addr}{n:Nat}{P:Nat->Value->Prop}{OK:Heap->Prop}
end
section
variable{X:Cx}
end
abbrev aZ(h:Heap)(T:Addr)(a b c:Value):Prop:=h.get? T=some { cls:=.type "tuple",data:=.seq #[a,b,c] }
section
variable{prog:Program}{w:World}{A:Around}{E:Value->Shared->Prop}{s:Shared}
theorem bK{T:Addr}{a b c x:Value}{k:Nat}{Q:Unit->Shared->Prop}(hT:aZ s.heap T a b c)
  (h:∀ h',h'.get? T=some { cls:=.type "tuple",data:=.seq ((#[a,b,c]:Array Value).setIfInBounds k x) }->Heap.SameBut T s.heap h'->Q () { s with heap:=h' }) :
  wpAny (model prog w) A (updateSeq T (·.setIfInBounds k x)) Q E s:=by
 refine wpAny_updateSeq hT rfl (h _ ?_ (Heap.SameBut.update ..))
 rw[Heap.get?_update_self _ hT rfl]
 simp[Obj.mapSeq]
structure Z3(z TI TO i1 i2 i3 l1 l2 l3:Addr):Prop where
 zs:∀ x∈[TI,TO,i1,i2,i3,l1,l2,l3],x≠z
 ts:∀ x∈[TI,i1,i2,i3,l1,l2,l3],x≠TO
 is1:∀ x∈[TI,i2,i3,l1,l2,l3],x≠i1
 is2:∀ x∈[TI,i1,i3,l1,l2,l3],x≠i2
 is3:∀ x∈[TI,i1,i2,l1,l2,l3],x≠i3
theorem GH{z TI TO i1 i2 i3 l1 l2 l3:Addr}{k:Nat}{xs ys zs:Array Value}{x y v a b c:Value}{Q:Value->Shared->Prop}(D:Z3 z TI TO i1 i2 i3 l1 l2 l3)
  (hz:IsZip s.heap z TI TO .none) (hTI:aZ s.heap TI (.ref i1) (.ref i2) (.ref i3)) (hTO:aZ s.heap TO a b c)
  (h1:s.heap.IsListIter i1 l1 k) (h2:s.heap.IsListIter i2 l2 k) (h3:s.heap.IsListIter i3 l3 k) (hl1:s.heap.IsList l1 xs) (hl2:s.heap.IsList l2 ys) (hl3:s.heap.IsList l3 zs) (hx:xs[k]?=some x) (hy:ys[k]?=some y) (hv:zs[k]?=some v)
  (hQ:∀ h',IsZip h' z TI TO (rawInt s.heap.objs.size)->aZ h' TO x y v->h'.IsListIter i1 l1 (k+1)->h'.IsListIter i2 l2 (k+1)->h'.IsListIter i3 l3 (k+1)->aZ h' s.heap.objs.size x y v->h'.objs.size=s.heap.objs.size+1 ->
   (∀ c o,c∉[z,TO,i1,i2,i3]->s.heap.get? c=some o->h'.get? c=some o)->Q (.ref s.heap.objs.size) { s with heap:=h' }) :
  wpAny (model prog w) A (Builtin.«zip.__next__» ⟨[.ref z],[]⟩) (fun fin s'=>∃ v,fin=.done (.ret v)/\Q v s') E s:=by
 obtain⟨zs',ts',s1',s2',s3'⟩:=D
 simp only[IL,JJ,or_false,forall_eq_or_imp,forall_eq]at zs' ts' s1' s2' s3'
 obtain⟨TIz,TOz,i1z,i2z,i3z,l1z,l2z,l3z⟩:=zs'
 obtain⟨TITO,i1TO,i2TO,i3TO,l1TO,l2TO,l3TO⟩:=ts'
 obtain⟨TIi1,i21,i31,l1i1,l2i1,l3i1⟩:=s1'
 obtain⟨TIi2,i12,i32,l1i2,l2i2,l3i2⟩:=s2'
 obtain⟨TIi3,i13,i23,l1i3,l2i3,l3i3⟩:=s3'
 show wpAny _ _ (field (.ref z) 2 >>= _) _ _ _
 refine wpAny_bind (wpAny_field hz rfl (x:=.bool false) rfl ?_)
 show wpAny _ _ (field (.ref z) 3 >>= _) _ _ _
 refine wpAny_bind (wpAny_field hz rfl (x:=.ref TI) rfl ?_)
 refine wpAny_bind (wpAny_seqItems hTI rfl ?_)
 show wpAny _ _ (Builtin.SmallTypes.ownedTupleIsFree (.ref z) >>= _) _ _ _
 refine wpAny_bind ?_
 unfold Builtin.SmallTypes.ownedTupleIsFree
 refine wpAny_bind (wpAny_field hz rfl (x:=.none) rfl (wpAny_pure ?_))
 simp only[if_true]
 refine wpAny_bind (wpAny_rule ?_)
 refine wpAny_bind (wpAny_field hz rfl (x:=.ref TO) rfl ?_)
 refine wpAny_bind (wpAny_setField_rec hz (by simp) fun h₁ hz₁ hs₁=>?_)
 replace hz₁:IsZip h₁ z TI TO .ellipsis:=hz₁
 refine wpAny_bind ?_
 simp only[Mm,List.zipIdx_nil,List.forIn_cons,List.forIn_nil]
 refine wpAny_bind (wpAny_bind (wpAny_onRaise ?_))
 show wpAny _ _ (Builtin.SmallTypes.nextOf (.ref i1) >>= _) _ _ _
 refine wpAny_bind (wpAny_nextOf_list_item (h1.extBut hs₁.extBut i1z) (hl1.extBut hs₁.extBut l1z) hx fun h₂ h1₂ hs₂=>wpAny_pure ?_)
 have hTO₂:aZ h₂ TO a b c:=hs₂.extBut _ _ i1TO.symm (hs₁.extBut _ _ TOz hTO)
 refine wpAny_bind (wpAny_seqItems hTO₂ rfl ?_)
 refine wpAny_bind (bK hTO₂ fun h₃ hTO₃ hs₃=>?_)
 replace hTO₃:aZ h₃ TO x b c:=hTO₃
 refine wpAny_bind (wpAny_letGo (wpAny_pure ?_))
 refine wpAny_bind (wpAny_bind (wpAny_onRaise ?_))
 show wpAny _ _ (Builtin.SmallTypes.nextOf (.ref i2) >>= _) _ _ _
 refine wpAny_bind (wpAny_nextOf_list_item (((h2.extBut hs₁.extBut i2z).extBut hs₂.extBut i21).extBut hs₃.extBut i2TO)
  (((hl2.extBut hs₁.extBut l2z).extBut hs₂.extBut l2i1).extBut hs₃.extBut l2TO) hy fun h₄ h2₄ hs₄=>wpAny_pure ?_)
 have hTO₄:aZ h₄ TO x b c:=hs₄.extBut _ _ i2TO.symm hTO₃
 refine wpAny_bind (wpAny_seqItems hTO₄ rfl ?_)
 refine wpAny_bind (bK hTO₄ fun h₅ hTO₅ hs₅=>?_)
 replace hTO₅:aZ h₅ TO x y c:=hTO₅
 refine wpAny_bind (wpAny_letGo (wpAny_pure ?_))
 refine wpAny_bind (wpAny_bind (wpAny_onRaise ?_))
 show wpAny _ _ (Builtin.SmallTypes.nextOf (.ref i3) >>= _) _ _ _
 refine wpAny_bind (wpAny_nextOf_list_item (((((h3.extBut hs₁.extBut i3z).extBut hs₂.extBut i31).extBut hs₃.extBut i3TO).extBut hs₄.extBut i32).extBut hs₅.extBut i3TO)
  (((((hl3.extBut hs₁.extBut l3z).extBut hs₂.extBut l3i1).extBut hs₃.extBut l3TO).extBut hs₄.extBut l3i2).extBut hs₅.extBut l3TO) hv fun h₆ h3₆ hs₆=>wpAny_pure ?_)
 have hTO₆:aZ h₆ TO x y c:=hs₆.extBut _ _ i3TO.symm hTO₅
 refine wpAny_bind (wpAny_seqItems hTO₆ rfl ?_)
 refine wpAny_bind (bK hTO₆ fun h₇ hTO₇ hs₇=>?_)
 replace hTO₇:aZ h₇ TO x y v:=hTO₇
 refine wpAny_bind (wpAny_letGo (wpAny_pure (wpAny_pure ?_)))
 refine wpAny_bind (wpAny_seqItems hTO₇ rfl ?_)
 refine wpAny_bind (wpAny_newTuple ?_)
 have hsz:h₇.objs.size=s.heap.objs.size:=by rw[hs₇.1,hs₆.1,hs₅.1,hs₄.1,hs₃.1,hs₂.1,hs₁.1]
 have hz₇:IsZip h₇ z TI TO .ellipsis:=hs₇.extBut _ _ TOz.symm (hs₆.extBut _ _ i3z.symm (hs₅.extBut _ _ TOz.symm (hs₄.extBut _ _ i2z.symm (hs₃.extBut _ _ TOz.symm (hs₂.extBut _ _ i1z.symm hz₁)))))
 have hk₇:∀ c o,c∉[z,TO,i1,i2,i3]->s.heap.get? c=some o->h₇.get? c=some o:=fun c o hc e=>by
  simp only[IL,JJ,or_false,not_or]at hc
  obtain⟨c1,c2,c3,c4,c5⟩:=hc
  exact hs₇.extBut _ _ c2 (hs₆.extBut _ _ c5 (hs₅.extBut _ _ c2 (hs₄.extBut _ _ c4 (hs₃.extBut _ _ c2 (hs₂.extBut _ _ c3 (hs₁.extBut _ _ c1 e))))))
 have h1₇:h₇.IsListIter i1 l1 (k+1):=((((h1₂.extBut hs₃.extBut i1TO).extBut hs₄.extBut i12).extBut hs₅.extBut i1TO).extBut hs₆.extBut i13).extBut hs₇.extBut i1TO
 have h2₇:h₇.IsListIter i2 l2 (k+1):=((h2₄.extBut hs₅.extBut i2TO).extBut hs₆.extBut i23).extBut hs₇.extBut i2TO
 have h3₇:h₇.IsListIter i3 l3 (k+1):=h3₆.extBut hs₇.extBut i3TO
 have hzlt:z<h₇.objs.size:=Heap.lt_size hz₇
 show wpAny _ _ (Builtin.SmallTypes.ownedTupleHandOut (.ref z) (.ref h₇.objs.size) >>= _) _ _ _
 refine wpAny_bind ?_
 unfold Builtin.SmallTypes.ownedTupleHandOut
 have hz₈:IsZip (h₇.push { cls:=.type "tuple",data:=.seq #[x,y,v] }) z TI TO .ellipsis:=Heap.get?_push_of_some _ hz₇
 refine wpAny_bind (wpAny_setField_rec hz₈ (by simp) fun h₉ hz₉ hs₉=>?_)
 replace hz₉:IsZip h₉ z TI TO (rawInt h₇.objs.size):=hz₉
 refine wpAny_setField_rec hz₉ (by simp) fun hA hzA hsA=>?_
 replace hzA:IsZip hA z TI TO (rawInt h₇.objs.size):=hzA
 have up:∀ c o,c≠z->h₇.get? c=some o->hA.get? c=some o:=fun c o c1 e=>hsA.extBut _ _ c1 (hs₉.extBut _ _ c1 (Heap.get?_push_of_some _ e))
 have hTA:aZ hA h₇.objs.size x y v:=hsA.extBut _ _ (JX hzlt) (hs₉.extBut _ _ (JX hzlt) (Heap.get?_push_size _ rfl))
 have hzA2:hA.objs.size=h₇.objs.size+1:=by rw[hsA.1,hs₉.1,Heap.size_push]
 rw[hsz]at hzA hTA hzA2
 refine wpAny_pure ⟨_,rfl,?_⟩
 show Q (.ref h₇.objs.size) _
 rw[hsz]
 exact hQ hA hzA (up _ _ TOz hTO₇) (h1₇.at fun o e=>up _ o i1z e) (h2₇.at fun o e=>up _ o i2z e) (h3₇.at fun o e=>up _ o i3z e) hTA hzA2 fun c o hc e=>up c o (fun z=>hc (by simp[z])) (hk₇ c o hc e)
theorem z3_end{z TI TO i1 i2 i3 l1 l2 l3:Addr}{k:Nat}{xs ys zs:Array Value}{a b c:Value}{Q:Fin->Shared->Prop}(hh:A.handled=none)(D:Z3 z TI TO i1 i2 i3 l1 l2 l3)
  (hz:IsZip s.heap z TI TO .none) (hTI:aZ s.heap TI (.ref i1) (.ref i2) (.ref i3)) (hTO:aZ s.heap TO a b c)
  (h1:s.heap.IsListIter i1 l1 k) (h2:s.heap.IsListIter i2 l2 k) (h3:s.heap.IsListIter i3 l3 k) (hl1:s.heap.IsList l1 xs) (hl2:s.heap.IsList l2 ys) (hl3:s.heap.IsList l3 zs) (hend:xs[k]?=none∨ys[k]?=none∨zs[k]?=none)
  (hE:∀ h' e,(∀ c o,c∉[z,TO,i1,i2,i3]->s.heap.get? c=some o->h'.get? c=some o)->(∃ o,h'.get? e=some o/\o.cls=.type "StopIteration")->E (.ref e) { s with heap:=h' }) :
  wpAny (model prog w) A (Builtin.«zip.__next__» ⟨[.ref z],[]⟩) Q E s:=by
 obtain⟨zs',ts',s1',s2',s3'⟩:=D
 simp only[IL,JJ,or_false,forall_eq_or_imp,forall_eq]at zs' ts' s1' s2' s3'
 obtain⟨TIz,TOz,i1z,i2z,i3z,l1z,l2z,l3z⟩:=zs'
 obtain⟨TITO,i1TO,i2TO,i3TO,l1TO,l2TO,l3TO⟩:=ts'
 obtain⟨TIi1,i21,i31,l1i1,l2i1,l3i1⟩:=s1'
 obtain⟨TIi2,i12,i32,l1i2,l2i2,l3i2⟩:=s2'
 obtain⟨TIi3,i13,i23,l1i3,l2i3,l3i3⟩:=s3'
 have nin:∀ c,c∉[z,TO,i1,i2,i3]->c≠z/\c≠TO/\c≠i1/\c≠i2/\c≠i3:=fun c hc=>by
  simp only[IL,JJ,or_false,not_or]at hc
  exact hc
 show wpAny _ _ (field (.ref z) 2 >>= _) _ _ _
 refine wpAny_bind (wpAny_field hz rfl (x:=.bool false) rfl ?_)
 show wpAny _ _ (field (.ref z) 3 >>= _) _ _ _
 refine wpAny_bind (wpAny_field hz rfl (x:=.ref TI) rfl ?_)
 refine wpAny_bind (wpAny_seqItems hTI rfl ?_)
 show wpAny _ _ (Builtin.SmallTypes.ownedTupleIsFree (.ref z) >>= _) _ _ _
 refine wpAny_bind ?_
 unfold Builtin.SmallTypes.ownedTupleIsFree
 refine wpAny_bind (wpAny_field hz rfl (x:=.none) rfl (wpAny_pure ?_))
 simp only[if_true]
 refine wpAny_bind (wpAny_rule ?_)
 refine wpAny_bind (wpAny_field hz rfl (x:=.ref TO) rfl ?_)
 refine wpAny_bind (wpAny_setField_rec hz (by simp) fun h₁ hz₁ hs₁=>?_)
 replace hz₁:IsZip h₁ z TI TO .ellipsis:=hz₁
 refine wpAny_bind ?_
 simp only[Mm,List.zipIdx_nil,List.forIn_cons,List.forIn_nil]
 refine wpAny_bind (wpAny_bind (wpAny_onRaise ?_))
 show wpAny _ _ (Builtin.SmallTypes.nextOf (.ref i1) >>= _) _ _ _
 cases hx:xs[k]? with
 |none =>
  refine wpAny_bind (wpAny_nextOf_list_end hh (h1.extBut hs₁.extBut i1z) (hl1.extBut hs₁.extBut l1z) hx fun h₂ e hs₂ he=>?_)
  obtain⟨oe,hoe,hce⟩:=he
  have hz₂:IsZip h₂ z TI TO .ellipsis:=hs₂ _ _ i1z.symm hz₁
  have hez:e≠z:=fun x=>by subst x;rw[hz₂]at hoe;cases hoe;simp at hce
  exact wpAny_setField_rec hz₂ (by simp) fun h₃ _ hs₃=>hE h₃ e (fun c o hc x=>have q:=nin c hc;hs₃.extBut _ _ q.1 (hs₂ _ _ q.2.2.1 (hs₁.extBut _ _ q.1 x))) ⟨oe,hs₃.extBut _ _ hez hoe,hce⟩
 |some x =>
  refine wpAny_bind (wpAny_nextOf_list_item (h1.extBut hs₁.extBut i1z) (hl1.extBut hs₁.extBut l1z) hx fun h₂ h1₂ hs₂=>wpAny_pure ?_)
  have hTO₂:aZ h₂ TO a b c:=hs₂.extBut _ _ i1TO.symm (hs₁.extBut _ _ TOz hTO)
  refine wpAny_bind (wpAny_seqItems hTO₂ rfl ?_)
  refine wpAny_bind (bK hTO₂ fun h₃ hTO₃ hs₃=>?_)
  replace hTO₃:aZ h₃ TO x b c:=hTO₃
  refine wpAny_bind (wpAny_letGo (wpAny_pure ?_))
  refine wpAny_bind (wpAny_bind (wpAny_onRaise ?_))
  show wpAny _ _ (Builtin.SmallTypes.nextOf (.ref i2) >>= _) _ _ _
  cases hy:ys[k]? with
  |none =>
   refine wpAny_bind (wpAny_nextOf_list_end hh (((h2.extBut hs₁.extBut i2z).extBut hs₂.extBut i21).extBut hs₃.extBut i2TO)
    (((hl2.extBut hs₁.extBut l2z).extBut hs₂.extBut l2i1).extBut hs₃.extBut l2TO) hy fun h₄ e hs₄ he=>?_)
   obtain⟨oe,hoe,hce⟩:=he
   have hz₄:IsZip h₄ z TI TO .ellipsis:=hs₄ _ _ i2z.symm (hs₃.extBut _ _ TOz.symm (hs₂.extBut _ _ i1z.symm hz₁))
   have hez:e≠z:=fun x=>by subst x;rw[hz₄]at hoe;cases hoe;simp at hce
   exact wpAny_setField_rec hz₄ (by simp) fun h₅ _ hs₅=>hE h₅ e (fun c o hc x=>have q:=nin c hc;hs₅.extBut _ _ q.1 (hs₄ _ _ q.2.2.2.1 (hs₃.extBut _ _ q.2.1 (hs₂.extBut _ _ q.2.2.1 (hs₁.extBut _ _ q.1 x))))) ⟨oe,hs₅.extBut _ _ hez hoe,hce⟩
  |some y =>
   have hv:zs[k]?=none:=by
    rcases hend with h | h | h
    ·rw[hx]at h;cases h
    ·rw[hy]at h;cases h
    ·exact h
   refine wpAny_bind (wpAny_nextOf_list_item (((h2.extBut hs₁.extBut i2z).extBut hs₂.extBut i21).extBut hs₃.extBut i2TO)
    (((hl2.extBut hs₁.extBut l2z).extBut hs₂.extBut l2i1).extBut hs₃.extBut l2TO) hy fun h₄ h2₄ hs₄=>wpAny_pure ?_)
   have hTO₄:aZ h₄ TO x b c:=hs₄.extBut _ _ i2TO.symm hTO₃
   refine wpAny_bind (wpAny_seqItems hTO₄ rfl ?_)
   refine wpAny_bind (bK hTO₄ fun h₅ hTO₅ hs₅=>?_)
   replace hTO₅:aZ h₅ TO x y c:=hTO₅
   refine wpAny_bind (wpAny_letGo (wpAny_pure ?_))
   refine wpAny_bind (wpAny_bind (wpAny_onRaise ?_))
   show wpAny _ _ (Builtin.SmallTypes.nextOf (.ref i3) >>= _) _ _ _
   refine wpAny_bind (wpAny_nextOf_list_end hh (((((h3.extBut hs₁.extBut i3z).extBut hs₂.extBut i31).extBut hs₃.extBut i3TO).extBut hs₄.extBut i32).extBut hs₅.extBut i3TO)
    (((((hl3.extBut hs₁.extBut l3z).extBut hs₂.extBut l3i1).extBut hs₃.extBut l3TO).extBut hs₄.extBut l3i2).extBut hs₅.extBut l3TO) hv fun h₆ e hs₆ he=>?_)
   obtain⟨oe,hoe,hce⟩:=he
   have hz₆:IsZip h₆ z TI TO .ellipsis:=hs₆ _ _ i3z.symm (hs₅.extBut _ _ TOz.symm (hs₄.extBut _ _ i2z.symm (hs₃.extBut _ _ TOz.symm (hs₂.extBut _ _ i1z.symm hz₁))))
   have hez:e≠z:=fun x=>by subst x;rw[hz₆]at hoe;cases hoe;simp at hce
   exact wpAny_setField_rec hz₆ (by simp) fun h₇ _ hs₇=>hE h₇ e (fun c o hc x=>have q:=nin c hc;hs₇.extBut _ _ q.1 (hs₆ _ _ q.2.2.2.2 (hs₅.extBut _ _ q.2.1 (hs₄.extBut _ _ q.2.2.2.1 (hs₃.extBut _ _ q.2.1 (hs₂.extBut _ _ q.2.2.1 (hs₁.extBut _ _ q.1 x))))))) ⟨oe,hs₇.extBut _ _ hez hoe,hce⟩
theorem GG{z TI TO i1 i2 i3 l1 l2 l3:Addr}{k:Nat}{xs ys zs:Array Value}{x y v a b c:Value}{Q:Option Value->Shared->Prop}(D:Z3 z TI TO i1 i2 i3 l1 l2 l3)
  (hz:IsZip s.heap z TI TO .none) (hTI:aZ s.heap TI (.ref i1) (.ref i2) (.ref i3)) (hTO:aZ s.heap TO a b c)
  (h1:s.heap.IsListIter i1 l1 k) (h2:s.heap.IsListIter i2 l2 k) (h3:s.heap.IsListIter i3 l3 k) (hl1:s.heap.IsList l1 xs) (hl2:s.heap.IsList l2 ys) (hl3:s.heap.IsList l3 zs) (hx:xs[k]?=some x) (hy:ys[k]?=some y) (hv:zs[k]?=some v)
  (hQ:∀ h',IsZip h' z TI TO (rawInt s.heap.objs.size)->aZ h' TO x y v->h'.IsListIter i1 l1 (k+1)->h'.IsListIter i2 l2 (k+1)->h'.IsListIter i3 l3 (k+1)->aZ h' s.heap.objs.size x y v->h'.objs.size=s.heap.objs.size+1 ->
   (∀ c o,c∉[z,TO,i1,i2,i3]->s.heap.get? c=some o->h'.get? c=some o)->Q (some (.ref s.heap.objs.size)) { s with heap:=h' }) :
  wpAny (model prog w) A (pyNext (.ref z)) Q E s:=by
 have hT:s.TypeIs (.ref z) "zip":=⟨_,hz,rfl⟩
 unfold pyNext
 exact wpAny_bind (wpAny_attempt (wpAny_callSpecial?_slot (name:=Str.ofString "__next__") hT F.slot_zip_next
  (wpAny_call_entry F.slot_zip_next hT F.entry_zip_next
   (GH D hz hTI hTO h1 h2 h3 hl1 hl2 hl3 hx hy hv fun h' a1 a2 a3 a4 a5 a6 a7 a8=>wpAny_pure (hQ h' a1 a2 a3 a4 a5 a6 a7 a8)) (F.args_zip_next_1 _))))
theorem GJ{z TI TO i1 i2 i3 l1 l2 l3:Addr}{k:Nat}{xs ys zs:Array Value}{a b c:Value}{Q:Option Value->Shared->Prop}(hh:A.handled=none)(D:Z3 z TI TO i1 i2 i3 l1 l2 l3)
  (hz:IsZip s.heap z TI TO .none) (hTI:aZ s.heap TI (.ref i1) (.ref i2) (.ref i3)) (hTO:aZ s.heap TO a b c)
  (h1:s.heap.IsListIter i1 l1 k) (h2:s.heap.IsListIter i2 l2 k) (h3:s.heap.IsListIter i3 l3 k) (hl1:s.heap.IsList l1 xs) (hl2:s.heap.IsList l2 ys) (hl3:s.heap.IsList l3 zs) (hend:xs[k]?=none∨ys[k]?=none∨zs[k]?=none)
  (hQ:∀ h',(∀ c o,c∉[z,TO,i1,i2,i3]->s.heap.get? c=some o->h'.get? c=some o)->Q none { s with heap:=h' }):wpAny (model prog w) A (pyNext (.ref z)) Q E s:=by
 have hT:s.TypeIs (.ref z) "zip":=⟨_,hz,rfl⟩
 unfold pyNext
 refine wpAny_bind (wpAny_attempt (wpAny_callSpecial?_slot (name:=Str.ofString "__next__") hT F.slot_zip_next
  (wpAny_call_entry F.slot_zip_next hT F.entry_zip_next (z3_end hh D hz hTI hTO h1 h2 h3 hl1 hl2 hl3 hend fun h' e hk he=>?_) (F.args_zip_next_1 _))))
 obtain⟨o,ho,hc⟩:=he
 refine wpAny_bind (wpAny_isInstance (T:="StopIteration") (b:=true) ⟨o,ho,hc⟩ isSubtype_stop ?_)
 exact wpAny_pure (hQ _ hk)
end
theorem oX(a b c:Value):checkTypeCall "zip" ⟨[a,b,c],[]⟩=pure ():=by kernel_rfl
theorem rF(a b c:Value):checkBuiltinCall "zip.__new__" ⟨[.type "zip",a,b,c],[]⟩=pure ():=by kernel_rfl
theorem zf(a b c d:Value):argsOk "object.__init__" ⟨[a,b,c,d],[]⟩:=by
 unfold argsOk;rw[signature?_of (id:="object.__init__") (n:=['_','_','t','i','n','i','_','_']) (o:=['t','c','e','j','b','o']) (by kernel_rfl) PySem.F.owner_object];kernel_rfl
abbrev li3(l:Addr):Obj:={ cls:=.type "list_iterator",data:=.fields #[.ref l,.int 0 0] }
abbrev z3H3(h:Heap)(l1 l2 l3:Addr):Heap:=((h.push (li3 l1)).push (li3 l2)).push (li3 l3)
abbrev z3H4(h:Heap)(l1 l2 l3:Addr):Heap:=(z3H3 h l1 l2 l3).push { cls:=.type "tuple",data:=.seq #[.ref h.objs.size,.ref (h.push (li3 l1)).objs.size,.ref ((h.push (li3 l1)).push (li3 l2)).objs.size] }
abbrev z3H5(h:Heap)(l1 l2 l3:Addr):Heap:=(z3H4 h l1 l2 l3).push { cls:=.type "tuple",data:=.seq #[.none,.none,.none] }
abbrev z3H6(h:Heap)(l1 l2 l3:Addr):Heap:=(z3H5 h l1 l2 l3).push { cls:=.type "zip",data:=.fields #[.none,.bool false,.bool false,.ref (z3H3 h l1 l2 l3).objs.size,.ref (z3H4 h l1 l2 l3).objs.size] }
theorem AN(l1 l2 l3:Addr)(xs ys zs:Array Value) :
  Meets (Builtin.«zip.__new__» ⟨[.type "zip",.ref l1,.ref l2,.ref l3],[]⟩) (fun _ R s=>s.heap.IsList l1 xs/\s.heap.IsList l2 ys/\s.heap.IsList l3 zs /\
   R (.ok (.ret (.ref (z3H5 s.heap l1 l2 l3).objs.size))) { s with heap:=z3H6 s.heap l1 l2 l3 }) :=
 .of_wp fun prog w A R s h=>by
  obtain⟨hp,g,d,tk,os⟩:=s;obtain⟨hl1,hl2,hl3,h⟩:=h
  have hsub:=sub_zip
  have hL1:Heap.IsList (Shared.heap ⟨hp,g,d,tk,os⟩) l1 xs:=hl1
  have hL2:Heap.IsList (Shared.heap ⟨hp.push { cls:=.type "list_iterator",data:=.fields #[.ref l1,.int 0 0] },g,d,tk,os⟩) l2 ys:=Heap.IsList.push hl2 _
  have hL3:Heap.IsList (Shared.heap ⟨(hp.push { cls:=.type "list_iterator",data:=.fields #[.ref l1,.int 0 0] }).push { cls:=.type "list_iterator",data:=.fields #[.ref l2,.int 0 0] },g,d,tk,os⟩) l3 zs:=Heap.IsList.push (Heap.IsList.push hl3 _) _
  wp_walk using wpAny_pyIter_list hL1,wpAny_pyIter_list hL2,wpAny_pyIter_list hL3
  exact⟨_,rfl,h⟩
theorem Ek{prog:Program}{w:World}{A:Around}{E:Value->Shared->Prop}{s:Shared}{l1 l2 l3:Addr}{xs ys zs:Array Value}{Q:Value->Shared->Prop}(hl1:s.heap.IsList l1 xs)(hl2:s.heap.IsList l2 ys)(hl3:s.heap.IsList l3 zs)
  (h:∀ h',IsZip h' (s.heap.objs.size+5) (s.heap.objs.size+3) (s.heap.objs.size+4) .none->aZ h' (s.heap.objs.size+3) (.ref s.heap.objs.size) (.ref (s.heap.objs.size+1)) (.ref (s.heap.objs.size+2)) ->
   aZ h' (s.heap.objs.size+4) .none .none .none->h'.IsListIter s.heap.objs.size l1 0->h'.IsListIter (s.heap.objs.size+1) l2 0->h'.IsListIter (s.heap.objs.size+2) l3 0 ->
   (∀ c o,s.heap.get? c=some o->h'.get? c=some o)->Q (.ref (s.heap.objs.size+5)) { s with heap:=h' }) :
  wpAny (model prog w) A (call (.type "zip") [.ref l1,.ref l2,.ref l3]) Q E s:=by
 refine callType_new PySem.F.called_zip (by decide) (oX _ _ _) (rF _ _ _) (fun obj=>zf obj _ _ _) PySem.F.entry_zip_new
  (AN l1 l2 l3 xs ys zs) ⟨hl1,hl2,hl3,?_⟩
 have z1:(s.heap.push (li3 l1)).objs.size=s.heap.objs.size+1:=Heap.size_push ..
 have z2:((s.heap.push (li3 l1)).push (li3 l2)).objs.size=s.heap.objs.size+2:=by rw[Heap.size_push,z1]
 have z3:(z3H3 s.heap l1 l2 l3).objs.size=s.heap.objs.size+3:=by rw[Heap.size_push,z2]
 have z4:(z3H4 s.heap l1 l2 l3).objs.size=s.heap.objs.size+4:=by rw[Heap.size_push,z3]
 have z5:(z3H5 s.heap l1 l2 l3).objs.size=s.heap.objs.size+5:=by rw[Heap.size_push,z4]
 have g6:(z3H6 s.heap l1 l2 l3).get? (z3H5 s.heap l1 l2 l3).objs.size=some _:=Heap.get?_push_size _ rfl
 have g5:(z3H6 s.heap l1 l2 l3).get? (z3H4 s.heap l1 l2 l3).objs.size=some _:=Heap.get?_push_of_some _ (Heap.get?_push_size _ rfl)
 have g4:(z3H6 s.heap l1 l2 l3).get? (z3H3 s.heap l1 l2 l3).objs.size=some _:=Heap.get?_push_of_some _ (Heap.get?_push_of_some _ (Heap.get?_push_size _ rfl))
 have g3:(z3H6 s.heap l1 l2 l3).get? ((s.heap.push (li3 l1)).push (li3 l2)).objs.size=some _:=Heap.get?_push_of_some _ (Heap.get?_push_of_some _ (Heap.get?_push_of_some _ (Heap.get?_push_size _ rfl)))
 have g2:(z3H6 s.heap l1 l2 l3).get? (s.heap.push (li3 l1)).objs.size=some _:=Heap.get?_push_of_some _ (Heap.get?_push_of_some _ (Heap.get?_push_of_some _ (Heap.get?_push_of_some _ (Heap.get?_push_size _ rfl))))
 have g1:(z3H6 s.heap l1 l2 l3).get? s.heap.objs.size=some _:=Heap.get?_push_of_some _ (Heap.get?_push_of_some _ (Heap.get?_push_of_some _ (Heap.get?_push_of_some _ (Heap.get?_push_of_some _ (Heap.get?_push_size _ rfl)))))
 show _/\_
 rw[z3,z4,z5]at g6
 rw[z4]at g5
 rw[z3,z1,z2]at g4
 rw[z2]at g3
 rw[z1]at g2
 rw[z5]
 exact⟨⟨_,g6,rfl⟩,h _ g6 g4 g5 ⟨_,g1,rfl,rfl⟩ ⟨_,g2,rfl,rfl⟩ ⟨_,g3,rfl,rfl⟩ fun c o x =>
  Heap.get?_push_of_some _ (Heap.get?_push_of_some _ (Heap.get?_push_of_some _ (Heap.get?_push_of_some _ (Heap.get?_push_of_some _ (Heap.get?_push_of_some _ x)))))⟩
def Itz3(K:IC)(a b c:Addr):It :=
 ⟨fun i H=>∃ xs ys zs x y z,SqL K H a xs/\SqL K H b ys/\SqL K H c zs/\xs[i]?=some x/\ys[i]?=some y/\zs[i]?=some z,
  fun i H v H'=>∃ T x y z,H T=none/\v=.ref T/\H'=upd H T (.tup [x,y,z])/\(∀ xs,SqL K H a xs->xs[i]?=some x)/\(∀ ys,SqL K H b ys->ys[i]?=some y)/\∀ zs,SqL K H c zs->zs[i]?=some z,
  fun i H=>∃ xs ys zs,SqL K H a xs/\SqL K H b ys/\SqL K H c zs/\(xs.length<=i∨ys.length<=i∨zs.length<=i)⟩
theorem BM{P:Program}{w:World}{K:IC}{es:List Expr}{k:Nat}{pos:Pos}(a b c z TI TO i1 i2 i3:Addr)(D:Z3 z TI TO i1 i2 i3 a b c):Turn P w K (.Tuple es k pos) (Itz3 K a b c) [z,TI,TO,i1,i2,i3] z
  (fun i h=>IsZip h z TI TO .none/\aZ h TI (.ref i1) (.ref i2) (.ref i3)/\(∃ u v w,aZ h TO u v w)/\h.IsListIter i1 a i/\h.IsListIter i2 b i/\h.IsListIter i3 c i) where
 mem:=by simp
 obj:=fun i h st d hd=>by
  obtain⟨kz,kI,⟨u,v,w,kO⟩,⟨o1,q1,c1,d1⟩,⟨o2,q2,c2,d2⟩,⟨o3,q3,c3,d3⟩⟩:=st
  simp only[IL,JJ,or_false]at hd
  rcases hd with rfl | rfl | rfl | rfl | rfl | rfl
  ·exact⟨_,kz,fun v z=>by have z':Data.fields _=Data.cell v:=z;cases z'⟩
  ·exact⟨_,kI,fun v z=>by have z':Data.seq _ _=Data.cell v:=z;cases z'⟩
  ·exact⟨_,kO,fun v z=>by have z':Data.seq _ _=Data.cell v:=z;cases z'⟩
  ·exact⟨o1,q1,fun v z=>by rw[d1]at z;cases z⟩
  ·exact⟨o2,q2,fun v z=>by rw[d2]at z;cases z⟩
  ·exact⟨o3,q3,fun v z=>by rw[d3]at z;cases z⟩
 keep:=fun i h h' st kk=>by
  obtain⟨kz,kI,⟨u,v,w,kO⟩,k1,k2,k3⟩:=st
  exact⟨kk _ (by simp) _ kz,kk _ (by simp) _ kI,⟨u,v,w,kk _ (by simp) _ kO⟩,k1.at fun o q=>kk i1 (by simp) o q,k2.at fun o q=>kk i2 (by simp) o q,k3.at fun o q=>kk i3 (by simp) o q⟩
 item:=by
  intro X hP hw hK hc i pins s σ H E I hf st hg
  subst hP hw hK
  obtain⟨xs,ys,zs,x,y,t,hq,hr,ht,hx,hy,hv⟩:=hg
  obtain⟨its,rv,p,hz⟩:=I.list hq
  obtain⟨its2,rv2,p2,hz2⟩:=I.list hr
  obtain⟨its3,rv3,p3,hz3⟩:=I.list ht
  obtain⟨u,hu,ru⟩:=rv.get hx
  obtain⟨u2,hu2,ru2⟩:=rv2.get hy
  obtain⟨u3,hu3,ru3⟩:=rv3.get hv
  obtain⟨kz,kI,⟨o1,o2,o3,kO⟩,k1,k2,k3⟩:=st
  refine GG D kz kI kO k1 k2 k3 p.isList p2.isList p3.isList (x:=u) (y:=u2) (v:=u3) (by simpa using hu) (by simpa using hu2) (by simpa using hu3) fun h' a1 a2 a3 a4 a5 a6 a7 hk=>?_
  refine⟨_,rfl,?_⟩
  refine wpAny_letOwnedTupleGo_zip a1 fun h2 g1 hs2=>?_
  have hs2':Heap.SameBut z h' h2:=hs2
  have hfb:∀ d∈[z,TI,TO,i1,i2,i3],d<s.heap.objs.size:=fun d hd=>by
   simp only[IL,JJ,or_false]at hd
   rcases hd with rfl | rfl | rfl | rfl | rfl | rfl
   ·exact Heap.lt_size kz
   ·exact Heap.lt_size kI
   ·exact Heap.lt_size kO
   ·obtain⟨_,q,_⟩:=k1;exact Heap.lt_size q
   ·obtain⟨_,q,_⟩:=k2;exact Heap.lt_size q
   ·obtain⟨_,q,_⟩:=k3;exact Heap.lt_size q
  have hfr:H s.heap.objs.size=none:=I.hok.fresh (IG _)
  have I0:Inv X pins σ (upd H s.heap.objs.size (.tup [x,y,t])) { s with heap:=s.heap.push { cls:=.type "tuple",data:=.seq #[u,u2,u3] },toks:=s.toks } :=
   I.laid (t':=s.toks) (fun b u e=>Heap.get?_push_of_some _ e) (IG _) ⟨by show 3<=sizeLine;decide,[u,u2,u3],.cons ru (.cons ru2 (.cons ru3 .nil)),⟨_,Heap.get?_push_size _ rfl,rfl,_,rfl⟩⟩
  have hn:∀ d∈[z,TI,TO,i1,i2,i3],upd H s.heap.objs.size (.tup [x,y,t]) d=none:=fun d hd=>by
   rw[ai (Jf (hfb d hd))]
   exact(hf d hd).1
  have sub5:∀ d,d∉[z,TI,TO,i1,i2,i3]->d∉[z,TO,i1,i2,i3]:=fun d hd q=>hd (by
   simp only[IL,JJ,or_false]at q ⊢
   rcases q with q | q | q | q | q<;>simp[q])
  have I2:Inv X pins σ (upd H s.heap.objs.size (.tup [x,y,t])) { s with heap:=h2,toks:=s.toks }:=Inv.turnedL (s:={ s with heap:=s.heap.push { cls:=.type "tuple",data:=.seq #[u,u2,u3] },toks:=s.toks }) (h':=h2) I0 (t':=s.toks) (fp:=[z,TI,TO,i1,i2,i3]) (fun d o hd q=>by
   have n1:d≠z:=fun e=>hd (by simp[e])
   refine(hs2'.2 d n1).trans ?_
   rcases Heap.get?_push_cases q with⟨z1,z2⟩ | q
   ·rw[z1,z2];exact a6
   ·exact hk d o (sub5 d hd) q) fun d hd=>⟨hn d hd,(hf d hd).2⟩
  have TIn:TI∉[z,TO,i1,i2,i3]:=by
   simp only[IL,JJ,or_false,not_or]
   exact⟨D.zs _ (by simp),D.ts _ (by simp),D.is1 _ (by simp),D.is2 _ (by simp),D.is3 _ (by simp)⟩
  refine⟨.ref s.heap.objs.size,_,I2,rfl,⟨s.heap.objs.size,x,y,t,hfr,rfl,rfl,fun zs h=>by rw[I.list_inj h hq];exact hx,fun zs h=>by rw[I.list_inj h hr];exact hy,fun zs h=>by rw[I.list_inj h ht];exact hv⟩,?_,hn⟩
  refine⟨g1,(hs2'.2 TI (D.zs _ (by simp))).trans (hk _ _ TIn kI),⟨_,_,_,(hs2'.2 TO (D.zs _ (by simp))).trans a2⟩,a3.at fun o q=>(hs2'.2 i1 (D.zs _ (by simp))).trans q,a4.at fun o q=>(hs2'.2 i2 (D.zs _ (by simp))).trans q,a5.at fun o q=>(hs2'.2 i3 (D.zs _ (by simp))).trans q⟩
 done:=by
  intro X hP hw hK hc i pins s σ H E I hf st hg
  subst hP hw hK
  obtain⟨xs,ys,zs,hq,hr,ht,hx⟩:=hg
  obtain⟨its,rv,p,hz⟩:=I.list hq
  obtain⟨its2,rv2,p2,hz2⟩:=I.list hr
  obtain⟨its3,rv3,p3,hz3⟩:=I.list ht
  obtain⟨kz,kI,⟨o1,o2,o3,kO⟩,k1,k2,k3⟩:=st
  have hl:=rv.length
  have hl2:=rv2.length
  have hl3:=rv3.length
  refine GJ (I.ok.hd hc) D kz kI kO k1 k2 k3 p.isList p2.isList p3.isList ?_ fun h' eb=>⟨rfl,Inv.turnedL I (t':=s.toks) (fun d o hd e=>eb d o (fun q=>hd (by
   simp only[IL,JJ,or_false]at q ⊢
   rcases q with q | q | q | q | q<;>simp[q])) e) hf⟩
  rcases hx with hx | hx | hx
  ·exact .inl (by simp;omega)
  ·exact .inr (.inl (by simp;omega))
  ·exact .inr (.inr (by simp;omega))
 self:=fun _ _ _ _ _ st h=>wpAny_pyIter_zip st.1 h
theorem EB(n a b c:Nat)(ha:a<n)(hb:b<n)(hc:c<n):Z3 (n+5) (n+3) (n+4) n (n+1) (n+2) a b c:=by
 refine⟨?_,?_,?_,?_,?_⟩<;>(simp only[IL,JJ,or_false,forall_eq_or_imp,forall_eq])
 ·exact⟨aN _ _ (by omega),aN _ _ (by omega),aN _ _ (by omega),aN _ _ (by omega),aN _ _ (by omega),aN _ _ (by omega),aN _ _ (by omega),aN _ _ (by omega)⟩
 ·exact⟨aN _ _ (by omega),aN _ _ (by omega),aN _ _ (by omega),aN _ _ (by omega),aN _ _ (by omega),aN _ _ (by omega),aN _ _ (by omega)⟩
 ·exact⟨aN _ _ (by omega),aN _ _ (by omega),aN _ _ (by omega),aN _ _ (by omega),aN _ _ (by omega),aN _ _ (by omega)⟩
 ·exact⟨aN _ _ (by omega),aN _ _ (by omega),aN _ _ (by omega),aN _ _ (by omega),aN _ _ (by omega),aN _ _ (by omega)⟩
 ·exact⟨aN _ _ (by omega),aN _ _ (by omega),aN _ _ (by omega),aN _ _ (by omega),aN _ _ (by omega),aN _ _ (by omega)⟩
theorem vals3{a b c:V}{us:List Value}(h:Vals [a,b,c] us):∃ u v w,us = [u,v,w]/\RelV a u/\RelV b v/\RelV c w:=by
 cases h with
 |cons r1 t=>cases t with
  |cons r2 t=>cases t with
   |cons r3 t=>cases t;exact⟨_,_,_,rfl,r1,r2,r3⟩
section
variable{X:Cx}
def iZip3(K:IC)(ta:TA):TI:=fun σ H R=>ta σ H fun vs H1=>∃ a b c,vs = [.ref a,.ref b,.ref c]/\(∃ xs,SqL K H1 a xs)/\(∃ ys,SqL K H1 b ys)/\(∃ zs,SqL K H1 c zs)/\R (Itz3 K a b c) H1
theorem Hk{l1 l2 l3:Expr}{ta:TA}{es:List Expr}{k:Nat}{tp p pos:Pos} (hg:Gl X "zip") (hm:X.mg "zip" = none) (ha:PA X [l1,l2,l3] ta) (hs:starEach [l1,l2,l3] X.env=(false,eval l1 X.env)::starEach [l2,l3] X.env:=by rfl) (hs2:(backTo pos (starEach [l2,l3] X.env)).any (·.1)=false:=by rfl) :
  PI X (.Tuple es k tp) (.Call (.Name "zip" p) [l1,l2,l3] [] pos) (iZip3 X.K ta):=by
 intro pins s σ H R I h
 refine Call_ (jL I hg hm bt_zip (PyProof.Rows.callWith_type1 (thn (ha pos pins s σ H _ I h) fun us s1 ⟨vs,H1,I1,r1,q1⟩=>?_) hs hs2))
 obtain⟨a,b,c,e,⟨xs,hq⟩,⟨ys,hr⟩,⟨zs,ht⟩,q⟩:=q1
 subst e
 obtain⟨u,u2,u3,rfl,ru,ru2,ru3⟩:=vals3 r1
 cases ru
 cases ru2
 cases ru3
 obtain⟨its,rv,p,hz⟩:=I1.list hq
 obtain⟨its2,rv2,p2,hz2⟩:=I1.list hr
 obtain⟨its3,rv3,p3,hz3⟩:=I1.list ht
 have la:a<s1.heap.objs.size:=by obtain⟨_,_,q,_⟩:=p;exact Heap.lt_size q
 have lb:b<s1.heap.objs.size:=by obtain⟨_,_,q,_⟩:=p2;exact Heap.lt_size q
 have lc:c<s1.heap.objs.size:=by obtain⟨_,_,q,_⟩:=p3;exact Heap.lt_size q
 refine Ek p.isList p2.isList p3.isList fun h' kz kI kO k1 k2 k3 hk=>?_
 refine wpAny_pyIter_zip kz ?_
 refine⟨s1.heap.objs.size+5,[s1.heap.objs.size+5,s1.heap.objs.size+3,s1.heap.objs.size+4,s1.heap.objs.size,s1.heap.objs.size+1,s1.heap.objs.size+2],_,_,H1,rfl,I1.kept (t':=s1.toks) hk,
  BM a b c (s1.heap.objs.size+5) (s1.heap.objs.size+3) (s1.heap.objs.size+4) s1.heap.objs.size (s1.heap.objs.size+1) (s1.heap.objs.size+2) (EB _ a b c la lb lc),⟨kz,kI,⟨_,_,_,kO⟩,k1,k2,k3⟩,fun d hd=>?_,q⟩
 have hb':s1.heap.objs.size<=d:=by
  simp only[IL,JJ,or_false]at hd
  rcases hd with rfl | rfl | rfl | rfl | rfl | rfl
  ·exact Ln _ _
  ·exact Ln _ _
  ·exact Ln _ _
  ·exact IG _
  ·exact Ln _ _
  ·exact Ln _ _
 exact I1.fpOk hb' (I1.hok.fresh hb')
end
theorem FA{K:IC}{a b c:Addr}{xs ys zs:List V}{g:TG}{tb:TS}{D:Ends}{σ:St}{H:Hp}(n:Nat)(Pv:Nat->St->Hp->Prop)(h0:Pv 0 σ H)(h1:n<=xs.length)(h2:n<=ys.length)(h3:zs.length=n)(hl:∀ i σ H,i<=n->Pv i σ H->SqL K H a xs/\SqL K H b ys/\SqL K H c zs)
  (hs:∀ i x y z σ H T,xs[i]?=some x->ys[i]?=some y->zs[i]?=some z->Pv i σ H->H T=none->g (.ref T) σ (upd H T (.tup [x,y,z])) fun σ2 H2=>tb { D with nx:=Pv (i+1),ct:=Pv (i+1),bk:=D.nx } σ2 H2) (hd:∀ σ H,Pv n σ H->D.nx σ H) :
  ∃ W:Nat->Nat->St->Hp->Prop,(∃ m,W 0 m σ H)/\∀ i m σ H,W i m σ H ->
   ((Itz3 K a b c).stop i H/\D.nx σ H)∨((Itz3 K a b c).go i H/\∃ N:St->Hp->Prop,(∀ σ' H',N σ' H'->∃ m',m'<m/\W (i+1) m' σ' H')/\∀ x H',(Itz3 K a b c).yld i H x H'->g x σ H' fun σ2 H2=>tb { D with nx:=N,ct:=N,bk:=D.nx } σ2 H2):=by
 refine⟨fun i m σ H=>m=n-i/\i<=n/\Pv i σ H,⟨n,by simp,JL _,h0⟩,?_⟩
 rintro i m σ H ⟨rfl,hi,p⟩
 obtain⟨q1,q2,q3⟩:=hl i σ H hi p
 by_cases hlt:i<n
 ·have l1:i<xs.length:=by omega
  have l2:i<ys.length:=by omega
  have l3:i<zs.length:=by omega
  refine .inr ⟨⟨xs,ys,zs,xs[i],ys[i],zs[i],q1,q2,q3,by simp[l1],by simp[l2],by simp[l3]⟩,Pv (i+1),fun σ' H' p'=>⟨n-(i+1),by omega,rfl,hlt,p'⟩,fun v H' y=>?_⟩
  obtain⟨T,x,y,z,hT,rfl,rfl,y1,y2,y3⟩:=y
  exact hs i x y z σ _ T (y1 xs q1) (y2 ys q2) (y3 zs q3) p hT
 ·have e:i=n:=by omega
  subst e
  exact .inl ⟨⟨xs,ys,zs,q1,q2,q3,.inr (.inr (by omega))⟩,hd σ H p⟩
end L2
namespace PyProof.RowsP
open PySem PyProof.Rows
local macro_rules | `(tactic| walk_at "gallop") => do
 let n:=Lean.mkIdent (Lean.mkPrivateNameCore `PySem.Builtin.List.W1All `PySem.Builtin.gallop)
 `(tactic| delta $n)
local macro_rules | `(tactic| walk_at "st") => `(tactic| try dsimp -zeta -zetaHave only)
local macro_rules | `(tactic| walk_at "l4") => `(tactic| (extract_lets -underBinder +onlyGivenNames a b; subst a b))
abbrev DL:Bool->Keyed->Array Keyed->Nat->Nat->Nat->StateT SortSt Sem (Option Nat):=sortPriv% PySem.Builtin.gallop
class KeyFn where
 kf:Value->Int
 ip:Value->Prop
 kd:SortKind
def IntP [KF:KeyFn] (p:Keyed):Prop:=KeyFn.ip p.1
def ky [KF:KeyFn] (p:Keyed):Int:=KeyFn.kf p.1
def K [KF:KeyFn] (xs:Array Keyed) (i:Nat):Int:=match xs[i]? with | some p=>ky p | none=>0
def g7 [KF:KeyFn] (xs:Array Keyed):Prop:=∀ p,p∈xs.toList->IntP p
theorem oP [KF:KeyFn] {xs ys:Array Keyed} {i j:Nat} (h:xs[i]?=ys[j]?):K xs i=K ys j:=by unfold K;rw[h]
theorem K_eq [KF:KeyFn] {xs:Array Keyed} {i:Nat} (hi:i<xs.size):K xs i=ky xs[i]:=by unfold K;rw[getElem?_pos xs i hi]
theorem FQ [KF:KeyFn] {xs:Array Keyed} {i j:Nat} (hj:j<=xs.size) (k:Nat):K (mirror xs i j ((j-i)/2)) k=if i<=k/\k<j then K xs (i+j-1-k) else K xs k:=by
 have e:=getElem?_mirror_all (i:=i) hj k
 by_cases h1:i<=k/\k<j
 ·rw[if_pos h1]at e ⊢;exact oP e
 ·rw[if_neg h1]at e ⊢;exact oP e
theorem Ao [KF:KeyFn] {xs:Array Keyed} {src d:Nat} (hs:src<xs.size) (hd:d<=src) (k:Nat):K (bubble xs src d) k=if k=src-d then K xs src else if src-d<k/\k<=src then K xs (k-1) else K xs k:=by
 have e:=getElem?_bubble hs d hd k
 by_cases h1:k=src-d
 ·rw[if_pos h1]at e ⊢;exact oP e
 ·rw[if_neg h1]at e ⊢
  by_cases h2:src-d<k/\k<=src
  ·rw[if_pos h2]at e ⊢;exact oP e
  ·rw[if_neg h2]at e ⊢;exact oP e
class LtOk (prog:Program) (w:World) (A:Around) (E:Value->Shared->Prop) (s:Shared) [KF:KeyFn]:Prop where
 lt:∀{st:SortSt}{x y:Keyed}{Q:Option Bool->SortSt->Prop},kindOf st=KeyFn.kd->IntP x->IntP y->Q (some (decide (ky x<ky y))) st->wpS (model prog w) A E s ((sortPriv% PySem.Builtin.lt) x y) Q st
theorem aE{σ α:Type}{M:Model}{A:Around}{E:Value->Shared->Prop}{s:Shared}{c:Prop} [Decidable c] {a b:StateT σ Sem α} {Q:α->σ->Prop} {st:σ} (h:c) (q:wpS M A E s a Q st):wpS M A E s (if c then a else b) Q st:=by rw[if_pos h];exact q
theorem aD{σ α:Type}{M:Model}{A:Around}{E:Value->Shared->Prop}{s:Shared}{c:Prop} [Decidable c] {a b:StateT σ Sem α} {Q:α->σ->Prop} {st:σ} (h:¬ c) (q:wpS M A E s b Q st):wpS M A E s (if c then a else b) Q st:=by rw[if_neg h];exact q
variable{prog:Program}{w:World}{A:Around}{E:Value->Shared->Prop}{s:Shared} [KF:KeyFn] [LO:LtOk prog w A E s]
theorem m6{st:SortSt}{x y:Keyed}{Q:Option Bool->SortSt->Prop}(hk:kindOf st=KeyFn.kd)(hx:IntP x)(hy:IntP y)(h:Q (some (decide (ky x<ky y))) st):wpS (model prog w) A E s ((sortPriv% PySem.Builtin.lt) x y) Q st:=LtOk.lt hk hx hy h
theorem aF{st:SortSt}{arr:Array Keyed}{i:Nat}{p:Keyed}{Q:Keyed->SortSt->Prop}(hi:arr[i]?=some p)(h:Q p st):wpS (model prog w) A E s ((sortPriv% PySem.Builtin.elem) arr i) Q st:=by
 show wpS (model prog w) A E s (elem' arr i) Q st
 rw[elem'_eq,hi]
 exact wpS_pure h
theorem hJ{st:SortSt}{left:Bool}{key:Keyed}{arr:Array Keyed}{base n hint:Nat}{Q:Option Nat->SortSt->Prop}(f:Nat->Bool)(hk:kindOf st=KeyFn.kd)(hkey:IntP key)(hin:∀ i,i<n->∃ p,arr[base+i]?=some p/\IntP p/\f i=if left then decide (ky p<ky key) else !decide (ky key<ky p))
  (mono:∀ i j,i<=j->j<n->f j=true->f i=true) (hh:hint<n) (h:∀ k,k<=n->(∀ i,i<k->f i=true)->(∀ i,k<=i->i<n->f i=false)->Q (some k) st) :
  wpS (model prog w) A E s (DL left key arr base n hint) Q st:=by
 unfold DL
 walk_at "gallop"
 extract_lets -underBinder +onlyGivenNames beyond
 clear_value (eb:beyond=_)
 have hb:∀(i:Nat)(Q':Option Bool->SortSt->Prop),i<n->Q' (some (f i)) st->wpS (model prog w) A E s (beyond i) Q' st:=by
  intro i Q' hi q
  obtain⟨p,hp,ip,ef⟩:=hin i hi
  rw[eb]
  refine wpS_bind (aF hp ?_)
  rw[ef]at q
  cases left with
  |true=>exact m6 hk ip hkey q
  |false=>exact wpS_bind (m6 hk hkey ip (wpS_pure q))
 clear eb
 walk_at "l4"
 refine wpS_bind (hb hint _ hh ?_)
 walk_at "st"
 have nmono:∀ i j,i<=j->j<n->f i=false->f j=false:=fun i j hij hj e=>by
  cases z:f j with
  |false=>rfl
  |true=>rw[mono i j hij hj z]at e;cases e
 extract_lets -underBinder +onlyGivenNames jp
 clear_value (ej:jp=_)
 have hj:∀(u:Unit)(a0 a1 lo hi:Nat),lo<=hi->hi<=n->(∀ i,i<lo->f i=true)->(∀ i,hi<=i->i<n->f i=false)->wpS (model prog w) A E s (jp u a0 a1 lo hi) Q st:=by
  intro u a0 a1 lo hi h1 h2 h3 h4
  rw[ej]
  dsimp only
  refine wpS_bind (wpS_mono (wpS_forRange (I:=fun x c st'=>st'=st/\∃ l r,c=(none,l,r)/\l<=r/\r<=n/\r-l<=n-x/\(∀ i,i<l->f i=true)/\(∀ i,r<=i->i<n->f i=false))
   (Q:=fun c st'=>st'=st/\∃ l,c=(none,l,l)/\l<=n/\(∀ i,i<l->f i=true)/\(∀ i,l<=i->i<n->f i=false)) ?step ?fin ⟨rfl,lo,hi,rfl,h1,h2,by omega,h3,h4⟩) ?post)
  case post =>
   rintro c st' ⟨rfl,l,rfl,g1,g2,g3⟩
   exact wpS_pure (h l g1 g2 g3)
  case fin =>
   rintro c st' ⟨rfl,l,r,rfl,g1,g2,g3,g4,g5⟩
   have:l=r:=by omega
   subst this
   exact⟨rfl,l,rfl,g2,g4,g5⟩
  case step =>
   rintro x c st' _ hx ⟨rfl,l,r,rfl,g1,g2,g3,g4,g5⟩
   dsimp only
   by_cases z:l ≥ r
   ·refine aE z ?_
    have:l=r:=by omega
    subst this
    exact wpS_pure ⟨rfl,l,rfl,g2,g4,g5⟩
   ·refine aD z ?_
    refine wpS_bind (hb _ _ (by omega) ?_)
    cases e:f (l+(r-l)/2) with
    |true=>exact wpS_pure ⟨rfl,_,r,rfl,by omega,g2,by omega,fun i hi=>mono i _ (by omega) (by omega) e,g5⟩
    |false=>exact wpS_pure ⟨rfl,l,_,rfl,by omega,by omega,by omega,g4,fun i h1 h2=>nmono _ i h1 h2 e⟩
 clear ej
 cases er:f hint with
 |true =>
  refine aE rfl ?_
  dsimp only
  refine wpS_bind (wpS_mono (wpS_forRange (I:=fun x c st'=>st'=st/\∃ l o,c=(none,l,o)/\l<o/\x+1<=o/\hint+l<n/\f (hint+l)=true)
   (Q:=fun c st'=>st'=st/\∃ l o,c=(none,l,o)/\l<o/\hint+l<n/\f (hint+l)=true/\(n-hint<=o∨f (hint+o)=false)) ?step ?fin ⟨rfl,0,1,rfl,by omega,by omega,by omega,er⟩) ?post)
  case post =>
   rintro c st' ⟨rfl,l,o,rfl,g1,g2,g3,g4⟩
   dsimp only
   refine hj _ _ _ _ _ (by omega) (by omega) (fun i hi=>mono i _ (by omega) g2 g3) fun i h1 h2=>?_
   rcases g4 with g4 | g4
   ·omega
   ·exact nmono (hint+o) i (by omega) h2 g4
  case fin =>
   rintro c st' ⟨rfl,l,o,rfl,g1,g2,g3,g4⟩
   exact⟨rfl,l,o,rfl,g1,g3,g4,.inl (by omega)⟩
  case step =>
   rintro x c st' _ hx ⟨rfl,l,o,rfl,g1,g2,g3,g4⟩
   dsimp only
   by_cases z:o ≥ n-hint
   ·refine aE z ?_
    exact wpS_pure ⟨rfl,l,o,rfl,g1,g3,g4,.inl z⟩
   ·refine aD z ?_
    refine wpS_bind (hb _ _ (by omega) ?_)
    cases e:f (hint+o) with
    |true=>exact wpS_pure ⟨rfl,_,_,rfl,by omega,by omega,by omega,e⟩
    |false=>exact wpS_pure ⟨rfl,l,o,rfl,g1,g3,g4,.inr e⟩
 |false =>
  refine aD IS ?_
  dsimp only
  refine wpS_bind (wpS_mono (wpS_forRange (I:=fun x c st'=>st'=st/\∃ l o,c=(none,l,o)/\l<o/\x+1<=o/\l<=hint/\f (hint-l)=false)
   (Q:=fun c st'=>st'=st/\∃ l o,c=(none,l,o)/\l<o/\l<=hint/\f (hint-l)=false/\(hint+1<=o∨f (hint-o)=true)) ?step ?fin ⟨rfl,0,1,rfl,by omega,by omega,by omega,er⟩) ?post)
  case post =>
   rintro c st' ⟨rfl,l,o,rfl,g1,g2,g3,g4⟩
   dsimp only
   refine hj _ _ _ _ _ (by omega) (by omega) (fun i hi=>?_) fun i h1 h2=>nmono _ i h1 h2 g3
   rcases g4 with g4 | g4
   ·omega
   ·exact mono i (hint-o) (by omega) (by omega) g4
  case fin =>
   rintro c st' ⟨rfl,l,o,rfl,g1,g2,g3,g4⟩
   exact⟨rfl,l,o,rfl,g1,g3,g4,.inl (by omega)⟩
  case step =>
   rintro x c st' _ hx ⟨rfl,l,o,rfl,g1,g2,g3,g4⟩
   dsimp only
   by_cases z:o ≥ hint+1
   ·refine aE z ?_
    exact wpS_pure ⟨rfl,l,o,rfl,g1,g3,g4,.inl z⟩
   ·refine aD z ?_
    refine wpS_bind (hb _ _ (by omega) ?_)
    cases e:f (hint-o) with
    |true=>exact wpS_pure ⟨rfl,l,o,rfl,g1,g3,g4,.inr e⟩
    |false=>exact wpS_pure ⟨rfl,_,_,rfl,by omega,by omega,by omega,e⟩
def Upl(l:List Keyed):Prop:=l.Pairwise fun x y=>ky x<=ky y
structure LM(P R o:List Keyed)(i j:Nat):Prop where
 pm:o.Perm (P.take i++R.take j)
 up:Upl o
 la:∀ x∈o,∀ y∈P.drop i,ky x<=ky y
 lb:∀ x∈o,∀ y∈R.drop j,ky x<=ky y
theorem LM.swap{P R o:List Keyed}{i j:Nat}(h:LM P R o i j):LM R P o j i:=⟨h.pm.trans Ka,h.up,h.lb,h.la⟩
theorem LM.a{P R o:List Keyed}{i j:Nat}(h:LM P R o i j)(u:Upl P)(k:Nat)(c:∀ x∈(P.drop i).take k,∀ y∈R.drop j,ky x<=ky y):LM P R (o++(P.drop i).take k) (i+k) j where
 pm:=by
  rw[Lr,Jq]
  refine(h.pm.append_right _).trans ?_
  rw[Jq]
  exact Kg _ Ka
 up:=JH.mpr ⟨h.up,(u.drop).take,fun x hx y hy=>h.la x hx y (JQ hy)⟩
 la:=fun x hx y hy=>by
  rw[← K7]at hy
  rcases IK.mp hx with hx | hx
  ·exact h.la x hx y (JR hy)
  ·have z:Upl ((P.drop i).take k++(P.drop i).drop k):=by rw[Ji];exact u.drop
   exact(JH.mp z).2.2 x hx y hy
 lb:=fun x hx y hy=>by
  rcases IK.mp hx with hx | hx
  ·exact h.lb x hx y hy
  ·exact c x hx y hy
theorem LM.fin{P R o:List Keyed}{i j:Nat}(h:LM P R o i j)(u:Upl P)(v:Upl R)(c:∀ x∈P.drop i,∀ y∈R.drop j,ky x<=ky y):(o++P.drop i++R.drop j).Perm (P++R)/\Upl (o++P.drop i++R.drop j):=by
 constructor
 ·refine((h.pm.append_right _).append_right _).trans ?_
  have e:P++R=(P.take i++P.drop i)++(R.take j++R.drop j):=by rw[Ji,Ji]
  rw[e,← Jq]
  refine List.Perm.append_right _ ?_
  rw[Jq,Jq]
  exact Kg _ Ka
 ·refine JH.mpr ⟨JH.mpr ⟨h.up,u.drop,h.la⟩,v.drop,fun x hx y hy=>?_⟩
  rcases IK.mp hx with hx | hx
  ·exact h.lb x hx y hy
  ·exact c x hx y hy
end PyProof.RowsP
namespace PyProof.RowsP
open PySem PyProof.Rows
local macro_rules | `(tactic| walk_at "setG") => do
 let n:=Lean.mkIdent (Lean.mkPrivateNameCore `PySem.Builtin.List.W1All `PySem.Builtin.setMinGallop)
 `(tactic| delta $n)
local macro_rules | `(tactic| walk_at "mergeLo") => do
 let n:=Lean.mkIdent (Lean.mkPrivateNameCore `PySem.Builtin.List.W1All `PySem.Builtin.mergeLo)
 `(tactic| delta $n)
local macro_rules | `(tactic| walk_at "st") => `(tactic| try dsimp -zeta -zetaHave only)
local macro_rules | `(tactic| walk_at "l3") => `(tactic| (extract_lets -underBinder +onlyGivenNames a b c; subst a b c))
local macro_rules | `(tactic| walk_at "l11") => `(tactic| (extract_lets -underBinder +onlyGivenNames a b c d e f g h i j k; subst a b c d e f g h i j k; dsimp -zeta -zetaHave only))
variable{prog:Program}{w:World}{A:Around}{E:Value->Shared->Prop}{s:Shared} [KF:KeyFn] [LO:LtOk prog w A E s]
structure SmG(st st':SortSt):Prop where
 k:kindOf st'=kindOf st
 a:arrOf st'=arrOf st
 p:pendingOf st'=pendingOf st
 f:failedOf st'=failedOf st
theorem SmG.rfl'(st:SortSt):SmG st st:=⟨rfl,rfl,rfl,rfl⟩
theorem SmG.trans{a b c:SortSt}(h:SmG a b)(g:SmG b c):SmG a c:=⟨g.k.trans h.k,g.a.trans h.a,g.p.trans h.p,g.f.trans h.f⟩
theorem mK{st:SortSt}{g:Nat}{Q:Unit->SortSt->Prop}(h:∀ st',SmG st st'->Q () st'):wpS (model prog w) A E s ((sortPriv% PySem.Builtin.setMinGallop) g) Q st:=by
 walk_at "setG"
 exact wpS_modify (h _ ⟨rfl,rfl,rfl,rfl⟩)
theorem gK(a:Array Keyed)(i:Nat):(a.extract i).toList=a.toList.drop i:=by
 rw[Lq,K6]
 exact Jx (by rw[JF];exact IG _)
theorem mW(a:Array Keyed)(i k:Nat):(a.extract i (i+k)).toList=(a.toList.drop i).take k:=by
 rw[Lq,K6]
 congr 1
 omega
theorem eP{P:List Keyed}{i:Nat}{x:Keyed}(h:P[i]?=some x):(P.drop i).take 1 = [x]:=by
 have hi:=(IA.mp h).1
 rw[Ks hi]
 rw[IB hi]at h
 cases h
 rfl
theorem LM.a1{P R o:List Keyed}{i j:Nat}{x:Keyed}(h:LM P R o i j)(u:Upl P)(hx:P[i]?=some x)(c:∀ y∈R.drop j,ky x<=ky y):LM P R (o++[x]) (i+1) j:=by
 have:=h.a u 1 (by rw[eP hx];intro z hz;rw[IX.mp hz];exact c)
 rwa[eP hx]at this
theorem iX{P:List Keyed}{i:Nat}{x:Keyed}(u:Upl P)(hx:P[i]?=some x):∀ y∈P.drop i,ky x<=ky y:=by
 have hi:=(IA.mp hx).1
 have z:Upl (P.drop i):=u.drop
 rw[Ks hi]at z ⊢
 rw[IB hi]at hx
 cases hx
 intro y hy
 rcases IL.mp hy with rfl | hy
 ·exact Kk _
 ·exact(L8.mp z).1 y hy
theorem C5{P:List Keyed}{i k:Nat}{x:Keyed}(h:x∈(P.drop i).take k):∃ m,m<k/\P[i+m]?=some x:=by
 obtain⟨m,hm,e⟩:=List.getElem_of_mem h
 rw[Jg,JF]at hm
 refine⟨m,by omega,?_⟩
 rw[LA,Mf]at e
 rw[IB (by omega),e]
theorem EF{P:List Keyed}{i j:Nat}{x y:Keyed}(u:Upl P)(hx:P[i]?=some x)(hy:P[j]?=some y)(h:i<=j):ky x<=ky y:=iX u hx y (by
 have hj:=(IA.mp hy).1
 refine ID (i:=j-i) ?_
 rw[KQ,show i+(j-i)=j by omega,hy])
theorem C7{P:List Keyed}{i:Nat}{x:Keyed}(h:x∈P.drop i):∃ m,P[i+m]?=some x:=by
 obtain⟨m,hm⟩:=JI h
 exact⟨m,by rw[← hm,KQ]⟩
def fR(P:List Keyed)(i:Nat)(v:Keyed)(m:Nat):Bool:=match P[i+m]? with | some p=>!decide (ky v<ky p) | none=>false
def fL(P:List Keyed)(i:Nat)(v:Keyed)(m:Nat):Bool:=match P[i+m]? with | some p=>decide (ky p<ky v) | none=>false
theorem nX{P:List Keyed}{i m:Nat}{v p:Keyed}(h:P[i+m]?=some p):fR P i v m = !decide (ky v<ky p):=by unfold fR;rw[h]
theorem pF{P:List Keyed}{i m:Nat}{v p:Keyed}(h:P[i+m]?=some p):fL P i v m=decide (ky p<ky v):=by unfold fL;rw[h]
theorem Ie{P:List Keyed}{i:Nat}{v:Keyed}(u:Upl P){n:Nat}(hn:i+n<=P.length):∀ x y,x<=y->y<n->fR P i v y=true->fR P i v x=true:=fun x y hxy hy e=>by
 have hx:P[i+x]?=some P[i+x]:=IB (by omega)
 have hy':P[i+y]?=some P[i+y]:=IB (by omega)
 rw[nX hy']at e
 rw[nX hx]
 have:=EF u hx hy' (by omega)
 simp only[Li,decide_eq_false_iff_not]at e ⊢
 omega
theorem Ih{P:List Keyed}{i:Nat}{v:Keyed}(u:Upl P){n:Nat}(hn:i+n<=P.length):∀ x y,x<=y->y<n->fL P i v y=true->fL P i v x=true:=fun x y hxy hy e=>by
 have hx:P[i+x]?=some P[i+x]:=IB (by omega)
 have hy':P[i+y]?=some P[i+y]:=IB (by omega)
 rw[pF hy']at e
 rw[pF hx]
 have:=EF u hx hy' (by omega)
 simp only[decide_eq_true_eq]at e ⊢
 omega
theorem Ig{P:List Keyed}{i k:Nat}{v:Keyed}(h:∀ m,m<k->fR P i v m=true):∀ x∈(P.drop i).take k,ky x<=ky v:=fun x hx=>by
 obtain⟨m,hm,e⟩:=C5 hx
 have:=h m hm
 rw[nX e]at this
 simp only[Li,decide_eq_false_iff_not]at this
 omega
theorem Ii{P:List Keyed}{i k:Nat}{v:Keyed}(h:∀ m,m<k->fL P i v m=true):∀ x∈(P.drop i).take k,ky x<ky v:=fun x hx=>by
 obtain⟨m,hm,e⟩:=C5 hx
 have:=h m hm
 rw[pF e]at this
 simpa using this
theorem fR_hi{P:List Keyed}{i k n:Nat}{v:Keyed}(hn:P.length<=i+n)(h:∀ m,k<=m->m<n->fR P i v m=false):∀ y∈P.drop (i+k),ky v<ky y:=fun y hy=>by
 obtain⟨m,e⟩:=C7 hy
 have hl:=(IA.mp e).1
 have:=h (k+m) (by omega) (by omega)
 rw[nX (show P[i+(k+m)]?=some y by rw[← Nat.add_assoc];exact e)]at this
 simpa using this
theorem fL_hi{P:List Keyed}{i k n:Nat}{v:Keyed}(hn:P.length<=i+n)(h:∀ m,k<=m->m<n->fL P i v m=false):∀ y∈P.drop (i+k),ky v<=ky y:=fun y hy=>by
 obtain⟨m,e⟩:=C7 hy
 have hl:=(IA.mp e).1
 have:=h (k+m) (by omega) (by omega)
 rw[pF (show P[i+(k+m)]?=some y by rw[← Nat.add_assoc];exact e)]at this
 simp only[decide_eq_false_iff_not]at this
 omega
theorem zy{st:SortSt}{key:Keyed}{arr:Array Keyed}{base n hint:Nat}{Q:Option Nat->SortSt->Prop}(hk:kindOf st=KeyFn.kd)(hkey:IntP key)(u:Upl arr.toList)(ip:∀ x∈arr.toList,IntP x)(hn:base+n<=arr.size)(hh:hint<n)
  (h:∀ k,k<=n->(∀ i,i<k->fR arr.toList base key i=true)->(∀ i,k<=i->i<n->fR arr.toList base key i=false)->Q (some k) st):wpS (model prog w) A E s ((sortPriv% PySem.Builtin.gallop) false key arr base n hint) Q st :=
 have la:arr.toList.length=arr.size:=by simp
 hJ (fR arr.toList base key) hk hkey (fun i hi=>by
  have hx:arr.toList[base+i]?=some arr.toList[base+i]:=IB (by omega)
  exact⟨_,by rw[← hx];simp,ip _ (Kc _),by rw[nX hx];rfl⟩) (Ie u (by omega)) hh h
theorem zA{st:SortSt}{key:Keyed}{arr:Array Keyed}{base n hint:Nat}{Q:Option Nat->SortSt->Prop}(hk:kindOf st=KeyFn.kd)(hkey:IntP key)(u:Upl arr.toList)(ip:∀ x∈arr.toList,IntP x)(hn:base+n<=arr.size)(hh:hint<n)
  (h:∀ k,k<=n->(∀ i,i<k->fL arr.toList base key i=true)->(∀ i,k<=i->i<n->fL arr.toList base key i=false)->Q (some k) st):wpS (model prog w) A E s ((sortPriv% PySem.Builtin.gallop) true key arr base n hint) Q st :=
 have la:arr.toList.length=arr.size:=by simp
 hJ (fL arr.toList base key) hk hkey (fun i hi=>by
  have hx:arr.toList[base+i]?=some arr.toList[base+i]:=IB (by omega)
  exact⟨_,by rw[← hx];simp,ip _ (Kc _),by rw[pF hx];rfl⟩) (Ih u (by omega)) hh h
theorem Gg{σ α β:Type}{M:Model}{c:Prop} [Decidable c] {F:α->StateT σ Sem β} {x y:α} {Q:β->σ->Prop} {st:σ} (h:∀ z,wpS M A E s (F z) Q st):wpS M A E s (if c then F x else F y) Q st:=by
 split<;>exact h _
theorem wx{σ α:Type}{M:Model}{m:StateT σ Sem α}{Q:α->σ->Prop}{st:σ}(h:∀ R:α->σ->Prop,(∀ a st',Q a st'->R a st')->wpS M A E s m R st):wpS M A E s m Q st:=h Q fun _ _ q=>q
def zY:Array Keyed->Array Keyed->StateT SortSt Sem (Array Keyed):=sortPriv% PySem.Builtin.mergeLo
theorem at_l{a:Array Keyed}{i:Nat}{x:Keyed}(h:a.toList[i]?=some x):a[i]?=some x:=by rw[← h];simp
theorem wo{st:SortSt}{a b:Array Keyed}{Q:Array Keyed->SortSt->Prop}(hk:kindOf st=KeyFn.kd)(ua:Upl a.toList)(ub:Upl b.toList)(ia:∀ x∈a.toList,IntP x)(ib:∀ x∈b.toList,IntP x)(a1:1<=a.size)(b1:1<=b.size)
  (h0:∀ x y:Keyed,b.toList[0]?=some x->y∈a.toList->ky x<=ky y) (hst:∀ x y:Keyed,x∈b.toList->a.toList[a.size-1]?=some y->ky x<ky y)
  (h:∀ R st',SmG st st'->R.toList.Perm (a.toList++b.toList)->Upl R.toList->Q R st'):wpS (model prog w) A E s (zY a b) Q st:=by
 unfold zY
 walk_at "mergeLo"
 have la:a.toList.length=a.size:=by simp
 have lb:b.toList.length=b.size:=by simp
 have atA:∀ i,i<a.size->∃ x,a.toList[i]?=some x/\IntP x:=fun i hi=>⟨_,IB (by omega),ia _ (Kc _)⟩
 have atB:∀ i,i<b.size->∃ x,b.toList[i]?=some x/\IntP x:=fun i hi=>⟨_,IB (by omega),ib _ (Kc _)⟩
 have dn:∀(o:Array Keyed)(i j:Nat)(st':SortSt),SmG st st'->LM a.toList b.toList o.toList i j->j=b.size->Q (o++a.extract i++b.extract j) st':=by
  intro o i j st' sg lm e
  have nb:b.toList.drop j = []:=LL (by omega)
  obtain⟨g1,g2⟩:=lm.fin ua ub (by rw[nb];intro x _ y hy;cases hy)
  refine h _ st' sg ?_ ?_
  ·rw[Js,Js,gK,gK];exact g1
  ·rw[Js,Js,gK,gK];exact g2
 have ls:∀(o:Array Keyed)(i j:Nat)(st':SortSt),SmG st st'->LM a.toList b.toList o.toList i j->i+1=a.size->Q (o++b.extract j++a.extract i) st':=by
  intro o i j st' sg lm e
  obtain⟨z,hz,_⟩:=atA i (by omega)
  have na:a.toList.drop i = [z]:=by
   rw[← eP hz]
   exact(Jx (by rw[JF];omega)).symm
  obtain⟨g1,g2⟩:=lm.swap.fin ub ua (by
   rw[na]
   intro x hx y hy
   rw[IX.mp hy]
   exact Ko (hst x z (JR hx) (by rw[← e];exact hz)))
  refine h _ st' sg ?_ ?_
  ·rw[Js,Js,gK,gK];exact g1.trans Ka
  ·rw[Js,Js,gK,gK];exact g2
 refine wpS_bind (wpS_lift (wpAny_rule ⟨rfl,?_⟩))
 obtain⟨y0,hy0,iy0⟩:=atB 0 (by omega)
 walk_at "l3"
 refine wpS_bind (aF (at_l hy0) ?_)
 have m0:LM a.toList b.toList [y0] 0 1:=⟨by rw[MA,LV,← eP hy0];exact Ll _,Ld ..,fun x hx y hy=>by rw[IX.mp hx];exact h0 y0 y hy0 hy,fun x hx y hy=>by
  rw[IX.mp hx]
  exact iX ub hy0 y (JR hy)⟩
 by_cases c1:(1 == b.size)=true
 ·refine aE c1 ?_
  exact wpS_pure (dn _ _ _ _ (SmG.rfl' _) m0 (by simpa using c1))
 refine aD c1 ?_
 have c1':1≠b.size:=by simpa using c1
 by_cases c2:(0+1 == a.size)=true
 ·refine aE c2 ?_
  exact wpS_pure (ls _ _ _ _ (SmG.rfl' _) m0 (by simpa using c2))
 refine aD c2 ?_
 have c2':0+1≠a.size:=by simpa using c2
 refine wpS_bind (wpS_get ?_)
 refine wpS_bind (wpS_mono (wpS_forRange (I:=fun x c st'=>SmG st st'/\∃(o:Array Keyed)(i j g:Nat),c=(none,o,i,j,g)/\LM a.toList b.toList o.toList i j/\i+1<a.size/\j<b.size/\x+1<=i+j)
  (Q:=fun c st'=>∃(r:Array Keyed)(z:Array Keyed×Nat×Nat×Nat),c=(some r,z)/\Q r st') ?step ?fin ⟨SmG.rfl' _,_,_,_,_,rfl,m0,by omega,by omega,by omega⟩) ?post)
 case post =>
  rintro c st' ⟨r,z,rfl,q⟩
  exact wpS_pure q
 case fin =>
  rintro c st' ⟨sg,o,i,j,g,rfl,lm,g1,g2,g3⟩
  omega
 case step =>
  rintro x c st1 _ hx ⟨sg1,o,i,j,g,rfl,lm,g1,g2,g3⟩
  refine wpS_bind (wpS_mono (wpS_forRange (I:=fun y c st'=>SmG st st'/\∃(o:Array Keyed)(i j ac bc:Nat),c=(none,o,i,j,ac,bc)/\LM a.toList b.toList o.toList i j/\i+1<a.size/\j<b.size/\x+1+y<=i+j)
   (Q:=fun c st'=>(∃(r:Array Keyed)(z:Array Keyed×Nat×Nat×Nat×Nat),c=(some r,z)/\Q r st')∨SmG st st'/\∃(o:Array Keyed)(i j ac bc:Nat),c=(none,o,i,j,ac,bc)/\LM a.toList b.toList o.toList i j/\i+1<a.size/\j<b.size/\x+2<=i+j) ?istep ?ifin ⟨sg1,o,i,j,0,0,rfl,lm,g1,g2,by omega⟩) ?ipost)
  case ifin =>
   rintro c st' ⟨sg,o,i,j,ac,bc,rfl,lm,g1,g2,g3⟩
   exact .inr ⟨sg,o,i,j,ac,bc,rfl,lm,g1,g2,by omega⟩
  case istep =>
   rintro y c st2 _ hy ⟨sg2,o,i,j,ac,bc,rfl,lm,g1,g2,g3⟩
   obtain⟨vb,hvb,ivb⟩:=atB j g2
   obtain⟨va,hva,iva⟩:=atA i (by omega)
   dsimp only
   refine wpS_bind (aF (at_l hvb) (wpS_bind (aF (at_l hva) (wpS_bind (m6 (sg2.k.trans hk) ivb iva ?_)))))
   by_cases c:ky vb<ky va
   ·rw[decide_eq_true c]
    dsimp only
    refine aE rfl ?_
    refine wpS_bind (aF (at_l hvb) ?_)
    have m2:LM a.toList b.toList (o.push vb).toList i (j+1):=by
     rw[KC]
     exact(lm.swap.a1 ub hvb fun z hz=>by have:=iX ua hva z hz;omega).swap
    by_cases d1:(j+1 == b.size)=true
    ·refine aE d1 ?_
     exact wpS_pure (.inl ⟨_,_,rfl,dn _ _ _ _ sg2 m2 (by simpa using d1)⟩)
    ·refine aD d1 ?_
     have d1':j+1≠b.size:=by simpa using d1
     split
     ·exact wpS_pure (.inr ⟨sg2,_,_,_,_,_,rfl,m2,g1,by omega,by omega⟩)
     ·exact wpS_pure ⟨sg2,_,_,_,_,_,rfl,m2,g1,by omega,by omega⟩
   ·rw[decide_eq_false c]
    dsimp only
    refine aD IS ?_
    refine wpS_bind (aF (at_l hva) ?_)
    have m2:LM a.toList b.toList (o.push va).toList (i+1) j:=by
     rw[KC]
     exact lm.a1 ua hva fun z hz=>by have:=iX ub hvb z hz;omega
    by_cases d1:(i+1+1 == a.size)=true
    ·refine aE d1 ?_
     exact wpS_pure (.inl ⟨_,_,rfl,ls _ _ _ _ sg2 m2 (by simpa using d1)⟩)
    ·refine aD d1 ?_
     have d1':i+1+1≠a.size:=by simpa using d1
     split
     ·exact wpS_pure (.inr ⟨sg2,_,_,_,_,_,rfl,m2,by omega,g2,by omega⟩)
     ·exact wpS_pure ⟨sg2,_,_,_,_,_,rfl,m2,by omega,g2,by omega⟩
  case ipost =>
   rintro c st2 (⟨r,z,rfl,q⟩ | ⟨sg2,o,i,j,ac,bc,rfl,lm,g1,g2,g3⟩)
   ·exact wpS_pure ⟨_,_,rfl,q⟩
   dsimp -zeta -zetaHave only
   refine wpS_bind (wpS_lift (wpAny_rule ⟨rfl,?_⟩))
   refine wpS_bind (wpS_mono (wpS_forRange (I:=fun y c st'=>SmG st st'/\∃(o:Array Keyed)(i j g ac bc:Nat),c=(none,o,i,j,g,ac,bc)/\LM a.toList b.toList o.toList i j/\i+1<a.size/\j<b.size/\x+2<=i+j)
    (Q:=fun c st'=>(∃(r:Array Keyed)(z:Array Keyed×Nat×Nat×Nat×Nat×Nat),c=(some r,z)/\Q r st')∨SmG st st'/\∃(o:Array Keyed)(i j g ac bc:Nat),c=(none,o,i,j,g,ac,bc)/\LM a.toList b.toList o.toList i j/\i+1<a.size/\j<b.size/\x+2<=i+j) ?jstep ?jfin ⟨sg2,o,i,j,_,ac,bc,rfl,lm,g1,g2,g3⟩) ?jpost)
   case jfin=>exact fun c st' q=>.inr q
   case jpost =>
    rintro c st3 (⟨r,z,rfl,q⟩ | ⟨sg3,o,i,j,g,ac,bc,rfl,lm,g1,g2,g3⟩)
    ·exact wpS_pure ⟨_,_,rfl,q⟩
    dsimp only
    exact wpS_bind (mK fun st4 sg4=>wpS_pure ⟨sg3.trans sg4,_,_,_,_,rfl,lm,g1,g2,by omega⟩)
   case jstep =>
    rintro y c st3 _ hy ⟨sg3,o,i,j,g,ac,bc,rfl,lm,g1,g2,g3⟩
    walk_at "st"
    walk_at "l11"
    extract_lets -underBinder +onlyGivenNames jp
    clear_value (ej:jp=_)
    refine wx fun R hR=>?_
    refine Gg (F:=fun z=>jp () z) fun g'=>?_
    rw[ej]
    clear ej jp
    walk_at "st"
    refine wpS_bind (mK fun st4 sg4=>?_)
    have sg34:=sg3.trans sg4
    have k4:=sg34.k.trans hk
    obtain⟨vb,hvb,ivb⟩:=atB j g2
    refine wpS_bind (aF (at_l hvb) ?_)
    refine wpS_bind (zy k4 ivb ua ia (by omega) (by omega) fun k kn kt kf=>?_)
    walk_at "st"
    extract_lets -underBinder +onlyGivenNames ac jp
    subst ac
    clear_value (ej:jp=_)
    have vbl:=iX ub hvb
    have hlo:=Ig kt
    have hhi:=fR_hi (by omega) kf
    have hj:∀(o':Array Keyed)(i':Nat),LM a.toList b.toList o'.toList i' j->i'+1<a.size->(∀ y∈a.toList.drop i',ky vb<=ky y)->x+2<=i'+j->wpS (model prog w) A E s (jp () o' i') R st4:=by
     intro o' i' lm' g1' gv g3'
     rw[ej]
     clear ej jp
     walk_at "st"
     refine wpS_bind (aF (at_l hvb) ?_)
     have m2:LM a.toList b.toList (o'.push vb).toList i' (j+1):=by
      rw[KC]
      exact(lm'.swap.a1 ub hvb gv).swap
     by_cases d1:(j+1 == b.size)=true
     ·refine aE d1 ?_
      exact wpS_pure (hR _ _ (.inl ⟨_,_,rfl,dn _ _ _ _ sg34 m2 (by simpa using d1)⟩))
     refine aD d1 ?_
     have d1':j+1≠b.size:=by simpa using d1
     obtain⟨va,hva,iva⟩:=atA i' (by omega)
     have val:=iX ua hva
     refine wpS_bind (aF (at_l hva) ?_)
     refine wpS_bind (zA k4 iva ub ib (by omega) (by omega) fun k2 kn2 kt2 kf2=>?_)
     walk_at "st"
     extract_lets -underBinder +onlyGivenNames ac jp
     subst ac
     clear_value (ej:jp=_)
     have hlo2:=Ii kt2
     have hhi2:=fL_hi (by omega) kf2
     have hj:∀(o':Array Keyed)(j':Nat),LM a.toList b.toList o'.toList i' j'->j'<b.size->(∀ y∈b.toList.drop j',ky va<=ky y)->x+2<=i'+j'->wpS (model prog w) A E s (jp () o' j') R st4:=by
      intro o' j' lm2 g2' gv' g3''
      rw[ej]
      clear ej jp
      walk_at "st"
      refine wpS_bind (aF (at_l hva) ?_)
      have m3:LM a.toList b.toList (o'.push va).toList (i'+1) j':=by
       rw[KC]
       exact lm2.a1 ua hva gv'
      by_cases d2:(i'+1+1 == a.size)=true
      ·refine aE d2 ?_
       exact wpS_pure (hR _ _ (.inl ⟨_,_,rfl,ls _ _ _ _ sg34 m3 (by simpa using d2)⟩))
      refine aD d2 ?_
      have d2':i'+1+1≠a.size:=by simpa using d2
      split
      ·exact wpS_pure (hR _ _ (.inr ⟨sg34,_,_,_,_,_,_,rfl,m3,by omega,g2',by omega⟩))
      ·exact wpS_pure (hR _ _ ⟨sg34,_,_,_,_,_,_,rfl,m3,by omega,g2',by omega⟩)
     clear ej
     by_cases z2:k2 > 0
     ·refine aE z2 ?_
      have m3:LM a.toList b.toList (o'.push vb++b.extract (j+1) (j+1+k2)).toList i' (j+1+k2):=by
       rw[Js,mW]
       exact(m2.swap.a ub k2 fun x hx y hy=>by have:=hlo2 x hx;have:=val y hy;omega).swap
      by_cases d2:(j+1+k2 == b.size)=true
      ·refine aE d2 ?_
       exact wpS_pure (hR _ _ (.inl ⟨_,_,rfl,dn _ _ _ _ sg34 m3 (by simpa using d2)⟩))
      refine aD d2 ?_
      have d2':j+1+k2≠b.size:=by simpa using d2
      exact hj _ _ m3 (by omega) hhi2 (by omega)
     ·refine aD z2 ?_
      have:k2=0:=by omega
      subst this
      exact hj _ _ m2 (by omega) hhi2 (by omega)
    clear ej
    by_cases z:k > 0
    ·refine aE z ?_
     have m2:LM a.toList b.toList (o++a.extract i (i+k)).toList (i+k) j:=by
      rw[Js,mW]
      exact lm.a ua k fun x hx y hy=>by have:=hlo x hx;have:=vbl y hy;omega
     by_cases d1:(i+k+1 == a.size)=true
     ·refine aE d1 ?_
      exact wpS_pure (hR _ _ (.inl ⟨_,_,rfl,ls _ _ _ _ sg34 m2 (by simpa using d1)⟩))
     refine aD d1 ?_
     have d1':i+k+1≠a.size:=by simpa using d1
     by_cases d2:(i+k == a.size)=true
     ·exfalso
      have d2':i+k=a.size:=by simpa using d2
      obtain⟨vl,hvl,_⟩:=atA (a.size-1) (by omega)
      have h1:=kt (a.size-1-i) (by omega)
      rw[nX (show a.toList[i+(a.size-1-i)]?=some vl by rw[show i+(a.size-1-i)=a.size-1 by omega];exact hvl)]at h1
      have h2:=hst vb vl (ID hvb) hvl
      simp only[Li,decide_eq_false_iff_not]at h1
      omega
     refine aD d2 ?_
     have d2':i+k≠a.size:=by simpa using d2
     exact hj _ _ m2 (by omega) (fun y hy=>Ko (hhi y hy)) (by omega)
    ·refine aD z ?_
     have:k=0:=by omega
     subst this
     exact hj _ _ lm g1 (fun y hy=>Ko (hhi y hy)) (by omega)
end PyProof.RowsP
namespace PyProof.RowsP
open PySem PyProof.Rows
local macro_rules | `(tactic| walk_at "mergeHi") => do
 let n:=Lean.mkIdent (Lean.mkPrivateNameCore `PySem.Builtin.List.W1All `PySem.Builtin.mergeHi)
 `(tactic| delta $n)
local macro_rules | `(tactic| walk_at "st") => `(tactic| try dsimp -zeta -zetaHave only)
local macro_rules | `(tactic| walk_at "l3") => `(tactic| (extract_lets -underBinder +onlyGivenNames a b c; subst a b c))
local macro_rules | `(tactic| walk_at "l11") => `(tactic| (extract_lets -underBinder +onlyGivenNames a b c d e f g h i j k; subst a b c d e f g h i j k; dsimp -zeta -zetaHave only))
variable{prog:Program}{w:World}{A:Around}{E:Value->Shared->Prop}{s:Shared} [KF:KeyFn] [LO:LtOk prog w A E s]
structure LH(P R o:List Keyed)(i j:Nat):Prop where
 pm:o.Perm (P.drop i++R.drop j)
 up:Upl o
 la:∀ x∈P.take i,∀ y∈o,ky x<=ky y
 lb:∀ x∈R.take j,∀ y∈o,ky x<=ky y
theorem LH.swap{P R o:List Keyed}{i j:Nat}(h:LH P R o i j):LH R P o j i:=⟨h.pm.trans Ka,h.up,h.lb,h.la⟩
theorem FF(P:List Keyed){i i':Nat}(h:i'<=i)(hi:i<=P.length):P.drop i'=(P.take i).drop i'++P.drop i:=by
 have e:=congrArg (List.drop i') (Ji i P)
 rw[Mn,Jg,show i'-min i P.length=0 by omega,LZ]at e
 exact e.symm
theorem LH.a{P R o:List Keyed}{i j:Nat}(h:LH P R o i j)(u:Upl P){i':Nat}(hi':i'<=i)(hi:i<=P.length)(c:∀ x∈R.take j,∀ y∈(P.take i).drop i',ky x<=ky y):LH P R ((P.take i).drop i'++o) i' j where
 pm:=by
  rw[FF P hi' hi,Jq]
  exact Kg _ h.pm
 up:=JH.mpr ⟨(u.take).drop,h.up,fun x hx y hy=>h.la x (JR hx) y hy⟩
 la:=fun x hx y hy=>by
  have e:P.take i'=(P.take i).take i':=by rw[Lx,KS hi']
  rw[e]at hx
  rcases IK.mp hy with hy | hy
  ·have z:Upl ((P.take i).take i'++(P.take i).drop i'):=by rw[Ji];exact u.take
   exact(JH.mp z).2.2 x hx y hy
  ·exact h.la x (JQ hx) y hy
 lb:=fun x hx y hy=>by
  rcases IK.mp hy with hy | hy
  ·exact c x hx y hy
  ·exact h.lb x hx y hy
theorem rN{P:List Keyed}{i:Nat}{x:Keyed}(h:P[i]?=some x):(P.take (i+1)).drop i = [x]:=by
 have hi:=(IA.mp h).1
 rw[Lk,show i+1-i=1 by omega]
 exact eP h
theorem LH.a1{P R o:List Keyed}{i j:Nat}{x:Keyed}(h:LH P R o (i+1) j)(u:Upl P)(hx:P[i]?=some x)(c:∀ y∈R.take j,ky y<=ky x):LH P R (x::o) i j:=by
 have hi:=(IA.mp hx).1
 have:=h.a u (i':=i) (by omega) (by omega) (by rw[rN hx];intro y hy z hz;rw[IX.mp hz];exact c y hy)
 rwa[rN hx]at this
theorem LH.fin{P R o:List Keyed}{i j:Nat}(h:LH P R o i j)(u:Upl P)(v:Upl R)(c:∀ x∈P.take i,∀ y∈R.take j,ky x<=ky y):(P.take i++R.take j++o).Perm (P++R)/\Upl (P.take i++R.take j++o):=by
 constructor
 ·refine(Kg _ h.pm).trans ?_
  have e:P++R=(P.take i++P.drop i)++(R.take j++R.drop j):=by rw[Ji,Ji]
  rw[e,← Jq,← Jq]
  refine List.Perm.append_right _ ?_
  rw[Jq,Jq]
  exact Kg _ Ka
 ·refine JH.mpr ⟨JH.mpr ⟨u.take,v.take,c⟩,h.up,fun x hx y hy=>?_⟩
  rcases IK.mp hx with hx | hx
  ·exact h.la x hx y hy
  ·exact h.lb x hx y hy
theorem kg{P:List Keyed}{i:Nat}{x:Keyed}(u:Upl P)(hx:P[i]?=some x):∀ y∈P.take (i+1),ky y<=ky x:=fun y hy=>by
 obtain⟨m,hm,e⟩:=List.getElem_of_mem hy
 rw[Jg]at hm
 rw[LA]at e
 exact EF u (i:=m) (by rw[IB (by omega),e]) hx (by omega)
theorem fR_lo'{P:List Keyed}{k:Nat}{v:Keyed}(h:∀ m,m<k->fR P 0 v m=true):∀ x∈P.take k,ky x<=ky v:=Ig (P:=P) (i:=0) h
theorem fL_lo'{P:List Keyed}{k:Nat}{v:Keyed}(h:∀ m,m<k->fL P 0 v m=true):∀ x∈P.take k,ky x<ky v:=Ii (P:=P) (i:=0) h
theorem z8{P:List Keyed}{i k:Nat}{y:Keyed}(h:y∈(P.take i).drop k):∃ m,k<=m/\m<i/\P[m]?=some y:=by
 rw[Lk]at h
 obtain⟨m,hm,e⟩:=C5 h
 exact⟨k+m,by omega,by omega,e⟩
theorem fR_hi'{P:List Keyed}{k n:Nat}{v:Keyed}(h:∀ m,k<=m->m<n->fR P 0 v m=false):∀ y∈(P.take n).drop k,ky v<ky y:=fun y hy=>by
 obtain⟨m,h1,h2,e⟩:=z8 hy
 have:=h m h1 h2
 rw[nX (show P[0+m]?=some y by rw[Nat.zero_add];exact e)]at this
 simpa using this
theorem fL_hi'{P:List Keyed}{k n:Nat}{v:Keyed}(h:∀ m,k<=m->m<n->fL P 0 v m=false):∀ y∈(P.take n).drop k,ky v<=ky y:=fun y hy=>by
 obtain⟨m,h1,h2,e⟩:=z8 hy
 have:=h m h1 h2
 rw[pF (show P[0+m]?=some y by rw[Nat.zero_add];exact e)]at this
 simp only[decide_eq_false_iff_not]at this
 omega
theorem lD(a:Array Keyed)(i:Nat):(a.extract 0 i).toList=a.toList.take i:=by
 rw[Lq,K6]
 rfl
theorem se(a:Array Keyed)(i k:Nat):(a.extract k i).toList=(a.toList.take i).drop k:=by
 rw[Lq,K6,Lk]
def rv(o:Array Keyed):List Keyed:=o.toList.reverse
theorem qN(o:Array Keyed)(x:Keyed):rv (o.push x)=x::rv o:=by unfold rv;rw[KC,List.reverse_append];rfl
theorem F1(o p:Array Keyed):rv (o++p.reverse)=p.toList++rv o:=by unfold rv;rw[Js,List.reverse_append,K3,List.reverse_reverse]
def zZ:Array Keyed->Array Keyed->StateT SortSt Sem (Array Keyed):=sortPriv% PySem.Builtin.mergeHi
theorem wq{st:SortSt}{a b:Array Keyed}{Q:Array Keyed->SortSt->Prop}(hk:kindOf st=KeyFn.kd)(ua:Upl a.toList)(ub:Upl b.toList)(ia:∀ x∈a.toList,IntP x)(ib:∀ x∈b.toList,IntP x)(a1:1<=a.size)(b1:1<=b.size)
  (h0:∀ x y:Keyed,b.toList[0]?=some x->y∈a.toList->ky x<ky y) (hst:∀ x y:Keyed,x∈b.toList->a.toList[a.size-1]?=some y->ky x<ky y)
  (h:∀ R st',SmG st st'->R.toList.Perm (a.toList++b.toList)->Upl R.toList->Q R st'):wpS (model prog w) A E s (zZ a b) Q st:=by
 unfold zZ
 walk_at "mergeHi"
 have la:a.toList.length=a.size:=by simp
 have lb:b.toList.length=b.size:=by simp
 have atA:∀ i,i<a.size->∃ x,a.toList[i]?=some x/\IntP x:=fun i hi=>⟨_,IB (by omega),ia _ (Kc _)⟩
 have atB:∀ i,i<b.size->∃ x,b.toList[i]?=some x/\IntP x:=fun i hi=>⟨_,IB (by omega),ib _ (Kc _)⟩
 have dn:∀(o:Array Keyed)(i j:Nat)(st':SortSt),SmG st st'->LH a.toList b.toList (rv o) i j->i=0∨j=0->Q (a.extract 0 i++b.extract 0 j++o.reverse) st':=by
  intro o i j st' sg lm e
  obtain⟨g1,g2⟩:=lm.fin ua ub (by
   rcases e with e | e
   ·subst e;intro x hx;cases hx
   ·subst e;intro x _ y hy;cases hy)
  refine h _ st' sg ?_ ?_
  ·rw[Js,Js,lD,lD,K3];exact g1
  ·rw[Js,Js,lD,lD,K3];exact g2
 have ls:∀(o:Array Keyed)(i j:Nat)(st':SortSt),SmG st st'->LH a.toList b.toList (rv o) i j->j=1->Q (b.extract 0 j++a.extract 0 i++o.reverse) st':=by
  intro o i j st' sg lm e
  subst e
  obtain⟨z,hz,_⟩:=atB 0 (by omega)
  have nb:b.toList.take 1 = [z]:=eP (P:=b.toList) (i:=0) hz
  obtain⟨g1,g2⟩:=lm.swap.fin ub ua (by
   rw[nb]
   intro x hx y hy
   rw[IX.mp hx]
   exact Ko (h0 z y hz (JQ hy)))
  refine h _ st' sg ?_ ?_
  ·rw[Js,Js,lD,lD,K3];exact g1.trans Ka
  ·rw[Js,Js,lD,lD,K3];exact g2
 refine wpS_bind (wpS_lift (wpAny_rule ⟨rfl,?_⟩))
 obtain⟨y0,hy0,iy0⟩:=atA (a.size-1) (by omega)
 walk_at "l3"
 refine wpS_bind (aF (at_l hy0) ?_)
 have m0:LH a.toList b.toList (rv #[y0]) (a.size-1) b.size:=⟨by
   show[y0].Perm _
   rw[LL (show b.toList.length<=b.size by omega),Kz]
   have e:=rN hy0
   rw[show a.size-1+1=a.size by omega,Jx (by omega)]at e
   rw[e],Ld ..,fun x hx y hy=>by
   have:y=y0:=IX.mp hy
   rw[this]
   refine kg ua hy0 x ?_
   rw[show a.size-1+1=a.size by omega,Jx (by omega)]
   exact JQ hx,fun x hx y hy=>by
   have:y=y0:=IX.mp hy
   rw[this]
   exact Ko (hst x y0 (JQ hx) hy0)⟩
 by_cases c1:(a.size-1 == 0)=true
 ·refine aE c1 ?_
  exact wpS_pure (dn _ _ _ _ (SmG.rfl' _) m0 (.inl (by simpa using c1)))
 refine aD c1 ?_
 have c1':a.size-1≠0:=by simpa using c1
 by_cases c2:(b.size == 1)=true
 ·refine aE c2 ?_
  exact wpS_pure (ls _ _ _ _ (SmG.rfl' _) m0 (by simpa using c2))
 refine aD c2 ?_
 have c2':b.size≠1:=by simpa using c2
 refine wpS_bind (wpS_get ?_)
 refine wpS_bind (wpS_mono (wpS_forRange (I:=fun x c st'=>SmG st st'/\∃(o:Array Keyed)(i j g:Nat),c=(none,i,j,o,g)/\LH a.toList b.toList (rv o) i j/\1<=i/\i<=a.size/\2<=j/\j<=b.size/\x+1+(i+j)<=a.size+b.size)
  (Q:=fun c st'=>∃(r:Array Keyed)(z:Nat×Nat×Array Keyed×Nat),c=(some r,z)/\Q r st') ?step ?fin ⟨SmG.rfl' _,_,_,_,_,rfl,m0,by omega,by omega,by omega,by omega,by omega⟩) ?post)
 case post =>
  rintro c st' ⟨r,z,rfl,q⟩
  exact wpS_pure q
 case fin =>
  rintro c st' ⟨sg,o,i,j,g,rfl,lm,g1,g1',g2,g2',g3⟩
  omega
 case step =>
  rintro x c st1 _ hx ⟨sg1,o,i,j,g,rfl,lm,g1,g1',g2,g2',g3⟩
  refine wpS_bind (wpS_mono (wpS_forRange (I:=fun y c st'=>SmG st st'/\∃(o:Array Keyed)(i j ac bc:Nat),c=(none,i,j,o,ac,bc)/\LH a.toList b.toList (rv o) i j/\1<=i/\i<=a.size/\2<=j/\j<=b.size/\x+1+y+(i+j)<=a.size+b.size)
   (Q:=fun c st'=>(∃(r:Array Keyed)(z:Nat×Nat×Array Keyed×Nat×Nat),c=(some r,z)/\Q r st')∨SmG st st'/\∃(o:Array Keyed)(i j ac bc:Nat),c=(none,i,j,o,ac,bc)/\LH a.toList b.toList (rv o) i j/\1<=i/\i<=a.size/\2<=j/\j<=b.size/\x+2+(i+j)<=a.size+b.size) ?istep ?ifin ⟨sg1,o,i,j,0,0,rfl,lm,g1,g1',g2,g2',by omega⟩) ?ipost)
  case ifin =>
   rintro c st' ⟨sg,o,i,j,ac,bc,rfl,lm,g1,g1',g2,g2',g3⟩
   exact .inr ⟨sg,o,i,j,ac,bc,rfl,lm,g1,g1',g2,g2',by omega⟩
  case istep =>
   rintro y c st2 _ hy ⟨sg2,o,i,j,ac,bc,rfl,lm,g1,g1',g2,g2',g3⟩
   obtain⟨vb,hvb,ivb⟩:=atB (j-1) (by omega)
   obtain⟨va,hva,iva⟩:=atA (i-1) (by omega)
   have ei:i-1+1=i:=by omega
   have ej:j-1+1=j:=by omega
   dsimp only
   refine wpS_bind (aF (at_l hvb) (wpS_bind (aF (at_l hva) (wpS_bind (m6 (sg2.k.trans hk) ivb iva ?_)))))
   by_cases c:ky vb<ky va
   ·rw[decide_eq_true c]
    dsimp only
    refine aE rfl ?_
    refine wpS_bind (aF (at_l hva) ?_)
    have m2:LH a.toList b.toList (rv (o.push va)) (i-1) j:=by
     rw[qN]
     exact LH.a1 (by rw[ei];exact lm) ua hva fun z hz=>by
      have:=kg ub hvb z (by rw[ej];exact hz)
      omega
    by_cases d1:(i-1 == 0)=true
    ·refine aE d1 ?_
     exact wpS_pure (.inl ⟨_,_,rfl,dn _ _ _ _ sg2 m2 (.inl (by simpa using d1))⟩)
    ·refine aD d1 ?_
     have d1':i-1≠0:=by simpa using d1
     split
     ·exact wpS_pure (.inr ⟨sg2,_,_,_,_,_,rfl,m2,by omega,by omega,g2,g2',by omega⟩)
     ·exact wpS_pure ⟨sg2,_,_,_,_,_,rfl,m2,by omega,by omega,g2,g2',by omega⟩
   ·rw[decide_eq_false c]
    dsimp only
    refine aD IS ?_
    refine wpS_bind (aF (at_l hvb) ?_)
    have m2:LH a.toList b.toList (rv (o.push vb)) i (j-1):=by
     rw[qN]
     exact(LH.a1 (by rw[ej];exact lm.swap) ub hvb fun z hz=>by
      have:=kg ua hva z (by rw[ei];exact hz)
      omega).swap
    by_cases d1:(j-1 == 1)=true
    ·refine aE d1 ?_
     exact wpS_pure (.inl ⟨_,_,rfl,ls _ _ _ _ sg2 m2 (by simpa using d1)⟩)
    ·refine aD d1 ?_
     have d1':j-1≠1:=by simpa using d1
     split
     ·exact wpS_pure (.inr ⟨sg2,_,_,_,_,_,rfl,m2,g1,g1',by omega,by omega,by omega⟩)
     ·exact wpS_pure ⟨sg2,_,_,_,_,_,rfl,m2,g1,g1',by omega,by omega,by omega⟩
  case ipost =>
   rintro c st2 (⟨r,z,rfl,q⟩ | ⟨sg2,o,i,j,ac,bc,rfl,lm,g1,g1',g2,g2',g3⟩)
   ·exact wpS_pure ⟨_,_,rfl,q⟩
   dsimp -zeta -zetaHave only
   refine wpS_bind (wpS_lift (wpAny_rule ⟨rfl,?_⟩))
   refine wpS_bind (wpS_mono (wpS_forRange (I:=fun y c st'=>SmG st st'/\∃(o:Array Keyed)(i j g ac bc:Nat),c=(none,i,j,o,g,ac,bc)/\LH a.toList b.toList (rv o) i j/\1<=i/\i<=a.size/\2<=j/\j<=b.size/\x+2+(i+j)<=a.size+b.size)
    (Q:=fun c st'=>(∃(r:Array Keyed)(z:Nat×Nat×Array Keyed×Nat×Nat×Nat),c=(some r,z)/\Q r st')∨SmG st st'/\∃(o:Array Keyed)(i j g ac bc:Nat),c=(none,i,j,o,g,ac,bc)/\LH a.toList b.toList (rv o) i j/\1<=i/\i<=a.size/\2<=j/\j<=b.size/\x+2+(i+j)<=a.size+b.size) ?jstep ?jfin ⟨sg2,o,i,j,_,ac,bc,rfl,lm,g1,g1',g2,g2',g3⟩) ?jpost)
   case jfin=>exact fun c st' q=>.inr q
   case jpost =>
    rintro c st3 (⟨r,z,rfl,q⟩ | ⟨sg3,o,i,j,g,ac,bc,rfl,lm,g1,g1',g2,g2',g3⟩)
    ·exact wpS_pure ⟨_,_,rfl,q⟩
    dsimp only
    exact wpS_bind (mK fun st4 sg4=>wpS_pure ⟨sg3.trans sg4,_,_,_,_,rfl,lm,g1,g1',g2,g2',by omega⟩)
   case jstep =>
    rintro y c st3 _ hy ⟨sg3,o,i,j,g,ac,bc,rfl,lm,g1,g1',g2,g2',g3⟩
    walk_at "st"
    walk_at "l11"
    extract_lets -underBinder +onlyGivenNames jp
    clear_value (ej:jp=_)
    refine wx fun R hR=>?_
    refine Gg (F:=fun z=>jp () z) fun g'=>?_
    rw[ej]
    clear ej jp
    walk_at "st"
    refine wpS_bind (mK fun st4 sg4=>?_)
    have sg34:=sg3.trans sg4
    have k4:=sg34.k.trans hk
    have ej1:j-1+1=j:=by omega
    obtain⟨vb,hvb,ivb⟩:=atB (j-1) (by omega)
    refine wpS_bind (aF (at_l hvb) ?_)
    refine wpS_bind (zy k4 ivb ua ia (by omega) (by omega) fun k kn kt kf=>?_)
    walk_at "st"
    extract_lets -underBinder +onlyGivenNames kk ac jp
    subst kk ac
    clear_value (ej:jp=_)
    have vbl:=kg ub hvb
    rw[ej1]at vbl
    have hlo:=fR_lo' kt
    have hhi:=fR_hi' kf
    have hj:∀(i':Nat)(o':Array Keyed),LH a.toList b.toList (rv o') i' j->1<=i'->i'<=a.size->(∀ y∈a.toList.take i',ky y<=ky vb)->x+2+(i'+j)<=a.size+b.size->wpS (model prog w) A E s (jp () i' o') R st4:=by
     intro i' o' lm' q1 q1' gv g3'
     rw[ej]
     clear ej jp
     walk_at "st"
     refine wpS_bind (aF (at_l hvb) ?_)
     have m2:LH a.toList b.toList (rv (o'.push vb)) i' (j-1):=by
      rw[qN]
      exact(LH.a1 (by rw[ej1];exact lm'.swap) ub hvb gv).swap
     by_cases d1:(j-1 == 1)=true
     ·refine aE d1 ?_
      exact wpS_pure (hR _ _ (.inl ⟨_,_,rfl,ls _ _ _ _ sg34 m2 (by simpa using d1)⟩))
     refine aD d1 ?_
     have d1':j-1≠1:=by simpa using d1
     have ei1:i'-1+1=i':=by omega
     obtain⟨va,hva,iva⟩:=atA (i'-1) (by omega)
     have val:=kg ua hva
     rw[ei1]at val
     refine wpS_bind (aF (at_l hva) ?_)
     refine wpS_bind (zA k4 iva ub ib (by omega) (by omega) fun k2 kn2 kt2 kf2=>?_)
     walk_at "st"
     extract_lets -underBinder +onlyGivenNames kk ac jp
     subst kk ac
     clear_value (ej:jp=_)
     have hlo2:=fL_lo' kt2
     have hhi2:=fL_hi' kf2
     have hj:∀(j':Nat)(o':Array Keyed),LH a.toList b.toList (rv o') i' j'->2<=j'->j'<=b.size->(∀ y∈b.toList.take j',ky y<=ky va)->x+2+(i'+j')<=a.size+b.size->wpS (model prog w) A E s (jp () j' o') R st4:=by
      intro j' o' lm2 q2 q2' gv' g3''
      rw[ej]
      clear ej jp
      walk_at "st"
      refine wpS_bind (aF (at_l hva) ?_)
      have m3:LH a.toList b.toList (rv (o'.push va)) (i'-1) j':=by
       rw[qN]
       exact LH.a1 (by rw[ei1];exact lm2) ua hva gv'
      by_cases d2:(i'-1 == 0)=true
      ·refine aE d2 ?_
       exact wpS_pure (hR _ _ (.inl ⟨_,_,rfl,dn _ _ _ _ sg34 m3 (.inl (by simpa using d2))⟩))
      refine aD d2 ?_
      have d2':i'-1≠0:=by simpa using d2
      split
      ·exact wpS_pure (hR _ _ (.inr ⟨sg34,_,_,_,_,_,_,rfl,m3,by omega,by omega,q2,q2',by omega⟩))
      ·exact wpS_pure (hR _ _ ⟨sg34,_,_,_,_,_,_,rfl,m3,by omega,by omega,q2,q2',by omega⟩)
     clear ej
     by_cases z2:j-1-k2 > 0
     ·refine aE z2 ?_
      have m3:LH a.toList b.toList (rv (o'.push vb++(b.extract k2 (j-1)).reverse)) i' k2:=by
       rw[F1,se]
       exact(m2.swap.a ub (by omega) (by omega) fun x hx y hy=>by have:=hhi2 y hy;have:=val x hx;omega).swap
      by_cases d2:(k2 == 1)=true
      ·refine aE d2 ?_
       exact wpS_pure (hR _ _ (.inl ⟨_,_,rfl,ls _ _ _ _ sg34 m3 (by simpa using d2)⟩))
      refine aD d2 ?_
      have d2':k2≠1:=by simpa using d2
      by_cases d3:(k2 == 0)=true
      ·refine aE d3 ?_
       exact wpS_pure (hR _ _ (.inl ⟨_,_,rfl,dn _ _ _ _ sg34 m3 (.inr (by simpa using d3))⟩))
      refine aD d3 ?_
      have d3':k2≠0:=by simpa using d3
      exact hj _ _ m3 (by omega) (by omega) (fun y hy=>Ko (hlo2 y hy)) (by omega)
     ·refine aD z2 ?_
      have:k2=j-1:=by omega
      subst this
      exact hj _ _ m2 (by omega) (by omega) (fun y hy=>Ko (hlo2 y hy)) (by omega)
    clear ej
    by_cases z:i-k > 0
    ·refine aE z ?_
     have m2:LH a.toList b.toList (rv (o++(a.extract k i).reverse)) k j:=by
      rw[F1,se]
      exact lm.a ua (by omega) (by omega) fun x hx y hy=>by have:=hhi y hy;have:=vbl x hx;omega
     by_cases d1:(k == 0)=true
     ·refine aE d1 ?_
      exact wpS_pure (hR _ _ (.inl ⟨_,_,rfl,dn _ _ _ _ sg34 m2 (.inl (by simpa using d1))⟩))
     refine aD d1 ?_
     have d1':k≠0:=by simpa using d1
     exact hj _ _ m2 (by omega) (by omega) hlo (by omega)
    ·refine aD z ?_
     have:k=i:=by omega
     subst this
     exact hj _ _ lm g1 g1' hlo (by omega)
end PyProof.RowsP
namespace PyProof.RowsP
open PySem PyProof.Rows
local macro_rules | `(tactic| walk_at "countRun") => do
 let n:=Lean.mkIdent (Lean.mkPrivateNameCore `PySem.Builtin.List.W1All `PySem.Builtin.countRun)
 `(tactic| delta $n)
local macro_rules | `(tactic| walk_at "binarySort") => do
 let n:=Lean.mkIdent (Lean.mkPrivateNameCore `PySem.Builtin.List.W1All `PySem.Builtin.binarySort)
 `(tactic| delta $n)
local macro_rules | `(tactic| walk_at "st") => `(tactic| try dsimp -zeta -zetaHave only)
local macro_rules | `(tactic| walk_at "l3") => `(tactic| (extract_lets -underBinder +onlyGivenNames a b c; subst a b c))
local macro_rules | `(tactic| walk_at "l11") => `(tactic| (extract_lets -underBinder +onlyGivenNames a b c d e f g h i j k; subst a b c d e f g h i j k; dsimp -zeta -zetaHave only))
local macro_rules | `(tactic| walk_at "l1") => `(tactic| (extract_lets -underBinder +onlyGivenNames a; subst a; try dsimp -zeta -zetaHave only))
local macro_rules | `(tactic| walk_at "l2") => `(tactic| (extract_lets -underBinder +onlyGivenNames a b; subst a b; try dsimp -zeta -zetaHave only))
local macro_rules | `(tactic| walk_at "l4") => `(tactic| (extract_lets -underBinder +onlyGivenNames a b c d; subst a b c d; try dsimp -zeta -zetaHave only))
variable{prog:Program}{w:World}{A:Around}{E:Value->Shared->Prop}{s:Shared} [KF:KeyFn] [LO:LtOk prog w A E s]
structure SB(lo:Nat)(st0 st:SortSt):Prop where
 perm:(arrOf st).Perm (arrOf st0)
 kind:kindOf st=KeyFn.kd
 failed:failedOf st=failedOf st0
 pend:pendingOf st=pendingOf st0
 low:∀ i,i<lo->(arrOf st)[i]?=(arrOf st0)[i]?
theorem SB.set{lo:Nat}{st0 st:SortSt}(h:SB lo st0 st){xs:Array Keyed}(hp:xs.Perm (arrOf st))(hl:∀ i,i<lo->xs[i]?=(arrOf st)[i]?):SB lo st0 (setArr st xs) :=
 ⟨hp.trans h.perm,h.kind,h.failed,h.pend,fun i hi=>(hl i hi).trans (h.low i hi)⟩
theorem SB.size{lo:Nat}{st0 st:SortSt}(h:SB lo st0 st):(arrOf st).size=(arrOf st0).size:=h.perm.size_eq
def Sin(xs:Array Keyed)(lo n:Nat):Prop:=∀ i j,lo<=i->i<=j->j<lo+n->K xs i<=K xs j
def Nin(xs:Array Keyed)(lo n:Nat):Prop:=∀ i j,lo<=i->i<=j->j<lo+n->K xs j<=K xs i
theorem ke{lo:Nat}{st0 st:SortSt}{i j:Nat}{Q:Option Bool->SortSt->Prop}(hB:SB lo st0 st)(h0:g7 (arrOf st0))(hi:i<(arrOf st0).size)(hj:j<(arrOf st0).size)
  (h:Q (some (decide (K (arrOf st) i<K (arrOf st) j))) st):wpS (model prog w) A E s ((sortPriv% PySem.Builtin.ltAt) i j) Q st:=by
 have at':∀ i,i<(arrOf st0).size->∃ p,(arrOf st)[i]?=some p/\IntP p/\K (arrOf st) i=ky p:=fun i hi=>by
  have hi':i<(arrOf st).size:=by rw[hB.size];exact hi
  have e:(arrOf st)[i]?=some (arrOf st)[i]:=getElem?_pos _ i hi'
  exact⟨(arrOf st)[i],e,h0 (arrOf st)[i] ((K2.mp hB.perm).mem_iff.mp (by simp)),K_eq hi'⟩
 obtain⟨p,e1,i1,k1⟩:=at' i hi
 obtain⟨q,e2,i2,k2⟩:=at' j hj
 rw[k1,k2]at h
 show wpS _ _ _ _ (ltAt' i j) Q st
 rw[ltAt'_eq]
 refine wpS_bind (wpS_get ?_)
 show wpS _ _ _ _ (do let x ← elem' (arrOf st) i;let y ← elem' (arrOf st) j;lt' x y) Q st
 rw[elem'_eq,elem'_eq,e1,e2]
 refine wpS_bind (wpS_pure (wpS_bind (wpS_pure ?_)))
 exact m6 hB.kind i1 i2 h
theorem mL{lo:Nat}{st0 st:SortSt}{i j:Nat}{Q:Unit->SortSt->Prop}(hB:SB lo st0 st)(hl:lo<=i)(hj:j<=(arrOf st0).size)(h:∀ st',SB lo st0 st'->(∀ k,K (arrOf st') k=if i<=k/\k<j then K (arrOf st) (i+j-1-k) else K (arrOf st) k)->Q () st') :
  wpS (model prog w) A E s ((sortPriv% PySem.Builtin.reverseSlice) i j) Q st:=by
 have hj':j<=(arrOf st).size:=by rw[hB.size];exact hj
 refine wpS_reverse (h _ (hB.set (mirror_perm _ _ _ _) fun k hk=>?_) fun k=>FQ hj' k)
 rw[getElem?_mirror_all hj',if_neg (by omega)]
theorem G9(xs:Array Keyed)(lo:Nat):Sin xs lo 1:=fun i j h1 h2 h3=>by
 have:i=j:=by omega
 rw[this];exact Kk _
theorem FY{xs:Array Keyed}{lo n:Nat}(h:Sin xs lo n)(n1:1<=n)(c:¬ K xs (lo+n)<K xs (lo+n-1)):Sin xs lo (n+1):=fun i j h1 h2 h3=>by
 by_cases z:j<lo+n
 ·exact h i j h1 h2 z
 ·have ej:j=lo+n:=by omega
  by_cases zi:i=j
  ·rw[zi];exact Kk _
  ·have:=h i (lo+n-1) h1 (by omega) (by omega)
   rw[ej];omega
theorem zV{xs:Array Keyed}{lo n:Nat}(h:Nin xs lo n)(n1:1<=n)(c:K xs (lo+n)<=K xs (lo+n-1)):Nin xs lo (n+1):=fun i j h1 h2 h3=>by
 by_cases z:j<lo+n
 ·exact h i j h1 h2 z
 ·have ej:j=lo+n:=by omega
  by_cases zi:i=j
  ·rw[zi];exact Kk _
  ·have:=h i (lo+n-1) h1 (by omega) (by omega)
   rw[ej];omega
def vD:Nat->Nat->StateT SortSt Sem (Option Nat):=sortPriv% PySem.Builtin.countRun
theorem Ap{st0:SortSt}{lo nrem:Nat}{Q:Option Nat->SortSt->Prop}(hk:kindOf st0=KeyFn.kd)(h0:g7 (arrOf st0))(hn:lo+nrem<=(arrOf st0).size)(n1:1<=nrem)
  (h:∀ m st',SB lo st0 st'->1<=m->m<=nrem->Sin (arrOf st') lo m->Q (some m) st'):wpS (model prog w) A E s (vD lo nrem) Q st0:=by
 have hB:SB lo st0 st0:=⟨Array.Perm.refl _,hk,rfl,rfl,fun _ _=>rfl⟩
 unfold vD
 walk_at "countRun"
 refine wpS_bind (wpS_mono (wpS_forRange (I:=fun x c st'=>st'=st0/\c=(none,x)/\Sin (arrOf st0) lo x)
  (Q:=fun c st'=>st'=st0/\∃ n,c=(none,n)/\1<=n/\n<=nrem/\Sin (arrOf st0) lo n/\(n=nrem∨K (arrOf st0) (lo+n)<K (arrOf st0) (lo+n-1))) ?step ?fin ⟨rfl,rfl,G9 _ _⟩) ?post)
 case fin =>
  rintro c st' ⟨rfl,rfl,hs⟩
  rw[show max 1 nrem=nrem by omega]at hs ⊢
  exact⟨rfl,nrem,rfl,n1,IG _,hs,.inl rfl⟩
 case step =>
  rintro x c st' h1 h2 ⟨rfl,rfl,hs⟩
  dsimp only
  refine wpS_bind (ke hB h0 (by omega) (by omega) ?_)
  by_cases z:K (arrOf st') (lo+x)<K (arrOf st') (lo+x-1)
  ·simp only[z,decide_true,if_true]
   exact wpS_pure ⟨rfl,x,rfl,h1,by omega,hs,.inr z⟩
  ·simp only[z,decide_false,JM,if_false]
   exact wpS_pure ⟨rfl,rfl,FY hs h1 z⟩
 case post =>
  rintro c st' ⟨rfl,n,rfl,g1,g2,hs,hor⟩
  walk_at "st"
  walk_at "l2"
  by_cases z:(n == nrem)=true
  ·refine aE z ?_
   exact wpS_pure (h n st' hB g1 g2 hs)
  refine aD z ?_
  have z':n≠nrem:=by simpa using z
  have hlt:=hor.resolve_left z'
  extract_lets -underBinder +onlyGivenNames jp
  clear_value (ej:jp=_)
  have hj:∀ st1,SB lo st' st1->Nin (arrOf st1) lo (n+1)->wpS (model prog w) A E s (jp ()) Q st1:=by
   intro st1 hB1 hs1
   rw[ej]
   clear ej jp
   walk_at "st"
   refine wpS_bind (wpS_lift (wpAny_rule ⟨rfl,?_⟩))
   refine wpS_bind (wpS_mono (wpS_forRange (I:=fun x c st2=>SB lo st' st2/\∃ neq,c=(none,x,neq)/\Nin (arrOf st2) lo x/\neq+1<=x/\(∀ i,lo+x-(neq+1)<=i->i<lo+x->K (arrOf st2) i=K (arrOf st2) (lo+x-1)))
    (Q:=fun c st2=>SB lo st' st2/\∃ m neq,c=(none,m,neq)/\1<=m/\m<=nrem/\Nin (arrOf st2) lo m/\neq+1<=m/\(∀ i,lo+m-(neq+1)<=i->i<lo+m->K (arrOf st2) i=K (arrOf st2) (lo+m-1))) ?dstep ?dfin ⟨hB1,0,rfl,hs1,by omega,fun i h1 h2=>by congr 1;omega⟩) ?dpost)
   case dfin =>
    rintro c st2 ⟨hB2,neq,rfl,hs2,q1,q2⟩
    rw[show max (n+1) nrem=nrem by omega]at hs2 q1 q2 ⊢
    exact⟨hB2,nrem,neq,rfl,by omega,IG _,hs2,q1,q2⟩
   case dstep =>
    rintro x c st2 h1 h2 ⟨hB2,neq,rfl,hs2,q1,q2⟩
    dsimp only
    refine wpS_bind (ke hB2 h0 (by omega) (by omega) ?_)
    by_cases z:K (arrOf st2) (lo+x)<K (arrOf st2) (lo+x-1)
    ·simp only[z,decide_true,if_true]
     have nx:=zV hs2 (by omega) (Ko z)
     by_cases y:neq > 0
     ·refine aE y ?_
      refine wpS_bind (mL hB2 (by omega) (by omega) fun st3 hB3 e3=>?_)
      have e3':∀ k,K (arrOf st3) k=K (arrOf st2) k:=fun k=>by
       rw[e3]
       split
       ·rename_i hk
        rw[q2 _ (by omega) (by omega),q2 k (by omega) (by omega)]
       ·rfl
      refine wpS_pure ⟨hB3,0,rfl,fun i j a1 a2 a3=>?_,by omega,fun i h1 h2=>by congr 1;omega⟩
      rw[e3',e3']
      exact nx i j a1 a2 a3
     ·refine aD y ?_
      exact wpS_pure ⟨hB2,0,rfl,nx,by omega,fun i h1 h2=>by congr 1;omega⟩
    ·simp only[z,decide_false,JM,if_false]
     refine wpS_bind (ke hB2 h0 (by omega) (by omega) ?_)
     by_cases y:K (arrOf st2) (lo+x-1)<K (arrOf st2) (lo+x)
     ·simp only[y,decide_true,if_true]
      exact wpS_pure ⟨hB2,x,neq,rfl,by omega,by omega,hs2,q1,q2⟩
     ·simp only[y,decide_false,JM,if_false]
      have eq:K (arrOf st2) (lo+x)=K (arrOf st2) (lo+x-1):=by omega
      refine wpS_pure ⟨hB2,neq+1,rfl,zV hs2 (by omega) (by omega),by omega,fun i a1 a2=>?_⟩
      rw[show lo+(x+1)-1=lo+x by omega]
      by_cases ix:i=lo+x
      ·rw[ix]
      ·rw[eq];exact q2 i (by omega) (by omega)
   case dpost =>
    rintro c st2 ⟨hB2,m,neq,rfl,m1,m2,hs2,q1,q2⟩
    walk_at "st"
    walk_at "l4"
    extract_lets -underBinder +onlyGivenNames jp
    clear_value (ej:jp=_)
    have hj:∀ st3,SB lo st' st3->Nin (arrOf st3) lo m->wpS (model prog w) A E s (jp ()) Q st3:=by
     intro st3 hB3 hs3
     rw[ej]
     clear ej jp
     walk_at "st"
     refine wpS_bind (mL hB3 (IG _) (by omega) fun st4 hB4 e4=>?_)
     have hs4:Sin (arrOf st4) lo m:=fun i j a1 a2 a3=>by
      rw[e4,e4,if_pos (by omega),if_pos (by omega)]
      exact hs3 _ _ (by omega) (by omega) (by omega)
     refine wpS_bind (wpS_mono (wpS_forRange (I:=fun x c st'=>st'=st4/\c=(none,x)/\Sin (arrOf st4) lo x) (Q:=fun c st'=>st'=st4/\∃ n,c=(none,n)/\1<=n/\n<=nrem/\Sin (arrOf st4) lo n) ?ustep ?ufin ⟨rfl,rfl,hs4⟩) ?upost)
     case ufin =>
      rintro c st5 ⟨rfl,rfl,hs5⟩
      rw[show max m nrem=nrem by omega]at hs5 ⊢
      exact⟨rfl,nrem,rfl,n1,IG _,hs5⟩
     case ustep =>
      rintro x c st5 h1 h2 ⟨rfl,rfl,hs5⟩
      dsimp only
      refine wpS_bind (ke hB4 h0 (by omega) (by omega) ?_)
      by_cases z:K (arrOf st5) (lo+x)<K (arrOf st5) (lo+x-1)
      ·simp only[z,decide_true,if_true]
       exact wpS_pure ⟨rfl,x,rfl,by omega,by omega,hs5⟩
      ·simp only[z,decide_false,JM,if_false]
       exact wpS_pure ⟨rfl,rfl,FY hs5 (by omega) z⟩
     case upost =>
      rintro c st5 ⟨rfl,k,rfl,k1,k2,hs5⟩
      exact wpS_pure (h k st5 hB4 k1 k2 hs5)
    by_cases y:neq > 0
    ·refine aE y ?_
     refine wpS_bind (mL hB2 (by omega) (by omega) fun st3 hB3 e3=>hj st3 hB3 fun i j a1 a2 a3=>?_)
     have e3':∀ k,K (arrOf st3) k=K (arrOf st2) k:=fun k=>by
      rw[e3]
      split
      ·rename_i hk
       rw[q2 _ (by omega) (by omega),q2 k (by omega) (by omega)]
      ·rfl
     rw[e3',e3']
     exact hs2 i j a1 a2 a3
    ·refine aD y ?_
     exact hj st2 hB2 hs2
  by_cases y:n > 1
  ·refine aE y ?_
   refine wpS_bind (ke hB h0 (by omega) (by omega) ?_)
   by_cases r:K (arrOf st') lo<K (arrOf st') (lo+n-1)
   ·simp only[r,decide_true,if_true]
    exact wpS_pure (h n st' hB g1 g2 hs)
   ·simp only[r,decide_false,JM,if_false]
    have all:∀ k,lo<=k->k<lo+n->K (arrOf st') k=K (arrOf st') (lo+n-1):=fun k a1 a2=>by
     have b1:=hs lo k (IG _) a1 a2
     have b2:=hs k (lo+n-1) a1 (by omega) (by omega)
     omega
    refine wpS_bind (mL hB (IG _) (by omega) fun st1 hB1 e1=>hj st1 hB1 ?_)
    have e1':∀ k,K (arrOf st1) k=K (arrOf st') k:=fun k=>by
     rw[e1]
     split
     ·rename_i hk
      rw[all _ (by omega) (by omega),all k (by omega) (by omega)]
     ·rfl
    refine zV (fun i j a1 a2 a3=>?_) (by omega) ?_
    ·rw[e1',e1',all i a1 (by omega),all j (by omega) a3]
     exact Kk _
    ·rw[e1',e1']
     exact Ko hlt
  ·refine aD y ?_
   have:n=1:=by omega
   subst this
   refine hj st' hB (zV (fun i j a1 a2 a3=>?_) (by omega) (Ko hlt))
   have:i=j:=by omega
   rw[this];exact Kk _
def oG:Nat->Nat->Nat->StateT SortSt Sem Bool:=sortPriv% PySem.Builtin.binarySort
theorem ED{st0 st:SortSt}{lo n m:Nat}{Q:Bool->SortSt->Prop}(h0:g7 (arrOf st0))(hn:lo+n<=(arrOf st0).size)(hm:m<=n)(hB:SB lo st0 st)(hs:Sin (arrOf st) lo m)
  (h:∀ st',SB lo st0 st'->Sin (arrOf st') lo n->Q true st'):wpS (model prog w) A E s (oG lo n m) Q st:=by
 unfold oG
 walk_at "binarySort"
 refine wpS_bind (wpS_mono (wpS_forRange (I:=fun k c st'=>c=(none,())/\SB lo st0 st'/\Sin (arrOf st') lo (min k n))
  (Q:=fun c st'=>c=(none,())/\SB lo st0 st'/\Sin (arrOf st') lo n) ?step ?fin ?init) ?post)
 case post =>
  rintro c st' ⟨rfl,hB',hs'⟩
  exact wpS_pure (h st' hB' hs')
 case init =>
  refine⟨rfl,hB,fun i j h1 h2 h3=>?_⟩
  by_cases z:m=0
  ·have:i=j:=by omega
   rw[this];exact Kk _
  ·exact hs i j h1 h2 (by omega)
 case fin =>
  rintro c st' ⟨hc,hB',hs'⟩
  refine⟨hc,hB',?_⟩
  rwa[show min (max (max m 1) n) n=n by omega]at hs'
 case step =>
  rintro k c st' hak hkn ⟨rfl,hB',hs'⟩
  rw[show min k n=k by omega]at hs'
  dsimp only
  refine wpS_bind (wpS_mono (wpS_forRange (I:=fun x c st''=>st''=st'/\∃ l r,c=(none,l,r)/\l<=r/\r<=k/\r-l<=k-x /\
    (∀ i,lo<=i->i<lo+l->K (arrOf st') i<=K (arrOf st') (lo+k))/\(∀ i,lo+r<=i->i<lo+k->K (arrOf st') (lo+k)<K (arrOf st') i))
   (Q:=fun c st''=>st''=st'/\∃ l,c=(none,l,l)/\l<=k /\
    (∀ i,lo<=i->i<lo+l->K (arrOf st') i<=K (arrOf st') (lo+k))/\(∀ i,lo+l<=i->i<lo+k->K (arrOf st') (lo+k)<K (arrOf st') i)) ?istep ?ifin ⟨rfl,0,k,rfl,by omega,by omega,by omega,fun i h1 h2=>by omega,fun i h1 h2=>by omega⟩) ?ipost)
  case ifin =>
   rintro c st'' ⟨rfl,l,r,rfl,q1,q2,q3,q4,q5⟩
   have:l=r:=by omega
   subst this
   exact⟨rfl,l,rfl,q2,q4,q5⟩
  case istep =>
   rintro x c st'' _ hxk ⟨rfl,l,r,rfl,q1,q2,q3,q4,q5⟩
   dsimp only
   by_cases z:l ≥ r
   ·refine aE z ?_
    have:l=r:=by omega
    subst this
    exact wpS_pure ⟨rfl,l,rfl,q2,q4,q5⟩
   ·refine aD z ?_
    refine wpS_bind (ke hB' h0 (by omega) (by omega) ?_)
    by_cases y:K (arrOf st'') (lo+k)<K (arrOf st'') (lo+(l+r)/2)
    ·simp only[y,decide_true,if_true]
     refine wpS_pure ⟨rfl,l,(l+r)/2,rfl,by omega,by omega,by omega,q4,fun i h1 h2=>?_⟩
     have:=hs' (lo+(l+r)/2) i (by omega) h1 h2
     omega
    ·simp only[y,decide_false,JM,if_false]
     refine wpS_pure ⟨rfl,(l+r)/2+1,r,rfl,by omega,by omega,by omega,fun i h1 h2=>?_,q5⟩
     have:=hs' i (lo+(l+r)/2) h1 (by omega) (by omega)
     omega
  case ipost =>
   rintro c st'' ⟨rfl,l,rfl,q1,q2,q3⟩
   dsimp only
   have hks:lo+k<(arrOf st'').size:=by rw[hB'.size];omega
   have el:lo+k-(lo+k-(lo+l))=lo+l:=by omega
   refine wpS_bind ?_
   show wpS _ _ _ _ (moveDown' (lo+k) (lo+l)) _ _
   rw[moveDown'_eq]
   refine wpS_modify (wpS_pure ⟨rfl,hB'.set (bubble_perm _ _ _) fun i hi=>?_,?_⟩)
   ·rw[getElem?_bubble hks _ (by omega),el,if_neg (by omega),if_neg (by omega)]
   ·rw[show min (k+1) n=k+1 by omega]
    intro i j h1 h2 h3
    show K (bubble (arrOf st'') (lo+k) (lo+k-(lo+l))) i<=K (bubble (arrOf st'') (lo+k) (lo+k-(lo+l))) j
    rw[Ao hks (by omega),Ao hks (by omega),el]
    repeat' split
    all_goals first
     | (exfalso;omega)
     |exact Kk _
     |exact q2 _ (by omega) (by omega)
     |exact Ko (q3 _ (by omega) (by omega))
     |exact hs' _ _ (by omega) (by omega) (by omega)
end PyProof.RowsP
namespace PyProof.RowsP
open PySem PyProof.Rows
local macro_rules | `(tactic| walk_at "mergeAt") => do
 let n:=Lean.mkIdent (Lean.mkPrivateNameCore `PySem.Builtin.List.W1All `PySem.Builtin.mergeAt)
 `(tactic| delta $n)
local macro_rules | `(tactic| walk_at "st") => `(tactic| try dsimp -zeta -zetaHave only)
local macro_rules | `(tactic| walk_at "l3") => `(tactic| (extract_lets -underBinder +onlyGivenNames a b c; subst a b c))
local macro_rules | `(tactic| walk_at "l11") => `(tactic| (extract_lets -underBinder +onlyGivenNames a b c d e f g h i j k; subst a b c d e f g h i j k; dsimp -zeta -zetaHave only))
local macro_rules | `(tactic| walk_at "l1") => `(tactic| (extract_lets -underBinder +onlyGivenNames a; subst a; try dsimp -zeta -zetaHave only))
local macro_rules | `(tactic| walk_at "l2") => `(tactic| (extract_lets -underBinder +onlyGivenNames a b; subst a b; try dsimp -zeta -zetaHave only))
local macro_rules | `(tactic| walk_at "l4") => `(tactic| (extract_lets -underBinder +onlyGivenNames a b c d; subst a b c d; try dsimp -zeta -zetaHave only))
variable{prog:Program}{w:World}{A:Around}{E:Value->Shared->Prop}{s:Shared} [KF:KeyFn] [LO:LtOk prog w A E s]
theorem tR{P:List Keyed}{i n m:Nat}(hm:m<n):((P.drop i).take n)[m]?=P[i+m]?:=by
 rw[KP,if_pos hm,KQ]
theorem FZ{P:List Keyed}{i n x y:Nat}{p q:Keyed}(u:Upl ((P.drop i).take n))(hp:P[i+x]?=some p)(hq:P[i+y]?=some q)(h:x<=y)(hy:y<n):ky p<=ky q :=
 EF u (i:=x) (j:=y) (by rw[tR (by omega)];exact hp) (by rw[tR hy];exact hq) h
theorem BI{st:SortSt}{key:Keyed}{arr:Array Keyed}{base n hint:Nat}{Q:Option Nat->SortSt->Prop}(hk:kindOf st=KeyFn.kd)(hkey:IntP key)(u:Upl ((arr.toList.drop base).take n))(ip:∀ x∈arr.toList,IntP x)(hn:base+n<=arr.size)(hh:hint<n)
  (h:∀ k,k<=n->(∀ i,i<k->fR arr.toList base key i=true)->(∀ i,k<=i->i<n->fR arr.toList base key i=false)->Q (some k) st):wpS (model prog w) A E s ((sortPriv% PySem.Builtin.gallop) false key arr base n hint) Q st:=by
 have la:arr.toList.length=arr.size:=by simp
 refine hJ (fR arr.toList base key) hk hkey (fun i hi=>?_) (fun x y hxy hy e=>?_) hh h
 ·have hx:arr.toList[base+i]?=some arr.toList[base+i]:=IB (by omega)
  exact⟨_,by rw[← hx];simp,ip _ (Kc _),by rw[nX hx];rfl⟩
 ·have hx:arr.toList[base+x]?=some arr.toList[base+x]:=IB (by omega)
  have hy':arr.toList[base+y]?=some arr.toList[base+y]:=IB (by omega)
  rw[nX hy']at e
  rw[nX hx]
  have:=FZ u hx hy' hxy hy
  simp only[Li,decide_eq_false_iff_not]at e ⊢
  omega
theorem BJ{st:SortSt}{key:Keyed}{arr:Array Keyed}{base n hint:Nat}{Q:Option Nat->SortSt->Prop}(hk:kindOf st=KeyFn.kd)(hkey:IntP key)(u:Upl ((arr.toList.drop base).take n))(ip:∀ x∈arr.toList,IntP x)(hn:base+n<=arr.size)(hh:hint<n)
  (h:∀ k,k<=n->(∀ i,i<k->fL arr.toList base key i=true)->(∀ i,k<=i->i<n->fL arr.toList base key i=false)->Q (some k) st):wpS (model prog w) A E s ((sortPriv% PySem.Builtin.gallop) true key arr base n hint) Q st:=by
 have la:arr.toList.length=arr.size:=by simp
 refine hJ (fL arr.toList base key) hk hkey (fun i hi=>?_) (fun x y hxy hy e=>?_) hh h
 ·have hx:arr.toList[base+i]?=some arr.toList[base+i]:=IB (by omega)
  exact⟨_,by rw[← hx];simp,ip _ (Kc _),by rw[pF hx];rfl⟩
 ·have hx:arr.toList[base+x]?=some arr.toList[base+x]:=IB (by omega)
  have hy':arr.toList[base+y]?=some arr.toList[base+y]:=IB (by omega)
  rw[pF hy']at e
  rw[pF hx]
  have:=FZ u hx hy' hxy hy
  simp only[decide_eq_true_eq]at e ⊢
  omega
theorem C6{P:List Keyed}{i n k:Nat}{y:Keyed}(h:y∈((P.drop i).take n).drop k):∃ m,k<=m/\m<n/\P[i+m]?=some y:=by
 obtain⟨m,e⟩:=C7 h
 have hl:=(IA.mp e).1
 rw[Jg]at hl
 rw[tR (by omega)]at e
 exact⟨k+m,by omega,by omega,e⟩
theorem fR_sh{P:List Keyed}{i n k:Nat}{v:Keyed}(h:∀ m,k<=m->m<n->fR P i v m=false):∀ y∈((P.drop i).take n).drop k,ky v<ky y:=fun y hy=>by
 obtain⟨m,h1,h2,e⟩:=C6 hy
 have:=h m h1 h2
 rw[nX e]at this
 simpa using this
theorem fL_sh{P:List Keyed}{i n k:Nat}{v:Keyed}(h:∀ m,k<=m->m<n->fL P i v m=false):∀ y∈((P.drop i).take n).drop k,ky v<=ky y:=fun y hy=>by
 obtain⟨m,h1,h2,e⟩:=C6 hy
 have:=h m h1 h2
 rw[pF e]at this
 simp only[decide_eq_false_iff_not]at this
 omega
theorem Ae(c:Nat):∀(l:List Keyed)(n:Nat)(xs:Array Keyed),c+n+l.length<=xs.size->((l.zipIdx n).foldl (fun a x=>match x with | (p,j)=>a.setIfInBounds (c+j) p) xs).toList=xs.toList.take (c+n)++l++xs.toList.drop (c+n+l.length)
 |[],n,xs,_=>by
  show xs.toList=_
  rw[Kz,KW,Nat.add_zero,Ji]
 |p::l,n,xs,h=>by
  have ll:xs.toList.length=xs.size:=by simp
  rw[Jm]at h ⊢
  rw[Mm,List.foldl_cons]
  show((l.zipIdx (n+1)).foldl _ (xs.setIfInBounds (c+n) p)).toList=_
  rw[Ae c l (n+1) _ (by rw[MH];omega),Mw,List.drop_set_of_lt (by omega),show c+(n+1)=c+n+1 by omega,show c+n+1+l.length=c+n+(l.length+1) by omega]
  have e:(xs.toList.set (c+n) p).take (c+n+1)=xs.toList.take (c+n)++[p]:=by
   rw[Jk,List.take_set_of_le (IG _),LK (by omega)]
   rfl
  rw[e,Jq (xs.toList.take (c+n)) [p] l]
  rfl
theorem zE{P R:List Keyed}(u:Upl P)(v:Upl R)(c:∀ x∈P,∀ y∈R,ky x<=ky y):Upl (P++R):=JH.mpr ⟨u,v,c⟩
theorem GO{σ:Type}{M:Model}{x st:σ}{Q:PUnit->σ->Prop}(h:Q ⟨⟩ x):wpS M A E s (set x:StateT σ Sem PUnit) Q st:=by
 unfold wpS
 rw[StateT.run_set]
 exact wpAny_pure ⟨rfl,h⟩
def z6:Nat->StateT SortSt Sem Bool:=sortPriv% PySem.Builtin.mergeAt
theorem wu{st:SortSt}{i sa na pa sb nb pb:Nat}{Q:Bool->SortSt->Prop}(hk:kindOf st=KeyFn.kd)(hf:failedOf st=none)(h0:g7 (arrOf st))(p1:(pendingOf st)[i]?=some (sa,na,pa))(p2:(pendingOf st)[i+1]?=some (sb,nb,pb))(es:sb=sa+na)(a1:1<=na)(b1:1<=nb)(le:sb+nb<=(arrOf st).size)
  (s1:Upl (((arrOf st).toList.drop sa).take na)) (s2:Upl (((arrOf st).toList.drop sb).take nb))
  (h:∀(st':SortSt)(M:List Keyed),kindOf st'=KeyFn.kd->failedOf st'=none->pendingOf st'=((pendingOf st).setIfInBounds i (sa,na+nb,pa)).eraseIdxIfInBounds (i+1)->(arrOf st').toList=(arrOf st).toList.take sa++M++(arrOf st).toList.drop (sb+nb)->M.Perm (((arrOf st).toList.drop sa).take na++((arrOf st).toList.drop sb).take nb)->Upl M->Q true st') :
  wpS (model prog w) A E s (z6 i) Q st:=by
 unfold z6
 walk_at "mergeAt"
 refine wpS_bind (wpS_get ?_)
 rw[show((sortPriv% PySem.Builtin.SortState.pending) st)[i]?=some (sa,na,pa) from p1,show((sortPriv% PySem.Builtin.SortState.pending) st)[i+1]?=some (sb,nb,pb) from p2]
 dsimp -zeta -zetaHave only
 refine wpS_bind (GO ?_)
 obtain⟨xs,exs⟩:∃ xs,arrOf st=xs:=⟨_,rfl⟩
 obtain⟨st1,est1⟩:∃ st1:SortSt,SortSt.mk' (kindOf st) (arrOf st) (((pendingOf st).setIfInBounds i (sa,na+nb,pa)).eraseIdxIfInBounds (i+1)) (gallopOf st) (failedOf st)=st1:=⟨_,rfl⟩
 have k1:kindOf st1=KeyFn.kd:=by rw[← est1];exact hk
 have f1:failedOf st1=none:=by rw[← est1];exact hf
 have e1:arrOf st1=xs:=by rw[← est1,← exs]
 have q1:pendingOf st1=((pendingOf st).setIfInBounds i (sa,na+nb,pa)).eraseIdxIfInBounds (i+1):=by rw[← est1]
 show wpS (model prog w) A E s _ Q (SortSt.mk' (kindOf st) (arrOf st) (((pendingOf st).setIfInBounds i (sa,na+nb,pa)).eraseIdxIfInBounds (i+1)) (gallopOf st) (failedOf st))
 rw[est1]
 clear est1
 rw[show(sortPriv% PySem.Builtin.SortState.a) st=xs from exs]
 rw[exs]at h0 le s1 s2 h
 clear exs p1 p2 hf hk
 have ll:xs.toList.length=xs.size:=by simp
 have ip:∀ x∈xs.toList,IntP x:=fun x hx=>h0 x hx
 have at':∀ i,i<xs.size->∃ x,xs.toList[i]?=some x/\IntP x:=fun i hi=>⟨_,IB (by omega),ip _ (Kc _)⟩
 obtain⟨b0,hb0,ib0⟩:=at' sb (by omega)
 refine wpS_bind (aF (at_l hb0) ?_)
 refine wpS_bind (BI k1 ib0 s1 ip (by omega) (by omega) fun k kn kt kf=>?_)
 dsimp -zeta -zetaHave only
 obtain⟨S1,eS1⟩:∃ S1,(xs.toList.drop sa).take na=S1:=⟨_,rfl⟩
 obtain⟨S2,eS2⟩:∃ S2,(xs.toList.drop sb).take nb=S2:=⟨_,rfl⟩
 have l1:S1.length=na:=by rw[← eS1,Jg,JF];omega
 have l2:S2.length=nb:=by rw[← eS2,Jg,JF];omega
 have tk1:S1.take k=(xs.toList.drop sa).take k:=by rw[← eS1,Lx,KS kn]
 have lo1:∀ x∈S1.take k,ky x<=ky b0:=by rw[tk1];exact Ig kt
 have hi1:∀ y∈S1.drop k,ky b0<ky y:=by rw[← eS1];exact fR_sh kf
 have bS:S2[0]?=some b0:=by rw[← eS2,tR (by omega)];exact hb0
 rw[eS1]at s1
 rw[eS2]at s2
 have b0l:∀ y∈S2,ky b0<=ky y:=iX (i:=0) s2 bS
 have whole:Upl (S1++S2)->Q true st1:=fun u=>h st1 (S1++S2) k1 f1 q1 (by
  rw[e1,← eS1,← eS2,← Jq,es,← Lr,← Lr,← es,Ji]) (by rw[eS1,eS2]) u
 by_cases z:(na-k == 0)=true
 ·refine aE z ?_
  have z':na-k=0:=by simpa using z
  refine wpS_pure (whole (zE s1 s2 fun x hx y hy=>?_))
  have:=lo1 x (by rw[Jx (by omega)];exact hx)
  have:=b0l y hy
  omega
 refine aD z ?_
 have z':na-k≠0:=by simpa using z
 obtain⟨al,hal,ial⟩:=at' (sa+k+(na-k)-1) (by omega)
 have aS:S1[na-1]?=some al:=by rw[← eS1,tR (by omega),← hal];congr 1;omega
 refine wpS_bind (aF (at_l hal) ?_)
 refine wpS_bind (BJ k1 ial (by rw[eS2];exact s2) ip (by omega) (by omega) fun m mn mt mf=>?_)
 dsimp -zeta -zetaHave only
 have tk2:S2.take m=(xs.toList.drop sb).take m:=by rw[← eS2,Lx,KS mn]
 have lo2:∀ x∈S2.take m,ky x<ky al:=by rw[tk2];exact Ii mt
 have hi2:∀ y∈S2.drop m,ky al<=ky y:=by rw[← eS2];exact fL_sh mf
 have all:∀ x∈S1,ky x<=ky al:=fun x hx=>kg s1 aS x (by rw[Jx (by omega)];exact hx)
 by_cases y:(m == 0)=true
 ·refine aE y ?_
  have y':m=0:=by simpa using y
  subst y'
  exact wpS_pure (whole (zE s1 s2 fun x hx y hy=>Mj (all x hx) (hi2 y hy)))
 refine aD y ?_
 have y':m≠0:=by simpa using y
 walk_at "st"
 extract_lets -underBinder +onlyGivenNames xx yy jp
 subst xx yy
 clear_value (ej:jp=_)
 have ea:(xs.extract (sa+k) sb).toList=S1.drop k:=by
  rw[se,← eS1,Lk,Lk,K7]
  congr 1
  omega
 have eb:(xs.extract sb (sb+m)).toList=S2.take m:=by rw[mW,tk2]
 have za:(xs.extract (sa+k) sb).size=na-k:=by rw[← JK,ea,JF,l1]
 have zb:(xs.extract sb (sb+m)).size=m:=by rw[← JK,eb,Jg];omega
 have ipa:∀ x∈(xs.extract (sa+k) sb).toList,IntP x:=fun x hx=>by
  rw[se]at hx
  exact ip x (JQ (JR hx))
 have ipb:∀ x∈(xs.extract sb (sb+m)).toList,IntP x:=fun x hx=>by
  rw[mW]at hx
  exact ip x (JR (JQ hx))
 have ua:Upl (xs.extract (sa+k) sb).toList:=by rw[ea];exact s1.drop
 have ub:Upl (xs.extract sb (sb+m)).toList:=by rw[eb];exact s2.take
 have c0:∀ x y:Keyed,(xs.extract sb (sb+m)).toList[0]?=some x->y∈(xs.extract (sa+k) sb).toList->ky x<ky y:=fun x y hx hy=>by
  rw[eb,KP,if_pos (by omega),bS]at hx
  cases hx
  rw[ea]at hy
  exact hi1 y hy
 have cl:∀ x y:Keyed,x∈(xs.extract sb (sb+m)).toList->(xs.extract (sa+k) sb).toList[(xs.extract (sa+k) sb).size-1]?=some y->ky x<ky y:=fun x y hx hy=>by
  rw[za,ea,KQ,show k+(na-k-1)=na-1 by omega,aS]at hy
  cases hy
  rw[eb]at hx
  exact lo2 x hx
 have hj:∀(R:Array Keyed)(st2:SortSt),SmG st1 st2->R.toList.Perm ((xs.extract (sa+k) sb).toList++(xs.extract sb (sb+m)).toList)->Upl R.toList->wpS (model prog w) A E s (jp R) Q st2:=by
  intro R st2 sg pm up
  rw[ej]
  clear ej jp
  walk_at "st"
  rw[ea,eb]at pm
  have rl:R.toList.length=na-k+m:=by rw[pm.length_eq,IF,JF,Jg,l1,l2];omega
  refine wpS_bind (wpS_modify ?_)
  refine wpS_bind (wpS_get ?_)
  have ff:(sortPriv% PySem.Builtin.SortState.failed) st2=none:=sg.f.trans f1
  show wpS (model prog w) A E s (pure ((sortPriv% PySem.Builtin.SortState.failed) st2).isNone) Q _
  rw[ff]
  have tk:∀ x∈S1.take k,∀ y∈S1.drop k,ky x<=ky y:=by
   have:Upl (S1.take k++S1.drop k):=by rw[Ji];exact s1
   exact(JH.mp this).2.2
  have tk':∀ x∈S2.take m,∀ y∈S2.drop m,ky x<=ky y:=by
   have:Upl (S2.take m++S2.drop m):=by rw[Ji];exact s2
   exact(JH.mp this).2.2
  refine wpS_pure (h _ (S1.take k++R.toList++S2.drop m) (sg.k.trans k1) rfl (sg.p.trans q1) ?_ ?_ ?_)
  ·show(R.toList.zipIdx.foldl (fun a x=>match x with | (p,j)=>a.setIfInBounds (sa+k+j) p) (arrOf st2)).toList=_
   rw[sg.a,e1,Ae (sa+k) R.toList 0 xs (by omega),Nat.add_zero,rl,show sa+k+(na-k+m)=sb+m by omega,Lr,← tk1]
   have ed:xs.toList.drop (sb+m)=S2.drop m++xs.toList.drop (sb+nb):=by
    rw[← K7,← eS2]
    have e:=congrArg (List.drop m) (Ji nb (xs.toList.drop sb))
    rw[Mn,Jg,JF,show m-min nb (xs.toList.length-sb)=0 by omega,LZ,K7]at e
    exact e.symm
   rw[ed]
   simp only[Jq]
  ·rw[eS1,eS2]
   have e:S1++S2=S1.take k++(S1.drop k++S2.take m)++S2.drop m:=by
    rw[Jq,Jq,Ji,← Jq,Ji]
   rw[e]
   exact(Kg _ pm).append_right _
  ·refine zE (zE s1.take up fun x hx y hy=>?_) s2.drop fun x hx y hy=>?_
   ·rcases IK.mp (pm.mem_iff.mp hy)with hy | hy
    ·exact tk x hx y hy
    ·have:=lo1 x hx
     have:=b0l y (JQ hy)
     omega
   ·rcases IK.mp hx with hx | hx
    ·have:=lo1 x hx
     have:=b0l y (JR hy)
     omega
    ·rcases IK.mp (pm.mem_iff.mp hx)with hx | hx
     ·exact Mj (all x (JR hx)) (hi2 y hy)
     ·exact tk' x hx y hy
 clear ej
 by_cases c:na-k<=m
 ·refine aE c ?_
  exact wpS_bind (wo k1 ua ub ipa ipb (by omega) (by omega) (fun x y a b=>Ko (c0 x y a b)) cl fun R st2 sg pm up=>hj R st2 sg pm up)
 ·refine aD c ?_
  exact wpS_bind (wq k1 ua ub ipa ipb (by omega) (by omega) c0 cl fun R st2 sg pm up=>hj R st2 sg pm up)
end PyProof.RowsP
namespace PyProof.RowsP
open PySem PyProof.Rows
local macro_rules | `(tactic| walk_at "sortRuns") => do
 let n:=Lean.mkIdent (Lean.mkPrivateNameCore `PySem.Builtin.List.W1All `PySem.Builtin.sortRuns)
 `(tactic| delta $n)
local macro_rules | `(tactic| walk_at "st") => `(tactic| try dsimp -zeta -zetaHave only)
local macro_rules | `(tactic| walk_at "l3") => `(tactic| (extract_lets -underBinder +onlyGivenNames a b c; subst a b c))
local macro_rules | `(tactic| walk_at "l11") => `(tactic| (extract_lets -underBinder +onlyGivenNames a b c d e f g h i j k; subst a b c d e f g h i j k; dsimp -zeta -zetaHave only))
local macro_rules | `(tactic| walk_at "l1") => `(tactic| (extract_lets -underBinder +onlyGivenNames a; subst a; try dsimp -zeta -zetaHave only))
local macro_rules | `(tactic| walk_at "l2") => `(tactic| (extract_lets -underBinder +onlyGivenNames a b; subst a b; try dsimp -zeta -zetaHave only))
local macro_rules | `(tactic| walk_at "l4") => `(tactic| (extract_lets -underBinder +onlyGivenNames a b c d; subst a b c d; try dsimp -zeta -zetaHave only))
variable{prog:Program}{w:World}{A:Around}{E:Value->Shared->Prop}{s:Shared} [KF:KeyFn] [LO:LtOk prog w A E s]
def Rn(L:List Keyed):List (Nat×Nat×Nat)->Nat->Nat->Prop
 |[],c,e=>c=e
 |p::t,c,e=>p.1=c/\1<=p.2.1/\Upl ((L.drop p.1).take p.2.1)/\Rn L t (c+p.2.1) e
theorem Rn.le{L:List Keyed}:∀{T:List (Nat×Nat×Nat)}{c e:Nat},Rn L T c e->c+T.length<=e
 |[],c,e,h=>by cases h;exact IG _
 |p::t,c,e,⟨_,h1,_,h⟩=>by
  have:=Rn.le h
  rw[Jm]
  omega
theorem Rn.app{L:List Keyed}:∀{T1 T2:List (Nat×Nat×Nat)}{c e:Nat},Rn L (T1++T2) c e↔∃ m,Rn L T1 c m/\Rn L T2 m e
 |[],T2,c,e=>⟨fun h=>⟨c,rfl,h⟩,fun⟨m,h1,h2⟩=>by cases h1;exact h2⟩
 |p::t,T2,c,e=>by
  constructor
  ·rintro⟨h1,h2,h3,h4⟩
   obtain⟨m,g1,g2⟩:=Rn.app.mp h4
   exact⟨m,⟨h1,h2,h3,g1⟩,g2⟩
  ·rintro⟨m,⟨h1,h2,h3,g1⟩,g2⟩
   exact⟨h1,h2,h3,Rn.app.mpr ⟨m,g1,g2⟩⟩
theorem Rn.lo{L L':List Keyed}{m:Nat}(hm:L.take m=L'.take m):∀{T:List (Nat×Nat×Nat)}{c e:Nat},Rn L T c e->e<=m->Rn L' T c e
 |[],c,e,h,_=>h
 |p::t,c,e,⟨h1,h2,h3,h4⟩,he=>by
  have hl:=h4.le
  refine⟨h1,h2,?_,Rn.lo hm h4 he⟩
  have cut:∀ Z:List Keyed,(Z.drop p.1).take p.2.1=((Z.take m).drop p.1).take p.2.1:=fun Z=>by
   rw[Lk,Lx,KS (by omega)]
  rw[cut L',← hm,← cut L]
  exact h3
theorem Rn.hi{L L':List Keyed}{m:Nat}(hm:L.drop m=L'.drop m):∀{T:List (Nat×Nat×Nat)}{c e:Nat},Rn L T c e->m<=c->Rn L' T c e
 |[],c,e,h,_=>h
 |p::t,c,e,⟨h1,h2,h3,h4⟩,he=>by
  refine⟨h1,h2,?_,Rn.hi hm h4 (by omega)⟩
  have cut:∀ Z:List Keyed,Z.drop p.1=(Z.drop m).drop (p.1-m):=fun Z=>by rw[K7];congr 1;omega
  rw[cut L',← hm,← cut L]
  exact h3
theorem Rn.like{L:List Keyed}:∀{T T':List (Nat×Nat×Nat)}{c e:Nat},T.map (fun p=>(p.1,p.2.1))=T'.map (fun p=>(p.1,p.2.1))->Rn L T c e->Rn L T' c e
 |[],[],c,e,_,h=>h
 |p::t,q::t',c,e,hm,⟨h1,h2,h3,h4⟩=>by
  rw[Ju,Ju]at hm
  injection hm with a b
  injection a with a1 a2
  refine⟨by rw[← a1];exact h1,by rw[← a2];exact h2,by rw[← a1,← a2];exact h3,?_⟩
  rw[← a2]
  exact Rn.like b h4
 |[],q::t',c,e,hm,h=>by cases hm
 |p::t,[],c,e,hm,h=>by cases hm
structure SI(a₀:Array Keyed)(lo:Nat)(st:SortSt):Prop where
 perm:(arrOf st).Perm a₀
 kind:kindOf st=KeyFn.kd
 failed:failedOf st=none
 rn:Rn (arrOf st).toList (pendingOf st).toList 0 lo
 le:lo<=a₀.size
theorem SI.size{a₀:Array Keyed}{lo:Nat}{st:SortSt}(h:SI a₀ lo st):(arrOf st).size=a₀.size:=h.perm.size_eq
theorem SI.keys{a₀:Array Keyed}{lo:Nat}{st:SortSt}(h:SI a₀ lo st)(h0:g7 a₀):g7 (arrOf st):=fun p hp=>h0 p ((K2.mp h.perm).mem_iff.mp hp)
theorem m5{a₀:Array Keyed}{lo i:Nat}{st:SortSt}{Q:Bool->SortSt->Prop}(h0:g7 a₀)(hS:SI a₀ lo st)(hi:i+1<(pendingOf st).size)(h:∀ st',SI a₀ lo st'->(pendingOf st').size+1=(pendingOf st).size->(arrOf st').toList.drop lo=(arrOf st).toList.drop lo->Q true st') :
  wpS (model prog w) A E s ((sortPriv% PySem.Builtin.mergeAt) i) Q st:=by
 have tl:(pendingOf st).toList.length=(pendingOf st).size:=by simp
 obtain⟨T,eT⟩:∃ T,(pendingOf st).toList=T:=⟨_,rfl⟩
 rw[eT]at tl
 have g1:(pendingOf st)[i]?=some T[i]:=by rw[← IB,← eT];simp
 have g2:(pendingOf st)[i+1]?=some T[i+1]:=by rw[← IB,← eT];simp
 have sp:T=T.take i++T[i]::T[i+1]::T.drop (i+2):=by
  rw[← Ks,← Ks,Ji]
 obtain⟨T1,eT1⟩:∃ T1,T.take i=T1:=⟨_,rfl⟩
 obtain⟨T2,eT2⟩:∃ T2,T.drop (i+2)=T2:=⟨_,rfl⟩
 obtain⟨⟨sa,na,pa⟩,ep⟩:∃ p,T[i]=p:=⟨_,rfl⟩
 obtain⟨⟨sb,nb,pb⟩,eq⟩:∃ p,T[i+1]=p:=⟨_,rfl⟩
 have t1l:T1.length=i:=by rw[← eT1,Jg];omega
 rw[ep]at g1
 rw[eq]at g2
 rw[eT1,eT2,ep,eq]at sp
 have rn:=hS.rn
 rw[eT,sp]at rn
 obtain⟨m,r1,⟨x1,x2,x3,⟨y1,y2,y3,r2⟩⟩⟩:=Rn.app.mp rn
 dsimp only at x1 x2 x3 y1 y2 y3 r2
 have le2:=r2.le
 have le:=hS.le
 have sz:=hS.size
 have ll:(arrOf st).toList.length=(arrOf st).size:=by simp
 refine wu hS.kind hS.failed (hS.keys h0) g1 g2 (by omega) x2 y2 (by omega) x3 y3 fun st' M k' f' p' e' pm up=>?_
 have Ml:M.length=na+nb:=by
  rw[pm.length_eq,IF,Jg,Jg,JF,JF]
  omega
 have hpp:(pendingOf st').toList=T1++(sa,na+nb,pa)::T2:=by
  rw[p']
  have:(((pendingOf st).setIfInBounds i (sa,na+nb,pa)).eraseIdxIfInBounds (i+1)).toList=(T.set i (sa,na+nb,pa)).eraseIdx (i+1):=by
   unfold Array.eraseIdxIfInBounds
   rw[dif_pos (by rw[MH];exact hi),Array.toList_eraseIdx,Mw,eT]
  rw[this,sp,← t1l,LR _ _ (IG _),Je,List.set_cons_zero,List.eraseIdx_append_of_length_le (by omega),show T1.length+1-T1.length=1 by omega]
  rfl
 have ptl:(pendingOf st').size+1=(pendingOf st).size:=by
  have a:=congrArg List.length hpp
  have b:=congrArg List.length sp
  simp only[IF,Jm,JK]at a b
  omega
 have es:sb=sa+na:=by omega
 have lt:((arrOf st).toList.take sa).length=sa:=by rw[Jg];omega
 have tke:(arrOf st).toList.take m=(arrOf st').toList.take m:=by
  rw[e',Jq,Lo (by omega),Lx,x1,Nat.min_self]
 have dre:(arrOf st).toList.drop (sb+nb)=(arrOf st').toList.drop (sb+nb):=by
  rw[e',List.drop_left' (by rw[IF,lt,Ml];omega)]
 refine h st' ⟨?_,k',f',?_,le⟩ ptl (by
  have e:=congrArg (List.drop (lo-(sb+nb))) dre
  rw[K7,K7,show sb+nb+(lo-(sb+nb))=lo by omega]at e
  exact e.symm)
 ·refine Array.Perm.trans (K2.mpr ?_) hS.perm
  rw[e']
  have e2:(arrOf st).toList=(arrOf st).toList.take sa++(((arrOf st).toList.drop sa).take na++((arrOf st).toList.drop sb).take nb)++(arrOf st).toList.drop (sb+nb):=by
   have es:sb=sa+na:=by omega
   rw[← Jq,es,← Lr,← Lr,Ji]
  exact((Kg _ pm).append_right _).trans (List.Perm.of_eq e2.symm)
 ·rw[hpp]
  refine Rn.app.mpr ⟨m,r1.lo tke (IG _),x1,by show 1<=na+nb;omega,?_,?_⟩
  ·show Upl (((arrOf st').toList.drop sa).take (na+nb))
   have:((arrOf st').toList.drop sa).take (na+nb)=M:=by
    rw[e',Jq,Mn,lt,Je,LZ,LL (by omega),LV,Lo (by omega),Jx (by omega)]
   rw[this]
   exact up
  ·show Rn _ T2 (m+(na+nb)) lo
   have:=r2.hi dre (by omega)
   rw[show m+(na+nb)=m+na+nb by omega]
   exact this
theorem G8{xs:Array Keyed}{lo n:Nat}(h:Sin xs lo n)(hn:lo+n<=xs.size):Upl ((xs.toList.drop lo).take n):=by
 have ll:xs.toList.length=xs.size:=by simp
 refine Kf.mpr fun i j hi hj hij=>?_
 rw[Jg,JF]at hj
 rw[LA,Mf,LA,Mf]
 have z:=h (lo+i) (lo+j) (by omega) (by omega) (by omega)
 rw[K_eq (by omega),K_eq (by omega)]at z
 simpa[ky] using z
theorem SB.si{a₀:Array Keyed}{lo:Nat}{st0 st:SortSt}(h:SB lo st0 st)(hS:SI a₀ lo st0):SI a₀ lo st:=by
 refine⟨h.perm.trans hS.perm,h.kind,h.failed.trans hS.failed,?_,hS.le⟩
 rw[h.pend]
 refine hS.rn.lo (Ky fun i=>?_) (IG _)
 rw[KP,KP]
 split
 ·rename_i hi
  have:=h.low i hi
  rw[← Kh,← Kh]at this
  exact this.symm
 ·rfl
theorem ite_lt(c:Bool){n:Nat}(h:¬ n<=1):(if c=true then n-2-1 else n-2)+1<n:=by split<;>omega
def tI:StateT SortSt Sem Unit:=sortPriv% PySem.Builtin.sortRuns
theorem wpS_sortAll{a₀:Array Keyed}{st:SortSt}{Q:Unit->SortSt->Prop}(h0:g7 a₀)(hS:SI a₀ 0 st)(h:∀ st',(arrOf st').Perm a₀->failedOf st'=none->Upl (arrOf st').toList->Q () st'):wpS (model prog w) A E s tI Q st:=by
 unfold tI
 walk_at "sortRuns"
 refine wpS_bind (wpS_get ?_)
 rw[show((sortPriv% PySem.Builtin.SortState.a) st).size=a₀.size from hS.size]
 walk_at "st"
 walk_at "l3"
 generalize (sortPriv% PySem.Builtin.minRun) a₀.size a₀.size 0=mr
 refine wpS_bind (wpS_mono (wpS_forRange (I:=fun x c st'=>∃ lo,c=(none,lo)/\SI a₀ lo st'/\(lo=a₀.size∨x<=lo)) (Q:=fun c st'=>c=(none,a₀.size)/\SI a₀ a₀.size st') ?step ?fin ⟨0,rfl,hS,.inr (IG _)⟩) ?post)
 case fin =>
  rintro c st' ⟨lo,rfl,hS',g⟩
  have:=hS'.le
  have:lo=a₀.size:=by omega
  subst this
  exact⟨rfl,hS'⟩
 case step =>
  rintro x c st' _ hx ⟨lo,rfl,hS',g⟩
  have le:=hS'.le
  have sz:=hS'.size
  by_cases z:lo ≥ a₀.size
  ·refine aE z ?_
   have:lo=a₀.size:=by omega
   subst this
   exact wpS_pure ⟨rfl,hS'⟩
  refine aD z ?_
  refine wx fun R hR=>?_
  refine wpS_bind (Ap hS'.kind (hS'.keys h0) (by omega) (by omega) fun m st1 hB1 m1 m2 hs1=>?_)
  walk_at "st"
  extract_lets -underBinder +onlyGivenNames nn jp
  subst nn
  clear_value (ej:jp=_)
  have hj:∀(n:Nat)(st2:SortSt),SB lo st' st2->1<=n->lo+n<=a₀.size->Sin (arrOf st2) lo n->wpS (model prog w) A E s (jp () n) R st2:=by
   intro n st2 hB2 n1 n2 hs2
   rw[ej]
   clear ej jp
   walk_at "st"
   have S2:=hB2.si hS'
   have u2:=G8 hs2 (by rw[S2.size];exact n2)
   refine wpS_bind (wpS_get ?_)
   walk_at "st"
   extract_lets -underBinder +onlyGivenNames jp
   clear_value (ej:jp=_)
   have hj:∀ st3:SortSt,SI a₀ lo st3->(arrOf st3).toList.drop lo=(arrOf st2).toList.drop lo->wpS (model prog w) A E s (jp ()) R st3:=by
    intro st3 S3 e3
    rw[ej]
    clear ej jp
    walk_at "st"
    refine wpS_bind (wpS_modify (wpS_pure (hR _ _ ⟨lo+n,rfl,⟨S3.perm,S3.kind,S3.failed,?_,n2⟩,?_⟩)))
    ·show Rn (arrOf st3).toList ((pendingOf st3).push (lo,n,0)).toList 0 (lo+n)
     rw[KC]
     refine Rn.app.mpr ⟨lo,S3.rn,rfl,n1,?_,rfl⟩
     show Upl (((arrOf st3).toList.drop lo).take n)
     rw[e3]
     exact u2
    ·rcases g with g | g
     ·exact absurd g (by omega)
     ·exact .inr (by omega)
   clear ej
   cases eb:((sortPriv% PySem.Builtin.SortState.pending) st2).back? with
   |none=>exact hj st2 S2 rfl
   |some p =>
    obtain⟨s1,n1',p1⟩:=p
    walk_at "st"
    extract_lets -underBinder +onlyGivenNames pw
    clear_value pw
    refine wpS_bind (wpS_mono (wpS_forRange (I:=fun _ c st3=>c=(none,())/\SI a₀ lo st3/\(arrOf st3).toList.drop lo=(arrOf st2).toList.drop lo) (Q:=fun c st3=>c=(none,())/\SI a₀ lo st3/\(arrOf st3).toList.drop lo=(arrOf st2).toList.drop lo) ?pstep (fun c st3 q=>q) ⟨rfl,S2,rfl⟩) ?ppost)
    case pstep =>
     rintro y c st3 _ hy ⟨rfl,S3,e3⟩
     refine wpS_bind (wpS_get ?_)
     walk_at "st"
     walk_at "l1"
     by_cases big:((sortPriv% PySem.Builtin.SortState.pending) st3).size > 1
     ·rw[if_pos big]
      obtain⟨⟨q1,q2,q3⟩,eq⟩:∃ p,((sortPriv% PySem.Builtin.SortState.pending) st3)[((sortPriv% PySem.Builtin.SortState.pending) st3).size-2]?=some p:=⟨_,getElem?_pos _ _ (by omega)⟩
      rw[eq]
      dsimp -zeta -zetaHave only
      split
      ·exact wpS_pure ⟨rfl,S3,e3⟩
      ·exact wpS_bind (m5 h0 S3 (show(pendingOf st3).size-2+1<(pendingOf st3).size from by have:(pendingOf st3).size > 1:=big;omega) fun st4 S4 _ e4=>wpS_pure ⟨rfl,S4,e4.trans e3⟩)
     ·rw[if_neg big]
      exact wpS_pure ⟨rfl,S3,e3⟩
    case ppost =>
     rintro c st3 ⟨rfl,S3,e3⟩
     walk_at "st"
     walk_at "l1"
     refine wpS_bind (wpS_modify (hj _ ⟨S3.perm,S3.kind,S3.failed,?_,S3.le⟩ e3))
     refine Rn.like ?_ S3.rn
     show _=List.map _ ((pendingOf st3).modify _ _).toList
     rw[Array.toList_modify]
     refine Ky fun i=>?_
     rw[II,II,List.getElem?_modify]
     cases (pendingOf st3).toList[i]? with
     |none=>rfl
     |some p =>
      show some (p.1,p.2.1)=some ((if _=i then _ else p).1,(if _=i then _ else p).2.1)
      split<;>rfl
  clear ej
  by_cases c:m<mr
  ·refine aE c ?_
   refine wpS_bind (wpS_lift (wpAny_rule ⟨rfl,?_⟩))
   refine wpS_bind (ED (hS'.keys h0) (by rw[sz];omega) (by omega) hB1 hs1 fun st2 hB2 hs2=>?_)
   exact hj _ st2 hB2 (by omega) (by omega) hs2
  ·refine aD c ?_
   exact hj m st1 hB1 m1 (by omega) hs1
 case post =>
  rintro c st' ⟨rfl,hS'⟩
  walk_at "st"
  walk_at "l1"
  have pl:(pendingOf st').size<=a₀.size:=by
   have:=hS'.rn.le
   rw[JK]at this
   omega
  refine wpS_bind (wpS_mono (wpS_forRange (I:=fun x c st3=>c=(none,())/\SI a₀ a₀.size st3/\((pendingOf st3).size<=1∨(pendingOf st3).size+x<=a₀.size)) (Q:=fun c st3=>c=(none,())/\SI a₀ a₀.size st3/\(pendingOf st3).size<=1) ?fstep ?ffin ⟨rfl,hS',.inr pl⟩) ?fpost)
  case ffin =>
   rintro c st3 ⟨rfl,S3,g⟩
   exact⟨rfl,S3,by omega⟩
  case fpost =>
   rintro c st3 ⟨rfl,S3,g⟩
   refine wpS_pure (h st3 S3.perm S3.failed ?_)
   have rn:=S3.rn
   have sz:=S3.size
   have ll:(arrOf st3).toList.length=(arrOf st3).size:=by simp
   have tl:(pendingOf st3).toList.length=(pendingOf st3).size:=by simp
   match e:(pendingOf st3).toList with
   |[] =>
    rw[e]at rn
    have rn':0=a₀.size:=rn
    rw[List.eq_nil_of_length_eq_zero (show(arrOf st3).toList.length=0 by omega)]
    exact Mg
   |[p] =>
    rw[e]at rn
    obtain⟨r1,_,r3,r4⟩:=rn
    have r4':0+p.2.1=a₀.size:=r4
    rw[r1,LZ,Jx (by omega)]at r3
    exact r3
   |p::q::t =>
    rw[e]at tl
    simp only[Jm]at tl
    omega
  case fstep =>
   rintro x c st3 _ hx ⟨rfl,S3,g⟩
   refine wpS_bind (wpS_get ?_)
   by_cases z:((sortPriv% PySem.Builtin.SortState.pending) st3).size<=1
   ·refine aE z ?_
    exact wpS_pure ⟨rfl,S3,z⟩
   refine aD z ?_
   refine wpS_bind (m5 h0 S3 (ite_lt _ z) fun st4 S4 p4 _=>wpS_pure ⟨rfl,S4,?_⟩)
   have z':¬ (pendingOf st3).size<=1:=z
   omega
end PyProof.RowsP
namespace L2
open PySem PySem.Spec PyProof.Rows
section
variable{prog:Program}{w:World}{A:Around}{E:Value->Shared->Prop}{s:Shared}{d:Addr}
theorem wz{a:Addr}{Q:Option Obj->Shared->Prop}(h:Q (s.heap.get? a) s):wpAny (model prog w) A (loadIfAlive a) Q E s:=fun Γ p hΓ=>by
 show Sem.wp _ _ (.loadIfAlive a _) _ _ _ _
 rw[Sem.wp_loadIfAlive]
 exact(wpAny_pure (M:=model prog w) (A:=A) (E:=E) h) Γ p hΓ
def ItAt(h:Heap)(it d:Addr)(i n ep:Nat):Prop:=∃ f0 f1 x6 x7,h.get? it=some { cls:=.type "dict_itemiterator",dict:=none,data:=.fields #[f0,f1,.ref d,.int i 0,.int n 0,.int ep 0,x6,x7],slots:=#[] }/\((f0=.none/\f1=.bool false)∨∃(a:Addr)(o:Obj),f0=rawInt a/\h.get? a=some o/\a≠it)
theorem ItAt.keep{h h':Heap}{it:Addr}{i n ep:Nat}(x:ItAt h it d i n ep)(hit:∀ o,h.get? it=some o->h'.get? it=some o)(k:∀ b o,b≠it->h.get? b=some o->∃ o',h'.get? b=some o'):ItAt h' it d i n ep:=by
 obtain⟨f0,f1,x6,x7,e,c⟩:=x
 refine⟨f0,f1,x6,x7,hit _ e,?_⟩
 rcases c with c | ⟨a,o,c1,c2,c3⟩
 ·exact .inl c
 ·obtain⟨o',q⟩:=k a o c3 c2
  exact .inr ⟨a,o',c1,q,c3⟩
theorem Dw{it:Addr}{i ep:Nat}{es:Array DictEntry}{Q:Option Value->Shared->Prop}(hit:ItAt s.heap it d i es.size ep)(hm:Ent s.heap d es ep)(hh:A.handled=none)
  (hI:∀ e,es[i]?=some e->∀ h',ItAt h' it d (i+1) es.size ep->h'.get? s.heap.objs.size=some { cls:=.type "tuple",data:=.seq #[e.key,e.val] }->(∀ b o,b≠it->s.heap.get? b=some o->h'.get? b=some o)->Q (some (.ref s.heap.objs.size)) { s with heap:=h' })
  (hE:es[i]?=none->∀ h',Heap.ExtBut it s.heap h'->Q none { s with heap:=h' }):wpAny (model prog w) A (pyNext (.ref it)) Q E s:=by
 obtain⟨f0,f1,ok,ov,hit,c⟩:=hit
 rcases c with⟨rfl,rfl⟩ | ⟨a,oa,rfl,hoa,hai⟩
 ·refine nZ (ok:=ok) (ov:=ov) hit hm hh (fun e he h' q1 q2 q3=>hI e he h' ⟨_,_,_,_,q1,.inr ⟨s.heap.objs.size,_,rfl,q2,?_⟩⟩ q2 q3) hE
  exact JX (Heap.lt_size hit)
 obtain⟨o,e1,e2,e3⟩:=hm
 have hT:s.TypeIs (.ref it) "dict_itemiterator":=⟨_,hit,rfl⟩
 have own:Builtin.Dict_items.ownsTuple "dict_itemiterator" = true:=by decide
 unfold pyNext
 refine wpAny_bind (wpAny_attempt (wpAny_callSpecial?_slot (name:=Str.ofString "__next__") hT F.slot_dict_itemiterator_next (wpAny_call_entry F.slot_dict_itemiterator_next hT F.entry_dict_itemiterator_next ?_ (F.args_dict_itemiterator_next_1 _))))
 refine wpAny_bind (wpAny_pure (wpAny_bind (wpAny_bind (wpAny_bind (wpAny_typeNameOfWhole_itemiter hT (wpAny_pure ?_))))))
 refine wpAny_bind (wpAny_fieldsOf hit rfl ?_)
 simp only[own,if_true]
 show wpAny _ _ (if(Value.ref d == Value.none)=true then _ else _) _ _ _
 rw[if_neg (show ¬ ((Value.ref d == Value.none)=true) from IS)]
 refine wpAny_bind (wpAny_pure (wpAny_bind (wpAny_dictEntries e1 e3 ?_)))
 rw[if_neg (by simp)]
 refine wpAny_bind (wpAny_pure (wpAny_bind (wpAny_dictEpoch e1 e3 ?_)))
 rw[if_neg (by simp)]
 refine wpAny_pure ?_
 have n0:¬ ((i:Int)<0):=by omega
 simp only[n0,if_false,JB]
 cases he:es[i]? with
 |none =>
  refine wpAny_bind (wpAny_bind (wpAny_typeNameOfWhole_itemiter hT (wpAny_pure ?_)))
  show wpAny _ _ (setField (.ref it) 2 .none >>= _) _ _ s
  refine wpAny_bind (wpAny_setField hit rfl (by simp) ?_)
  show wpAny _ _ (newExc (.type "StopIteration") [] >>= _) _ _ _
  refine wpAny_bind ?_
  simp only[newExc,newTuple]
  refine wpAny_bind (wpAny_newObj_type (wpAny_bind (m:=firstArgMember _ _) (wpAny_of_eq (a:=Value.none) (by first | rfl | (simp only[firstArgMember];rfl)) (wpAny_newObj_type ?_ (by size_fits)))) (by size_fits))
  simp only[raiseNew]
  refine wpAny_bind (wpAny_handled ?_)
  rw[show A.in1.handled=none from hh]
  refine wpAny_bind (wpAny_pure (wpAny_throw ?_))
  refine wpAny_bind (wpAny_isInstance (T:="StopIteration") (b:=true) ⟨_,Heap.get?_push_size _ rfl,rfl⟩ isSubtype_stop (wpAny_pure ?_))
  exact hE he _ (((Heap.SameBut.update ..).extBut.push _).push _)
 |some e =>
  refine wpAny_bind (wpAny_bind (wpAny_typeNameOfWhole_itemiter hT (wpAny_pure ?_)))
  refine wpAny_bind (wpAny_isOneOf_itemiter hT ?_)
  show wpAny _ _ (setField (.ref it) 3 (rawInt ((i:Int)+1)) >>= _) _ _ s
  refine wpAny_bind (wpAny_setField_rec hit (by simp) fun g1 q1 k1=>?_)
  have c1:((i+1:Nat):Int)=(i:Int)+1:=by omega
  have q1':g1.get? it=some { cls:=.type "dict_itemiterator",dict:=none,data:=.fields #[rawInt a,f1,.ref d,.int ((i+1:Nat):Int) 0,.int es.size 0,.int ep 0,ok,ov],slots:=#[] }:=by
   rw[c1]
   simpa[rawInt] using q1
  have lt:it<s.heap.objs.size:=Heap.lt_size hit
  have z1:g1.objs.size=s.heap.objs.size:=k1.1
  have hT1:Shared.TypeIs { s with heap:=g1 } (.ref it) "dict_itemiterator":=⟨_,q1',rfl⟩
  refine wpAny_bind (wpAny_holding (wpAny_bind (wpAny_isOneOf_itemiter hT1 (wpAny_bind (wpAny_isOneOf_itemiter hT1 ?_)))))
  show wpAny _ _ (Builtin.Dict_items.pairFromOwner (.ref it) 6 e.key e.val) _ _ { s with heap:=g1 }
  unfold Builtin.Dict_items.pairFromOwner Builtin.Dict_items.ownedTupleIsFree
  refine wpAny_bind (wpAny_newTuple ?_)
  have q2:(g1.push { cls:=.type "tuple",data:=.seq #[e.key,e.val] }).get? it=some { cls:=.type "dict_itemiterator",dict:=none,data:=.fields #[rawInt a,f1,.ref d,.int ((i+1:Nat):Int) 0,.int es.size 0,.int ep 0,ok,ov],slots:=#[] }:=Heap.get?_push_of_some _ q1'
  have t2:(g1.push { cls:=.type "tuple",data:=.seq #[e.key,e.val] }).get? s.heap.objs.size=some { cls:=.type "tuple",data:=.seq #[e.key,e.val] }:=by rw[← z1];exact Heap.get?_push_size _ rfl
  have k2:∀ b o,b≠it->s.heap.get? b=some o->(g1.push { cls:=.type "tuple",data:=.seq #[e.key,e.val] }).get? b=some o:=fun b o hb q=>Heap.get?_push_of_some _ (k1.extBut b o hb q)
  rw[z1]
  generalize g1.push { cls:=.type "tuple",data:=.seq #[e.key,e.val] }=g2 at q2 t2 k2
  show wpAny _ _ (_ >>= _) _ _ { s with heap:=g2 }
  have al:g2.get? ((a:Int).toNat)=some oa:=by rw[JB];exact k2 a oa hai hoa
  refine wpAny_bind (wpAny_bind (wpAny_field q2 rfl (x:=rawInt a) rfl ?_))
  show wpAny _ _ (loadIfAlive ((a:Int).toNat) >>= _) _ _ { s with heap:=g2 }
  refine wpAny_bind (wz ?_)
  show wpAny _ _ (if((g2.get? ((a:Int).toNat)).isNone)=true then _ else _) _ _ _
  rw[al,if_neg (show ¬ (some oa).isNone=true from IS)]
  have last:∀ g3,g3.get? it=some { cls:=.type "dict_itemiterator",dict:=none,data:=.fields #[rawInt a,.bool true,.ref d,.int ((i+1:Nat):Int) 0,.int es.size 0,.int ep 0,ok,ov],slots:=#[] }->(∀ b o,b≠it->g2.get? b=some o->g3.get? b=some o)->Q (some (.ref s.heap.objs.size)) { s with heap:=g3 }:=fun g3 q3 k3 =>
   hI e he g3 ⟨_,_,_,_,q3,.inr ⟨a,oa,rfl,k3 a oa hai (k2 a oa hai hoa),hai⟩⟩ (k3 _ _ (JX lt) t2) fun b o hb q=>k3 b o hb (k2 b o hb q)
  refine wpAny_bind (wpAny_field q2 rfl (x:=f1) rfl ?_)
  by_cases hf:f1=.bool true
  ·rw[if_neg (by rw[hf];decide)]
   refine wpAny_pure ?_
   subst hf
   exact wpAny_pure (wpAny_pure ⟨_,rfl,wpAny_pure (last g2 q2 fun b o _ q=>q)⟩)
  ·rw[if_pos (by simpa using hf)]
   refine wpAny_bind (wpAny_setField_rec q2 (by simp) fun g3 q3 k3=>?_)
   exact wpAny_pure (wpAny_pure (wpAny_pure ⟨_,rfl,wpAny_pure (last g3 q3 fun b o hb q=>k3.extBut b o hb q)⟩))
def wb(h₀ h:Heap)(es:Array DictEntry)(acc:Array Value)(i:Nat):Prop:=acc.size=i/\∀(j:Nat)(v:Value),acc[j]?=some v->∃(t:Addr)(e:DictEntry),v=.ref t/\es[j]?=some e/\h₀.objs.size<=t/\h.get? t=some { cls:=.type "tuple",data:=.seq #[e.key,e.val] }
def pQ(acc:Array Value):Prop:=acc.toList.Nodup
theorem DS{S it:Addr}{es:Array DictEntry}{ep:Nat}{res:Value}{R:Result->Shared->Prop}{h₀:Heap}(hh:A.handled=none)(hn:es.size<=sizeLine)(hSi:S≠it)(hSd:S≠d)(hdi:d≠it) :
  ∀(k i:Nat)(s:Shared)(acc:Array Value)(c:Nat),es.size-i=k->i<=es.size->ItAt s.heap it d i es.size ep->Ent s.heap d es ep->s.heap.get? S=some { cls:=.type "list",dict:=none,data:=.seq acc c,slots:=#[] }->wb h₀ s.heap es acc i->pQ acc->h₀.objs.size<=s.heap.objs.size ->
  (∀ h' acc' c',(∀ b o,b≠S->b≠it->s.heap.get? b=some o->h'.get? b=some o)->h'.get? S=some { cls:=.type "list",dict:=none,data:=.seq acc' c',slots:=#[] }->wb h₀ h' es acc' es.size->pQ acc'->R (.ok (.ret res)) { s with heap:=h' }) ->
  codeAny (model prog w) A (.builtin "list.extend.loop" ⟨[.ref S,.ref it,res],[]⟩) R s:=by
 intro k
 induction k with
 |zero =>
  intro i s acc c hk hi hst hm hS hacc hap hsz hR
  have hin:i=es.size:=by omega
  subst hin
  refine codeAny_builtin F.entry_extend_loop ?_
  rw[Around.under_plainId F.plain_extend_loop _]
  show wpAny _ A.in1 (pyNext (.ref it) >>= _) _ _ s
  refine wpAny_bind (Dw hst hm hh (fun e he=>?_) fun _ h' q=>?_)
  ·rw[Array.getElem?_eq_none (IG _)]at he
   cases he
  ·refine wpAny_pure (hR h' acc c (fun b o _ hb e=>q b o hb e) (q S _ hSi hS) ⟨hacc.1,fun j v hj=>?_⟩ hap)
   obtain⟨t,e,a1,a2,a3,a4⟩:=hacc.2 j v hj
   refine⟨t,e,a1,a2,a3,q t _ (fun z=>?_) a4⟩
   obtain⟨_,_,_,_,z2,_⟩:=hst
   rw[z,z2]at a4
   exact absurd (congrArg Obj.cls (IW a4)) (by intro z;exact absurd (Value.type.inj z) (by decide))
 |succ k ih =>
  intro i s acc c hk hi hst hm hS hacc hap hsz hR
  refine codeAny_builtin F.entry_extend_loop ?_
  rw[Around.under_plainId F.plain_extend_loop _]
  show wpAny _ A.in1 (pyNext (.ref it) >>= _) _ _ s
  refine wpAny_bind (Dw hst hm hh (fun e he h' q1 q2 q3=>?_) fun he=>absurd he (by rw[MD (show i<es.size by omega)];intro z;cases z))
  have hS':=q3 S _ hSi hS
  have lt:it<s.heap.objs.size:=by obtain⟨_,_,_,_,z,_⟩:=hst;exact Heap.lt_size z
  have hSlt:=Heap.lt_size hS
  show wpAny _ A.in1 (updateSeq S (·.push (.ref s.heap.objs.size)) >>= _) _ _ _
  refine wpAny_bind ?_
  have noS:∀ b,b≠S->∀ o,h'.get? b=some o->(h'.update S (Obj.mapSeq (·.push (.ref s.heap.objs.size)))).get? b=some o:=fun b hb o e=>(Heap.get?_update_other _ _ (Ne.symm hb)).trans e
  have tk:∀(h2:Heap),(∀ b o,b≠S->h'.get? b=some o->h2.get? b=some o)->wb h₀ h2 es (acc.push (.ref s.heap.objs.size)) (i+1):=fun h2 k2=>by
   refine⟨by rw[Array.size_push,hacc.1],fun j v hj=>?_⟩
   rw[Array.getElem?_push]at hj
   split at hj
   ·rename_i ej
    cases hj
    rw[hacc.1]at ej
    subst ej
    refine⟨s.heap.objs.size,e,rfl,he,hsz,k2 _ _ (JX hSlt) q2⟩
   ·obtain⟨t,e',a1,a2,a3,a4⟩:=hacc.2 j v hj
    have ti:t≠it:=fun z=>by
     obtain⟨_,_,_,_,z2,_⟩:=hst
     rw[z,z2]at a4
     exact absurd (congrArg Obj.cls (IW a4)) (by intro z;exact absurd (Value.type.inj z) (by decide))
    refine⟨t,e',a1,a2,a3,k2 t _ (fun z=>?_) (q3 t _ ti a4)⟩
    rw[z,hS]at a4
    exact absurd (congrArg Obj.cls (IW a4)) (by intro z;exact absurd (Value.type.inj z) (by decide))
  have ap:pQ (acc.push (.ref s.heap.objs.size)):=by
   unfold pQ
   rw[KC]
   refine Jo.mpr ⟨hap,by simp,fun a ha b hb e=>?_⟩
   rw[IX.mp hb]at e
   subst e
   obtain⟨j,hj⟩:=JI ha
   obtain⟨t,e',a1,_,_,a4⟩:=hacc.2 j _ (by rw[← Kh];exact hj)
   cases a1
   exact JT _ (Heap.lt_size a4)
  refine wpAny_updateSeq hS' rfl (wpAny_pure ⟨plainId_quiet F.plain_extend_loop _,ih (i+1) _ (acc.push (.ref s.heap.objs.size)) _ (by omega) (by omega) ?_ ?_ (Heap.get?_update_self _ hS' rfl) (tk _ fun b o hb e=>noS b hb o e) ap ?_ fun h'' acc' c' m1 m2 m3 m4=>?_⟩)
   (by rw[hacc.1];omega) (by show(acc.push _).size<=sizeLine+1;rw[Array.size_push,hacc.1];omega)
  ·exact q1.keep (fun o e=>noS it (Ne.symm hSi) o e) fun b o _ e=>by
    by_cases z:b=S
    ·rw[z];exact⟨_,Heap.get?_update_self _ hS' rfl⟩
    ·exact⟨o,noS b z o e⟩
  ·obtain⟨o,a1,a2,a3⟩:=hm
   exact⟨o,noS d (Ne.symm hSd) o (q3 d o hdi a1),a2,a3⟩
  ·show h₀.objs.size<=(h'.update _ _).objs.size
   rw[Heap.size_update]
   exact JG hsz (JY (Heap.lt_size q2))
  ·exact hR h'' acc' c' (fun b o hb hi' e=>m1 b o hb hi' (noS b hb o (q3 b o hi' e))) m2 m3 m4
theorem A9{r:Addr}{Q:Bool->Shared->Prop} (hT:s.TypeIs (.ref r) "dict_items") (h:Q false s):wpAny (model prog w) A (Builtin.List.listLengthHint (.ref r)) Q E s:=by
 unfold Builtin.List.listLengthHint
 refine wpAny_bind (wpAny_specialOf hT PySem.F.slot_dict_items_len.lookup ?_)
 generalize hid:("dict_items.__len__" : String)=id0
 wp_delta
 rw[show splitId id0=some ("dict_items","__len__") from by subst hid;decide +kernel]
 subst hid
 refine wpAny_bind (wpAny_isInstance (T:="dict_items") (b:=true) hT (by rw[isSubtype_type];kernel_rfl) ?_)
 refine wpAny_ite_split (fun hab=>absurd hab (by decide)) (fun _=>?_)
 refine wpAny_ite_split (fun _=>?_) (fun hab=>absurd (by decide +kernel) hab)
 refine wpAny_bind (wpAny_typeOf hT ?_)
 exact wpAny_pure h
theorem sJ{r:Addr}{es:Array DictEntry}{ep:Nat}{Q:List Value->Shared->Prop}(hh:A.handled=none)(hv:s.heap.IsItemsView r d)(hm:Ent s.heap d es ep)(hn:es.size<=sizeLine)
  (h:∀ h' acc',(∀ b o,s.heap.get? b=some o->h'.get? b=some o)->s.heap.objs.size<h'.objs.size->wb s.heap h' es acc' es.size->pQ acc'->Q acc'.toList { s with heap:=h' }):wpAny (model prog w) A (collect (.ref r)) Q E s:=by
 unfold collect
 refine wpAny_bind (wpAny_runValue (codeAny_builtin entry_proto_collect' ?_))
 show wpAny _ _ (do again (.builtin "list.__iadd__" ⟨[← newList [],.ref r],[]⟩)) _ _ s
 refine wpAny_bind (wpAny_newList (wpAny_pure ⟨Code.quiet_builtin _ (by decide +kernel),codeAny_builtin entry_list_iadd' ?_⟩))
 rw[Around.under_plainId PySem.F.plain_list_iadd _]
 show wpAny _ A.in1 (Builtin.List.listExtendWith (.ref s.heap.objs.size) (.ref r) (.ref s.heap.objs.size)) _ _ { s with heap:=s.heap.push (seqObj "list" #[] 0) }
 obtain⟨ov,hv1,hv2,hv3⟩:=id hv
 obtain⟨od,hd1,hd2,hd3⟩:=id hm
 have rl:r<s.heap.objs.size:=Heap.lt_size hv1
 have dl:d<s.heap.objs.size:=Heap.lt_size hd1
 have hvp:(s.heap.push (seqObj "list" #[] 0)).IsItemsView r d:=⟨ov,Heap.get?_push_of_some _ hv1,hv2,hv3⟩
 have hmp:Ent (s.heap.push (seqObj "list" #[] 0)) d es ep:=⟨od,Heap.get?_push_of_some _ hd1,hd2,hd3⟩
 have hS:(s.heap.push (seqObj "list" #[] 0)).get? s.heap.objs.size=some { cls:=.type "list",dict:=none,data:=.seq #[] 0,slots:=#[] }:=Heap.get?_push_size _ rfl
 unfold Builtin.List.listExtendWith
 refine wpAny_bind (wpAny_typeOf (T:="dict_items") hvp.typeIs ?_)
 have h1:Builtin.List.listSameRef (.ref s.heap.objs.size) (.ref r)=false:=by simp[Builtin.List.listSameRef,JX rl]
 have nl:(Value.type "dict_items" == Value.type "list")=false:=by decide
 have nt:(Value.type "dict_items" == Value.type "tuple")=false:=by decide
 simp only[h1,nl,nt,KL,JM,if_false]
 refine wpAny_bind (sh hvp hmp ?_)
 rw[Heap.size_push]
 have key:∀(g:Heap)(c₁ tk:Nat),ItAt g (s.heap.objs.size+1) d 0 es.size ep->(∀ b o,b≠s.heap.objs.size->s.heap.get? b=some o->g.get? b=some o)->s.heap.objs.size<=g.objs.size ->
   g.get? s.heap.objs.size=some { cls:=.type "list",dict:=none,data:=.seq #[] c₁,slots:=#[] }->codeAny (model prog w) A (.builtin "list.extend.loop" ⟨[.ref s.heap.objs.size,.ref (s.heap.objs.size+1),.ref s.heap.objs.size],[]⟩)
    (fun r s'=>∃ h' acc' c',r=.ok (.ret (.ref s.heap.objs.size))/\s'={ s with heap:=h',toks:=tk }/\(∀ b o,s.heap.get? b=some o->h'.get? b=some o)/\h'.get? s.heap.objs.size=some { cls:=.type "list",dict:=none,data:=.seq acc' c',slots:=#[] }/\wb s.heap h' es acc' es.size/\pQ acc') { s with heap:=g,toks:=tk }:=fun g c₁ tk q1 q2 q3 q4=>by
  refine DS (h₀:=s.heap) hh hn (Jf (Kj _)) (JX dl) (Jf (Kp dl)) es.size 0 _ #[] c₁ (Nat.sub_zero _) (JL _) q1 ⟨od,q2 d od (Jf dl) hd1,hd2,hd3⟩ q4 ⟨rfl,fun j v e=>by simp at e⟩ (by unfold pQ;simp) q3 fun h' acc' c' m1 m2 m3 m4=>?_
  exact⟨h',acc',c',rfl,rfl,fun b o e=>m1 b o (Jf (Heap.lt_size e)) (Jf (Kp (Heap.lt_size e))) (q2 b o (Jf (Heap.lt_size e)) e),m2,m3,m4⟩
 have hS₁:=Heap.get?_push_of_some { cls:=.type "dict_itemiterator",data:=.fields #[.none,.bool false,.ref d,.int 0 0,.int es.size 0,.int ep 0,.none,.none] } hS
 have it0:ItAt ((s.heap.push (seqObj "list" #[] 0)).push { cls:=.type "dict_itemiterator",data:=.fields #[.none,.bool false,.ref d,.int 0 0,.int es.size 0,.int ep 0,.none,.none] }) (s.heap.objs.size+1) d 0 es.size ep :=
  ⟨_,_,_,_,by have:=Heap.get?_push_size (s.heap.push (seqObj "list" #[] 0)) (o:={ cls:=.type "dict_itemiterator",data:=.fields #[.none,.bool false,.ref d,.int 0 0,.int es.size 0,.int ep 0,.none,.none] }) rfl;rw[Heap.size_push]at this;exact this,.inl ⟨rfl,rfl⟩⟩
 have old:∀ b o,s.heap.get? b=some o->((s.heap.push (seqObj "list" #[] 0)).push { cls:=.type "dict_itemiterator",data:=.fields #[.none,.bool false,.ref d,.int 0 0,.int es.size 0,.int ep 0,.none,.none] }).get? b=some o:=fun b o e=>Heap.get?_push_of_some _ (Heap.get?_push_of_some _ e)
 have big:s.heap.objs.size<=((s.heap.push (seqObj "list" #[] 0)).push { cls:=.type "dict_itemiterator",data:=.fields #[.none,.bool false,.ref d,.int 0 0,.int es.size 0,.int ep 0,.none,.none] }).objs.size:=by rw[Heap.size_push,Heap.size_push];exact K0 (La _)
 have hvq:(⟨(s.heap.push (seqObj "list" #[] 0)).push { cls:=.type "dict_itemiterator",data:=.fields #[.none,.bool false,.ref d,.int 0 0,.int es.size 0,.int ep 0,.none,.none] },s.gens,s.drawn,s.toks,s.os⟩:Shared).TypeIs (.ref r) "dict_items":=⟨ov,old _ _ hv1,hv2⟩
 generalize (s.heap.push (seqObj "list" #[] 0)).push { cls:=.type "dict_itemiterator",data:=.fields #[.none,.bool false,.ref d,.int 0 0,.int es.size 0,.int ep 0,.none,.none] }=g0 at hS₁ it0 old big hvq
 have fin:∀{W:Result->Shared->Prop}{tk:Nat},(∀ h' acc' c',(∀ b o,s.heap.get? b=some o->h'.get? b=some o)->h'.get? s.heap.objs.size=some { cls:=.type "list",dict:=none,data:=.seq acc' c',slots:=#[] }->wb s.heap h' es acc' es.size->pQ acc'->W (.ok (.ret (.ref s.heap.objs.size))) { s with heap:=h',toks:=tk })->∀ r s',(∃ h' acc' c',r=.ok (.ret (.ref s.heap.objs.size))/\s'={ s with heap:=h',toks:=tk }/\(∀ b o,s.heap.get? b=some o->h'.get? b=some o)/\h'.get? s.heap.objs.size=some { cls:=.type "list",dict:=none,data:=.seq acc' c',slots:=#[] }/\wb s.heap h' es acc' es.size/\pQ acc')->W r s':=fun hW r s' ⟨h',acc',c',e1,e2,e3,e4,e5,e6⟩=>by
  subst e1 e2
  exact hW h' acc' c' e3 e4 e5 e6
 have ended:∀ h' acc' c',(∀ b o,s.heap.get? b=some o->h'.get? b=some o)->h'.get? s.heap.objs.size=some { cls:=.type "list",dict:=none,data:=.seq acc' c',slots:=#[] }->wb s.heap h' es acc' es.size->pQ acc'->wpAny (model prog w) A (do
   let o ← load s.heap.objs.size
   match o.data with
   |.seq xs _=>pure xs.toList
   |_=>unsupported "internal:collect") Q E { s with heap:=h' }:=fun h' acc' c' e3 e4 e5 e6=>by
  refine wpAny_bind (wpAny_load e4 ?_)
  exact wpAny_pure (h h' acc' e3 (Heap.lt_size e4) e5 e6)
 refine wpAny_bind (wpAny_holding (A9 hvq ?_))
 refine wpAny_ite_split (fun _=>?_) (fun _=>wpAny_pure ⟨plainId_quiet My _,codeAny_mono (key g0 _ s.toks it0 (fun b o _ e=>old b o e) big hS₁) (fin ended)⟩)
 refine wpAny_bind (wpAny_rule ?_)
 refine wpAny_bind ?_
 show wpAny _ _ (updateSeq s.heap.objs.size (·.push .none) >>= fun _=>updateSeq s.heap.objs.size (·.pop)) _ _ _
 refine wpAny_bind (wpAny_updateSeq hS₁ rfl ?_)
 have hS₂:=Heap.get?_update_self (Obj.mapSeq (·.push Value.none)) hS₁ rfl
 refine wpAny_updateSeq (hz:=by seq_fits) hS₂ rfl ?_
 have hS₃:=Heap.get?_update_self (Obj.mapSeq (·.pop)) hS₂ rfl
 have ne:∀ b,b≠s.heap.objs.size->∀ o,g0.get? b=some o->((g0.update s.heap.objs.size (Obj.mapSeq (·.push Value.none))).update s.heap.objs.size (Obj.mapSeq (·.pop))).get? b=some o:=fun b hb o e=>(Heap.get?_update_other _ _ (Ne.symm hb)).trans ((Heap.get?_update_other _ _ (Ne.symm hb)).trans e)
 refine wpAny_pure ⟨plainId_quiet My _,codeAny_mono (key _ _ s.toks (it0.keep (fun o e=>ne _ (JX (Kj _)) o e) fun b o _ e=>?_) (fun b o hb e=>ne b hb o (old b o e)) (by rw[Heap.size_update,Heap.size_update];exact big) hS₃) (fin ended)⟩
 by_cases z:b=s.heap.objs.size
 ·rw[z];exact⟨_,hS₃⟩
 ·exact⟨o,ne b z o e⟩
end
section
open PySem.W
variable{prog:Program}{w:World}{A:Around}{E:Value->Shared->Prop}{s:Shared}
def cK(h:Heap):Value->Int
 |.ref a=>match h.get? a with
  |some o=>match o.data with
   |.seq xs _=>match(xs[0]? : Option Value) with
    |some (.int x _)=>x
    |_=>0
   |_=>0
  |none=>0
 |_=>0
theorem jR{h:Heap}{a:Addr}{o:Obj}{n:Nat}{x y:Int}{tx ty:Tok}(h1:h.get? a=some o)(h3:o.data=.seq #[.int x tx,.int y ty] n):cK h (.ref a)=x:=by
 unfold cK
 simp only[h1,h3]
 rfl
theorem He{u v:Value}{Q:Bool->Shared->Prop}(hu:PrV s.heap u)(hv:PrV s.heap v)(hd:cK s.heap u=cK s.heap v->u=v)(h:Q (decide (cK s.heap u<cK s.heap v)) s):wpAny (model prog w) A (keyLt' (tuples' true) u v) Q E s:=by
 obtain⟨a,o,n,x,y,tx,ty,rfl,h1,h2,h3⟩:=hu
 obtain⟨a',o',n',x',y',tx',ty',rfl,k1,k2,k3⟩:=hv
 rw[jR h1 h3,jR k1 k3]at h hd
 refine kat_lt h1 h3 k1 k3 ?_
 refine kat_cons (wpAny_eqBool_int ?_)
 refine kat_go (fun e=>?_) fun _=>kat_no (oneLt_int h)
 have e':x=x':=by simpa using e
 have:=hd e'
 cases this
 rw[h1]at k1
 cases k1
 rw[h3]at k3
 cases k3
 have hf:decide (x<x)=false:=decide_eq_false (Int.lt_irrefl _)
 rw[hf]at h
 refine kat_yes (kat_cons (wpAny_eqBool_int (kat_go (fun _=>kat_yes (kat_nil h)) fun z=>?_)))
 simp at z
theorem A5{vs:List Value}{h6:Heap}(hs:s.heap=h6)(hp:∀ v∈vs,PrV h6 v)(hd:∀ u∈vs,∀ v∈vs,cK h6 u=cK h6 v->u=v):@PyProof.RowsP.LtOk prog w A E s ⟨cK h6,fun v=>v∈vs,tuples' true⟩:=by
 subst hs
 refine @PyProof.RowsP.LtOk.mk prog w A E s ⟨cK s.heap,fun v=>v∈vs,tuples' true⟩ ?_
 intro st x y Q hk hx hy h
 have hx':x.1∈vs:=hx
 have hy':y.1∈vs:=hy
 show wpS (model prog w) A E s (lt' x y) Q st
 rw[lt'_eq]
 refine wpS_bind (wpS_get ?_)
 have hk':kindOf st=tuples' true:=hk
 rw[hk']
 refine wpS_bind (wpS_lift (wpAny_attempt (He (hp _ hx') (hp _ hy') (hd _ hx' _ hy') ⟨rfl,?_⟩)))
 exact wpS_pure h
theorem wK{a:Addr}{vs:List Value}{n:Nat}{P:PySem.Fin->Shared->Prop} (ho:s.heap.get? a=some (seqObj "list" vs.toArray n)) (hp:∀ v∈vs,PrV s.heap v) (hd:∀ u∈vs,∀ v∈vs,cK s.heap u=cK s.heap v->u=v) (line:vs.length<=sizeLine)
  (h:∀ out:List Value,out.Perm vs->out.Pairwise (fun u v=>cK s.heap u<=cK s.heap v)->P (.done (.ret .none)) { s with heap:=sortedHeap s.heap a vs out.toArray }):wpAny (model prog w) A (Builtin.«list.sort» ⟨[.ref a],[]⟩) P E s:=by
 have ha:a<s.heap.objs.size:=Heap.lt_size ho
 obtain⟨e1,ho1⟩:∃ e1,(s.heap.update a (Obj.mapSeq fun _=>(#[]:Array Value))).get? a=some (seqObj "list" #[] e1):=⟨_,get?_update_seq ho fun _=>#[]⟩
 have ho6:(((s.heap.update a (Obj.mapSeq fun _=>(#[]:Array Value))).push (seqObj "tuple" vs.toArray 0)).push (seqObj "list" #[] 0)).get? a=some (seqObj "list" #[] e1):=Heap.get?_push_of_some _ (Heap.get?_push_of_some _ ho1)
 have keep6:∀ v∈vs,∀ b o,v=.ref b->s.heap.get? b=some o->(((s.heap.update a (Obj.mapSeq fun _=>(#[]:Array Value))).push (seqObj "tuple" vs.toArray 0)).push (seqObj "list" #[] 0)).get? b=some o:=fun v hv b o eb e=>by
  have pv:=hp v hv
  refine Heap.get?_push_of_some _ (Heap.get?_push_of_some _ ?_)
  have nb:b≠a:=fun z=>by
   obtain⟨a',o',n',x,y,tx,ty,rfl,k1,k2,_⟩:=pv
   cases eb
   rw[z,ho]at k1
   cases k1
   exact absurd k2 (by intro z2;have:=Value.type.inj z2;exact absurd this (by decide))
  rw[Heap.get?_update_ne _ _ _ _ nb]
  exact e
 have hp6:∀ v∈vs,PrV (((s.heap.update a (Obj.mapSeq fun _=>(#[]:Array Value))).push (seqObj "tuple" vs.toArray 0)).push (seqObj "list" #[] 0)) v:=fun v hv=>(hp v hv).keep fun b o eb e=>keep6 v hv b o eb e
 have hf6:∀ v∈vs,cK (((s.heap.update a (Obj.mapSeq fun _=>(#[]:Array Value))).push (seqObj "tuple" vs.toArray 0)).push (seqObj "list" #[] 0)) v=cK s.heap v:=fun v hv=>by
  obtain⟨b,o,m,x,y,tx,ty,rfl,k1,k2,k3⟩:=hp v hv
  rw[jR k1 k3,jR (keep6 _ hv b o rfl k1) k3]
 rw[list_sort_plain]
 refine wpAny_bind (listItems_at ho rfl (wpAny_bind (listUpdate_at ho rfl (wpAny_bind (seqEpoch_at ho1 rfl (wpAny_bind (wpAny_newTuple (wpAny_bind (wpAny_newList (wpAny_holding ?_) (JL _))) line)))) (by rw[Jl];exact line) (JL _))))
 show wpAny (model prog w) A _ P E { s with heap:=((s.heap.update a (Obj.mapSeq fun _=>(#[]:Array Value))).push (seqObj "tuple" vs.toArray 0)).push (seqObj "list" #[] 0) }
 have fin:∀ out:List Value,sortedHeap s.heap a vs out.toArray=(((s.heap.update a (Obj.mapSeq fun _=>(#[]:Array Value))).push (seqObj "tuple" vs.toArray 0)).push (seqObj "list" #[] 0)).update a (Obj.mapSeq fun _=>out.toArray):=fun _=>rfl
 generalize ((s.heap.update a (Obj.mapSeq fun _=>(#[]:Array Value))).push (seqObj "tuple" vs.toArray 0)).push (seqObj "list" #[] 0)=h6 at ho6 hp6 fin hf6
 dsimp only
 by_cases h2:vs.toArray.size<2
 ·rw[if_pos h2,if_pos h2]
  refine wpAny_bind (wpAny_pure ?_)
  rw[StateT.run_pure]
  refine wpAny_bind (wpAny_pure (wpAny_bind (seqEpoch_at ho6 rfl ?_)))
  dsimp only
  have eo:(arrOf (SortSt.mk' general' (vs.toArray.zip vs.toArray) #[] 7 none)).map (·.2)=vs.toArray:=by
   show(vs.toArray.zip vs.toArray).map (·.2)=vs.toArray
   apply Array.ext
   ·simp
   ·intro i h1 h2
    simp
  rw[eo]
  refine wpAny_bind (listUpdate_at ho6 rfl ?_ (JL _) (by rw[Jl];exact K0 line))
  simp only[bne_self_eq_false,JM,if_false]
  refine wpAny_pure ?_
  have one:vs.Pairwise (fun u v=>cK s.heap u<=cK s.heap v):=by
   rw[Jl]at h2
   match vs,h2 with
   |[],_=>exact .nil
   |[_],_=>exact Ld _ _
  have:=h vs (Ll _) one
  rw[fin]at this
  exact this
 ·rw[if_neg h2,if_neg h2]
  rw[Jl]at h2
  obtain⟨fs,f1,f2,f3⟩:=zM (s:={ s with heap:=h6 }) (M:=model prog w) hp6
  refine wpAny_bind (kat_kind f1 (by omega) f3 (by decide) ?_)
  have flag:(Value.type "int" != Value.type "tuple")=true:=by decide
  rw[flag]
  letI KF:PyProof.RowsP.KeyFn:=⟨cK h6,fun v=>v∈vs,tuples' true⟩
  haveI LO:PyProof.RowsP.LtOk prog w A E { s with heap:=h6 }:=A5 rfl hp6 fun u hu v hv e=>hd u hu v hv (by rw[← hf6 u hu,← hf6 v hv];exact e)
  have run:=PyProof.RowsP.wpS_sortAll (prog:=prog) (w:=w) (A:=A) (E:=E) (s:={ s with heap:=h6 }) (a₀:=pairsOf vs) (st:=SortSt.mk' (tuples' true) (vs.toArray.zip vs.toArray) #[] 7 none)
   (Q:=fun _ st'=>(arrOf st').Perm (pairsOf vs)/\failedOf st'=none/\PyProof.RowsP.Upl (arrOf st').toList) (fun p hp'=>?_) ⟨Array.Perm.refl _,rfl,rfl,rfl,JL _⟩ fun st' q1 q2 q3=>⟨q1,q2,q3⟩
  ·refine wpAny_bind (wpAny_mono run ?_ fun _ _ e=>e)
   rintro⟨⟨⟩,st'⟩ s' ⟨rfl,hpm,hf,hu⟩
   dsimp only
   have hl:(arrOf st').toList.Perm (vs.zip vs):=by rw[← pairsOf_toList];exact K2.mp hpm
   have hmem:∀ p,p∈(arrOf st').toList->p.1=p.2/\p.1∈vs:=fun p hp'=>mem_zip_self (hl.mem_iff.mp hp')
   have eo:((arrOf st').map (·.2)).toList=(arrOf st').toList.map (·.2):=Array.toList_map ..
   have eo2:(arrOf st').map (·.2)=((arrOf st').toList.map (·.2)).toArray:=by rw[← eo]
   have pm:((arrOf st').toList.map (·.2)).Perm vs:=by
    have z:=hl.map (·.2)
    rw[show(vs.zip vs).map (·.2)=vs from List.map_snd_zip (IG _)]at z
    exact z
   rw[eo2]
   refine wpAny_bind (seqEpoch_at ho6 rfl (wpAny_bind (listUpdate_at ho6 rfl ?_ (JL _) (by rw[Jl,pm.length_eq];exact K0 line))))
   rw[hf]
   simp only[bne_self_eq_false,JM,if_false]
   refine wpAny_pure ?_
   have up:((arrOf st').toList.map (·.2)).Pairwise (fun u v=>cK s.heap u<=cK s.heap v):=by
    refine Kw.mpr (MG (fun{x y} hx hy hxy=>?_) hu)
    have hxy':cK h6 x.1<=cK h6 y.1:=hxy
    obtain⟨ex,mx⟩:=hmem x hx
    obtain⟨ey,my⟩:=hmem y hy
    rw[← ex,← ey,← hf6 _ mx,← hf6 _ my]
    exact hxy'
   have:=h _ pm up
   rw[fin]at this
   exact this
  ·show p.1∈vs
   have hp2:p∈vs.zip vs:=by rw[← pairsOf_toList];exact hp'
   exact(mem_zip_self hp2).2
end
section
variable{X:Cx}{pins:List (Addr×Obj)}{σ:St}{H H':Hp}{s:Shared}{h':Heap}
theorem Inv.many{t':Nat}(I:Inv X pins σ H s)(k:∀ b o,s.heap.get? b=some o->h'.get? b=some o)(hn:∀ b,b<s.heap.objs.size->H' b=H b)(new:∀ b u,s.heap.objs.size<=b->H' b=some u->aY X.prog X.w H' h' b u):Inv X pins σ H' { s with heap:=h',toks:=t' }:=by
 have up:∀ b u,H b=some u->H' b=some u:=fun b u e=>by rw[hn b (I.hok.lt e)];exact e
 refine I.un ⟨fun b o e n _ _=>k b o e,fun b o e n _ _=>⟨o.slots,k b o e⟩,fun b o e n _=>by rw[hn b (Heap.lt_size e)];exact n,fun b o e _=>⟨o,k b o e⟩,fun b xs e=>up b _ e,fun b o u e=>up b _ e,fun b ps e=>⟨#[],by rw[up b _ e];simp⟩⟩ fun b u e=>?_
 by_cases z:b<s.heap.objs.size
 ·rw[hn b z]at e
  exact(I.hok b u e).stay (fun c v _ q=>k c v q) (fun c q=>up c _ q) fun c xs q=>up c _ q
 ·exact new b u (Nat.le_of_not_lt z) e
theorem Fm{α:Type}{l:List (Addr×α)}{a:Addr}{x:α}(nd:(l.map (·.1)).Nodup)(h:(a,x)∈l):l.lookup a=some x:=by
 induction l with
 |nil=>cases h
 |cons p r ih =>
  rw[Ju,JD]at nd
  rcases IL.mp h with e | h
  ·subst e
   simp[KU]
  ·have ne:(a == p.1)=false:=beq_eq_false_iff_ne.mpr fun z=>nd.1 (z▸IY.mpr ⟨_,h,rfl⟩)
   simp only[KU,ne]
   exact ih nd.2 h
theorem Df{α:Type}{l:List (Addr×α)}{a:Addr}{x:α}(h:l.lookup a=some x):(a,x)∈l:=by
 induction l with
 |nil=>cases h
 |cons p r ih =>
  simp only[KU]at h
  split at h
  ·rename_i e
   cases h
   have:=beq_iff_eq.mp e
   rw[this]
   exact Jc
  ·exact IV _ (ih h)
def rSortI:List V->Hp->VK->Prop:=fun xs H Q=>∃(v d:Addr)(kvs:List (Key×V))(ps:List (Int×Int)),xs = [.ref v]/\H v=some (cV v d)/\H d=some (.dK kvs)/\kvs=ps.map (fun e=>(Sum.inl e.1,V.int e.2))/\(ps.map (·.1)).Nodup /\
 ∀(l:Addr)(out:List V)(ps':List (Int×Int))(H':Hp),(∀ b u,H b=some u->H' b=some u)->H l=none->H' l=some (.lst out)->ps'.Perm ps->ps'.Pairwise (fun x y=>x.1<y.1)->out.length=ps'.length->(∀(i:Nat)(e:Int×Int),ps'[i]?=some e->∃ t,out[i]?=some (.ref t)/\H' t=some (.tup [.int e.1,.int e.2]))->Q (.ref l) H'
def ER(h:Heap):Value->Int
 |.ref a=>match h.get? a with
  |some o=>match o.data with
   |.seq xs _=>match(xs[1]? : Option Value) with
    |some (.int x _)=>x
    |_=>0
   |_=>0
  |none=>0
 |_=>0
theorem EO{h:Heap}{a:Addr}{o:Obj}{n:Nat}{x y:Int}{tx ty:Tok}(h1:h.get? a=some o)(h3:o.data=.seq #[.int x tx,.int y ty] n):ER h (.ref a)=y:=by
 unfold ER
 simp only[h1,h3]
 rfl
def adr:Value->Addr
 |.ref a=>a
 |_=>0
theorem Bm(hc:X.calm=true):j9 X (.builtin "sorted") rSortI:=by
 intro pins s σ H xs us Q I r h
 obtain⟨v,d,kvs,ps,rfl,hv,hd,ek,nd,q⟩:=h
 obtain⟨u,rfl,ru⟩:=tE r
 cases ru
 obtain⟨vw,_,_⟩:=(show aY X.prog X.w H s.heap v (cV v d) from I.hok v _ hv)
 obtain⟨_,es,ep,hent,esz,hes⟩:=lE (P:=X.prog) (w:=X.w) (H:=H) (h:=s.heap) (d:=d) (u:=.dK kvs) True.intro (I.hok d _ hd)
 obtain⟨hz,_⟩:=(show aY X.prog X.w H s.heap d (.dK kvs) from I.hok d _ hd)
 have esz':es.size=ps.length:=by
  rw[esz]
  show kvs.length=_
  rw[ek,IJ]
 have kl:kvs.length=ps.length:=by rw[ek,IJ]
 have ent:∀(j:Nat)(e:DictEntry),es[j]?=some e->∃ x tx ty,ps[j]?=some x/\e.key=.int x.1 tx/\e.val=.int x.2 ty:=fun j e he=>by
  obtain⟨a,b,c1,c2,c3⟩:=hes j e he
  rcases c1 with⟨kvs',k,e1,e2,e3⟩ | ⟨_,_,_,e1,_⟩
  ·cases e1
   rw[ek,II]at e2
   obtain⟨x,hx,e4⟩:=Jd.mp e2
   cases e4
   subst e3
   obtain⟨tx,e5⟩:=(show ∃ t,e.key=Value.int x.1 t from c2)
   obtain⟨ty,e6⟩:=(show ∃ t,e.val=Value.int x.2 t from c3)
   exact⟨x,tx,ty,hx,e5,e6⟩
  ·cases e1
 refine Calls.call_function_entry kind_sorted plain_sorted entry_sorted (args_sorted1 _) ?_
 unfold Builtin.«sorted»
 refine wpAny_bind (m:=checkCount "sorted" 1 1 _) (wpAny_pure ?_)
 refine wpAny_bind (sJ (I.ok.hd hc) vw hent (by rw[esz',← kl];exact hz) fun g acc hk hlt htk hap=>?_)
 have hlen:acc.toList.length<=sizeLine:=by rw[JK,htk.1,esz',← kl];exact hz
 refine wpAny_bind (wpAny_newList ?_ hlen)
 have hoL:(g.push (seqObj "list" acc.toList.toArray 0)).get? g.objs.size=some (seqObj "list" acc.toList.toArray 0):=Heap.get?_push_size _ rfl
 show wpAny _ _ _ _ _ { s with heap:=g.push (seqObj "list" acc.toList.toArray 0) }
 have tk:∀ w∈acc.toList,∃(j:Nat)(t:Addr)(x:Int×Int)(tx ty:Tok),acc.toList[j]?=some w/\w=.ref t/\ps[j]?=some x/\s.heap.objs.size<=t/\g.get? t=some { cls:=.type "tuple",data:=.seq #[.int x.1 tx,.int x.2 ty] }:=fun w hw=>by
  obtain⟨j,hj⟩:=JI hw
  obtain⟨t,e,a1,a2,a3,a4⟩:=htk.2 j w (by rw[← Kh];exact hj)
  obtain⟨x,tx,ty,b1,b2,b3⟩:=ent j e a2
  rw[b2,b3]at a4
  exact⟨j,t,x,tx,ty,hj,a1,b1,a3,a4⟩
 have tk2:∀ w∈acc.toList,∃(j:Nat)(t:Addr)(x:Int×Int)(tx ty:Tok),acc.toList[j]?=some w/\w=.ref t/\ps[j]?=some x/\s.heap.objs.size<=t/\(g.push (seqObj "list" acc.toList.toArray 0)).get? t=some { cls:=.type "tuple",data:=.seq #[.int x.1 tx,.int x.2 ty] }:=fun w hw=>by
  obtain⟨j,t,x,tx,ty,a1,a2,a3,a4,a5⟩:=tk w hw
  exact⟨j,t,x,tx,ty,a1,a2,a3,a4,Heap.get?_push_of_some _ a5⟩
 have keyat:∀(j:Nat)(w:Value)(x:Int×Int),acc.toList[j]?=some w->ps[j]?=some x->cK (g.push (seqObj "list" acc.toList.toArray 0)) w=x.1/\ER (g.push (seqObj "list" acc.toList.toArray 0)) w=x.2:=fun j w x hj hx=>by
  obtain⟨j',t,x',tx,ty,a1,a2,a3,a4,a5⟩:=tk2 w (ID hj)
  have ej:j=j':=(LB (by exact(IA.mp hj).1) hap).mp (hj.trans a1.symm)
  subst ej
  rw[hx]at a3
  cases a3
  subst a2
  exact⟨jR a5 rfl,EO a5 rfl⟩
 have hprv:∀ w∈acc.toList,PrV (g.push (seqObj "list" acc.toList.toArray 0)) w:=fun w hw=>by
  obtain⟨j,t,x,tx,ty,a1,a2,a3,a4,a5⟩:=tk2 w hw
  exact⟨t,_,_,x.1,x.2,tx,ty,a2,a5,rfl,rfl⟩
 have hdst:∀ a∈acc.toList,∀ b∈acc.toList,cK (g.push (seqObj "list" acc.toList.toArray 0)) a=cK (g.push (seqObj "list" acc.toList.toArray 0)) b->a=b:=fun a ha b hb e=>by
  obtain⟨j,_,x,_,_,a1,_,a3,_⟩:=tk2 a ha
  obtain⟨k,_,y,_,_,b1,_,b3,_⟩:=tk2 b hb
  rw[(keyat j a x a1 a3).1,(keyat k b y b1 b3).1]at e
  have h1:(ps.map (·.1))[j]?=some x.1:=by rw[II,a3];rfl
  have h2:(ps.map (·.1))[k]?=some y.1:=by rw[II,b3];rfl
  have ej:j=k:=(LB (IA.mp h1).1 nd).mp (by rw[h1,h2,e])
  subst ej
  rw[a1]at b1
  exact IW b1
 refine wpAny_bind (wpAny_holding (wpAny_call_entry slot_list_sort ⟨_,hoL,rfl⟩ entry_list_sort (wK hoL hprv hdst hlen fun out pm up=>⟨_,rfl,?_⟩) (args_list_sort _)))
 refine wpAny_pure ⟨_,rfl,?_⟩
 obtain⟨ep',hel⟩:=sortedHeap_at (out:=out.toArray) hoL
 have keepF:∀(b:Addr)(o:Obj),g.get? b=some o->(sortedHeap (g.push (seqObj "list" acc.toList.toArray 0)) g.objs.size acc.toList out.toArray).get? b=some o:=fun b o e=>by
  rw[sortedHeap_old (Jf (Heap.lt_size e)) (by rw[Heap.size_push];exact Kp (Heap.lt_size e))]
  exact Heap.get?_push_of_some _ e
 have tkO:∀ w∈out,∃(j:Nat)(t:Addr)(x:Int×Int)(tx ty:Tok),acc.toList[j]?=some w/\w=.ref t/\ps[j]?=some x/\s.heap.objs.size<=t/\t<g.objs.size/\(sortedHeap (g.push (seqObj "list" acc.toList.toArray 0)) g.objs.size acc.toList out.toArray).get? t=some { cls:=.type "tuple",data:=.seq #[.int x.1 tx,.int x.2 ty] }:=fun w hw=>by
  obtain⟨j,t,x,tx,ty,a1,a2,a3,a4,a5⟩:=tk w (pm.mem_iff.mp hw)
  exact⟨j,t,x,tx,ty,a1,a2,a3,a4,Heap.lt_size a5,keepF t _ a5⟩
 obtain⟨pr,hpr⟩:∃ pr:Value->Int×Int,pr=fun w=>(cK (g.push (seqObj "list" acc.toList.toArray 0)) w,ER (g.push (seqObj "list" acc.toList.toArray 0)) w):=⟨_,rfl⟩
 have prat:∀(j:Nat)(w:Value)(x:Int×Int),acc.toList[j]?=some w->ps[j]?=some x->pr w=x:=fun j w x h1 h2=>by
  rw[hpr]
  obtain⟨k1,k2⟩:=keyat j w x h1 h2
  exact Prod.ext k1 k2
 have eps:acc.toList.map pr=ps:=by
  refine Ky fun j=>?_
  rw[II]
  by_cases hj:j<ps.length
  ·have hj':j<acc.toList.length:=by rw[JK,htk.1,esz'];exact hj
   rw[IB hj',IB hj]
   show some (pr _)=_
   rw[prat j _ _ (IB hj') (IB hj)]
  ·rw[KY (l:=acc.toList) (by rw[JK,htk.1,esz'];omega),KY (by omega)]
   rfl
 have pmp:(out.map pr).Perm ps:=by
  have:=pm.map pr
  rwa[eps]at this
 have eout:(out.map adr).map Value.ref=out:=by
  rw[KD]
  refine(Lb (g:=id) fun w hw=>?_).trans (List.map_id _)
  obtain⟨_,t,_,_,_,_,a2,_⟩:=tkO w hw
  rw[a2]
  rfl
 have ndo:out.Nodup:=pm.nodup_iff.mpr hap
 have ndt:(out.map adr).Nodup:=by
  rw[← eout]at ndo
  exact(Kw.mp ndo).imp fun h e=>h (by rw[e])
 have sp:(out.map pr).Pairwise (fun x y=>x.1<y.1):=by
  have h1:(out.map pr).Pairwise (fun x y=>x.1<=y.1):=by
   refine Kw.mpr (up.imp fun{x y} hxy=>?_)
   rw[hpr]
   exact hxy
  have h2:(out.map pr).Pairwise (fun x y=>x.1≠y.1):=Kw.mp (show((out.map pr).map Prod.fst).Pairwise Ne from((pmp.map Prod.fst).nodup_iff).mpr nd)
  exact(h1.and h2).imp fun⟨a,b⟩=>by omega
 have zk:((out.map adr).zip (out.map pr)).map (·.1)=out.map adr:=List.map_fst_zip (by rw[IJ,IJ];exact IG _)
 obtain⟨H',hH'⟩:∃ H':Hp,H'=fun b=>if b=g.objs.size then some (.lst ((out.map adr).map V.ref)) else match((out.map adr).zip (out.map pr)).lookup b with | some e=>some (.tup [.int e.1,.int e.2]) | none=>H b:=⟨_,rfl⟩
 have hat:∀(i:Nat)(e:Int×Int),(out.map pr)[i]?=some e->∃ t,((out.map adr).map V.ref)[i]?=some (.ref t)/\H' t=some (.tup [.int e.1,.int e.2])/\s.heap.objs.size<=t/\t<g.objs.size:=fun i e he=>by
  rw[II]at he
  obtain⟨w,hw,rfl⟩:=Jd.mp he
  obtain⟨j,t,x,tx,ty,a1,a2,a3,a4,a5,a6⟩:=tkO w (ID hw)
  subst a2
  refine⟨t,by rw[II,II,hw];rfl,?_,a4,a5⟩
  rw[hH']
  show(if t=g.objs.size then _ else _)=_
  rw[if_neg (Jf a5),Fm (by rw[zk];exact ndt) (x:=pr (.ref t)) (ID (i:=i) (by rw[MB];exact⟨by rw[II,hw];rfl,by rw[II,hw];rfl⟩))]
 have low:∀ b,b<s.heap.objs.size->H' b=H b:=fun b hb=>by
  rw[hH']
  show(if b=g.objs.size then _ else _)=_
  rw[if_neg (Jf (Nat.lt_trans hb hlt))]
  cases z:((out.map adr).zip (out.map pr)).lookup b with
  |none=>rfl
  |some e =>
   have m:=Df z
   obtain⟨w,hw,ew⟩:=IY.mp (LU m).1
   obtain⟨_,t,_,_,_,_,a2,_,a4,_⟩:=tkO w hw
   subst a2
   have:t=b:=ew
   subst this
   exact absurd hb (Nat.not_lt_of_le a4)
 have I2:Inv X pins σ H' { s with heap:=sortedHeap (g.push (seqObj "list" acc.toList.toArray 0)) g.objs.size acc.toList out.toArray }:=by
  refine Inv.many (t':=s.toks) I (fun b o e=>keepF b o (hk b o e)) low fun b u hb hu=>?_
  by_cases zb:b=g.objs.size
  ·subst zb
   have e2:H' g.objs.size=some (.lst ((out.map adr).map V.ref)):=by rw[hH'];exact if_pos rfl
   rw[e2]at hu
   cases hu
   refine⟨by rw[IJ,IJ,pm.length_eq];exact hlen,out,ep',?_,hel⟩
   have:∀ l:List Addr,Vals (l.map V.ref) (l.map Value.ref):=fun l=>by
    induction l with
    |nil=>exact .nil
    |cons a l ih=>exact .cons rfl ih
   have z:=this (out.map adr)
   rw[eout]at z
   exact z
  ·have e2:H' b=(match((out.map adr).zip (out.map pr)).lookup b with | some e=>some (.tup [.int e.1,.int e.2]) | none=>H b):=by rw[hH'];exact if_neg zb
   rw[e2]at hu
   cases z:((out.map adr).zip (out.map pr)).lookup b with
   |none =>
    rw[z]at hu
    have:=I.hok.lt (show H b=some u from hu)
    exact absurd hb (Nat.not_le_of_lt this)
   |some e =>
    rw[z]at hu
    cases hu
    have m:=Df z
    obtain⟨i,hi⟩:=JI m
    obtain⟨h1,h2⟩:=MB.mp hi
    rw[II]at h1 h2
    obtain⟨w,hw,e3⟩:=Jd.mp h1
    rw[hw]at h2
    cases h2
    obtain⟨j,t,x,tx,ty,a1,a2,a3,a4,a5,a6⟩:=tkO w (ID hw)
    subst a2
    have eb:t=b:=e3
    subst eb
    rw[prat j _ x a1 a3]
    exact⟨(by decide:(2:Nat)<=sizeLine),[.int x.1 tx,.int x.2 ty],.cons ⟨tx,rfl⟩ (.cons ⟨ty,rfl⟩ .nil),_,a6,rfl,_,rfl⟩
 refine⟨.ref g.objs.size,H',I2,rfl,q g.objs.size _ (out.map pr) H' (fun b u e=>by rw[low b (I.hok.lt e)];exact e) (I.hok.fresh (JY hlt)) (by rw[hH'];exact if_pos rfl) pmp sp (by rw[IJ,IJ,IJ]) fun i e he=>?_⟩
 obtain⟨t,b1,b2,_⟩:=hat i e he
 exact⟨t,b1,b2⟩
end
end L2
namespace L2
open PySem PySem.Spec PyProof.Rows
def DRd(H:Hp)(d:Addr)(u:HO):Prop:=rY u/\(H d=some u∨∃ o,H d=some (.frz o u))
section
variable{X:Cx}
theorem DRd.ok{P:Program}{w:World}{H:Hp}{h:Heap}{d:Addr}{u:HO}(x:DRd H d u)(k:HOk P w H h):aY P w H h d u:=by
 obtain⟨_,x | ⟨o,x⟩⟩:=x
 ·exact k d _ x
 ·exact(k d _ x).2
theorem C1:MtR X "dict.items" (fun x xs H Q=>∃ d u,x=.ref d/\xs = []/\DRd H d u/\∀ v,H v=none->Q (.ref v) (upd H v (cV v d))):=by
 intro pins s σ H x xs v us Q I rx rv h
 obtain⟨d,u,rfl,rfl,hd,q⟩:=h
 cases rx
 have hus:=rv.zero
 subst hus
 obtain⟨lo,es,ep,hm,_⟩:=lE hd.1 (hd.ok I.hok)
 refine call_meetsIn KH hm.ty ME (Mz _) (Ag lo) ⟨⟨es,ep,hm⟩,?_⟩
 have hv:(s.heap.push { cls:=.type "dict_items",data:=.fields #[.ref d] }).IsItemsView s.heap.objs.size d:=⟨_,Heap.get?_push_size _ rfl,rfl,rfl⟩
 refine⟨.ref s.heap.objs.size,_,I.laid (t':=s.toks) (fun b o e=>Heap.get?_push_of_some _ e) (IG _) ?_,rfl,q _ (I.hok.fresh (IG _))⟩
 exact⟨hv,⟨_,Heap.get?_push_size _ rfl⟩,fun h1 h2 x k=>let ⟨o,ho,r⟩:=x;⟨o,k _ ho,r⟩⟩
def HS(te:TE):TI:=fun σ H R=>te σ H fun x H1=>∃ vw d u,x=.ref vw/\H1 vw=some (cV vw d)/\DRd H1 d u/\∀ o,(∀ o',H1 d=some (.frz o' u)->o'=o)->R (Itd o u d) (upd H1 d (.frz o u))
theorem uj{e:Expr}{te:TE}{es:List Expr}{k:Nat}{tp:Pos}(he:PE X e te):PI X (.Tuple es k tp) e (HS te):=by
 intro pins s σ H R I h
 refine thn (he pins s σ H _ I h) fun v s1 ⟨x,H1,I1,r1,q1⟩=>?_
 obtain⟨vw,d,u,rfl,hv,hd,q⟩:=q1
 cases r1
 obtain⟨hview,_,_⟩:=(show aY X.prog X.w H1 s1.heap vw (cV vw d) from I1.hok vw _ hv)
 obtain⟨_,ents,ep,hm,sz,_⟩:=lE hd.1 (hd.ok I1.hok)
 obtain⟨o,q1,q2,q3⟩:=id hm
 refine sh hview hm ?_
 have I2:Inv X pins σ (upd H1 d (.frz o u)) s1:=by
  obtain⟨hu,hd | ⟨o',hd⟩⟩:=hd
  ·exact I1.freeze hd hu q1
  ·have e1:=(show aY X.prog X.w H1 s1.heap d (.frz o' u) from I1.hok d _ hd).1
   rw[q1]at e1
   cases e1
   have:upd H1 d (.frz o u)=H1:=by
    funext b
    by_cases z:b=d
    ·rw[z,ae,hd]
    ·rw[ai z]
   rw[this]
   exact I1
 have uq:∀ o',H1 d=some (.frz o' u)->o'=o:=fun o' hd'=>by
  have e1:=(show aY X.prog X.w H1 s1.heap d (.frz o' u) from I1.hok d _ hd').1
  rw[q1]at e1
  exact(IW e1).symm
 have ne:d≠s1.heap.objs.size:=Jf (Heap.lt_size q1)
 refine⟨s1.heap.objs.size,[s1.heap.objs.size],_,_,upd H1 d (.frz o u),rfl,I2.kept (t':=s1.toks) fun b u e=>Heap.get?_push_of_some _ e,pR o u d _ hd.1 ents ep q2 q3,⟨_,_,Heap.get?_push_size _ rfl⟩,fun b hb=>?_,q o uq⟩
 rw[IX.mp hb]
 exact I2.fpOk (IG _) (I2.hok.fresh (IG _))
def GW(to:TE):TE:=fun σ H Q=>to σ H fun x H1=>∃ d u,x=.ref d/\DRd H1 d u/\∀ v,H1 v=none->Q (.ref v) (upd H1 v (cV v d))
theorem ur{o:Expr}{to:TE}{apos cpos:Pos}(ho:PE X o to) (hbase:attributeBase o "items" X.env (eval o X.env)=eval o X.env:=by rfl) (hline:(apos.endLine == cpos.line)=true:=by rfl):PE X (.Call (.Attribute o "items" apos) [] [] cpos) (GW to):=by
 intro pins s σ H Q I h
 refine wpAny_Call_method0_late hbase hline (thn (ho pins s σ H _ I h) fun v s1 ⟨x,H1,I1,r1,d,u,ex,hd,q⟩=>?_)
 subst ex
 obtain rfl:v=Value.ref d:=r1
 obtain⟨_,es,ep,⟨ob,e1,e2,e3⟩,_⟩:=lE hd.1 (hd.ok I1.hok)
 exact⟨"dict","dict.items",KI,KH,LF,⟨ob,e1,e2.1⟩,fun a z=>by cases z;exact⟨ob,e1,e2.2.1⟩,Calls.callWith_builtin rfl (PySem.evalArgs_none (C1 pins s1 σ H1 (.ref d) [] (.ref d) [] Q I1 rfl .nil ⟨d,u,rfl,rfl,hd,q⟩))⟩
end
end L2
namespace L2
open PySem PySem.Spec PyProof.Rows
structure WS(X:Cx)(st:Stmt)(t:TS):Prop where
 ok:PS X st t
structure WSs(X:Cx)(sts:List Stmt)(t:TS):Prop where
 ok:PSs X sts t
section
variable{X:Cx}{st:Stmt}{rest:List Stmt}{t u:TS}{e:Expr}{te:TE}{pos:Pos}{tg:Expr}
theorem GL:WSs X [] tNext:=⟨aP⟩
theorem mJ(h1:WS X st t)(h2:WSs X rest u):WSs X (st::rest) (tSeq t u):=⟨ag h1.ok h2.ok⟩
theorem wk(h1:WS X st t):WSs X [st] t:=⟨ao h1.ok⟩
theorem FR{i:Nat}{x:Str}{pos':Pos}(hN:X.N.Nodup)(hi:X.N[i]?=some x)(hx:Loc X.env.scope x)(he:PE X e te)(hs:swapsWith e (some (.Name x pos')) pos.line X.env=pure false:=by rfl)(hf:X.fn x=true∨X.env.scope.names.lookup x=some .local:=by first | exact .inl rfl | exact .inr rfl | assumption) :
  WS X (.Assign [.Name x pos'] e pos) (tAsg te (DM i)):=⟨az hN hi hx he hs hf⟩
theorem ws_ret(he:PE X e te):WS X (.Return (some e) pos) (tRet te):=⟨aK he⟩
theorem ws_if{a b:List Stmt}{tc:TT}(hc:PT X e tc)(ha:WSs X a t)(hb:WSs X b u):WS X (.If e a b pos) (tIfS tc t u):=⟨cT hc ha.ok hb.ok⟩
end
end L2
namespace L2
open PySem PySem.Spec PyProof.Rows
theorem zP{X:Cx}{pos:Pos}{k v:Expr}{tk tv:TE}(hk:PE X k tk)(hv:PE X v tv):PE X (.Dict [some k] [v] pos) (oY [(tk,tv)]):=CG (zN hk hv Cu) rfl rfl (fun z=>by cases z) (by show 1<=15;decide)
theorem pe_dd{X:Cx}{i j l:Int}{a b c:Nat}{p1 p2 p3 p4 p5:Pos}:PE X (.Dict [some (.Constant (.int i) a p1)] [.Dict [some (.Constant (.int j) b p2)] [.Constant (.int l) c p3] p4] p5) (oY [(tC (.int i),oY [(tC (.int j),tC (.int l))])]):=by
 have h0:PE X (.Constant (.int i) a p1) (tC (.int i)):=aj
 have h1:PE X (.Constant (.int j) b p2) (tC (.int j)):=aj
 have h2:PE X (.Constant (.int l) c p3) (tC (.int l)):=aj
 with_reducible exact zP h0 (zP h1 h2)
theorem EX{X:Cx}{n:Nat}{x:Str}{pos' pos:Pos}{i j l:Int}{a b c:Nat}{p1 p2 p3 p4 p5:Pos}(hN:X.N.Nodup:=by assumption)(hi:X.N[n]?=some x:=by rfl)(hx:Loc X.env.scope x:=by exact Or.inl rfl)(hf:X.fn x=true∨X.env.scope.names.lookup x=some .local:=by exact .inl rfl):PS X (.Assign [.Name x pos'] (.Dict [some (.Constant (.int i) a p1)] [.Dict [some (.Constant (.int j) b p2)] [.Constant (.int l) c p3] p4] p5) pos) (tAsg (oY [(tC (.int i),oY [(tC (.int j),tC (.int l))])]) (DM n)):=by
 have h:PE X (.Dict [some (.Constant (.int i) a p1)] [.Dict [some (.Constant (.int j) b p2)] [.Constant (.int l) c p3] p4] p5) (oY [(tC (.int i),oY [(tC (.int j),tC (.int l))])]):=by with_reducible exact pe_dd
 have hs:swapsWith (.Dict [some (.Constant (.int i) a p1)] [.Dict [some (.Constant (.int j) b p2)] [.Constant (.int l) c p3] p4] p5) (some (.Name x pos')) pos.line X.env=pure false:=rfl
 with_reducible exact az hN hi hx h hs hf
theorem EC{X:Cx}{n:Nat}{x:Str}{pos' pos:Pos}{i j l:Int}{a b c:Nat}{p1 p2 p3 p4 p5:Pos}(hN:X.N.Nodup)(hi:X.N[n]?=some x)(hx:Loc X.env.scope x)(hf:X.fn x=true∨X.env.scope.names.lookup x=some .local):WS X (.Assign [.Name x pos'] (.Dict [some (.Constant (.int i) a p1)] [.Dict [some (.Constant (.int j) b p2)] [.Constant (.int l) c p3] p4] p5) pos) (tAsg (oY [(tC (.int i),oY [(tC (.int j),tC (.int l))])]) (DM n)):=⟨by with_reducible exact EX hN hi hx hf⟩
theorem GN{X:Cx}{tg iter:Expr}{body:List Stmt}{wi:TI}{g:TG}{tb:TS}{pos:Pos}(hc:X.calm=true)(hi:PI X tg iter wi)(hg:PG X.nox tg g)(hb:WSs X.nox body tb)
  (hs:∀ x,foldedSetIterable iter X.env x=pure x:=by intro _;rfl):WS X (.For tg iter body [] pos) (tFor wi g tb):=⟨Co hc hi hg hb.ok hs⟩
theorem BH{X:Cx}{x:Str}{C:Addr}{e:Expr}{es:List Expr}{t:TA}{W:WK}{np cpos pos:Pos}(ec:ExC X.K C)(hm:X.mg x=some (.ref C))(hg:Gl X x)(ws:Wsh X W)(hx:X.ex = [])(hc:X.calm=true)(ha:PA X (e::es) t)
  (he:starEach (e::es) X.env=(false,eval e X.env)::starEach es X.env:=by rfl) (hpl:(backTo cpos (starEach es X.env)).any (·.1)=false:=by rfl) (hdb:(x == ("__debug__" : Str))=false:=by decide) :
  WS X (.Raise (some (.Call (.Name x np) (e::es) [] cpos)) none pos) (FV C W t):=⟨t9 ec hm hg ws hx hc ha he hpl hdb⟩
end L2
namespace L2
theorem len_0{α:Type}{l:List α}(h:l.length=0):l = []:=Le.mp h
theorem Dh{α:Type}{l:List α}{n:Nat}(h:l.length=n+1):∃ x r,l=x::r/\r.length=n:=by
 cases l with
 |nil=>cases h
 |cons x r=>exact⟨x,r,rfl,Nat.succ.inj h⟩
theorem uR{α:Type}{l:List α}(h:l.length=1):∃ a,l = [a]:=by
 obtain⟨a,r,rfl,e⟩:=Dh h
 exact⟨a,by rw[len_0 e]⟩
theorem iN{α:Type}{l:List α}(h:l.length=2):∃ a b,l = [a,b]:=by
 obtain⟨a,r,rfl,e⟩:=Dh h
 obtain⟨b,rfl⟩:=uR e
 exact⟨a,b,rfl⟩
theorem uQ{α:Type}{l:List α}(h:l.length=3):∃ a b c,l = [a,b,c]:=by
 obtain⟨a,r,rfl,e⟩:=Dh h
 obtain⟨b,c,rfl⟩:=iN e
 exact⟨a,b,c,rfl⟩
theorem Fn{α:Type}{l:List α}(h:l.length=4):∃ a b c d,l = [a,b,c,d]:=by
 obtain⟨a,r,rfl,e⟩:=Dh h
 obtain⟨b,c,d,rfl⟩:=uQ e
 exact⟨a,b,c,d,rfl⟩
theorem len_5{α:Type}{l:List α}(h:l.length=5):∃ a b c d e,l = [a,b,c,d,e]:=by
 obtain⟨a,r,rfl,z⟩:=Dh h
 obtain⟨b,c,d,e,rfl⟩:=Fn z
 exact⟨a,b,c,d,e,rfl⟩
end L2
namespace K8
theorem FX:∀{a b:List Nat},a.Nodup->(∀ x∈a,x∈b)->a.length<=b.length
 |[],_,_,_=>JL _
 |x::a,b,nd,h=>by
  obtain⟨n1,n2⟩:=JD.mp nd
  have hx:=h x (by simp)
  have ih:=FX (a:=a) (b:=b.erase x) n2 fun y hy=>(List.mem_erase_of_ne (fun e:y=x=>n1 (e▸hy))).mpr (h y (IV _ hy))
  rw[List.length_erase_of_mem hx]at ih
  have:0<b.length:=LJ hx
  rw[Jm]
  omega
theorem gA{a:List Nat}{N:Nat}(nd:a.Nodup)(h:∀ x∈a,x<N):a.length<=N:=by
 have:=FX (b:=JC N) nd fun x hx=>Jz.mpr (h x hx)
 rwa[JV]at this
theorem F9{l:List Nat}(nd:l.Nodup){i j x:Nat}(hi:l[i]?=some x)(hj:l[j]?=some x):i=j:=by
 have p:=Kf.mp nd
 obtain⟨h1,e1⟩:=IA.mp hi
 obtain⟨h2,e2⟩:=IA.mp hj
 rcases Nat.lt_trichotomy i j with z | z | z
 ·exact absurd (e1.trans e2.symm) (p i j h1 h2 z)
 ·exact z
 ·exact absurd (e2.trans e1.symm) (p j i h2 h1 z)
abbrev En:=List (Nat×Nat)
structure bh(m:Nat)(es:En)(ts:List (List Nat)):Prop where
 len:ts.length=m
 ends:∀ e∈es,e.1<m/\e.2<m/\e.1≠e.2
 nd:∀(p:Nat)(l:List Nat),ts[p]?=some l->l.Nodup
 mem:∀(p:Nat)(l:List Nat),ts[p]?=some l->∀ t,t∈l↔∃ e,es[t]?=some e/\(e.1=p∨e.2=p)
theorem EH(m:Nat):bh m [] (K4 m []) where
 len:=by simp
 ends:=fun e h=>by cases h
 nd:=fun p l h=>by
  rw[KJ]at h
  split at h
  ·cases h;exact K5
  ·cases h
 mem:=fun p l h t=>by
  rw[KJ]at h
  split at h
  ·cases h;simp
  ·cases h
def ins(l:List Nat)(k x:Nat):List Nat:=l.take k++x::l.drop k
theorem yz{l:List Nat}{k x y:Nat}:y∈ins l k x↔y=x∨y∈l:=by
 unfold ins
 rw[IK,IL]
 have:=Ji k l
 constructor
 ·rintro(h | h | h)
  ·exact .inr (JQ h)
  ·exact .inl h
  ·exact .inr (JR h)
 ·rintro(h | h)
  ·exact .inr (.inl h)
  ·rw[← this]at h
   rcases IK.mp h with z | z
   ·exact .inl z
   ·exact .inr (.inr z)
theorem DD{l:List Nat}{k x:Nat}(nd:l.Nodup)(h:x∉l):(ins l k x).Nodup:=by
 unfold ins
 have e:=Ji k l
 rw[← e]at nd
 obtain⟨a,b,c⟩:=Jo.mp nd
 refine Jo.mpr ⟨a,JD.mpr ⟨fun z=>h (JR z),b⟩,fun y hy z hz=>?_⟩
 rcases IL.mp hz with q | q
 ·intro w
  exact h (by rw[← q,← w];exact JQ hy)
 ·exact c y hy z q
theorem bh.put{m:Nat}{es:En}{ts:List (List Nat)}{one two k j:Nat}{l l':List Nat}(w:bh m es ts)(h1:one<m)(h2:two<m)(hn:one≠two)(e1:ts[one]?=some l)(e2:ts[two]?=some l') :
  bh m (es++[(one,two)]) ((ts.set one (ins l k es.length)).set two (ins l' j es.length)):=by
 have old:∀{p l},ts[p]?=some l->es.length∉l:=fun{p l} e z=>by
  obtain⟨x,hx,_⟩:=(w.mem p l e es.length).mp z
  have:=(IA.mp hx).1
  omega
 have get:∀ p q,((ts.set one (ins l k es.length)).set two (ins l' j es.length))[p]?=some q->(p=two/\q=ins l' j es.length)∨(p=one/\p≠two/\q=ins l k es.length)∨(p≠one/\p≠two/\ts[p]?=some q):=fun p q e=>by
  have L:two<(ts.set one (ins l k es.length)).length:=by rw[JO,w.len];exact h2
  have L1:one<ts.length:=by rw[w.len];exact h1
  rw[JP]at e
  by_cases z:two=p
  ·rw[if_pos z,if_pos L]at e
   exact .inl ⟨z.symm,(IW e).symm⟩
  ·rw[if_neg z,JP]at e
   by_cases y:one=p
   ·rw[if_pos y,if_pos L1]at e
    exact .inr (.inl ⟨y.symm,Ne.symm z,(IW e).symm⟩)
   ·rw[if_neg y]at e
    exact .inr (.inr ⟨Ne.symm y,Ne.symm z,e⟩)
 have esg:∀ t x,(es++[(one,two)])[t]?=some x↔(es[t]?=some x)∨(t=es.length/\x=(one,two)):=fun t x=>by
  by_cases z:t<es.length
  ·rw[IH z]
   constructor
   ·exact .inl
   ·rintro(y | y)
    ·exact y
    ·omega
  ·rw[IE (by omega)]
   constructor
   ·intro y
    have hl:=(IA.mp y).1
    rw[IM]at hl
    have ht:t=es.length:=by omega
    subst ht
    rw[Je]at y
    cases y
    exact .inr ⟨rfl,rfl⟩
   ·rintro(y | ⟨y,rfl⟩)
    ·have:=(IA.mp y).1;omega
    ·rw[y,Je];rfl
 refine⟨by rw[JO,JO];exact w.len,fun e he=>?_,fun p q e=>?_,fun p q e t=>?_⟩
 ·rcases IK.mp he with z | z
  ·exact w.ends e z
  ·have:e=(one,two):=by simpa using z
   subst this
   exact⟨h1,h2,hn⟩
 ·rcases get p q e with⟨_,rfl⟩ | ⟨_,_,rfl⟩ | ⟨_,_,y⟩
  ·exact DD (w.nd two l' e2) (old e2)
  ·exact DD (w.nd one l e1) (old e1)
  ·exact w.nd p q y
 ·rcases get p q e with⟨rfl,rfl⟩ | ⟨rfl,np,rfl⟩ | ⟨n1,n2,y⟩
  ·rw[yz,w.mem p l' e2 t]
   constructor
   ·rintro(z | ⟨x,hx,hp⟩)
    ·exact⟨(one,p),(esg _ _).mpr (.inr ⟨z,rfl⟩),.inr rfl⟩
    ·exact⟨x,(esg _ _).mpr (.inl hx),hp⟩
   ·rintro⟨x,hx,hp⟩
    rcases(esg _ _).mp hx with z | ⟨z,_⟩
    ·exact .inr ⟨x,z,hp⟩
    ·exact .inl z
  ·rw[yz,w.mem p l e1 t]
   constructor
   ·rintro(z | ⟨x,hx,hp⟩)
    ·exact⟨(p,two),(esg _ _).mpr (.inr ⟨z,rfl⟩),.inl rfl⟩
    ·exact⟨x,(esg _ _).mpr (.inl hx),hp⟩
   ·rintro⟨x,hx,hp⟩
    rcases(esg _ _).mp hx with z | ⟨z,_⟩
    ·exact .inr ⟨x,z,hp⟩
    ·exact .inl z
  ·rw[w.mem p q y t]
   constructor
   ·rintro⟨x,hx,hp⟩
    exact⟨x,(esg _ _).mpr (.inl hx),hp⟩
   ·rintro⟨x,hx,hp⟩
    rcases(esg _ _).mp hx with z | ⟨z,rfl⟩
    ·exact⟨x,z,hp⟩
    ·rcases hp with hp | hp
     ·exact absurd hp.symm n1
     ·exact absurd hp.symm n2
def hd(es:En)(d:Nat):Nat:=match es[d/2]? with | some e=>if d%2=0 then e.2 else e.1 | none=>0
def tl(es:En)(d:Nat):Nat:=match es[d/2]? with | some e=>if d%2=0 then e.1 else e.2 | none=>0
def leave(es:En)(t p:Nat):Nat:=match es[t]? with | some e=>if e.1=p then 2*t else 2*t+1 | none=>0
def nxt(l:List Nat)(t:Nat):Nat:=(l[(l.idxOf t+1)%l.length]?).getD 0
def fol(es:En)(ts:List (List Nat))(d:Nat):Nat:=leave es (nxt ((ts[hd es d]?).getD []) (d/2)) (hd es d)
section
variable{m:Nat}{es:En}{ts:List (List Nat)}
theorem DG{l:List Nat}{t:Nat}(h:t∈l):l[l.idxOf t]?=some t:=by
 have hl:=Lz.mpr h
 rw[IB hl,List.getElem_idxOf]
theorem i4{l:List Nat}{t:Nat}(h:t∈l):l[(l.idxOf t+1)%l.length]?=some (nxt l t):=by
 have hl:0<l.length:=LJ h
 have:=Nat.mod_lt (l.idxOf t+1) hl
 unfold nxt
 rw[IB this]
 rfl
theorem bh.at(w:bh m es ts){d:Nat}(h:d<2*es.length):∃ e l,es[d/2]?=some e/\hd es d=(if d%2=0 then e.2 else e.1)/\tl es d=(if d%2=0 then e.1 else e.2)/\hd es d<m/\ts[hd es d]?=some l/\d/2∈l:=by
 have hl:d/2<es.length:=by omega
 have e1:es[d/2]?=some es[d/2]:=IB hl
 have q:=w.ends _ (ID e1)
 generalize es[d/2]=e at e1 q
 have h1:hd es d=(if d%2=0 then e.2 else e.1):=by unfold hd;rw[e1]
 have h2:tl es d=(if d%2=0 then e.1 else e.2):=by unfold tl;rw[e1]
 have h3:hd es d<m:=by rw[h1];split<;>omega
 have h4:ts[hd es d]?=some (ts[hd es d]'(by rw[w.len];exact h3)):=IB _
 refine⟨e,_,e1,h1,h2,h3,h4,(w.mem _ _ h4 _).mpr ⟨e,e1,?_⟩⟩
 rw[h1]
 split
 ·exact .inr rfl
 ·exact .inl rfl
theorem bh.foll(w:bh m es ts){d:Nat}(h:d<2*es.length):∃ l e,ts[hd es d]?=some l/\d/2∈l/\es[nxt l (d/2)]?=some e/\(e.1=hd es d∨e.2=hd es d)/\e.1≠e.2/\fol es ts d=(if e.1=hd es d then 2*nxt l (d/2) else 2*nxt l (d/2)+1)/\fol es ts d<2*es.length/\fol es ts d/2=nxt l (d/2)/\tl es (fol es ts d)=hd es d:=by
 obtain⟨e0,l,h1,h2,h3,h4,h5,h6⟩:=w.at h
 have hn:=i4 h6
 obtain⟨e,he,hp⟩:=(w.mem _ _ h5 _).mp (ID hn)
 have hlt:=(IA.mp he).1
 have hne:=(w.ends e (ID he)).2.2
 have hf:fol es ts d=(if e.1=hd es d then 2*nxt l (d/2) else 2*nxt l (d/2)+1):=by
  unfold fol
  rw[h5]
  show leave es (nxt l (d/2)) (hd es d)=_
  unfold leave
  rw[he]
 refine⟨l,e,h5,h6,he,hp,hne,hf,?_,?_,?_⟩
 ·rw[hf];split<;>omega
 ·rw[hf];split<;>omega
 ·rw[hf]
  by_cases z:e.1=hd es d
  ·have a1:2*nxt l (d/2)/2=nxt l (d/2):=by omega
   have a2:2*nxt l (d/2)%2=0:=by omega
   rw[if_pos z]
   unfold tl
   rw[a1,he]
   show(if 2*nxt l (d/2)%2=0 then e.1 else e.2)=_
   rw[if_pos a2,z]
  ·have a1:(2*nxt l (d/2)+1)/2=nxt l (d/2):=by omega
   have a2:¬ (2*nxt l (d/2)+1)%2=0:=by omega
   rw[if_neg z]
   unfold tl
   rw[a1,he]
   show(if(2*nxt l (d/2)+1)%2=0 then e.1 else e.2)=_
   rw[if_neg a2]
   exact hp.elim (fun y=>absurd y z) id
theorem bh.inj(w:bh m es ts){a b:Nat}(ha:a<2*es.length)(hb:b<2*es.length)(h:fol es ts a=fol es ts b):a=b:=by
 obtain⟨l,e,p1,p2,_,_,_,_,_,p3,p4⟩:=w.foll ha
 obtain⟨l',e',q1,q2,_,_,_,_,_,q3,q4⟩:=w.foll hb
 have hh:hd es a=hd es b:=by rw[← p4,← q4,h]
 rw[hh,q1]at p1
 cases p1
 have hx:nxt l (a/2)=nxt l (b/2):=by rw[← p3,← q3,h]
 have g1:=i4 p2
 have g2:=i4 q2
 rw[hx]at g1
 have ii:=F9 (w.nd _ _ q1) g1 g2
 have i1:=Lz.mpr p2
 have i2:=Lz.mpr q2
 have ix:l.idxOf (a/2)=l.idxOf (b/2):=by
  generalize l.idxOf (a/2)=x at *
  generalize l.idxOf (b/2)=y at *
  by_cases z1:x+1=l.length
  ·by_cases z2:y+1=l.length
   ·omega
   ·rw[z1,LQ,Kq (by omega)]at ii;omega
  ·by_cases z2:y+1=l.length
   ·rw[z2,LQ,Kq (by omega)]at ii;omega
   ·rw[Kq (by omega),Kq (by omega)]at ii;omega
 have ht:a/2=b/2:=by
  have g3:=DG p2
  have g4:=DG q2
  rw[ix,g4]at g3
  exact(IW g3).symm
 obtain⟨e1,_,r1,r2,_,_,_,_⟩:=w.at ha
 obtain⟨e2,_,s1,s2,_,_,_,_⟩:=w.at hb
 rw[ht,s1]at r1
 have ee:e2=e1:=IW r1
 rw[ee]at s1 s2
 have hne:=(w.ends e1 (ID s1)).2.2
 rw[r2,s2]at hh
 have:a%2=b%2:=by
  by_cases z1:a%2=0<;>by_cases z2:b%2=0
  ·omega
  ·rw[if_pos z1,if_neg z2]at hh;exact absurd hh.symm hne
  ·rw[if_neg z1,if_pos z2]at hh;exact absurd hh hne
  ·omega
 omega
end
structure EA(f:Nat->Nat)(N:Nat):Prop where
 lt:∀ d,d<N->f d<N
 inj:∀ a b,a<N->b<N->f a=f b->a=b
structure Path(f:Nat->Nat)(N first:Nat)(r:List Nat):Prop where
 hd:r[0]?=some first
 lt:∀ d∈r,d<N
 nd:r.Nodup
 nx:∀ i x y,r[i]?=some x->r[i+1]?=some y->y=f x
theorem E4{f:Nat->Nat}{N d:Nat}(h:d<N):Path f N d [d] where
 hd:=rfl
 lt:=fun x hx=>by have:x=d:=by simpa using hx
                  rw[this];exact h
 nd:=by simp
 nx:=fun i x y h1 h2=>by
  have:=(IA.mp h2).1
  rw[IM]at this
  omega
theorem Path.snoc{f:Nat->Nat}{N d x:Nat}{r:List Nat}(p:EA f N)(h:Path f N d (r++[x]))(hn:f x≠d):Path f N d (r++[x]++[f x]) where
 hd:=by rw[IH (by rw[IF,IM];omega)];exact h.hd
 lt:=fun y hy=>by
  rcases IK.mp hy with z | z
  ·exact h.lt y z
  ·have:y=f x:=by simpa using z
   rw[this];exact p.lt x (h.lt x (by simp))
 nd:=by
  refine Jo.mpr ⟨h.nd,by simp,fun a ha b hb e=>?_⟩
  have eb:b=f x:=by simpa using hb
  subst eb
  obtain⟨i,hi⟩:=JU.mp ha
  rw[e]at hi
  have hil:=(IA.mp hi).1
  rw[IF,IM]at hil
  cases i with
  |zero =>
   rw[h.hd]at hi
   exact hn (IW hi).symm
  |succ i =>
   have gi:(r++[x])[i]?=some ((r++[x])[i]'(by rw[IF,IM];omega)):=IB _
   have:=h.nx i _ _ gi hi
   have mi:=h.lt _ (ID gi)
   have mx:=h.lt x (by simp)
   have e2:=p.inj _ _ mx mi this
   rw[← e2]at gi
   have gx:(r++[x])[r.length]?=some x:=by rw[IE (IG _),Je];rfl
   have:=F9 h.nd gi gx
   omega
 nx:=fun i a b h1 h2=>by
  have h2l:=(IA.mp h2).1
  rw[IF,IF,IM,IM]at h2l
  rw[IH (by rw[IF,IM];omega)]at h1
  by_cases z:i+1<(r++[x]).length
  ·rw[IH z]at h2
   exact h.nx i a b h1 h2
  ·rw[IF,IM]at z
   have ei:i=r.length:=by omega
   subst ei
   rw[IE (by rw[IF,IM];omega)]at h2
   have:r.length+1-(r++[x]).length=0:=by rw[IF,IM];omega
   rw[this]at h2
   rw[IE (IG _),Je]at h1
   have e1:x=a:=IW h1
   have e2:f x=b:=IW h2
   rw[← e2,e1]
structure Ring(f:Nat->Nat)(N:Nat)(r:List Nat):Prop where
 lt:∀ d∈r,d<N
 nd:r.Nodup
 ne:0<r.length
 nx:∀ i x,r[i]?=some x->r[(i+1)%r.length]?=some (f x)
theorem Path.ring{f:Nat->Nat}{N d x:Nat}{r:List Nat}(p:EA f N)(h:Path f N d (r++[x]))(he:f x=d):Ring f N (r++[x]) where
 lt:=h.lt
 nd:=h.nd
 ne:=by rw[IF,IM];omega
 nx:=fun i y hy=>by
  have hl:=(IA.mp hy).1
  by_cases z:i+1=(r++[x]).length
  ·rw[z,LQ]
   have:i=r.length:=by rw[IF,IM]at z;omega
   subst this
   rw[IE (IG _),Je]at hy
   have:x=y:=IW hy
   subst this
   rw[he];exact h.hd
  ·have l2:i+1<(r++[x]).length:=by omega
   rw[Kq l2]
   have g:=IB l2
   rw[g,h.nx i _ _ hy g]
theorem Ring.back{f:Nat->Nat}{N a:Nat}{r:List Nat}(p:EA f N)(h:Ring f N r)(ha:a<N)(hf:f a∈r):a∈r:=by
 obtain⟨i,hi⟩:=JU.mp hf
 have hl:=(IA.mp hi).1
 have key:∃ j,j<r.length/\(j+1)%r.length=i:=by
  cases i with
  |zero=>exact⟨r.length-1,by have:=h.ne;omega,by have:=h.ne;rw[show r.length-1+1=r.length by omega,LQ]⟩
  |succ i=>exact⟨i,by omega,Kq hl⟩
 obtain⟨j,hj,ej⟩:=key
 have g:=IB hj
 have q:=h.nx j _ g
 rw[ej,hi]at q
 have mj:=h.lt _ (ID g)
 have:=p.inj _ _ ha mj (IW q)
 rw[this]
 exact ID g
structure dX(f:Nat->Nat)(N i:Nat)(rs:List (List Nat)):Prop where
 ring:∀ r∈rs,Ring f N r
 hdl:∀ r∈rs,∀ h,r[0]?=some h->h<i/\∀ d∈r,h<=d
 asc:∀(a b:Nat)(r r':List Nat)(h h':Nat),a<b->rs[a]?=some r->rs[b]?=some r'->r[0]?=some h->r'[0]?=some h'->h<h'
 nd:rs.flatten.Nodup
 all:∀ d,d<i->d∈rs.flatten
theorem AA(f:Nat->Nat)(N:Nat):dX f N 0 [] where
 ring:=fun r h=>by cases h
 hdl:=fun r h=>by cases h
 asc:=fun a b r r' h h' _ e=>by cases e
 nd:=by simp
 all:=fun d h=>by omega
theorem dX.skip{f:Nat->Nat}{N i:Nat}{rs:List (List Nat)}(w:dX f N i rs)(h:i∈rs.flatten):dX f N (i+1) rs where
 ring:=w.ring
 hdl:=fun r hr x hx=>⟨by have:=(w.hdl r hr x hx).1;omega,(w.hdl r hr x hx).2⟩
 asc:=w.asc
 nd:=w.nd
 all:=fun d hd=>by
  by_cases z:d=i
  ·rw[z];exact h
  ·exact w.all d (by omega)
theorem dX.put{f:Nat->Nat}{N i:Nat}{rs:List (List Nat)}{r:List Nat}(p:EA f N)(w:dX f N i rs)(h:i∉rs.flatten)(hi:i<N)(hr:Ring f N r)(pa:Path f N i r):dX f N (i+1) (rs++[r]):=by
 have apart:∀(k x:Nat),r[k]?=some x->x∉rs.flatten:=fun k=>by
  induction k with
  |zero =>
   intro x hx
   rw[pa.hd]at hx
   cases hx
   exact h
  |succ k ih =>
   intro x hx z
   have hl:=(IA.mp hx).1
   have g:=IB (show k<r.length by omega)
   have e:=pa.nx k _ _ g hx
   obtain⟨q,hq,zq⟩:=JN.mp z
   rw[e]at zq
   exact ih _ g (JN.mpr ⟨q,hq,(w.ring q hq).back p (hr.lt _ (ID g)) zq⟩)
 have least:∀ d∈r,i<=d:=fun d hd=>by
  obtain⟨k,hk⟩:=JU.mp hd
  by_cases z:i<=d
  ·exact z
  ·exact absurd (w.all d (by omega)) (apart k d hk)
 refine⟨fun q hq=>?_,fun q hq x hx=>?_,fun a b q q' x x' hab ha hb hx hx'=>?_,?_,fun d hd=>?_⟩
 ·rcases IK.mp hq with z | z
  ·exact w.ring q z
  ·have:q=r:=by simpa using z
   rw[this];exact hr
 ·rcases IK.mp hq with z | z
  ·have:=w.hdl q z x hx
   exact⟨by omega,this.2⟩
  ·have e:q=r:=by simpa using z
   subst e
   rw[pa.hd]at hx
   cases hx
   exact⟨by omega,least⟩
 ·have bl:=(IA.mp hb).1
  rw[IF,IM]at bl
  rw[IH (by omega)]at ha
  by_cases z:b<rs.length
  ·rw[IH z]at hb
   exact w.asc a b q q' x x' hab ha hb hx hx'
  ·have eb:b=rs.length:=by omega
   subst eb
   rw[IE (IG _),Je]at hb
   have e:r=q':=IW hb
   subst e
   rw[pa.hd]at hx'
   cases hx'
   exact(w.hdl q (ID ha) x hx).1
 ·rw[J2]
  have e : [r].flatten=r:=by simp
  rw[e]
  refine Jo.mpr ⟨w.nd,hr.nd,fun a ha b hb e=>?_⟩
  obtain⟨k,hk⟩:=JU.mp hb
  exact apart k b hk (e▸ha)
 ·rw[J2,IK]
  by_cases z:d=i
  ·right
   rw[z]
   simp
   exact ID pa.hd
  ·exact .inl (w.all d (by omega))
theorem Ib{rs:List (List Nat)}(nd:rs.flatten.Nodup){a b:Nat}{r r':List Nat}{d:Nat}(ha:rs[a]?=some r)(hb:rs[b]?=some r')(h1:d∈r)(h2:d∈r'):a=b:=by
 induction rs generalizing a b with
 |nil=>cases ha
 |cons q rs ih =>
  rw[JW]at nd
  obtain⟨_,n2,n3⟩:=Jo.mp nd
  cases a with
  |zero =>
   cases b with
   |zero=>rfl
   |succ b =>
    have e:q=r:=IW ha
    subst e
    exact absurd rfl (n3 d h1 d (JN.mpr ⟨r',ID hb,h2⟩))
  |succ a =>
   cases b with
   |zero =>
    have e:q=r':=IW hb
    subst e
    exact absurd rfl (n3 d h2 d (JN.mpr ⟨r,ID ha,h1⟩))
   |succ b=>exact congrArg Nat.succ (ih n2 ha hb)
end K8
namespace K8
def gM(f:Nat->Nat):Nat->List Nat->Nat->Prop
 |x,[],z=>f x=z
 |x,y::l,z=>f x=y/\gM f y l z
theorem dP{f:Nat->Nat}:∀{x:Nat}{l:List Nat}{y:Nat}{k:List Nat}{z:Nat},gM f x (l++y::k) z↔gM f x l y/\gM f y k z
 |x,[],y,k,z=>Iff.rfl
 |x,a::l,y,k,z=>by
  show(f x=a/\gM f a (l++y::k) z)↔(f x=a/\gM f a l y)/\gM f y k z
  rw[dP,and_assoc]
theorem sL{f g:Nat->Nat}:∀{x y:Nat}{l:List Nat}{z:Nat},gM f x l z->g y=f x->(∀ t∈l,g t=f t)->gM g y l z
 |x,y,[],z,h,e,_=>e.trans h
 |x,y,a::l,z,h,e,k=>⟨e.trans h.1,sL h.2 (k a (Jc ..)) fun t ht=>k t (IV _ ht)⟩
theorem vF{f g F:Nat->Nat}:∀{x:Nat}{l:List Nat}{z:Nat},gM f x l z->(∀ t∈x::l,g (F t)=F (f t))->gM g (F x) (l.map F) (F z)
 |x,[],z,h,k=>by
  show g (F x)=F z
  rw[k x (Jc ..),show f x=z from h]
 |x,a::l,z,h,k=>⟨by rw[k x (Jc ..),h.1],vF h.2 fun t ht=>k t (IV _ ht)⟩
theorem og{f:Nat->Nat}{S:Nat->Prop}:∀{x:Nat}{l:List Nat}{z:Nat},gM f x l z->(∀ t∈x::l,S t->S (f t))->S x->S z/\∀ t∈l,S t
 |x,[],z,h,k,s=>⟨by have:=k x (Jc ..) s;rwa[show f x=z from h]at this,fun t ht=>nomatch ht⟩
 |x,a::l,z,h,k,s=>by
  have s1:S a:=by have:=k x (Jc ..) s;rwa[h.1]at this
  obtain⟨h1,h2⟩:=og h.2 (fun t ht=>k t (IV _ ht)) s1
  refine⟨h1,fun t ht=>?_⟩
  rcases IL.mp ht with y | y
  ·rw[y];exact s1
  ·exact h2 t y
structure CR(f:Nat->Nat)(N:Nat)(r:List Nat):Prop where
 ch:∃ x l,r=x::l/\gM f x l x
 lt:∀ d∈r,d<N
 nd:r.Nodup
theorem CR.closed{f:Nat->Nat}{N:Nat}{r:List Nat}(h:CR f N r):∀ d∈r,f d∈r:=by
 obtain⟨x,l,rfl,c⟩:=h.ch
 intro d hd
 rcases IL.mp hd with y | y
 ·subst y
  cases l with
  |nil=>rw[show f d=d from c];exact Jc ..
  |cons a l=>rw[c.1];simp
 ·obtain⟨A,B,rfl⟩:=Lw y
  have c2:=(dP.mp c).2
  cases B with
  |nil=>rw[show f d=x from c2];exact Jc ..
  |cons a B=>rw[c2.1];simp
theorem CR.sub{f:Nat->Nat}{N:Nat}{r:List Nat}{S:Nat->Prop}(h:CR f N r)(k:∀ t∈r,S t->S (f t)){d:Nat}(hd:d∈r)(s:S d):∀ t∈r,S t:=by
 obtain⟨x,l,rfl,c⟩:=h.ch
 have fromx:S x->∀ t∈x::l,S t:=fun sx t ht=>by
  rcases IL.mp ht with y | y
  ·rw[y];exact sx
  ·exact(og c k sx).2 t y
 rcases IL.mp hd with y | y
 ·exact fromx (y▸s)
 ·obtain⟨A,B,rfl⟩:=Lw y
  have c2:=(dP.mp c).2
  exact fromx (og c2 (fun t ht=>k t (by simp only[IL,IK]at ht ⊢;rcases ht with z | z<;>simp[z])) s).1
theorem CR.same{f:Nat->Nat}{N:Nat}{r r':List Nat}(h:CR f N r)(h':CR f N r'){d:Nat}(h1:d∈r)(h2:d∈r'):∀ t∈r,t∈r':=h.sub (S:=fun t=>t∈r') (fun t _=>h'.closed t) h1 h2
theorem CR.ne{f:Nat->Nat}{N:Nat}{r:List Nat}(h:CR f N r):∃ d,d∈r:=by
 obtain⟨x,l,rfl,_⟩:=h.ch
 exact⟨x,Jc ..⟩
structure Part(f:Nat->Nat)(N:Nat)(rs:List (List Nat)):Prop where
 cr:∀ r∈rs,CR f N r
 nd:rs.flatten.Nodup
 all:∀ d,d<N->d∈rs.flatten
theorem Part.pick{f:Nat->Nat}{N:Nat}{rs:List (List Nat)}(p:Part f N rs){r:List Nat}(h:CR f N r):∃ rest,Part f N (r::rest)/\rest.length+1=rs.length:=by
 obtain⟨d,hd⟩:=h.ne
 obtain⟨r0,m1,m2⟩:=JN.mp (p.all d (h.lt d hd))
 have c0:=p.cr r0 m1
 have s1:=h.same c0 hd m2
 have s2:=c0.same h m2 hd
 obtain⟨A,B,rfl⟩:=Lw m1
 have nd:=p.nd
 rw[J2,JW]at nd
 obtain⟨n1,n2,n3⟩:=Jo.mp nd
 obtain⟨n4,n5,n6⟩:=Jo.mp n2
 refine⟨A++B,⟨fun q hq=>?_,?_,fun y hy=>?_⟩,by simp;omega⟩
 ·rcases IL.mp hq with z | z
  ·rw[z];exact h
  ·refine p.cr q ?_
   rcases IK.mp z with z | z
   ·simp[z]
   ·simp[z]
 ·rw[JW,J2]
  refine Jo.mpr ⟨h.nd,Jo.mpr ⟨n1,n5,fun a ha b hb=>n3 a ha b (by simp[hb])⟩,fun a ha b hb=>?_⟩
  rcases IK.mp hb with z | z
  ·exact fun e=>n3 b z a (Jn _ (s1 a ha)) e.symm
  ·exact n6 a (s1 a ha) b z
 ·have:=p.all y hy
  rw[J2,JW]at this
  rw[JW,J2]
  simp only[IK]at this ⊢
  rcases this with z | z | z
  ·exact .inr (.inl z)
  ·exact .inl (s2 y z)
  ·exact .inr (.inr z)
theorem Part.same:∀{rs qs:List (List Nat)}{f:Nat->Nat}{N:Nat},Part f N rs->Part f N qs->rs.length=qs.length:=by
 have le:∀(k:Nat){rs qs:List (List Nat)}{f:Nat->Nat}{N:Nat},Part f N rs->Part f N qs->rs.length<=qs.length:=by
  intro _ rs qs f N p q
  have g:∀ r∈rs,∃ i,i<qs.length/\∃ r',qs[i]?=some r'/\∀ t∈r',t∈r:=fun r hr=>by
   have c:=p.cr r hr
   obtain⟨d,hd⟩:=c.ne
   obtain⟨r',m1,m2⟩:=JN.mp (q.all d (c.lt d hd))
   obtain⟨i,hi⟩:=JU.mp m1
   exact⟨i,(IA.mp hi).1,r',hi,(q.cr r' m1).same c m2 hd⟩
  have:∀(l:List (List Nat)),(∀ r∈l,r∈rs)->l.flatten.Nodup->∃ is:List Nat,is.length=l.length/\is.Nodup/\∀ i∈is,i<qs.length/\∃ r∈l,∃ r',qs[i]?=some r'/\∀ t∈r',t∈r:=fun l=>by
   induction l with
   |nil=>intro _ _;exact⟨[],rfl,K5,fun i hi=>nomatch hi⟩
   |cons r l ih =>
    intro h nd
    rw[JW]at nd
    obtain⟨n1,n2,n3⟩:=Jo.mp nd
    obtain⟨is,e1,e2,e3⟩:=ih (fun r hr=>h r (IV _ hr)) n2
    obtain⟨i,h1,r',h2,h3⟩:=g r (h r (Jc ..))
    refine⟨i::is,by simp[e1],JD.mpr ⟨fun z=>?_,e2⟩,fun j hj=>?_⟩
    ·obtain⟨_,r2,m2,r3,m3,m4⟩:=e3 i z
     rw[h2]at m3
     cases m3
     obtain⟨d,hd⟩:=(q.cr r' (ID h2)).ne
     exact n3 d (h3 d hd) d (JN.mpr ⟨r2,m2,m4 d hd⟩) rfl
    ·rcases IL.mp hj with z | z
     ·subst z;exact⟨h1,r,Jc ..,r',h2,h3⟩
     ·obtain⟨k1,r2,k2,k3⟩:=e3 j z
      exact⟨k1,r2,IV _ k2,k3⟩
  obtain⟨is,e1,e2,e3⟩:=this rs (fun _ h=>h) p.nd
  rw[← e1]
  exact gA e2 fun i hi=>(e3 i hi).1
 intro rs qs f N p q
 exact Nat.le_antisymm (le 0 p q) (le 0 q p)
theorem Ring.cr{f:Nat->Nat}{N:Nat}{r:List Nat}(h:Ring f N r):CR f N r:=by
 refine⟨?_,h.lt,h.nd⟩
 have ne:=h.ne
 match r,h,ne with
 |x::l,h,_ =>
  refine⟨x,l,rfl,?_⟩
  have key:∀(k i:Nat)(y:Nat),i+k+1=(x::l).length->(x::l)[i]?=some y->gM f y ((x::l).drop (i+1)) x:=fun k=>by
   induction k with
   |zero =>
    intro i y hi hy
    have e:=h.nx i y hy
    rw[show(i+1)%(x::l).length=0 by rw[← hi];simp]at e
    rw[List.drop_of_length_le (by omega)]
    exact(IW e).symm
   |succ k ih =>
    intro i y hi hy
    have e:=h.nx i y hy
    rw[Kq (by omega)]at e
    obtain⟨hl,e2⟩:=IA.mp e
    rw[Ks hl,e2]
    exact⟨rfl,ih (i+1) (f y) (by omega) e⟩
  exact key l.length 0 x (by simp) rfl
theorem dX.part{f:Nat->Nat}{N:Nat}{rs:List (List Nat)}(w:dX f N N rs):Part f N rs:=⟨fun r hr=>(w.ring r hr).cr,w.nd,w.all⟩
end K8
namespace K8
theorem vg{A B:List Nat}{t:Nat}(h:t∉A):(A++t::B).idxOf t=A.length:=by
 rw[List.idxOf_append,if_neg h,List.idxOf_cons_self,Nat.zero_add]
theorem aQ{A B:List Nat}{t:Nat}(h:t∉A):nxt (A++t::B) t=((B++(A++t::B)).head?).getD 0:=by
 unfold nxt
 rw[vg h]
 cases B with
 |nil =>
  have e:(A.length+1)%(A++[t]).length=0:=by rw[IF,IM,LQ]
  rw[e,LV,List.head?_eq_getElem?]
 |cons b B =>
  have e:(A.length+1)%(A++t::b::B).length=A.length+1:=Kq (by simp)
  rw[e,IE (by omega)]
  rw[show A.length+1-A.length=1 by omega]
  rfl
theorem ve{A B:List Nat}{u n:Nat}(h:u∉A):ins (A++u::B) ((A++u::B).idxOf u+1) n=A++u::n::B:=by
 rw[vg h]
 unfold ins
 have e1:(A++u::B).take (A.length+1)=A++[u]:=by
  rw[List.take_append,Jx (by omega),show A.length+1-A.length=1 by omega]
  rfl
 have e2:(A++u::B).drop (A.length+1)=B:=by simp
 rw[e1,e2]
 simp
theorem eW{l:List Nat}{u:Nat}(h:u∈l):∃ A B,l=A++u::B/\u∉A:=by
 induction l with
 |nil=>exact nomatch h
 |cons a l ih =>
  by_cases z:a=u
  ·subst z;exact⟨[],l,rfl,JJ⟩
  ·rcases IL.mp h with y | y
   ·exact absurd y.symm z
   ·obtain⟨A,B,rfl,k⟩:=ih y
    exact⟨a::A,B,rfl,fun w=>by rcases IL.mp w with w | w;exact z w.symm;exact k w⟩
theorem HJ{l:List Nat}{u n:Nat}(hu:u∈l)(hn:n∉l) :
  nxt (ins l (l.idxOf u+1) n) u=n/\nxt (ins l (l.idxOf u+1) n) n=nxt l u/\∀ t∈l,t≠u->nxt (ins l (l.idxOf u+1) n) t=nxt l t:=by
 obtain⟨A,B,rfl,k⟩:=eW hu
 rw[ve k]
 have hnA:n∉A:=fun z=>hn (by simp[z])
 have hnu:n≠u:=fun z=>hn (by simp[z])
 refine⟨?_,?_,fun t ht htu=>?_⟩
 ·rw[aQ k];rfl
 ·have e:A++u::n::B=(A++[u])++n::B:=by simp
  rw[e,aQ (fun z=>by rcases IK.mp z with z | z;exact hnA z;exact hnu (by simpa using z)),aQ k]
  cases B<;>cases A<;>rfl
 ·rcases IK.mp ht with z | z
  ·obtain⟨A1,A2,rfl,k2⟩:=eW z
   have e1:(A1++t::A2)++u::n::B=A1++t::(A2++u::n::B):=by simp
   have e2:(A1++t::A2)++u::B=A1++t::(A2++u::B):=by simp
   rw[e1,e2,aQ k2,aQ k2]
   cases A2<;>rfl
  ·have z':t∈B:=by
    rcases IL.mp z with z | z
    ·exact absurd z htu
    ·exact z
   by_cases tA:t∈A
   ·obtain⟨A1,A2,rfl,k2⟩:=eW tA
    have e1:(A1++t::A2)++u::n::B=A1++t::(A2++u::n::B):=by simp
    have e2:(A1++t::A2)++u::B=A1++t::(A2++u::B):=by simp
    rw[e1,e2,aQ k2,aQ k2]
    cases A2<;>rfl
   ·obtain⟨B1,B2,rfl,k2⟩:=eW z'
    have tn:t≠n:=fun y=>hn (by rw[← y];simp)
    have e1:A++u::n::(B1++t::B2)=(A++u::n::B1)++t::B2:=by simp
    have e2:A++u::(B1++t::B2)=(A++u::B1)++t::B2:=by simp
    rw[e1,e2,aQ (by simp[tA,htu,tn,k2]),aQ (by simp[tA,htu,k2])]
    cases B2<;>cases A<;>rfl
theorem nM{es:En}{e:Nat×Nat}{t p:Nat}(h:t<es.length):leave (es++[e]) t p=leave es t p:=by
 unfold leave
 rw[IH h]
theorem uT{es:En}{e:Nat×Nat}{p:Nat}:leave (es++[e]) es.length p=if e.1=p then 2*es.length else 2*es.length+1:=by
 unfold leave
 rw[IE (IG _),Je]
 rfl
theorem pZ{es:En}{e:Nat×Nat}{d:Nat}(h:d<2*es.length):hd (es++[e]) d=hd es d:=by
 unfold hd
 rw[IH (by omega)]
theorem hd_new{es:En}{e:Nat×Nat}:hd (es++[e]) (2*es.length)=e.2/\hd (es++[e]) (2*es.length+1)=e.1:=by
 have e1:2*es.length/2=es.length:=by omega
 have e2:(2*es.length+1)/2=es.length:=by omega
 constructor
 ·unfold hd
  rw[e1,IE (IG _),Je]
  show(if 2*es.length%2=0 then e.2 else e.1)=_
  rw[if_pos (by omega)]
 ·unfold hd
  rw[e2,IE (IG _),Je]
  show(if(2*es.length+1)%2=0 then e.2 else e.1)=_
  rw[if_neg (by omega)]
theorem hd_inj{m:Nat}{es:En}{ts:List (List Nat)}(w:bh m es ts){a b:Nat}(ha:a<2*es.length)(hb:b<2*es.length)(h:hd es a=hd es b)(h2:a/2=b/2):a=b:=by
 obtain⟨e1,_,r1,r2,_⟩:=w.at ha
 obtain⟨e2,_,s1,s2,_⟩:=w.at hb
 rw[h2,s1]at r1
 cases r1
 have hne:=(w.ends e1 (ID s1)).2.2
 rw[r2,s2]at h
 by_cases z1:a%2=0<;>by_cases z2:b%2=0
 ·omega
 ·rw[if_pos z1,if_neg z2]at h;exact absurd h.symm hne
 ·rw[if_neg z1,if_pos z2]at h;exact absurd h hne
 ·omega
def jV(n:Nat)(e:Nat×Nat)(p:Nat):Nat:=if e.1=p then 2*n else 2*n+1
theorem eK{es:En}{ts:List (List Nat)}{d:Nat}{l:List Nat}(h:ts[hd es d]?=some l):fol es ts d=leave es (nxt l (d/2)) (hd es d):=by
 unfold fol
 rw[h]
 rfl
end K8
namespace K8
theorem bh.flip{m:Nat}{es:En}{ts:List (List Nat)}{a b:Nat}(w:bh m (es++[(a,b)]) ts):bh m (es++[(b,a)]) ts:=by
 have key:∀(x y:Nat)(t p:Nat),(∃ e,(es++[(x,y)])[t]?=some e/\(e.1=p∨e.2=p))->∃ e,(es++[(y,x)])[t]?=some e/\(e.1=p∨e.2=p):=fun x y t p=>by
  rintro⟨e,h1,h2⟩
  by_cases z:t<es.length
  ·rw[IH z]at h1
   exact⟨e,by rw[IH z];exact h1,h2⟩
  ·have hl:=(IA.mp h1).1
   rw[IF,IM]at hl
   have z':t=es.length:=by omega
   subst z'
   rw[IE (IG _),Je]at h1
   cases h1
   exact⟨(y,x),by rw[IE (IG _),Je];rfl,h2.symm⟩
 refine⟨w.len,fun e he=>?_,w.nd,fun p l h t=>⟨fun z=>key a b t p ((w.mem p l h t).mp z),fun z=>(w.mem p l h t).mpr (key b a t p z)⟩⟩
 rcases IK.mp he with z | z
 ·exact w.ends e (Jn _ z)
 ·have:e=(b,a):=by simpa using z
  subst this
  obtain⟨h1,h2,h3⟩:=w.ends (a,b) (by simp)
  exact⟨h2,h1,fun y=>h3 y.symm⟩
theorem bh.room{m:Nat}{es:En}{ts:List (List Nat)}(w:bh m es ts):bh (m+1) es (ts++[[]]):=by
 refine⟨by rw[IF,w.len];rfl,fun e he=>?_,fun p l h=>?_,fun p l h t=>?_⟩
 ·obtain⟨h1,h2,h3⟩:=w.ends e he
  exact⟨by omega,by omega,h3⟩
 all_goals by_cases z:p<ts.length
 ·rw[IH z]at h
  exact w.nd p l h
 ·have hl:=(IA.mp h).1
  rw[IF,IM]at hl
  have z':p=ts.length:=by omega
  subst z'
  rw[IE (IG _),Je]at h
  cases h
  exact K5
 ·rw[IH z]at h
  exact w.mem p l h t
 ·have hl:=(IA.mp h).1
  rw[IF,IM]at hl
  have z':p=ts.length:=by omega
  subst z'
  rw[IE (IG _),Je]at h
  cases h
  refine⟨(fun y=>nomatch y),?_⟩
  rintro⟨e,h1,h2⟩
  obtain⟨k1,k2,_⟩:=w.ends e (ID h1)
  have:=w.len
  omega
theorem Ij{m:Nat}{es:En}{ts:List (List Nat)}(w:bh m es ts){p:Nat}{l:List Nat}(h:ts[p]?=some l):es.length∉l:=fun z=>by
 obtain⟨x,hx,_⟩:=(w.mem p l h es.length).mp z
 have:=(IA.mp hx).1
 omega
theorem HZ{m:Nat}{es:En}{ts ts':List (List Nat)}{e:Nat×Nat}{p u:Nat}{l:List Nat}(w:bh m es ts)(hl:ts[p]?=some l)(hu:u<2*es.length)(hp:hd es u=p)(hl':ts'[p]?=some (ins l (l.idxOf (u/2)+1) es.length)) :
  fol (es++[e]) ts' u=jV es.length e p/\(∀ b,b/2=es.length->hd (es++[e]) b=p->fol (es++[e]) ts' b=fol es ts u)/\∀ d,d<2*es.length->d≠u->hd es d=p->fol (es++[e]) ts' d=fol es ts d:=by
 obtain⟨_,l0,_,_,_,_,g5,g6⟩:=w.at hu
 rw[hp,hl]at g5
 cases g5
 have nn:=Ij w hl
 obtain⟨n1,n2,n3⟩:=HJ g6 nn
 have lt:∀ t∈l,nxt l t<es.length:=fun t ht=>by
  obtain⟨x,hx,_⟩:=(w.mem p l hl (nxt l t)).mp (ID (i4 ht))
  exact(IA.mp hx).1
 refine⟨?_,fun b hb hpb=>?_,fun d hd' hne hpd=>?_⟩
 ·rw[eK (l:=ins l (l.idxOf (u/2)+1) es.length) (by rw[pZ hu,hp];exact hl'),n1,pZ hu,hp,uT]
  rfl
 ·rw[eK (l:=ins l (l.idxOf (u/2)+1) es.length) (by rw[hpb];exact hl'),hb,n2,hpb,nM (lt _ g6),eK (l:=l) (by rw[hp];exact hl),hp]
 ·obtain⟨_,l0,_,_,_,_,k5,k6⟩:=w.at hd'
  rw[hpd,hl]at k5
  cases k5
  have tne:d/2≠u/2:=fun z=>hne (hd_inj w hd' hu (hpd.trans hp.symm) z)
  rw[eK (l:=ins l (l.idxOf (u/2)+1) es.length) (by rw[pZ hd',hpd];exact hl'),n3 _ k6 tne,pZ hd',hpd,nM (lt _ k6),eK (l:=l) (by rw[hpd];exact hl),hpd]
theorem FC{m:Nat}{es:En}{ts ts':List (List Nat)}{e:Nat×Nat}(w:bh m es ts){d:Nat}(hd':d<2*es.length)(h:ts'[hd es d]?=ts[hd es d]?):fol (es++[e]) ts' d=fol es ts d:=by
 obtain⟨_,l,_,_,_,_,k5,k6⟩:=w.at hd'
 have lt:nxt l (d/2)<es.length:=by
  obtain⟨x,hx,_⟩:=(w.mem _ l k5 (nxt l (d/2))).mp (ID (i4 k6))
  exact(IA.mp hx).1
 rw[eK (l:=l) (by rw[pZ hd',h];exact k5),pZ hd',nM lt,eK k5]
theorem iM(n:Nat)(e:Nat×Nat)(p:Nat):jV n e p/2=n:=by
 unfold jV
 split<;>omega
theorem FI{es:En}{one two:Nat}{e:Nat×Nat}(hne:one≠two)(he:e=(one,two)∨e=(two,one)):hd (es++[e]) (jV es.length e one)=two/\hd (es++[e]) (jV es.length e two)=one/\jV es.length e one≠jV es.length e two/\∀ d,d<2*(es.length+1)->d<2*es.length∨d=jV es.length e one∨d=jV es.length e two:=by
 obtain⟨h1,h2⟩:=hd_new (es:=es) (e:=e)
 unfold jV
 rcases he with he | he
 ·have c1:e.1=one:=by rw[he]
  have c2:¬ e.1=two:=by rw[he];exact hne
  have c3:e.2=two:=by rw[he]
  rw[if_pos c1,if_neg c2,h1,h2]
  exact⟨c3,c1,by omega,fun d hd=>by omega⟩
 ·have c1:e.1=two:=by rw[he]
  have c2:¬ e.1=one:=by rw[he];exact fun z=>hne z.symm
  have c3:e.2=one:=by rw[he]
  rw[if_pos c1,if_neg c2,h1,h2]
  exact⟨c1,c3,by omega,fun d hd=>by omega⟩
structure Gr(m:Nat)(es:En)(ts:List (List Nat)):Prop where
 w:bh m es ts
 part:∃ rs,Part (fol es ts) (2*es.length) rs/\m+rs.length=es.length+2
 conn:∀ S:Nat->Prop,(∀ e∈es,S e.1↔S e.2)->∀ p q,p<m->q<m->S p->S q
theorem CR.mono{f g:Nat->Nat}{N M:Nat}{r:List Nat}(h:CR f N r)(hN:N<=M)(k:∀ t∈r,g t=f t):CR g M r:=by
 obtain⟨x,l,rfl,c⟩:=h.ch
 exact⟨⟨x,l,rfl,sL c (k x (Jc ..)) fun t ht=>k t (IV _ ht)⟩,fun d hd=>Jp (h.lt d hd) hN,h.nd⟩
end K8
namespace K8
theorem Gr.leaf{m:Nat}{es:En}{ts:List (List Nat)}(g:Gr m es ts){left one:Nat}{e:Nat×Nat}{l tail:List Nat}(hl:left<2*es.length)(hr:CR (fol es ts) (2*es.length) (left::tail))(hch:gM (fol es ts) left tail left)
  (h1:hd es left=one) (he:e=(one,m)∨e=(m,one)) (e1:ts[one]?=some l) :
  Gr (m+1) (es++[e]) (ts.set one (ins l (l.idxOf (left/2)+1) es.length)++[[es.length]]):=by
 have w:=g.w
 have hlen:=w.len
 have o1:one<m:=by rw[← hlen];exact(IA.mp e1).1
 have hne:one≠m:=by omega
 have W:bh (m+1) (es++[e]) (ts.set one (ins l (l.idxOf (left/2)+1) es.length)++[[es.length]]):=by
  have q:=w.room.put (one:=one) (two:=m) (k:=l.idxOf (left/2)+1) (j:=0) (l:=l) (l':=[]) (by omega) (by omega) hne (by rw[IH (by omega)];exact e1) (by rw[IE (by omega),hlen,Je];rfl)
  have q2:((ts++[[]]).set one (ins l (l.idxOf (left/2)+1) es.length)).set m (ins [] 0 es.length)=ts.set one (ins l (l.idxOf (left/2)+1) es.length)++[[es.length]]:=by
   rw[List.set_append_left _ _ (by omega),LR _ _ (by rw[JO];omega),JO,hlen,Je]
   rfl
  rw[q2]at q
  rcases he with rfl | rfl
  ·exact q
  ·exact q.flip
 have r1:(ts.set one (ins l (l.idxOf (left/2)+1) es.length)++[[es.length]])[one]?=some (ins l (l.idxOf (left/2)+1) es.length):=by
  rw[IH (by rw[JO];omega),JP,if_pos rfl,if_pos (by omega)]
 have r2:(ts.set one (ins l (l.idxOf (left/2)+1) es.length)++[[es.length]])[m]?=some [es.length]:=by
  rw[IE (by rw[JO];omega),JO,hlen,Je]
  rfl
 have r3:∀ p,p≠one->p<m->(ts.set one (ins l (l.idxOf (left/2)+1) es.length)++[[es.length]])[p]?=ts[p]?:=fun p n1 n2=>by
  rw[IH (by rw[JO];omega),JP,if_neg (fun z=>n1 z.symm)]
 generalize ts.set one (ins l (l.idxOf (left/2)+1) es.length)++[[es.length]]=ts' at W r1 r2 r3
 obtain⟨a1,a2,a3⟩:=HZ (e:=e) w e1 hl h1 r1
 obtain⟨d1,d2,d3,d4⟩:=FI (es:=es) hne he
 have fb:=a2 _ (iM _ _ _) d2
 have fa:fol (es++[e]) ts' (jV es.length e one)=jV es.length e m:=by
  rw[eK (l:=[es.length]) (by rw[d1];exact r2),iM,d1]
  have:nxt [es.length] es.length=es.length:=by
   unfold nxt
   rw[List.idxOf_cons_self]
   simp
  rw[this,uT]
  rfl
 have els:∀ d,d<2*es.length->d≠left->fol (es++[e]) ts' d=fol es ts d:=fun d hd' n1=>by
  by_cases z1:hd es d=one
  ·exact a3 d hd' n1 z1
  ·obtain⟨_,_,_,_,_,k4,_⟩:=w.at hd'
   exact FC w hd' (r3 _ z1 k4)
 generalize ha:jV es.length e one=α at *
 generalize hb:jV es.length e m=β at *
 have hα:α/2=es.length:=by rw[← ha];exact iM _ _ _
 have hβ:β/2=es.length:=by rw[← hb];exact iM _ _ _
 have nd:=hr.nd
 have ltt:∀ t∈tail,t<2*es.length/\t≠left:=fun t ht=>⟨hr.lt t (by simp[ht]),fun z=>(JD.mp nd).1 (z▸ht)⟩
 obtain⟨rs,p,cnt⟩:=g.part
 obtain⟨rest,pr,cnt2⟩:=p.pick hr
 have ndr:=pr.nd
 rw[JW]at ndr
 obtain⟨_,nd2,nd3⟩:=Jo.mp ndr
 have ltr:∀ t∈rest.flatten,t<2*es.length/\t≠left:=fun t ht=>by
  obtain⟨q,q1,q2⟩:=JN.mp ht
  exact⟨(pr.cr q (IV _ q1)).lt t q2,fun z=>nd3 left (by simp) t ht z.symm⟩
 have hlen2:(es++[e]).length=es.length+1:=by rw[IF];rfl
 have nd4:(left::α::β::tail).Nodup:=by
  refine JD.mpr ⟨fun y=>?_,JD.mpr ⟨fun y=>?_,JD.mpr ⟨fun y=>?_,(JD.mp nd).2⟩⟩⟩
  ·simp only[IL]at y
   rcases y with y | y | y
   ·omega
   ·omega
   ·exact(ltt _ y).2 rfl
  ·simp only[IL]at y
   rcases y with y | y
   ·exact d3 y
   ·have:=(ltt _ y).1;omega
  ·have:=(ltt _ y).1;omega
 refine⟨W,⟨(left::α::β::tail)::rest,⟨fun q hq=>?_,?_,fun d hd'=>?_⟩,by rw[hlen2];simp only[Jm]at cnt2 ⊢;omega⟩,fun S hS x y hx hy sx=>?_⟩
 ·rcases IL.mp hq with z | z
  ·subst z
   refine⟨⟨left,α::β::tail,rfl,a1,fa,sL hch fb fun t ht=>els t (ltt t ht).1 (ltt t ht).2⟩,fun d hd'=>?_,nd4⟩
   rw[hlen2]
   simp only[IL]at hd'
   rcases hd' with y | y | y | y
   ·omega
   ·omega
   ·omega
   ·have:=(ltt d y).1;omega
  ·refine(pr.cr q (IV _ z)).mono (by rw[hlen2];omega) fun t ht=>?_
   obtain⟨k1,k2⟩:=ltr t (JN.mpr ⟨q,z,ht⟩)
   exact els t k1 k2
 ·rw[JW]
  refine Jo.mpr ⟨nd4,nd2,fun a ha b hb=>?_⟩
  obtain⟨k1,k2⟩:=ltr b hb
  simp only[IL]at ha
  rcases ha with y | y | y | y
  ·exact fun u=>k2 (u▸y)
  ·omega
  ·omega
  ·exact nd3 a (by simp[y]) b hb
 ·rw[hlen2]at hd'
  simp only[JW,IK,IL]
  rcases d4 d hd' with y | y | y
  ·have:=pr.all d y
   simp only[JW,IK,IL]at this
   rcases this with(z | z) | z
   ·exact .inl (.inl z)
   ·exact .inl (.inr (.inr (.inr z)))
   ·exact .inr z
  ·exact .inl (.inr (.inl y))
  ·exact .inl (.inr (.inr (.inl y)))
 ·-- in one piece
  have hSe:S one↔S m:=by
   have:=hS e (by simp)
   rcases he with rfl | rfl
   ·exact this
   ·exact this.symm
  have old:=g.conn S fun x hx=>hS x (Jn _ hx)
  have toOne:S one:=by
   by_cases z:x<m
   ·exact old x one z o1 sx
   ·have:x=m:=by omega
    subst this
    exact hSe.mpr sx
  by_cases z:y<m
  ·exact old one y o1 z toOne
  ·have:y=m:=by omega
   subst this
   exact hSe.mp toOne
theorem Gj:Gr 2 [(0,1)] [[0],[0]]:=by
 have W:bh 2 [(0,1)] [[0],[0]]:=by
  refine⟨rfl,fun e he=>?_,fun p l h=>?_,fun p l h t=>?_⟩
  ·have:e=(0,1):=by simpa using he
   subst this
   exact⟨by decide,by decide,by decide⟩
  ·match p,h with
   |0,h=>cases h;decide
   |1,h=>cases h;decide
   |p+2,h=>cases h
  ·have key:(∃ e,([(0,1)]:En)[t]?=some e/\(e.1=p∨e.2=p))↔t=0/\(p=0∨p=1):=by
    constructor
    ·rintro⟨e,h1,h2⟩
     match t,h1 with
     |0,h1=>cases h1;exact⟨rfl,h2.imp Eq.symm Eq.symm⟩
     |t+1,h1=>cases h1
    ·rintro⟨rfl,h2⟩
     exact⟨(0,1),rfl,h2.imp Eq.symm Eq.symm⟩
   rw[key]
   match p,h with
   |0,h=>cases h;simp
   |1,h=>cases h;simp
   |p+2,h=>cases h
 refine⟨W,⟨[[0,1]],⟨fun r hr=>?_,by decide,fun d hd=>?_⟩,rfl⟩,fun S hS p q hp hq sp=>?_⟩
 ·have:r = [0,1]:=by simpa using hr
  subst this
  exact⟨⟨0,[1],rfl,by decide,(by show fol [(0,1)] [[0],[0]] 1=0;decide)⟩,fun d hd=>by simp at hd ⊢;omega,by decide⟩
 ·have hd2:d<2:=hd
  simp
  omega
 ·have:=hS (0,1) (by simp)
  have h01:S 0↔S 1:=this
  have hp':p=0∨p=1:=by omega
  have hq':q=0∨q=1:=by omega
  rcases hp' with rfl | rfl<;>rcases hq' with rfl | rfl
  ·exact sp
  ·exact h01.mp sp
  ·exact h01.mpr sp
  ·exact sp
end K8
namespace K8
structure Bij(F:Nat->Nat)(n:Nat):Prop where
 lt:∀ k,k<n->F k<n
 inj:∀ a b,a<n->b<n->F a=F b->a=b
 sur:∀ y,y<n->∃ k,k<n/\F k=y
theorem zW{F:Nat->Nat}:∀{l:List Nat},l.Nodup->(∀ x∈l,∀ y∈l,F x=F y->x=y)->(l.map F).Nodup
 |[],_,_=>K5
 |a::l,nd,h=>by
  obtain⟨n1,n2⟩:=JD.mp nd
  refine JD.mpr ⟨fun z=>?_,zW n2 fun x hx y hy=>h x (IV _ hx) y (IV _ hy)⟩
  obtain⟨x,hx,e⟩:=IY.mp z
  have:=h x (IV _ hx) a (Jc ..) e
  exact n1 (this▸hx)
theorem HI{F:Nat->Nat}{l:List Nat}{t:Nat}(ht:t∈l)(h:∀ x∈l,F x=F t->x=t):nxt (l.map F) (F t)=F (nxt l t):=by
 obtain⟨A,B,rfl,k⟩:=eW ht
 have k2:F t∉A.map F:=fun z=>by
  obtain⟨x,hx,e⟩:=IY.mp z
  exact k (h x (by simp[hx]) e▸hx)
 rw[Jr,Ju,aQ k2,aQ k]
 cases B<;>cases A<;>rfl
theorem HH{X Y:List Nat}{t:Nat}(nd:(X++Y).Nodup)(ht:t∈X++Y):nxt (Y++X) t=nxt (X++Y) t:=by
 obtain⟨n1,n2,n3⟩:=Jo.mp nd
 rcases IK.mp ht with z | z
 ·have tY:t∉Y:=fun y=>n3 t z t y rfl
  obtain⟨A,B,rfl,k⟩:=eW z
  have e1:Y++(A++t::B)=(Y++A)++t::B:=by simp
  have e2:(A++t::B)++Y=A++t::(B++Y):=by simp
  rw[e1,e2,aQ (by simp[tY,k]),aQ k]
  cases B<;>cases Y<;>cases A<;>rfl
 ·have tX:t∉X:=fun y=>n3 t y t z rfl
  obtain⟨A,B,rfl,k⟩:=eW z
  have e1:(A++t::B)++X=A++t::(B++X):=by simp
  have e2:X++(A++t::B)=(X++A)++t::B:=by simp
  rw[e1,e2,aQ k,aQ (by simp[tX,k])]
  cases B<;>cases X<;>cases A<;>rfl
structure Ren(m:Nat)(es es2:En)(ts ts2:List (List Nat))(π σ:Nat->Nat):Prop where
 pi:Bij π m
 si:Bij σ es.length
 l1:es2.length=es.length
 l2:ts2.length=m
 es:∀(k:Nat)(e:Nat×Nat),es[k]?=some e->es2[σ k]?=some (π e.1,π e.2)
 ts:∀(p:Nat)(l:List Nat),ts[p]?=some l->∃ X Y,l=X++Y/\ts2[π p]?=some ((Y++X).map σ)
section
variable{m:Nat}{es es2:En}{ts ts2:List (List Nat)}{π σ:Nat->Nat}
theorem Ren.es'(R:Ren m es es2 ts ts2 π σ){j:Nat}{x:Nat×Nat}(h:es2[j]?=some x):∃ k e,σ k=j/\es[k]?=some e/\x=(π e.1,π e.2):=by
 have hj:=(IA.mp h).1
 rw[R.l1]at hj
 obtain⟨k,hk,rfl⟩:=R.si.sur j hj
 have e1:es[k]?=some es[k]:=IB hk
 have:=R.es k _ e1
 rw[h]at this
 exact⟨k,_,rfl,e1,IW this⟩
theorem Ren.ts'(R:Ren m es es2 ts ts2 π σ)(w:bh m es ts){j:Nat}{L:List Nat}(h:ts2[j]?=some L):∃ p l X Y,p<m/\π p=j/\ts[p]?=some l/\l=X++Y/\L=(Y++X).map σ:=by
 have hj:=(IA.mp h).1
 rw[R.l2]at hj
 obtain⟨p,hp,rfl⟩:=R.pi.sur j hj
 have e1:ts[p]?=some (ts[p]'(by rw[w.len];exact hp)):=IB _
 obtain⟨X,Y,h1,h2⟩:=R.ts p _ e1
 rw[h]at h2
 exact⟨p,_,X,Y,hp,rfl,e1,h1,IW h2⟩
theorem nH(w:bh m es ts){p:Nat}{l:List Nat}(h:ts[p]?=some l){t:Nat}(ht:t∈l):t<es.length:=by
 obtain⟨x,hx,_⟩:=(w.mem p l h t).mp ht
 exact(IA.mp hx).1
theorem Ren.turn(R:Ren m es es2 ts ts2 π σ)(w:bh m es ts):bh m es2 ts2:=by
 refine⟨R.l2,fun x hx=>?_,fun j L h=>?_,fun j L h t=>?_⟩
 ·obtain⟨j,hj⟩:=JU.mp hx
  obtain⟨k,e,_,h1,rfl⟩:=R.es' hj
  obtain⟨a1,a2,a3⟩:=w.ends e (ID h1)
  exact⟨R.pi.lt _ a1,R.pi.lt _ a2,fun z=>a3 (R.pi.inj _ _ a1 a2 z)⟩
 ·obtain⟨p,l,X,Y,hp,rfl,h1,rfl,rfl⟩:=R.ts' w h
  have nd:=w.nd p _ h1
  obtain⟨n1,n2,n3⟩:=Jo.mp nd
  refine zW (Jo.mpr ⟨n2,n1,fun a ha b hb z=>n3 b hb a ha z.symm⟩) fun x hx y hy=>R.si.inj x y (nH w h1 ?_) (nH w h1 ?_)
  ·simp only[IK]at hx ⊢;exact hx.symm
  ·simp only[IK]at hy ⊢;exact hy.symm
 ·obtain⟨p,l,X,Y,hp,rfl,h1,rfl,rfl⟩:=R.ts' w h
  constructor
  ·intro z
   obtain⟨k,hk,rfl⟩:=IY.mp z
   obtain⟨e,h2,h3⟩:=(w.mem p _ h1 k).mp (by simp only[IK]at hk ⊢;exact hk.symm)
   exact⟨_,R.es k e h2,h3.imp (congrArg π) (congrArg π)⟩
  ·rintro⟨x,h2,h3⟩
   obtain⟨k,e,rfl,h4,rfl⟩:=R.es' h2
   obtain⟨a1,a2,a3⟩:=w.ends e (ID h4)
   have hk:=(w.mem p _ h1 k).mpr ⟨e,h4,h3.imp (R.pi.inj _ _ a1 hp) (R.pi.inj _ _ a2 hp)⟩
   exact IY.mpr ⟨k,by simp only[IK]at hk ⊢;exact hk.symm,rfl⟩
def Phi(σ:Nat->Nat)(d:Nat):Nat:=2*σ (d/2)+d%2
theorem mZ(d:Nat):Phi σ d/2=σ (d/2):=by unfold Phi;omega
theorem Ren.hd(R:Ren m es es2 ts ts2 π σ){d:Nat}(hd':d<2*es.length):hd es2 (Phi σ d)=π (hd es d):=by
 have e1:es[d/2]?=some (es[d/2]'(by omega)):=IB _
 have e2:=R.es _ _ e1
 unfold K8.hd
 rw[mZ,e1,e2]
 have hm:Phi σ d%2=d%2:=by unfold Phi;omega
 show(if Phi σ d%2=0 then π es[d/2].2 else π es[d/2].1)=π (if d%2=0 then es[d/2].2 else es[d/2].1)
 rw[hm]
 split<;>rfl
theorem Ren.fol(R:Ren m es es2 ts ts2 π σ)(w:bh m es ts){d:Nat}(hd':d<2*es.length):fol es2 ts2 (Phi σ d)=Phi σ (fol es ts d):=by
 obtain⟨_,l,_,_,_,k4,k5,k6⟩:=w.at hd'
 obtain⟨X,Y,rfl,h2⟩:=R.ts _ _ k5
 have nd:=w.nd _ _ k5
 rw[eK (l:=(Y++X).map σ) (by rw[R.hd hd'];exact h2),eK k5,mZ,R.hd hd']
 have k7:d/2∈Y++X:=by simp only[IK]at k6 ⊢;exact k6.symm
 rw[HI k7 fun x hx=>R.si.inj x _ (nH w k5 (by simp only[IK]at hx ⊢;exact hx.symm)) (nH w k5 k6),HH nd k6]
 have hn:=ID (i4 k6)
 have hlt:=nH w k5 hn
 generalize nxt (X++Y) (d/2)=t at hlt
 have e1:es[t]?=some es[t]:=IB hlt
 have a1:=(w.ends _ (ID e1)).1
 unfold leave
 rw[R.es _ _ e1,e1]
 show(if π es[t].1=π (K8.hd es d) then 2*σ t else 2*σ t+1)=Phi σ (if es[t].1=K8.hd es d then 2*t else 2*t+1)
 by_cases z:es[t].1=K8.hd es d
 ·rw[if_pos z,if_pos (congrArg π z)]
  unfold Phi
  rw[show 2*t/2=t by omega]
  omega
 ·rw[if_neg z,if_neg (fun y=>z (R.pi.inj _ _ a1 k4 y))]
  unfold Phi
  rw[show(2*t+1)/2=t by omega]
  omega
theorem Ez(b:Bij σ es.length){x y:Nat}(hx:x<2*es.length)(hy:y<2*es.length)(e:Phi σ x=Phi σ y):x=y:=by
 have e1:σ (x/2)=σ (y/2):=by
  have h1:=mZ (σ:=σ) x
  have h2:=mZ (σ:=σ) y
  rw[e]at h1
  exact h1.symm.trans h2
 have:=b.inj _ _ (by omega) (by omega) e1
 unfold Phi at e
 omega
theorem Ren.gr(R:Ren m es es2 ts ts2 π σ)(g:Gr m es ts):Gr m es2 ts2:=by
 obtain⟨rs,p,cnt⟩:=g.part
 have flt:∀ d∈rs.flatten,d<2*es.length:=fun d hd=>by
  obtain⟨r,h1,h2⟩:=JN.mp hd
  exact(p.cr r h1).lt d h2
 have hfl:(rs.map (List.map (Phi σ))).flatten=rs.flatten.map (Phi σ):=List.map_flatten.symm
 refine⟨R.turn g.w,⟨rs.map (List.map (Phi σ)),⟨fun q hq=>?_,?_,fun d hd=>?_⟩,by rw[IJ,R.l1];exact cnt⟩,fun S hS x y hx hy sx=>?_⟩
 ·obtain⟨r,hr,rfl⟩:=IY.mp hq
  have c:=p.cr r hr
  obtain⟨x,l,rfl,ch⟩:=c.ch
  refine⟨⟨Phi σ x,l.map (Phi σ),rfl,vF ch fun t ht=>R.fol g.w (c.lt t ht)⟩,fun d hd=>?_,zW c.nd fun a ha b hb=>Ez R.si (c.lt a ha) (c.lt b hb)⟩
  obtain⟨t,ht,rfl⟩:=IY.mp hd
  have h1:=c.lt t ht
  have h2:=R.si.lt (t/2) (by omega)
  rw[R.l1]
  unfold Phi
  omega
 ·rw[hfl]
  exact zW p.nd fun a ha b hb=>Ez R.si (flt a ha) (flt b hb)
 ·rw[R.l1]at hd
  obtain⟨k,hk,e⟩:=R.si.sur (d/2) (by omega)
  rw[hfl]
  refine IY.mpr ⟨2*k+d%2,p.all _ (by omega),?_⟩
  unfold Phi
  rw[show(2*k+d%2)/2=k by omega,e]
  omega
 ·obtain⟨x',hx',rfl⟩:=R.pi.sur x hx
  obtain⟨y',hy',rfl⟩:=R.pi.sur y hy
  refine g.conn (fun p=>S (π p)) (fun e he=>?_) x' y' hx' hy' sx
  obtain⟨k,hk⟩:=JU.mp he
  exact hS (π e.1,π e.2) (ID (R.es k e hk))
end
end K8
namespace K8
open PySem L2
local macro_rules | `(tactic| walk_at "cc") => `(tactic| first | exact ⟨by decide, by decide⟩ | (show (0 : Int) < _; decide) | (show (0 : Int) < _; omega) | (show (0 : Int) ≤ _; omega) | exact ⟨by decide, by decide, by decide⟩ | exact ⟨by omega, by omega, by decide⟩ | exact Or.inl ⟨by decide, by decide⟩ | exact Or.inl ⟨by omega, by omega⟩)
local macro_rules | `(tactic| walk_at "rd") => `(tactic| repeat (first | refine ⟨_, rfl, ?_⟩ | refine ⟨_, _, rfl, rfl, ?_⟩ | refine ⟨rfl, ?_⟩ | (refine ⟨?cc, ?_⟩; (case cc => walk_at "cc"))))
def top(i:Nat):Stmt:=PySem.Challenge.pw_spinfloor_k45_worths_of_trees.main.body.getD i (.Pass ⟨0,0,0,0⟩)
abbrev eQ:Stmt:=top 10
abbrev bI:Stmt:=top 12
abbrev dq:Stmt:=top 14
abbrev dA:Stmt:=top 15
abbrev h9:Stmt:=top 16
abbrev cy:Stmt:=top 17
abbrev bR:Stmt:=top 19
abbrev bV:Stmt:=top 22
abbrev ba:Stmt:=top 23
abbrev h7:Stmt:=top 24
abbrev bX:Stmt:=kL (top 26) 0
abbrev dD:Stmt:=kL (top 26) 1
abbrev bb:Stmt:=kL (top 26) 2
abbrev cD:Stmt:=kL (top 26) 3
abbrev cE:Stmt:=kL (top 28) 0
abbrev pU:Stmt:=top 30
abbrev eR:Stmt:=top 31
abbrev dB:Stmt:=top 32
abbrev bT:Stmt:=top 33
abbrev cz:Stmt:=top 34
abbrev dm:Stmt:=top 35
abbrev bG:Stmt:=top 37
abbrev br:Stmt:=top 38
abbrev a9:Stmt:=top 39
abbrev bW:Stmt:=kL (top 40) 0
abbrev dz:Stmt:=top 42
abbrev cA:Stmt:=top 43
abbrev dy:Stmt:=top 44
abbrev cB:Stmt:=top 45
abbrev dv:Stmt:=top 46
abbrev du:Stmt:=top 47
abbrev dw:Stmt:=top 48
abbrev cC:Stmt:=top 49
abbrev bH:Stmt:=top 50
abbrev qM:Stmt:=top 51
def tf(a b s:Int):List (Str×V):=putF "strength" (.int s) (putF "two" (.int b) (putF "one" (.int a) []))
theorem jD(a b s:Int):(tf a b s).lookup ("one" : Str)=some (.int a):=by
 unfold tf
 rw[au,if_neg (by decide +kernel),au,if_neg (by decide +kernel),au,if_pos rfl]
theorem ng(a b s:Int):(tf a b s).lookup ("two" : Str)=some (.int b):=by
 unfold tf
 rw[au,if_neg (by decide +kernel),au,if_pos rfl]
theorem tf_str(a b s:Int):(tf a b s).lookup ("strength" : Str)=some (.int s):=by
 unfold tf
 rw[au,if_pos rfl]
theorem EI(a b s:Int){m:Str} (h1:¬ m = "strength") (h2:¬ m = "two") (h3:¬ m = "one"):(tf a b s).lookup m=none:=by
 unfold tf
 rw[au,if_neg h1,au,if_neg h2,au,if_neg h3]
 all_goals rfl
theorem f1_len(a:Int):(putF "one" (.int a) []).length<1000:=by show 1<1000;decide
theorem f2_len(a b:Int):(putF "two" (.int b) (putF "one" (.int a) [])).length<1000:=by
 have e:(putF "two" (.int b) (putF "one" (.int a) []):List (Str×V))=([("one",.int a),("two",.int b)]:List (Str×V)):=by
  show(if("one" : Str) = "two" then[(("one" : Str),V.int b)] else(("one" : Str),V.int a)::putF "two" (V.int b) [])=_
  rw[if_neg (by decide +kernel)]
  all_goals rfl
 rw[e]
 show 2<1000
 decide
structure CT(K:IC)(C:Addr):Prop where
 cl:Cls K C
 n1:eG K C "one"
 n2:eG K C "two"
 n3:eG K C "strength"
def pT(K:IC):Sp:=fun vs H Q _=>∃(p C dx:Addr)(a b s:Int),vs = [.ref p,.int a,.int b,.int s]/\H p=some (.ins C dx [])/\CT K C/\a≠b/\0<=a/\0<=b/\0<=s /\
 ∀ H',H' p=some (.ins C dx (tf a b s))->(∀ q o,H q=some o->q≠p->H' q=some o)->Q .non H'
theorem aq{H:Hp}{p:Addr}(h:H p=none)(o:HO):Same H (upd H p o):=fun b u q=>by rw[ai (ar q h)];exact q
theorem bu{H H2:Hp}{l:Addr}(h:Same H H2)(hl:H l=none)(o:HO):Same H (upd H2 l o):=fun b u q=>by rw[ai (ar q hl)];exact h b u q
def iV(p:Nat):V:=.int (p:Int)
theorem iV_at{hs:List Nat}{k x:Nat}(h:hs[k]?=some x):atI (hs.map iV) (k:Int)=some (iV x):=bD (by rw[II,h];rfl)
def lT(H:Hp)(ys:List V)(es:En):Prop:=ys.length=es.length/\∀(i:Nat)(e:Nat×Nat),es[i]?=some e->∃ p,ys[i]?=some (.ref p)/\H p=some (.tup [iV e.1,iV e.2])
theorem lT.mono{H H':Hp}{ys:List V}{es:En}(h:lT H ys es)(s:Same H H'):lT H' ys es:=⟨h.1,fun i e q=>by
 obtain⟨p,a,b⟩:=h.2 i e q
 exact⟨p,a,s _ _ b⟩⟩
def c9(K:IC)(H:Hp)(xs:List V)(es:En):Prop:=xs.length=es.length/\∀(i:Nat)(e:Nat×Nat),es[i]?=some e->∃ p C dx s,xs[i]?=some (.ref p)/\H p=some (.ins C dx (tf (e.1:Int) (e.2:Int) s))/\CT K C
theorem c9.mono{K:IC}{H H':Hp}{xs:List V}{es:En}(t:c9 K H xs es)(h:Same H H'):c9 K H' xs es:=⟨t.1,fun i e q=>by
 obtain⟨p,C,dx,s,a,b,d⟩:=t.2 i e q
 exact⟨p,C,dx,s,a,h _ _ b,d⟩⟩
def ck(H:Hp)(xs:List V)(ts:List (List Nat)):Prop:=xs.length=ts.length/\∀(i:Nat)(l:List Nat),ts[i]?=some l->∃ p,xs[i]?=some (.ref p)/\H p=some (.lst (l.map iV))
theorem ck.mono{H H':Hp}{xs:List V}{ts:List (List Nat)}(h:ck H xs ts)(s:Same H H'):ck H' xs ts:=⟨h.1,fun i e q=>by
 obtain⟨p,a,b⟩:=h.2 i e q
 exact⟨p,a,s _ _ b⟩⟩
theorem ck.snoc{H:Hp}{xs:List V}{ts:List (List Nat)}{q:Addr}{l:List Nat}(h:ck H xs ts)(e:H q=some (.lst (l.map iV))):ck H (xs++[.ref q]) (ts++[l]):=by
 refine⟨by rw[IF,IF,h.1];rfl,fun j k ej=>?_⟩
 by_cases hj:j<ts.length
 ·rw[IH hj]at ej
  obtain⟨p,a1,a2⟩:=h.2 j k ej
  exact⟨p,by rw[IH (by rw[h.1];exact hj)];exact a1,a2⟩
 ·rw[IE (by omega)]at ej
  have hj2:j=ts.length:=by
   have:=(IA.mp ej).1
   rw[IM]at this
   omega
  subst hj2
  rw[Je]at ej
  cases ej
  exact⟨q,by rw[← h.1,IE (IG _),Je];rfl,e⟩
def cp(S:Addr->Prop)(H:Hp)(xs:List V)(ts:List (List Nat)):Prop:=xs.length=ts.length/\∀(i:Nat)(l:List Nat),ts[i]?=some l->∃ p,xs[i]?=some (.ref p)/\¬ S p/\H p=some (.lst (l.map iV))
theorem cp.mono{S:Addr->Prop}{H H':Hp}{xs:List V}{ts:List (List Nat)}(h:cp S H xs ts)(s:∀ b u,¬ S b->H b=some u->H' b=some u):cp S H' xs ts:=⟨h.1,fun i e q=>by
 obtain⟨p,a,n,b⟩:=h.2 i e q
 exact⟨p,a,n,s _ _ n b⟩⟩
theorem cp.off{S:Addr->Prop}{H:Hp}{xs:List V}{ts:List (List Nat)}(h:cp S H xs ts):ck H xs ts:=⟨h.1,fun i e q=>by
 obtain⟨p,a,n,b⟩:=h.2 i e q
 exact⟨p,a,b⟩⟩
theorem cp.snoc{S:Addr->Prop}{H:Hp}{xs:List V}{ts:List (List Nat)}{q:Addr}{l:List Nat}(h:cp S H xs ts)(n:¬ S q)(e:H q=some (.lst (l.map iV))):cp S H (xs++[.ref q]) (ts++[l]):=by
 refine⟨by rw[IF,IF,h.1];rfl,fun j k ej=>?_⟩
 by_cases hj:j<ts.length
 ·rw[IH hj]at ej
  obtain⟨p,a1,a2⟩:=h.2 j k ej
  exact⟨p,by rw[IH (by rw[h.1];exact hj)];exact a1,a2⟩
 ·rw[IE (by omega)]at ej
  have hj2:j=ts.length:=by
   have:=(IA.mp ej).1
   rw[IM]at this
   omega
  subst hj2
  rw[Je]at ej
  cases ej
  exact⟨q,by rw[← h.1,IE (IG _),Je];rfl,n,e⟩
theorem r9{f:Nat->Nat}{N i:Nat}{rs:List (List Nat)}(w:dX f N i rs):rs.flatten.length<=N:=gA w.nd fun x hx=>by
 obtain⟨r,h1,h2⟩:=JN.mp hx
 exact(w.ring r h1).lt x h2
theorem EU{f:Nat->Nat}{N i:Nat}{rs:List (List Nat)}(w:dX f N i rs):rs.length<=N:=by
 have h:∀(l:List (List Nat)),(∀ r∈l,0<r.length)->l.length<=l.flatten.length:=fun l=>by
  induction l with
  |nil=>intro _;exact IG _
  |cons a l ih =>
   intro h
   rw[JW,IF,Jm]
   have h1:=h a (Jc ..)
   have h2:=ih fun r hr=>h r (IV _ hr)
   omega
 exact JG (h rs fun r hr=>(w.ring r hr).ne) (r9 w)
structure TT(K:IC)(H:Hp)(a b:Addr)(m:Nat)(es:En)(ts:List (List Nat)):Prop where
 xs:∃ xs,SqL K H a xs/\c9 K H xs es
 ys:∃ ys,SqL K H b ys/\ck H ys ts
 w:bh m es ts
 few:es.length<=62
theorem TT.mono{K:IC}{H H':Hp}{a b:Addr}{m:Nat}{es:En}{ts:List (List Nat)}(t:TT K H a b m es ts)(s:Same H H'):TT K H' a b m es ts:=by
 obtain⟨⟨xs,h1,h2⟩,⟨ys,h3,h4⟩,w,f⟩:=t
 exact⟨⟨xs,s.seq h1,h2.mono s⟩,⟨ys,s.seq h3,h4.mono s⟩,w,f⟩
theorem Ar{m:Nat}{es:En}{ts:List (List Nat)}(w:bh m es ts)(f:es.length<=62){p:Nat}{l:List Nat}(h:ts[p]?=some l):(∀ t∈l,t<62)/\l.length<=62:=by
 have a:∀ t∈l,t<es.length:=fun t ht=>by
  obtain⟨e,he,_⟩:=(w.mem p l h t).mp ht
  exact(IA.mp he).1
 exact⟨fun t ht=>by have:=a t ht;omega,JG (gA (w.nd p l h) a) f⟩
theorem perm{m:Nat}{es:En}{ts:List (List Nat)}(w:bh m es ts):EA (fol es ts) (2*es.length):=⟨fun d h=>by
 obtain⟨_,_,_,_,_,_,_,_,z,_⟩:=w.foll h
 exact z,fun a b ha hb h=>w.inj ha hb h⟩
def B5(K:IC):Sp:=fun vs H Q _=>∃(a:Addr)(xs:List V)(es:En)(d:Nat),vs = [.ref a,.int (d:Int)]/\SqL K H a xs/\c9 K H xs es/\d<2*es.length/\Q (iV (hd es d)) H
def B4(K:IC):Sp:=fun vs H Q _=>∃(a:Addr)(xs:List V)(es:En)(t p:Nat)(e:Nat×Nat),vs = [.ref a,.int (t:Int),.int (p:Int)]/\SqL K H a xs/\c9 K H xs es/\es[t]?=some e/\Q (iV (if e.1=p then 2*t else 2*t+1)) H
def G4(K:IC):Sp:=fun vs H Q _=>∃(a b:Addr)(m:Nat)(es:En)(ts:List (List Nat))(d:Nat),vs = [.ref a,.ref b,.int (d:Int)]/\TT K H a b m es ts/\d<2*es.length/\Q (iV (fol es ts d)) H
def B6(K:IC):Sp:=fun vs H Q _=>∃(a b:Addr)(m:Nat)(es:En)(ts:List (List Nat))(d:Nat),vs = [.ref a,.ref b,.int (d:Int)]/\TT K H a b m es ts/\d<2*es.length /\
 ∀ q r H',Same H H'->H q=none->H' q=some (.lst (r.map iV))->Path (fol es ts) (2*es.length) d r->Ring (fol es ts) (2*es.length) r->Q (.ref q) H'
def qC(K:IC):Sp:=fun vs H Q _=>∃(a b:Addr)(m:Nat)(es:En)(ts:List (List Nat)),vs = [.ref a,.ref b]/\TT K H a b m es ts /\
 ∀ q ys rs H',Same H H'->H' q=some (.lst ys)->ck H' ys rs->dX (fol es ts) (2*es.length) (2*es.length) rs->Q (.ref q) H'
def lA(H:Hp)(ys:List V)(n:Nat)(rs:List (List Nat)):Prop:=ys.length=n/\∀ i,i<n->∃ p a b r r',ys[i]?=some (.ref p)/\H p=some (.tup [iV a,iV b])/\rs[a]?=some r/\2*i∈r/\rs[b]?=some r'/\2*i+1∈r'
def wD(K:IC):Sp:=fun vs H Q _=>∃(a b:Addr)(xs ys:List V)(es:En)(f:Nat->Nat)(rs:List (List Nat)),vs = [.ref a,.ref b]/\SqL K H a xs/\c9 K H xs es/\es.length<=62/\SqL K H b ys/\ck H ys rs/\dX f (2*es.length) (2*es.length) rs /\
 ∀ q zs H',Same H H'->H' q=some (.lst zs)->lA H' zs es.length rs->Q (.ref q) H'
def sM(ns:List Int)(k:Nat):Int:=ns.getD k 0
def zJ(K:IC):Sp:=fun vs H Q _=>∃(a:Addr)(k:Nat)(ns:List Int),vs = [.ref a,.int (k:Int)]/\SqL K H a (ns.map V.int)/\Q (.int (sM ns k)) H
def G1:Sp:=fun vs H Q _=>∃ i:Int,vs = [.int i]/\Q (.bl true) H
def EM(K:IC):Sp:=fun vs H Q _=>∃(a:Addr)(ns:List Int),vs = [.ref a]/\SqL K H a (ns.map V.int)/\ns.length<=63/\∀ H',Q (.bl true) H'
structure Txt(mg:Str->Option Value):Prop where
 n_max:mg "max" = none
 n_all:mg "all" = none
 n_zip:mg "zip" = none
 n_any:mg "any" = none
 n_len:mg "len" = none
 n_int:mg "int" = none
 n_bool:mg "bool" = none
 n_list:mg "list" = none
 n_tuple:mg "tuple" = none
 n_range:mg "range" = none
 n_enumerate:mg "enumerate" = none
 n_isinstance:mg "isinstance" = none
 n_min:mg "min" = none
 n_sum:mg "sum" = none
 n_sorted:mg "sorted" = none
section
variable{P:Program}{w:World}{K:IC}{mg:Str->Option Value}{base:Heap}
theorem Ce:aC ["ties","dart","tie"] ["ties","dart"] (ah pU):=⟨rfl,rfl,rfl,by decide +kernel,rfl,by decide +kernel,by decide +kernel⟩
theorem Hw{f:Addr}{fd:FuncData} (F:Fun K "head" "head" pU f fd):FnOk P w K mg base CX0 1 f fd ["ties","dart"] (B5 K):=by
 refine F.ok Ce (fun vs H Q E h=>?_) (fun cdv A outer s H vs Q E hr h=>?_)
 ·obtain⟨a,xs,es,d,rfl,_⟩:=h
  rfl
 obtain⟨a,xs,es,d,rfl,hS,hT,hdl,k⟩:=h
 have hl:d/2<es.length:=by omega
 have e1:es[d/2]?=some es[d/2]:=IB hl
 obtain⟨p,C,dx,s',x1,x2,x3⟩:=hT.2 _ _ e1
 have hh:hd es d=if d%2=0 then es[d/2].2 else es[d/2].1:=by unfold hd;rw[e1]
 have ed:(d:Int)/2=((d/2:Nat):Int):=by omega
 refine⟨_,(ag (az (i:=2) Ce.nd rfl (Or.inl rfl) (bL bJ (pv 0) (aA fg (pv 1) aj) (fun _ _=>rfl)))
   (ao (aK (qV (aG rf (aA cv (pv 1) aj) aj (aM _)) (b5 (pv 2) rfl) (b5 (pv 2) rfl))))),?_⟩
 refine⟨_,rfl,_,rfl,_,_,rfl,rfl,⟨by decide,by decide⟩,a,xs,_,_,rfl,rfl,hS,(by rw[ed];exact bD x1),?_⟩
 refine⟨_,rfl,_,_,rfl,rfl,(by show(0:Int)<2;decide),rfl,_,rfl,?_⟩
 refine ite2 (fun q=>?_) (fun q=>?_)
 ·have q':(d:Int)%2=0:=V.int.inj (of_decide_eq_true q)
  refine⟨_,rfl,p,C,dx,_,_,rfl,x2,x3.cl,x3.n2,ng _ _ _,?_⟩
  rw[hh,if_pos (by omega)]at k
  exact k
 ·have q':¬ (d:Int)%2=0:=fun z=>q (decide_eq_true (congrArg V.int z))
  refine⟨_,rfl,p,C,dx,_,_,rfl,x2,x3.cl,x3.n1,jD _ _ _,?_⟩
  rw[hh,if_neg (by omega)]at k
  exact k
theorem Ay:aC ["ties","number","place"] ["ties","number","place"] (ah eR):=⟨rfl,rfl,rfl,by decide +kernel,rfl,by decide +kernel,by decide +kernel⟩
theorem AH{f:Addr}{fd:FuncData} (F:Fun K "leaving" "leaving" eR f fd):FnOk P w K mg base CX0 1 f fd ["ties","number","place"] (B4 K):=by
 refine F.ok Ay (fun vs H Q E h=>?_) (fun cdv A outer s H vs Q E hr h=>?_)
 ·obtain⟨a,xs,es,t,p,e,rfl,_⟩:=h
  rfl
 obtain⟨a,xs,es,t,pl,e,rfl,hS,hT,he,k⟩:=h
 obtain⟨p,C,dx,s',x1,x2,x3⟩:=hT.2 _ _ he
 have m2:CMul 2 (t:Int):=.inl ⟨by decide,by decide⟩
 refine⟨_,(ao (aK (qV (aG rf (b5 (bL bJ (pv 0) (pv 1) (fun _ _=>rfl)) rfl) (pv 2) (aM _)) (aA pX aj (pv 1)) (aA cU (aA pX aj (pv 1)) aj)))),?_⟩
 refine⟨_,rfl,_,rfl,a,xs,_,_,rfl,rfl,hS,bD x1,p,C,dx,_,_,rfl,x2,x3.cl,x3.n1,jD _ _ _,_,rfl,rfl,_,rfl,?_⟩
 refine ite2 (fun q=>?_) (fun q=>?_)
 ·have q':(e.1:Int)=(pl:Int):=V.int.inj (of_decide_eq_true q)
  refine⟨_,rfl,_,_,rfl,rfl,m2,?_⟩
  rw[if_pos (by omega)]at k
  exact k
 ·have q':¬ (e.1:Int)=(pl:Int):=fun z=>q (decide_eq_true (congrArg V.int z))
  refine⟨_,rfl,_,_,rfl,rfl,m2,_,_,rfl,rfl,?_⟩
  rw[if_neg (by omega)]at k
  exact k
theorem e8:aC ["ties","turns","dart","place","about","behind"] ["ties","turns","dart"] (ah dB):=⟨rfl,rfl,rfl,by decide +kernel,rfl,by decide +kernel,by decide +kernel⟩
theorem xE{f fh fl:Addr}{fd fdh fdl:FuncData} (F:Fun K "follower" "follower" dB f fd) (T:Txt mg) (G_head:Cal P w K mg base 1 "head" ["ties","dart"] (B5 K) fh fdh) (G_leaving:Cal P w K mg base 1 "leaving" ["ties","number","place"] (B4 K) fl fdl):FnOk P w K mg base CX0 2 f fd ["ties","turns","dart"] (G4 K):=by
 refine F.ok e8 (fun vs H Q E h=>?_) (fun cdv A outer s H vs Q E hr h=>?_)
 ·obtain⟨a,b,m,es,ts,d,rfl,_⟩:=h
  rfl
 obtain⟨a,b,m,es,ts,d,rfl,tt,hdl,k⟩:=h
 obtain⟨⟨xs,h1,h2⟩,⟨ys,h3,h4⟩,w',few⟩:=tt
 obtain⟨l,e,p1,p2,p3,p4,p5,p6,p7,p8,p9⟩:=w'.foll hdl
 obtain⟨small,len⟩:=Ar w' few p1
 obtain⟨q,y1,y2⟩:=h4.2 _ _ p1
 have ed:(d:Int)/2=((d/2:Nat):Int):=by omega
 refine⟨_,(ag (az (i:=3) e8.nd rfl (Or.inl rfl) (aI G_head.ok (hr.mono (by decide)) rfl G_head.mg G_head.kp G_head.bn .nil bt (aa (pv 0) (aa (pv 2) ak))))
   (ag (az (i:=4) e8.nd rfl (Or.inl rfl) (bL bJ (pv 1) (pv 3) (fun _ _=>rfl)))
   (ag (az (i:=5) e8.nd rfl (Or.inl rfl) (aA cv (aA cU (i0 Jt PySem.F.slot_list_index PySem.F.type_list_index Fh (pv 4) (aa (aA fg (pv 2) aj) ak)) aj) (aJ aL (by rfl) T.n_len gc (aa (pv 4) ak))))
   (ao (aK (aI G_leaving.ok (hr.mono (by decide)) rfl G_leaving.mg G_leaving.kp G_leaving.bn .nil bt (aa (pv 0) (aa (bL bJ (pv 4) (pv 5) (fun _ _=>rfl)) (aa (pv 3) ak))))))))),?_⟩
 refine⟨_,rfl,_,rfl,a,xs,es,d,rfl,h1,h2,hdl,?_⟩
 refine⟨_,rfl,_,rfl,b,ys,_,_,rfl,rfl,h3,bD y1,?_⟩
 have hlen:(l.map iV).length=l.length:=IJ _
 have hl0:0<l.length:=LJ p2
 have hmod:(((l.idxOf (d/2):Nat):Int)+1)%((l.map iV).length:Int)=(((l.idxOf (d/2)+1)%l.length:Nat):Int):=by rw[hlen];rfl
 refine⟨_,rfl,.inl ⟨rfl,_,SqL.of y2⟩,_,rfl,_,_,rfl,rfl,⟨by decide,by decide⟩,q,l,d/2,rfl,congrArg (fun z=>[V.int z]) ed,SqL.of y2,fun p hp=>by have:=small p hp;omega,by omega,p2,_,_,rfl,rfl,_,rfl,q,_,rfl,.inl (SqL.of y2),_,_,rfl,rfl,(by show(0:Int)<((l.map iV).length:Int);rw[hlen];omega),?_⟩
 refine⟨_,rfl,_,rfl,_,rfl,q,_,_,_,rfl,rfl,SqL.of y2,(by rw[hmod];exact iV_at (i4 p2)),_,rfl,a,xs,es,nxt l (d/2),hd es d,e,rfl,h1,h2,p3,?_⟩
 rw[p6]at k
 exact k
theorem de:aC ["ties","turns","first","row","dart"] ["ties","turns","first"] (ah bT):=⟨rfl,rfl,rfl,by decide +kernel,rfl,by decide +kernel,by decide +kernel⟩
theorem Hy{f ff:Addr}{fd fdf:FuncData} (F:Fun K "round_from" "round_from" bT f fd) (G_follower:Cal P w K mg base 2 "follower" ["ties","turns","dart"] (G4 K) ff fdf):FnOk P w K mg base CX0 3 f fd ["ties","turns","first"] (B6 K):=by
 refine F.ok de (fun vs H Q E h=>?_) (fun cdv A outer s H vs Q E hr h=>?_)
 ·obtain⟨a,b,m,es,ts,d,rfl,_⟩:=h
  rfl
 obtain⟨a,b,m,es,ts,d,rfl,tt,hdl,k⟩:=h
 have pm:=perm tt.w
 refine⟨_,(ag (az (i:=3) de.nd rfl (Or.inl rfl) (eS (aa (pv 2) ak)))
   (ag (az (i:=4) de.nd rfl (Or.inl rfl) (aI G_follower.ok (hr.mono (by decide)) rfl G_follower.mg G_follower.kp G_follower.bn .nil bt (aa (pv 0) (aa (pv 1) (aa (pv 2) ak)))))
   (ag (zL PassesOwn.never (aG ra (pv 4) (pv 2) (aM _)) (ag (bp (i0 Jt Jw Jv bg (pv 3) (aa (pv 4) ak)))
   (ao (az (i:=4) de.nd rfl (Or.inl rfl) (aI G_follower.ok (hr.mono (by decide)) rfl G_follower.mg G_follower.kp G_follower.bn .nil bt (aa (pv 0) (aa (pv 1) (aa (pv 4) ak))))))))
   (ao (aK (pv 3)))))),?_⟩
 refine⟨_,rfl,(by show 1<=sizeLine;decide),fun q hq=>?_⟩
 have s1:=aq hq (.lst [.int (d:Int)])
 refine⟨_,rfl,_,rfl,_,rfl,a,b,m,es,ts,d,rfl,tt.mono s1,hdl,?_⟩
 refine zB (fun σ H2=>∃(r:List Nat)(x:Nat),σ = [some (.ref a),some (.ref b),some (.int (d:Int)),some (.ref q),some (iV (fol es ts x))]/\Same H H2/\H2 q=some (.lst ((r++[x]).map iV))/\Path (fol es ts) (2*es.length) d (r++[x]))
  (fun σ H2=>match H2 q with | some (.lst xs)=>200-xs.length | _=>0) ⟨[],d,rfl,s1,ae,E4 hdl⟩ ?_ ?_
 ·rintro σ H2 ⟨r,x,rfl,s2,hq2,pa⟩
  refine⟨_,rfl,_,rfl,rfl,_,rfl,?_⟩
  have few:=tt.few
  have hlen:=gA pa.nd pa.lt
  refine ite2 (fun c=>?_) (fun c=>?_)
  ·have c':fol es ts x≠d:=fun z=>by
    rw[decide_eq_true (show iV (fol es ts x)=V.int (d:Int) by rw[z];rfl)]at c
    cases c
   have pa2:=pa.snoc pm c'
   have hlen2:=gA pa2.nd pa2.lt
   have lt2:fol es ts x<2*es.length:=pa2.lt _ (by simp)
   refine⟨_,rfl,.inl ⟨rfl,_,SqL.of hq2⟩,_,rfl,q,_,_,rfl,rfl,hq2,aB (by rw[IJ];omega),?_⟩
   have s3:=bu s2 hq (.lst ((r++[x]).map iV++[iV (fol es ts x)]))
   refine⟨_,rfl,_,rfl,_,rfl,a,b,m,es,ts,fol es ts x,rfl,tt.mono s3,lt2,?_⟩
   refine⟨⟨r++[x],fol es ts x,rfl,s3,?_,pa2⟩,?_⟩
   ·rw[ae,show((r++[x]++[fol es ts x]).map iV)=(r++[x]).map iV++[iV (fol es ts x)] from by rw[Jr];rfl]
   ·show(match(upd H2 q (.lst ((r++[x]).map iV++[iV (fol es ts x)]))) q with | some (.lst xs)=>200-xs.length | _=>0)<(match H2 q with | some (.lst xs)=>200-xs.length | _=>0)
    rw[ae,hq2]
    show 200-((r++[x]).map iV++[iV (fol es ts x)]).length<200-((r++[x]).map iV).length
    rw[IF,IJ,IM]
    omega
  ·have c':fol es ts x=d:=by
    by_cases z:fol es ts x=d
    ·exact z
    ·exact absurd (by rw[decide_eq_false (fun y=>z (by have:=V.int.inj y;omega))];rfl) c
   refine⟨_,rfl,?_⟩
   exact k q _ H2 s2 hq hq2 pa (pa.ring pm c')
 ·rintro σ H2 Q1 Q2 hi ⟨v',e,b',e2,z1,c',e3,q'⟩
  exact⟨v',e,b',e2,z1,c',e3,hi _ _ q'⟩
theorem bP:aC ["ties","turns","rounds","seen","dart","row","gone"] ["ties","turns"] (ah cz):=⟨rfl,rfl,rfl,by decide +kernel,rfl,by decide +kernel,by decide +kernel⟩
theorem CQ{f ff:Addr}{fd fdf:FuncData} (F:Fun K "rounds_of" "rounds_of" cz f fd) (T:Txt mg) (G_round_from:Cal P w K mg base 3 "round_from" ["ties","turns","first"] (B6 K) ff fdf):FnOk P w K mg base CX0 4 f fd ["ties","turns"] (qC K):=by
 refine F.ok bP (fun vs H Q E h=>?_) (fun cdv A outer s H vs Q E hr h=>?_)
 ·obtain⟨a,b,m,es,ts,rfl,_⟩:=h
  rfl
 obtain⟨a,b,m,es,ts,rfl,tt,k⟩:=h
 have hu:=yA hr
 have pm:=perm tt.w
 have few:=tt.few
 obtain⟨xs,h1,h2⟩:=tt.xs
 refine⟨_,(ag (az (i:=2) bP.nd rfl (Or.inl rfl) (eS ak))
   (ag (az (i:=3) bP.nd rfl (Or.inl rfl) mQ)
   (ag (cu PassesOwn.never rfl (gh rfl T.n_range (aa (aA pX aj (aJ aL (by rfl) T.n_len gc (aa (pv 0) ak))) ak)) (aH (i:=4) bP.nd rfl (Or.inl rfl)) (ao (cT (F2 (uu hu (pv 4) (pv 3))) (ag (az (i:=5) bP.nd rfl (Or.inl rfl) (aI G_round_from.ok (hr.mono (by decide)) rfl G_round_from.mg G_round_from.kp G_round_from.bn .nil bt (aa (pv 0) (aa (pv 1) (aa (pv 4) ak)))))
   (ag (bp (i0 Jt Jw Jv bg (pv 2) (aa (pv 5) ak)))
   (ao (cu PassesOwn.never rfl (bx (pv 5)) (aH (i:=6) bP.nd rfl (Or.inl rfl)) (ao (qP hu (pv 3) (pv 6) CJ rfl)))))) aP)))
   (ao (aK (pv 2)))))),?_⟩
 refine⟨(by show 0<=sizeLine;decide),fun qr hqr=>fun qs hqs=>?_⟩
 have s1:=(aq hqr (.lst [])).trans (aq hqs (.dK []))
 have hqs0:H qs=none:=by
  cases z:H qs with
  |none=>rfl
  |some o=>rw[aq hqr (.lst []) qs o z]at hqs;cases hqs
 have hne:qr≠qs:=fun z=>by rw[← z,ae]at hqs;cases hqs
 have hxl:xs.length=es.length:=h2.1
 have hN:(2*(xs.length:Int)).toNat=2*es.length:=by omega
 refine⟨_,rfl,a,xs,rfl,.inl (s1.seq h1),_,_,rfl,rfl,.inl ⟨by decide,by decide⟩,_,rfl,by omega,by omega,jS (n:=(2*(xs.length:Int)).toNat) (fun i σ H2=>∃ v4 v5 v6 ys rs kvs,σ = [some (.ref a),some (.ref b),some (.ref qr),some (.ref qs),v4,v5,v6]/\Same H H2/\H2 qr=some (.lst ys)/\cp (fun p=>p=qr∨p=qs) H2 ys rs/\H2 qs=some (.dK kvs)/\kvs.length<=rs.flatten.length/\(∀ d:Nat,(valV kvs (Sum.inl (d:Int))).isSome=true↔d∈rs.flatten)/\dX (fol es ts) (2*es.length) i rs)
  ⟨_,_,_,[],[],[],rfl,s1,by rw[ai hne,ae],⟨rfl,fun i l e=>by simp at e⟩,ae,IG _,fun d=>by simp[valV],AA _ _⟩ ?_ ?_⟩
 ·rintro i σ H2 hi ⟨v4,v5,v6,ys,rs,kvs,rfl,s2,e1,rx,e2,kl,km,ro⟩
  rw[hN]at hi
  have e0:(0:Int)+(i:Int)=(i:Int):=Km _
  rw[e0]
  have fl:=r9 ro
  have rl:=EU ro
  refine⟨_,rfl,_,rfl,_,_,rfl,DGet.k (k:=Sum.inl (i:Int)) e2,_,rfl,?_⟩
  refine ite2 (fun c=>?_) (fun c=>?_)
  ·have hni:i∉rs.flatten:=fun z=>by
    rw[(km i).mpr z]at c
    cases c
   refine⟨_,rfl,_,rfl,_,rfl,a,b,m,es,ts,i,rfl,tt.mono s2,hi,fun q r H3 s3 hq hq3 pa ri=>?_⟩
   have s23:=s2.trans s3
   have nq:¬ (q=qr∨q=qs):=by
    rintro(z | z)
    ·rw[z,e1]at hq;cases hq
    ·rw[z,e2]at hq;cases hq
   refine⟨_,rfl,.inl ⟨rfl,_,SqL.of (s3 _ _ e1)⟩,_,rfl,qr,_,_,rfl,rfl,s3 _ _ e1,aB (by rw[rx.1];omega),?_⟩
   have s4:=bu s23 hqr (.lst (ys++[.ref q]))
   have hrq:∀{H5:Hp},cp (fun p=>p=qr∨p=qs) H5 (ys++[.ref q]) (rs++[r])->H5 q=some (.lst (r.map iV)):=fun h=>by
    obtain⟨p,z1,_,z2⟩:=h.2 rs.length r (by rw[IE (IG _),Je];rfl)
    rw[← rx.1,IE (IG _),Je]at z1
    cases z1
    exact z2
   have rx4:cp (fun p=>p=qr∨p=qs) (upd H3 qr (.lst (ys++[.ref q]))) (ys++[.ref q]) (rs++[r]):=by
    refine(rx.mono fun p o n z=>?_).snoc nq ?_
    ·rw[ai (fun z=>n (.inl z))];exact s3 _ _ z
    ·rw[ai (fun z=>nq (.inl z))];exact hq3
   have rl:r.length<=2*es.length:=gA ri.nd ri.lt
   refine⟨_,rfl,q,rfl,⟨_,SqL.of (hrq rx4)⟩,cO (xs:=r.map iV) (fun j σ H5=>∃ v6 kvs',σ = [some (.ref a),some (.ref b),some (.ref qr),some (.ref qs),some (.int (i:Int)),some (.ref q),v6]/\Same H H5/\H5 qr=some (.lst (ys++[.ref q]))/\cp (fun p=>p=qr∨p=qs) H5 (ys++[.ref q]) (rs++[r])/\H5 qs=some (.dK kvs')/\kvs'.length<=rs.flatten.length+j/\∀ d:Nat,(valV kvs' (Sum.inl (d:Int))).isSome=true↔d∈rs.flatten∨d∈r.take j)
    ⟨_,kvs,rfl,s4,ae,rx4,by rw[ai hne.symm];exact s3 _ _ e2,kl,fun d=>by rw[km d];simp⟩ (fun j σ H5 _ p=>?_) ?_ ?_⟩
   ·obtain⟨_,_,_,_,_,z,_⟩:=p
    exact SqL.of (hrq z)
   ·rintro j x σ H5 hx ⟨v6,kvs',rfl,s5,f1,rx5,f2,kl5,km5⟩
    rw[II]at hx
    obtain⟨g,hg,rfl⟩:=Jd.mp hx
    have hjl:j<r.length:=(IA.mp hg).1
    refine⟨_,rfl,_,rfl,qs,_,rfl,DPut.k (k:=Sum.inl (g:Int)) f2 (aB (by omega)),?_⟩
    refine⟨_,_,rfl,bu s5 hqs0 _,by rw[ai hne];exact f1,rx5.mono fun p o n z=>by rw[ai (fun z=>n (.inr z))];exact z,ae,by have:=cJ kvs' (Sum.inl (g:Int)) (V.bl true);omega,fun d=>?_⟩
    rw[qy]
    have tk:r.take (j+1)=r.take j++[g]:=by rw[Jk,hg];rfl
    rw[tk]
    by_cases z:d=g
    ·subst z
     simp
    ·rw[if_neg (fun y=>z (by have:=Sum.inl.inj y;omega)),km5 d]
     simp[z]
   ·rintro σ H5 ⟨v6,kvs',rfl,s5,f1,rx5,f2,kl5,km5⟩
    rw[IJ]at kl5 km5
    refine⟨_,_,_,_,rs++[r],kvs',rfl,s5,f1,rx5,f2,by rw[J2,IF];simpa using kl5,fun d=>?_,ro.put pm hni hi ri pa⟩
    rw[km5 d,Jy,J2,IK]
    simp
  ·have hii:i∈rs.flatten:=(km i).mp (by
    cases z:(valV kvs (Sum.inl (i:Int))).isSome with
    |true=>rfl
    |false=>exact absurd (by rw[z];rfl) c)
   exact⟨_,_,_,ys,rs,kvs,rfl,s2,e1,rx,e2,kl,km,ro.skip hii⟩
 ·rintro σ H2 ⟨v4,v5,v6,ys,rs,kvs,rfl,s2,e1,rx,e2,kl,km,ro⟩
  rw[hN]at ro
  exact⟨_,rfl,k qr ys rs H2 s2 e1 rx.off ro⟩
theorem dG:aC ["ties","rounds","number_at","number","row","dart"] ["ties","rounds"] (ah dm):=⟨rfl,rfl,rfl,by decide +kernel,rfl,by decide +kernel,by decide +kernel⟩
theorem Fc{f:Addr}{fd:FuncData} (F:Fun K "sides_of" "sides_of" dm f fd) (T:Txt mg):FnOk P w K mg base CX0 1 f fd ["ties","rounds"] (wD K):=by
 refine F.ok dG (fun vs H Q E h=>?_) (fun cdv A outer s H vs Q E hr h=>?_)
 ·obtain⟨a,b,xs,ys,es,g,rs,rfl,_⟩:=h
  rfl
 obtain⟨a,b,xs,ys,es,g,rs,rfl,hS,hT,few,hB,hR,ro,k⟩:=h
 have hu:=yA hr
 have fl:=r9 ro
 refine⟨_,(ag (az (i:=2) dG.nd rfl (Or.inr rfl) mQ)
   (ag (cu PassesOwn.never rfl (CB rfl T.n_enumerate (aa (pv 1) ak)) (nC rfl (bq (aH (i:=3) dG.nd rfl (Or.inl rfl)) (bq (aH (i:=4) dG.nd rfl (Or.inl rfl)) iZ))) (ao (cu PassesOwn.never rfl (bx (pv 4)) (aH (i:=5) dG.nd rfl (Or.inl rfl)) (ao (qP hu (pv 2) (pv 5) (pv 3) rfl)))))
   (ao (aK (ki rfl (fr:=[("number_at",2)]) (by exact cW.one (by rfl) (by decide +kernel) (by rfl) (by decide +kernel) (by rfl) (by decide +kernel) (by rfl) (by rfl) (by decide +kernel) (by rfl)) (gh rfl T.n_range (aa (aJ aL (by rfl) T.n_len gc (aa (pv 0) ak)) ak)) (fun C ex s H=>(uk (aa (qX hu (pv 1) (aA pX aj (pv 0)) (fun _ _=>rfl)) (aa (qX hu (pv 1) (aA cU (aA pX aj (pv 0)) aj) (fun _ _=>rfl)) ak))))))))),?_⟩
 intro q hq
 have s1:=aq hq (.dK [])
 have kF:∀ i,(rs.take i).flatten.length<=rs.flatten.length:=fun i=>by
  have:=congrArg (fun z=>z.flatten.length) (Ji i rs)
  simp only[J2,IF]at this
  omega
 refine⟨_,rfl,b,rfl,⟨_,s1.seq hB⟩,Ad (K:=K) (xs:=ys) (fun i σ H2=>∃ v3 v4 v5 kvs,σ = [some (.ref a),some (.ref b),some (.ref q),v3,v4,v5]/\Same H H2/\H2 q=some (.dK kvs)/\kvs.length<=(rs.take i).flatten.length/\∀(d c:Nat)(r:List Nat),c<i->rs[c]?=some r->d∈r->valV kvs (Sum.inl (d:Int))=some (iV c))
  ⟨_,_,_,[],rfl,s1,ae,JL _,fun d c r z=>absurd z (Ms _)⟩ (fun i σ H2 _ ⟨_,_,_,_,_,s2,_⟩=>s2.seq hB) ?_ ?_⟩
 ·rintro i x σ H2 T2 hx ⟨v3,v4,v5,kvs,rfl,s2,e1,kl,km⟩ hT2
  have hil:i<rs.length:=by
   have:=(IA.mp hx).1
   rw[hR.1]at this
   exact this
  have hr':rs[i]?=some rs[i]:=IB hil
  obtain⟨p,x1,x2⟩:=hR.2 i _ hr'
  rw[hx]at x1
  cases x1
  generalize rs[i]=r at hr' x2
  have s3:Same H (upd H2 T2 (.tup [.int (i:Int),.ref p])):=s2.trans (aq hT2 _)
  have f1:(rs.take (i+1)).flatten=(rs.take i).flatten++r:=by rw[Jk,hr'];simp
  have f2:=kF (i+1)
  rw[f1,IF]at f2
  refine⟨T2,_,rfl,SqT.of ae,rfl,_,_,rfl,_,_,rfl,rfl,?_⟩
  refine⟨_,rfl,p,rfl,⟨_,SqL.of (s3 _ _ x2)⟩,cO (xs:=r.map iV) (fun j σ H5=>∃ v5 kvs',σ = [some (.ref a),some (.ref b),some (.ref q),some (.int (i:Int)),some (.ref p),v5]/\Same H H5/\H5 q=some (.dK kvs')/\kvs'.length<=(rs.take i).flatten.length+j/\(∀(d c:Nat)(r:List Nat),c<i->rs[c]?=some r->d∈r->valV kvs' (Sum.inl (d:Int))=some (iV c))/\∀ d∈r.take j,valV kvs' (Sum.inl (d:Int))=some (iV i))
   ⟨_,kvs,rfl,s3,aq hT2 _ _ _ e1,kl,km,fun d hd=>by simp at hd⟩ (fun j σ H5 _ ⟨_,_,_,z,_⟩=>SqL.of (z _ _ x2)) ?_ ?_⟩
  ·rintro j x σ H5 hx2 ⟨v5,kvs',rfl,s5,g1,kl5,km5,kn5⟩
   rw[II]at hx2
   obtain⟨g,hg,rfl⟩:=Jd.mp hx2
   have hjl:j<r.length:=(IA.mp hg).1
   refine⟨_,rfl,_,rfl,_,rfl,q,_,rfl,DPut.k (k:=Sum.inl (g:Int)) g1 (aB (by omega)),?_⟩
   refine⟨_,_,rfl,bu s5 hq _,ae,by have:=cJ kvs' (Sum.inl (g:Int)) (V.int (i:Int));omega,fun d c r' hc hrc hd=>?_,fun d hd=>?_⟩
   ·rw[qy,if_neg (fun z=>?_)]
    ·exact km5 d c r' hc hrc hd
    ·have z':d=g:=by have:=Sum.inl.inj z;omega
     subst z'
     have:=Ib ro.nd hrc hr' hd (ID hg)
     omega
   ·rw[qy]
    by_cases z:d=g
    ·subst z
     rw[if_pos rfl]
     rfl
    ·rw[if_neg (fun y=>z (by have:=Sum.inl.inj y;omega))]
     refine kn5 d ?_
     rw[Jk,hg]at hd
     simpa[z] using hd
  ·rintro σ H5 ⟨v5,kvs',rfl,s5,g1,kl5,km5,kn5⟩
   rw[IJ]at kl5 kn5
   rw[Jy]at kn5
   refine⟨_,_,_,kvs',rfl,s5,g1,by rw[f1,IF];exact kl5,fun d c r' hc hrc hd=>?_⟩
   by_cases z:c=i
   ·subst z
    rw[hr']at hrc
    cases hrc
    exact kn5 d hd
   ·exact km5 d c r' (by omega) hrc hd
 ·rintro σ H2 ⟨v3,v4,v5,kvs,rfl,s2,e1,kl,km⟩
  rw[hR.1]at km
  have get:∀ d,d<2*es.length->∃ c r,rs[c]?=some r/\d∈r/\valV kvs (Sum.inl (d:Int))=some (iV c):=fun d hd=>by
   obtain⟨r,z1,z2⟩:=JN.mp (ro.all d hd)
   obtain⟨c,z3⟩:=JU.mp z1
   exact⟨c,r,z3,z2,km d c r (IA.mp z3).1 z3 z2⟩
  have hxl:xs.length=es.length:=hT.1
  refine⟨_,rfl,a,xs,rfl,.inl (s2.seq hS),_,rfl,by omega,by omega,qa (fun i zs H3=>Same H2 H3/\lA H3 zs i rs) (by rw[JB,hxl];exact JY (aB (by omega))) ⟨fun _ _ e=>e,rfl,fun i hi=>absurd hi (Ms _)⟩ ?_ ?_⟩
  ·rintro i zs H3 hi ⟨s3,sd⟩
   have e0:(0:Int)+(i:Int)=(i:Int):=Km _
   rw[e0]
   rw[JB,hxl]at hi
   obtain⟨c1,r1,z1,z2,z3⟩:=get (2*i) (by omega)
   obtain⟨c2,r2,y1,y2,y3⟩:=get (2*i+1) (by omega)
   have m2:CMul 2 (i:Int):=.inl ⟨by decide,by decide⟩
   have d1:DGet H3 q (V.int (2*(i:Int))) (some (iV c1)):=by
    rw[← z3,show((2*i:Nat):Int)=2*(i:Int) by omega]
    exact DGet.k (k:=Sum.inl (2*(i:Int))) (s3 _ _ e1)
   have d2:DGet H3 q (V.int (2*(i:Int)+1)) (some (iV c2)):=by
    rw[← y3,show((2*i+1:Nat):Int)=2*(i:Int)+1 by omega]
    exact DGet.k (k:=Sum.inl (2*(i:Int)+1)) (s3 _ _ e1)
   refine⟨_,rfl,_,rfl,_,_,rfl,rfl,m2,q,_,rfl,d1,_,rfl,_,rfl,_,_,rfl,rfl,m2,_,_,rfl,rfl,q,_,rfl,d2,(by show 2<=sizeLine;decide),fun t ht=>?_⟩
   have s4:=aq ht (.tup [iV c1,iV c2])
   refine⟨s3.trans s4,by rw[IF,sd.1];rfl,fun j hj=>?_⟩
   by_cases z:j=i
   ·subst z
    exact⟨t,c1,c2,r1,r2,by rw[← sd.1,IE (IG _),Je];rfl,ae,z1,z2,y1,y2⟩
   ·obtain⟨p,a',b',r,r',w1,w2,w3⟩:=sd.2 j (by omega)
    exact⟨p,a',b',r,r',by rw[IH (by rw[sd.1];omega)];exact w1,s4 _ _ w2,w3⟩
  ·rintro zs H3 hzl ⟨s3,sd⟩ D hD
   rw[JB,hxl]at sd
   exact k D zs _ ((s2.trans s3).trans (aq hD _)) ae ⟨sd.1,fun i hi=>by
    obtain⟨p,a',b',r,r',w1,w2,w3⟩:=sd.2 i hi
    exact⟨p,a',b',r,r',w1,aq hD _ _ _ w2,w3⟩⟩
theorem qL:aC ["self","one","two","strength"] ["self","one","two","strength"] (ah bX):=⟨rfl,rfl,rfl,by decide +kernel,rfl,by decide +kernel,by decide +kernel⟩
theorem Hv{f:Addr}{fd:FuncData} (F:Fun K "__init__" "Tie.__init__" bX f fd):FnOk P w K mg base CX0 1 f fd ["self","one","two","strength"] (pT K):=by
 refine F.ok qL (fun vs H Q E h=>?_) (fun cdv A outer s H vs Q E hr h=>?_)
 ·obtain⟨p,C,dx,a,b,s,rfl,_⟩:=h
  rfl
 obtain⟨p,C,dx,a,b,st,rfl,hp,T,hne,ha,hb,hs,k⟩:=h
 refine⟨_,(ag (cT (aG rf (pv 1) (pv 2) (aM _)) (ao fe) aP)
   (ag (cT (PW.pt (t8 (aG E5 (pv 1) aj (aM _)) (tZ (aG E5 (pv 2) aj (aM _))))) (ao fe) aP)
   (ag (cT (aG E5 (pv 3) aj (aM _)) (ao fe) aP)
   (ag (lC (pv 0) (pv 1) rfl)
   (ag (lC (pv 0) (pv 2) rfl)
   (ao (lC (pv 0) (pv 3) rfl))))))),?_⟩
 walk_at "rd"
 refine ite2 (fun c=>absurd (V.int.inj (of_decide_eq_true c)) hne) (fun _=>?_)
 walk_at "rd"
 refine ite2 (fun c=>absurd (of_decide_eq_true c) (by omega)) (fun _=>?_)
 walk_at "rd"
 refine ite2 (fun c=>absurd (of_decide_eq_true c) (by omega)) (fun _=>?_)
 walk_at "rd"
 refine ite2 (fun c=>absurd (of_decide_eq_true c) (by omega)) (fun _=>?_)
 refine⟨_,rfl,_,rfl,p,C,dx,[],rfl,hp,T.cl,T.n1,(by show 0<1000;decide),?_⟩
 refine⟨_,rfl,_,rfl,p,C,dx,_,rfl,ae,T.cl,T.n2,f1_len a,?_⟩
 refine⟨_,rfl,_,rfl,p,C,dx,_,rfl,ae,T.cl,T.n3,f2_len a b,?_⟩
 exact k _ ae fun q o e hq=>by rw[ai hq,ai hq,ai hq];exact e
theorem w9:aC ["script","k"] ["script","k"] (ah dz):=⟨rfl,rfl,rfl,by decide +kernel,rfl,by decide +kernel,by decide +kernel⟩
theorem Hz{f:Addr}{fd:FuncData} (F:Fun K "_law_cell" "_law_cell" dz f fd) (T:Txt mg):FnOk P w K mg base CX0 1 f fd ["script","k"] (zJ K):=by
 refine F.ok w9 (fun vs H Q E h=>?_) (fun cdv A outer s H vs Q E hr h=>?_)
 ·obtain⟨a,k,ns,rfl,_⟩:=h
  rfl
 obtain⟨a,k,ns,rfl,hS,q⟩:=h
 refine⟨_,(ag (cT (aG E5 (pv 1) (aJ aL (by rfl) T.n_len gc (aa (pv 0) ak)) (aM _)) (ao (aK (bL bJ (pv 0) (pv 1) (fun _ _=>rfl)))) aP)
   (ao (aK aj))),?_⟩
 refine⟨_,rfl,_,rfl,a,_,rfl,.inl hS,_,_,rfl,rfl,_,rfl,?_⟩
 refine ite2 (fun c=>?_) (fun c=>?_)
 ·have c':(k:Int)<((ns.map V.int).length:Int):=of_decide_eq_true c
  rw[IJ]at c'
  have hk:k<ns.length:=by omega
  have hat:atI (ns.map V.int) (k:Int)=some (.int (sM ns k)):=bD (by rw[II,IB hk];unfold sM;rw[IT,IB hk];rfl)
  exact⟨_,rfl,_,rfl,a,_,_,_,rfl,rfl,hS,hat,q⟩
 ·have c':¬ (k:Int)<((ns.map V.int).length:Int):=fun z=>c (decide_eq_true z)
  rw[IJ]at c'
  have e:sM ns k=0:=by unfold sM;rw[IT,KY (by omega)];rfl
  rw[e]at q
  exact q
theorem at0{u v:V}:atI [u,v] 0=some u:=rfl
theorem at1{u v:V}:atI [u,v] 1=some v:=rfl
theorem x5{H:Hp}{a:Addr}{ps:List Nat}(h:SqL K H a (ps.map iV)):RdD K H (.ref a) (.list ((ps.map fun(p:Nat)=>((p:Nat):Int)).map PyData.int)):=by
 refine RdD.lst h (by simp) fun i x d e1 e2=>?_
 rw[II]at e1
 rw[II,II]at e2
 cases z:ps[i]? with
 |none=>rw[z]at e1;cases e1
 |some n =>
  rw[z]at e1 e2
  cases e1
  cases e2
  exact .int _
theorem DC(l:List Int):(PyData.list (l.map PyData.int)).canLay0=true/\(PyData.list (l.map PyData.int)).depth<=10:=by
 have h1:∀ d∈l.map PyData.int,d.canLay0=true/\d.depth<=1:=fun d hd=>by
  obtain⟨x,_,rfl⟩:=IY.mp hd
  exact⟨by simp[PyData.canLay0],by simp[PyData.depth]⟩
 have h2:=gO fun d hd=>(h1 d hd).1
 have h3:=jm fun d hd=>(h1 d hd).2
 exact⟨by simp only[PyData.canLay0];exact h2,by simp only[PyData.depth];omega⟩
theorem jj(l:List Int):SeqAt.shaped (.list (l.map PyData.int))=true:=nk fun d hd=>by
 obtain⟨x,_,rfl⟩:=IY.mp hd
 exact⟨by simp[PyData.canLay0],by simp[PyData.depth]⟩
theorem lT.snoc{H:Hp}{xs:List V}{es:En}{e:Nat×Nat}{p:Addr}(t:lT H xs es)(h:H p=some (.tup [iV e.1,iV e.2])):lT H (xs++[.ref p]) (es++[e]):=by
 refine⟨by rw[IF,IF,t.1];rfl,fun j k ej=>?_⟩
 by_cases hj:j<es.length
 ·rw[IH hj]at ej
  obtain⟨p,a1,a2⟩:=t.2 j k ej
  exact⟨p,by rw[IH (by rw[t.1];exact hj)];exact a1,a2⟩
 ·rw[IE (by omega)]at ej
  have hj2:j=es.length:=by
   have:=(IA.mp ej).1
   rw[IM]at this
   omega
  subst hj2
  rw[Je]at ej
  cases ej
  exact⟨p,by rw[← t.1,IE (IG _),Je];rfl,h⟩
theorem HR{l:List Nat}{k n:Nat}:(ins l k n).length=l.length+1:=by
 unfold ins
 rw[IF,Jm,Jg,JF]
 omega
theorem Gb(X:Int)(n:Nat):0<=X%((n:Int)+1)/\X%((n:Int)+1)<=(n:Int):=⟨KA _ (by omega),by have:=Mc X (show(0:Int)<(n:Int)+1 by omega);omega⟩
def Dist(xs:List V):Prop:=∀(i j:Nat)(p:Addr),xs[i]?=some (.ref p)->xs[j]?=some (.ref p)->i=j
theorem cp.set{S:Addr->Prop}{H:Hp}{xs:List V}{ts:List (List Nat)}{i:Nat}{p:Addr}{l':List Nat}(h:cp S H xs ts)(D:Dist xs)(e:xs[i]?=some (.ref p)):cp S (upd H p (.lst (l'.map iV))) xs (ts.set i l'):=by
 refine⟨by rw[JO];exact h.1,fun j l z=>?_⟩
 have hi:i<ts.length:=by rw[← h.1];exact(IA.mp e).1
 rw[JP]at z
 by_cases hj:i=j
 ·subst hj
  rw[if_pos rfl,if_pos hi]at z
  cases z
  obtain⟨p',a1,a2,a3⟩:=h.2 i _ (IB hi)
  rw[e]at a1
  cases a1
  exact⟨p,e,a2,ae⟩
 ·rw[if_neg hj]at z
  obtain⟨p',a1,a2,a3⟩:=h.2 j l z
  exact⟨p',a1,a2,by rw[ai (fun y=>by rw[y]at a1;exact hj (D i j p e a1))];exact a3⟩
theorem insV{l:List Nat}{k n:Nat}:(l.map iV).take k++V.int (n:Int)::(l.map iV).drop k=(ins l k n).map iV:=by
 unfold ins
 rw[Jr,Ju,List.map_take,List.map_drop]
 rfl
theorem Ci{H:Hp}{a:Addr}{xs:List V}{ts:List (List Nat)}(h:SqL K H a xs)(hR:ck H xs ts):RdD K H (.ref a) (.list (ts.map fun l=>PyData.list ((l.map fun(p:Nat)=>((p:Nat):Int)).map PyData.int))):=by
 refine RdD.lst h (by rw[IJ];exact hR.1) fun i x d e1 e2=>?_
 rw[II]at e2
 obtain⟨l,hl,rfl⟩:=Jd.mp e2
 obtain⟨p,a1,a2⟩:=hR.2 i l hl
 rw[e1]at a1
 cases a1
 exact x5 (SqL.of a2)
theorem xg(ts:List (List Nat)):SeqAt.shaped (.list (ts.map fun l=>PyData.list ((l.map fun(p:Nat)=>((p:Nat):Int)).map PyData.int)))=true:=nk fun d hd=>by
 obtain⟨l,_,rfl⟩:=IY.mp hd
 exact DC _
end
end K8
namespace K8
open PySem L2
local macro_rules | `(tactic| walk_at "cc") => `(tactic| first | exact ⟨by decide, by decide⟩ | (show (0 : Int) < _; decide) | (show (0 : Int) < _; omega) | (show (0 : Int) ≤ _; omega) | exact ⟨by decide, by decide, by decide⟩ | exact ⟨by omega, by omega, by decide⟩ | exact Or.inl ⟨by decide, by decide⟩ | exact Or.inl ⟨by omega, by omega⟩)
local macro_rules | `(tactic| walk_at "rd") => `(tactic| repeat (first | refine ⟨_, rfl, ?_⟩ | refine ⟨_, _, rfl, rfl, ?_⟩ | refine ⟨rfl, ?_⟩ | (refine ⟨?cc, ?_⟩; (case cc => walk_at "cc"))))
section
variable{P:Program}{w:World}{K:IC}{mg:Str->Option Value}{base:Heap}
end
end K8
namespace K8
open PySem L2
local macro_rules | `(tactic| walk_at "cc") => `(tactic| first | exact ⟨by decide, by decide⟩ | (show (0 : Int) < _; decide) | (show (0 : Int) < _; omega) | (show (0 : Int) ≤ _; omega) | exact ⟨by decide, by decide, by decide⟩ | exact ⟨by omega, by omega, by decide⟩ | exact Or.inl ⟨by decide, by decide⟩ | exact Or.inl ⟨by omega, by omega⟩)
local macro_rules | `(tactic| walk_at "rd") => `(tactic| repeat (first | refine ⟨_, rfl, ?_⟩ | refine ⟨_, _, rfl, rfl, ?_⟩ | refine ⟨rfl, ?_⟩ | (refine ⟨?cc, ?_⟩; (case cc => walk_at "cc"))))
def wI:Sp:=fun vs H Q _=>∃(c:Int)(m:Nat),vs = [.int c,.int (m:Int)]/\m<=100/\∀(q:Addr)(o:List Nat)(H':Hp),Same H H'->H q=none->H' q=some (.lst (o.map iV))->o.length=m->o.Nodup->(∀ x∈o,x<m)->Q (.ref q) H'
theorem vi{S:Addr->Prop}{H:Hp}{xs:List V}{ts:List (List Nat)}{q:Addr}(h:cp S H xs ts)(D:Dist xs)(hq:H q=none):Dist (xs++[.ref q]):=by
 have old:∀(j:Nat)(p:Addr),j<xs.length->(xs++[V.ref q])[j]?=some (.ref p)->xs[j]?=some (.ref p)/\p≠q:=fun j p hj e=>by
  rw[IH hj]at e
  obtain⟨p',a1,_,a3⟩:=h.2 j _ (IB (by rw[← h.1];exact hj))
  rw[e]at a1
  cases a1
  exact⟨e,ar a3 hq⟩
 have new:∀(j:Nat)(p:Addr),¬ j<xs.length->(xs++[V.ref q])[j]?=some (.ref p)->j=xs.length/\p=q:=fun j p hj e=>by
  have:=(IA.mp e).1
  rw[IF,IM]at this
  have hj2:j=xs.length:=by omega
  subst hj2
  rw[IE (IG _),Je]at e
  cases e
  exact⟨rfl,rfl⟩
 intro j k p e1 e2
 by_cases hj:j<xs.length
 ·obtain⟨u1,u2⟩:=old j p hj e1
  by_cases hk:k<xs.length
  ·exact D j k p u1 (old k p hk e2).1
  ·exact absurd (new k p hk e2).2 u2
 ·obtain⟨u1,u2⟩:=new j p hj e1
  by_cases hk:k<xs.length
  ·exact absurd u2 (old k p hk e2).2
  ·rw[u1,(new k p hk e2).1]
theorem gr_few{m:Nat}{es:En}{ts:List (List Nat)}(g:Gr m es ts):m<=es.length+2:=by
 obtain⟨rs,_,c⟩:=g.part
 omega
section
variable{P:Program}{w:World}{K:IC}{mg:Str->Option Value}{base:Heap}
theorem cR:aC ["cell","many","order","mixed","k"] ["cell","many"] (ah cB):=⟨rfl,rfl,rfl,by decide +kernel,rfl,by decide +kernel,by decide +kernel⟩
theorem Ff{f:Addr}{fd:FuncData} (F:Fun K "_law_order" "_law_order" cB f fd) (T:Txt mg):FnOk P w K mg base CX0 1 f fd ["cell","many"] wI:=by
 refine F.ok cR (fun vs H Q E h=>?_) (fun cdv A outer s H vs Q E hr h=>?_)
 ·obtain⟨c,m,rfl,_⟩:=h
  rfl
 obtain⟨c,m,rfl,hm,k⟩:=h
 refine⟨_,(ag (az (i:=2) cR.nd rfl (Or.inl rfl) (eS ak))
   (ag (az (i:=3) cR.nd rfl (Or.inl rfl) (aA cv (pv 0) aj))
   (ag (cu PassesOwn.never rfl (gh rfl T.n_range (aa (pv 1) ak)) (aH (i:=4) cR.nd rfl (Or.inl rfl)) (ag (az (i:=3) cR.nd rfl (Or.inl rfl) (aA cv (aA pX (pv 3) aj) aj))
   (ao (bp (i0 Jt PySem.F.slot_list_insert PySem.F.type_list_insert C2 (pv 2) (aa (aA cv (pv 3) (aA cU (pv 4) aj)) (aa (pv 4) ak)))))))
   (ao (aK (pv 2)))))),?_⟩
 refine⟨(by show 0<=sizeLine;decide),fun q hq=>?_⟩
 refine⟨_,rfl,_,_,rfl,rfl,(by show(0:Int)<1000000007;decide),?_⟩
 refine⟨_,rfl,_,rfl,by omega,by omega,jS (n:=(m:Int).toNat) (fun i σ H2=>∃(M:Int),∃ v4 o,σ = [some (.int c),some (.int (m:Int)),some (.ref q),some (.int M),v4]/\Same H H2/\H2 q=some (.lst (o.map iV))/\o.length=i/\o.Nodup/\∀ x∈o,x<i) ⟨_,_,[],rfl,aq hq _,ae,rfl,K5,fun x hx=>nomatch hx⟩ ?_ ?_⟩
 ·rintro i σ H2 hi ⟨M,v4,o,rfl,s2,hq2,ol,nd,lt⟩
  rw[JB]at hi
  have e0:(0:Int)+(i:Int)=(i:Int):=Km _
  rw[e0]
  have hlen:(o.map iV).length=i:=by rw[IJ];exact ol
  refine⟨_,rfl,_,_,rfl,rfl,.inr ⟨by decide,by decide⟩,_,_,rfl,rfl,(by show(0:Int)<2147483647;decide),?_⟩
  refine⟨_,rfl,.inl ⟨rfl,_,SqL.of hq2⟩,_,rfl,_,rfl,_,_,rfl,rfl,_,_,rfl,rfl,(by show(0:Int)<(i:Int)+1;omega),_,rfl,q,_,_,_,rfl,rfl,hq2,(Gb _ _).1,(by rw[hlen];exact(Gb _ _).2),aB (by omega),?_⟩
  rw[insV]
  refine⟨_,_,_,rfl,bu s2 hq _,ae,by rw[HR,ol],DD nd fun z=>by have:=lt i z;omega,fun x hx=>?_⟩
  rcases yz.mp hx with z | z
  ·omega
  ·have:=lt x z;omega
 ·rintro σ H2 ⟨M,v4,o,rfl,s2,hq2,ol,nd,lt⟩
  rw[JB]at ol lt
  exact⟨_,rfl,k q o H2 s2 hq hq2 ol nd lt⟩
end
end K8
namespace K8
open PySem L2
local macro_rules | `(tactic| walk_at "cc") => `(tactic| first | exact ⟨by decide, by decide⟩ | (show (0 : Int) < _; decide) | (show (0 : Int) < _; omega) | (show (0 : Int) ≤ _; omega) | exact ⟨by decide, by decide, by decide⟩ | exact ⟨by omega, by omega, by decide⟩ | exact Or.inl ⟨by decide, by decide⟩ | exact Or.inl ⟨by omega, by omega⟩)
local macro_rules | `(tactic| walk_at "rd") => `(tactic| repeat (first | refine ⟨_, rfl, ?_⟩ | refine ⟨_, _, rfl, rfl, ?_⟩ | refine ⟨rfl, ?_⟩ | (refine ⟨?cc, ?_⟩; (case cc => walk_at "cc"))))
section
variable{P:Program}{w:World}{K:IC}{mg:Str->Option Value}{base:Heap}
end
end K8
namespace K8
open PySem L2
local macro_rules | `(tactic| walk_at "cc") => `(tactic| first | exact ⟨by decide, by decide⟩ | (show (0 : Int) < _; decide) | (show (0 : Int) < _; omega) | (show (0 : Int) ≤ _; omega) | exact ⟨by decide, by decide, by decide⟩ | exact ⟨by omega, by omega, by decide⟩ | exact Or.inl ⟨by decide, by decide⟩ | exact Or.inl ⟨by omega, by omega⟩)
local macro_rules | `(tactic| walk_at "rd") => `(tactic| repeat (first | refine ⟨_, rfl, ?_⟩ | refine ⟨_, _, rfl, rfl, ?_⟩ | refine ⟨rfl, ?_⟩ | (refine ⟨?cc, ?_⟩; (case cc => walk_at "cc"))))
abbrev Kn:=List (Int×Int)
theorem Gr.two{m:Nat}{es:En}{ts:List (List Nat)}(g:Gr m es ts)(h:0<es.length):2<=m:=by
 obtain⟨a,b,c⟩:=g.w.ends _ (ID (IB h))
 omega
section
variable{P:Program}{w:World}{K:IC}{mg:Str->Option Value}{base:Heap}
theorem at30{u v x:V}:atI [u,v,x] 0=some u:=rfl
theorem at31{u v x:V}:atI [u,v,x] 1=some v:=rfl
theorem at32{u v x:V}:atI [u,v,x] 2=some x:=rfl
end
end K8
namespace K8
open PySem L2
local macro_rules | `(tactic| walk_at "cc") => `(tactic| first | exact ⟨by decide, by decide⟩ | (show (0 : Int) < _; decide) | (show (0 : Int) < _; omega) | (show (0 : Int) ≤ _; omega) | exact ⟨by decide, by decide, by decide⟩ | exact ⟨by omega, by omega, by decide⟩ | exact Or.inl ⟨by decide, by decide⟩ | exact Or.inl ⟨by omega, by omega⟩)
local macro_rules | `(tactic| walk_at "rd") => `(tactic| repeat (first | refine ⟨_, rfl, ?_⟩ | refine ⟨_, _, rfl, rfl, ?_⟩ | refine ⟨rfl, ?_⟩ | (refine ⟨?cc, ?_⟩; (case cc => walk_at "cc"))))
theorem andN(a b:Nat):Builtin.bitAnd (a:Int) (b:Int)=((a&&&b:Nat):Int):=by
 rw[PyProof.Rows.bitAnd_pp (Mb _) (Mb _),JB,JB]
theorem orN(a b:Nat):Builtin.bitOr (a:Int) (b:Int)=((a|||b:Nat):Int):=by
 rw[PyProof.Rows.bitOr_and,andN]
 have q:=PyProof.Rows.nat_or_add_and a b
 omega
theorem shlN(p:Nat):(1:Int)*2^((p:Nat):Int).toNat=((2^p:Nat):Int):=by
 rw[Int.one_mul,JB,Int.natCast_pow]
 rfl
theorem EG{M p q:Nat}:(M&&&(2^p|||2^q)=0↔M.testBit p=false/\M.testBit q=false)/\(M|||(2^p|||2^q)=M->M.testBit p=true/\M.testBit q=true):=by
 have b1:∀ i,(2^p|||2^q).testBit i=(decide (p=i)||decide (q=i)):=fun i=>by rw[JZ,JE,JE]
 refine⟨⟨fun h=>?_,fun⟨h1,h2⟩=>?_⟩,fun h=>?_⟩
 ·have h1:=congrArg (fun z=>Mr z p) h
  have h2:=congrArg (fun z=>Mr z q) h
  simp only[Kv,b1,Ki]at h1 h2
  constructor
  ·simpa using h1
  ·simpa using h2
 ·refine Kl fun i=>?_
  rw[Kv,b1,Ki]
  by_cases z1:p=i
  ·subst z1;rw[h1];rfl
  ·by_cases z2:q=i
   ·subst z2;rw[h2];rfl
   ·simp[z1,z2]
 ·have h1:=congrArg (fun z=>Mr z p) h
  have h2:=congrArg (fun z=>Mr z q) h
  simp only[JZ (x:=M),b1]at h1 h2
  constructor
  ·simpa using h1.symm
  ·simpa using h2.symm
theorem DO{M m:Nat}(h:M<2^m)(k:∀ p,p<m->M.testBit p=true):M=2^m-1:=by
 refine Kl fun i=>?_
 rw[Nat.testBit_two_pow_sub_one]
 by_cases z:i<m
 ·rw[k i z,decide_eq_true z]
 ·rw[decide_eq_false z]
  exact Lg (Jp h (Lp (by decide) (by omega)))
def wF(K:IC):Sp:=fun vs H Q _=>∃(a:Addr)(ys:List V)(m:Nat)(es:En)(ts:List (List Nat)),vs = [.int 0,.ref a]/\SqL K H a ys/\lT H ys es/\Gr m es ts/\2<=m/\m<=40/\Q (.int ((2^m-1:Nat):Int)) H
section
variable{P:Program}{w:World}{K:IC}{mg:Str->Option Value}{base:Heap}
theorem bQ:aC ["start","pairs","mask","ahead","one","two","ends"] ["start","pairs"] (ah eQ):=⟨rfl,rfl,rfl,by decide +kernel,rfl,by decide +kernel,by decide +kernel⟩
theorem AG{f:Addr}{fd:FuncData} (F:Fun K "reached" "reached" eQ f fd):FnOk P w K mg base CX0 1 f fd ["start","pairs"] (wF K):=by
 refine F.ok bQ (fun vs H Q E h=>?_) (fun cdv A outer s H vs Q E hr h=>?_)
 ·obtain⟨a,ys,m,es,ts,rfl,_⟩:=h
  rfl
 obtain⟨a,ys,m,es,ts,rfl,hS,hE,g,m2,m40,kk⟩:=h
 refine⟨_,(ag (az (i:=2) bQ.nd rfl (Or.inl rfl) (aA jI aj (pv 0)))
   (ag (az (i:=3) bQ.nd rfl (Or.inl rfl) aj)
   (ag (zL PassesOwn.never (aG ra (pv 2) (pv 3) (aM _)) (ag (az (i:=3) bQ.nd rfl (Or.inl rfl) (pv 2))
   (ao (cu PassesOwn.never rfl (bx (pv 1)) (nC rfl (bq (aH (i:=4) bQ.nd rfl (Or.inl rfl)) (bq (aH (i:=5) bQ.nd rfl (Or.inl rfl)) iZ))) (ag (az (i:=6) bQ.nd rfl (Or.inl rfl) (aA xD (aA jI aj (pv 4)) (aA jI aj (pv 5))))
   (ao (cT (aG ra (aA pY (pv 2) (pv 6)) aj (aM _)) (ao (az (i:=2) bQ.nd rfl (Or.inl rfl) (aA xD (pv 2) (pv 6)))) aP)))))))
   (ao (aK (pv 2)))))),?_⟩
 refine⟨_,rfl,_,_,rfl,rfl,⟨by decide,by decide,by decide⟩,?_⟩
 have p2:∀ p,p<m->2^p<2^m:=fun p hp=>Nat.pow_lt_pow_right (by decide) hp
 refine zB (fun σ H2=>∃(M Ah:Nat),∃ v4 v5 v6,H2=H/\σ = [some (.int 0),some (.ref a),some (.int (M:Int)),some (.int (Ah:Int)),v4,v5,v6]/\M.testBit 0=true/\M<2^m/\(M=Ah->∀ e∈es,M.testBit e.1=M.testBit e.2))
  (fun σ _=>match σ with | [_,_,some (.int M),some (.int Ah),_,_,_]=>2*((2^m:Nat)-M).toNat+(if M=Ah then 0 else 1) | _=>0) ⟨1,0,_,_,_,rfl,rfl,by decide,Nat.one_lt_two_pow (by omega),fun z=>absurd z (by decide)⟩ ?_ ?_
 ·rintro σ H2 ⟨M,Ah,v4,v5,v6,rfl,rfl,b0,hM,cl⟩
  refine⟨_,rfl,_,rfl,rfl,_,rfl,?_⟩
  refine ite2 (fun c=>?_) (fun c=>?_)
  ·have c':M≠Ah:=fun z=>by
    rw[decide_eq_true (show V.int (M:Int)=V.int (Ah:Int) by rw[z])]at c
    cases c
   refine⟨_,rfl,?_⟩
   refine⟨_,rfl,a,rfl,⟨_,hS⟩,cO (K:=K) (xs:=ys) (fun i σ H3=>∃(M':Nat),∃ v4 v5 v6,H3=H2/\σ = [some (.int 0),some (.ref a),some (.int (M':Int)),some (.int (M:Int)),v4,v5,v6]/\M'.testBit 0=true/\M'<2^m/\M<=M'/\(M'=M->∀(j:Nat)(e:Nat×Nat),j<i->es[j]?=some e->M.testBit e.1=M.testBit e.2)) ⟨M,_,_,_,rfl,rfl,b0,hM,IG _,fun _ j e z=>absurd z (Ms _)⟩ (fun i σ H3 _ ⟨_,_,_,_,z,_⟩=>z▸hS) ?_ ?_⟩
   ·rintro i x σ H3 hx ⟨M',v4,v5,v6,rfl,rfl,b0',hM',hle,cl'⟩
    have hi:i<es.length:=by rw[← hE.1];exact(IA.mp hx).1
    obtain⟨e,he⟩:∃ e,es[i]?=some e:=⟨_,IB hi⟩
    obtain⟨p,x1,x2⟩:=hE.2 i e he
    rw[hx]at x1
    cases x1
    obtain⟨e1,e2,_⟩:=g.w.ends e (ID he)
    obtain⟨t1,t2⟩:=EG (M:=M') (p:=e.1) (q:=e.2)
    refine⟨p,_,rfl,SqT.of x2,rfl,_,_,rfl,_,_,rfl,rfl,?_⟩
    refine⟨_,rfl,_,_,rfl,rfl,⟨by omega,by omega,by decide⟩,_,rfl,_,_,rfl,rfl,⟨by omega,by omega,by decide⟩,_,_,rfl,rfl,?_⟩
    have eo:Builtin.bitOr (1*2^((e.1:Nat):Int).toNat) (1*2^((e.2:Nat):Int).toNat)=((2^e.1|||2^e.2:Nat):Int):=by rw[shlN,shlN,orN]
    refine⟨_,rfl,_,rfl,_,_,rfl,rfl,rfl,_,rfl,?_⟩
    have step:∀ M'':Nat,M'<=M''->(M''=M'->M'.testBit e.1=M'.testBit e.2)->M''=M->∀(j:Nat)(x:Nat×Nat),j<i+1->es[j]?=some x->M.testBit x.1=M.testBit x.2:=fun M'' h1 h2 h3 j x hj hx'=>by
     have e3:M'=M:=by omega
     by_cases z:j=i
     ·subst z
      rw[he]at hx'
      cases hx'
      have:=h2 (by omega)
      rwa[e3]at this
     ·exact cl' e3 j x (by omega) hx'
    refine ite2 (fun c=>?_) (fun c=>?_)
    ·refine⟨_,rfl,_,rfl,_,_,rfl,rfl,?_⟩
     refine⟨M'|||(2^e.1|||2^e.2),some (iV e.1),some (iV e.2),some (V.int (Builtin.bitOr (1*2^((e.1:Nat):Int).toNat) (1*2^((e.2:Nat):Int).toNat))),rfl,?_,?_,Nat.or_lt_two_pow hM' (Nat.or_lt_two_pow (p2 _ e1) (p2 _ e2)),JG hle Nat.left_le_or,step _ Nat.left_le_or fun z=>?_⟩
     ·show[some (V.int 0),some (V.ref a),some (V.int (Builtin.bitOr (M':Int) (Builtin.bitOr (1*2^((e.1:Nat):Int).toNat) (1*2^((e.2:Nat):Int).toNat)))),some (V.int (M:Int)),some (iV e.1),some (iV e.2),some (V.int (Builtin.bitOr (1*2^((e.1:Nat):Int).toNat) (1*2^((e.2:Nat):Int).toNat)))]=_
      rw[eo,orN]
     ·rw[JZ,b0'];rfl
     ·obtain⟨u1,u2⟩:=t2 z
      rw[u1,u2]
    ·refine⟨M',_,_,_,rfl,rfl,b0',hM',hle,step M' (IG _) fun _=>?_⟩
     have c3:M'&&&(2^e.1|||2^e.2)=0:=by
      by_cases z:M'&&&(2^e.1|||2^e.2)=0
      ·exact z
      ·refine absurd ?_ c
       rw[decide_eq_false (fun y=>z ?_)]
       ·rfl
       ·have y':=V.int.inj y
        rw[eo,andN]at y'
        omega
     obtain⟨u1,u2⟩:=t1.mp c3
     rw[u1,u2]
   ·rintro σ H3 ⟨M',v4,v5,v6,rfl,rfl,b0',hM',hle,cl'⟩
    rw[hE.1]at cl'
    refine⟨⟨M',M,_,_,_,rfl,rfl,b0',hM',fun z e he=>?_⟩,?_⟩
    ·obtain⟨j,hj⟩:=JU.mp he
     have:=cl' z j e (IA.mp hj).1 hj
     rw[z]
     exact this
    ·show 2*(((2^m:Nat):Int)-(M':Int)).toNat+(if(M':Int)=(M:Int) then 0 else 1)<2*(((2^m:Nat):Int)-(M:Int)).toNat+(if(M:Int)=(Ah:Int) then 0 else 1)
     rw[if_neg (show ¬ (M:Int)=(Ah:Int) from fun z=>c' (by omega))]
     have hMi:(M':Int)<((2^m:Nat):Int):=by exact_mod_cast hM'
     have hMj:(M:Int)<=(M':Int):=by omega
     generalize ((2^m:Nat):Int)=Z at hMi ⊢
     split<;>omega
  ·have c':M=Ah:=by
    by_cases z:M=Ah
    ·exact z
    ·exact absurd (by rw[decide_eq_false (fun y=>z (by have:=V.int.inj y;omega))];rfl) c
   have full:=DO hM fun p hp=>by
    have:=g.conn (fun x=>M.testBit x=true) (fun e he=>by rw[cl c' e he]) 0 p (by omega) hp b0
    exact this
   refine⟨_,rfl,?_⟩
   rw[full]
   exact kk
 ·rintro σ H2 Q1 Q2 hi ⟨v',e,b',e2,z1,c',e3,q'⟩
  exact⟨v',e,b',e2,z1,c',e3,hi _ _ q'⟩
end
end K8
namespace K8
open PySem L2
local macro_rules | `(tactic| walk_at "cc") => `(tactic| first | exact ⟨by decide, by decide⟩ | (show (0 : Int) < _; decide) | (show (0 : Int) < _; omega) | (show (0 : Int) ≤ _; omega) | exact ⟨by decide, by decide, by decide⟩ | exact ⟨by omega, by omega, by decide⟩ | exact Or.inl ⟨by decide, by decide⟩ | exact Or.inl ⟨by omega, by omega⟩)
local macro_rules | `(tactic| walk_at "rd") => `(tactic| repeat (first | refine ⟨_, rfl, ?_⟩ | refine ⟨_, _, rfl, rfl, ?_⟩ | refine ⟨rfl, ?_⟩ | (refine ⟨?cc, ?_⟩; (case cc => walk_at "cc"))))
theorem kh:∀{a b:List Int},a.Perm b->a.Pairwise (·<=·)->b.Pairwise (·<=·)->a=b
 |[],b,h,_,_=>(List.nil_perm.mp h).symm▸rfl
 |x::a,[],h,_,_=>absurd h.length_eq (by simp)
 |x::a,y::b,h,pa,pb=>by
  obtain⟨a1,a2⟩:=L8.mp pa
  obtain⟨b1,b2⟩:=L8.mp pb
  have h1:x<=y:=by
   rcases IL.mp (h.mem_iff.mpr (Jc ..):y∈x::a)with z | z
   ·rw[z];exact Kk _
   ·exact a1 y z
  have h2:y<=x:=by
   rcases IL.mp (h.mem_iff.mp (Jc ..):x∈y::b)with z | z
   ·rw[z];exact Kk _
   ·exact b1 x z
  have e:x=y:=Int.le_antisymm h1 h2
  subst e
  rw[kh (List.Perm.cons_inv h) a2 b2]
def cI(l:List Nat):List Int:=l.map fun(p:Nat)=>((p:Nat):Int)
theorem cI_V(l:List Nat):(cI l).map V.int=l.map iV:=by unfold cI;rw[KD];rfl
theorem G5{l r:List Nat}{out:List Int}(hp:out.Perm (cI l))(hs:out.Pairwise (·<=·))(nl:l.Nodup)(pr:r.Pairwise (· < ·))(hm:∀ t,t∈l↔t∈r):out=cI r:=by
 have nr:r.Nodup:=pr.imp fun h=>Jf h
 have q:(cI l).Perm (cI r):=((Kd nl nr).mpr hm).map _
 refine kh (hp.trans q) hs ?_
 unfold cI
 exact LI.map _ (fun a b h=>by omega) pr
theorem DE{l:List Nat}{n:Nat}:ins l l.length n=l++[n]:=by
 unfold ins
 rw[Jy,List.drop_length]
def wH(K:IC):Sp:=fun vs H Q _=>∃(a:Addr)(xs:List V)(m:Nat)(es:En),vs = [.int (m:Int),.ref a]/\SqL K H a xs/\c9 K H xs es/\(∀ e∈es,e.1<m/\e.2<m)/\Q .non H
def qD(K:IC):Sp:=fun vs H Q _=>∃(a b:Addr)(xs zs:List V)(m:Nat)(es:En)(ts:List (List Nat)),vs = [.int (m:Int),.ref a,.ref b]/\SqL K H a xs/\c9 K H xs es/\SqL K H b zs/\ck H zs ts/\bh m es ts/\es.length<=39/\m<=40/\∀ H',Same H H'->Q .non H'
def wG(K:IC):Sp:=fun vs H Q _=>∃(a:Addr)(xs:List V)(m:Nat)(es:En)(ts:List (List Nat)),vs = [.int (m:Int),.ref a]/\SqL K H a xs/\c9 K H xs es/\Gr m es ts/\2<=m/\m<=40/\es.length<=39/\∀ H',Same H H'->Q .non H'
section
variable{P:Program}{w:World}{K:IC}{mg:Str->Option Value}{base:Heap}
theorem iP:aC ["many","ties","tie"] ["many","ties"] (ah bG):=⟨rfl,rfl,rfl,by decide +kernel,rfl,by decide +kernel,by decide +kernel⟩
theorem Fe{f:Addr}{fd:FuncData} (F:Fun K "refuse_ends" "refuse_ends" bG f fd):FnOk P w K mg base CX0 1 f fd ["many","ties"] (wH K):=by
 refine F.ok iP (fun vs H Q E h=>?_) (fun cdv A outer s H vs Q E hr h=>?_)
 ·obtain⟨a,xs,m,es,rfl,_⟩:=h
  rfl
 obtain⟨a,xs,m,es,rfl,hS,hT,hm,k⟩:=h
 refine⟨_,(ao (cu PassesOwn.never rfl (bx (pv 1)) (aH (i:=2) iP.nd rfl (Or.inl rfl)) (ao (cT (PW.pt (t8 (aG op_ge (b5 (pv 2) rfl) (pv 0) (aM _)) (tZ (aG op_ge (b5 (pv 2) rfl) (pv 0) (aM _))))) (ao fe) aP)))),?_⟩
 refine⟨_,rfl,a,rfl,⟨_,hS⟩,cO (K:=K) (xs:=xs) (fun i σ H2=>∃ v2,σ = [some (.int (m:Int)),some (.ref a),v2]/\H2=H) ⟨_,rfl,rfl⟩ (fun i σ H2 _ ⟨_,_,z⟩=>z▸hS) ?_ ?_⟩
 ·rintro i x σ H2 hx ⟨v2,rfl,rfl⟩
  have hi:i<es.length:=by rw[← hT.1];exact(IA.mp hx).1
  obtain⟨e,he⟩:∃ e,es[i]?=some e:=⟨_,IB hi⟩
  obtain⟨p,C,dx,st,x1,x2,x3⟩:=hT.2 i e he
  rw[hx]at x1
  cases x1
  obtain⟨e1,e2⟩:=hm e (ID he)
  refine⟨_,rfl,p,C,dx,_,_,rfl,x2,x3.cl,x3.n1,jD _ _ _,_,rfl,_,_,rfl,rfl,_,rfl,?_⟩
  refine ite2 (fun c=>absurd (of_decide_eq_true c) (by omega)) (fun _=>?_)
  refine⟨_,rfl,p,C,dx,_,_,rfl,x2,x3.cl,x3.n2,ng _ _ _,_,rfl,_,_,rfl,rfl,_,rfl,?_⟩
  refine ite2 (fun c=>absurd (of_decide_eq_true c) (by omega)) (fun _=>?_)
  exact⟨_,rfl,rfl⟩
 ·rintro σ H2 ⟨v2,rfl,rfl⟩
  exact k
theorem b4:aC ["many","ties","turns","ending","number","tie"] ["many","ties","turns"] (ah br):=⟨rfl,rfl,rfl,by decide +kernel,rfl,by decide +kernel,by decide +kernel⟩
theorem CP{f:Addr}{fd:FuncData} (F:Fun K "refuse_turns" "refuse_turns" br f fd) (T:Txt mg):FnOk P w K mg base CX0 1 f fd ["many","ties","turns"] (qD K):=by
 refine F.ok b4 (fun vs H Q E h=>?_) (fun cdv A outer s H vs Q E hr h=>?_)
 ·obtain⟨a,b,xs,zs,m,es,ts,rfl,_⟩:=h
  rfl
 obtain⟨a,b,xs,zs,m,es,ts,rfl,hS,hT,hB,hR,w',few,m40,kk⟩:=h
 have hu64:=hr.units
 refine⟨_,(ag (AB (i:=3) rfl b4.nd rfl rfl (fr:=[]) (by exact cW.plain (by rfl) (by decide +kernel) (by rfl) (by decide +kernel) (by rfl) (by decide +kernel)) (gh rfl T.n_range (aa (pv 0) ak)) (fun C ex s H=>(eS ak)))
   (ag (cu PassesOwn.never rfl (CB rfl T.n_enumerate (aa (pv 1) ak)) (nC rfl (bq (aH (i:=4) b4.nd rfl (Or.inl rfl)) (bq (aH (i:=5) b4.nd rfl (Or.inl rfl)) iZ))) (ag (bp (i0 Jt Jw Jv bg (bL bJ (pv 3) (b5 (pv 5) rfl) (fun _ _=>rfl)) (aa (pv 4) ak)))
   (ao (bp (i0 Jt Jw Jv bg (bL bJ (pv 3) (b5 (pv 5) rfl) (fun _ _=>rfl)) (aa (pv 4) ak))))))
   (ao (cT (aG (F8 hu64) (ki rfl (fr:=[]) (by exact cW.plain (by rfl) (by decide +kernel) (by rfl) (by decide +kernel) (by rfl) (by decide +kernel)) (bx (pv 2)) (fun C ex s H=>(aJ (vJ (K:=K) rfl) (by rfl) T.n_sorted oF (aa (pv 0) ak)))) (pv 3) (aM _)) (ao fe) aP)))),?_⟩
 refine⟨_,rfl,_,rfl,by omega,by omega,qa (n:=(m:Int).toNat) (fun i ys H2=>Same H H2/\cp (fun p=>H p≠none) H2 ys (K4 i [])/\Dist ys) (by rw[JB];exact JY (aB (by omega))) ⟨fun _ _ e=>e,⟨rfl,fun i l e=>by simp at e⟩,fun i j p e=>by simp at e⟩ ?_ ?_⟩
 ·rintro i ys H2 hi ⟨s2,rx,D⟩
  refine⟨(by show 0<=sizeLine;decide),fun l hl=>?_⟩
  have s3:=aq hl (.lst [])
  refine⟨s2.trans s3,?_,vi rx D hl⟩
  rw[List.replicate_succ']
  refine(rx.mono fun b u _ z=>s3 _ _ z).snoc (fun z=>z ?_) ae
  cases y:H l with
  |none=>rfl
  |some o=>rw[s2 _ _ y]at hl;cases hl
 rintro ys H2 hyl ⟨s2,rx,D⟩ pn hpn
 rw[JB]at rx
 have s3:=aq hpn (.lst ys)
 have hpn0:H pn=none:=by
  cases y:H pn with
  |none=>rfl
  |some o=>rw[s2 _ _ y]at hpn;cases hpn
 have rx3:cp (fun p=>p=pn∨H p≠none) (upd H2 pn (.lst ys)) ys (K4 m []):=⟨rx.1,fun i l z=>by
  obtain⟨p,a1,a2,a3⟩:=rx.2 i l z
  have n2:p≠pn:=ar a3 hpn
  exact⟨p,a1,by rintro(y | y);exact n2 y;exact a2 y,s3 _ _ a3⟩⟩
 refine⟨_,rfl,a,rfl,⟨_,(s2.trans s3).seq hS⟩,Ad (K:=K) (xs:=xs) (fun i σ H5=>∃ v4 v5 rows,σ = [some (.int (m:Int)),some (.ref a),some (.ref b),some (.ref pn),v4,v5]/\Same H H5/\H5 pn=some (.lst ys)/\cp (fun p=>p=pn∨H p≠none) H5 ys rows/\bh m (es.take i) rows/\∀ r∈rows,r.Pairwise (· < ·))
  ⟨_,_,_,rfl,s2.trans s3,ae,rx3,EH m,fun r hr=>by rw[(List.mem_replicate.mp hr).2];exact Mg⟩ (fun i σ H5 _ ⟨_,_,_,_,z,_⟩=>z.seq hS) ?_ ?_⟩
 ·rintro i x σ H5 T2 hx ⟨v4,v5,rows,rfl,s5,hpn5,rx5,w5,pw⟩ hT2
  have hi:i<es.length:=by rw[← hT.1];exact(IA.mp hx).1
  obtain⟨e,he⟩:∃ e,es[i]?=some e:=⟨_,IB hi⟩
  obtain⟨p,C,dx,st,x1,x2,x3⟩:=hT.2 i e he
  rw[hx]at x1
  cases x1
  have sT:=aq hT2 (.tup [.int (i:Int),.ref p])
  have s6:=s5.trans sT
  have x6:=s6 _ _ x2
  obtain⟨e1,e2,e3⟩:=w'.ends e (ID he)
  have til:(es.take i).length=i:=by rw[Jg];omega
  have rlen:=w5.len
  obtain⟨l,hl⟩:∃ l,rows[e.1]?=some l:=⟨_,IB (by omega)⟩
  obtain⟨l',hl'⟩:∃ l,rows[e.2]?=some l:=⟨_,IB (by omega)⟩
  have rx6:cp (fun p=>p=pn∨H p≠none) (upd H5 T2 (.tup [.int (i:Int),.ref p])) ys rows:=rx5.mono fun b u _ z=>sT _ _ z
  obtain⟨p1,y1,y2,y3⟩:=rx6.2 _ _ hl
  obtain⟨p2,z1,z2,z3⟩:=rx6.2 _ _ hl'
  have no_S:∀{p:Addr},¬ (p=pn∨H p≠none)->H p=none/\p≠pn:=fun{p} n=>by
   refine⟨?_,fun z=>n (.inl z)⟩
   cases y:H p with
   |none=>rfl
   |some o=>exact absurd (.inr (by rw[y];exact fun z=>nomatch z)) n
  obtain⟨hp1,np1⟩:=no_S y2
  obtain⟨hp2,np2⟩:=no_S z2
  have n12:p2≠p1:=fun y=>by rw[y]at z1;exact e3 (D _ _ p1 y1 z1)
  have ll:∀{q:Nat}{r:List Nat},rows[q]?=some r->∀ t∈r,t<i:=fun{q r} h t ht=>by
   have:=nH w5 h ht
   omega
  have lle:∀{q:Nat}{r:List Nat},rows[q]?=some r->r.length<=39:=fun{q r} h=>by
   have:=gA (w5.nd _ _ h) (ll h)
   omega
  have f1:=lle hl
  have f2:=lle hl'
  have hpn6:=sT _ _ hpn5
  refine⟨T2,_,rfl,SqT.of ae,rfl,_,_,rfl,_,_,rfl,rfl,?_⟩
  refine⟨_,rfl,_,rfl,p,C,dx,_,_,rfl,x6,x3.cl,x3.n1,jD _ _ _,pn,ys,_,_,rfl,rfl,SqL.of hpn6,bD y1,.inl ⟨rfl,_,SqL.of y3⟩,_,rfl,p1,_,_,rfl,rfl,y3,aB (by rw[IJ];omega),?_⟩
  have e1':(l.map iV)++[V.int (i:Int)]=(l++[i]).map iV:=by rw[Jr];rfl
  rw[e1']
  have x7:(upd (upd H5 T2 (.tup [.int (i:Int),.ref p])) p1 (.lst ((l++[i]).map iV))) p=some (.ins C dx (tf (e.1:Int) (e.2:Int) st)):=by rw[ai (fun z=>by rw[z]at x2;rw[x2]at hp1;cases hp1)];exact x6
  have hpn7:(upd (upd H5 T2 (.tup [.int (i:Int),.ref p])) p1 (.lst ((l++[i]).map iV))) pn=some (.lst ys):=by rw[ai np1.symm];exact hpn6
  have z7:(upd (upd H5 T2 (.tup [.int (i:Int),.ref p])) p1 (.lst ((l++[i]).map iV))) p2=some (.lst (l'.map iV)):=by rw[ai n12];exact z3
  refine⟨_,rfl,_,rfl,p,C,dx,_,_,rfl,x7,x3.cl,x3.n2,ng _ _ _,pn,ys,_,_,rfl,rfl,SqL.of hpn7,bD z1,.inl ⟨rfl,_,SqL.of z7⟩,_,rfl,p2,_,_,rfl,rfl,z7,aB (by rw[IJ];omega),?_⟩
  have e2':(l'.map iV)++[V.int (i:Int)]=(l'++[i]).map iV:=by rw[Jr];rfl
  rw[e2']
  refine⟨_,_,(rows.set e.1 (l++[i])).set e.2 (l'++[i]),rfl,bu (bu s6 hp1 _) hp2 _,by rw[ai np2.symm];exact hpn7,(rx6.set D y1).set D z1,?_,fun r hr=>?_⟩
  ·have q:=w5.put (k:=l.length) (j:=l'.length) e1 e2 e3 hl hl'
   rw[DE,DE,til]at q
   rw[Jk,he]
   exact q
  ·have app:∀{q:Nat}{r:List Nat},rows[q]?=some r->(r++[i]).Pairwise (· < ·):=fun{q r} h=>JH.mpr ⟨pw r (ID h),Ld _ _,fun x hx y hy=>by
    have:=ll h x hx
    have:y=i:=by simpa using hy
    omega⟩
   rcases Ly hr with z | z
   ·rcases Ly z with z | z
    ·exact pw r z
    ·rw[z];exact app hl
   ·rw[z];exact app hl'
 rintro σ H5 ⟨v4,v5,rows,rfl,s5,hpn5,rx5,w5,pw⟩
 rw[hT.1,Jy]at w5
 have hzl:zs.length=m:=by rw[hR.1,w'.len]
 refine⟨_,rfl,b,rfl,⟨_,s5.seq hB⟩,gL (K:=K) (xs:=zs) (fun i vs H6=>Same H5 H6/\ck H6 vs (rows.take i)) (JY (aB (by omega))) ⟨fun _ _ e=>e,rfl,fun i l e=>by simp at e⟩ (fun i vs H6 _ z=>(s5.trans z.1).seq hB) ?_ ?_⟩
 ·rintro i x vs H6 hx ⟨s6,rz⟩
  have hi:i<ts.length:=by rw[← hR.1];exact(IA.mp hx).1
  obtain⟨l,hl⟩:∃ l,ts[i]?=some l:=⟨_,IB hi⟩
  obtain⟨r,hr'⟩:∃ r,rows[i]?=some r:=⟨_,IB (by rw[w5.len,← w'.len];exact hi)⟩
  obtain⟨p,a1,a2⟩:=(hR.mono (s5.trans s6)).2 i l hl
  rw[hx]at a1
  cases a1
  have hll:l.length<=39:=JG (gA (w'.nd _ _ hl) fun t ht=>nH w' hl ht) few
  refine⟨_,rfl,p,cI l,rfl,(by rw[cI_V];exact SqL.of a2),(by unfold cI;rw[IJ];omega),fun q out hq hp hs=>?_⟩
  have eo:=G5 hp hs (w'.nd _ _ hl) (pw r (ID hr')) fun t=>(w'.mem i l hl t).trans (w5.mem i r hr' t).symm
  subst eo
  have s7:=aq hq (.lst ((cI r).map V.int))
  refine⟨s6.trans s7,?_⟩
  rw[show rows.take (i+1)=rows.take i++[r] by rw[Jk,hr'];rfl]
  exact(rz.mono s7).snoc (by rw[ae,cI_V])
 rintro vs H6 _ ⟨s6,rz⟩ D' hD'
 rw[hzl,← w5.len,Jy]at rz
 have s7:=aq hD' (.lst vs)
 have s67:=s6.trans s7
 refine⟨_,rfl,_,Ci (SqL.of ae) (rz.mono s7),Ci (SqL.of (s67 _ _ hpn5)) (rx5.off.mono s67),xg rows,_,rfl,iteF ?_⟩
 exact kk _ (s5.trans s67)
theorem lX:aC ["many","ties"] ["many","ties"] (ah a9):=⟨rfl,rfl,rfl,by decide +kernel,rfl,by decide +kernel,by decide +kernel⟩
theorem Fd{f fr:Addr}{fd fdr:FuncData} (F:Fun K "refuse_parted" "refuse_parted" a9 f fd) (G_reached:Cal P w K mg base 1 "reached" ["start","pairs"] (wF K) fr fdr):FnOk P w K mg base CX0 2 f fd ["many","ties"] (wG K):=by
 refine F.ok lX (fun vs H Q E h=>?_) (fun cdv A outer s H vs Q E hr h=>?_)
 ·obtain⟨a,xs,m,es,ts,rfl,_⟩:=h
  rfl
 obtain⟨a,xs,m,es,ts,rfl,hS,hT,g,m2,m40,few,kk⟩:=h
 have hul:xs.length=es.length:=hT.1
 refine⟨_,(ao (cT (aG ra (aI G_reached.ok (hr.mono (by decide)) rfl G_reached.mg G_reached.kp G_reached.bn .nil bt (aa aj (aa (ki rfl (fr:=[]) (by exact cW.plain (by rfl) (by decide +kernel) (by rfl) (by decide +kernel) (by rfl) (by decide +kernel)) (bx (pv 1)) (fun C ex s H=>(uk (aa (qW (K:=K) rfl (pv 0) rfl) (aa (qW (K:=K) rfl (pv 0) rfl) ak))))) ak))) (aA pW (aA jI aj (pv 0)) aj) (aM _)) (ao fe) aP)),?_⟩
 refine⟨_,rfl,a,rfl,⟨_,hS⟩,gL (K:=K) (xs:=xs) (fun i zs H11=>Same H H11/\lT H11 zs (es.take i)) (JY (aB (by omega))) ⟨fun _ _ e=>e,rfl,fun i l e=>by simp at e⟩ (fun i zs H11 _ z=>z.1.seq hS) ?_ ?_⟩
 ·rintro i x zs H11 hx ⟨s11,ez⟩
  have hi:i<es.length:=by rw[← hT.1];exact(IA.mp hx).1
  obtain⟨e,he⟩:∃ e,es[i]?=some e:=⟨_,IB hi⟩
  obtain⟨p,C,dx,st,a1,a2,a3⟩:=(hT.mono s11).2 i e he
  rw[hx]at a1
  cases a1
  refine⟨_,rfl,p,C,dx,_,_,rfl,a2,a3.cl,a3.n1,jD _ _ _,_,rfl,p,C,dx,_,_,rfl,a2,a3.cl,a3.n2,ng _ _ _,(by show 2<=sizeLine;decide),fun g hg=>?_⟩
  have s12:=aq hg (.tup [iV e.1,iV e.2])
  refine⟨s11.trans s12,?_⟩
  rw[show es.take (i+1)=es.take i++[e] by rw[Jk,he];rfl]
  exact(ez.mono s12).snoc ae
 rintro zs H11 _ ⟨s11,ez⟩ D hD
 rw[hT.1,Jy]at ez
 have s12:=aq hD (.lst zs)
 refine⟨D,zs,m,es,ts,rfl,SqL.of ae,ez.mono s12,g,m2,m40,_,rfl,_,_,rfl,rfl,⟨by omega,by omega,by decide⟩,_,_,rfl,rfl,rfl,_,rfl,?_⟩
 refine Dv ?_ (kk _ (s11.trans s12))
 show V.int _=V.int _
 rw[shlN]
 have:=Nat.two_pow_pos m
 congr 1
 omega
end
end K8
namespace K8
open PySem L2
local macro_rules | `(tactic| walk_at "cc") => `(tactic| first | exact ⟨by decide, by decide⟩ | (show (0 : Int) < _; decide) | (show (0 : Int) < _; omega) | (show (0 : Int) ≤ _; omega) | exact ⟨by decide, by decide, by decide⟩ | exact ⟨by omega, by omega, by decide⟩ | exact Or.inl ⟨by decide, by decide⟩ | exact Or.inl ⟨by omega, by omega⟩)
local macro_rules | `(tactic| walk_at "rd") => `(tactic| repeat (first | refine ⟨_, rfl, ?_⟩ | refine ⟨_, _, rfl, rfl, ?_⟩ | refine ⟨rfl, ?_⟩ | (refine ⟨?cc, ?_⟩; (case cc => walk_at "cc"))))
def cls(PL PS:Addr)(push:Bool):Addr:=if push=true then PS else PL
def oO(PL PS:Addr)(H:Hp)(xs:List V)(es:En)(ks:Kn):Prop:=xs.length=es.length/\∀(i:Nat)(e:Nat×Nat)(k:Int×Int),es[i]?=some e->ks[i]?=some k->∃ p dx,xs[i]?=some (.ref p)/\H p=some (.ins (cls PL PS (decide (k.1=1))) dx (tf (e.1:Int) (e.2:Int) k.2))
theorem oO.mono{PL PS:Addr}{H H':Hp}{xs:List V}{es:En}{ks:Kn}(t:oO PL PS H xs es ks)(h:Same H H'):oO PL PS H' xs es ks:=⟨t.1,fun i e k q r=>by
 obtain⟨p,dx,a,b⟩:=t.2 i e k q r
 exact⟨p,dx,a,h _ _ b⟩⟩
structure CW(K:IC)(C:Addr):Prop where
 cl:Cls K C
 n1:eG K C "many"
 n2:eG K C "ties"
 n3:eG K C "turns"
 n4:eG K C "rounds"
 n5:eG K C "sides"
theorem ic(k:Str)(v:V):∀ fs:List (Str×V),(putF k v fs).length<=fs.length+1
 |[]=>IG _
 | (a,b)::r=>by
  show(if a=k then(a,v)::r else(a,b)::putF k v r).length<=_
  have:=ic k v r
  split<;>simp only[Jm]<;>omega
theorem none_of{H H':Hp}{b:Addr}(s:Same H H')(z:H' b=none):H b=none:=by
 cases y:H b with
 |none=>rfl
 |some o=>rw[s _ _ y]at z;cases z
structure WebG(S:Addr->Prop)(H:Hp)(fs:List (Str×V))(m:Nat)(es:En)(ts rs:List (List Nat)):Prop where
 many:fs.lookup ("many" : Str)=some (.int (m:Int))
 turns:∃ q z,fs.lookup ("turns" : Str)=some (.ref q)/\¬ S q/\H q=some (.lst z)/\cp S H z ts
 rounds:∃ q z,fs.lookup ("rounds" : Str)=some (.ref q)/\H q=some (.lst z)/\ck H z rs
 sides:∃ q z,fs.lookup ("sides" : Str)=some (.ref q)/\H q=some (.lst z)/\lA H z es.length rs
 part:dX (fol es ts) (2*es.length) (2*es.length) rs
theorem lA.mono{H H':Hp}{z:List V}{n:Nat}{rs:List (List Nat)}(h:lA H z n rs)(s:Same H H'):lA H' z n rs:=⟨h.1,fun i hi=>by
 obtain⟨t,a,b,r,r',y1,y2,y3⟩:=h.2 i hi
 exact⟨t,a,b,r,r',y1,s _ _ y2,y3⟩⟩
theorem WebG.mono{S S':Addr->Prop}{H H':Hp}{fs:List (Str×V)}{m:Nat}{es:En}{ts rs:List (List Nat)}(h:WebG S H fs m es ts rs)(s:Same H H')(i:∀ a,S' a->S a):WebG S' H' fs m es ts rs:=by
 obtain⟨a,⟨q,z,b1,b0,b2,b3⟩,⟨q',z',c1,c2,c3⟩,⟨q2,z2,d1,d2,d3⟩,e⟩:=h
 refine⟨a,⟨q,z,b1,fun y=>b0 (i _ y),s _ _ b2,b3.1,fun j l y=>?_⟩,⟨q',z',c1,s _ _ c2,c3.mono s⟩,⟨q2,z2,d1,s _ _ d2,d3.mono s⟩,e⟩
 obtain⟨r,y1,y2,y3⟩:=b3.2 j l y
 exact⟨r,y1,fun x=>y2 (i _ x),s _ _ y3⟩
def qB(K:IC):Sp:=fun vs H Q _=>∃(p C dx qt qh:Addr)(m:Nat)(xs zs:List V)(es:En)(ts:List (List Nat)),vs = [.ref p,.int (m:Int),.ref qt,.ref qh]/\H p=some (.ins C dx [])/\CW K C/\H qt=some (.lst xs)/\c9 K H xs es/\H qh=some (.lst zs)/\ck H zs ts/\Gr m es ts/\0<es.length/\es.length<=39/\m<=40 /\
 ∀(fs:List (Str×V))(q1:Addr)(rs:List (List Nat))(H':Hp),H' p=some (.ins C dx fs)->WebG (fun a=>H a≠none) H' fs m es ts rs->H q1=none->fs.lookup ("ties" : Str)=some (.ref q1)->H' q1=some (.lst xs)->(∀ q o,H q=some o->q≠p->H' q=some o)->Q .non H'
theorem c9.keep{K:IC}{H G:Hp}{xs:List V}{es:En}{p C dx:Addr}(t:c9 K H xs es)(hp:H p=some (.ins C dx []))(k:∀ q u,q≠p->H q=some u->G q=some u):c9 K G xs es:=⟨t.1,fun i e z=>by
 obtain⟨q,C',dx',s,a,b,d⟩:=t.2 i e z
 refine⟨q,C',dx',s,a,k _ _ (fun z=>?_) b,d⟩
 rw[z,hp]at b
 have e1:([]:List (Str×V))=tf (e.1:Int) (e.2:Int) s:=by
  injection b with b
  injection b
 have e2:=jD (e.1:Int) (e.2:Int) s
 rw[← e1]at e2
 cases e2⟩
section
variable{P:Program}{w:World}{K:IC}{mg:Str->Option Value}{base:Heap}
theorem jG:aC ["self","many","ties","turns","rounds"] ["self","many","ties","turns"] (ah bW):=⟨rfl,rfl,rfl,by decide +kernel,rfl,by decide +kernel,by decide +kernel⟩
theorem E8{f f1 f2 f3 f4 f5:Addr}{fd d1 d2 d3 d4 d5:FuncData} (F:Fun K "__init__" "Web.__init__" bW f fd) (T:Txt mg) (G_refuse_ends:Cal P w K mg base 1 "refuse_ends" ["many","ties"] (wH K) f1 d1) (G_refuse_turns:Cal P w K mg base 1 "refuse_turns" ["many","ties","turns"] (qD K) f2 d2) (G_refuse_parted:Cal P w K mg base 2 "refuse_parted" ["many","ties"] (wG K) f3 d3) (G_rounds_of:Cal P w K mg base 4 "rounds_of" ["ties","turns"] (qC K) f4 d4) (G_sides_of:Cal P w K mg base 1 "sides_of" ["ties","rounds"] (wD K) f5 d5) :
  FnOk P w K mg base CX0 5 f fd ["self","many","ties","turns"] (qB K):=by
 refine F.ok jG (fun vs H Q E h=>?_) (fun cdv A outer s H vs Q E hr h=>?_)
 ·obtain⟨p,C,dx,qt,qh,m,xs,zs,es,ts,rfl,_⟩:=h
  rfl
 obtain⟨p,C,dx,qt,qh,m,xs,zs,es,ts,rfl,hp,cw,hqt,hT,hqh,hR,g,e0,few,m40,kk⟩:=h
 have w':=g.w
 have m2:=g.two e0
 have mf:=gr_few g
 have hul:xs.length=es.length:=hT.1
 have hzl:zs.length=m:=by rw[hR.1,w'.len]
 have pl:∀{q:Addr}{ys:List V},H q=some (.lst ys)->q≠p:=fun{q ys} h z=>by rw[z,hp]at h;cases h
 refine⟨_,(ag (bp (aI G_refuse_ends.ok (hr.mono (by decide)) rfl G_refuse_ends.mg G_refuse_ends.kp G_refuse_ends.bn .nil bt (aa (pv 1) (aa (pv 2) ak))))
   (ag (bp (aI G_refuse_turns.ok (hr.mono (by decide)) rfl G_refuse_turns.mg G_refuse_turns.kp G_refuse_turns.bn .nil bt (aa (pv 1) (aa (pv 2) (aa (pv 3) ak)))))
   (ag (bp (aI G_refuse_parted.ok (hr.mono (by decide)) rfl G_refuse_parted.mg G_refuse_parted.kp G_refuse_parted.bn .nil bt (aa (pv 1) (aa (pv 2) ak))))
   (ag (az (i:=4) jG.nd rfl (Or.inl rfl) (aI G_rounds_of.ok (hr.mono (by decide)) rfl G_rounds_of.mg G_rounds_of.kp G_rounds_of.bn .nil bt (aa (pv 2) (aa (pv 3) ak))))
   (ag (cT (aG ra (aA cU (aA pW (pv 1) (aJ aL (by rfl) T.n_len gc (aa (pv 2) ak))) (aJ aL (by rfl) T.n_len gc (aa (pv 4) ak))) aj (aM _)) (ao fe) aP)
   (ag (lC (pv 0) (pv 1) rfl)
   (ag (lC (pv 0) (gj eF (by rfl) T.n_list kZ (aa (pv 2) ak)) rfl)
   (ag (lC (pv 0) (ki rfl (fr:=[]) (by exact cW.plain (by rfl) (by decide +kernel) (by rfl) (by decide +kernel) (by rfl) (by decide +kernel)) (bx (pv 3)) (fun C ex s H=>(gj (Bo (K:=K) rfl) (by rfl) T.n_list kZ (aa (pv 0) ak)))) rfl)
   (ag (lC (pv 0) (pv 4) rfl)
   (ao (lC (pv 0) (aI G_sides_of.ok (hr.mono (by decide)) rfl G_sides_of.mg G_sides_of.kp G_sides_of.bn .nil bt (aa (pv 2) (aa (pv 4) ak))) rfl))))))))))),?_⟩
 refine⟨_,rfl,_,rfl,qt,xs,m,es,rfl,SqL.of hqt,hT,fun e he=>⟨(w'.ends e he).1,(w'.ends e he).2.1⟩,?_⟩
 refine⟨_,rfl,_,rfl,_,rfl,qt,qh,xs,zs,m,es,ts,rfl,SqL.of hqt,hT,SqL.of hqh,hR,w',few,by omega,fun H1 s1=>?_⟩
 refine⟨_,rfl,_,rfl,qt,xs,m,es,ts,rfl,SqL.of (s1 _ _ hqt),hT.mono s1,g,m2,by omega,few,fun H2 s2=>?_⟩
 have s12:=s1.trans s2
 refine⟨_,rfl,_,rfl,qt,qh,m,es,ts,rfl,⟨⟨xs,SqL.of (s12 _ _ hqt),hT.mono s12⟩,⟨zs,SqL.of (s12 _ _ hqh),hR.mono s12⟩,w',by omega⟩,fun qr vs rs H3 s3 hqr hrs ro=>?_⟩
 have s13:=s12.trans s3
 have cnt:m+rs.length=es.length+2:=by
  obtain⟨rs',p',c⟩:=g.part
  rw[← p'.same ro.part]
  exact c
 have hvl:vs.length=rs.length:=hrs.1
 refine⟨_,rfl,_,rfl,qt,xs,rfl,.inl (SqL.of (s13 _ _ hqt)),_,_,rfl,rfl,_,rfl,qr,vs,rfl,.inl (SqL.of hqr),_,_,rfl,rfl,rfl,_,rfl,?_⟩
 refine Dv (congrArg V.int (by omega)) ?_
 have hp3:=s13 _ _ hp
 refine⟨_,rfl,_,rfl,p,C,dx,[],rfl,hp3,cw.cl,cw.n1,(by show 0<1000;decide),?_⟩
 have keep:∀{G:Hp}{o:HO}{q:Addr}{u:HO},q≠p->G q=some u->(upd G p o) q=some u:=fun n z=>by rw[ai n];exact z
 refine⟨_,rfl,qt,xs,rfl,.inl (SqL.of (keep (pl hqt) (s13 _ _ hqt))),fun q1 hq1=>?_⟩
 have n1p:q1≠p:=fun z=>by rw[z,ae]at hq1;cases hq1
 have t4:=aq hq1 (.lst xs)
 refine⟨_,rfl,p,C,dx,_,rfl,t4 _ _ ae,cw.cl,cw.n2,?_,?_⟩
 ·have:=ic "many" (.int (m:Int)) ([]:List (Str×V));simp only[KW]at this;omega
 have t1:∀ q u,q≠p->H3 q=some u->(upd (upd (upd H3 p (.ins C dx (putF "many" (.int (m:Int)) []))) q1 (.lst xs)) p (.ins C dx (putF "ties" (.ref q1) (putF "many" (.int (m:Int)) [])))) q=some u:=fun q u n z=>keep n (t4 _ _ (keep n z))
 have q1a:(upd (upd (upd H3 p (.ins C dx (putF "many" (.int (m:Int)) []))) q1 (.lst xs)) p (.ins C dx (putF "ties" (.ref q1) (putF "many" (.int (m:Int)) [])))) q1=some (.lst xs):=keep n1p ae
 have pa:(upd (upd (upd H3 p (.ins C dx (putF "many" (.int (m:Int)) []))) q1 (.lst xs)) p (.ins C dx (putF "ties" (.ref q1) (putF "many" (.int (m:Int)) [])))) p=some (.ins C dx (putF "ties" (.ref q1) (putF "many" (.int (m:Int)) []))):=ae
 generalize upd (upd (upd H3 p (.ins C dx (putF "many" (.int (m:Int)) []))) q1 (.lst xs)) p (.ins C dx (putF "ties" (.ref q1) (putF "many" (.int (m:Int)) [])))=H4 at t1 q1a pa
 have lk:(putF "ties" (.ref q1) (putF "many" (.int (m:Int)) []):List (Str×V)).lookup ("ties" : Str)=some (.ref q1):=by rw[au,if_pos rfl]
 have ln:(putF "ties" (.ref q1) (putF "many" (.int (m:Int)) []):List (Str×V)).length<=2:=by
  have a1:=ic "many" (.int (m:Int)) ([]:List (Str×V))
  have a2:=ic "ties" (.ref q1) (putF "many" (.int (m:Int)) ([]:List (Str×V)))
  simp only[KW]at a1
  omega
 have lkm:(putF "ties" (.ref q1) (putF "many" (.int (m:Int)) []):List (Str×V)).lookup ("many" : Str)=some (.int (m:Int)):=by rw[au,if_neg (by decide +kernel),au,if_pos rfl]
 generalize (putF "ties" (.ref q1) (putF "many" (.int (m:Int)) []):List (Str×V))=fs at pa lk ln lkm
 have hqh4:=t1 _ _ (pl hqh) (s13 _ _ hqh)
 have new4:∀{b:Addr},H4 b=none->H b=none:=fun{b} z=>by
  cases y:H b with
  |none=>rfl
  |some o =>
   by_cases n:b=p
   ·rw[n,pa]at z;cases z
   ·rw[t1 _ _ n (s13 _ _ y)]at z;cases z
 have new1:H q1=none:=by
  cases y:H q1 with
  |none=>rfl
  |some o=>rw[keep n1p (s13 _ _ y)]at hq1;cases hq1
 refine⟨_,rfl,qh,rfl,⟨_,SqL.of hqh4⟩,gL (K:=K) (xs:=zs) (fun i ys H5=>Same H4 H5/\cp (fun a=>H a≠none) H5 ys (ts.take i)) (JY (aB (by omega))) ⟨fun _ _ e=>e,rfl,fun i l e=>by simp at e⟩ (fun i _ H5 _ z=>SqL.of (z.1 _ _ hqh4)) ?_ ?_⟩
 ·rintro i x ys H5 hx ⟨s5,rz⟩
  have hi:i<ts.length:=by rw[← hR.1];exact(IA.mp hx).1
  obtain⟨l,hl⟩:∃ l,ts[i]?=some l:=⟨_,IB hi⟩
  obtain⟨r,a1,a2⟩:=hR.2 i l hl
  rw[hx]at a1
  cases a1
  refine⟨_,rfl,r,_,rfl,.inl (SqL.of (s5 _ _ (t1 _ _ (pl a2) (s13 _ _ a2)))),fun g hg=>⟨s5.trans (aq hg _),?_⟩⟩
  rw[show ts.take (i+1)=ts.take i++[l] by rw[Jk,hl];rfl]
  exact(rz.mono fun b u _ z=>aq hg _ _ _ z).snoc (fun z=>z (new4 (none_of s5 hg))) ae
 rintro ys H5 _ ⟨s5,rz⟩ D hD
 rw[hR.1,Jy]at rz
 have hDp:D≠p:=fun z=>by rw[z,s5 _ _ pa]at hD;cases hD
 have s6:=s5.trans (aq hD (.lst ys))
 refine⟨_,rfl,p,C,dx,fs,rfl,s6 _ _ pa,cw.cl,cw.n3,by omega,?_⟩
 have ln1:=ic "turns" (.ref D) fs
 have lk1:(putF "turns" (.ref D) fs).lookup ("ties" : Str)=some (.ref q1):=by rw[au,if_neg (by decide +kernel)];exact lk
 refine⟨_,rfl,_,rfl,p,C,dx,_,rfl,ae,cw.cl,cw.n4,by omega,?_⟩
 have ln2:=ic "rounds" (.ref qr) (putF "turns" (.ref D) fs)
 have lk2:(putF "rounds" (.ref qr) (putF "turns" (.ref D) fs)).lookup ("ties" : Str)=some (.ref q1):=by rw[au,if_neg (by decide +kernel)];exact lk1
 have t7:∀ q u,q≠p->H3 q=some u->(upd (upd (upd H5 D (.lst ys)) p (.ins C dx (putF "turns" (.ref D) fs))) p (.ins C dx (putF "rounds" (.ref qr) (putF "turns" (.ref D) fs)))) q=some u:=fun q u n z=>keep n (keep n (s6 _ _ (t1 q u n z)))
 have q17:(upd (upd (upd H5 D (.lst ys)) p (.ins C dx (putF "turns" (.ref D) fs))) p (.ins C dx (putF "rounds" (.ref qr) (putF "turns" (.ref D) fs)))) q1=some (.lst xs):=keep n1p (keep n1p (s6 _ _ q1a))
 have p7:(upd (upd (upd H5 D (.lst ys)) p (.ins C dx (putF "turns" (.ref D) fs))) p (.ins C dx (putF "rounds" (.ref qr) (putF "turns" (.ref D) fs)))) p=some (.ins C dx (putF "rounds" (.ref qr) (putF "turns" (.ref D) fs))):=ae
 have D7:(upd (upd (upd H5 D (.lst ys)) p (.ins C dx (putF "turns" (.ref D) fs))) p (.ins C dx (putF "rounds" (.ref qr) (putF "turns" (.ref D) fs)))) D=some (.lst ys):=keep hDp (keep hDp ae)
 have u7:∀ q u,q≠p->H5 q=some u->(upd (upd (upd H5 D (.lst ys)) p (.ins C dx (putF "turns" (.ref D) fs))) p (.ins C dx (putF "rounds" (.ref qr) (putF "turns" (.ref D) fs)))) q=some u:=fun q u n z=>keep n (keep n (aq hD _ _ _ z))
 generalize upd (upd (upd H5 D (.lst ys)) p (.ins C dx (putF "turns" (.ref D) fs))) p (.ins C dx (putF "rounds" (.ref qr) (putF "turns" (.ref D) fs)))=H7 at t7 q17 p7 D7 u7
 have pl3:∀{q:Addr}{ys:List V},H3 q=some (.lst ys)->q≠p:=fun{q ys} h z=>by rw[z,hp3]at h;cases h
 have rs7:ck H7 vs rs:=⟨hrs.1,fun i l z=>by
  obtain⟨r,a1,a2⟩:=hrs.2 i l z
  exact⟨r,a1,t7 _ _ (pl3 a2) a2⟩⟩
 have T7:c9 K H7 xs es:=(hT.mono s13).keep hp3 t7
 refine⟨_,rfl,_,rfl,qt,qr,xs,vs,es,_,rs,rfl,SqL.of (t7 _ _ (pl hqt) (s13 _ _ hqt)),T7,by omega,SqL.of (t7 _ _ (pl3 hqr) hqr),rs7,ro,fun q5 z5 H8 s8 hq5 hs5=>?_⟩
 refine⟨_,rfl,p,C,dx,_,rfl,s8 _ _ p7,cw.cl,cw.n5,by omega,?_⟩
 have n5p:q5≠p:=fun z=>by rw[z,s8 _ _ p7]at hq5;cases hq5
 have hqr7:=t7 _ _ (pl3 hqr) hqr
 refine kk _ q1 rs _ ae ⟨?_,⟨D,ys,?_,fun z=>z (new4 (none_of s5 hD)),keep hDp (s8 _ _ D7),rz.1,fun i l z=>?_⟩,⟨qr,vs,?_,keep (pl3 hqr) (s8 _ _ hqr7),hrs.1,fun i l z=>?_⟩,⟨q5,z5,?_,keep n5p hq5,hs5.1,fun i hi=>?_⟩,ro⟩ new1 (by rw[au,if_neg (by decide +kernel)];exact lk2) (keep n1p (s8 _ _ q17)) fun q o z n=>keep n (s8 _ _ (t7 q o n (s13 _ _ z)))
 ·rw[au,if_neg (by decide +kernel),au,if_neg (by decide +kernel),au,if_neg (by decide +kernel)]
  exact lkm
 ·rw[au,if_neg (by decide +kernel),au,if_neg (by decide +kernel),au,if_pos rfl]
 ·obtain⟨r,a1,a0,a2⟩:=rz.2 i l z
  have nr:r≠p:=fun z=>by rw[z,s5 _ _ pa]at a2;cases a2
  exact⟨r,a1,a0,keep nr (s8 _ _ (u7 r _ nr a2))⟩
 ·rw[au,if_neg (by decide +kernel),au,if_pos rfl]
 ·obtain⟨r,a1,a2⟩:=hrs.2 i l z
  exact⟨r,a1,keep (pl3 a2) (s8 _ _ (t7 _ _ (pl3 a2) a2))⟩
 ·rw[au,if_pos rfl]
 ·obtain⟨t,a,b,r,r',y1,y2,y3⟩:=hs5.2 i hi
  exact⟨t,a,b,r,r',y1,keep (fun z=>by rw[z,s8 _ _ p7]at y2;cases y2) y2,y3⟩
theorem oO.at{PL PS:Addr}{H:Hp}{xs:List V}{es:En}{ks:Kn}(t:oO PL PS H xs es ks)(kl:ks.length=es.length)(TL:CT K PL)(TS:CT K PS):c9 K H xs es:=⟨t.1,fun i e z=>by
 have hi:=(IA.mp z).1
 obtain⟨k,hk⟩:∃ k,ks[i]?=some k:=⟨_,IB (by omega)⟩
 obtain⟨p,dx,a,b⟩:=t.2 i e k z hk
 refine⟨p,_,dx,k.2,a,b,?_⟩
 unfold cls
 split
 ·exact TS
 ·exact TL⟩
def WebF(S:Addr->Prop)(PL PS WC:Addr)(H:Hp)(p:Addr)(m:Nat)(es:En)(ts rs:List (List Nat))(ks:Kn):Prop:=∃ dx fs q1 xs,H p=some (.ins WC dx fs)/\WebG S H fs m es ts rs/\¬ S q1/\fs.lookup ("ties" : Str)=some (.ref q1)/\H q1=some (.lst xs)/\oO PL PS H xs es ks
end
end K8
namespace K8
open PySem L2
local macro_rules | `(tactic| walk_at "cc") => `(tactic| first | exact ⟨by decide, by decide⟩ | (show (0 : Int) < _; decide) | (show (0 : Int) < _; omega) | (show (0 : Int) ≤ _; omega) | exact ⟨by decide, by decide, by decide⟩ | exact ⟨by omega, by omega, by decide⟩ | exact Or.inl ⟨by decide, by decide⟩ | exact Or.inl ⟨by omega, by omega⟩)
local macro_rules | `(tactic| walk_at "rd") => `(tactic| repeat (first | refine ⟨_, rfl, ?_⟩ | refine ⟨_, _, rfl, rfl, ?_⟩ | refine ⟨rfl, ?_⟩ | (refine ⟨?cc, ?_⟩; (case cc => walk_at "cc"))))
def bit(l a:Int):Int:=l/2^a.toNat%2
theorem bitN(N a:Nat):bit (N:Int) (a:Int)=if N.testBit a=true then 1 else 0:=by
 unfold bit
 rw[JB,Nat.testBit_eq_decide_div_mod_eq]
 have e:((N:Int)/2^a%2)=((N/2^a%2:Nat):Int):=by
  rw[Int.natCast_emod,Int.natCast_ediv,Int.natCast_pow]
  rfl
 rw[e]
 by_cases z:N/2^a%2=1
 ·rw[z,decide_eq_true rfl];rfl
 ·rw[decide_eq_false z]
  have:N/2^a%2=0:=by omega
  rw[this]
  rfl
def WebT(PL PS WC:Addr)(H:Hp)(p:Addr)(m:Nat)(es:En)(ts:List (List Nat))(ks:Kn):Prop:=∃ dx fs q1 xs q3 z3,H p=some (.ins WC dx fs)/\fs.lookup ("many" : Str)=some (.int (m:Int))/\fs.lookup ("ties" : Str)=some (.ref q1)/\H q1=some (.lst xs)/\oO PL PS H xs es ks/\fs.lookup ("turns" : Str)=some (.ref q3)/\H q3=some (.lst z3)/\ck H z3 ts
theorem WebT.mono{PL PS WC p:Addr}{H H':Hp}{m:Nat}{es:En}{ts:List (List Nat)}{ks:Kn}(h:WebT PL PS WC H p m es ts ks)(s:Same H H'):WebT PL PS WC H' p m es ts ks:=by
 obtain⟨dx,fs,q1,xs,q3,z3,a,b,c,d,e,f,g,i⟩:=h
 exact⟨dx,fs,q1,xs,q3,z3,s _ _ a,b,c,s _ _ d,e.mono s,f,s _ _ g,i.mono s⟩
theorem WebF.t{S:Addr->Prop}{PL PS WC p:Addr}{H:Hp}{m:Nat}{es:En}{ts rs:List (List Nat)}{ks:Kn}(h:WebF S PL PS WC H p m es ts rs ks):WebT PL PS WC H p m es ts ks:=by
 obtain⟨dx,fs,q1,xs,a,b,_,c,d,e⟩:=h
 obtain⟨q3,z3,b1,_,b2,b3⟩:=b.turns
 exact⟨dx,fs,q1,xs,q3,z3,a,b.many,c,d,e,b1,b2,b3.off⟩
theorem and1(x:Int):Builtin.bitAnd x 1=x%2:=PySem.W.kbt_mask x 1
def mO(K:IC):Sp:=fun vs H Q _=>∃(p C dx:Addr)(a b s l:Int),vs = [.ref p,.int l]/\H p=some (.ins C dx (tf a b s))/\CT K C/\0<=a/\0<=b/\Q (.int (bit l a+bit l b)) H
def atF(N x:Nat)(e:Nat×Nat):Bool:=(e.1 == x&&!N.testBit e.2)||(e.2 == x&&!N.testBit e.1)
def cn(es:En)(N M:Nat):Prop:=∀ x,M.testBit x=(N.testBit x&&es.any (atF N x))
theorem cn.z(N:Nat):cn [] N 0:=fun x=>by rw[Ki,List.any_nil,MC]
theorem GQ(a b x:Nat):(2^a|||2^b).testBit x=(a == x||b == x):=by
 rw[JZ,JE,JE]
 cases h:a == x<;>cases h':b == x<;>simp_all
theorem cn.put{es:En}{N M:Nat}{e:Nat×Nat}(h:cn es N M)(one:N.testBit e.1≠N.testBit e.2):cn (es++[e]) N (M|||(N&&&(2^e.1|||2^e.2))):=fun x=>by
 rw[JZ,h x,Kv,GQ,List.any_append,LG,List.any_nil,KL]
 unfold atF
 by_cases h1:e.1=x
 ·by_cases h2:e.2=x
  ·rw[h1,h2]at one
   exact absurd rfl one
  ·rw[h1]at one
   have e1:(e.1 == x)=true:=by simpa using h1
   have e2:(e.2 == x)=false:=by simpa using h2
   rw[e1,e2]
   cases z:N.testBit x
   ·simp
   ·rw[z]at one
    have:N.testBit e.2=false:=by cases y:N.testBit e.2 with | false=>rfl | true=>rw[y]at one;exact absurd rfl one
    rw[this]
    simp
 ·have e1:(e.1 == x)=false:=by simpa using h1
  by_cases h2:e.2=x
  ·rw[h2]at one
   have e2:(e.2 == x)=true:=by simpa using h2
   rw[e1,e2]
   cases z:N.testBit x
   ·simp
   ·rw[z]at one
    have:N.testBit e.1=false:=by cases y:N.testBit e.1 with | false=>rfl | true=>rw[y]at one;exact absurd rfl one
    rw[this]
    simp
  ·have e2:(e.2 == x)=false:=by simpa using h2
   rw[e1,e2]
   simp
theorem cn.skip{es:En}{N M:Nat}{e:Nat×Nat}(h:cn es N M)(one:N.testBit e.1=N.testBit e.2):cn (es++[e]) N M:=fun x=>by
 rw[h x,List.any_append,LG,List.any_nil,KL]
 unfold atF
 cases z:N.testBit x
 ·simp
 ·by_cases h1:e.1=x
  ·rw[h1,z]at one
   have:(e.2 == x&&!N.testBit e.1)=false:=by rw[h1,z];simp
   rw[this,← one]
   simp
  ·have e1:(e.1 == x)=false:=by simpa using h1
   by_cases h2:e.2=x
   ·rw[h2,z]at one
    rw[e1,one]
    simp
   ·have e2:(e.2 == x)=false:=by simpa using h2
    rw[e1,e2]
    simp
theorem cn.one{es:En}{N M M':Nat}(h:cn es N M)(h':cn es N M'):M=M':=Kl fun x=>by rw[h x,h' x]
def wJ(PL PS WC:Addr):Sp:=fun vs H Q _=>∃(p:Addr)(N m m0:Nat)(es:En)(ts:List (List Nat))(ks:Kn),vs = [.ref p,.int (N:Int)]/\WebT PL PS WC H p m0 es ts ks/\ks.length=es.length/\m<=40/\(∀ e∈es,e.1<m/\e.2<m)/\∀ M:Nat,cn es N M->Q (.int (M:Int)) H
section
variable{P:Program}{w:World}{K:IC}{mg:Str->Option Value}{base:Heap}
theorem o7:aC ["tie","patch"] ["tie","patch"] (ah bI):=⟨rfl,rfl,rfl,by decide +kernel,rfl,by decide +kernel,by decide +kernel⟩
theorem CN{f:Addr}{fd:FuncData} (F:Fun K "ends_within" "ends_within" bI f fd):FnOk P w K mg base CX0 1 f fd ["tie","patch"] (mO K):=by
 refine F.ok o7 (fun vs H Q E h=>?_) (fun cdv A outer s H vs Q E hr h=>?_)
 ·obtain⟨p,C,dx,a,b,s,l,rfl,_⟩:=h
  rfl
 obtain⟨p,C,dx,a,b,st,l,rfl,hp,T,ha,hb,kk⟩:=h
 refine⟨_,(ao (aK (aA cU (aA pY (aA zS (pv 1) (b5 (pv 0) rfl)) aj) (aA pY (aA zS (pv 1) (b5 (pv 0) rfl)) aj)))),?_⟩
 refine⟨_,rfl,_,rfl,p,C,dx,_,_,rfl,hp,T.cl,T.n1,jD _ _ _,_,_,rfl,rfl,ha,_,_,rfl,rfl,_,rfl,_,rfl,p,C,dx,_,_,rfl,hp,T.cl,T.n2,ng _ _ _,_,_,rfl,rfl,hb,_,_,rfl,rfl,_,_,rfl,rfl,?_⟩
 show Q (V.int (Builtin.bitAnd (l/2^a.toNat) 1+Builtin.bitAnd (l/2^b.toNat) 1)) H
 rw[and1,and1]
 exact kk
theorem tS:aC ["found"] ["found"] (ah cA):=⟨rfl,rfl,rfl,by decide +kernel,rfl,by decide +kernel,by decide +kernel⟩
theorem E9{f:Addr}{fd:FuncData} (F:Fun K "_law_whole" "_law_whole" cA f fd) (T:Txt mg):FnOk P w K mg base CX0 1 f fd ["found"] G1:=by
 refine F.ok tS (fun vs H Q E h=>?_) (fun cdv A outer s H vs Q E hr h=>?_)
 ·obtain⟨i,rfl,_⟩:=h
  rfl
 obtain⟨i,rfl,k⟩:=h
 refine⟨_,(ao (aK (F7 (aJ mY (by rfl) T.n_isinstance cj (aa (pv 0) (aa (qY (v:=.ty "int") rfl T.n_int bt_int rfl) ak))) (F5 (pe_not (aJ mY (by rfl) T.n_isinstance cj (aa (pv 0) (aa (qY (v:=.ty "bool") rfl T.n_bool Iu rfl) ak)))))))),?_⟩
 refine⟨_,rfl,_,_,_,_,_,rfl,TyOf.int i,Or.inl ⟨_,rfl,rfl⟩,kit_ii K,_,rfl,iteT ?_⟩
 exact⟨_,rfl,_,_,_,_,_,rfl,TyOf.int i,Or.inl ⟨_,rfl,rfl⟩,kit_ib K,_,rfl,k⟩
theorem eZ:aC ["web","behind","front","tie"] ["web","behind"] (ah dA):=⟨rfl,rfl,rfl,by decide +kernel,rfl,by decide +kernel,by decide +kernel⟩
theorem Fg{f fw PL PS WC:Addr}{fd fdw:FuncData} (F:Fun K "front_of" "front_of" dA f fd) (cw:CW K WC) (TL:CT K PL) (TS:CT K PS) (G_ends_within:Cal P w K mg base 1 "ends_within" ["tie","patch"] (mO K) fw fdw):FnOk P w K mg base CX0 2 f fd ["web","behind"] (wJ PL PS WC):=by
 refine F.ok eZ (fun vs H Q E h=>?_) (fun cdv A outer s H vs Q E hr h=>?_)
 ·obtain⟨p,N,m,m0,es,ts,ks,rfl,_⟩:=h
  rfl
 obtain⟨p,N,m,m0,es,ts,ks,rfl,⟨dx,fs,q1,xs,q3,z3,hp,_,hlk,hq1,tk,_⟩,kl,m40,hbd,kk⟩:=h
 have hxl:xs.length=es.length:=tk.1
 have ct:∀ b,CT K (cls PL PS b):=fun b=>by
  unfold cls
  split
  ·exact TS
  ·exact TL
 refine⟨_,(ag (az (i:=2) eZ.nd rfl (Or.inl rfl) aj)
   (ag (cu PassesOwn.never rfl (bx (b5 (pv 0) rfl)) (aH (i:=3) eZ.nd rfl (Or.inl rfl)) (ao (cT (aG rf (aI G_ends_within.ok (hr.mono (by decide)) rfl G_ends_within.mg G_ends_within.kp G_ends_within.bn .nil bt (aa (pv 3) (aa (pv 1) ak))) aj (aM _)) (ao (az (i:=2) eZ.nd rfl (Or.inl rfl) (aA xD (pv 2) (aA pY (pv 1) (aA xD (aA jI aj (b5 (pv 3) rfl)) (aA jI aj (b5 (pv 3) rfl))))))) aP)))
   (ao (aK (pv 2))))),?_⟩
 refine⟨_,rfl,p,WC,dx,fs,_,rfl,hp,cw.cl,cw.n2,hlk,q1,rfl,⟨_,SqL.of hq1⟩,cO (K:=K) (xs:=xs) (fun i σ H2=>∃ v3 M,σ = [some (.ref p),some (.int (N:Int)),some (.int ((M:Nat):Int)),v3]/\H2=H/\cn (es.take i) N M) ⟨_,0,rfl,rfl,cn.z N⟩ (fun i σ H2 _ ⟨_,_,_,z,_⟩=>by rw[z];exact SqL.of hq1) ?_ ?_⟩
 ·rintro i x σ H2 hx ⟨v3,M,rfl,rfl,fr⟩
  have hi:i<es.length:=by rw[← tk.1];exact(IA.mp hx).1
  obtain⟨e,he⟩:∃ e,es[i]?=some e:=⟨_,IB hi⟩
  obtain⟨k,hk⟩:∃ k,ks[i]?=some k:=⟨_,IB (by omega)⟩
  obtain⟨p',dx',x1,x2⟩:=tk.2 i e k he hk
  rw[hx]at x1
  cases x1
  obtain⟨b1,b2⟩:=hbd e (ID he)
  have et:es.take (i+1)=es.take i++[e]:=by rw[Jk,he];rfl
  have hin:(bit (N:Int) (e.1:Int)+bit (N:Int) (e.2:Int)=1)↔N.testBit e.1≠N.testBit e.2:=by
   rw[bitN,bitN]
   cases N.testBit e.1<;>cases N.testBit e.2<;>decide
  refine⟨_,rfl,_,rfl,p',_,dx',_,_,_,_,rfl,x2,ct _,by omega,by omega,rfl,_,rfl,?_⟩
  refine ite2 (fun c=>?_) (fun c=>?_)
  ·have c':=hin.mp (V.int.inj (of_decide_eq_true c))
   refine⟨_,rfl,_,rfl,_,rfl,p',_,dx',_,_,rfl,x2,(ct _).cl,(ct _).n1,jD _ _ _,_,_,rfl,rfl,⟨by omega,by omega,by decide⟩,_,rfl,p',_,dx',_,_,rfl,x2,(ct _).cl,(ct _).n2,ng _ _ _,_,_,rfl,rfl,⟨by omega,by omega,by decide⟩,_,_,rfl,rfl,_,_,rfl,rfl,_,_,rfl,rfl,?_⟩
   refine⟨some (.ref p'),M|||(N&&&(2^e.1|||2^e.2)),?_,rfl,by rw[et];exact fr.put c'⟩
   have eo:Builtin.bitOr (M:Int) (Builtin.bitAnd (N:Int) (Builtin.bitOr (1*2^((e.1:Nat):Int).toNat) (1*2^((e.2:Nat):Int).toNat)))=((M|||(N&&&(2^e.1|||2^e.2)):Nat):Int):=by rw[shlN,shlN,orN,andN,orN]
   show[some (V.ref p),some (V.int (N:Int)),some (V.int (Builtin.bitOr (M:Int) (Builtin.bitAnd (N:Int) (Builtin.bitOr (1*2^((e.1:Nat):Int).toNat) (1*2^((e.2:Nat):Int).toNat))))),some (V.ref p')]=_
   rw[eo]
  ·have c':N.testBit e.1=N.testBit e.2:=by
    cases h1:N.testBit e.1<;>cases h2:N.testBit e.2
    ·rfl
    ·exact absurd (decide_eq_true (congrArg V.int (hin.mpr (by rw[h1,h2];decide)))) c
    ·exact absurd (decide_eq_true (congrArg V.int (hin.mpr (by rw[h1,h2];decide)))) c
    ·rfl
   exact⟨some (.ref p'),M,rfl,rfl,by rw[et];exact fr.skip c'⟩
 rintro σ H2 ⟨v3,M,rfl,rfl,fr⟩
 rw[hxl,Jy]at fr
 exact⟨_,rfl,kk M fr⟩
end
end K8
namespace K8
open PySem L2
local macro_rules | `(tactic| walk_at "cc") => `(tactic| first | exact ⟨by decide, by decide⟩ | (show (0 : Int) < _; decide) | (show (0 : Int) < _; omega) | (show (0 : Int) ≤ _; omega) | exact ⟨by decide, by decide, by decide⟩ | exact ⟨by omega, by omega, by decide⟩ | exact Or.inl ⟨by decide, by decide⟩ | exact Or.inl ⟨by omega, by omega⟩)
local macro_rules | `(tactic| walk_at "rd") => `(tactic| repeat (first | refine ⟨_, rfl, ?_⟩ | refine ⟨_, _, rfl, rfl, ?_⟩ | refine ⟨rfl, ?_⟩ | (refine ⟨?cc, ?_⟩; (case cc => walk_at "cc"))))
def rI(m:Nat):List Int:=(JC m).map fun(i:Nat)=>((i:Nat):Int)
theorem rI_V(m:Nat):((JC m).map fun(i:Nat)=>V.int ((i:Nat):Int))=(rI m).map V.int:=by unfold rI;rw[KD];rfl
theorem rI_pw(m:Nat):(rI m).Pairwise (·<=·):=by
 unfold rI
 refine LI.map _ (fun a b h=>?_) List.pairwise_lt_range
 omega
theorem DB{K:IC}{H:Hp}{a:Addr}{ns:List Int}(h:SqL K H a (ns.map V.int)):RdD K H (.ref a) (.list (ns.map PyData.int)):=by
 refine RdD.lst h (by rw[IJ,IJ]) fun i x d e1 e2=>?_
 rw[II]at e1 e2
 cases q:ns[i]? with
 |none=>rw[q]at e1;cases e1
 |some z=>rw[q]at e1 e2;cases e1;cases e2;exact .int _
structure ErrC(K:IC)(mg:Str->Option Value)(x:Str)(C:Addr):Prop where
 mg:mg x=some (.ref C)
 ec:ExC K C
def Told(m:Nat)(v:V)(H:Hp)(ns:List Int):Prop:=(v=.non/\ns=rI m)∨∃ o,v=.ref o/\H o=some (.lst (ns.map V.int))/\ns.length<=50
theorem Told.mono{m:Nat}{v:V}{H H':Hp}{ns:List Int}(h:Told m v H ns)(s:Same H H'):Told m v H' ns:=by
 rcases h with h | ⟨o,a,b,c⟩
 ·exact .inl h
 ·exact .inr ⟨o,a,s _ _ b,c⟩
def zI(BO WC:Addr):Sp:=fun vs H Q E=>∃(p dx:Addr)(fs:List (Str×V))(m:Nat)(v:V)(ns:List Int),vs = [.ref p,v]/\H p=some (.ins WC dx fs)/\fs.lookup ("many" : Str)=some (.int (m:Int))/\m<=40/\Told m v H ns /\
 (¬ ns.Perm (rI m)->∀ H',Same H H'->E (.ref BO) none H')/\(ns.Perm (rI m)->∀ q H',Same H H'->H q=none->H' q=some (.lst (ns.map V.int))->Q (.ref q) H')
def mk(l:List Nat):Nat:=l.foldl (fun a x=>a|||2^x) 0
theorem C3(l:List Nat)(x:Nat):mk (l++[x])=mk l|||2^x:=by unfold mk;rw[List.foldl_append];rfl
def wc(es:En)(od ms:List Nat):Prop:=ms.length=od.length+1/\∀ k M,ms[k]?=some M->cn es (mk (od.take k)) M
theorem Gk(es:En):cn es 0 0:=fun x=>by rw[Ki];rfl
theorem wc.snoc{es:En}{od ms:List Nat}{x M:Nat}(h:wc es od ms)(hM:cn es (mk (od++[x])) M):wc es (od++[x]) (ms++[M]):=by
 refine⟨by rw[IF,IF,h.1];rfl,fun k N e=>?_⟩
 by_cases hk:k<ms.length
 ·rw[IH hk]at e
  have hk2:k<=od.length:=by have:=h.1;omega
  rw[Lo hk2]
  exact h.2 k N e
 ·rw[IE (by omega)]at e
  have hk2:k=ms.length:=by
   have:=(IA.mp e).1
   rw[IM]at this
   omega
  subst hk2
  rw[Je]at e
  cases e
  rw[Jx (by rw[IF,IM,h.1];exact IG _)]
  exact hM
theorem zO{ns:List Int}{m:Nat}(h:ns.Perm (rI m)):∃ od:List Nat,ns=cI od/\∀ x∈od,x<m:=by
 have hb:∀ x∈ns,0<=x/\x<(m:Int):=fun x hx=>by
  have:=h.mem_iff.mp hx
  unfold rI at this
  obtain⟨i,hi,rfl⟩:=IY.mp this
  have:=Jz.mp hi
  omega
 refine⟨ns.map Int.toNat,?_,fun x hx=>?_⟩
 ·unfold cI
  rw[KD]
  symm
  refine(Lb fun x hx=>?_).trans (List.map_id _)
  have:=hb x hx
  show((x.toNat:Nat):Int)=x
  omega
 ·obtain⟨y,hy,rfl⟩:=IY.mp hx
  have:=hb y hy
  omega
def G3(BO PL PS WC:Addr):Sp:=fun vs H Q E=>∃(p:Addr)(m:Nat)(es:En)(ts:List (List Nat))(ks:Kn)(v:V)(ns:List Int),vs = [.ref p,v]/\WebT PL PS WC H p m es ts ks/\ks.length=es.length/\(∀ e∈es,e.1<m/\e.2<m)/\m<=40/\Told m v H ns /\
 (¬ ns.Perm (rI m)->∀ H',Same H H'->E (.ref BO) none H')/\(∀ od:List Nat,ns=cI od->ns.Perm (rI m)->∀ q ms H',Same H H'->H' q=some (.lst (ms.map iV))->wc es od ms->Q (.ref q) H')
section
variable{P:Program}{w:World}{K:IC}{mg:Str->Option Value}{base:Heap}
theorem nu:aC ["web","order","places"] ["web","order"] (ah dq):=⟨rfl,rfl,rfl,by decide +kernel,rfl,by decide +kernel,by decide +kernel⟩
theorem ok_ord{f BO WC:Addr}{fd:FuncData} (F:Fun K "order_of" "order_of" dq f fd) (T:Txt mg) (cw:CW K WC) (X_BadOrder:ErrC K mg "BadOrder" BO):FnOk P w K mg base (CXr P w) 1 f fd ["web","order"] (zI BO WC):=by
 refine F.okX nu (fun vs H Q E h=>?_) (fun cdv A outer s H vs Q E hr h=>?_)
 ·obtain⟨p,dx,fs,m,v,ns,rfl,_⟩:=h
  rfl
 obtain⟨p,dx,fs,m,v,ns,rfl,hp,lk,m40,td,kb,k⟩:=h
 have hu64:=hr.units
 refine⟨_,(ag (az (i:=2) nu.nd rfl (Or.inl rfl) (uo rfl rfl T.n_list rfl T.n_range (b5 (pv 0) rfl)))
   (ag (cT (aG op_isN (pv 1) CD (aM _)) (ao (aK (pv 2))) aP)
   (ag (cT (aG (op_neG hu64) (aJ oA (by rfl) T.n_sorted oF (aa (pv 1) ak)) (pv 2) (aM _)) (ao (t9 X_BadOrder.ec X_BadOrder.mg rfl lB rfl rfl (aa F4 ak))) aP)
   (ao (aK (gj eF (by rfl) T.n_list kZ (aa (pv 1) ak))))))),?_⟩
 refine⟨_,rfl,p,WC,dx,fs,_,rfl,hp,cw.cl,cw.n1,lk,m,rfl,by omega,fun q hq=>?_⟩
 rw[rI_V]
 have s1:=aq hq (.lst ((rI m).map V.int))
 rcases td with⟨rfl,rfl⟩ | ⟨o,rfl,ho,hl⟩
 ·refine⟨_,rfl,rfl,_,rfl,iteT ?_⟩
  exact⟨_,rfl,k (Ll _) q _ s1 hq ae⟩
 refine⟨_,rfl,rfl,_,rfl,iteF ?_⟩
 refine⟨_,rfl,o,ns,rfl,SqL.of (s1 _ _ ho),by omega,fun l out hl' hp' hs=>?_⟩
 have s2:=aq hl' (.lst (out.map V.int))
 have s12:=s1.trans s2
 refine⟨_,rfl,_,_,DB (SqL.of ae),DB (SqL.of (s2 _ _ ae)),jj _,jj _,_,rfl,?_⟩
 rw[FD]
 refine ite2 (fun c=>?_) (fun c=>?_)
 ·have c':out≠rI m:=fun z=>by rw[decide_eq_true z]at c;cases c
  refine⟨(by decide:(1:Nat)<=sizeLine),kb (fun z=>c' (kh (hp'.trans z) hs (rI_pw m))) _ s12⟩
 ·have c':out=rI m:=by
   by_cases z:out=rI m
   ·exact z
   ·exact absurd (by rw[decide_eq_false z];rfl) c
  refine⟨_,rfl,o,_,rfl,.inl (SqL.of (s12 _ _ ho)),fun r hr'=>?_⟩
  exact k (c'▸hp'.symm) r _ (s12.trans (aq hr' _)) (by
   cases y:H r with
   |none=>rfl
   |some u=>rw[s12 _ _ y]at hr';cases hr') ae
theorem gg:aC ["web","order","found","behind","place"] ["web","order"] (ah h9):=⟨rfl,rfl,rfl,by decide +kernel,rfl,by decide +kernel,by decide +kernel⟩
theorem CS{f fo ff BO PL PS WC:Addr}{fd fdo fdf:FuncData} (F:FunD K "fronts" "fronts" h9 f fd #[.none]) (G_order_of:CalX P w K mg base 1 "order_of" ["web","order"] (zI BO WC) fo fdo) (G_front_of:Cal P w K mg base 2 "front_of" ["web","behind"] (wJ PL PS WC) ff fdf):FnOk P w K mg base (CXr P w) 3 f fd ["web","order"] (G3 BO PL PS WC):=by
 refine F.okX gg (fun vs H Q E h=>?_) (fun cdv A outer s H vs Q E hr h=>?_)
 ·obtain⟨p,m,es,ts,ks,v,ns,rfl,_⟩:=h
  rfl
 obtain⟨p,m,es,ts,ks,v,ns,rfl,wm,kl,hbd,m40,td,kb,kk⟩:=h
 refine⟨_,(ag (az (i:=2) gg.nd rfl (Or.inl rfl) (eS (aa aj ak)))
   (ag (az (i:=3) gg.nd rfl (Or.inl rfl) aj)
   (ag (Co rfl (bx (ig G_order_of.ok (hr.mono (by decide)) rfl G_order_of.mg G_order_of.kp G_order_of.bn .nil lB rfl (aa (pv 0) (aa (pv 1) ak)))) (aH (i:=4) gg.nd rfl (Or.inl rfl)) (ag (az (i:=3) gg.nd rfl (Or.inl rfl) (aA xD (pv 3) (aA jI aj (pv 4))))
   (ao (bp (i0 Jt Jw Jv bg (pv 2) (aa (aI G_front_of.ok (hr.mono (by decide)) rfl G_front_of.mg G_front_of.kp G_front_of.bn .nil bt (aa (pv 0) (aa (pv 3) ak))) ak))))))
   (ao (aK (pv 2)))))),?_⟩
 refine⟨(by show 1<=sizeLine;decide),fun qf hqf=>?_⟩
 have s1:=aq hqf (.lst [.int 0])
 obtain⟨dx,fs,_,_,_,_,hp,lk,_⟩:=id wm
 refine⟨_,rfl,_,rfl,p,dx,fs,m,v,ns,rfl,s1 _ _ hp,lk,m40,td.mono s1,fun z H' s'=>kb z _ (s1.trans s'),fun pm q H2 s2 nq hq=>?_⟩
 obtain⟨od,rfl,ob⟩:=zO pm
 have nqf:q≠qf:=fun z=>by rw[z,ae]at nq;cases nq
 have ol:(cI od).length=od.length:=by unfold cI;rw[IJ]
 have s12:=s1.trans s2
 have ol40:od.length<=40:=by
  have:=pm.length_eq
  unfold rI at this
  rw[ol,IJ,JV]at this
  omega
 refine⟨q,rfl,⟨_,SqL.of hq⟩,cO (K:=K) (xs:=(cI od).map V.int) (fun i σ H3=>∃ v4 ms,σ = [some (.ref p),some v,some (.ref qf),some (.int ((mk (od.take i):Nat):Int)),v4]/\Same H H3/\H3 q=some (.lst ((cI od).map V.int))/\H3 qf=some (.lst (ms.map iV))/\wc es (od.take i) ms) ⟨_,[0],rfl,s12,hq,s2 _ _ ae,rfl,fun k M e=>?_⟩ (fun i σ H3 _ ⟨_,_,_,_,z,_⟩=>SqL.of z) ?_ ?_⟩
 ·match k with
  |0=>cases e;exact Gk es
  |k+1=>cases e
 ·rintro i x σ H3 hx ⟨v4,ms,rfl,s3,hq3,hf3,fr⟩
  rw[II]at hx
  obtain⟨y,hy,rfl⟩:=Jd.mp hx
  unfold cI at hy
  rw[II]at hy
  obtain⟨pl,hpl,rfl⟩:=Jd.mp hy
  have hb:=ob pl (ID hpl)
  have et:od.take (i+1)=od.take i++[pl]:=by rw[Jk,hpl];rfl
  have ml:ms.length<=41:=by
   have:=fr.1
   rw[Jg]at this
   omega
  refine⟨_,rfl,_,rfl,_,_,rfl,rfl,⟨by omega,by omega,by decide⟩,_,_,rfl,rfl,?_⟩
  have eo:Builtin.bitOr ((mk (od.take i):Nat):Int) (1*2^((pl:Nat):Int).toNat)=((mk (od.take (i+1)):Nat):Int):=by rw[et,C3,shlN,orN]
  refine⟨_,rfl,.inl ⟨rfl,_,SqL.of hf3⟩,_,rfl,_,rfl,p,mk (od.take (i+1)),m,m,es,ts,ks,congrArg (fun z=>[V.ref p,V.int z]) eo,wm.mono s3,kl,m40,hbd,fun M hM=>?_⟩
  refine⟨qf,_,_,rfl,rfl,hf3,aB (by rw[IJ];omega),?_⟩
  refine⟨some (.int (pl:Int)),ms++[M],?_,bu s3 hqf _,by rw[ai nqf];exact hq3,by rw[ae,Jr];rfl,by rw[et]at hM ⊢;exact fr.snoc hM⟩
  show[some (V.ref p),some v,some (V.ref qf),some (V.int (Builtin.bitOr ((mk (od.take i):Nat):Int) (1*2^((pl:Nat):Int).toNat))),some (V.int (pl:Int))]=_
  rw[eo]
 ·rintro σ H3 ⟨v4,ms,rfl,s3,hq3,hf3,fr⟩
  rw[IJ,ol,Jy]at fr
  exact⟨_,rfl,kk od rfl pm qf ms H3 s3 hf3 fr⟩
end
end K8
namespace K8
open PySem L2
local macro_rules | `(tactic| walk_at "cc") => `(tactic| first | exact ⟨by decide, by decide⟩ | (show (0 : Int) < _; decide) | (show (0 : Int) < _; omega) | (show (0 : Int) ≤ _; omega) | exact ⟨by decide, by decide, by decide⟩ | exact ⟨by omega, by omega, by decide⟩ | exact Or.inl ⟨by decide, by decide⟩ | exact Or.inl ⟨by omega, by omega⟩)
local macro_rules | `(tactic| walk_at "rd") => `(tactic| repeat (first | refine ⟨_, rfl, ?_⟩ | refine ⟨_, _, rfl, rfl, ?_⟩ | refine ⟨rfl, ?_⟩ | (refine ⟨?cc, ?_⟩; (case cc => walk_at "cc"))))
theorem pe_or{X:Cx}{e:Expr}{t1 t2:TE}(h1:PE X e t1)(h2:PE X e t2):PE X e (fun σ H Q=>t1 σ H Q∨t2 σ H Q):=fun pins s σ H Q I h=>h.elim (h1 pins s σ H Q I) (h2 pins s σ H Q I)
theorem GK(x y:Int):Builtin.bitAnd (Builtin.bitXor x y) 1=(x%2+y%2)%2:=by
 have e:Builtin.bitAnd (Builtin.bitXor x y) 1=Builtin.bitXor x y%2:=PySem.W.kbt_mask _ 1
 rw[e,PyProof.Rows.bitXor_and]
 omega
def unp(push:Bool)(a b l:Int):Bool:=!decide (V.int ((bit l a+bit l b)%2)=V.int (if push=true then 1 else 0))
def tH(push:Bool):Sp:=fun vs H Q _=>∃ p,vs = [.ref p]/\Q (.int (if push=true then 1 else 0)) H
def TieAt(H:Hp)(p C:Addr)(a b s:Int):Prop:=∃ dx,H p=some (.ins C dx (tf a b s))
def zH(C:Addr)(push:Bool):Sp:=fun vs H Q _=>∃ p a b s l,vs = [.ref p,.int l]/\TieAt H p C a b s/\0<=a/\0<=b/\Q (.bl (unp push a b l)) H
def ni(C:Addr)(push:Bool):Sp:=fun vs H Q _=>∃ p a b s l,vs = [.ref p,.int l]/\TieAt H p C a b s/\0<=a/\0<=b/\Q (.int (if unp push a b l=true then s else 0)) H
def U(es:En)(ks:Kn)(l:Int)(t:Nat):Bool:=match es[t]?,ks[t]? with | some e,some k=>unp (decide (k.1=1)) (e.1:Int) (e.2:Int) l | _,_=>false
theorem U_at{es:En}{ks:Kn}{l:Int}{t:Nat}{e:Nat×Nat}{k:Int×Int}(h1:es[t]?=some e)(h2:ks[t]?=some k):U es ks l t=unp (decide (k.1=1)) (e.1:Int) (e.2:Int) l:=by unfold U;rw[h1,h2]
def stg(ks:Kn)(t:Nat):Int:=match ks[t]? with | some k=>k.2 | none=>0
section
variable{P:Program}{w:World}{K:IC}{mg:Str->Option Value}{base:Heap}
theorem xb:aC ["self"] ["self"] (ah dD):=⟨rfl,rfl,rfl,by decide +kernel,rfl,by decide +kernel,by decide +kernel⟩
theorem E7{f:Addr}{fd:FuncData} (F:Fun K "wish" "Tie.wish" dD f fd):FnOk P w K mg base CX0 1 f fd ["self"] (tH false):=by
 refine F.ok xb (fun vs H Q E h=>?_) (fun cdv A outer s H vs Q E hr h=>?_)
 ·obtain⟨p,rfl,_⟩:=h
  rfl
 obtain⟨p,rfl,k⟩:=h
 exact⟨_,(ao (aK aj)),k⟩
theorem tW:aC ["self"] ["self"] (ah cE):=⟨rfl,rfl,rfl,by decide +kernel,rfl,by decide +kernel,by decide +kernel⟩
theorem E6{f:Addr}{fd:FuncData} (F:Fun K "wish" "Push.wish" cE f fd):FnOk P w K mg base CX0 1 f fd ["self"] (tH true):=by
 refine F.ok tW (fun vs H Q E h=>?_) (fun cdv A outer s H vs Q E hr h=>?_)
 ·obtain⟨p,rfl,_⟩:=h
  rfl
 obtain⟨p,rfl,k⟩:=h
 exact⟨_,(ao (aK aj)),k⟩
theorem f6:aC ["self","laying","unlike"] ["self","laying"] (ah bb):=⟨rfl,rfl,rfl,by decide +kernel,rfl,by decide +kernel,by decide +kernel⟩
theorem CO{f C fw:Addr}{fd fdw:FuncData}{push:Bool} (F:Fun K "unpleased" "Tie.unpleased" bb f fd) (T:CT K C) (m_wish:Met P w K mg base 1 C "wish" ["self"] (tH push) fw fdw):FnOk P w K mg base CX0 2 f fd ["self","laying"] (zH C push):=by
 refine F.ok f6 (fun vs H Q E h=>?_) (fun cdv A outer s H vs Q E hr h=>?_)
 ·obtain⟨p,a,b,s,l,rfl,_⟩:=h
  rfl
 obtain⟨p,a,b,st,l,rfl,⟨dx,hp⟩,ha,hb,k⟩:=h
 have CL:=T.cl
 refine⟨_,(ag (az (i:=2) f6.nd rfl (Or.inl rfl) (aA pY (aA op_xor (aA zS (pv 1) (b5 (pv 0) rfl)) (aA zS (pv 1) (b5 (pv 0) rfl))) aj))
   (ao (aK (CI ra (pv 2) (E1 (pv 0) CL m_wish.me m_wish.ok (hr.mono (by decide)) m_wish.bn .nil bt) (aM _))))),?_⟩
 refine⟨_,rfl,_,rfl,p,C,dx,_,_,rfl,hp,T.cl,T.n1,jD _ _ _,_,_,rfl,rfl,ha,?_⟩
 refine⟨_,rfl,_,rfl,p,C,dx,_,_,rfl,hp,T.cl,T.n2,ng _ _ _,_,_,rfl,rfl,hb,?_⟩
 refine⟨_,_,rfl,rfl,_,_,rfl,rfl,?_⟩
 refine⟨_,rfl,_,rfl,p,dx,_,rfl,hp,EI _ _ _ (by decide +kernel) (by decide +kernel) (by decide +kernel),p,rfl,?_⟩
 refine⟨rfl,?_⟩
 have e:=GK (l/2^a.toNat) (l/2^b.toNat)
 have k':Q (V.bl (unp push a b l)) H:=k
 unfold unp bit at k'
 rw[← e]at k'
 exact k'
theorem tV:aC ["self","laying"] ["self","laying"] (ah cD):=⟨rfl,rfl,rfl,by decide +kernel,rfl,by decide +kernel,by decide +kernel⟩
theorem zU{f C fw:Addr}{fd fdw:FuncData}{push:Bool} (F:Fun K "price" "Tie.price" cD f fd) (T:CT K C) (m_unpleased:Met P w K mg base 2 C "unpleased" ["self","laying"] (zH C push) fw fdw):FnOk P w K mg base CX0 3 f fd ["self","laying"] (ni C push):=by
 refine F.ok tV (fun vs H Q E h=>?_) (fun cdv A outer s H vs Q E hr h=>?_)
 ·obtain⟨p,a,b,s,l,rfl,_⟩:=h
  rfl
 obtain⟨p,a,b,st,l,rfl,⟨dx,hp⟩,ha,hb,k⟩:=h
 have CL:=T.cl
 refine⟨_,(ao (aK (qV (nv (xB (pv 0) CL m_unpleased.me m_unpleased.ok (hr.mono (by decide)) m_unpleased.bn .nil bt (aa (pv 1) ak))) (b5 (pv 0) rfl) aj))),?_⟩
 refine⟨_,rfl,p,dx,_,rfl,hp,EI _ _ _ (by decide +kernel) (by decide +kernel) (by decide +kernel),_,rfl,p,a,b,st,l,rfl,⟨dx,hp⟩,ha,hb,_,rfl,?_⟩
 refine ite2 (fun c=>?_) (fun c=>?_)
 ·refine⟨_,rfl,p,C,dx,_,_,rfl,hp,T.cl,T.n3,tf_str _ _ _,?_⟩
  rw[if_pos c]at k
  exact k
 ·rw[if_neg c]at k
  exact k
end
end K8
namespace K8
open PySem L2
local macro_rules | `(tactic| walk_at "cc") => `(tactic| first | exact ⟨by decide, by decide⟩ | (show (0 : Int) < _; decide) | (show (0 : Int) < _; omega) | (show (0 : Int) ≤ _; omega) | exact ⟨by decide, by decide, by decide⟩ | exact ⟨by omega, by omega, by decide⟩ | exact Or.inl ⟨by decide, by decide⟩ | exact Or.inl ⟨by omega, by omega⟩)
local macro_rules | `(tactic| walk_at "rd") => `(tactic| repeat (first | refine ⟨_, rfl, ?_⟩ | refine ⟨_, _, rfl, rfl, ?_⟩ | refine ⟨rfl, ?_⟩ | (refine ⟨?cc, ?_⟩; (case cc => walk_at "cc"))))
def sumL{α:Type}(l:List α)(f:α->Int):Int:=(l.map f).sum
theorem da{α:Type}(f:α->Int):sumL [] f=0:=rfl
theorem av{α:Type}(x:α)(l:List α)(f:α->Int):sumL (x::l) f=f x+sumL l f:=by unfold sumL;rw[Ju,MJ]
theorem hZ{α:Type}(l:List α)(f g:α->Int):sumL l (fun x=>f x+g x)=sumL l f+sumL l g:=by
 induction l with
 |nil=>rfl
 |cons x l ih=>rw[av,av,av,ih];omega
theorem bw{α:Type}(l:List α):sumL l (fun _=>0)=0:=by
 induction l with
 |nil=>rfl
 |cons x l ih=>rw[av,ih];rfl
theorem ax{α:Type}{l:List α}{f g:α->Int}(h:∀ x∈l,f x=g x):sumL l f=sumL l g:=by
 induction l with
 |nil=>rfl
 |cons x l ih=>rw[av,av,h x (by simp),ih fun y hy=>h y (by simp[hy])]
theorem jE{α β:Type}(l:List α)(r:List β)(f:α->β->Int):sumL l (fun x=>sumL r (f x))=sumL r (fun y=>sumL l (fun x=>f x y)):=by
 induction l with
 |nil=>rw[da];exact(bw r).symm
 |cons x l ih =>
  rw[av,ih,← hZ]
  exact ax fun y _=>(av x l fun x=>f x y).symm
abbrev Pr:=Int×Int
def PrAt(H:Hp)(v:V)(p:Pr):Prop:=∃ t,v=.ref t/\H t=some (.tup [.int p.1,.int p.2])
theorem hX{α:Type}(l r:List α)(f:α->Int):sumL (l++r) f=sumL l f+sumL r f:=by
 induction l with
 |nil=>rw[LV,da,Km]
 |cons x l ih=>rw[List.cons_append,av,av,ih];omega
theorem EL{α β:Type}(l:List α)(g:α->β)(f:β->Int):sumL (l.map g) f=sumL l fun x=>f (g x):=by
 unfold sumL
 rw[KD]
 rfl
theorem jF{α β:Type} [DecidableEq β] (k:α->β):∀{l:List α}{x:α}(g:α->Int),(l.map k).Nodup->x∈l->sumL l (fun y=>if k x=k y then g y else 0)=g x
 |y::l,x,g,nd,h=>by
  rw[Ju,JD]at nd
  rw[av]
  rcases IL.mp h with rfl | h
  ·rw[if_pos rfl]
   have z:sumL l (fun y=>if k x=k y then g y else 0)=0:=by
    refine(ax fun y hy=>?_).trans (bw l)
    rw[if_neg]
    intro e
    exact nd.1 (e▸IY.mpr ⟨y,hy,rfl⟩)
   rw[z,JS]
  ·have ne:¬ k x=k y:=fun e=>nd.1 (by rw[← e];exact IY.mpr ⟨x,h,rfl⟩)
   rw[if_neg ne,Km]
   exact jF k g nd.2 h
theorem GZ{n:Nat}{l:List Nat}(nd:l.Nodup)(hl:∀ t∈l,t<n)(g:Nat->Int):sumL (JC n) (fun t=>if t∈l then g t else 0)=sumL l g:=by
 have e:∀ t∈JC n,(if t∈l then g t else 0)=sumL l fun u=>if t=u then g u else 0:=fun t _=>by
  by_cases h:t∈l
  ·rw[if_pos h]
   exact(jF (fun x=>x) g (by rw[List.map_id'];exact nd) h).symm
  ·rw[if_neg h]
   refine((ax fun u hu=>?_).trans (bw l)).symm
   have ne:¬ t=u:=fun e=>h (by rw[e];exact hu)
   rw[if_neg ne]
 rw[ax e,jE]
 refine ax fun u hu=>?_
 have q:=jF (fun x:Nat=>x) (l:=JC n) (x:=u) g (by rw[List.map_id'];exact Kr) (Jz.mpr (hl u hu))
 refine(ax fun t _=>?_).trans q
 by_cases h:t=u
 ·rw[if_pos h,if_pos h.symm,h]
 ·have ne:¬ u=t:=fun e=>h e.symm
  rw[if_neg h,if_neg ne]
def layK(ps:List Nat)(w:Nat):Nat->Nat
 |0=>0
 |k+1=>if w.testBit k=true then layK ps w k|||2^(ps.getD k 0) else layK ps w k
def uU(ps:List Nat)(w:Nat):Nat:=layK ps w ps.length
def lays(ps:List Nat):List Nat:=(JC (2^ps.length)).map (uU ps)
theorem yi{ps qs:List Nat}{w v:Nat}:∀{k:Nat},(∀ i,i<k->ps.getD i 0=qs.getD i 0/\w.testBit i=v.testBit i)->layK ps w k=layK qs v k
 |0,_=>rfl
 |k+1,h=>by
  obtain⟨a,b⟩:=h k (Kj k)
  rw[layK,layK,a,b,yi fun i hi=>h i (Kp hi)]
theorem Ac{ps:List Nat}{p i:Nat}(h:i<ps.length):(ps++[p]).getD i 0=ps.getD i 0:=by
 rw[IT,IT,IH h]
theorem HL{ps:List Nat}{p w:Nat}(hw:w<2^ps.length):uU (ps++[p]) w=uU ps w:=by
 unfold uU
 rw[IF,IM,layK,if_neg (by rw[Lg hw];exact IS)]
 exact yi fun i hi=>⟨Ac hi,rfl⟩
theorem Ft{ps:List Nat}{p w:Nat}(hw:w<2^ps.length):uU (ps++[p]) (2^ps.length+w)=uU ps w|||2^p:=by
 unfold uU
 rw[IF,IM,layK]
 have tb:(2^ps.length+w).testBit ps.length=true:=by
  rw[Nat.testBit_two_pow_add_eq,Lg hw];rfl
 have gp:(ps++[p]).getD ps.length 0=p:=by
  rw[IT,IE (IG _),Je];rfl
 rw[if_pos tb,gp]
 congr 1
 refine yi fun i hi=>⟨Ac hi,?_⟩
 exact Nat.testBit_two_pow_add_gt hi w
theorem jN(ps:List Nat)(p:Nat):lays (ps++[p])=lays ps++(lays ps).map (·|||2^p):=by
 unfold lays
 have e:2^(ps++[p]).length=2^ps.length+2^ps.length:=by rw[IF,IM,Nat.pow_succ];omega
 rw[e,List.range_add,Jr,KD,KD]
 congr 1
 ·exact Lb fun w hw=>HL (Jz.mp hw)
 ·exact Lb fun w hw=>Ft (Jz.mp hw)
theorem zF(ps:List Nat)(p:Nat)(f:Nat->Int):sumL (lays (ps++[p])) f=sumL (lays ps) (fun L=>f L+f (L|||2^p)):=by
 rw[jN,hX,EL,hZ]
theorem c6(l:List Nat)(x:Nat):(mk l).testBit x=decide (x∈l):=by
 have go:∀(l:List Nat)(a:Nat),(l.foldl (fun a x=>a|||2^x) a).testBit x=(a.testBit x||decide (x∈l)):=by
  intro l
  induction l with
  |nil=>intro a;simp
  |cons y l ih =>
   intro a
   rw[List.foldl_cons,ih,JZ,JE]
   by_cases h:y=x
   ·subst h;simp
   ·have h':¬ x=y:=fun e=>h e.symm
    simp[h,h',IL]
 unfold mk
 rw[go,Ki,Md]
theorem jM{ps:List Nat}{L:Nat}(h:L∈lays ps){x:Nat}(hx:L.testBit x=true):x∈ps:=by
 unfold lays at h
 obtain⟨w,_,rfl⟩:=IY.mp h
 unfold uU at hx
 have go:∀ k,k<=ps.length->(layK ps w k).testBit x=true->x∈ps:=fun k=>by
  induction k with
  |zero=>intro _ h;rw[layK,Ki]at h;cases h
  |succ k ih =>
   intro hk h
   rw[layK]at h
   split at h
   ·rw[JZ,JE]at h
    rcases Bool.or_eq_true_iff.mp h with h | h
    ·exact ih (by omega) h
    ·have e:ps.getD k 0=x:=of_decide_eq_true h
     rw[← e,IT,IB (by omega)]
     exact Kc _
   ·exact ih (by omega) h
 exact go _ (IG _) hx
def insT(es:En)(B t:Nat):Bool:=match es[t]? with | some e=>B.testBit e.1&&B.testBit e.2 | none=>false
theorem kK{es:En}{B t:Nat}{e:Nat×Nat}(h:es[t]?=some e):insT es B t=(B.testBit e.1&&B.testBit e.2):=by unfold insT;rw[h]
def cstB(es:En)(pr:Nat->Nat->Int)(B L:Nat):Int:=sumL (JC es.length) fun t=>if insT es B t=true then pr t L else 0
def Loc(es:En)(pr:Nat->Nat->Int):Prop:=∀(t:Nat)(e:Nat×Nat),es[t]?=some e->∀ L L':Nat,L.testBit e.1=L'.testBit e.1->L.testBit e.2=L'.testBit e.2->pr t L=pr t L'
def iO(es:En)(B:Nat)(row:List Nat):List Nat:=row.filter (insT es B)
theorem jH(L p x:Nat)(b:Bool):(L|||(if b=true then 2^p else 0)).testBit x=(L.testBit x||(b&&decide (p=x))):=by
 rw[JZ]
 cases b
 ·simp
 ·simp[JE]
def hsg(s p:Nat)(b:Bool):Nat:=s|||(if b=true then 2^p else 0)
section
variable{m:Nat}{es:En}{ts:List (List Nat)}{pr:Nat->Nat->Int}{ps row:List Nat}{p F F' L:Nat}
theorem DP(h:cn es (mk ps) F)(h':cn es (mk (ps++[p])) F'){x:Nat}(hx:F'.testBit x=true):x=p∨F.testBit x=true:=by
 rw[h' x,c6]at hx
 rw[h x,c6]
 obtain⟨h1,h2⟩:=Kt.mp hx
 by_cases e:x=p
 ·exact .inl e
 ·right
  have hm:x∈ps:=by
   rcases IK.mp (of_decide_eq_true h1)with z | z
   ·exact z
   ·exact absurd (IX.mp z) e
  rw[decide_eq_true hm,K1]
  obtain⟨t,ht,hat⟩:=KO.mp h2
  refine KO.mpr ⟨t,ht,?_⟩
  have dn:∀ y,(mk (ps++[p])).testBit y=false->(mk ps).testBit y=false:=fun y z=>by
   rw[c6]at z ⊢
   exact decide_eq_false fun q=>of_decide_eq_false z (Jn _ q)
  unfold atF at hat ⊢
  rcases Bool.or_eq_true_iff.mp hat with z | z
  ·obtain⟨a,b⟩:=Kt.mp z
   have b':=dn t.2 (by simpa using b)
   rw[a,b'];rfl
  ·obtain⟨a,b⟩:=Kt.mp z
   have b':=dn t.1 (by simpa using b)
   rw[a,b'];simp
theorem DQ(h:cn es (mk ps) F)(h':cn es (mk (ps++[p])) F')(hp:p∉ps)(hL:L∈lays ps)(b:Bool):hsg (L&&&F) p b&&&F'=hsg L p b&&&F':=by
 apply Kl
 intro x
 unfold hsg
 rw[Kv,Kv,jH,jH,Kv]
 cases z:F'.testBit x
 ·simp
 ·rcases DP h h' z with e | e
  ·subst e
   have:L.testBit x=false:=by
    cases q:L.testBit x with
    |false=>rfl
    |true=>exact absurd (jM hL q) hp
   rw[this];rfl
  ·rw[e];simp
theorem AD(T:bh m es ts)(lc:Loc es pr)(h:cn es (mk ps) F)(hp:p∉ps)(hL:L∈lays ps)(b:Bool)(hrow:ts[p]?=some row){t:Nat}(ht:t∈iO es (mk (ps++[p])) row):pr t (hsg (L&&&F) p b)=pr t (hsg L p b):=by
 obtain⟨h1,h2⟩:=Kx.mp ht
 obtain⟨e,he,hep⟩:=(T.mem p row hrow t).mp h1
 obtain⟨_,_,hne⟩:=T.ends e (ID he)
 rw[kK he,c6,c6]at h2
 obtain⟨i1,i2⟩:=Kt.mp h2
 have hpB:(mk ps).testBit p=false:=by rw[c6];exact decide_eq_false hp
 have inF:∀ y,y∈ps++[p]->y≠p->(e.1=y/\e.2=p∨e.1=p/\e.2=y)->F.testBit y=true:=fun y hy hn hc=>by
  have hy':y∈ps:=by
   rcases IK.mp hy with z | z
   ·exact z
   ·exact absurd (IX.mp z) hn
  rw[h y,c6,decide_eq_true hy',K1]
  refine KO.mpr ⟨e,ID he,?_⟩
  unfold atF
  rcases hc with⟨a,c⟩ | ⟨a,c⟩
  ·rw[a,c,hpB];simp
  ·rw[a,c,hpB];simp
 have pb:(L&&&F).testBit p=false/\L.testBit p=false:=by
  have:L.testBit p=false:=by
   cases q:L.testBit p with
   |false=>rfl
   |true=>exact absurd (jM hL q) hp
  exact⟨by rw[Kv,this];rfl,this⟩
 have atp:(hsg (L&&&F) p b).testBit p=(hsg L p b).testBit p:=by unfold hsg;rw[jH,jH,pb.1,pb.2]
 have aty:∀ y,F.testBit y=true->(hsg (L&&&F) p b).testBit y=(hsg L p b).testBit y:=fun y hy=>by unfold hsg;rw[jH,jH,Kv,hy,Bool.and_true]
 rcases hep with z | z
 ·refine lc t e he _ _ (by rw[z];exact atp) (aty _ (inF e.2 (of_decide_eq_true i2) (fun q=>hne (z.trans q.symm)) (.inr ⟨z,rfl⟩)))
 ·refine lc t e he _ _ (aty _ (inF e.1 (of_decide_eq_true i1) (fun q=>hne (q.trans z.symm)) (.inl ⟨rfl,z⟩))) (by rw[z];exact atp)
theorem Eg(T:bh m es ts)(lc:Loc es pr)(h:cn es (mk ps) F)(hp:p∉ps)(hL:L∈lays ps)(b:Bool)(hrow:ts[p]?=some row) :
  cstB es pr (mk (ps++[p])) (hsg L p b)=cstB es pr (mk ps) L+sumL (iO es (mk (ps++[p])) row) (fun t=>pr t (hsg (L&&&F) p b)):=by
 have hb:∀ t∈iO es (mk (ps++[p])) row,t<es.length:=fun t ht=>by
  obtain⟨e,he,_⟩:=(T.mem p row hrow t).mp (Kx.mp ht).1
  exact(IA.mp he).1
 rw[ax (fun t ht=>AD T lc h hp hL b hrow ht),← GZ (show(iO es (mk (ps++[p])) row).Nodup from(T.nd p row hrow).filter _) hb]
 unfold cstB
 rw[← hZ]
 refine ax fun t ht=>?_
 obtain⟨e,he⟩:∃ e,es[t]?=some e:=⟨_,IB (Jz.mp ht)⟩
 have mb:t∈iO es (mk (ps++[p])) row↔(e.1=p∨e.2=p)/\insT es (mk (ps++[p])) t=true:=by
  unfold iO
  rw[Kx,T.mem p row hrow t]
  constructor
  ·rintro⟨⟨e',he',q⟩,z⟩
   rw[he]at he'
   cases he'
   exact⟨q,z⟩
  ·rintro⟨q,z⟩
   exact⟨⟨e,he,q⟩,z⟩
 by_cases hin:insT es (mk ps) t=true
 ·rw[if_pos hin]
  have hin0:=hin
  rw[kK he,c6,c6]at hin
  obtain⟨i1,i2⟩:=Kt.mp hin
  have m1:=of_decide_eq_true i1
  have m2:=of_decide_eq_true i2
  have n1:e.1≠p:=fun z=>hp (z▸m1)
  have n2:e.2≠p:=fun z=>hp (z▸m2)
  have hin':insT es (mk (ps++[p])) t=true:=by
   rw[kK he,c6,c6,decide_eq_true (Jn _ m1),decide_eq_true (Jn _ m2)];rfl
  rw[if_pos hin',if_neg (fun z=>(mb.mp z).1.elim n1 n2),JS]
  refine lc t e he _ _ ?_ ?_
  ·unfold hsg;rw[jH,decide_eq_false (fun z=>n1 z.symm),MC,KL]
  ·unfold hsg;rw[jH,decide_eq_false (fun z=>n2 z.symm),MC,KL]
 ·rw[if_neg hin,Km]
  by_cases hin':insT es (mk (ps++[p])) t=true
  ·have hep:e.1=p∨e.2=p:=by
    rw[kK he,c6,c6]at hin hin'
    obtain⟨i1,i2⟩:=Kt.mp hin'
    rcases IK.mp (of_decide_eq_true i1)with z1 | z1
    ·rcases IK.mp (of_decide_eq_true i2)with z2 | z2
     ·exact absurd (by rw[decide_eq_true z1,decide_eq_true z2];rfl) hin
     ·exact .inr (IX.mp z2)
    ·exact .inl (IX.mp z1)
   rw[if_pos hin',if_pos (mb.mpr ⟨hep,hin'⟩)]
  ·rw[if_neg hin',if_neg fun z=>hin' (mb.mp z).2]
end
theorem Dj{ps:List Nat}{p L:Nat}(b:Bool)(h:L∈lays ps):hsg L p b∈lays (ps++[p]):=by
 rw[jN]
 unfold hsg
 cases b
 ·rw[if_neg IS,L4];exact Jn _ h
 ·rw[if_pos rfl];exact IP _ (IY.mpr ⟨L,h,rfl⟩)
theorem HK{ps:List Nat}{p L':Nat}(h:L'∈lays (ps++[p])):∃ L b,L∈lays ps/\L'=hsg L p b:=by
 rw[jN]at h
 rcases IK.mp h with h | h
 ·exact⟨L',false,h,by unfold hsg;rw[if_neg IS,L4]⟩
 ·obtain⟨L,hL,rfl⟩:=IY.mp h
  exact⟨L,true,hL,by unfold hsg;rw[if_pos rfl]⟩
theorem qz{kvs:List (Key×V)}(nd:(kvs.map (·.1)).Nodup){k:Key}{v:V}(h:(k,v)∈kvs):valV kvs k=some v:=by
 induction kvs with
 |nil=>cases h
 |cons p r ih =>
  rw[Ju,JD]at nd
  rcases IL.mp h with e | h
  ·rw[← e];exact bE rfl
  ·have ne:¬ p.1=k:=fun z=>nd.1 (by rw[z];exact IY.mpr ⟨_,h,rfl⟩)
   rw[bF ne]
   exact ih nd.2 h
theorem zD{kvs:List (Key×V)}{k:Key}{v:V}(h:valV kvs k=some v):∃ j:Nat,kvs[j]?=some (k,v):=by
 induction kvs with
 |nil=>cases h
 |cons p r ih =>
  by_cases e:p.1=k
  ·rw[bE e]at h
   cases h
   exact⟨0,by rw[← e];rfl⟩
  ·rw[bF e]at h
   obtain⟨j,hj⟩:=ih h
   exact⟨j+1,hj⟩
def DcAt{α:Type}(R:V->α->Prop)(kvs:List (Key×V))(T:List (Nat×α)):Prop:=kvs.length=T.length/\∀(i:Nat)(s:Nat)(a:α),T[i]?=some (s,a)->∃ v,kvs[i]?=some ((.inl (s:Int):Key),v)/\R v a
section
variable{α:Type}{R R':V->α->Prop}{kvs:List (Key×V)}{T:List (Nat×α)}{s:Nat}{a:α}{v:V}{i:Nat}
theorem DcAt.imp(h:DcAt R kvs T)(k:∀ v a,R v a->R' v a):DcAt R' kvs T:=⟨h.1,fun i s a e=>by
 obtain⟨v,e1,e2⟩:=h.2 i s a e
 exact⟨v,e1,k v a e2⟩⟩
theorem DcAt.nil:DcAt R [] ([]:List (Nat×α)):=⟨rfl,fun i s a e=>by simp at e⟩
theorem DcAt.keys(h:DcAt R kvs T):kvs.map (·.1)=(T.map (·.1)).map fun(x:Nat)=>(Sum.inl (x:Int):Key):=by
 apply Ky
 intro i
 rw[II,II,II]
 by_cases hi:i<T.length
 ·obtain⟨⟨s,a⟩,e⟩:∃ e,T[i]?=some e:=⟨_,IB hi⟩
  obtain⟨v,e1,_⟩:=h.2 i s a e
  rw[e,e1]
  rfl
 ·rw[KY (by have:=h.1;omega),KY (by omega)]
  rfl
theorem DF{x y:Nat}(h:(Sum.inl (x:Int):Key)=Sum.inl (y:Int)):x=y:=by
 have:=Sum.inl.inj h
 omega
theorem DcAt.nd(h:DcAt R kvs T)(n:(T.map (·.1)).Nodup):(kvs.map (·.1)).Nodup:=by
 rw[h.keys]
 exact LI.map _ (fun x y hne e=>hne (DF e)) n
theorem DcAt.atK(h:DcAt R kvs T){k:Key}(e:kvs[i]?=some (k,v)):∃(s:Nat)(a:α),k=.inl (s:Int)/\T[i]?=some (s,a)/\R v a:=by
 have hi:i<T.length:=by rw[← h.1];exact(IA.mp e).1
 obtain⟨⟨s,a⟩,e2⟩:∃ e,T[i]?=some e:=⟨_,IB hi⟩
 obtain⟨v',e3,r⟩:=h.2 i s a e2
 rw[e]at e3
 obtain⟨e4,e5⟩:=Prod.mk.inj (IW e3)
 subst e5
 exact⟨s,a,e4,e2,r⟩
theorem DcAt.val(h:DcAt R kvs T)(e:valV kvs (.inl (s:Int))=some v):∃(i:Nat)(a:α),T[i]?=some (s,a)/\kvs[i]?=some ((.inl (s:Int):Key),v)/\R v a:=by
 obtain⟨i,hi⟩:=zD e
 obtain⟨s',a,e1,e2,r⟩:=h.atK hi
 have:=DF e1
 subst this
 exact⟨i,a,e2,hi,r⟩
theorem DcAt.no(h:DcAt R kvs T)(e:valV kvs (.inl (s:Int))=none):s∉T.map (·.1):=fun hm=>by
 have:=EE e
 rw[h.keys]at this
 exact this (IY.mpr ⟨s,hm,rfl⟩)
theorem DcAt.get(h:DcAt R kvs T)(n:(T.map (·.1)).Nodup)(e:(s,a)∈T):∃ v,valV kvs (.inl (s:Int))=some v/\R v a:=by
 obtain⟨i,hi⟩:=JI e
 obtain⟨v,e1,r⟩:=h.2 i s a hi
 exact⟨v,qz (h.nd n) (ID e1),r⟩
theorem DcAt.snoc(h:DcAt R kvs T)(r:R v a):DcAt R (kvs++[((.inl (s:Int):Key),v)]) (T++[(s,a)]):=by
 refine⟨by rw[IF,IF,h.1];rfl,fun j s' a' e=>?_⟩
 by_cases hj:j<T.length
 ·rw[IH hj]at e
  obtain⟨v',e1,r'⟩:=h.2 j s' a' e
  exact⟨v',by rw[IH (by rw[h.1];exact hj)];exact e1,r'⟩
 ·rw[IE (by omega)]at e
  have hj2:j=T.length:=by
   have:=(IA.mp e).1
   rw[IM]at this
   omega
  subst hj2
  rw[Je]at e
  cases e
  exact⟨v,by rw[← h.1,IE (IG _),Je];rfl,r⟩
theorem DcAt.putN(h:DcAt R kvs T)(e:valV kvs (.inl (s:Int))=Option.none)(r:R v a):DcAt R (putK kvs (.inl (s:Int)) v) (T++[(s,a)]):=by
 rw[mP v e]
 exact h.snoc r
theorem EV{kvs:List (Key×V)}(nd:(kvs.map (·.1)).Nodup){k:Key}{u v:V}{i:Nat}(e:kvs[i]?=some (k,u)):putK kvs k v=kvs.set i (k,v):=by
 unfold putK
 rw[if_pos (by rw[KO];exact⟨_,ID e,decide_eq_true rfl⟩)]
 apply Ky
 intro j
 rw[II,JP]
 by_cases hj:i=j
 ·subst hj
  rw[if_pos rfl,if_pos (IA.mp e).1,e]
  simp
 ·rw[if_neg hj]
  cases hx:kvs[j]? with
  |none=>rfl
  |some q =>
   have:¬ q.1=k:=fun z=>hj (by
    have n1:(kvs.map (·.1))[i]?=some k:=by rw[II,e];rfl
    have n2:(kvs.map (·.1))[j]?=some k:=by rw[II,hx];exact congrArg some z
    obtain⟨h1,e1⟩:=IA.mp n1
    obtain⟨h2,e2⟩:=IA.mp n2
    rcases Nat.lt_trichotomy i j with z | z | z
    ·exact absurd (e1.trans e2.symm) (Kf.mp nd i j h1 h2 z)
    ·exact z
    ·exact absurd (e2.trans e1.symm) (Kf.mp nd j i h2 h1 z))
   show some (if q.1=k then(q.1,v) else q)=some q
   rw[if_neg this]
end
theorem ES{α:Type}{T:List (Nat×α)}{i s:Nat}{a a':α}(e:T[i]?=some (s,a)):(T.set i (s,a')).map (·.1)=T.map (·.1):=by
 apply Ky
 intro j
 rw[II,II,JP]
 by_cases hj:i=j
 ·subst hj
  rw[if_pos rfl,if_pos (IA.mp e).1,e]
  rfl
 ·rw[if_neg hj]
theorem Fq(ps:List Nat):(lays ps).length=2^ps.length:=by unfold lays;rw[IJ,JV]
theorem qA:∀(n:Nat)(qs:List Nat)(s:Nat),qs.length=n->(∀ x,s.testBit x=true->x∈qs)->s∈lays qs
 |0,qs,s,hn,h=>by
  have e:qs = []:=Le.mp hn
  subst e
  have z:s=0:=Kl fun x=>by
   rw[Ki]
   cases q:s.testBit x with
   |false=>rfl
   |true=>exact absurd (h x q) (JJ)
  subst z
  exact IY.mpr ⟨0,Jz.mpr (by decide),rfl⟩
 |n+1,qs,s,hn,h=>by
  have ne:qs≠[]:=fun e=>by rw[e]at hn;cases hn
  have eq:qs.dropLast++[qs.getLast ne]=qs:=Ls ne
  generalize qs.getLast ne=q at eq
  have hl:qs.dropLast.length=n:=by rw[List.length_dropLast,hn];rfl
  generalize qs.dropLast=r at eq hl
  subst eq
  by_cases b:s.testBit q=true
  ·have hs:s^^^2^q∈lays r:=qA n r _ hl fun x hx=>by
    rw[Nat.testBit_xor,JE]at hx
    by_cases e:q=x
    ·subst e
     rw[b]at hx
     simp at hx
    ·rw[decide_eq_false e,Bool.xor_false]at hx
     rcases IK.mp (h x hx)with z | z
     ·exact z
     ·exact absurd (IX.mp z).symm e
   have e:s=hsg (s^^^2^q) q true:=Kl fun x=>by
    unfold hsg
    rw[jH,Nat.testBit_xor,JE]
    by_cases e:q=x
    ·subst e;rw[b];simp
    ·rw[decide_eq_false e];simp
   rw[e]
   exact Dj true hs
  ·have hs:s∈lays r:=qA n r _ hl fun x hx=>by
    rcases IK.mp (h x hx)with z | z
    ·exact z
    ·exact absurd (by rw[← IX.mp z];exact hx) b
   have:=Dj (p:=q) false hs
   unfold hsg at this
   rw[if_neg IS,L4]at this
   exact this
theorem FK(es:En)(pr:Nat->Nat->Int)(L:Nat):cstB es pr 0 L=0:=by
 unfold cstB
 refine(ax fun t _=>?_).trans (bw _)
 rw[if_neg]
 unfold insT
 split
 ·rw[Ki];exact IS
 ·exact IS
section
variable{l:List Nat}{q:Nat->Prop} [DecidablePred q] {f:Nat->Int} {L:Nat} {v:Pr}
end
def prT(es:En)(ks:Kn)(t L:Nat):Int:=if U es ks (L:Int) t=true then stg ks t else 0
theorem Cr{es:En}{ks:Kn}(kl:ks.length=es.length):Loc es (prT es ks):=fun t e he L L' h1 h2=>by
 obtain⟨k,hk⟩:∃ k,ks[t]?=some k:=⟨_,IB (by have:=(IA.mp he).1;omega)⟩
 unfold prT
 rw[U_at he hk,U_at he hk]
 unfold unp
 rw[bitN,bitN,bitN,bitN,h1,h2]
def qg(PL PS:Addr)(H:Hp)(es:En)(ks:Kn)(xs:List V)(bk:List Nat):Prop:=xs.length=bk.length/\∀(j t:Nat),bk[j]?=some t->∃ e k p dx,es[t]?=some e/\ks[t]?=some k/\xs[j]?=some (.ref p)/\H p=some (.ins (cls PL PS (decide (k.1=1))) dx (tf ((e.1:Nat):Int) ((e.2:Nat):Int) k.2))
theorem qg.mono{PL PS:Addr}{H H':Hp}{es:En}{ks:Kn}{xs:List V}{bk:List Nat}(h:qg PL PS H es ks xs bk)(s:Same H H'):qg PL PS H' es ks xs bk:=⟨h.1,fun j t z=>by
 obtain⟨e,k,p,dx,a,b,c,d⟩:=h.2 j t z
 exact⟨e,k,p,dx,a,b,c,s _ _ d⟩⟩
def Az(ts:List (List Nat))(p:Nat):List Nat:=(ts[p]?).getD []
def cZ(es:En)(ts:List (List Nat))(od:List Nat)(i:Nat):List (List Nat):=(JC i).map fun j=>iO es (mk (od.take (j+1))) (Az ts (od.getD j 0))
theorem Br(es:En)(ts:List (List Nat))(od:List Nat)(i:Nat):cZ es ts od (i+1)=cZ es ts od i++[iO es (mk (od.take (i+1))) (Az ts (od.getD i 0))]:=by
 unfold cZ
 rw[LS,Jr]
 rfl
def B7(PL PS WC:Addr):Sp:=fun vs H Q _=>∃(p o:Addr)(m:Nat)(es:En)(ts:List (List Nat))(ks:Kn)(od:List Nat),vs = [.ref p,.ref o]/\WebT PL PS WC H p m es ts ks/\ks.length=es.length/\bh m es ts/\m<=40/\es.length<=100/\H o=some (.lst ((cI od).map V.int))/\(∀ x∈od,x<m)/\od.length<=40 /\
 ∀ q zs H',Same H H'->H' q=some (.lst zs)->ck H' zs (cZ es ts od od.length)->Q (.ref q) H'
def wC:Sp:=fun vs H Q _=>∃ p s:Nat,vs = [.int (p:Int),.int (s:Int)]/\p<60/\∀ q,H q=none->Q (.ref q) (upd H q (.lst [.int (s:Int),.int ((s|||2^p:Nat):Int)]))
def prcB(es:En)(ks:Kn)(bk:List Nat)(h:Nat):Int:=sumL bk fun t=>prT es ks t h
theorem uJ{H H':Hp}{b:Addr}(s:Same H H')(z:H' b=none):H b=none:=by
 cases y:H b with
 |none=>rfl
 |some o=>rw[s _ _ y]at z;cases z
section
variable{P:Program}{w:World}{K:IC}{mg:Str->Option Value}{base:Heap}
theorem cQ:aC ["web","order","found","behind","place"] ["web","order"] (ah cy):=⟨rfl,rfl,rfl,by decide +kernel,rfl,by decide +kernel,by decide +kernel⟩
theorem HD{f fw PL PS WC:Addr}{fd fdw:FuncData} (F:Fun K "ties_back" "ties_back" cy f fd) (cw:CW K WC) (TL:CT K PL) (TS:CT K PS) (G_ends_within:Cal P w K mg base 1 "ends_within" ["tie","patch"] (mO K) fw fdw):FnOk P w K mg base CX0 2 f fd ["web","order"] (B7 PL PS WC):=by
 refine F.ok cQ (fun vs H Q E h=>?_) (fun cdv A outer s H vs Q E hr h=>?_)
 ·obtain⟨p,o,m,es,ts,ks,od,rfl,_⟩:=h
  rfl
 obtain⟨p,o,m,es,ts,ks,od,rfl,⟨dx,fs,q1,xs,q3,z3,hp,lm,l1,h1,tk,l3,h3,rw3⟩,kl,tn,m40,e100,ho,ob,o40,kk⟩:=h
 have hxl:xs.length=es.length:=tk.1
 have ct:∀ b,CT K (cls PL PS b):=fun b=>by
  unfold cls
  split
  ·exact TS
  ·exact TL
 have ol:(cI od).length=od.length:=by unfold cI;rw[IJ]
 refine⟨_,(ag (az (i:=2) cQ.nd rfl (Or.inl rfl) (eS ak))
   (ag (az (i:=3) cQ.nd rfl (Or.inr rfl) aj)
   (ag (cu PassesOwn.never rfl (bx (pv 1)) (aH (i:=4) cQ.nd rfl (Or.inl rfl)) (ag (az (i:=3) cQ.nd rfl (Or.inr rfl) (aA xD (pv 3) (aA jI aj (pv 4))))
   (ao (bp (i0 Jt Jw Jv bg (pv 2) (aa (zR rfl (fr:=[("web",0),("behind",3)]) (xs:=["number"]) (tw.of (by rfl) (by decide +kernel) (by rfl) (by decide +kernel) (by intro p hp;simp only[IL,JJ,or_false]at hp;rcases hp with rfl | rfl<;>exact⟨rfl,rfl⟩) (by decide +kernel) (by intro p hp;simp only[IL,JJ,or_false]at hp;rcases hp with rfl | rfl<;>rfl)) (bx (bL bJ (b5 (pv 0) rfl) (pv 4) (fun _ _=>rfl))) (fun C ex s H=>(aH (i:=0) (show(["number","web","behind"]:List Str).Nodup from by decide +kernel) rfl (Or.inl rfl))) (fun C ex s H=>(Cm (aG rf (aI G_ends_within.ok (hr.mono (by decide)) rfl G_ends_within.mg G_ends_within.kp G_ends_within.bn .nil bt (aa (bL (Ab (K:=K) rfl) (qW (K:=K) rfl (pv 1) rfl) (pv 0) (fun _ _=>rfl)) (aa (pv 2) ak))) aj (aM _)))) (fun C ex s H=>(pv 0))) ak))))))
   (ao (aK (pv 2)))))),?_⟩
 refine⟨(by show 0<=sizeLine;decide),fun qf hqf=>?_⟩
 have s1:=aq hqf (.lst [])
 refine⟨_,rfl,o,rfl,⟨_,SqL.of (s1 _ _ ho)⟩,cO (K:=K) (xs:=(cI od).map V.int) (fun i σ H3=>∃ v4 zs,σ = [some (.ref p),some (.ref o),some (.ref qf),some (.int ((mk (od.take i):Nat):Int)),v4]/\Same H H3/\H3 qf=some (.lst zs)/\cp (fun a=>a=qf) H3 zs (cZ es ts od i)) ⟨_,[],rfl,s1,ae,rfl,fun i l e=>by simp[cZ]at e⟩ (fun i σ H3 _ ⟨_,_,_,z,_⟩=>SqL.of (z _ _ ho)) ?_ ?_⟩
 ·rintro i x σ H3 hx ⟨v4,zs,rfl,s3,hf3,rx⟩
  rw[II]at hx
  obtain⟨y,hy,rfl⟩:=Jd.mp hx
  unfold cI at hy
  rw[II]at hy
  obtain⟨pl,hpl,rfl⟩:=Jd.mp hy
  have hb:=ob pl (ID hpl)
  have hi:i<od.length:=(IA.mp hpl).1
  have et:od.take (i+1)=od.take i++[pl]:=by rw[Jk,hpl];rfl
  have gd:od.getD i 0=pl:=by rw[IT,hpl];rfl
  refine⟨_,rfl,_,rfl,_,_,rfl,rfl,⟨by omega,by omega,by decide⟩,_,_,rfl,rfl,?_⟩
  have eo:Builtin.bitOr ((mk (od.take i):Nat):Int) (1*2^((pl:Nat):Int).toNat)=((mk (od.take (i+1)):Nat):Int):=by rw[et,C3,shlN,orN]
  obtain⟨row,hrow⟩:∃ row,ts[pl]?=some row:=⟨_,IB (by rw[tn.len];exact hb)⟩
  obtain⟨r,r1,r2⟩:=rw3.2 pl row hrow
  have era:Az ts (od.getD i 0)=row:=by unfold Az;rw[gd,hrow];rfl
  have zl:zs.length=i:=by rw[rx.1];unfold cZ;rw[IJ,JV]
  have rl:row.length<=es.length:=by
   refine gA (tn.nd pl row hrow) fun t ht=>?_
   obtain⟨e,he,_⟩:=(tn.mem pl row hrow t).mp ht
   exact(IA.mp he).1
  refine⟨_,rfl,.inl ⟨rfl,_,SqL.of hf3⟩,_,rfl,p,WC,dx,fs,_,rfl,s3 _ _ hp,cw.cl,cw.n3,l3,_,rfl,q3,z3,_,_,rfl,rfl,SqL.of (s3 _ _ h3),bD r1,r,rfl,⟨_,SqL.of (s3 _ _ r2)⟩,qb (K:=K) (xs:=row.map iV) (fun j ys H4=>H4=H3/\ys=(iO es (mk (od.take (i+1))) (row.take j)).map iV) (JY (aB (by rw[IJ];omega))) ⟨rfl,rfl⟩ (fun j ys H4 _ z=>by rw[z.1];exact SqL.of (s3 _ _ r2)) ?_ ?_ ?_⟩
  ·rintro j x ys H4 hx ⟨rfl,rfl⟩
   rw[II]at hx
   obtain⟨t,ht,rfl⟩:=Jd.mp hx
   obtain⟨e,he,_⟩:=(tn.mem pl row hrow t).mp (ID ht)
   obtain⟨k,hk⟩:∃ k,ks[t]?=some k:=⟨_,IB (by have:=(IA.mp he).1;omega)⟩
   obtain⟨p',dx',x1,x2⟩:=tk.2 t e k he hk
   have etk:row.take (j+1)=row.take j++[t]:=by rw[Jk,ht];rfl
   refine⟨rfl,_,rfl,p,WC,dx,fs,_,rfl,s3 _ _ hp,cw.cl,cw.n2,l1,_,rfl,q1,xs,_,_,rfl,rfl,SqL.of (s3 _ _ h1),bD x1,_,rfl,p',_,dx',_,_,_,_,rfl,s3 _ _ x2,ct _,by omega,by omega,rfl,_,rfl,?_⟩
   have hin:(bit (Builtin.bitOr ((mk (od.take i):Nat):Int) (1*2^((pl:Nat):Int).toNat)) (e.1:Int)+bit (Builtin.bitOr ((mk (od.take i):Nat):Int) (1*2^((pl:Nat):Int).toNat)) (e.2:Int)=2)↔insT es (mk (od.take (i+1))) t=true:=by
    rw[eo,bitN,bitN,kK he]
    cases (mk (od.take (i+1))).testBit e.1<;>cases (mk (od.take (i+1))).testBit e.2<;>decide
   refine ite2 (fun c=>?_) (fun c=>?_)
   ·have c':=hin.mp (V.int.inj (of_decide_eq_true c))
    refine⟨_,rfl,rfl,?_⟩
    unfold iO
    rw[etk,Lv,MK c',Jr]
    rfl
   ·have c':¬ insT es (mk (od.take (i+1))) t=true:=fun z=>c (decide_eq_true (congrArg V.int (hin.mpr z)))
    refine⟨rfl,?_⟩
    unfold iO
    rw[etk,Lv,MM c',Mu,Kz]
  ·rintro ys H4 ⟨rfl,rfl⟩ D hD
   rw[IJ,Jy]
   have Dq:D≠qf:=fun z=>by rw[z,hf3]at hD;cases hD
   have s4:=aq hD (.lst ((iO es (mk (od.take (i+1))) row).map iV))
   refine⟨qf,zs,_,rfl,rfl,s4 _ _ hf3,aB (by omega),?_⟩
   refine⟨some (.int (pl:Int)),zs++[.ref D],?_,bu (s3.trans s4) hqf _,ae,?_⟩
   ·show[some (V.ref p),some (V.ref o),some (V.ref qf),some (V.int (Builtin.bitOr ((mk (od.take i):Nat):Int) (1*2^((pl:Nat):Int).toNat))),some (V.int (pl:Int))]=_
    rw[eo]
   ·rw[Br,era]
    have r0:cp (fun a=>a=qf) (upd (upd H4 D (.lst ((iO es (mk (od.take (i+1))) row).map iV))) qf (.lst (zs++[.ref D]))) zs (cZ es ts od i):=⟨rx.1,fun j l e=>by
     obtain⟨a,a1,a2,a3⟩:=rx.2 j l e
     exact⟨a,a1,a2,by rw[ai a2];exact s4 _ _ a3⟩⟩
    exact r0.snoc Dq (by rw[ai Dq];exact ae)
  ·rintro j ys H4 ⟨_,rfl⟩
   rw[IJ]
   unfold iO
   exact JG (Lm _ _) (by rw[Jg];exact Nat.min_le_left _ _)
 ·rintro σ H3 ⟨v4,zs,rfl,s3,hf3,rx⟩
  rw[IJ,ol]at rx
  exact⟨_,rfl,kk qf zs H3 s3 hf3 rx.off⟩
theorem qK:aC ["place","signs"] ["place","signs"] (ah bR):=⟨rfl,rfl,rfl,by decide +kernel,rfl,by decide +kernel,by decide +kernel⟩
theorem Fb{f:Addr}{fd:FuncData} (F:Fun K "signs_with" "signs_with" bR f fd):FnOk P w K mg base CX0 1 f fd ["place","signs"] wC:=by
 refine F.ok qK (fun vs H Q E h=>?_) (fun cdv A outer s H vs Q E hr h=>?_)
 ·obtain⟨p,sg,rfl,_⟩:=h
  rfl
 obtain⟨p,sg,rfl,hp,kk⟩:=h
 refine⟨_,(ao (aK (eS (aa (pv 1) (aa (aA xD (pv 1) (aA jI aj (pv 0))) ak))))),?_⟩
 refine⟨_,rfl,_,rfl,_,rfl,_,_,rfl,rfl,⟨by omega,by omega,by decide⟩,_,_,rfl,rfl,(by show 2<=sizeLine;decide),fun q hq=>?_⟩
 have eo:Builtin.bitOr (sg:Int) (1*2^((p:Nat):Int).toNat)=((sg|||2^p:Nat):Int):=by rw[shlN,orN]
 have:=kk q hq
 rw[← eo]at this
 exact this
end
end K8
namespace K8
open PySem L2
local macro_rules | `(tactic| walk_at "cc") => `(tactic| first | exact ⟨by decide, by decide⟩ | (show (0 : Int) < _; decide) | (show (0 : Int) < _; omega) | (show (0 : Int) ≤ _; omega) | exact ⟨by decide, by decide, by decide⟩ | exact ⟨by omega, by omega, by decide⟩ | exact Or.inl ⟨by decide, by decide⟩ | exact Or.inl ⟨by omega, by omega⟩)
local macro_rules | `(tactic| walk_at "rd") => `(tactic| repeat (first | refine ⟨_, rfl, ?_⟩ | refine ⟨_, _, rfl, rfl, ?_⟩ | refine ⟨rfl, ?_⟩ | (refine ⟨?cc, ?_⟩; (case cc => walk_at "cc"))))
abbrev Hs:=List (Int×Int)
def repD(D:Hs):List (Key×V):=D.map fun e=>((.inl e.1:Key),V.int e.2)
structure Hst(D:Hs)(g:Int->Int):Prop where
 nd:(D.map (·.1)).Nodup
 ex:∀ x n,(x,n)∈D->n=g x/\0<n
 al:∀ x,g x≠0->x∈D.map (·.1)
theorem Hst.cg{D:Hs}{g g':Int->Int}(h:Hst D g)(e:∀ x,g x=g' x):Hst D g':=by
 have:g=g':=funext e
 rw[← this]
 exact h
theorem Cj(D:Hs):(repD D).map (·.1)=(D.map (·.1)).map fun x=>(Sum.inl x:Key):=by
 unfold repD
 rw[KD,KD]
 rfl
theorem xh{D:Hs}(h:(D.map (·.1)).Nodup):((repD D).map (·.1)).Nodup:=by
 rw[Cj]
 exact LI.map _ (fun x y hne e=>hne (Sum.inl.inj e)) h
theorem qO{D:Hs}{g:Int->Int}(h:Hst D g)(y:Int):(∃ i:Nat,D[i]?=some (y,g y)/\valV (repD D) (.inl y)=some (.int (g y))/\(repD D)[i]?=some ((.inl y:Key),.int (g y)))∨(y∉D.map (·.1)/\g y=0/\valV (repD D) (.inl y)=none):=by
 by_cases hy:y∈D.map (·.1)
 ·obtain⟨⟨x,n⟩,hm,e⟩:=IY.mp hy
  have e':x=y:=e
  subst e'
  obtain⟨i,hi⟩:=JI hm
  have en:=(h.ex x n hm).1
  subst en
  have hr:(repD D)[i]?=some ((.inl x:Key),.int (g x)):=by unfold repD;rw[II,hi];rfl
  exact .inl ⟨i,hi,qz (xh h.nd) (ID hr),hr⟩
 ·have g0:g y=0:=by
   by_cases z:g y=0
   ·exact z
   ·exact absurd (h.al y z) hy
  refine .inr ⟨hy,g0,?_⟩
  cases z:valV (repD D) (.inl y) with
  |none=>rfl
  |some v =>
   obtain⟨j,hj⟩:=zD z
   exfalso
   refine hy ?_
   unfold repD at hj
   rw[II]at hj
   obtain⟨e,he,e2⟩:=Jd.mp hj
   have:e.1=y:=Sum.inl.inj (Prod.mk.inj e2).1
   exact IY.mpr ⟨e,ID he,this⟩
theorem Hst.bump{D:Hs}{g:Int->Int}(h:Hst D g)(y:Int){n:Int}(hn:0<n):∃ D':Hs,putK (repD D) (.inl y) (.int (g y+n))=repD D'/\D'.length<=D.length+1/\Hst D' (fun x=>g x+if x=y then n else 0):=by
 rcases qO h y with⟨i,hi,_,hr⟩ | ⟨ny,g0,hv⟩
 ·have hl:=(IA.mp hi).1
  have ks:(D.set i (y,g y+n)).map (·.1)=D.map (·.1):=by
   apply Ky
   intro j
   rw[II,II,JP]
   by_cases hj:i=j
   ·subst hj
    rw[if_pos rfl,if_pos hl,hi]
    rfl
   ·rw[if_neg hj]
  refine⟨D.set i (y,g y+n),?_,by rw[JO];omega,⟨by rw[ks];exact h.nd,fun x m hm=>?_,fun x hx=>?_⟩⟩
  ·rw[EV (xh h.nd) hr]
   unfold repD
   rw[List.map_set]
  ·obtain⟨j,hj⟩:=JI hm
   rw[JP]at hj
   by_cases e:i=j
   ·subst e
    rw[if_pos rfl,if_pos hl]at hj
    cases hj
    have:=(h.ex y (g y) (ID hi)).2
    exact⟨by rw[if_pos rfl],by omega⟩
   ·rw[if_neg e]at hj
    have q:=h.ex x m (ID hj)
    have nx:x≠y:=fun z=>by
     subst z
     have n1:(D.map (·.1))[i]?=some x:=by rw[II,hi];rfl
     have n2:(D.map (·.1))[j]?=some x:=by rw[II,hj];rfl
     exact e ((LB (IA.mp n1).1 h.nd).mp (n1.trans n2.symm))
    exact⟨by rw[if_neg nx,JS];exact q.1,q.2⟩
  ·rw[ks]
   by_cases nx:x=y
   ·subst nx
    exact IY.mpr ⟨_,ID hi,rfl⟩
   ·rw[if_neg nx,JS]at hx
    exact h.al x hx
 ·refine⟨D++[(y,n)],?_,by rw[IF];exact IG _,⟨?_,fun x m hm=>?_,fun x hx=>?_⟩⟩
  ·rw[mP _ hv,g0,Km]
   unfold repD
   rw[Jr]
   rfl
  ·rw[Jr]
   refine Jo.mpr ⟨h.nd,by simp,fun a ha b hb e=>?_⟩
   have:b=y:=by simpa using hb
   rw[e,this]at ha
   exact ny ha
  ·rcases IK.mp hm with hm | hm
   ·have q:=h.ex x m hm
    have nx:x≠y:=fun z=>ny (by rw[← z];exact IY.mpr ⟨_,hm,rfl⟩)
    exact⟨by rw[if_neg nx,JS];exact q.1,q.2⟩
   ·cases IX.mp hm
    exact⟨by rw[if_pos rfl,g0,Km],hn⟩
  ·rw[Jr]
   by_cases nx:x=y
   ·subst nx
    exact IP _ (by simp)
   ·rw[if_neg nx,JS]at hx
    exact Jn _ (h.al x hx)
def cntL(E:Hs)(x:Int):Int:=sumL E fun e=>if e.1=x then e.2 else 0
theorem Hst.cnt{E:Hs}{g:Int->Int}(h:Hst E g)(x:Int):cntL E x=g x:=by
 unfold cntL
 by_cases hx:x∈E.map (·.1)
 ·obtain⟨e,he,ee⟩:=IY.mp hx
  have q:=jF (fun y:Int×Int=>y.1) (l:=E) (x:=e) (fun y=>y.2) h.nd he
  have ee':e.1=x:=ee
  have cg:sumL E (fun e=>if e.1=x then e.2 else 0)=sumL E (fun y=>if e.1=y.1 then y.2 else 0):=ax fun y _=>by
   rw[ee']
   by_cases z:y.1=x
   ·rw[if_pos z,if_pos z.symm]
   ·rw[if_neg z,if_neg (Ne.symm z)]
  rw[cg,q,← ee']
  exact(h.ex e.1 e.2 he).1
 ·rw[ax (g:=fun _=>(0:Int)) fun e he=>if_neg fun z=>hx (IY.mpr ⟨e,he,z⟩),bw]
  by_cases z:g x=0
  ·exact z.symm
  ·exact absurd (h.al x z) hx
def EN:Sp:=fun vs H Q _=>∃(c m:Addr)(pr:Int)(D E:Hs)(g h:Int->Int),vs = [.ref c,.int pr,.ref m]/\c≠m/\H c=some (.dK (repD D))/\Hst D g/\DRd H m (.dK (repD E))/\Hst E h/\D.length+E.length<=200000 /\
 ∀(D':Hs)(o:Obj)(H':Hp),(∀ b u,b≠c->b≠m->H b=some u->H' b=some u)->H' c=some (.dK (repD D'))->H' m=some (.frz o (.dK (repD E)))->D'.length<=D.length+E.length->Hst D' (fun x=>g x+h (x-pr))->Q .non H'
section
variable{P:Program}{w:World}{K:IC}{mg:Str->Option Value}{base:Heap}
theorem e9:aC ["counts","price","more","worth","many"] ["counts","price","more"] (ah bV):=⟨rfl,rfl,rfl,by decide +kernel,rfl,by decide +kernel,by decide +kernel⟩
theorem ok_add{f:Addr}{fd:FuncData} (F:Fun K "add_counts" "add_counts" bV f fd):FnOk P w K mg base CX0 1 f fd ["counts","price","more"] EN:=by
 refine F.ok e9 (fun vs H Q E h=>?_) (fun cdv A outer s H vs Q E hr h=>?_)
 ·obtain⟨c,m,pr,D,E,g,h,rfl,_⟩:=h
  rfl
 obtain⟨c,m,pr,D,Em,g,hh,rfl,cm,hc,hD,hm,hE,l9,kk⟩:=h
 have hu:=yA hr
 refine⟨_,(ao (cu PassesOwn.never rfl (uj (ur (pv 2))) (nC rfl (bq (aH (i:=3) e9.nd rfl (Or.inl rfl)) (bq (aH (i:=4) e9.nd rfl (Or.inl rfl)) iZ))) (ao (qP hu (pv 0) (aA cU (pv 3) (pv 1)) (aA cU (zQ hu (pv 0) (aA cU (pv 3) (pv 1)) aj ⟨rfl,rfl,rfl,rfl⟩) (pv 4)) rfl)))),?_⟩
 refine⟨_,rfl,m,_,rfl,hm,fun vw hvw=>?_⟩
 have vm:vw≠m:=fun z=>by
  rcases hm.2 with q | ⟨o,q⟩<;>(rw[← z,hvw]at q;cases q)
 have vc:vw≠c:=fun z=>by rw[z,hc]at hvw;cases hvw
 have hm1:DRd (upd H vw (cV vw m)) m (.dK (repD Em)):=⟨hm.1,by rw[ai (Ne.symm vm)];exact hm.2⟩
 refine⟨vw,m,_,rfl,ae,hm1,fun o _=>?_⟩
 refine nW (u:=.dK (repD Em)) (d:=m) (o:=o) (fun i σ H4=>∃ v3 v4 D',σ = [some (.ref c),some (.int pr),some (.ref m),v3,v4]/\(∀ b u,b≠c->b≠m->H b=some u->H4 b=some u)/\H4 m=some (.frz o (.dK (repD Em)))/\H4 c=some (.dK (repD D'))/\D'.length<=D.length+i/\Hst D' (fun x=>g x+cntL (Em.take i) (x-pr))) ⟨_,_,D,rfl,fun b u _ n q=>by rw[ai n,ai (ar q hvw)];exact q,ae,by rw[ai cm,ai (Ne.symm vc)];exact hc,by omega,hD.cg fun x=>by show g x=g x+0;rw[JS]⟩ (fun i σ H4 _ ⟨_,_,_,_,_,z,_⟩=>z) ?_ ?_
 ·rintro i x y σ H4 T4 hi hkv ⟨v3,v4,D',rfl,s4,hm4,hc4,dl,hst⟩ hT4
  obtain⟨kvs',k,eu,hki,ex⟩:∃ kvs' k,HO.dK (repD Em)=HO.dK kvs'/\kvs'[i]?=some (k,y)/\x=kV k:=by
   rcases hkv with z | ⟨_,_,_,z,_⟩
   ·exact z
   ·cases z
  obtain rfl:=HO.dK.inj eu
  unfold repD at hki
  rw[II]at hki
  obtain⟨e,he,e2⟩:=Jd.mp hki
  cases e2
  subst ex
  have ci:T4≠c:=fun z=>by rw[z,hc4]at hT4;cases hT4
  have mi:T4≠m:=fun z=>by rw[z,hm4]at hT4;cases hT4
  refine⟨T4,_,rfl,SqT.of ae,rfl,_,_,rfl,_,_,rfl,rfl,?_⟩
  have s5:=aq hT4 (.tup [kV (.inl e.1),.int e.2])
  generalize upd H4 T4 (.tup [kV (.inl e.1),.int e.2])=H5 at s5
  have hc5:=s5 _ _ hc4
  have il:i<Em.length:=(IA.mp he).1
  have epos:=(hE.ex e.1 e.2 (ID he)).2
  obtain⟨D2,ep,dl2,hst2⟩:=hst.bump (e.1+pr) epos
  have hv:(valV (repD D') (.inl (e.1+pr))).getD (.int 0)=.int (g (e.1+pr)+cntL (Em.take i) (e.1+pr-pr)):=by
   rcases qO hst (e.1+pr) with⟨_,_,q,_⟩ | ⟨_,q0,q⟩
   ·rw[q];rfl
   ·rw[q]
    exact congrArg V.int q0.symm
  have l2:(repD D').length<sizeLine:=by unfold repD;rw[IJ,sizeLine_eq];omega
  refine⟨_,rfl,c,rfl,.inl ⟨_,.inl hc5⟩,_,rfl,_,rfl,_,_,rfl,rfl,_,DGet.k (k:=.inl (e.1+pr)) hc5,_,rfl,_,_,hv,rfl,?_⟩
  refine⟨_,rfl,_,rfl,_,rfl,_,_,rfl,rfl,c,_,rfl,DPut.k (k:=.inl (e.1+pr)) hc5 l2,?_⟩
  refine⟨_,_,D2,rfl,fun b u n1 n2 q=>by rw[ai n1];exact s5 _ _ (s4 b u n1 n2 q),by rw[ai (Ne.symm cm)];exact s5 _ _ hm4,?_,by omega,hst2.cg fun x=>?_⟩
  ·rw[ae]
   exact congrArg (fun z=>some (HO.dK z)) ep
  ·have et:Em.take (i+1)=Em.take i++[e]:=by rw[Jk,he];rfl
   rw[et]
   unfold cntL
   rw[hX,av,da,JS]
   by_cases z:x=e.1+pr
   ·rw[if_pos z,if_pos (by omega)];omega
   ·rw[if_neg z,if_neg (by omega)];omega
 ·rintro σ H4 ⟨v3,v4,D',rfl,s4,hm4,hc4,dl,hst⟩
  have ll:(repD Em).length=Em.length:=by unfold repD;rw[IJ]
  have dl':dlen (.dK (repD Em))=Em.length:=ll
  rw[dl']at dl hst
  rw[Jy]at hst
  exact kk D' o H4 s4 hc4 hm4 dl (hst.cg fun x=>by rw[hE.cnt])
end
end K8
namespace K8
open PySem L2
local macro_rules | `(tactic| walk_at "cc") => `(tactic| first | exact ⟨by decide, by decide⟩ | (show (0 : Int) < _; decide) | (show (0 : Int) < _; omega) | (show (0 : Int) ≤ _; omega) | exact ⟨by decide, by decide, by decide⟩ | exact ⟨by omega, by omega, by decide⟩ | exact Or.inl ⟨by decide, by decide⟩ | exact Or.inl ⟨by omega, by omega⟩)
local macro_rules | `(tactic| walk_at "rd") => `(tactic| repeat (first | refine ⟨_, rfl, ?_⟩ | refine ⟨_, _, rfl, rfl, ?_⟩ | refine ⟨rfl, ?_⟩ | (refine ⟨?cc, ?_⟩; (case cc => walk_at "cc"))))
structure FndD(S:Addr->Prop)(H:Hp)(f:Addr)(kvs:List (Key×V))(G:List (Nat×Hs)):Prop where
 d:H f=some (.dK kvs)
 w:DcAt (fun v D=>∃ a,v=.ref a/\¬ S a/\H a=some (.dK (repD D))) kvs G
 ds:∀(i j:Nat)(k l:Key)(a:Addr),kvs[i]?=some (k,.ref a)->kvs[j]?=some (l,.ref a)->i=j
section
variable{S:Addr->Prop}{H H':Hp}{f:Addr}{kvs:List (Key×V)}{G:List (Nat×Hs)}
theorem FndD.keep(h:FndD S H f kvs G)(k:∀ b u,(b=f∨¬ S b)->H b=some u->H' b=some u):FndD S H' f kvs G :=
 ⟨k _ _ (.inl rfl) h.d,h.w.imp fun v w ⟨a,e,n,z⟩=>⟨a,e,n,k _ _ (.inr n) z⟩,h.ds⟩
theorem FndD.app{s i:Nat}{D D':Hs}{a:Addr}(h:FndD S H f kvs G)(hG:G[i]?=some (s,D))(hk:kvs[i]?=some ((.inl (s:Int):Key),.ref a))(hS:¬ S a)(fa:f≠a)(keep:∀ b u,b≠a->(b=f∨¬ S b)->H b=some u->H' b=some u)(ha:H' a=some (.dK (repD D'))) :
  FndD S H' f kvs (G.set i (s,D')):=by
 refine⟨keep _ _ fa (.inl rfl) h.d,⟨by rw[JO];exact h.w.1,fun j s' w' e'=>?_⟩,h.ds⟩
 rw[JP]at e'
 by_cases hj:i=j
 ·subst hj
  rw[if_pos rfl,if_pos (IA.mp hG).1]at e'
  cases e'
  exact⟨.ref a,hk,a,rfl,hS,ha⟩
 ·rw[if_neg hj]at e'
  obtain⟨v,e1,b,rfl,n,z⟩:=h.w.2 j s' w' e'
  exact⟨.ref b,e1,b,rfl,n,keep _ _ (fun q=>hj (h.ds i j _ _ a hk (q▸e1))) (.inr n) z⟩
theorem FndD.key{s:Nat}{l:Addr}(h:FndD S H f kvs G)(hv:valV kvs (.inl (s:Int))=none)(lf:l≠f)(hl:H l=some (.dK []))(hS:¬ S l)(nw:∀ (i:Nat) (k:Key),kvs[i]?≠some (k,.ref l))(nf:∀ (i:Nat) (k:Key),kvs[i]?≠some (k,.ref f)) :
  FndD S (upd H f (.dK (putK kvs (.inl (s:Int)) (.ref l)))) f (putK kvs (.inl (s:Int)) (.ref l)) (G++[(s,[])]):=by
 have w2:DcAt (fun v D=>∃ a,v=.ref a/\¬ S a/\upd H f (.dK (putK kvs (.inl (s:Int)) (.ref l))) a=some (.dK (repD D))) kvs G:=⟨h.w.1,fun i s' D e=>by
  obtain⟨v,e1,a,rfl,n,z⟩:=h.w.2 i s' D e
  refine⟨.ref a,e1,a,rfl,n,?_⟩
  rw[ai (fun q=>nf i _ (q▸e1))]
  exact z⟩
 refine⟨ae,w2.putN hv ⟨l,rfl,hS,by rw[ai lf];exact hl⟩,?_⟩
 rw[mP _ hv]
 intro i j k k' a e1 e2
 have one:∀(i:Nat)(k:Key)(a:Addr),(kvs++[((.inl (s:Int):Key),V.ref l)])[i]?=some (k,.ref a)->(i<kvs.length/\kvs[i]?=some (k,.ref a))∨(i=kvs.length/\a=l):=fun i k a e=>by
  by_cases hi:i<kvs.length
  ·rw[IH hi]at e
   exact .inl ⟨hi,e⟩
  ·rw[IE (by omega)]at e
   have hi2:i=kvs.length:=by
    have:=(IA.mp e).1
    rw[IM]at this
    omega
   subst hi2
   rw[Je]at e
   have:=(Prod.mk.inj (IW e)).2
   exact .inr ⟨rfl,(V.ref.inj this).symm⟩
 rcases one i k a e1 with⟨a1,a2⟩ | ⟨a1,a2⟩
 ·rcases one j k' a e2 with⟨b1,b2⟩ | ⟨b1,b2⟩
  ·exact h.ds i j _ _ a a2 b2
  ·exact absurd (b2▸a2) (nw i k)
 ·rcases one j k' a e2 with⟨b1,b2⟩ | ⟨b1,b2⟩
  ·exact absurd (a2▸b2) (nw j k')
  ·omega
end
def gH(F':Nat)(Z:List (Nat×Int×Hs))(s:Nat)(x:Int):Int:=sumL Z fun z=>if z.1&&&F'=s then cntL z.2.2 (x-z.2.1) else 0
def lenZ(Z:List (Nat×Int×Hs)):Nat:=(Z.map fun z=>z.2.2.length).sum
structure GrpH(F':Nat)(Z:List (Nat×Int×Hs))(G:List (Nat×Hs)):Prop where
 nd:(G.map (·.1)).Nodup
 has:∀ z∈Z,z.1&&&F'∈G.map (·.1)
 hs:∀ s D,(s,D)∈G->Hst D (gH F' Z s)/\D.length<=lenZ Z
 ln:G.length<=Z.length
theorem GrpH.nil(F':Nat):GrpH F' [] []:=⟨K5,fun z hz=>(by cases hz),fun s w h=>(by cases h),IG _⟩
theorem r8(F':Nat)(Z:List (Nat×Int×Hs))(z:Nat×Int×Hs)(s:Nat)(x:Int):gH F' (Z++[z]) s x=gH F' Z s x+if z.1&&&F'=s then cntL z.2.2 (x-z.2.1) else 0:=by
 unfold gH
 rw[hX,av,da,JS]
theorem jK(Z:List (Nat×Int×Hs))(z:Nat×Int×Hs):lenZ (Z++[z])=lenZ Z+z.2.2.length:=by
 unfold lenZ
 rw[Jr,Mt]
 simp
theorem GrpH.old{F':Nat}{Z:List (Nat×Int×Hs)}{G:List (Nat×Hs)}{z:Nat×Int×Hs}{i:Nat}{D D':Hs}(h:GrpH F' Z G)(e:G[i]?=some (z.1&&&F',D))(hD:Hst D' (fun x=>gH F' Z (z.1&&&F') x+cntL z.2.2 (x-z.2.1)))(hl:D'.length<=D.length+z.2.2.length):GrpH F' (Z++[z]) (G.set i (z.1&&&F',D')):=by
 have ks:=ES (a':=D') e
 refine⟨by rw[ks];exact h.nd,fun y hy=>?_,fun s E hE=>?_,by rw[JO,IF];exact K0 h.ln⟩
 ·rw[ks]
  rcases IK.mp hy with hy | hy
  ·exact h.has y hy
  ·rw[IX.mp hy]
   exact IY.mpr ⟨_,ID e,rfl⟩
 ·obtain⟨j,hj⟩:=JI hE
  rw[JP]at hj
  by_cases ij:i=j
  ·subst ij
   rw[if_pos rfl,if_pos (IA.mp e).1]at hj
   cases hj
   have q:=(h.hs _ D (ID e)).2
   refine⟨hD.cg fun x=>by rw[r8,if_pos rfl],?_⟩
   rw[jK]
   omega
  ·rw[if_neg ij]at hj
   have q:=h.hs s E (ID hj)
   have ns:z.1&&&F'≠s:=fun zz=>by
    have n1:(G.map (·.1))[i]?=some s:=by rw[II,e,← zz];rfl
    have n2:(G.map (·.1))[j]?=some s:=by rw[II,hj];rfl
    exact ij ((LB (IA.mp n1).1 h.nd).mp (n1.trans n2.symm))
   refine⟨q.1.cg fun x=>by rw[r8,if_neg ns,JS],?_⟩
   rw[jK]
   omega
theorem GrpH.zero{F':Nat}{Z:List (Nat×Int×Hs)}{G:List (Nat×Hs)}{s:Nat}(h:GrpH F' Z G)(n:s∉G.map (·.1))(x:Int):gH F' Z s x=0:=by
 unfold gH
 have cg:sumL Z (fun z=>if z.1&&&F'=s then cntL z.2.2 (x-z.2.1) else 0)=sumL Z (fun _=>(0:Int)):=ax fun z hz=>if_neg fun e=>n (by rw[← e];exact h.has z hz)
 rw[cg,bw]
theorem GrpH.new{F':Nat}{Z:List (Nat×Int×Hs)}{G:List (Nat×Hs)}{z:Nat×Int×Hs}{D':Hs}(h:GrpH F' Z G)(n:z.1&&&F'∉G.map (·.1))(hD:Hst D' (fun x=>cntL z.2.2 (x-z.2.1)))(hl:D'.length<=z.2.2.length):GrpH F' (Z++[z]) (G++[(z.1&&&F',D')]):=by
 refine⟨?_,fun y hy=>?_,fun s' E hE=>?_,by rw[IF,IF];exact Nat.succ_le_succ h.ln⟩
 ·rw[Jr]
  refine Jo.mpr ⟨h.nd,by simp,fun a ha b hb e=>?_⟩
  have:b=z.1&&&F':=by simpa using hb
  rw[e,this]at ha
  exact n ha
 ·rw[Jr]
  rcases IK.mp hy with hy | hy
  ·exact Jn _ (h.has y hy)
  ·rw[IX.mp hy]
   exact IP _ (by simp)
 ·rcases IK.mp hE with hE | hE
  ·have q:=h.hs s' E hE
   have ns:z.1&&&F'≠s':=fun e=>n (by rw[e];exact IY.mpr ⟨_,hE,rfl⟩)
   refine⟨q.1.cg fun x=>by rw[r8,if_neg ns,JS],?_⟩
   rw[jK]
   omega
  ·cases IX.mp hE
   refine⟨hD.cg fun x=>by rw[r8,if_pos rfl,h.zero n,Km],?_⟩
   rw[jK]
   omega
theorem HU:Hst [] (fun _=>0):=⟨K5,fun x m hm=>(by cases hm),fun x hx=>absurd rfl hx⟩
end K8
namespace K8
open PySem L2
local macro_rules | `(tactic| walk_at "cc") => `(tactic| first | exact ⟨by decide, by decide⟩ | (show (0 : Int) < _; decide) | (show (0 : Int) < _; omega) | (show (0 : Int) ≤ _; omega) | exact ⟨by decide, by decide, by decide⟩ | exact ⟨by omega, by omega, by decide⟩ | exact Or.inl ⟨by decide, by decide⟩ | exact Or.inl ⟨by omega, by omega⟩)
local macro_rules | `(tactic| walk_at "rd") => `(tactic| repeat (first | refine ⟨_, rfl, ?_⟩ | refine ⟨_, _, rfl, rfl, ?_⟩ | refine ⟨rfl, ?_⟩ | (refine ⟨?cc, ?_⟩; (case cc => walk_at "cc"))))
def bo(p:Nat)(prc:Nat->Int)(T:List (Nat×Hs)):List (Nat×Int×Hs):=T.flatMap fun e=>[(hsg e.1 p false,prc (hsg e.1 p false),e.2),(hsg e.1 p true,prc (hsg e.1 p true),e.2)]
theorem Bp(p:Nat)(prc:Nat->Int)(T:List (Nat×Hs))(e:Nat×Hs):bo p prc (T++[e])=bo p prc T++[(hsg e.1 p false,prc (hsg e.1 p false),e.2),(hsg e.1 p true,prc (hsg e.1 p true),e.2)]:=by
 unfold bo
 rw[List.flatMap_append,LC,List.flatMap_nil,Kz]
def lenT(T:List (Nat×Hs)):Nat:=(T.map fun e=>e.2.length).sum
theorem rM(Z W:List (Nat×Int×Hs)):lenZ (Z++W)=lenZ Z+lenZ W:=by unfold lenZ;rw[Jr,Mt]
theorem Aa(Z W:List (Nat×Hs)):lenT (Z++W)=lenT Z+lenT W:=by unfold lenT;rw[Jr,Mt]
theorem ko(p:Nat)(prc:Nat->Int):∀ T:List (Nat×Hs),lenZ (bo p prc T)=2*lenT T
 |[]=>rfl
 |e::T=>by
  have ih:=ko p prc T
  have e1:bo p prc (e::T) = [(hsg e.1 p false,prc (hsg e.1 p false),e.2),(hsg e.1 p true,prc (hsg e.1 p true),e.2)]++bo p prc T:=by unfold bo;rw[LC]
  have e2:lenT (e::T)=e.2.length+lenT T:=by unfold lenT;rw[Ju,MJ]
  rw[e1,rM,ih,e2]
  show e.2.length+(e.2.length+0)+_=_
  omega
theorem k8(p:Nat)(prc:Nat->Int):∀ T:List (Nat×Hs),(bo p prc T).length=2*T.length
 |[]=>rfl
 |e::T=>by
  have ih:=k8 p prc T
  unfold bo at ih ⊢
  rw[LC,IF,ih,Jm,Jm,Jm,KW]
  omega
theorem nL(T:List (Nat×Hs))(i:Nat):lenT (T.take i)<=lenT T:=by
 have:=Aa (T.take i) (T.drop i)
 rw[Ji]at this
 omega
theorem Fp{T:List (Nat×Hs)}{e:Nat×Hs}(h:e∈T):e.2.length<=lenT T:=by
 obtain⟨i,hi⟩:=JI h
 have a:=nL T (i+1)
 have et:T.take (i+1)=T.take i++[e]:=by rw[Jk,hi];rfl
 rw[et,Aa]at a
 have:lenT [e]=e.2.length:=by unfold lenT;simp
 omega
def isIn(kvs:List (Key×V))(b:Addr):Prop:=∃(i:Nat)(k:Key),kvs[i]?=some (k,.ref b)
theorem FG{H H':Hp}{a:Addr}{u:HO}(h:DRd H a u)(s:Same H H'):DRd H' a u:=⟨h.1,h.2.elim (fun z=>.inl (s _ _ z)) fun⟨o,z⟩=>.inr ⟨o,s _ _ z⟩⟩
def InAt(H:Hp)(v:V)(D:Hs):Prop:=∃ a,v=.ref a/\DRd H a (.dK (repD D))
theorem InAt.mono{H H':Hp}{v:V}{D:Hs}(h:InAt H v D)(s:Same H H'):InAt H' v D:=let ⟨a,e,z⟩:=h;⟨a,e,FG z s⟩
theorem InAt.add{H H':Hp}{c m:Addr}{o:Obj}{E:Hs}{v:V}{D:Hs}(h:InAt H v D)(hm:DRd H m (.dK (repD E)))(nc:∀ a,v=.ref a->a≠c)(k:∀ b u,b≠c->b≠m->H b=some u->H' b=some u)(hm':H' m=some (.frz o (.dK (repD E)))):InAt H' v D:=by
 obtain⟨a,e,z⟩:=h
 refine⟨a,e,z.1,?_⟩
 by_cases am:a=m
 ·subst am
  have eq:repD D=repD E:=by
   rcases z.2 with q | ⟨o1,q⟩
   ·rcases hm.2 with r | ⟨o2,r⟩
    ·exact HO.dK.inj (IW (q.symm.trans r))
    ·exact HO.noConfusion (IW (q.symm.trans r))
   ·rcases hm.2 with r | ⟨o2,r⟩
    ·exact HO.noConfusion (IW (q.symm.trans r))
    ·exact HO.dK.inj (HO.frz.inj (IW (q.symm.trans r))).2
  rw[eq]
  exact .inr ⟨o,hm'⟩
 ·rcases z.2 with q | ⟨o1,q⟩
  ·exact .inl (k a _ (nc a e) am q)
  ·exact .inr ⟨o1,k a _ (nc a e) am q⟩
def spCB(PL PS:Addr):Sp:=fun vs H Q _=>∃(d qt:Addr)(p F:Nat)(kvs:List (Key×V))(T:List (Nat×Hs))(xs:List V)(es:En)(ks:Kn)(bk:List Nat),vs = [.ref d,.int (p:Int),.ref qt,.int (F:Int)]/\H d=some (.dK kvs)/\DcAt (fun v D=>∃ a,v=.ref a/\a≠d/\H a=some (.dK (repD D))) kvs T/\(∀ s D,(s,D)∈T->∃ g,Hst D g)/\lenT T<=32768/\T.length<=32768/\p<60/\H qt=some (.lst xs)/\qg PL PS H es ks xs bk/\bk.length<=100 /\
 ∀(g:Addr)(kv2:List (Key×V))(G:List (Nat×Hs))(H':Hp),(∀ b o,b≠d->¬ isIn kvs b->H b=some o->H' b=some o)->H g=none->FndD (fun a=>H a≠none∨a=g) H' g kv2 G->GrpH F (bo p (prcB es ks bk) T) G->Q (.ref g) H'
section
variable{P:Program}{w:World}{K:IC}{mg:Str->Option Value}{base:Heap}
theorem aU:aC ["counts","place","ties","front","found","signs","sums","here","price"] ["counts","place","ties","front"] (ah ba):=⟨rfl,rfl,rfl,by decide +kernel,rfl,by decide +kernel,by decide +kernel⟩
theorem ok_cb{f f1 f2 f0' f1' PL PS:Addr}{fd d1 d2 d0' d1':FuncData} (F:Fun K "counts_behind" "counts_behind" ba f fd) (T:Txt mg) (TL:CT K PL) (TS:CT K PS) (r0:Met P w K mg base 3 PL "price" ["self","laying"] (ni PL false) f0' d0') (r1:Met P w K mg base 3 PS "price" ["self","laying"] (ni PS true) f1' d1')
  (G_signs_with:Cal P w K mg base 1 "signs_with" ["place","signs"] wC f1 d1) (G_add_counts:Cal P w K mg base 1 "add_counts" ["counts","price","more"] EN f2 d2):FnOk P w K mg base CX0 4 f fd ["counts","place","ties","front"] (spCB PL PS):=by
 refine F.ok aU (fun vs H Q E h=>?_) (fun cdv A outer s H vs Q E hr h=>?_)
 ·obtain⟨d,qt,p,Fr,kvs,T,xs,es,ks,bk,rfl,_⟩:=h
  rfl
 obtain⟨d,qt,p,Fr,kvs,Tt,xs,es,ks,bk,rfl,hd,dc,hh,l256,t256,hp,hqt,tr,b100,kk⟩:=h
 have hu:=yA hr
 have CL0:=TL.cl
 have CL1:=TS.cl
 have kvl:kvs.length=Tt.length:=dc.1
 refine⟨_,(ag (az (i:=4) aU.nd rfl (Or.inl rfl) mQ)
   (ag (cu PassesOwn.never rfl (EY (F6 KI KH LF zX (pv 0))) (nC rfl (bq (aH (i:=5) aU.nd rfl (Or.inl rfl)) (bq (aH (i:=6) aU.nd rfl (Or.inl rfl)) iZ))) (ao (cu PassesOwn.never rfl (bx (aI G_signs_with.ok (hr.mono (by decide)) rfl G_signs_with.mg G_signs_with.kp G_signs_with.bn .nil bt (aa (pv 1) (aa (pv 5) ak)))) (aH (i:=7) aU.nd rfl (Or.inr rfl)) (ag (az (i:=8) aU.nd rfl (Or.inl rfl) (aJ (An rfl) (by rfl) T.n_sum Gq (aa (ki rfl (fr:=[("here",7)]) (by exact cW.one (by rfl) (by decide +kernel) (by rfl) (by decide +kernel) (by rfl) (by decide +kernel) (by rfl) (by rfl) (by decide +kernel) (by rfl)) (bx (pv 2)) (fun C ex s H=>(pe_or (xB (pv 0) CL0 r0.me r0.ok (hr.mono (by decide)) r0.bn .nil bt (aa (pv 1) ak)) (xB (pv 0) CL1 r1.me r1.ok (hr.mono (by decide)) r1.bn .nil bt (aa (pv 1) ak))))) ak)))
   (ao (bp (aI G_add_counts.ok (hr.mono (by decide)) rfl G_add_counts.mg G_add_counts.kp G_add_counts.bn .nil bt (aa (Hm (pv 4) (aA pY (pv 7) (pv 3)) mQ ⟨rfl,rfl,rfl,rfl⟩) (aa (pv 8) (aa (pv 6) ak))))))))))
   (ao (aK (pv 4))))),?_⟩
 intro f hf
 have sf:=aq hf (.dK [])
 refine⟨_,rfl,.inr (.inr (.inl ⟨rfl,.inl ⟨_,sf _ _ hd⟩⟩)),d,.dK kvs,rfl,rfl,sf _ _ hd,trivial,fun vw hvw=>?_⟩
 have sv:=aq hvw (cV vw d)
 refine⟨vw,d,.dK kvs,rfl,ae,sv _ _ (sf _ _ hd),trivial,fun o=>?_⟩
 have fd':f≠d:=fun z=>by rw[z,hd]at hf;cases hf
 have vwd:vw≠d:=fun z=>by rw[z,sf _ _ hd]at hvw;cases hvw
 have vwf:vw≠f:=fun z=>by rw[z,ae]at hvw;cases hvw
 have hvw0:H vw=none:=uJ sf hvw
 obtain⟨B,hB⟩:∃ B:Hp,B=upd (upd H vw (cV vw d)) d (.frz o (.dK kvs)):=⟨_,rfl⟩
 have Bd:B d=some (.frz o (.dK kvs)):=by rw[hB];exact ae
 have Bf:B f=none:=by rw[hB,ai fd',ai (Ne.symm vwf)];exact hf
 have HB:∀ b u,b≠d->H b=some u->B b=some u:=fun b u n z=>by rw[hB,ai n,ai (ar z hvw0)];exact z
 have sB:Same B (upd (upd (upd H f (.dK [])) vw (cV vw d)) d (.frz o (.dK kvs))):=fun b u z=>by
  rw[hB]at z
  by_cases n:b=d
  ·subst n;rw[ae]at z ⊢;exact z
  ·rw[ai n]at z ⊢
   by_cases n2:b=vw
   ·subst n2;rw[ae]at z ⊢;exact z
   ·rw[ai n2]at z ⊢
    rw[ai (ar z hf)]
    exact z
 have hf3:(upd (upd (upd H f (.dK [])) vw (cV vw d)) d (.frz o (.dK kvs))) f=some (.dK []):=by rw[ai fd',ai (Ne.symm vwf)];exact ae
 generalize upd (upd (upd H f (.dK [])) vw (cV vw d)) d (.frz o (.dK kvs))=H3 at sB hf3
 have trB:qg PL PS B es ks xs bk:=⟨tr.1,fun j t z=>by
  obtain⟨e,k,p',dx,a,b,c,q⟩:=tr.2 j t z
  exact⟨e,k,p',dx,a,b,c,HB _ _ (fun y=>by rw[y,hd]at q;cases q) q⟩⟩
 have qtB:B qt=some (.lst xs):=HB _ _ (fun y=>by rw[y,hd]at hqt;cases hqt) hqt
 have dcB:DcAt (fun v D=>∃ a,v=.ref a/\B a=some (.dK (repD D))) kvs Tt:=dc.imp fun v e ⟨t,e1,n,e2⟩=>⟨t,e1,HB _ _ n e2⟩
 have inB:∀ b,isIn kvs b->∃ D,B b=some (.dK (repD D)):=fun b ⟨i,k,e⟩=>by
  obtain⟨_,D,_,_,a,e1,e2⟩:=dcB.atK e
  cases e1
  exact⟨D,e2⟩
 have nIn:∀{b u},B b=some u->(∀ D,u≠.dK (repD D))->¬ isIn kvs b:=fun{b u} e n z=>by
  obtain⟨D,q⟩:=inB b z
  rw[e]at q
  exact n D (IW q)
 have inBd:¬ isIn kvs d:=nIn Bd fun D z=>by cases z
 have inQt:¬ isIn kvs qt:=nIn qtB fun D z=>by cases z
 have inN:∀{b},B b=none->¬ isIn kvs b:=fun{b} e z=>by
  obtain⟨D,q⟩:=inB b z
  rw[e]at q
  cases q
 have HB0:∀ b,B b=none->H b=none:=fun b z=>by
  cases y:H b with
  |none=>rfl
  |some u =>
   by_cases n:b=d
   ·rw[n,Bd]at z;cases z
   ·rw[HB b u n y]at z;cases z
 clear hB
 have xsl:xs.length<=100:=by rw[tr.1];exact b100
 refine nW (u:=.dK kvs) (d:=d) (o:=o) (fun i σ H4=>∃ v5 v6 v7 v8 v9 kv G,σ = [some (.ref d),some (.int (p:Int)),some (.ref qt),some (.int (Fr:Int)),some (.ref f),v5,v6,v7,v8]/\(∀ b u,¬ isIn kvs b->B b=some u->H4 b=some u)/\DcAt (InAt H4) kvs Tt/\FndD (fun a=>B a≠none∨a=f) H4 f kv G/\GrpH Fr (bo p (prcB es ks bk) (Tt.take i)) G/\v9=()) ⟨_,_,_,_,(),[],[],rfl,fun b u _ z=>sB _ _ z,dcB.imp fun v D ⟨a,e,z⟩=>⟨a,e,trivial,.inl (sB _ _ z)⟩,⟨hf3,DcAt.nil,fun i j k l a e=>by simp at e⟩,GrpH.nil Fr,rfl⟩ (fun i σ H4 _ z=>?_) ?_ ?_
 ·obtain⟨_,_,_,_,_,_,_,_,z,_⟩:=z
  exact z _ _ inBd Bd
 ·rintro i x y σ H4 T4 hi hkv ⟨v5,v6,v7,v8,_,kv,G,rfl,sx,dcx,fn,gr,_⟩ hT4
  obtain⟨kvs',k,eu,hki,ex⟩:∃ kvs' k,HO.dK kvs=HO.dK kvs'/\kvs'[i]?=some (k,y)/\x=kV k:=by
   rcases hkv with z | ⟨_,_,_,z,_⟩
   ·exact z
   ·cases z
  obtain rfl:=HO.dK.inj eu
  obtain⟨sg,Dm,rfl,hTi,a,rfl,hdr⟩:=dcx.atK hki
  subst ex
  obtain⟨gm,hgm⟩:=hh sg Dm (ID hTi)
  have ain:isIn kvs a:=⟨i,_,hki⟩
  have Ba:B a≠none:=fun z=>inN z ain
  have lDm:Dm.length<=32768:=JG (Fp (ID hTi)) l256
  have eti:Tt.take (i+1)=Tt.take i++[(sg,Dm)]:=by rw[Jk,hTi];rfl
  have s5:=aq hT4 (.tup [kV (.inl (sg:Int)),.ref a])
  refine⟨T4,_,rfl,SqT.of ae,rfl,_,_,rfl,_,_,rfl,rfl,?_⟩
  have fn5:=fn.keep (H':=upd H4 T4 (.tup [kV (.inl (sg:Int)),.ref a])) fun b u _ z=>s5 _ _ z
  have dc5:DcAt (InAt (upd H4 T4 (.tup [kV (.inl (sg:Int)),.ref a]))) kvs Tt:=dcx.imp fun v D z=>z.mono s5
  have sx5:∀ b u,¬ isIn kvs b->B b=some u->upd H4 T4 (.tup [kV (.inl (sg:Int)),.ref a]) b=some u:=fun b u n z=>s5 _ _ (sx b u n z)
  generalize upd H4 T4 (.tup [kV (.inl (sg:Int)),.ref a])=H5 at s5 fn5 dc5 sx5
  refine⟨_,rfl,_,rfl,p,sg,rfl,hp,fun q hq=>?_⟩
  have s6:=aq hq (.lst [.int (sg:Int),.int ((sg|||2^p:Nat):Int)])
  have noT:∀{b:Addr}{Hx:Hp},(∀ b u,¬ isIn kvs b->B b=some u->Hx b=some u)->DcAt (InAt Hx) kvs Tt->Hx b=none->B b=none:=fun{b Hx} k1 k2 z=>by
   cases y:B b with
   |none=>rfl
   |some u =>
    by_cases n:isIn kvs b
    ·obtain⟨j,kj,ej⟩:=n
     obtain⟨_,D,_,_,b',eb,z1⟩:=k2.atK ej
     cases eb
     rcases z1.2 with q | ⟨_,q⟩<;>(rw[z]at q;cases q)
    ·rw[k1 b u n y]at z;cases z
  have Bq:B q=none:=noT sx5 dc5 hq
  obtain⟨two,htwo⟩:∃ two:List (Nat×Int×Hs),two = [(hsg sg p false,prcB es ks bk (hsg sg p false),Dm),(hsg sg p true,prcB es ks bk (hsg sg p true),Dm)]:=⟨_,rfl⟩
  have ebr:bo p (prcB es ks bk) (Tt.take (i+1))=bo p (prcB es ks bk) (Tt.take i)++two:=by rw[eti,Bp,htwo]
  have zlen:lenZ (bo p (prcB es ks bk) (Tt.take i))<=65536:=by rw[ko];have:=nL Tt i;omega
  have fq:f≠q:=fun z=>by have:=fn5.d;rw[z,hq]at this;cases this
  have fn6:FndD (fun b=>(B b≠none∨b=f)∨b=q) (upd H5 q (.lst [.int (sg:Int),.int ((sg|||2^p:Nat):Int)])) f kv G :=
   ⟨s6 _ _ fn5.d,fn5.w.imp fun v D ⟨b,e,n,z⟩=>⟨b,e,fun(y:(B b≠none∨b=f)∨b=q)=>y.elim n fun y=>(by rw[y,hq]at z;cases z),s6 _ _ z⟩,fn5.ds⟩
  refine⟨q,rfl,⟨_,SqL.of ae⟩,cO (K:=K) (xs:=[.int (sg:Int),.int ((sg|||2^p:Nat):Int)]) (fun j σ H6=>∃ v7 v8 kv G,σ = [some (.ref d),some (.int (p:Int)),some (.ref qt),some (.int (Fr:Int)),some (.ref f),some (.int (sg:Int)),some (.ref a),v7,v8]/\(∀ b u,¬ isIn kvs b->B b=some u->H6 b=some u)/\DcAt (InAt H6) kvs Tt/\H6 q=some (.lst [.int (sg:Int),.int ((sg|||2^p:Nat):Int)])/\FndD (fun b=>(B b≠none∨b=f)∨b=q) H6 f kv G/\GrpH Fr (bo p (prcB es ks bk) (Tt.take i)++two.take j) G) ⟨_,_,kv,G,rfl,fun b u n z=>s6 _ _ (sx5 b u n z),dc5.imp fun v D z=>z.mono s6,ae,fn6,by rw[MA,Kz];exact gr⟩ (fun j σ H6 _ ⟨_,_,_,_,_,_,_,z,_⟩=>SqL.of z) ?_ ?_⟩
  ·rintro j x σ H6 hx ⟨w7,w8,kv',G',rfl,sx6,dc6,hq6,fn',gr'⟩
   obtain⟨hv,e2,rfl⟩:∃ hv:Nat,two[j]?=some (hv,prcB es ks bk hv,Dm)/\x=.int (hv:Int):=by
    match j,hx with
    |0,hx=>exact⟨hsg sg p false,by rw[htwo];rfl,by cases hx;unfold hsg;rw[if_neg IS,L4]⟩
    |1,hx=>exact⟨hsg sg p true,by rw[htwo];rfl,by cases hx;unfold hsg;rw[if_pos rfl]⟩
    |j+2,hx=>cases hx
   have etw:two.take (j+1)=two.take j++[(hv,prcB es ks bk hv,Dm)]:=by rw[Jk,e2];rfl
   have zl2:lenZ (bo p (prcB es ks bk) (Tt.take i)++two.take j)<=65536:=by
    have lt2:lenZ (bo p (prcB es ks bk) (Tt.take i)++two)<=65536:=by rw[← ebr,ko];have:=nL Tt (i+1);omega
    have:=rM (two.take j) (two.drop j)
    rw[Ji]at this
    rw[rM]at lt2 ⊢
    omega
   have qt6:H6 qt=some (.lst xs):=sx6 _ _ inQt qtB
   refine⟨_,rfl,qt,rfl,⟨_,SqL.of qt6⟩,gL (K:=K) (xs:=xs) (fun i ys H7=>H7=H6/\ys=((bk.take i).map fun t=>prT es ks t hv).map V.int) (JY (aB (by omega))) ⟨rfl,rfl⟩ (fun i ys H7 _ z=>by rw[z.1];exact SqL.of qt6) ?_ ?_⟩
   ·rintro n x ys H7 hx' ⟨rfl,rfl⟩
    obtain⟨tn,htn⟩:∃ tn,bk[n]?=some tn:=⟨_,IB (by rw[← tr.1];exact(IA.mp hx').1)⟩
    obtain⟨e,k,p',dx',he,hk,x1,x2⟩:=trB.2 n tn htn
    rw[hx']at x1
    cases x1
    replace x2:=sx6 _ _ (nIn x2 fun D z=>by cases z) x2
    have hU:=U_at (l:=(hv:Int)) he hk
    have hs:stg ks tn=k.2:=by unfold stg;rw[hk]
    have tail:∀ v:Int,v=prT es ks tn hv->H7=H7/\((bk.take n).map fun t=>prT es ks t hv).map V.int++[V.int v]=((bk.take (n+1)).map fun t=>prT es ks t hv).map V.int:=fun v hv'=>by
     rw[Jk,htn,hv',Jr,Jr]
     exact⟨rfl,rfl⟩
    by_cases c:k.1=1
    ·rw[decide_eq_true c]at x2 hU
     refine .inr ⟨_,rfl,p',dx',_,rfl,x2,EI _ _ _ (by decide +kernel) (by decide +kernel) (by decide +kernel),_,rfl,p',_,_,_,(hv:Int),rfl,⟨dx',x2⟩,by omega,by omega,?_⟩
     exact tail _ (by unfold prT;rw[hU,hs])
    ·rw[decide_eq_false c]at x2 hU
     refine .inl ⟨_,rfl,p',dx',_,rfl,x2,EI _ _ _ (by decide +kernel) (by decide +kernel) (by decide +kernel),_,rfl,p',_,_,_,(hv:Int),rfl,⟨dx',x2⟩,by omega,by omega,?_⟩
     exact tail _ (by unfold prT;rw[hU,hs])
   rintro ys H7 _ ⟨rfl,rfl⟩ D hD
   rw[tr.1,Jy]
   have s7:=aq hD (.lst ((bk.map fun t=>prT es ks t hv).map V.int))
   refine⟨D,_,rfl,SqL.of ae,?_⟩
   have fn7:=fn'.keep (H':=upd H7 D (.lst ((bk.map fun t=>prT es ks t hv).map V.int))) fun b u _ z=>s7 _ _ z
   have dc7:DcAt (InAt (upd H7 D (.lst ((bk.map fun t=>prT es ks t hv).map V.int)))) kvs Tt:=dc6.imp fun v D z=>z.mono s7
   have sx7:∀ b u,¬ isIn kvs b->B b=some u->upd H7 D (.lst ((bk.map fun t=>prT es ks t hv).map V.int)) b=some u:=fun b u n z=>s7 _ _ (sx6 b u n z)
   have hq7:=s7 _ _ hq6
   generalize upd H7 D (.lst ((bk.map fun t=>prT es ks t hv).map V.int))=H8 at s7 fn7 dc7 sx7 hq7
   have ek:V.int (Builtin.bitAnd (hv:Int) (Fr:Int))=kV (.inl ((hv&&&Fr:Nat):Int)):=congrArg V.int (andN hv Fr)
   have kvl':kv'.length=G'.length:=fn'.w.1
   have gl:=gr'.ln
   have gl2:G'.length<=65538:=by
    rw[IF,k8,Jg,Jg]at gl
    have:two.length=2:=by rw[htwo];rfl
    omega
   refine⟨_,rfl,f,rfl,.inl ⟨_,.inl fn7.d⟩,_,rfl,_,rfl,_,_,rfl,rfl,fun l hl=>?_⟩
   have s8:=aq hl (.dK [])
   have fn8:=fn7.keep (H':=upd H8 l (.dK [])) fun b u _ z=>s8 _ _ z
   have dc8:DcAt (InAt (upd H8 l (.dK []))) kvs Tt:=dc7.imp fun v D z=>z.mono s8
   have sx8:∀ b u,¬ isIn kvs b->B b=some u->upd H8 l (.dK []) b=some u:=fun b u n z=>s8 _ _ (sx7 b u n z)
   have hq8:=s8 _ _ hq7
   have Bl:B l=none:=noT sx7 dc7 hl
   have hl8:upd H8 l (.dK []) l=some (.dK []):=ae
   have lf:l≠f:=fun z=>by have:=fn7.d;rw[← z,hl]at this;cases this
   have lq:l≠q:=fun z=>by rw[z,hq7]at hl;cases hl
   have lno:∀(i:Nat)(k:Key),kv'[i]?≠some (k,.ref l):=fun i k e=>by
    obtain⟨_,D,_,_,b,eb,_,z⟩:=fn7.w.atK e
    cases eb
    rw[hl]at z
    cases z
   generalize upd H8 l (.dK [])=H9 at s8 fn8 dc8 sx8 hq8 hl8
   have hm9:DRd H9 a (.dK (repD Dm)):=by
    obtain⟨v,e1,b,eb,z⟩:=dc8.2 i sg Dm hTi
    rw[hki]at e1
    cases e1
    cases eb
    exact z
   have fin:∀(kv2:List (Key×V))(G2:List (Nat×Hs))(c n:Nat)(D1:Hs)(g1:Int->Int)(Hx:Hp)(w7' w8':Option V)(Dn:Ends),(B c=none/\c≠f/\c≠q)->(∀ b u,¬ isIn kvs b->B b=some u->Hx b=some u)->DcAt (InAt Hx) kvs Tt->Hx q=some (.lst [.int (sg:Int),.int ((sg|||2^p:Nat):Int)])->DRd Hx a (.dK (repD Dm))->FndD (fun b=>(B b≠none∨b=f)∨b=q) Hx f kv2 G2->G2[n]?=some (hv&&&Fr,D1)->kv2[n]?=some ((.inl ((hv&&&Fr:Nat):Int):Key),.ref c)->Hx c=some (.dK (repD D1))->Hst D1 g1->D1.length<=65536 ->
     (∀ D',Hst D' (fun x=>g1 x+cntL Dm (x-prcB es ks bk hv))->D'.length<=D1.length+Dm.length->GrpH Fr (bo p (prcB es ks bk) (Tt.take i)++two.take (j+1)) (G2.set n (hv&&&Fr,D'))) ->
     (∀ σ' H',(∃ v7 v8 kv G,σ' = [some (.ref d),some (.int (p:Int)),some (.ref qt),some (.int (Fr:Int)),some (.ref f),some (.int (sg:Int)),some (.ref a),v7,v8]/\(∀ b u,¬ isIn kvs b->B b=some u->H' b=some u)/\DcAt (InAt H') kvs Tt/\H' q=some (.lst [.int (sg:Int),.int ((sg|||2^p:Nat):Int)])/\FndD (fun b=>(B b≠none∨b=f)∨b=q) H' f kv G/\GrpH Fr (bo p (prcB es ks bk) (Tt.take i)++two.take (j+1)) G)->Dn.nx σ' H') ->
     EN [.ref c,.int (prcB es ks bk hv),.ref a] Hx (fun _ H'=>Dn.nx [some (.ref d),some (.int (p:Int)),some (.ref qt),some (.int (Fr:Int)),some (.ref f),some (.int (sg:Int)),some (.ref a),w7',w8'] H') E0:=fun kv2 G2 c n D1 g1 Hx w7' w8' Dn ⟨Bc,cf,cq⟩ sxx dcx' hqx hmx fnx hGn hkn hcx h1 hl1 hgr hD=>by
    have ca:c≠a:=fun z=>Ba (z▸Bc)
    refine⟨c,a,prcB es ks bk hv,D1,Dm,g1,gm,rfl,ca,hcx,h1,hmx,hgm,by omega,fun D' o' H' k1 k2 k3 k4 k5=>hD _ _ ⟨w7',w8',kv2,_,rfl,fun b u nb z=>?_,⟨dcx'.1,fun i' s' D'' e'=>?_⟩,?_,fnx.app hGn hkn (fun y=>y.elim (fun y=>y.elim (fun y=>y Bc) cf) cq) (Ne.symm cf) (fun b u nb hb z=>?_) k2,hgr D' (k5.cg fun x=>by rw[hgm.cnt]) k4⟩⟩
    ·exact k1 b u (fun y=>by rw[y,Bc]at z;cases z) (fun y=>nb (y▸ain)) (sxx b u nb z)
    ·obtain⟨v,e1,z⟩:=dcx'.2 i' s' D'' e'
     exact⟨v,e1,z.add hmx (fun b eb=>fun y=>inN (y▸Bc) ⟨i',_,eb▸e1⟩) k1 k3⟩
    ·exact k1 q _ (Ne.symm cq) (fun y=>Ba (y▸Bq)) hqx
    ·refine k1 b u nb (fun y=>?_) z
     rcases hb with hb | hb
     ·exact Ba (y▸hb▸Bf)
     ·exact hb (.inl (.inl (y▸Ba)))
   refine⟨kv',_,fn8.d,ek,(by rw[sizeLine_eq];omega),fun u hu'=>?_,fun hn=>?_⟩
   ·obtain⟨n,D1,hG,hk,c,rfl,nS,hc⟩:=fn8.w.val hu'
    have Bc:B c=none:=by
     cases z:B c with
     |none=>rfl
     |some u=>exact absurd (.inl (.inl (by rw[z];exact fun y=>by cases y))) nS
    have mem:=gr'.hs _ _ (ID hG)
    exact⟨_,rfl,_,rfl,fin kv' G' c n D1 _ H9 _ _ _ ⟨Bc,fun y=>nS (.inl (.inr y)),fun y=>nS (.inr y)⟩ sx8 dc8 hq8 hm9 fn8 hG hk hc mem.1 (JG mem.2 zl2) (fun D' h1 h2=>by rw[etw,← Jq];exact gr'.old (z:=(hv,prcB es ks bk hv,Dm)) hG h1 h2) (fun σ' H' z=>z)⟩
   ·have nokey:hv&&&Fr∉G'.map (·.1):=fn8.w.no hn
    have nfk:∀(i:Nat)(k:Key),kv'[i]?≠some (k,.ref f):=fun i k e=>by
     obtain⟨_,D,_,_,b,eb,nb,z⟩:=fn8.w.atK e
     cases eb
     exact nb (.inl (.inr rfl))
    have fnN:=fn8.key hn lf hl8 (fun y=>y.elim (fun y=>y.elim (fun y=>y Bl) lf) lq) lno nfk
    have af:a≠f:=fun y=>Ba (y▸Bf)
    have hkN:(putK kv' (.inl ((hv&&&Fr:Nat):Int)) (.ref l))[G'.length]?=some ((.inl ((hv&&&Fr:Nat):Int):Key),.ref l):=by
     rw[mP _ hn,← kvl',IE (IG _),Je]
     rfl
    refine⟨_,rfl,_,rfl,fin _ (G'++[(hv&&&Fr,[])]) l G'.length [] (fun _=>0) _ _ _ _ ⟨Bl,lf,lq⟩ (fun b u nb z=>?_) ⟨dc8.1,fun i' s' D'' e'=>?_⟩ ?_ ?_ fnN ?_ hkN ?_ HU (JL _) (fun D' h1 h2=>?_) (fun σ' H' z=>z)⟩
    ·rw[ai (fun y=>by rw[y,Bf]at z;cases z)]
     exact sx8 b u nb z
    ·obtain⟨v,e1,b,eb,z⟩:=dc8.2 i' s' D'' e'
     refine⟨v,e1,b,eb,z.1,?_⟩
     have bf:b≠f:=fun y=>inN (y▸Bf) ⟨i',_,eb▸e1⟩
     rw[ai bf]
     exact z.2
    ·rw[ai (Ne.symm fq)]
     exact hq8
    ·exact⟨hm9.1,by rw[ai af];exact hm9.2⟩
    ·rw[IE (IG _),Je]
     rfl
    ·rw[ai lf]
     exact hl8
    ·have esG:(G'++[(hv&&&Fr,([]:Hs))]).set G'.length (hv&&&Fr,D')=G'++[(hv&&&Fr,D')]:=by
      rw[LR _ _ (IG _),Je]
      rfl
     rw[esG,etw,← Jq]
     exact gr'.new (z:=(hv,prcB es ks bk hv,Dm)) nokey (h1.cg fun x=>by rw[Km]) (by simpa using h2)
  ·rintro σ H6 ⟨w7,w8,kv',G',rfl,sx6,dc6,hq6,fn6',gr6⟩
   have t2:two.take 2=two:=by rw[htwo];rfl
   have gr7:GrpH Fr (bo p (prcB es ks bk) (Tt.take (i+1))) G':=by
    rw[ebr,← t2]
    exact gr6
   exact⟨_,_,_,_,(),kv',G',rfl,sx6,dc6,⟨fn6'.d,fn6'.w.imp fun v D ⟨b,e,n,z⟩=>⟨b,e,fun y=>n (.inl y),z⟩,fn6'.ds⟩,gr7,rfl⟩
 ·rintro σ H4 ⟨v5,v6,v7,v8,_,kv,G,rfl,sx,dcx,fn,gr,_⟩
  have dl:dlen (.dK kvs)=Tt.length:=kvl
  rw[dl,Jy]at gr
  refine⟨_,rfl,kk f kv G H4 (fun b u n1 n2 z=>sx b u n2 (HB b u n1 z)) hf ⟨fn.d,fn.w.imp fun v D ⟨b,e,n,z⟩=>⟨b,e,fun y=>n (y.elim (fun y=>.inl fun y2=>y (HB0 b y2)) .inr),z⟩,fn.ds⟩ gr⟩
end
end K8
namespace K8
open PySem L2
local macro_rules | `(tactic| walk_at "cc") => `(tactic| first | exact ⟨by decide, by decide⟩ | (show (0 : Int) < _; decide) | (show (0 : Int) < _; omega) | (show (0 : Int) ≤ _; omega) | exact ⟨by decide, by decide, by decide⟩ | exact ⟨by omega, by omega, by decide⟩ | exact Or.inl ⟨by decide, by decide⟩ | exact Or.inl ⟨by omega, by omega⟩)
local macro_rules | `(tactic| walk_at "rd") => `(tactic| repeat (first | refine ⟨_, rfl, ?_⟩ | refine ⟨_, _, rfl, rfl, ?_⟩ | refine ⟨rfl, ?_⟩ | (refine ⟨?cc, ?_⟩; (case cc => walk_at "cc"))))
def ind(c:Bool):Int:=if c=true then 1 else 0
def hL(l:List Nat)(F:Nat)(f:Nat->Int)(s:Nat)(x:Int):Int:=sumL l fun L=>ind (decide (L&&&F=s)&&decide (f L=x))
structure TblH(l:List Nat)(F:Nat)(f:Nat->Int)(T:List (Nat×Hs)):Prop where
 nd:(T.map (·.1)).Nodup
 has:∀ L∈l,L&&&F∈T.map (·.1)
 hs:∀ s D,(s,D)∈T->Hst D (hL l F f s)
theorem pS{p:Nat}{prc:Nat->Int}(g:Nat×Int×Hs->Int):∀ T:List (Nat×Hs),sumL (bo p prc T) g=sumL T fun e=>g (hsg e.1 p false,prc (hsg e.1 p false),e.2)+g (hsg e.1 p true,prc (hsg e.1 p true),e.2)
 |[]=>rfl
 |e::T=>by
  have ih:=pS (p:=p) (prc:=prc) g T
  have e1:bo p prc (e::T) = [(hsg e.1 p false,prc (hsg e.1 p false),e.2),(hsg e.1 p true,prc (hsg e.1 p true),e.2)]++bo p prc T:=by unfold bo;rw[LC]
  rw[e1,hX,ih,av,av,av,da,JS]
theorem zT{ps:List Nat}{p F F' s':Nat}{f f' prc:Nat->Int}{T:List (Nat×Hs)}(h:TblH (lays ps) F f T)(b:Bool)(hk:∀ L∈lays ps,hsg (L&&&F) p b&&&F'=hsg L p b&&&F')(hc:∀ L∈lays ps,f' (hsg L p b)=f L+prc (hsg (L&&&F) p b))(x:Int) :
  (sumL T fun e=>if hsg e.1 p b&&&F'=s' then cntL e.2 (x-prc (hsg e.1 p b)) else 0)=sumL (lays ps) fun L=>ind (decide (hsg L p b&&&F'=s')&&decide (f' (hsg L p b)=x)):=by
 have e1:(sumL T fun e=>if hsg e.1 p b&&&F'=s' then cntL e.2 (x-prc (hsg e.1 p b)) else 0)=sumL T fun e=>sumL (lays ps) fun L=>if(L&&&F)=e.1 then ind (decide (hsg e.1 p b&&&F'=s')&&decide (f L=x-prc (hsg e.1 p b))) else 0:=ax fun e he=>by
  rw[(h.hs e.1 e.2 he).cnt]
  unfold hL
  by_cases c:hsg e.1 p b&&&F'=s'
  ·rw[if_pos c]
   refine ax fun L _=>?_
   rw[decide_eq_true c,K1]
   by_cases z:L&&&F=e.1
   ·rw[if_pos z,decide_eq_true z,K1]
   ·rw[if_neg z,decide_eq_false z,K9]
    rfl
  ·rw[if_neg c]
   refine(bw (lays ps)).symm.trans (ax fun L _=>?_)
   rw[decide_eq_false c,K9]
   by_cases z:L&&&F=e.1
   ·rw[if_pos z];rfl
   ·rw[if_neg z]
 rw[e1,jE]
 refine ax fun L hL=>?_
 obtain⟨e,he,ee⟩:=IY.mp (h.has L hL)
 have ee':e.1=L&&&F:=ee
 have q:=jF (fun y:Nat×Hs=>y.1) (l:=T) (x:=e) (fun y=>ind (decide (hsg y.1 p b&&&F'=s')&&decide (f L=x-prc (hsg y.1 p b)))) h.nd he
 rw[ee']at q
 rw[q,hk L hL]
 congr 1
 have:(f L=x-prc (hsg (L&&&F) p b))↔(f' (hsg L p b)=x):=by rw[hc L hL];omega
 rw[decide_eq_decide.mpr this]
theorem BR{ps:List Nat}{p F F':Nat}{f f' prc:Nat->Int}{T:List (Nat×Hs)}{G:List (Nat×Hs)}(h:TblH (lays ps) F f T)(hk:∀ L∈lays ps,∀ b,hsg (L&&&F) p b&&&F'=hsg L p b&&&F')(hc:∀ L∈lays ps,∀ b,f' (hsg L p b)=f L+prc (hsg (L&&&F) p b))(gr:GrpH F' (bo p prc T) G):TblH (lays (ps++[p])) F' f' G where
 nd:=gr.nd
 has:=fun L' hL'=>by
  obtain⟨L,b,hL,rfl⟩:=HK hL'
  obtain⟨e,he,ee⟩:=IY.mp (h.has L hL)
  have ee':e.1=L&&&F:=ee
  rw[← hk L hL b,← ee']
  refine gr.has (hsg e.1 p b,prc (hsg e.1 p b),e.2) ?_
  unfold bo
  refine List.mem_flatMap.mpr ⟨e,he,?_⟩
  cases b
  ·exact Jc
  ·exact IV _ Jc
 hs:=fun s' D hD=>(gr.hs s' D hD).1.cg fun x=>by
  unfold gH hL
  rw[pS,hZ,zT h false (fun L hL=>hk L hL false) (fun L hL=>hc L hL false),zT h true (fun L hL=>hk L hL true) (fun L hL=>hc L hL true),zF,hZ]
  have h0:∀ L,hsg L p false=L:=fun L=>by unfold hsg;rw[if_neg IS,L4]
  have h1:∀ L,hsg L p true=L|||2^p:=fun L=>by unfold hsg;rw[if_pos rfl]
  simp only[h0,h1]
theorem nh{α:Type}{l:List α}{f g:α->Int}(h:∀ x∈l,f x<=g x):sumL l f<=sumL l g:=by
 induction l with
 |nil=>exact Kk _
 |cons x l ih =>
  rw[av,av]
  have a:=h x Jc
  have b:=ih fun y hy=>h y (IV _ hy)
  omega
theorem CM{α β:Type} [DecidableEq β] (k:α->β) (y:β):∀{l:List α},(l.map k).Nodup->sumL l (fun e=>ind (decide (y=k e)))<=1
 |[],_=>(by decide:(0:Int)<=1)
 |x::l,nd=>by
  rw[Ju,JD]at nd
  rw[av]
  by_cases h:y=k x
  ·have z:sumL l (fun e=>ind (decide (y=k e)))=0:=by
    refine(ax fun e he=>?_).trans (bw l)
    rw[decide_eq_false (fun q=>nd.1 (by rw[← h,q];exact IY.mpr ⟨e,he,rfl⟩))]
    rfl
   rw[z,decide_eq_true h]
   decide
  ·have:=CM k y nd.2
   rw[decide_eq_false h]
   show(0:Int)+_<=1
   omega
theorem zG{α:Type}(l:List α):sumL l (fun _=>(1:Int))=(l.length:Int):=by
 induction l with
 |nil=>rfl
 |cons x l ih=>rw[av,ih,Jm];omega
theorem HV{D:Hs}{l:List Nat}{F s:Nat}{f:Nat->Int}(h:Hst D (hL l F f s)):(D.length:Int)<=sumL l fun L=>ind (decide (L&&&F=s)):=by
 have a:(D.length:Int)<=sumL D fun e=>hL l F f s e.1:=by
  rw[← zG]
  refine nh fun e he=>?_
  obtain⟨q1,q2⟩:=h.ex e.1 e.2 he
  omega
 refine Mj a ?_
 unfold hL
 rw[jE]
 refine nh fun L _=>?_
 by_cases z:L&&&F=s
 ·have e1:(sumL D fun e=>ind (decide (L&&&F=s)&&decide (f L=e.1)))=sumL D fun e=>ind (decide (f L=e.1)):=ax fun e _=>by rw[decide_eq_true z,K1]
  rw[e1,decide_eq_true z]
  exact CM (fun e:Int×Int=>e.1) (f L) h.nd
 ·have e1:(sumL D fun e=>ind (decide (L&&&F=s)&&decide (f L=e.1)))=0:=by
   refine(ax fun e _=>?_).trans (bw D)
   rw[decide_eq_false z,K9]
   rfl
  rw[e1,decide_eq_false z]
  exact Kk _
theorem Fo(T:List (Nat×Hs)):((lenT T:Nat):Int)=sumL T fun e=>((e.2.length:Nat):Int):=by
 induction T with
 |nil=>rfl
 |cons e T ih =>
  have e2:lenT (e::T)=e.2.length+lenT T:=by unfold lenT;rw[Ju,MJ]
  rw[e2,av,← ih]
  omega
theorem TblH.len{l:List Nat}{F:Nat}{f:Nat->Int}{T:List (Nat×Hs)}(h:TblH l F f T):lenT T<=l.length:=by
 have a:((lenT T:Nat):Int)<=(l.length:Int):=by
  rw[Fo,← zG]
  refine Mj (nh fun e he=>HV (h.hs e.1 e.2 he)) ?_
  rw[jE]
  refine nh fun L _=>?_
  exact CM (fun e:Nat×Hs=>e.1) (L&&&F) h.nd
 omega
theorem EJ(es:En)(pr:Nat->Nat->Int):TblH (lays []) 0 (cstB es pr (mk [])) [(0,[(0,1)])] where
 nd:=by simp
 has:=fun L _=>by rw[Mh];exact Jc
 hs:=fun s D hD=>by
  cases IX.mp hD
  have l1:lays [] = [0]:=rfl
  have g:∀ x:Int,hL (lays []) 0 (cstB es pr (mk [])) 0 x=if x=0 then 1 else 0:=fun x=>by
   unfold hL
   rw[l1,av,da,JS]
   have c0:cstB es pr (mk []) 0=0:=FK es pr 0
   rw[c0,Mh,decide_eq_true rfl,K1]
   by_cases z:x=0
   ·rw[if_pos z,decide_eq_true z.symm];rfl
   ·rw[if_neg z,decide_eq_false (Ne.symm z)];rfl
  refine⟨by simp,fun x n hn=>?_,fun x hx=>?_⟩
  ·cases IX.mp hn
   rw[g,if_pos rfl]
   exact⟨rfl,by decide⟩
  ·rw[g]at hx
   by_cases z:x=0
   ·subst z;exact Jc
   ·rw[if_neg z]at hx
    exact absurd rfl hx
end K8
namespace K8
open PySem L2
local macro_rules | `(tactic| walk_at "cc") => `(tactic| first | exact ⟨by decide, by decide⟩ | (show (0 : Int) < _; decide) | (show (0 : Int) < _; omega) | (show (0 : Int) ≤ _; omega) | exact ⟨by decide, by decide, by decide⟩ | exact ⟨by omega, by omega, by decide⟩ | exact Or.inl ⟨by decide, by decide⟩ | exact Or.inl ⟨by omega, by omega⟩)
local macro_rules | `(tactic| walk_at "rd") => `(tactic| repeat (first | refine ⟨_, rfl, ?_⟩ | refine ⟨_, _, rfl, rfl, ?_⟩ | refine ⟨rfl, ?_⟩ | (refine ⟨?cc, ?_⟩; (case cc => walk_at "cc"))))
def totC(es:En)(ks:Kn)(L:Nat):Int:=sumL (JC es.length) fun t=>prT es ks t L
theorem rG{od:List Nat}{m:Nat}(pm:od.Perm (JC m)){L:Nat}:L∈lays od↔L<2^m:=by
 constructor
 ·intro h
  refine Nat.lt_pow_two_of_testBit L fun x hx=>?_
  cases z:L.testBit x with
  |false=>rfl
  |true =>
   have:=Jz.mp (pm.mem_iff.mp (jM h z))
   omega
 ·intro h
  refine qA _ od L rfl fun x hx=>pm.mem_iff.mpr (Jz.mpr ?_)
  by_cases c:x<m
  ·exact c
  ·have:=Lg (Jp h (Lp (by decide) (show m<=x by omega)))
   rw[this]at hx
   cases hx
theorem yh:∀(n:Nat)(qs:List Nat),qs.length=n->qs.Nodup->(lays qs).Nodup
 |0,qs,hn,_=>by
  rw[Le.mp hn]
  decide
 |n+1,qs,hn,nd=>by
  have ne:qs≠[]:=fun e=>by rw[e]at hn;cases hn
  have eq:qs.dropLast++[qs.getLast ne]=qs:=Ls ne
  generalize qs.getLast ne=q at eq
  have hl:qs.dropLast.length=n:=by rw[List.length_dropLast,hn];rfl
  generalize qs.dropLast=r at eq hl
  subst eq
  rw[Jo]at nd
  have ih:=yh n r hl nd.1
  have nq:∀ L∈lays r,L.testBit q=false:=fun L hL=>by
   cases z:L.testBit q with
   |false=>rfl
   |true=>exact absurd rfl (nd.2.2 q (jM hL z) q (IX.mpr rfl))
  rw[jN,Jo]
  refine⟨ih,?_,fun a ha b hb e=>?_⟩
  ·refine Kw.mpr (MG (fun{a b} ha hb hne e=>?_) ih)
   exact hne (Kl fun x=>by
    have:=congrArg (fun z=>z.testBit x) e
    simp only[JZ,JE]at this
    by_cases hx:q=x
    ·subst hx;rw[nq a ha,nq b hb]
    ·simpa[hx] using this)
  ·obtain⟨L,hL,rfl⟩:=IY.mp hb
   have h1:=nq a ha
   rw[e,JZ,JE]at h1
   simp at h1
theorem Di{od:List Nat}{m:Nat}(pm:od.Perm (JC m)):(lays od).Perm (lays (JC m)) :=
 (Kd (yh _ od rfl (pm.nodup_iff.mpr Kr)) (yh _ _ rfl Kr)).mpr fun L=>by rw[rG pm,rG (Ll _)]
theorem BV{l r:List Nat}(p:l.Perm r)(f:Nat->Int):sumL l f=sumL r f:=by
 induction p with
 |nil=>rfl
 |cons x _ ih=>rw[av,av,ih]
 |swap x y l=>rw[av,av,av,av];omega
 |trans _ _ a b=>exact a.trans b
theorem Ip{es:En}{ks:Kn}{od:List Nat}{m:Nat}(pm:od.Perm (JC m))(hbd:∀ e∈es,e.1<m/\e.2<m)(L:Nat):cstB es (prT es ks) (mk od) L=totC es ks L:=by
 unfold cstB totC
 refine ax fun t ht=>?_
 obtain⟨e,he⟩:∃ e,es[t]?=some e:=⟨_,IB (Jz.mp ht)⟩
 obtain⟨b1,b2⟩:=hbd e (ID he)
 rw[kK he,c6,c6,decide_eq_true (pm.mem_iff.mpr (Jz.mpr b1)),decide_eq_true (pm.mem_iff.mpr (Jz.mpr b2))]
 rfl
structure TxtM(mg:Str->Option Value):Prop extends Txt mg where
 most:∃ t,mg "MOST_PLACES" = some (.int 16 t)
def hA(es:En)(ks:Kn)(m:Nat)(x:Int):Int:=sumL (lays (JC m)) fun L=>ind (decide (totC es ks L=x))
structure Hist(es:En)(ks:Kn)(m:Nat)(D:Hs):Prop where
 up:D.Pairwise fun x y=>x.1<y.1
 hs:Hst D (hA es ks m)
def spWs(BO TW PL PS WC:Addr):Sp:=fun vs H Q E=>∃(p:Addr)(m:Nat)(es:En)(ts:List (List Nat))(ks:Kn)(v:V)(ns:List Int),vs = [.ref p,v]/\WebT PL PS WC H p m es ts ks/\ks.length=es.length/\bh m es ts/\es.length<=100/\m<=40/\Told m v H ns/\ns.Perm (rI m) /\
 (16<m->∀ H',Same H H'->E (.ref TW) none H')/\(m<=16->∀(q:Addr)(rows:List V)(D:Hs)(H':Hp),Same H H'->H q=none->H' q=some (.lst rows)->LsAt PrAt H' rows D->Hist es ks m D->Q (.ref q) H')
theorem FJ(xs:List V):cutV xs (some 1) none=xs.drop 1:=by
 unfold cutV
 have q:=HT.sIx_nat xs.length 0 1
 rw[show((1:Nat):Int)=(1:Int) from rfl]at q
 rw[q,HT.sIx_none]
 rw[Jx (by rw[JF];omega)]
 by_cases h:1<=xs.length
 ·rw[KS h]
 ·have e:xs = []:=Le.mp (by omega)
  subst e
  rfl
theorem E2{X:Cx}{x:Str}{n:Int}{pos:Pos}(hg:Gl X x)(hm:∃ t,X.mg x=some (.int n t)) (hd:(x == ("__debug__" : Str))=false:=by decide):PE X (.Name x pos) (tC (.int n)):=by
 obtain⟨t,h⟩:=hm
 exact CF hg h ⟨t,rfl⟩ hd
theorem Hst.perm{D D':Hs}{g:Int->Int}(h:Hst D g)(p:D'.Perm D):Hst D' g :=
 ⟨(p.map (·.1)).nodup_iff.mpr h.nd,fun x n hn=>h.ex x n (p.mem_iff.mp hn),fun x hx=>(p.map (·.1)).mem_iff.mpr (h.al x hx)⟩
theorem DR{es:En}{od:List Nat}{m:Nat}(pm:od.Perm (JC m))(hbd:∀ e∈es,e.1<m/\e.2<m):cn es (mk od) 0:=fun x=>by
 rw[Ki]
 cases c:(mk od).testBit x with
 |false=>rfl
 |true =>
  rw[K1]
  cases q:es.any (atF (mk od) x) with
  |false=>rfl
  |true =>
   obtain⟨e,he,ha⟩:=KO.mp q
   have all:∀ y,y<m->(mk od).testBit y=true:=fun y hy=>by
    rw[c6]
    exact decide_eq_true (pm.mem_iff.mpr (Jz.mpr hy))
   obtain⟨b1,b2⟩:=hbd e he
   unfold atF at ha
   rw[all _ b1,all _ b2]at ha
   simp at ha
section
variable{P:Program}{w:World}{K:IC}{mg:Str->Option Value}{base:Heap}
theorem dE:aC ["web","order","places","counts","place","back","front"] ["web","order"] (ah h7):=⟨rfl,rfl,rfl,by decide +kernel,rfl,by decide +kernel,by decide +kernel⟩
theorem ok_ws{f f1 f2 f3 f4 BO TW PL PS WC:Addr}{fd d1 d2 d3 d4:FuncData} (F:FunD K "worths" "worths" h7 f fd #[.none]) (T:TxtM mg) (cw:CW K WC) (X_TooWide:ErrC K mg "TooWide" TW) (G_order_of:CalX P w K mg base 1 "order_of" ["web","order"] (zI BO WC) f1 d1)
  (G_fronts:CalX P w K mg base 3 "fronts" ["web","order"] (G3 BO PL PS WC) f2 d2) (G_ties_back:Cal P w K mg base 2 "ties_back" ["web","order"] (B7 PL PS WC) f3 d3) (G_counts_behind:Cal P w K mg base 4 "counts_behind" ["counts","place","ties","front"] (spCB PL PS) f4 d4):FnOk P w K mg base (CXr P w) 5 f fd ["web","order"] (spWs BO TW PL PS WC):=by
 refine F.okX dE (fun vs H Q E h=>?_) (fun cdv A outer s H vs Q E hr h=>?_)
 ·obtain⟨p,m,es,ts,ks,v,ns,rfl,_⟩:=h
  rfl
 obtain⟨p,m,es,ts,ks,v,ns,rfl,wt,kl,tn,e100,m40,td,pm,kx,kk⟩:=h
 have hu:=yA hr
 obtain⟨dx,fs,q1,xs,q3,z3,hp,lm,l1,h1,tk,l3,h3,rw3⟩:=id wt
 have hbd:∀ e∈es,e.1<m/\e.2<m:=fun e he=>⟨(tn.ends e he).1,(tn.ends e he).2.1⟩
 refine⟨_,WSs.ok (mJ (FR (i:=2) dE.nd rfl (Or.inl rfl) (ig G_order_of.ok (hr.mono (by decide)) rfl G_order_of.mg G_order_of.kp G_order_of.bn .nil lB rfl (aa (pv 0) (aa (pv 1) ak))))
   (mJ (ws_if (aG CK (b5 (pv 0) rfl) (E2 rfl T.most) (aM _)) (wk (BH X_TooWide.ec X_TooWide.mg rfl lB rfl rfl (aa F4 ak))) GL)
   (mJ (EC (n:=3) dE.nd rfl (Or.inl rfl) (.inl rfl))
   (mJ (GN rfl (Hk rfl T.n_zip (aa (pv 2) (aa (aI G_ties_back.ok (hr.mono (by decide)) rfl G_ties_back.mg G_ties_back.kp G_ties_back.bn .nil bt (aa (pv 0) (aa (pv 2) ak))) (aa (EZ G6 (ig G_fronts.ok (hr.mono (by decide)) rfl G_fronts.mg G_fronts.kp G_fronts.bn .nil lB rfl (aa (pv 0) (aa (pv 2) ak))) (Hg aj) Hi) ak)))) (nC rfl (bq (aH (i:=4) dE.nd rfl (Or.inl rfl)) (bq (aH (i:=5) dE.nd rfl (Or.inl rfl)) (bq (aH (i:=6) dE.nd rfl (Or.inl rfl)) iZ)))) (wk (FR (i:=3) dE.nd rfl (Or.inl rfl) (aI G_counts_behind.ok (hr.mono (by decide)) rfl G_counts_behind.mg G_counts_behind.kp G_counts_behind.bn .nil bt (aa (pv 3) (aa (pv 4) (aa (ki rfl (fr:=[("web",0)]) (by exact cW.one (by rfl) (by decide +kernel) (by rfl) (by decide +kernel) (by rfl) (by decide +kernel) (by rfl) (by rfl) (by decide +kernel) (by rfl)) (bx (pv 5)) (fun C ex s H=>(bL (Ab (K:=K) rfl) (qW (K:=K) rfl (pv 1) rfl) (pv 0) (fun _ _=>rfl)))) (aa (pv 6) ak))))))))
   (wk (ws_ret (aJ (Bm rfl) (by rfl) T.n_sorted oF (aa (F6 KI KH LF zX (qX hu (pv 3) aj (fun _ _=>rfl))) ak)))))))),?_⟩
 refine⟨_,rfl,_,rfl,p,dx,fs,m,v,ns,rfl,hp,lm,by omega,td,fun z=>absurd pm z,fun _ q H1 s1 nq hq=>?_⟩
 obtain⟨od,rfl,ob⟩:=zO pm
 have ol:(cI od).length=od.length:=by unfold cI;rw[IJ]
 have om:od.length=m:=by
  have:=pm.length_eq
  unfold rI at this
  rwa[ol,IJ,JV]at this
 have ond:od.Nodup:=by
  have:(cI od).Nodup:=pm.nodup_iff.mpr (by
   unfold rI
   exact LI.map _ (fun a b h e=>h (by omega)) Kr)
  unfold cI at this
  exact(Kw.mp this).imp fun h e=>h (by rw[e])
 have opm:od.Perm (JC m):=by
  refine(Kd ond Kr).mpr fun x=>⟨fun h=>Jz.mpr (ob x h),fun h=>?_⟩
  have:(x:Int)∈cI od:=pm.mem_iff.mpr (by unfold rI;exact IY.mpr ⟨x,h,rfl⟩)
  unfold cI at this
  obtain⟨y,hy,e⟩:=IY.mp this
  have:y=x:=by omega
  rw[← this];exact hy
 refine⟨_,rfl,p,WC,dx,fs,_,rfl,s1 _ _ hp,cw.cl,cw.n1,lm,_,_,rfl,rfl,_,rfl,ite2 (fun c=>?_) (fun c=>?_)⟩
 ·have c':(16:Int)<(m:Int):=of_decide_eq_true c
  exact⟨(by decide:(1:Nat)<=sizeLine),kx (by omega) _ s1⟩
 have c':¬ (16:Int)<(m:Int):=fun z=>c (decide_eq_true z)
 have m16:m<=16:=by omega
 replace kk:=kk m16
 intro d hd
 intro t ht
 have dt:d≠t:=fun z=>by rw[← z,ae]at ht;cases ht
 have ht1:H1 t=none:=by rw[ai (Ne.symm dt)]at ht;exact ht
 refine⟨ae,[(.inl (0:Int),.int 1)],rfl,(by show 1<=15;decide),?_⟩
 refine⟨by rw[ai dt,ai dt];exact ae,[(.inl ((0:Nat):Int),.ref t)],rfl,(by show 1<=15;decide),?_⟩
 obtain⟨H6,eH6⟩:∃ H6:Hp,H6=upd (upd (upd (upd H1 d (.dK [])) t (.dK [])) t (.dK (nG [] [(.inl (0:Int),.int 1)]))) d (.dK (nG [] [(.inl ((0:Nat):Int),.ref t)])):=⟨_,rfl⟩
 rw[← eH6]
 have h6:H6 d=some (.dK [(.inl ((0:Nat):Int),.ref t)]):=by rw[eH6];exact ae
 have t6:H6 t=some (.dK (repD [(0,1)])):=by rw[eH6,ai (Ne.symm dt)];exact ae
 have s6:Same H1 H6:=fun b u z=>by
  rw[eH6,ai (ar z hd),ai (ar z ht1),ai (ar z ht1),ai (ar z hd)]
  exact z
 clear eH6
 have s16:=s1.trans s6
 have hq6:=s6 _ _ hq
 refine⟨_,rfl,_,rfl,_,rfl,p,q,m,es,ts,ks,od,rfl,wt.mono s16,kl,tn,by omega,e100,hq6,ob,by omega,fun q7 zs H7 s7 hq7 rb=>?_⟩
 have s17:=s16.trans s7
 refine⟨_,rfl,_,rfl,p,m,es,ts,ks,.ref q,cI od,rfl,wt.mono s17,kl,hbd,by omega,.inr ⟨q,rfl,s7 _ _ hq6,by omega⟩,fun z=>absurd pm z,fun od' eo _ q2 ms H8 s8 hq2 fr=>?_⟩
 have eod:od'=od:=by
  have:cI od'=cI od:=eo.symm
  unfold cI at this
  exact(List.map_inj_right (fun a b e=>by omega)).mp this
 subst eod
 refine⟨_,rfl,q2,_,rfl,SqL.of hq2,fun q8 hq8=>?_⟩
 rw[FJ,← List.map_drop]
 have s9:=aq hq8 (.lst ((ms.drop 1).map iV))
 have h8:(upd H8 q8 (.lst ((ms.drop 1).map iV))) q8=some (.lst ((ms.drop 1).map iV)):=ae
 have s69:=(s7.trans s8).trans s9
 have hd9:=s69 _ _ h6
 have ht9:=s69 _ _ t6
 have hq7':=(s8.trans s9) _ _ hq7
 have rb9:=rb.mono (s8.trans s9)
 have s19:=s6.trans s69
 generalize upd H8 q8 (.lst ((ms.drop 1).map iV))=H9 at s9 h8 s69 hd9 ht9 hq7' rb9 s19
 have msl:ms.length=m+1:=by rw[fr.1,om]
 have zl:((ms.drop 1).map iV).length=m:=by rw[IJ,JF];omega
 have zsl:zs.length=m:=by rw[rb.1];unfold cZ;rw[IJ,JV,om]
 obtain⟨C,hC⟩:∃ C:Hp,C=fun b=>if b=d∨b=t then none else H9 b:=⟨_,rfl⟩
 have CH:∀ b u,b≠d->b≠t->H9 b=some u->C b=some u:=fun b u n n2 z=>by rw[hC];show(if b=d∨b=t then none else H9 b)=_;rw[if_neg (fun y=>y.elim n n2)];exact z
 have Cd:C d=none:=by rw[hC];show(if d=d∨d=t then none else H9 d)=_;rw[if_pos (.inl rfl)]
 have Ct:C t=none:=by rw[hC];show(if t=d∨t=t then none else H9 t)=_;rw[if_pos (.inr rfl)]
 have sC:Same C H9:=fun b u z=>by
  rw[hC]at z
  have z':(if b=d∨b=t then none else H9 b)=some u:=z
  by_cases n:b=d∨b=t
  ·rw[if_pos n]at z';cases z'
  ·rw[if_neg n]at z';exact z'
 have s1C:Same H1 C:=fun b u z=>CH b u (ar z hd) (ar z ht1) (s19 _ _ z)
 have nl:∀{b:Addr}{ys:List V},H9 b=some (.lst ys)->b≠d/\b≠t:=fun{b ys} z=>⟨fun y=>(by rw[y,hd9]at z;cases z),fun y=>(by rw[y,ht9]at z;cases z)⟩
 have C8:=CH _ _ (nl h8).1 (nl h8).2 h8
 have Cq7:=CH _ _ (nl hq7').1 (nl hq7').2 hq7'
 have Cq:=s1C _ _ hq
 have rbC:ck C zs (cZ es ts od' od'.length):=⟨rb9.1,fun i l e=>by
  obtain⟨a,a1,a2⟩:=rb9.2 i l e
  exact⟨a,a1,CH _ _ (nl a2).1 (nl a2).2 a2⟩⟩
 have wtC:=wt.mono (s1.trans s1C)
 have tkC:=tk.mono (s1.trans s1C)
 have hpC:=(s1.trans s1C) _ _ hp
 have h1C:=(s1.trans s1C) _ _ h1
 refine⟨q,q7,q8,rfl,⟨_,SqL.of (s19 _ _ hq)⟩,⟨_,SqL.of hq7'⟩,⟨_,SqL.of h8⟩,FA (K:=K) (xs:=(cI od').map V.int) (ys:=zs) (zs:=(ms.drop 1).map iV) m (fun i σ HA=>∃ v6 v7 v8 d9 kv T9,σ = [some (.ref p),some v,some (.ref q),some (.ref d9),v6,v7,v8]/\Same C HA/\C d9=none/\HA d9=some (.dK kv)/\DcAt (fun u D=>∃ a,u=.ref a/\a≠d9/\C a=none/\HA a=some (.dK (repD D))) kv T9/\T9.length<=2^i/\(∀ M,cn es (mk (od'.take i)) M->TblH (lays (od'.take i)) M (cstB es (prT es ks) (mk (od'.take i))) T9)) ⟨_,_,_,d,_,[(0,[(0,1)])],rfl,sC,Cd,hd9,⟨rfl,fun i s a e=>?_⟩,IG _,fun M hM=>?_⟩ (by rw[IJ];omega) (by omega) zl (fun i σ HA _ ⟨_,_,_,_,_,_,_,z,_⟩=>⟨SqL.of (z _ _ Cq),SqL.of (z _ _ Cq7),SqL.of (z _ _ C8)⟩) ?_ ?_⟩
 ·match i,e with
  |0,e=>cases e;exact⟨.ref t,rfl,t,rfl,Ne.symm dt,Ct,ht9⟩
  |i+1,e=>cases e
 ·have e0:M=0:=cn.one hM (Gk es)
  rw[e0,MA]
  exact EJ es (prT es ks)
 ·rintro i x y z σ HA T9' hx hy hz ⟨v6,v7,v8,d9,kv,T9,rfl,sA,nd9,hd9,dc9,tl9,tb9⟩ hT
  rw[II]at hx hz
  obtain⟨x',hx',rfl⟩:=Jd.mp hx
  obtain⟨F',hF',rfl⟩:=Jd.mp hz
  unfold cI at hx'
  rw[II]at hx'
  obtain⟨pl,hpl,rfl⟩:=Jd.mp hx'
  rw[KQ]at hF'
  have hi:i<m:=by
   have:=(IA.mp hF').1
   omega
  have hFm:ms[i+1]?=some F':=by
   rw[Nat.add_comm]
   exact hF'
  have hb:=ob pl (ID hpl)
  have et:od'.take (i+1)=od'.take i++[pl]:=by rw[Jk,hpl];rfl
  have gd:od'.getD i 0=pl:=by rw[IT,hpl];rfl
  obtain⟨row,hrow⟩:∃ row,ts[pl]?=some row:=⟨_,IB (by rw[tn.len];exact hb)⟩
  have era:Az ts (od'.getD i 0)=row:=by unfold Az;rw[gd,hrow];rfl
  obtain⟨bk,hbk⟩:∃ bk,bk=iO es (mk (od'.take (i+1))) row:=⟨_,rfl⟩
  have hbr:(cZ es ts od' od'.length)[i]?=some bk:=by
   unfold cZ
   rw[II,L6 (by omega),hbk,← era]
   rfl
  obtain⟨r,r1,r2⟩:=rbC.2 i bk hbr
  rw[hy]at r1
  cases r1
  have fr':cn es (mk (od'.take (i+1))) F':=fr.2 (i+1) F' hFm
  obtain⟨F0,hF0⟩:∃ F0,ms[i]?=some F0:=⟨_,IB (by omega)⟩
  have fr0:cn es (mk (od'.take i)) F0:=fr.2 i F0 hF0
  have tb:=tb9 F0 fr0
  have hpn:pl∉od'.take i:=fun z=>by
   obtain⟨j,hj⟩:=JI z
   rw[KP]at hj
   split at hj
   ·rename_i hji
    obtain⟨a1,a2⟩:=IA.mp hj
    obtain⟨b1,b2⟩:=IA.mp hpl
    exact absurd (a2.trans b2.symm) (Kf.mp ond j i a1 b1 hji)
   ·cases hj
  have p256:2^i<=32768:=JG (Lp (by decide) (show i<=15 by omega)) (by decide)
  have T256:T9.length<=32768:=JG tl9 p256
  have L256:lenT T9<=32768:=by
   have:=tb.len
   rw[Fq,Jg,KS (by omega)]at this
   exact JG this p256
  have bkl:bk.length<=100:=by
   have h1:bk.length<=row.length:=by rw[hbk];unfold iO;exact Lm _ _
   have h2:row.length<=es.length:=by
    refine gA (tn.nd pl row hrow) fun t ht=>?_
    obtain⟨e,he,_⟩:=(tn.mem pl row hrow t).mp ht
    exact(IA.mp he).1
   omega
  have sT:=aq hT (.tup [.int ((pl:Nat):Int),.ref r,iV F'])
  have s9T:=sA.trans sT
  have hd9T:=sT _ _ hd9
  have dc9T:DcAt (fun u D=>∃ a,u=.ref a/\a≠d9/\C a=none/\upd HA T9' (.tup [.int ((pl:Nat):Int),.ref r,iV F']) a=some (.dK (repD D))) kv T9:=dc9.imp fun v D ⟨a,e1,e2,e3,e4⟩=>⟨a,e1,e2,e3,sT _ _ e4⟩
  refine⟨T9',_,rfl,SqT.of ae,rfl,_,_,rfl,_,_,rfl,_,_,rfl,rfl,?_⟩
  generalize upd HA T9' (.tup [.int ((pl:Nat):Int),.ref r,iV F'])=HA at sT s9T hd9T dc9T
  refine⟨_,rfl,_,rfl,_,rfl,r,rfl,⟨_,SqL.of (s9T _ _ r2)⟩,gL (K:=K) (xs:=bk.map iV) (fun j ys HB=>HB=HA/\qg PL PS HA es ks ys (bk.take j)) (JY (aB (by rw[IJ];omega))) ⟨rfl,rfl,fun j t e=>by simp at e⟩ (fun j ys HB _ z=>by rw[z.1];exact SqL.of (s9T _ _ r2)) ?_ ?_⟩
  ·rintro j x ys HB hx ⟨rfl,tr⟩
   rw[II]at hx
   obtain⟨t,ht,rfl⟩:=Jd.mp hx
   have htm:t∈row:=by
    have:=ID ht
    rw[hbk]at this
    exact(Kx.mp this).1
   obtain⟨e,he,_⟩:=(tn.mem pl row hrow t).mp htm
   obtain⟨k,hk⟩:∃ k,ks[t]?=some k:=⟨_,IB (by have:=(IA.mp he).1;omega)⟩
   obtain⟨p',dx',x1,x2⟩:=(tkC.mono s9T).2 t e k he hk
   refine⟨_,rfl,p,WC,dx,fs,_,rfl,s9T _ _ hpC,cw.cl,cw.n2,l1,_,rfl,q1,xs,_,_,rfl,rfl,SqL.of (s9T _ _ h1C),bD x1,rfl,?_⟩
   refine⟨by rw[IF,tr.1,Jk,ht,IF];rfl,fun n u e2=>?_⟩
   rw[Jk,ht]at e2
   have bl':(bk.take j).length=ys.length:=tr.1.symm
   by_cases hn:n<(bk.take j).length
   ·rw[IH hn]at e2
    obtain⟨e',k',p2,dx2,y1,y2,y3,y4⟩:=tr.2 n u e2
    exact⟨e',k',p2,dx2,y1,y2,by rw[IH (by omega)];exact y3,y4⟩
   ·rw[IE (by omega)]at e2
    have e3:n=(bk.take j).length:=by
     have:=(IA.mp e2).1
     rw[show(Option.toList (some t)).length=1 from rfl]at this
     omega
    subst e3
    rw[Je]at e2
    cases e2
    exact⟨e,k,p',dx',he,hk,by rw[bl',IE (IG _),Je];rfl,x2⟩
  rintro ys HB _ ⟨rfl,tr⟩ D hD
  rw[IJ,Jy]at tr
  have sD:=aq hD (.lst ys)
  refine⟨_,rfl,d9,D,pl,F',kv,T9,ys,es,ks,bk,rfl,sD _ _ hd9T,dc9T.imp fun v D' ⟨a,e1,e2,_,e4⟩=>⟨a,e1,e2,sD _ _ e4⟩,fun s' D' hD'=>⟨_,tb.hs s' D' hD'⟩,L256,T256,by omega,ae,tr.mono sD,bkl,fun g kv2 G HC sX gn fn gr=>?_⟩
  have inC:∀ b,isIn kv b->C b=none:=fun b ⟨j,k,e⟩=>by
   obtain⟨_,_,_,_,a,e1,_,e3,_⟩:=dc9T.atK e
   cases e1
   exact e3
  have sCC:Same C HC:=fun b u z=>sX b u (fun y=>by rw[y,nd9]at z;cases z) (fun y=>by rw[inC b y]at z;cases z) (sD _ _ (s9T _ _ z))
  have bk0:∀ b,upd HB D (.lst ys) b=none->C b=none:=fun b z=>by
   cases y:C b with
   |none=>rfl
   |some u=>rw[sD _ _ (s9T _ _ y)]at z;cases z
  refine⟨_,_,_,g,kv2,G,rfl,sCC,bk0 g gn,fn.d,fn.w.imp fun v D' ⟨a,e1,e2,e3⟩=>⟨a,e1,fun y=>e2 (.inr y),bk0 a ?_,e3⟩,?_,fun M hM=>?_⟩
  ·cases y:upd HB D (.lst ys) a with
   |none=>rfl
   |some u=>exact absurd (.inl (by rw[y];exact fun z=>by cases z)) e2
  ·have:=gr.ln
   rw[k8]at this
   rw[Nat.pow_succ]
   omega
  ·have eM:M=F':=cn.one hM fr'
   subst eM
   rw[et]at hM hbk ⊢
   refine BR (prc:=prcB es ks bk) tb (fun L hL b=>DQ fr0 hM hpn hL b) (fun L hL b=>?_) gr
   rw[Eg tn (Cr kl) fr0 hpn hL b hrow,← hbk]
   rfl
 rintro σ HA ⟨v6,v7,v8,d9,kv,T9,rfl,sA,nd9,hd9,dc9,tl9,tb9⟩
 have etm:od'.take m=od':=Jx (by omega)
 rw[etm]at tb9
 have tb:=tb9 0 (DR opm hbd)
 obtain⟨⟨s0,D0⟩,hD0,es0⟩:=IY.mp (tb.has 0 ((rG opm).mpr (Nat.two_pow_pos m)))
 have es0':s0=0:=by rw[Mh]at es0;exact es0
 subst es0'
 have hst:=tb.hs 0 D0 hD0
 have hst2:Hst D0 (hA es ks m):=hst.cg fun x=>by
  unfold hL hA
  rw[BV (Di opm)]
  refine ax fun L _=>?_
  rw[Mh,decide_eq_true rfl,K1,Ip opm hbd]
 obtain⟨u,hu',a,rfl,ad,Ca,ha⟩:=dc9.get tb.nd hD0
 refine⟨_,rfl,d9,.ref a,rfl,.inl ⟨kv,.inl ((0:Nat):Int),.inl hd9,rfl,hu'.symm⟩,.inr (.inr (.inl ⟨rfl,.inl ⟨_,ha⟩⟩)),a,.dK (repD D0),rfl,rfl,ha,trivial,fun vw hvw=>?_⟩
 have sv:=aq hvw (cV vw a)
 refine⟨vw,a,_,D0,rfl,ae,sv _ _ ha,rfl,hst2.nd,fun l out ps' H' k1 nl hl pm' up ol rd=>?_⟩
 have sHA:Same H HA:=(s1.trans s1C).trans sA
 have sF:Same H H':=(sHA.trans sv).trans k1
 refine kk l out ps' H' sF ?_ hl ⟨ol,fun i e he=>?_⟩ ⟨up,hst2.perm pm'⟩
 ·exact uJ (sHA.trans sv) nl
 ·obtain⟨t',e1,e2⟩:=rd i e he
  exact⟨.ref t',e1,t',rfl,e2⟩
end
end K8
namespace K8
open PySem L2
local macro_rules | `(tactic| walk_at "cc") => `(tactic| first | exact ⟨by decide, by decide⟩ | (show (0 : Int) < _; decide) | (show (0 : Int) < _; omega) | (show (0 : Int) ≤ _; omega) | exact ⟨by decide, by decide, by decide⟩ | exact ⟨by omega, by omega, by decide⟩ | exact Or.inl ⟨by decide, by decide⟩ | exact Or.inl ⟨by omega, by omega⟩)
local macro_rules | `(tactic| walk_at "rd") => `(tactic| repeat (first | refine ⟨_, rfl, ?_⟩ | refine ⟨_, _, rfl, rfl, ?_⟩ | refine ⟨rfl, ?_⟩ | (refine ⟨?cc, ?_⟩; (case cc => walk_at "cc"))))
theorem bitD(N p:Nat):((N:Int)/2^((p:Nat):Int).toNat)%2=if N.testBit p=true then 1 else 0:=by
 have:=bitN N p
 unfold bit at this
 exact this
theorem Cp{es:En}{ks:Kn}{t L:Nat}{e:Nat×Nat}{k:Int×Int}(he:es[t]?=some e)(hk:ks[t]?=some k)(h01:k.1=0∨k.1=1):prT es ks t L=if((L:Int)/2^((e.1:Nat):Int).toNat+(L:Int)/2^((e.2:Nat):Int).toNat+k.1)%2=1 then k.2 else 0:=by
 have hs:stg ks t=k.2:=by unfold stg;rw[hk]
 unfold prT
 rw[U_at he hk,hs]
 have b1:=bitD L e.1
 have b2:=bitD L e.2
 have key:(unp (decide (k.1=1)) (e.1:Int) (e.2:Int) (L:Int)=true)↔((L:Int)/2^((e.1:Nat):Int).toNat+(L:Int)/2^((e.2:Nat):Int).toNat+k.1)%2=1:=by
  unfold unp bit
  generalize (L:Int)/2^((e.1:Nat):Int).toNat=x at b1 ⊢
  generalize (L:Int)/2^((e.2:Nat):Int).toNat=y at b2 ⊢
  rcases h01 with z | z
  ·rw[z,decide_eq_false (show ¬ ((0:Int)=1) by decide)]
   show(!decide (V.int ((x%2+y%2)%2)=V.int 0))=true↔_
   by_cases c:(x%2+y%2)%2=0
   ·rw[decide_eq_true (congrArg V.int c)]
    constructor
    ·intro q;cases q
    ·intro q;omega
   ·rw[decide_eq_false (fun q=>c (V.int.inj q))]
    constructor
    ·intro _;omega
    ·intro _;rfl
  ·rw[z,decide_eq_true (show((1:Int)=1) from rfl)]
   show(!decide (V.int ((x%2+y%2)%2)=V.int 1))=true↔_
   by_cases c:(x%2+y%2)%2=1
   ·rw[decide_eq_true (congrArg V.int c)]
    constructor
    ·intro q;cases q
    ·intro q;omega
   ·rw[decide_eq_false (fun q=>c (V.int.inj q))]
    constructor
    ·intro _;omega
    ·intro _;rfl
 by_cases c:unp (decide (k.1=1)) (e.1:Int) (e.2:Int) (L:Int)=true
 ·rw[if_pos c,if_pos (key.mp c)]
 ·rw[if_neg c,if_neg fun z=>c (key.mpr z)]
theorem Hl{o:List Nat}{m:Nat}(ol:o.length=m)(nd:o.Nodup)(ob:∀ x∈o,x<m):o.Perm (JC m):=by
 refine(Kd nd Kr).mpr fun x=>⟨fun h=>Jz.mpr (ob x h),fun h=>?_⟩
 by_cases z:x∈o
 ·exact z
 ·exfalso
  have:=gA (JD.mpr ⟨z,nd⟩) (N:=m) fun y hy=>by
   rcases IL.mp hy with u | u
   ·rw[u];exact Jz.mp h
   ·exact ob y u
  rw[Jm]at this
  omega
theorem Hst.sub{D E:Hs}{g:Int->Int}(h:Hst D g)(k:Hst E g):∀ e∈D,e∈E:=fun e he=>by
 obtain⟨a,b⟩:=h.ex e.1 e.2 he
 obtain⟨y,hy,ey⟩:=IY.mp (k.al e.1 (by omega))
 have ey':y.1=e.1:=ey
 have:=(k.ex y.1 y.2 hy).1
 rw[ey',← a]at this
 have:y=e:=Prod.ext ey' this
 rw[← this]
 exact hy
theorem Hst.ndp{D:Hs}{g:Int->Int}(h:Hst D g):D.Nodup:=(Kw.mp h.nd).imp fun n e=>n (by rw[e])
theorem Hst.two{D E:Hs}{g:Int->Int}(h:Hst D g)(k:Hst E g):D.Perm E:=(Kd h.ndp k.ndp).mpr fun e=>⟨h.sub k e,k.sub h e⟩
theorem GY{α:Type}{l:List α}{f:α->Int}(h:∀ x∈l,0<=f x):0<=sumL l f:=by
 have:=nh (l:=l) (f:=fun _=>(0:Int)) (g:=f) h
 rw[bw]at this
 exact this
theorem tot_nn{es:En}{ks:Kn}(k0:∀ (t:Nat) (k:Int×Int),ks[t]?=some k->0<=k.2)(L:Nat):0<=totC es ks L:=by
 unfold totC
 refine GY fun t _=>?_
 unfold prT
 split
 ·unfold stg
  cases z:ks[t]? with
  |none=>exact Kk _
  |some k=>exact k0 t k z
 ·exact Kk _
theorem hA_ex{es:En}{ks:Kn}{m:Nat}{x:Int}(h:hA es ks m x≠0):∃ L∈lays (JC m),totC es ks L=x:=by
 by_cases z:∃ L∈lays (JC m),totC es ks L=x
 ·exact z
 ·refine absurd ?_ h
  unfold hA
  refine(ax fun L hL=>?_).trans (bw (lays (JC m)))
  rw[decide_eq_false fun y=>z ⟨L,hL,y⟩]
  rfl
theorem Hist.nn{es:En}{ks:Kn}{m:Nat}{D:Hs}(h:Hist es ks m D)(k0:∀ (t:Nat) (k:Int×Int),ks[t]?=some k->0<=k.2):∀ e∈D,0<=e.1/\0<e.2:=fun e he=>by
 obtain⟨a,b⟩:=h.hs.ex e.1 e.2 he
 obtain⟨L,_,q⟩:=hA_ex (show hA es ks m e.1≠0 by omega)
 rw[← q]
 exact⟨tot_nn k0 L,b⟩
theorem CR.rot{f:Nat->Nat}{N:Nat}{r:List Nat}{d:Nat}(h:CR f N r)(hd:d∈r):∃ tail,CR f N (d::tail)/\gM f d tail d:=by
 obtain⟨x,l,rfl,c⟩:=h.ch
 rcases IL.mp hd with e | hd
 ·subst e
  exact⟨l,h,c⟩
 ·obtain⟨A,B,rfl⟩:=Lw hd
  obtain⟨c1,c2⟩:=dP.mp c
  have cc:gM f d (B++x::A) d:=dP.mpr ⟨c2,c1⟩
  have pm:(d::(B++x::A)).Perm (x::(A++d::B)):=by
   have:(d::B++x::A).Perm (x::A++d::B):=Ka
   exact this
  exact⟨B++x::A,⟨⟨d,_,rfl,cc⟩,fun y hy=>h.lt y (pm.mem_iff.mp hy),pm.nodup_iff.mpr h.nd⟩,cc⟩
theorem HX:Gr 2 [(1,0)] [[0],[0]]:=by
 refine Ren.gr (es:=[(0,1)]) (ts:=[[0],[0]]) (π:=fun p=>if p=0 then 1 else 0) (σ:=fun t=>t) ⟨⟨fun k hk=>?_,fun a b ha hb e=>?_,fun y hy=>?_⟩,⟨fun k hk=>hk,fun a b _ _ e=>e,fun y hy=>⟨y,hy,rfl⟩⟩,rfl,rfl,fun k e he=>?_,fun p l hl=>?_⟩ Gj
 ·show(if k=0 then 1 else 0)<2
  split<;>omega
 ·have e':(if a=0 then 1 else 0)=(if b=0 then(1:Nat) else 0):=e
  by_cases c:a=0
  ·by_cases d:b=0
   ·omega
   ·rw[if_pos c,if_neg d]at e';cases e'
  ·by_cases d:b=0
   ·rw[if_neg c,if_pos d]at e';cases e'
   ·omega
 ·by_cases c:y=0
  ·exact⟨1,by omega,by rw[c];rfl⟩
  ·exact⟨0,by omega,by show(if(0:Nat)=0 then 1 else 0)=y;rw[if_pos rfl];omega⟩
 ·match k,he with
  |0,he=>cases he;rfl
  |k+1,he=>cases he
 ·match p,hl with
  |0,hl=>cases hl;exact⟨[0],[],rfl,rfl⟩
  |1,hl=>cases hl;exact⟨[0],[],rfl,rfl⟩
  |p+2,hl=>cases hl
theorem Gr.leafE{m:Nat}{es:En}{ts:List (List Nat)}(g:Gr m es ts){p:Nat}{l:List Nat}{e:Nat×Nat}(e1:ts[p]?=some l)(ne:l≠[])(he:e=(p,m)∨e=(m,p)):Gr (m+1) (es++[e]) (ts.set p (l++[es.length])++[[es.length]]):=by
 have w:=g.w
 have eql:l.dropLast++[l.getLast ne]=l:=Ls ne
 obtain⟨u,hu⟩:∃ u,u=l.getLast ne:=⟨_,rfl⟩
 obtain⟨A,hA⟩:∃ A,A=l.dropLast:=⟨_,rfl⟩
 rw[← hu,← hA]at eql
 have um:u∈l:=by rw[← eql];simp
 obtain⟨x,hx,hxe⟩:=(w.mem p l e1 u).mp um
 have ul:=(IA.mp hx).1
 obtain⟨d,hd1,hd2,hd3⟩:∃ d,d/2=u/\hd es d=p/\d<2*es.length:=by
  rcases hxe with z | z
  ·refine⟨2*u+1,by omega,?_,by omega⟩
   unfold hd
   rw[show(2*u+1)/2=u by omega,hx]
   show(if(2*u+1)%2=0 then x.2 else x.1)=p
   rw[if_neg (by omega)]
   exact z
  ·refine⟨2*u,by omega,?_,by omega⟩
   unfold hd
   rw[show 2*u/2=u by omega,hx]
   show(if 2*u%2=0 then x.2 else x.1)=p
   rw[if_pos (by omega)]
   exact z
 obtain⟨rs,pt,_⟩:=g.part
 obtain⟨r,hr,hdr⟩:=JN.mp (pt.all d hd3)
 obtain⟨tail,cr,ch⟩:=(pt.cr r hr).rot hdr
 have q:=g.leaf hd3 cr ch hd2 he e1
 have nA:u∉A:=fun z=>by
  have nd:=w.nd p l e1
  rw[← eql]at nd
  exact(Jo.mp nd).2.2 u z u (by simp) rfl
 have ei:ins l (l.idxOf (d/2)+1) es.length=l++[es.length]:=by
  rw[hd1,← eql,ve nA,Jq]
  rfl
 rw[ei]at q
 exact q
abbrev Tr:=List (Nat×Int×Int)
def eT(i:Nat)(r:Nat×Int×Int):Nat×Nat:=if r.2.1=1 then(r.1,i+1) else(i+1,r.1)
def esT(tr:Tr):En:=(JC tr.length).map fun i=>eT i (tr.getD i (0,0,0))
def ksT(tr:Tr):Kn:=tr.map fun r=>r.2
theorem bO(tr:Tr):(esT tr).length=tr.length:=by unfold esT;rw[IJ,JV]
theorem rQ(tr:Tr):(ksT tr).length=tr.length:=IJ ..
theorem DT{tr:Tr}{i:Nat}{r:Nat×Int×Int}(h:tr[i]?=some r):(esT tr)[i]?=some (eT i r):=by
 unfold esT
 rw[II,L6 (IA.mp h).1]
 show some (eT i (tr.getD i (0,0,0)))=_
 rw[IT,h]
 rfl
theorem ksT_at{tr:Tr}{i:Nat}{r:Nat×Int×Int}(h:tr[i]?=some r):(ksT tr)[i]?=some r.2:=by unfold ksT;rw[II,h];rfl
theorem mX(tr:Tr)(r:Nat×Int×Int):esT (tr++[r])=esT tr++[eT tr.length r]:=by
 unfold esT
 rw[IF,IM,LS,Jr]
 congr 1
 ·refine Lb fun i hi=>?_
  have:=Jz.mp hi
  rw[IT,IT,IH this]
 ·show[eT tr.length ((tr++[r]).getD tr.length (0,0,0))]=_
  rw[IT,IE (IG _),Je]
  rfl
theorem Fv(tr:Tr)(r:Nat×Int×Int):ksT (tr++[r])=ksT tr++[r.2]:=by unfold ksT;rw[Jr];rfl
def TrOk(tr:Tr):Prop:=∀(i:Nat)(r:Nat×Int×Int),tr[i]?=some r->r.1<=i/\(r.2.1=0∨r.2.1=1)/\0<=r.2.2
theorem TrOk.take{tr:Tr}(h:TrOk tr)(n:Nat):TrOk (tr.take n):=fun i r e=>by
 rw[KP]at e
 split at e
 ·exact h i r e
 ·cases e
theorem yE{i p:Nat}{r:Nat×Int×Int}(h:r.1<=i):(eT i r).1<=i+1/\(eT i r).2<=i+1/\(eT i r).1≠(eT i r).2/\(((eT i r).1=r.1/\(eT i r).2=i+1)∨((eT i r).1=i+1/\(eT i r).2=r.1)):=by
 unfold eT
 split
 ·exact⟨by show r.1<=i+1;omega,IG _,by show r.1≠i+1;omega,.inl ⟨rfl,rfl⟩⟩
 ·exact⟨IG _,by show r.1<=i+1;omega,by show i+1≠r.1;omega,.inr ⟨rfl,rfl⟩⟩
def tsT:Tr->Nat->List (List Nat)
 |_,0=>[[]]
 |tr,n+1=>let p:=(tr.getD n (0,0,0)).1;(tsT tr n).set p (((tsT tr n).getD p [])++[n])++[[n]]
theorem m8(tr:Tr):∀ n,(tsT tr n).length=n+1
 |0=>rfl
 |n+1=>by
  show((tsT tr n).set _ _++[[n]]).length=_
  rw[IF,JO,m8 tr n]
  rfl
theorem wB{tr:Tr}(ok:TrOk tr):∀ n,n<tr.length->Gr (n+2) (esT (tr.take (n+1))) (tsT tr (n+1))
 |0,h=>by
  obtain⟨r,hr⟩:∃ r,tr[0]?=some r:=⟨_,IB h⟩
  have hp:=(ok 0 r hr).1
  have hp0:r.1=0:=by omega
  have et:tr.take 1 = [r]:=by rw[Jk,hr];rfl
  have gd:tr.getD 0 (0,0,0)=r:=by rw[IT,hr];rfl
  have ts1:tsT tr 1 = [[0],[0]]:=by
   show([[]]:List (List Nat)).set (tr.getD 0 (0,0,0)).1 (([[]]:List (List Nat)).getD (tr.getD 0 (0,0,0)).1 []++[0])++[[0]]=_
   rw[gd,hp0]
   rfl
  rw[et,ts1]
  have e1:esT [r] = [eT 0 r]:=by
   have:=mX [] r
   exact this
  rw[e1]
  unfold eT
  split
  ·rw[hp0];exact Gj
  ·rw[hp0];exact HX
 |n+1,h=>by
  have g:=wB ok n (by omega)
  obtain⟨r,hr⟩:∃ r,tr[n+1]?=some r:=⟨_,IB h⟩
  have hp:=(ok _ r hr).1
  have et:tr.take (n+1+1)=tr.take (n+1)++[r]:=by rw[Jk,hr];rfl
  have gd:tr.getD (n+1) (0,0,0)=r:=by rw[IT,hr];rfl
  have tl:(tr.take (n+1)).length=n+1:=by rw[Jg];omega
  have el:(esT (tr.take (n+1))).length=n+1:=by rw[bO,tl]
  obtain⟨l,hl⟩:∃ l,(tsT tr (n+1))[r.1]?=some l:=⟨_,IB (by rw[m8];omega)⟩
  have ne:l≠[]:=fun z=>by
   have:∃(t:Nat)(e:Nat×Nat),(esT (tr.take (n+1)))[t]?=some e/\(e.1=r.1∨e.2=r.1):=by
    by_cases c:r.1=0
    ·obtain⟨r0,hr0⟩:∃ r0,(tr.take (n+1))[0]?=some r0:=⟨_,IB (by omega)⟩
     have q0:=(ok.take _ 0 r0 hr0).1
     refine⟨0,_,DT hr0,?_⟩
     rcases(yE (p:=0) q0).2.2.2 with z | z
     ·exact .inl (by rw[z.1];omega)
     ·exact .inr (by rw[z.2];omega)
    ·obtain⟨r0,hr0⟩:∃ r0,(tr.take (n+1))[r.1-1]?=some r0:=⟨_,IB (by omega)⟩
     have q0:=(ok.take _ _ r0 hr0).1
     refine⟨r.1-1,_,DT hr0,?_⟩
     rcases(yE (p:=0) q0).2.2.2 with z | z
     ·exact .inr (by rw[z.2];omega)
     ·exact .inl (by rw[z.1];omega)
   obtain⟨t,e,he,hee⟩:=this
   have:=(g.w.mem r.1 l hl t).mpr ⟨e,he,hee⟩
   rw[z]at this
   cases this
  have q:=g.leafE (e:=eT (n+1) r) hl ne (by
   unfold eT
   split
   ·exact .inl rfl
   ·exact .inr rfl)
  rw[et,mX,tl]
  have gl:(tsT tr (n+1)).getD r.1 []=l:=by rw[IT,hl];rfl
  have ets:tsT tr (n+1+1)=(tsT tr (n+1)).set r.1 (l++[n+1])++[[n+1]]:=by
   show(tsT tr (n+1)).set (tr.getD (n+1) (0,0,0)).1 ((tsT tr (n+1)).getD (tr.getD (n+1) (0,0,0)).1 []++[n+1])++[[n+1]]=_
   rw[gd,gl]
  rw[ets]
  rw[el]at q
  exact q
theorem Hf{es:En}{ks:Kn}{e:Nat×Nat}{k:Int×Int}{t L:Nat}(kl:ks.length=es.length)(ht:t<es.length):prT (es++[e]) (ks++[k]) t L=prT es ks t L:=by
 unfold prT U stg
 rw[IH ht,IH (by omega)]
theorem BQ{es:En}{ks:Kn}{e:Nat×Nat}{k:Int×Int}(kl:ks.length=es.length)(L:Nat):totC (es++[e]) (ks++[k]) L=totC es ks L+prT (es++[e]) (ks++[k]) es.length L:=by
 unfold totC
 rw[IF,IM,LS,hX,av,da,JS]
 congr 1
 exact ax fun t ht=>Hf kl (Jz.mp ht)
theorem GU{es:En}{ks:Kn}{m L:Nat}(kl:ks.length=es.length)(hb:∀ e∈es,e.1<m/\e.2<m):totC es ks (L|||2^m)=totC es ks L:=by
 unfold totC
 refine ax fun t ht=>?_
 obtain⟨e,he⟩:∃ e,es[t]?=some e:=⟨_,IB (Jz.mp ht)⟩
 obtain⟨b1,b2⟩:=hb e (ID he)
 refine Cr kl t e he _ _ ?_ ?_
 ·rw[JZ,JE,decide_eq_false (by omega),KL]
 ·rw[JZ,JE,decide_eq_false (by omega),KL]
theorem HW{es:En}{ks:Kn}{m p:Nat}{e:Nat×Nat}{k:Int×Int}(kl:ks.length=es.length)(k01:k.1=0∨k.1=1)(hb:∀ e∈es,e.1<m/\e.2<m)(pm:p<m)(he:e=(p,m)∨e=(m,p))(x:Int):hA (es++[e]) (ks++[k]) (m+1) x=hA es ks m x+hA es ks m (x-k.2):=by
 unfold hA
 rw[LS,zF,← hZ]
 refine ax fun L hL=>?_
 have hLm:L.testBit m=false:=by
  cases z:L.testBit m with
  |false=>rfl
  |true =>
   have:=Jz.mp (jM hL z)
   omega
 rw[BQ kl,BQ kl,GU kl hb]
 have ea:(es++[e])[es.length]?=some e:=by rw[IE (IG _),Je];rfl
 have ka:(ks++[k])[es.length]?=some k:=by rw[IE (by omega),kl,Je];rfl
 have v1:=Cp (L:=L) ea ka k01
 have v2:=Cp (L:=L|||2^m) ea ka k01
 have b1:=bitD L e.1
 have b2:=bitD L e.2
 have c1:=bitD (L|||2^m) e.1
 have c2:=bitD (L|||2^m) e.2
 rw[JZ,JE]at c1 c2
 have sumb:((L:Int)/2^((e.1:Nat):Int).toNat)%2+((L:Int)/2^((e.2:Nat):Int).toNat)%2+1=(((L|||2^m:Nat):Int)/2^((e.1:Nat):Int).toNat)%2+(((L|||2^m:Nat):Int)/2^((e.2:Nat):Int).toNat)%2:=by
  rw[b1,b2,c1,c2]
  rcases he with z | z
  ·rw[z]
   show(if L.testBit p=true then(1:Int) else 0)+(if L.testBit m=true then 1 else 0)+1=(if(L.testBit p||decide (m=p))=true then 1 else 0)+(if(L.testBit m||decide (m=m))=true then 1 else 0)
   rw[hLm,decide_eq_false (by omega:¬ m=p),decide_eq_true rfl,KL,Md]
   cases L.testBit p<;>rfl
  ·rw[z]
   show(if L.testBit m=true then(1:Int) else 0)+(if L.testBit p=true then 1 else 0)+1=(if(L.testBit m||decide (m=m))=true then 1 else 0)+(if(L.testBit p||decide (m=p))=true then 1 else 0)
   rw[hLm,decide_eq_false (by omega:¬ m=p),decide_eq_true rfl,KL,Md]
   cases L.testBit p<;>rfl
 rw[v1,v2]
 generalize (L:Int)/2^((e.1:Nat):Int).toNat=A at *
 generalize (L:Int)/2^((e.2:Nat):Int).toNat=B at *
 generalize ((L|||2^m:Nat):Int)/2^((e.1:Nat):Int).toNat=C at *
 generalize ((L|||2^m:Nat):Int)/2^((e.2:Nat):Int).toNat=D at *
 generalize totC es ks L=T
 by_cases c:(A+B+k.1)%2=1
 ·rw[if_pos c,if_neg (by omega),JS,Int.add_comm]
  congr 2
  exact decide_eq_decide.mpr ⟨fun z=>by omega,fun z=>by omega⟩
 ·rw[if_neg c,if_pos (by omega),JS]
  congr 2
  exact decide_eq_decide.mpr ⟨fun z=>by omega,fun z=>by omega⟩
def gT(tr:Tr):Nat->Int->Int
 |0,x=>if x=0 then 2 else 0
 |n+1,x=>gT tr n x+gT tr n (x-(tr.getD n (0,0,0)).2.2)
theorem m9{tr:Tr}(ok:TrOk tr):∀ n,n<=tr.length->∀ x,hA (esT (tr.take n)) (ksT (tr.take n)) (n+1) x=gT tr n x
 |0,_,x=>by
  have e0:esT (tr.take 0) = []:=rfl
  rw[e0]
  unfold hA
  have l2:lays (JC 1) = [0,1]:=by decide
  rw[l2,av,av,da]
  have t0:∀ L,totC [] (ksT (tr.take 0)) L=0:=fun L=>rfl
  rw[t0,t0]
  show _=if x=0 then 2 else 0
  by_cases z:x=0
  ·rw[if_pos z,decide_eq_true z.symm];rfl
  ·rw[if_neg z,decide_eq_false (Ne.symm z)];rfl
 |n+1,h,x=>by
  obtain⟨r,hr⟩:∃ r,tr[n]?=some r:=⟨_,IB h⟩
  obtain⟨h1,h2,h3⟩:=ok n r hr
  have et:tr.take (n+1)=tr.take n++[r]:=by rw[Jk,hr];rfl
  have gd:tr.getD n (0,0,0)=r:=by rw[IT,hr];rfl
  have tl:(tr.take n).length=n:=by rw[Jg];omega
  have hb:∀ e∈esT (tr.take n),e.1<n+1/\e.2<n+1:=fun e he=>by
   obtain⟨i,hi⟩:=JI he
   have il:i<(tr.take n).length:=by rw[← bO];exact(IA.mp hi).1
   obtain⟨r',hr'⟩:∃ r',(tr.take n)[i]?=some r':=⟨_,IB il⟩
   rw[DT hr']at hi
   cases hi
   obtain⟨a,b,_⟩:=yE (p:=0) (ok.take n i r' hr').1
   omega
  rw[et,mX,Fv,tl,HW (by rw[rQ,bO]) h2 hb (show r.1<n+1 by omega) (by
   unfold eT
   split
   ·exact .inl rfl
   ·exact .inr rfl),m9 ok n (by omega),m9 ok n (by omega)]
  show _=gT tr n x+gT tr n (x-(tr.getD n (0,0,0)).2.2)
  rw[gd]
end K8
namespace K8
open PySem L2
local macro_rules | `(tactic| walk_at "cc") => `(tactic| first | exact ⟨by decide, by decide⟩ | (show (0 : Int) < _; decide) | (show (0 : Int) < _; omega) | (show (0 : Int) ≤ _; omega) | exact ⟨by decide, by decide, by decide⟩ | exact ⟨by omega, by omega, by decide⟩ | exact Or.inl ⟨by decide, by decide⟩ | exact Or.inl ⟨by omega, by omega⟩)
local macro_rules | `(tactic| walk_at "rd") => `(tactic| repeat (first | refine ⟨_, rfl, ?_⟩ | refine ⟨_, _, rfl, rfl, ?_⟩ | refine ⟨rfl, ?_⟩ | (refine ⟨?cc, ?_⟩; (case cc => walk_at "cc"))))
def B3:Sp:=fun vs H Q _=>∃(v:V)(p:Pr),vs = [v]/\PrAt H v p/\Q (.bl true) H
def B8(PL PS WC:Addr):Sp:=fun vs H Q _=>∃(p o:Addr)(b:Int)(m:Nat)(es:En)(ts:List (List Nat))(ks:Kn)(od:List Nat),vs = [.ref p,.int b,.ref o]/\WebT PL PS WC H p m es ts ks/\ks.length=es.length/\bh m es ts/\es.length<=100/\m<=16/\H o=some (.lst (od.map iV))/\od.Perm (JC m) /\
 ∀(q:Addr)(rows:List V)(D:Hs)(H':Hp),Same H H'->H q=none->H' q=some (.lst rows)->LsAt PrAt H' rows D->Hist es ks m D->Q (.ref q) H'
def B0(PL PS WC:Addr):Sp:=fun vs H Q _=>∃(p:Addr)(m:Nat)(es:En)(ts:List (List Nat))(ks:Kn),vs = [.ref p]/\WebT PL PS WC H p m es ts ks/\ks.length=es.length/\bh m es ts/\es.length<=100/\16<m/\m<=40/\∀ H',Same H H'->Q (.bl true) H'
def TrR(H:Hp)(v:V)(r:Nat×Int×Int):Prop:=∃ t,v=.ref t/\H t=some (.tup [iV r.1,.int r.2.1,.int r.2.2])
theorem TrR.ls{H H':Hp}{ws:List V}{tr:Tr}(h:LsAt TrR H ws tr)(s:Same H H'):LsAt TrR H' ws tr:=h.imp fun y x ⟨t,a,b⟩=>⟨t,a,s _ _ b⟩
theorem TrR.put{H:Hp}{ws zs:List V}{tr:Tr}{q:Addr}{o:HO}(h:LsAt TrR H ws tr)(hq:H q=some (.lst zs)):LsAt TrR (upd H q o) ws tr:=h.imp fun y x ⟨t,a,b⟩=>⟨t,a,by rw[ai (fun z=>by rw[z,hq]at b;cases b)];exact b⟩
theorem TrOk.snoc{tr:Tr}(h:TrOk tr){r:Nat×Int×Int}(h1:r.1<=tr.length)(h2:r.2.1=0∨r.2.1=1)(h3:0<=r.2.2):TrOk (tr++[r]):=fun i x e=>by
 by_cases c:i<tr.length
 ·rw[IH c]at e
  exact h i x e
 ·rw[IE (by omega)]at e
  have:i-tr.length=0:=by
   have:=(IA.mp e).1
   rw[IM]at this
   omega
  rw[this]at e
  cases e
  exact⟨by omega,h2,h3⟩
def BY(K:IC):Sp:=fun vs H Q _=>∃(a:Addr)(ns:List Int)(m:Nat)(sb:Bool),vs = [.ref a,.int (m:Int),.bl sb]/\SqL K H a (ns.map V.int)/\2<=m/\m<=39/\ns.length<=63/\∀(q:Addr)(ws:List V)(tr:Tr)(H':Hp),Same H H'->H q=none->H' q=some (.lst ws)->LsAt TrR H' ws tr->TrOk tr->tr.length+1=m->Q (.ref q) H'
def BZ:Sp:=fun vs H Q _=>∃(pk:Addr)(ws:List V)(tr:Tr),vs = [.ref pk]/\H pk=some (.lst ws)/\LsAt TrR H ws tr/\tr.length<=15/\∀(d:Addr)(D:Hs)(H':Hp),Same H H'->H' d=some (.dK (repD D))->Hst D (gT tr tr.length)->Q (.ref d) H'
section
variable{X:Cx}
theorem Bn:j9 X (.type "dict") (fun xs H Q=>∃ a kvs,xs = [V.ref a]/\Rd H a (.dK kvs)/\∀ p,H p=none->Q (.ref p) (upd H p (.dK kvs))):=by
 intro pins s σ H xs us Q I r h
 obtain⟨a,kvs,rfl,ha,q⟩:=h
 obtain⟨u,rfl,ru⟩:=tE r
 cases ru
 exact FH I ha fun p s' hp I'=>⟨.ref p,_,I',rfl,q p hp⟩
end
structure TxtX(mg:Str->Option Value)(TW:Addr):Prop extends Txt mg where
 g_TooWide:mg "TooWide" = some (.ref TW)
section
variable{P:Program}{w:World}{K:IC}{mg:Str->Option Value}{base:Heap}
theorem wZ:aC ["found"] ["found"] (ah dy):=⟨rfl,rfl,rfl,by decide +kernel,rfl,by decide +kernel,by decide +kernel⟩
theorem Hu{f fw:Addr}{fd fdw:FuncData} (F:Fun K "_law_pair" "_law_pair" dy f fd) (T:Txt mg) (G_law_whole:Cal P w K mg base 1 "_law_whole" ["found"] G1 fw fdw):FnOk P w K mg base CX0 2 f fd ["found"] B3:=by
 refine F.ok wZ (fun vs H Q E h=>?_) (fun cdv A outer s H vs Q E hr h=>?_)
 ·obtain⟨v,p,rfl,_⟩:=h
  rfl
 obtain⟨v,p,rfl,⟨t,rfl,ht⟩,k⟩:=h
 refine⟨_,(ag (cT (PW.pt (t8 (Cn (nv (aJ mY (by rfl) T.n_isinstance cj (aa (pv 0) (aa (qY (v:=.ty "tuple") rfl T.n_tuple FL rfl) ak))))) (tZ (aG ra (aJ aL (by rfl) T.n_len gc (aa (pv 0) ak)) aj (aM _))))) (ao (aK CJ)) aP)
   (ao (aK (F7 (aI G_law_whole.ok (hr.mono (by decide)) rfl G_law_whole.mg G_law_whole.kp G_law_whole.bn .nil bt (aa (bL dN (pv 0) aj (fun _ _=>rfl)) ak)) (F5 (aI G_law_whole.ok (hr.mono (by decide)) rfl G_law_whole.mg G_law_whole.kp G_law_whole.bn .nil bt (aa (bL dN (pv 0) aj (fun _ _=>rfl)) ak))))))),?_⟩
 refine⟨_,rfl,_,_,_,_,_,rfl,TyOf.tup ht,Or.inl ⟨_,rfl,rfl⟩,kit_tt K,_,rfl,iteF ?_⟩
 refine⟨_,rfl,t,_,rfl,.inr (SqT.of ht),rfl,_,rfl,Dv rfl ?_⟩
 refine⟨_,rfl,t,_,0,_,rfl,rfl,SqT.of ht,at0,p.1,rfl,_,rfl,iteT ?_⟩
 exact⟨_,rfl,t,_,1,_,rfl,rfl,SqT.of ht,at1,p.2,rfl,k⟩
theorem tU:aC ["web","way","order"] ["web","way","order"] (ah cC):=⟨rfl,rfl,rfl,by decide +kernel,rfl,by decide +kernel,by decide +kernel⟩
theorem ok_ask{f f2 BO TW PL PS WC:Addr}{fd d2:FuncData} (F:Fun K "_law_asked" "_law_asked" cC f fd) (G_worths:CalX P w K mg base 5 "worths" ["web","order"] (spWs BO TW PL PS WC) f2 d2) (bn1:fZ K d2 ["web","order"] [.none]):FnOk P w K mg base (CXr P w) 6 f fd ["web","way","order"] (B8 PL PS WC):=by
 refine F.okX tU (fun vs H Q E h=>?_) (fun cdv A outer s H vs Q E hr h=>?_)
 ·obtain⟨p,o,b,m,es,ts,ks,od,rfl,_⟩:=h
  rfl
 obtain⟨p,o,b,m,es,ts,ks,od,rfl,wt,kl,tn,e100,m16,ho,pm,kk⟩:=h
 have pmI:(cI od).Perm (rI m):=pm.map _
 have ol:od.length=m:=by rw[pm.length_eq,JV]
 have fin:∀ v ns,Told m v H ns->ns.Perm (rI m)->spWs BO TW PL PS WC [.ref p,v] H Q E:=fun v ns hv hn=>⟨p,m,es,ts,ks,v,ns,rfl,wt,kl,tn,e100,by omega,hv,hn,fun z=>absurd z (by omega),fun _=>kk⟩
 refine⟨_,(ag (cT (aG rf (pv 1) aj (aM _)) (ao (aK (ig G_worths.ok (hr.mono (by decide)) rfl G_worths.mg G_worths.kp bn1 (dvs:=[.non]) (.cons rfl .nil) lB rfl (aa (pv 0) ak)))) aP)
   (ag (cT (aG rf (pv 1) aj (aM _)) (ao (aK (ig G_worths.ok (hr.mono (by decide)) rfl G_worths.mg G_worths.kp G_worths.bn .nil lB rfl (aa (pv 0) (aa CD ak))))) aP)
   (ao (aK (ig G_worths.ok (hr.mono (by decide)) rfl G_worths.mg G_worths.kp G_worths.bn .nil lB rfl (aa (pv 0) (aa (pv 2) ak))))))),?_⟩
 have bare:=fin .non (rI m) (.inl ⟨rfl,rfl⟩) (Ll _)
 refine⟨_,rfl,rfl,_,rfl,ite2 (fun c=>?_) (fun c=>?_)⟩
 ·exact⟨_,rfl,bare⟩
 refine⟨_,rfl,rfl,_,rfl,ite2 (fun c=>?_) (fun c=>?_)⟩
 ·exact⟨_,rfl,bare⟩
 exact⟨_,rfl,_,rfl,fin (.ref o) (cI od) (.inr ⟨o,rfl,by rw[cI_V];exact ho,by unfold cI;rw[IJ];omega⟩) pmI⟩
theorem cM:aC ["web","found","e"] ["web"] (ah bH):=⟨rfl,rfl,rfl,by decide +kernel,rfl,by decide +kernel,by decide +kernel⟩
theorem Ht{f f2 BO TW FE PL PS WC:Addr}{fd d2:FuncData} (F:Fun K "_law_refused" "_law_refused" bH f fd) (T:TxtX mg TW) (X_FloorError:ErrC K mg "FloorError" FE) (X_TooWide:ErrC K mg "TooWide" TW) (mTF:KG K TW (.ref FE)=some true) (G_worths:CalX P w K mg base 5 "worths" ["web","order"] (spWs BO TW PL PS WC) f2 d2) (bn1:fZ K d2 ["web","order"] [.none]):FnOk P w K mg base CX0 6 f fd ["web"] (B0 PL PS WC):=by
 have hCs:∀ c,c=TW->ExC K c/\KG K c (.ref FE)=some true:=fun c hc=>by subst hc;exact⟨X_TooWide.ec,mTF⟩
 refine F.ok cM (fun vs H Q E h=>?_) (fun cdv A outer s H vs Q E hr h=>?_)
 ·obtain⟨p,m,es,ts,ks,rfl,_⟩:=h
  rfl
 obtain⟨p,m,es,ts,ks,rfl,wt,kl,tn,e100,m16,m40,kk⟩:=h
 refine⟨_,(ag (az (i:=1) cM.nd rfl (Or.inl rfl) CD)
   (ag (EW (ie:=2) (Cs:=(fun c=>c=TW)) rfl rfl rfl cM.nd rfl rfl rfl X_FloorError.mg X_FloorError.ec hCs (fun pins XE W ws=>(ao (bp (E3 G_worths.ok (hr.mono (by decide)) rfl G_worths.mg G_worths.kp bn1 (dvs:=[.non]) (.cons rfl .nil) ws rfl (aa (pv 0) ak))))) (fun v=>(ao (az (i:=1) cM.nd rfl (Or.inl rfl) (pv 2)))))
   (ao (aK (aJ Eo (by rfl) T.n_isinstance cj (aa (pv 1) (aa (CF (v:=.ref _) rfl T.g_TooWide rfl) ak))))))),?_⟩
 refine⟨_,rfl,p,m,es,ts,ks,.non,rI m,rfl,wt,kl,tn,e100,m40,.inl ⟨rfl,rfl⟩,Ll _,fun _ H1 s1=>⟨TW,rfl,rfl,fun x hx=>?_⟩,fun z=>absurd z (by omega)⟩
 refine⟨_,rfl,?_⟩
 exact⟨_,rfl,x,TW,rfl,ae,kk _ (s1.trans (aq hx _))⟩
end
end K8
namespace K8
open PySem L2
local macro_rules | `(tactic| walk_at "cc") => `(tactic| first | exact ⟨by decide, by decide⟩ | (show (0 : Int) < _; decide) | (show (0 : Int) < _; omega) | (show (0 : Int) ≤ _; omega) | exact ⟨by decide, by decide, by decide⟩ | exact ⟨by omega, by omega, by decide⟩ | exact Or.inl ⟨by decide, by decide⟩ | exact Or.inl ⟨by omega, by omega⟩)
local macro_rules | `(tactic| walk_at "rd") => `(tactic| repeat (first | refine ⟨_, rfl, ?_⟩ | refine ⟨_, _, rfl, rfl, ?_⟩ | refine ⟨rfl, ?_⟩ | (refine ⟨?cc, ?_⟩; (case cc => walk_at "cc"))))
structure TxtL(mg:Str->Option Value):Prop extends Txt mg where
 n_dict:mg "dict" = none
section
variable{P:Program}{w:World}{K:IC}{mg:Str->Option Value}{base:Heap}
theorem eY:aC ["script","many","star","told","k","cell"] ["script","many","star"] (ah dv):=⟨rfl,rfl,rfl,by decide +kernel,rfl,by decide +kernel,by decide +kernel⟩
theorem Hq{f fc:Addr}{fd dc:FuncData} (F:Fun K "_law_told" "_law_told" dv f fd) (T:Txt mg) (G_law_cell:Cal P w K mg base 1 "_law_cell" ["script","k"] (zJ K) fc dc):FnOk P w K mg base CX0 2 f fd ["script","many","star"] (BY K):=by
 refine F.ok eY (fun vs H Q E h=>?_) (fun cdv A outer s H vs Q E hr h=>?_)
 ·obtain⟨a,ns,m,sb,rfl,_⟩:=h
  rfl
 obtain⟨a,ns,m,sb,rfl,hS,m2,m39,h63,kk⟩:=h
 refine⟨_,(ag (az (i:=3) eY.nd rfl (Or.inl rfl) (eS ak))
   (ag (cu PassesOwn.never rfl (CA rfl T.n_range (aa aj (aa (pv 1) ak))) (aH (i:=4) eY.nd rfl (Or.inl rfl)) (ag (az (i:=5) eY.nd rfl (Or.inl rfl) (aI G_law_cell.ok (hr.mono (by decide)) rfl G_law_cell.mg G_law_cell.kp G_law_cell.bn .nil bt (aa (pv 0) (aa (aA cU aj (aA cv (aA pW (pv 4) aj) (aJ (vI rfl) (by rfl) T.n_max Gs (aa aj (aa (aA pW (aJ aL (by rfl) T.n_len gc (aa (pv 0) ak)) aj) ak))))) ak))))
   (ao (cT (nv (pv 2)) (ao (bp (i0 Jt Jw Jv bg (pv 3) (aa (uk (aa aj (aa (aA cv (pv 5) aj) (aa (aA cv (aA fg (pv 5) aj) aj) ak)))) ak)))) (ao (cT (aG CK (pv 1) aj (aM _)) (ao (bp (i0 Jt Jw Jv bg (pv 3) (aa (uk (aa (aJ (vI rfl) (by rfl) T.n_max Gs (aa aj (aa (aA pW (aA pW (pv 4) aj) (aA cv (aA fg (pv 5) aj) aj)) ak))) (aa (aA cv (pv 5) aj) (aa (aA cv (aA fg (pv 5) aj) aj) ak)))) ak)))) (ao (bp (i0 Jt Jw Jv bg (pv 3) (aa (uk (aa (aA cv (aA fg (pv 5) aj) (pv 4)) (aa (aA cv (pv 5) aj) (aa (aA cv (aA fg (pv 5) aj) (aA cU (aA op_pow aj aj) aj)) ak)))) ak))))))))))
   (ao (aK (pv 3))))),?_⟩
 refine⟨(by show 0<=sizeLine;exact JL _),fun q hq=>?_⟩
 have s1:=aq hq (.lst [])
 have e1:((m:Int)-1).toNat=m-1:=by omega
 refine⟨_,rfl,_,_,rfl,⟨by decide,by decide,by omega,by omega⟩,jS (fun i σ H2=>∃(zs:List V)(tr:Tr)(v4 v5:Option V),σ = [some (.ref a),some (.int (m:Int)),some (.bl sb),some (.ref q),v4,v5]/\Same H H2/\H2 q=some (.lst zs)/\LsAt TrR H2 zs tr/\TrOk tr/\tr.length=i) ⟨[],[],_,_,rfl,s1,ae,LsAt.nil,fun i r e=>by simp at e,rfl⟩ ?_ ?_⟩
 ·rintro i σ H2 hi ⟨zs,tr,v4,v5,rfl,s2,hq2,ls,ok,tl⟩
  rw[e1]at hi
  have z0:(1:Int)+(i:Int)=((i+1:Nat):Int):=by omega
  rw[z0]
  have hS2:=s2.seq hS
  have zl:zs.length=i:=by rw[ls.1,tl]
  have nl:(ns.map V.int).length=ns.length:=IJ ..
  have mpos:(0:Int)<(if(((ns.map V.int).length:Nat):Int)-1 > 1 then(((ns.map V.int).length:Nat):Int)-1 else 1):=by split<;>omega
  obtain⟨kx,ekx⟩:∃ kx:Nat,(1:Int)+(((i+1:Nat):Int)-1)%(if(((ns.map V.int).length:Nat):Int)-1 > 1 then(((ns.map V.int).length:Nat):Int)-1 else 1)=(kx:Int):=by
   have h1:=KA (((i+1:Nat):Int)-1) (show(if(((ns.map V.int).length:Nat):Int)-1 > 1 then(((ns.map V.int).length:Nat):Int)-1 else 1)≠0 by split<;>omega)
   exact⟨((1:Int)+(((i+1:Nat):Int)-1)%(if(((ns.map V.int).length:Nat):Int)-1 > 1 then(((ns.map V.int).length:Nat):Int)-1 else 1)).toNat,by omega⟩
  have fin:∀(p:Nat)(kd st cl:Int)(t:Addr),H2 t=none->p<=i->(kd=0∨kd=1)->0<=st->∃(zs':List V)(tr:Tr)(v4 v5:Option V),[some (.ref a),some (.int (m:Int)),some (.bl sb),some (.ref q),some (.int ((i+1:Nat):Int)),some (.int cl)] = [some (.ref a),some (.int (m:Int)),some (.bl sb),some (.ref q),v4,v5]/\Same H (upd (upd H2 t (.tup [.int (p:Int),.int kd,.int st])) q (.lst (zs++[.ref t])))/\(upd (upd H2 t (.tup [.int (p:Int),.int kd,.int st])) q (.lst (zs++[.ref t]))) q=some (.lst zs')/\LsAt TrR (upd (upd H2 t (.tup [.int (p:Int),.int kd,.int st])) q (.lst (zs++[.ref t]))) zs' tr/\TrOk tr/\tr.length=i+1:=fun p kd st cl t ht hp hk hs=>by
   have s3:=aq ht (.tup [.int (p:Int),.int kd,.int st])
   refine⟨_,tr++[(p,kd,st)],_,_,rfl,bu (s2.trans s3) hq _,ae,TrR.put ((TrR.ls ls s3).snoc ⟨t,rfl,ae⟩) (s3 _ _ hq2),ok.snoc (by omega) hk hs,by rw[IF,tl];rfl⟩
  refine⟨_,rfl,_,rfl,_,_,rfl,rfl,_,rfl,a,_,rfl,.inl hS2,_,_,rfl,rfl,_,_,rfl,_,_,rfl,rfl,mpos,_,_,rfl,rfl,?_⟩
  dsimp only
  rw[ekx]
  refine⟨a,kx,ns,rfl,hS2,?_⟩
  generalize sM ns kx=cl
  have k01:cl%2=0∨cl%2=1:=by omega
  cases sb with
  |true =>
   refine⟨_,rfl,_,rfl,iteT ?_⟩
   refine⟨_,rfl,.inl ⟨rfl,_,SqL.of hq2⟩,_,rfl,_,_,rfl,rfl,(by show(0:Int)<2;decide),_,rfl,_,_,rfl,rfl,⟨by decide,by decide⟩,_,_,rfl,rfl,(by show(0:Int)<3;decide),(by show 3<=sizeLine;decide),fun t ht=>?_⟩
   exact⟨q,zs,_,rfl,rfl,aq ht _ _ _ hq2,aB (by omega),fin 0 _ _ cl t ht (JL _) k01 (KA _ (by decide))⟩
  |false =>
   refine⟨_,rfl,_,rfl,iteF ?_⟩
   refine⟨_,rfl,_,_,rfl,rfl,_,rfl,ite2 (fun c8=>?_) (fun c8=>?_)⟩
   ·obtain⟨p,hp,pi⟩:∃ p:Nat,(if((i+1:Nat):Int)-1-cl/2%2 > 0 then((i+1:Nat):Int)-1-cl/2%2 else 0)=(p:Int)/\p<=i:=by
     have:=KA (cl/2) (show(2:Int)≠0 by decide)
     refine⟨(if((i+1:Nat):Int)-1-cl/2%2 > 0 then((i+1:Nat):Int)-1-cl/2%2 else 0).toNat,?_,?_⟩
     ·split<;>omega
     ·split<;>omega
    refine⟨_,rfl,.inl ⟨rfl,_,SqL.of hq2⟩,?_⟩
    refine⟨_,rfl,_,_,rfl,rfl,_,rfl,_,_,rfl,rfl,⟨by decide,by decide⟩,_,_,rfl,rfl,(by show(0:Int)<2;decide),_,_,rfl,rfl,_,_,rfl,?_⟩
    dsimp only
    rw[hp]
    refine⟨_,rfl,_,_,rfl,rfl,(by show(0:Int)<2;decide),_,rfl,_,_,rfl,rfl,⟨by decide,by decide⟩,_,_,rfl,rfl,(by show(0:Int)<5;decide),(by show 3<=sizeLine;decide),fun t ht=>?_⟩
    exact⟨q,zs,_,rfl,rfl,aq ht _ _ _ hq2,aB (by omega),fin p _ _ cl t ht pi k01 (KA _ (by decide))⟩
   ·obtain⟨p,hp,pi⟩:∃ p:Nat,cl/2%((i+1:Nat):Int)=(p:Int)/\p<=i:=by
     have h1:=KA (cl/2) (show((i+1:Nat):Int)≠0 by omega)
     have h2:=Mc (cl/2) (show(0:Int)<((i+1:Nat):Int) by omega)
     exact⟨(cl/2%((i+1:Nat):Int)).toNat,by omega,by omega⟩
    refine⟨_,rfl,.inl ⟨rfl,_,SqL.of hq2⟩,?_⟩
    refine⟨_,rfl,_,_,rfl,rfl,⟨by decide,by decide⟩,_,rfl,_,_,rfl,rfl,(by show(0:Int)<((i+1:Nat):Int);omega),?_⟩
    dsimp only
    rw[hp]
    refine⟨_,rfl,_,_,rfl,rfl,(by show(0:Int)<2;decide),_,rfl,_,_,rfl,rfl,⟨by decide,by decide⟩,_,_,rfl,rfl,⟨by decide,by decide,by decide⟩,_,_,rfl,rfl,_,_,rfl,rfl,(by show(0:Int)<10^(30:Int).toNat+1;decide),(by show 3<=sizeLine;decide),fun t ht=>?_⟩
    exact⟨q,zs,_,rfl,rfl,aq ht _ _ _ hq2,aB (by omega),fin p _ _ cl t ht pi k01 (KA _ (by decide))⟩
 ·rintro σ H2 ⟨zs,tr,v4,v5,rfl,s2,hq2,ls,ok,tl⟩
  rw[e1]at tl
  exact⟨_,rfl,kk q zs tr _ s2 hq hq2 ls ok (by omega)⟩
theorem bM:aC ["told","sums","row","grown","cost","many"] ["told"] (ah dw):=⟨rfl,rfl,rfl,by decide +kernel,rfl,by decide +kernel,by decide +kernel⟩
theorem Hr{f:Addr}{fd:FuncData} (F:Fun K "_law_sums" "_law_sums" dw f fd) (T:TxtL mg):FnOk P w K mg base CX0 1 f fd ["told"] BZ:=by
 refine F.ok bM (fun vs H Q E h=>?_) (fun cdv A outer s H vs Q E hr h=>?_)
 ·obtain⟨pk,ws,tr,rfl,_⟩:=h
  rfl
 obtain⟨pk,ws,tr,rfl,hpk,ls,t15,kk⟩:=h
 have hu:=yA hr
 refine⟨_,(ag (az (i:=1) bM.nd rfl (Or.inl rfl) (CG (zN aj aj Cu) rfl rfl (fun z=>by cases z) (by decide)))
   (ag (cu PassesOwn.never rfl (bx (pv 0)) (aH (i:=2) bM.nd rfl (Or.inl rfl)) (ag (az (i:=3) bM.nd rfl (Or.inl rfl) (gj Bn (by rfl) T.n_dict Ir (aa (pv 1) ak)))
   (ag (cu PassesOwn.never rfl (uj (ur (pv 1))) (nC rfl (bq (aH (i:=4) bM.nd rfl (Or.inl rfl)) (bq (aH (i:=5) bM.nd rfl (Or.inl rfl)) iZ))) (ao (qP hu (pv 3) (aA cU (pv 4) (bL dN (pv 2) aj (fun _ _=>rfl))) (aA cU (zQ hu (pv 3) (aA cU (pv 4) (bL dN (pv 2) aj (fun _ _=>rfl))) aj ⟨rfl,rfl,rfl,rfl⟩) (pv 5)) rfl)))
   (ao (az (i:=1) bM.nd rfl (Or.inl rfl) (pv 3))))))
   (ao (aK (pv 1))))),?_⟩
 intro d0 hd0
 refine⟨by exact ae,[(.inl 0,.int 2)],rfl,(by show 1<=15;decide),?_⟩
 have z0:Same H (upd (upd H d0 (.dK [])) d0 (.dK [(.inl 0,.int 2)])):=bu (aq hd0 _) hd0 _
 have h0:Hst [((0:Int),(2:Int))] (gT tr 0):=by
  refine⟨by simp,fun x n hx=>?_,fun x hx=>?_⟩
  ·rw[IX]at hx
   cases hx
   exact⟨rfl,by decide⟩
  ·by_cases c:x=0
   ·rw[c];simp
   ·refine absurd ?_ hx
    show(if x=0 then(2:Int) else 0)=0
    rw[if_neg c]
 refine⟨_,rfl,pk,rfl,⟨_,SqL.of (z0 _ _ hpk)⟩,cO (K:=K) (xs:=ws) (fun i σ H2=>∃(v2 v3 v4 v5:Option V)(d:Addr)(D:Hs),σ = [some (.ref pk),some (.ref d),v2,v3,v4,v5]/\Same H H2/\H d=none/\H2 d=some (.dK (repD D))/\D.length<=2^i/\Hst D (gT tr i)) ⟨_,_,_,_,d0,[(0,2)],rfl,z0,hd0,ae,IG _,h0⟩ (fun i σ H2 _ ⟨_,_,_,_,_,_,_,z,_⟩=>SqL.of (z _ _ hpk)) ?_ ?_⟩
 ·rintro i x σ H2 hx ⟨v2,v3,v4,v5,d,D,rfl,s2,hd,hd2,dl,hD⟩
  obtain⟨r,hr',t,rfl,ht⟩:=ls.get hx
  have ht2:=s2 _ _ ht
  have il:i<tr.length:=(IA.mp hr').1
  have p15:2^i<=2^15:=Lp (by decide) (by omega)
  have e15:(2:Nat)^15=32768:=by decide
  refine⟨_,rfl,d,_,rfl,.inl hd2,fun fr hfr=>?_⟩
  have s3:=aq hfr (.dK (repD D))
  have hd3:=s3 _ _ hd2
  have ht3:=s3 _ _ ht2
  have hfr3:upd H2 fr (.dK (repD D)) fr=some (.dK (repD D)):=ae
  have nfd:fr≠d:=fun z=>by rw[z,hd2]at hfr;cases hfr
  have hfr0:H fr=none:=none_of s2 hfr
  have s23:=s2.trans s3
  generalize upd H2 fr (.dK (repD D))=H3 at s3 hd3 hfr3 s23 ht3
  refine⟨_,rfl,d,.dK (repD D),rfl,⟨trivial,.inl hd3⟩,fun vw hvw=>?_⟩
  have vd:vw≠d:=fun z=>by rw[z,hd3]at hvw;cases hvw
  have vf:vw≠fr:=fun z=>by rw[z,hfr3]at hvw;cases hvw
  have hm1:DRd (upd H3 vw (cV vw d)) d (.dK (repD D)):=⟨trivial,.inl (by rw[ai (Ne.symm vd)];exact hd3)⟩
  refine⟨vw,d,_,rfl,ae,hm1,fun o _=>?_⟩
  refine nW (u:=.dK (repD D)) (d:=d) (o:=o) (fun j σ H4=>∃ v4 v5 D',σ = [some (.ref pk),some (.ref d),some (.ref t),some (.ref fr),v4,v5]/\(∀ b u,b≠fr->b≠d->H3 b=some u->H4 b=some u)/\H4 d=some (.frz o (.dK (repD D)))/\H4 fr=some (.dK (repD D'))/\D'.length<=D.length+j/\Hst D' (fun x=>gT tr i x+cntL (D.take j) (x-r.2.2))) ⟨_,_,D,rfl,fun b u _ n q=>by rw[ai n,ai (ar q hvw)];exact q,ae,by rw[ai nfd,ai (Ne.symm vf)];exact hfr3,by omega,hD.cg fun x=>by show gT tr i x=gT tr i x+0;rw[JS]⟩ (fun i σ H4 _ ⟨_,_,_,_,_,z,_⟩=>z) ?_ ?_
  ·rintro j x y σ H4 T4 hi hkv ⟨v4,v5,D',rfl,s4,hm4,hc4,dl',hst⟩ hT4
   obtain⟨kvs',k,eu,hki,ex⟩:∃ kvs' k,HO.dK (repD D)=HO.dK kvs'/\kvs'[j]?=some (k,y)/\x=kV k:=by
    rcases hkv with z | ⟨_,_,_,z,_⟩
    ·exact z
    ·cases z
   obtain rfl:=HO.dK.inj eu
   unfold repD at hki
   rw[II]at hki
   obtain⟨e,he,e2⟩:=Jd.mp hki
   cases e2
   subst ex
   have tfr:t≠fr:=fun z=>by rw[z,hfr3]at ht3;cases ht3
   have td:t≠d:=fun z=>by rw[z,hd3]at ht3;cases ht3
   have ht4:=s4 _ _ tfr td ht3
   refine⟨T4,_,rfl,SqT.of ae,rfl,_,_,rfl,_,_,rfl,rfl,?_⟩
   have s5:=aq hT4 (.tup [kV (.inl e.1),.int e.2])
   generalize upd H4 T4 (.tup [kV (.inl e.1),.int e.2])=H5 at s5
   have hc5:=s5 _ _ hc4
   have ht5:=s5 _ _ ht4
   have jl:j<D.length:=(IA.mp he).1
   have epos:=(hD.ex e.1 e.2 (ID he)).2
   obtain⟨D2,ep,dl2,hst2⟩:=hst.bump (e.1+r.2.2) epos
   have hv:(valV (repD D') (.inl (e.1+r.2.2))).getD (.int 0)=.int (gT tr i (e.1+r.2.2)+cntL (D.take j) (e.1+r.2.2-r.2.2)):=by
    rcases qO hst (e.1+r.2.2) with⟨_,_,q,_⟩ | ⟨_,q0,q⟩
    ·rw[q];rfl
    ·rw[q]
     exact congrArg V.int q0.symm
   have l2:(repD D').length<sizeLine:=by unfold repD;rw[IJ,sizeLine_eq];omega
   refine⟨_,rfl,fr,rfl,.inl ⟨_,.inl hc5⟩,_,rfl,_,rfl,t,_,2,_,rfl,rfl,SqT.of ht5,at32,_,_,rfl,rfl,_,DGet.k (k:=.inl (e.1+r.2.2)) hc5,_,rfl,_,_,hv,rfl,?_⟩
   refine⟨_,rfl,_,rfl,_,rfl,t,_,2,_,rfl,rfl,SqT.of ht5,at32,_,_,rfl,rfl,fr,_,rfl,DPut.k (k:=.inl (e.1+r.2.2)) hc5 l2,?_⟩
   refine⟨_,_,D2,rfl,fun b u n1 n2 q=>by rw[ai n1];exact s5 _ _ (s4 b u n1 n2 q),by rw[ai (Ne.symm nfd)];exact s5 _ _ hm4,?_,by omega,hst2.cg fun x=>?_⟩
   ·rw[ae]
    exact congrArg (fun z=>some (HO.dK z)) ep
   ·have et:D.take (j+1)=D.take j++[e]:=by rw[Jk,he];rfl
    rw[et]
    unfold cntL
    rw[hX,av,da,JS]
    by_cases z:x=e.1+r.2.2
    ·rw[if_pos z,if_pos (by omega)];omega
    ·rw[if_neg z,if_neg (by omega)];omega
  ·rintro σ H4 ⟨v4,v5,D',rfl,s4,hm4,hc4,dl',hst⟩
   have ll:(repD D).length=D.length:=by unfold repD;rw[IJ]
   have dlD:dlen (.dK (repD D))=D.length:=ll
   rw[dlD]at dl' hst
   rw[Jy]at hst
   refine⟨_,rfl,_,_,_,_,fr,D',rfl,fun b u q=>s4 b u (ar q hfr0) (ar q hd) (s23 _ _ q),hfr0,hc4,by rw[Nat.pow_succ];omega,hst.cg fun x=>?_⟩
   rw[hD.cnt]
   have gd:tr.getD i (0,0,0)=r:=by rw[IT,hr'];rfl
   show _=gT tr i x+gT tr i (x-(tr.getD i (0,0,0)).2.2)
   rw[gd]
 ·rintro σ H2 ⟨v2,v3,v4,v5,d,D,rfl,s2,hd,hd2,dl,hD⟩
  rw[ls.1]at hD
  exact⟨_,rfl,kk d D _ s2 hd2 hD⟩
end
end K8
namespace K8
open PySem L2
local macro_rules | `(tactic| walk_at "cc") => `(tactic| first | exact ⟨by decide, by decide⟩ | (show (0 : Int) < _; decide) | (show (0 : Int) < _; omega) | (show (0 : Int) ≤ _; omega) | exact ⟨by decide, by decide, by decide⟩ | exact ⟨by omega, by omega, by decide⟩ | exact Or.inl ⟨by decide, by decide⟩ | exact Or.inl ⟨by omega, by omega⟩)
local macro_rules | `(tactic| walk_at "rd") => `(tactic| repeat (first | refine ⟨_, rfl, ?_⟩ | refine ⟨_, _, rfl, rfl, ?_⟩ | refine ⟨rfl, ?_⟩ | (refine ⟨?cc, ?_⟩; (case cc => walk_at "cc"))))
def BX(PL PS WC:Addr):Sp:=fun vs H Q _=>∃(pk:Addr)(ws:List V)(tr:Tr),vs = [.ref pk]/\H pk=some (.lst ws)/\LsAt TrR H ws tr/\TrOk tr/\1<=tr.length/\tr.length<=38/\∀(p:Addr)(rs:List (List Nat))(H':Hp),Same H H'->WebF (fun a=>H a≠none) PL PS WC H' p (tr.length+1) (esT tr) (tsT tr tr.length) rs (ksT tr)->Q (.ref p) H'
def treeT:TS:=fun D σ H=>∃(pk q qt t pa:Addr)(k p:Nat)(kd st:Int)(ws xs:List V)(l:List Nat),σ = [some (.ref pk),some (.ref q),some (.ref qt),some (.int (k:Int))]/\H pk=some (.lst ws)/\ws[k]?=some (.ref t)/\H t=some (.tup [iV p,.int kd,.int st])/\H qt=some (.lst xs)/\xs[p]?=some (.ref pa)/\H pa=some (.lst (l.map iV))/\pa≠qt/\l.length<=39/\xs.length<=40 /\
 ∀ g,(upd H pa (.lst ((l++[k]).map iV))) g=none->D.nx σ (upd (upd (upd H pa (.lst ((l++[k]).map iV))) g (.lst ([k].map iV))) qt (.lst (xs++[.ref g])))
theorem wA{tr:Tr}:∀(n p:Nat)(l:List Nat),(tsT tr n)[p]?=some l->l.length<=n
 |0,p,l,h=>by
  match p,h with
  |0,h=>cases h;exact IG _
  |p+1,h=>cases h
 |n+1,p,l,h=>by
  have h':((tsT tr n).set (tr.getD n (0,0,0)).1 (((tsT tr n).getD (tr.getD n (0,0,0)).1 [])++[n])++[[n]])[p]?=some l:=h
  rcases IK.mp (ID h')with z | z
  ·rcases Ly z with z | z
   ·obtain⟨j,hj⟩:=JI z
    have:=wA n j l hj
    omega
   ·rw[z,IF,IM]
    cases y:(tsT tr n)[(tr.getD n (0,0,0)).1]? with
    |none=>rw[IT,y];show 0+1<=n+1;omega
    |some l' =>
     have:=wA n _ l' y
     rw[IT,y]
     show l'.length+1<=n+1
     omega
  ·rw[IX.mp z]
   show 1<=n+1
   omega
section
variable{P:Program}{w:World}{K:IC}{mg:Str->Option Value}{base:Heap}
theorem eX:aC ["told","ties","turns","k"] ["told"] (ah du):=⟨rfl,rfl,rfl,by decide +kernel,rfl,by decide +kernel,by decide +kernel⟩
theorem Ho{f fI PL PS WC fW:Addr}{fd fdI fdW:FuncData} (F:Fun K "_law_tree" "_law_tree" du f fd) (T:Txt mg) (M_Pull:Mak P w K mg base 1 "Pull" ["self","one","two","strength"] (pT K) PL fI fdI) (M_Push:Mak P w K mg base 1 "Push" ["self","one","two","strength"] (pT K) PS fI fdI) (TL:CT K PL) (TS:CT K PS)
  (M_Web:Mak P w K mg base 5 "Web" ["self","many","ties","turns"] (qB K) WC fW fdW) (cw:CW K WC):FnOk P w K mg base CX0 7 f fd ["told"] (BX PL PS WC):=by
 refine F.ok eX (fun vs H Q E h=>?_) (fun cdv A outer s H vs Q E hr h=>?_)
 ·obtain⟨pk,ws,tr,rfl,_⟩:=h
  rfl
 obtain⟨pk,ws,tr,rfl,hpk,ls,ok,n1,n38,kk⟩:=h
 have wl:ws.length=tr.length:=ls.1
 refine⟨_,(ag (az (i:=1) eX.nd rfl (Or.inl rfl) (eS ak))
   (ag (az (i:=2) eX.nd rfl (Or.inl rfl) (eS (aa (eS ak) ak)))
   (ag (cu PassesOwn.never rfl (gh rfl T.n_range (aa (aJ aL (by rfl) T.n_len gc (aa (pv 0) ak)) ak)) (aH (i:=3) eX.nd rfl (Or.inl rfl)) (ag (cT (aG rf (bL dN (bL bJ (pv 0) (pv 3) (fun _ _=>rfl)) aj (fun _ _=>rfl)) aj (aM _)) (ao (bp (i0 Jt Jw Jv bg (pv 1) (aa (xC M_Push.mkc M_Push.ok (hr.mono (by decide)) rfl M_Push.mg M_Push.bn .nil bt (aa (bL dN (bL bJ (pv 0) (pv 3) (fun _ _=>rfl)) aj (fun _ _=>rfl)) (aa (aA cU (pv 3) aj) (aa (bL dN (bL bJ (pv 0) (pv 3) (fun _ _=>rfl)) aj (fun _ _=>rfl)) ak)))) ak)))) (ao (bp (i0 Jt Jw Jv bg (pv 1) (aa (xC M_Pull.mkc M_Pull.ok (hr.mono (by decide)) rfl M_Pull.mg M_Pull.bn .nil bt (aa (aA cU (pv 3) aj) (aa (bL dN (bL bJ (pv 0) (pv 3) (fun _ _=>rfl)) aj (fun _ _=>rfl)) (aa (bL dN (bL bJ (pv 0) (pv 3) (fun _ _=>rfl)) aj (fun _ _=>rfl)) ak)))) ak)))))
   (nz (t2:=treeT) (ag (bp (i0 Jt Jw Jv bg (bL bJ (pv 2) (bL dN (bL bJ (pv 0) (pv 3) (fun _ _=>rfl)) aj (fun _ _=>rfl)) (fun _ _=>rfl)) (aa (pv 3) ak)))
   (ao (bp (i0 Jt Jw Jv bg (pv 2) (aa (eS (aa (pv 3) ak)) ak))))) (fun D0 S0 H0 h0=>?restu))))
   (ao (aK (xC M_Web.mkc M_Web.ok (hr.mono (by decide)) rfl M_Web.mg M_Web.bn .nil bt (aa (aJ aL (by rfl) T.n_len gc (aa (pv 2) ak)) (aa (pv 1) (aa (pv 2) ak))))))))),?_⟩
 case restu =>
  obtain⟨pk,q,qt,t,pa,k,p,kd,st,ws,xs,l,rfl,hpk,y1,y2,hqt,x1,x2,nqt,l39,x40,kk⟩:=h0
  refine⟨_,rfl,_,rfl,_,rfl,pk,ws,_,_,rfl,rfl,SqL.of hpk,bD y1,t,_,0,_,rfl,rfl,SqT.of y2,at30,qt,xs,_,_,rfl,rfl,SqL.of hqt,bD x1,.inl ⟨rfl,_,SqL.of x2⟩,_,rfl,pa,_,_,rfl,rfl,x2,aB (by rw[IJ];omega),?_⟩
  have e1':(l.map iV)++[V.int (k:Int)]=(l++[k]).map iV:=by rw[Jr];rfl
  rw[e1']
  have hqt2:(upd H0 pa (.lst ((l++[k]).map iV))) qt=some (.lst xs):=by rw[ai nqt.symm];exact hqt
  refine⟨_,rfl,.inl ⟨rfl,_,SqL.of hqt2⟩,_,rfl,(by show 1<=sizeLine;decide),fun g hg=>?_⟩
  exact⟨qt,xs,_,rfl,rfl,aq hg _ _ _ hqt2,aB (by omega),kk g hg⟩
 refine⟨(by show 0<=sizeLine;decide),fun q hq=>?_⟩
 have s1:=aq hq (.lst [])
 refine⟨(by show 0<=sizeLine;decide),fun g0 hg0=>⟨(by show 1<=sizeLine;decide),fun qt hqt=>?_⟩⟩
 have sg:=aq hg0 (.lst [])
 have sq:=aq hqt (.lst [.ref g0])
 have s3:=(s1.trans sg).trans sq
 have hqq:q≠qt:=fun z=>by rw[← z,sg _ _ ae]at hqt;cases hqt
 have hgq:g0≠qt:=fun z=>by rw[← z,ae]at hqt;cases hqt
 have hgq2:g0≠q:=fun z=>by rw[z,ae]at hg0;cases hg0
 have hg00:H g0=none:=none_of s1 hg0
 have hqt0:H qt=none:=none_of (s1.trans sg) hqt
 have hq3:(upd (upd (upd H q (.lst [])) g0 (.lst [])) qt (.lst [.ref g0])) q=some (.lst []):=sq _ _ (sg _ _ ae)
 have hg3:(upd (upd (upd H q (.lst [])) g0 (.lst [])) qt (.lst [.ref g0])) g0=some (.lst []):=sq _ _ ae
 have hqt3:(upd (upd (upd H q (.lst [])) g0 (.lst [])) qt (.lst [.ref g0])) qt=some (.lst [.ref g0]):=ae
 generalize upd (upd (upd H q (.lst [])) g0 (.lst [])) qt (.lst [.ref g0])=H3 at s3 hq3 hg3 hqt3
 have rx3:cp (fun p=>p=q∨p=qt∨H p≠none) H3 [.ref g0] (tsT tr 0):=⟨rfl,fun i l e=>by
  match i,e with
  |0,e=>cases e;exact⟨g0,rfl,(by rintro(y | y | y);exact hgq2 y;exact hgq y;exact y hg00),hg3⟩
  |i+1,e=>cases e⟩
 have D3:Dist [.ref g0]:=fun i j p a b=>by
  have h1:=(IA.mp a).1
  have h2:=(IA.mp b).1
  rw[IM]at h1 h2
  omega
 refine⟨_,rfl,pk,_,rfl,.inl (SqL.of (s3 _ _ hpk)),_,rfl,by omega,by omega,jS (n:=((ws.length:Nat):Int).toNat) (fun i σ H2=>∃(v3:Option V)(us xs:List V),σ = [some (.ref pk),some (.ref q),some (.ref qt),v3]/\Same H H2/\H2 q=some (.lst us)/\oO PL PS H2 us (esT (tr.take i)) (ksT tr)/\H2 qt=some (.lst xs)/\cp (fun p=>p=q∨p=qt∨H p≠none) H2 xs (tsT tr i)/\Dist xs) ⟨_,[],_,rfl,s3,hq3,⟨rfl,fun i e k z=>by simp[esT]at z⟩,hqt3,rx3,D3⟩ ?_ ?_⟩
 ·rintro i σ H2 hi ⟨v3,us,xs,rfl,s2,hq2,tt,hqt2,rx,D⟩
  rw[JB,wl]at hi
  have e0:(0:Int)+(i:Int)=(i:Int):=Km _
  rw[e0]
  obtain⟨r,hr'⟩:∃ r,tr[i]?=some r:=⟨_,IB hi⟩
  obtain⟨v,y1,t,rfl,y2⟩:=(TrR.ls ls s2).2 i r hr'
  obtain⟨o1,o2,o3⟩:=ok i r hr'
  have hpk2:=s2 _ _ hpk
  have et:tr.take (i+1)=tr.take i++[r]:=by rw[Jk,hr'];rfl
  have gd:tr.getD i (0,0,0)=r:=by rw[IT,hr'];rfl
  have tl:(tr.take i).length=i:=by rw[Jg];omega
  have ul:us.length=i:=by rw[tt.1,bO,tl]
  have xl:xs.length=i+1:=by rw[rx.1,m8]
  obtain⟨l,hl⟩:∃ l,(tsT tr i)[r.1]?=some l:=⟨_,IB (by rw[m8];omega)⟩
  have gl:(tsT tr i).getD r.1 []=l:=by rw[IT,hl];rfl
  have ets:tsT tr (i+1)=(tsT tr i).set r.1 (l++[i])++[[i]]:=by
   show(tsT tr i).set (tr.getD i (0,0,0)).1 ((tsT tr i).getD (tr.getD i (0,0,0)).1 []++[i])++[[i]]=_
   rw[gd,gl]
  have ll:=wA i _ _ hl
  obtain⟨pa,x1,x3,x2⟩:=rx.2 _ _ hl
  have fin:∀(x dx:Addr)(H':Hp)(Dn:Ends),Same H2 H'->H' x=some (.ins (cls PL PS (decide (r.2.1=1))) dx (tf ((eT i r).1:Int) ((eT i r).2:Int) r.2.2))->(∀ σ' H',(∃(v3:Option V)(us xs:List V),σ' = [some (.ref pk),some (.ref q),some (.ref qt),v3]/\Same H H'/\H' q=some (.lst us)/\oO PL PS H' us (esT (tr.take (i+1))) (ksT tr)/\H' qt=some (.lst xs)/\cp (fun p=>p=q∨p=qt∨H p≠none) H' xs (tsT tr (i+1))/\Dist xs)->Dn.nx σ' H')->treeT Dn [some (.ref pk),some (.ref q),some (.ref qt),some (.int (i:Int))] (upd H' q (.lst (us++[.ref x]))):=fun x dx H' Dn s4 h1 hD=>by
   have hq4:=s4 _ _ hq2
   have pq:∀{b:Addr}{o:HO},H' b=some o->(∀ ys,o≠.lst ys)->b≠q:=fun h n z=>by rw[z,hq4]at h;cases h;exact n _ rfl
   have hq5:(upd H' q (.lst (us++[.ref x]))) q=some (.lst (us++[.ref x])):=ae
   have s5:Same H (upd H' q (.lst (us++[.ref x]))):=bu (s2.trans s4) hq _
   have t5:(upd H' q (.lst (us++[.ref x]))) t=some (.tup [iV r.1,.int r.2.1,.int r.2.2]):=by rw[ai (pq (s4 _ _ y2) fun _ z=>nomatch z)];exact s4 _ _ y2
   have qt5:(upd H' q (.lst (us++[.ref x]))) qt=some (.lst xs):=by rw[ai hqq.symm];exact s4 _ _ hqt2
   have paq:pa≠q:=fun z=>x3 (.inl z)
   have paqt:pa≠qt:=fun z=>x3 (.inr (.inl z))
   have pa0:H pa=none:=by
    cases z:H pa with
    |none=>rfl
    |some o=>exact absurd (.inr (.inr (by rw[z];exact fun y=>nomatch y))) x3
   have rx5:cp (fun p=>p=q∨p=qt∨H p≠none) (upd H' q (.lst (us++[.ref x]))) xs (tsT tr i):=rx.mono fun b u n z=>by rw[ai (fun y=>n (.inl y))];exact s4 _ _ z
   have pa5:(upd H' q (.lst (us++[.ref x]))) pa=some (.lst (l.map iV)):=by rw[ai paq];exact s4 _ _ x2
   have ins5:(upd H' q (.lst (us++[.ref x]))) x=some (.ins (cls PL PS (decide (r.2.1=1))) dx (tf ((eT i r).1:Int) ((eT i r).2:Int) r.2.2)):=by rw[ai (pq h1 fun _ z=>nomatch z)];exact h1
   have tt5:oO PL PS (upd H' q (.lst (us++[.ref x]))) (us++[.ref x]) (esT (tr.take (i+1))) (ksT tr):=by
    refine⟨by rw[IF,ul,bO,Jg];simp;omega,fun j e k hj hk=>?_⟩
    rw[et,mX,tl]at hj
    have jl:j<i+1:=by
     have:=(IA.mp hj).1
     rw[IF,bO,tl]at this
     exact this
    by_cases z:j<i
    ·rw[IH (by rw[bO,tl];exact z)]at hj
     obtain⟨p',dx',a1,a2⟩:=(tt.mono s4).2 j e k hj hk
     exact⟨p',dx',by rw[IH (by omega)];exact a1,by rw[ai (pq a2 fun _ z=>nomatch z)];exact a2⟩
    ·have z2:j=i:=by omega
     subst z2
     rw[IE (by rw[bO,tl];exact IG _),bO,tl,Je]at hj
     cases hj
     rw[ksT_at hr']at hk
     cases hk
     exact⟨x,dx,by rw[← ul,IE (IG _),Je];rfl,ins5⟩
   generalize upd H' q (.lst (us++[.ref x]))=H5 at hq5 s5 t5 qt5 rx5 pa5 tt5
   refine⟨pk,q,qt,t,pa,i,r.1,r.2.1,r.2.2,ws,xs,l,rfl,s5 _ _ hpk,y1,t5,qt5,x1,pa5,paqt,by omega,by omega,fun g hg=>hD _ _ ?_⟩
   have hqa:(upd H5 pa (.lst ((l++[i]).map iV))) q=some (.lst (us++[.ref x])):=by rw[ai paq.symm];exact hq5
   have hqta:(upd H5 pa (.lst ((l++[i]).map iV))) qt=some (.lst xs):=by rw[ai paqt.symm];exact qt5
   have rxa:=rx5.set (l':=l++[i]) D x1
   have sa:Same H (upd H5 pa (.lst ((l++[i]).map iV))):=bu s5 pa0 _
   have tta:oO PL PS (upd H5 pa (.lst ((l++[i]).map iV))) (us++[.ref x]) (esT (tr.take (i+1))) (ksT tr):=⟨tt5.1,fun j e k hj hk=>by
    obtain⟨p',dx',a1,a2⟩:=tt5.2 j e k hj hk
    exact⟨p',dx',a1,by rw[ai (fun z=>by rw[z,pa5]at a2;cases a2)];exact a2⟩⟩
   generalize upd H5 pa (.lst ((l++[i]).map iV))=H6 at hg hqa hqta rxa sa tta
   have sn:=aq hg (.lst ([i].map iV))
   have gq:g≠q:=fun z=>by rw[z,hqa]at hg;cases hg
   have gqt:g≠qt:=fun z=>by rw[z,hqta]at hg;cases hg
   have g0':H g=none:=none_of sa hg
   refine⟨_,us++[.ref x],_,rfl,bu (sa.trans sn) hqt0 _,by rw[ai hqq];exact sn _ _ hqa,⟨tta.1,fun j e k hj hk=>?_⟩,ae,?_,vi rxa D hg⟩
   ·obtain⟨p',dx',a1,a2⟩:=tta.2 j e k hj hk
    exact⟨p',dx',a1,by rw[ai (fun z=>by rw[z,hqta]at a2;cases a2)];exact sn _ _ a2⟩
   ·rw[ets]
    refine(rxa.mono fun b u n z=>?_).snoc (l:=[i]) (by rintro(y | y | y);exact gq y;exact gqt y;exact y g0') ?_
    ·rw[ai (fun y=>n (.inr (.inl y)))];exact sn _ _ z
    ·rw[ai gqt];exact ae
  refine⟨_,rfl,_,rfl,pk,ws,_,_,rfl,rfl,SqL.of hpk2,bD y1,t,_,1,_,rfl,rfl,SqT.of y2,at31,rfl,_,rfl,?_⟩
  refine ite2 (fun c=>?_) (fun c=>?_)
  ·have c':r.2.1=1:=V.int.inj (of_decide_eq_true c)
   have ee:eT i r=(r.1,i+1):=by unfold eT;rw[if_pos c']
   refine⟨_,rfl,.inl ⟨rfl,_,SqL.of hq2⟩,_,rfl,_,rfl,pk,ws,_,_,rfl,rfl,SqL.of hpk2,bD y1,t,_,0,_,rfl,rfl,SqT.of y2,at30,_,rfl,_,_,rfl,rfl,_,rfl,_,rfl,pk,ws,_,_,rfl,rfl,SqL.of hpk2,bD y1,t,_,2,_,rfl,rfl,SqT.of y2,at32,?_⟩
   intro x dx nx ndx nex
   refine⟨x,PS,dx,_,_,_,rfl,ae,TS,by omega,by omega,by omega,o3,fun H' h1 h2=>?_⟩
   have s4:Same H2 H':=fun b o z=>h2 b o (by rw[ai (ar z nx),ai (ar z ndx)];exact z) (ar z nx)
   refine⟨rfl,q,us,_,rfl,rfl,s4 _ _ hq2,aB (by omega),fin x dx H' _ s4 ?_ fun _ _ z=>z⟩
   rw[decide_eq_true c',ee]
   exact h1
  ·have c':¬ r.2.1=1:=fun z=>c (decide_eq_true (by rw[z]))
   have ee:eT i r=(i+1,r.1):=by unfold eT;rw[if_neg c']
   refine⟨_,rfl,.inl ⟨rfl,_,SqL.of hq2⟩,_,rfl,_,_,rfl,rfl,_,rfl,_,rfl,pk,ws,_,_,rfl,rfl,SqL.of hpk2,bD y1,t,_,0,_,rfl,rfl,SqT.of y2,at30,_,rfl,_,rfl,pk,ws,_,_,rfl,rfl,SqL.of hpk2,bD y1,t,_,2,_,rfl,rfl,SqT.of y2,at32,?_⟩
   intro x dx nx ndx nex
   refine⟨x,PL,dx,_,_,_,rfl,ae,TL,by omega,by omega,by omega,o3,fun H' h1 h2=>?_⟩
   have s4:Same H2 H':=fun b o z=>h2 b o (by rw[ai (ar z nx),ai (ar z ndx)];exact z) (ar z nx)
   refine⟨rfl,q,us,_,rfl,rfl,s4 _ _ hq2,aB (by omega),fin x dx H' _ s4 ?_ fun _ _ z=>z⟩
   rw[decide_eq_false c',ee]
   exact h1
 rintro σ H2 ⟨v3,us,xs,rfl,s2,hq2,tt,hqt2,rx,D⟩
 rw[JB,wl]at tt rx
 rw[Jy]at tt
 have xl:xs.length=tr.length+1:=by rw[rx.1,m8]
 have g:Gr (tr.length+1) (esT tr) (tsT tr tr.length):=by
  obtain⟨n,hn⟩:∃ n,tr.length=n+1:=⟨tr.length-1,by omega⟩
  have:=wB ok n (by omega)
  rw[← hn,Jy]at this
  rw[hn]at this ⊢
  exact this
 have el:=bO tr
 refine⟨_,rfl,qt,_,rfl,.inl (SqL.of hqt2),_,rfl,_,rfl,?_⟩
 intro x dx nx ndx nex
 have up:∀ b o,H2 b=some o->(upd (upd H2 dx (.own x)) x (.ins WC dx [])) b=some o:=fun b o z=>by rw[ai (ar z nx),ai (ar z ndx)];exact z
 refine⟨x,WC,dx,q,qt,tr.length+1,us,xs,esT tr,tsT tr tr.length,(by rw[xl];rfl),ae,cw,up _ _ hq2,(tt.at (by rw[rQ,bO]) TL TS).mono up,up _ _ hqt2,rx.off.mono up,g,by omega,by omega,by omega,fun fs q1 rs H' h1 hg hn h2 h3 h4=>⟨rfl,?_⟩⟩
 have s7:Same H2 H':=fun b o z=>h4 b o (up _ _ z) (ar z nx)
 have up0:∀ a,H a≠none->(upd (upd H2 dx (.own x)) x (.ins WC dx [])) a≠none:=fun a z y=>z (by
  cases u:H a with
  |none=>rfl
  |some o=>rw[up _ _ (s2 _ _ u)]at y;cases y)
 exact kk x rs H' (s2.trans s7) ⟨dx,fs,q1,us,h1,hg.mono (fun _ _ z=>z) up0,fun z=>up0 _ z hn,h2,h3,tt.mono s7⟩
end
end K8
namespace K8
open PySem L2
local macro_rules | `(tactic| walk_at "cc") => `(tactic| first | exact ⟨by decide, by decide⟩ | (show (0 : Int) < _; decide) | (show (0 : Int) < _; omega) | (show (0 : Int) ≤ _; omega) | exact ⟨by decide, by decide, by decide⟩ | exact ⟨by omega, by omega, by decide⟩ | exact Or.inl ⟨by decide, by decide⟩ | exact Or.inl ⟨by omega, by omega⟩)
local macro_rules | `(tactic| walk_at "rd") => `(tactic| repeat (first | refine ⟨_, rfl, ?_⟩ | refine ⟨_, _, rfl, rfl, ?_⟩ | refine ⟨rfl, ?_⟩ | (refine ⟨?cc, ?_⟩; (case cc => walk_at "cc"))))
theorem A6{o:List Nat}{m:Nat}(m1:1<=m)(pm:o.Perm (JC m)):(o.filter (fun x=>decide (0<x))++[0]).Perm (JC m):=by
 have nd:o.Nodup:=pm.nodup_iff.mpr Kr
 refine(Kd (Jo.mpr ⟨nd.sublist List.filter_sublist,by simp,fun a ha b hb e=>?_⟩) Kr).mpr fun x=>?_
 ·have h1:=of_decide_eq_true (Kx.mp ha).2
  have h2:=IX.mp hb
  omega
 ·rw[IK,Kx,IX,pm.mem_iff,Jz]
  constructor
  ·rintro(⟨z,_⟩ | z)
   ·exact z
   ·omega
  ·intro z
   by_cases c:x=0
   ·exact .inr c
   ·exact .inl ⟨z,decide_eq_true (by omega)⟩
def restA(K:IC):TS:=fun D σ H=>∃(a:Addr)(ns:List Int)(m:Nat)(sb:Bool),σ = [some (.ref a),some (.int (m:Int)),some (.bl sb),none,none,none,none,none,none,none,none,none]/\SqL K H a (ns.map V.int)/\2<=m/\m<=17/\ns.length<=63/\∀ H',D.rt (.bl true) H'
structure WTr(PL PS WC:Addr)(H:Hp)(pk p:Addr)(m:Nat)(tr:Tr):Prop where
 wt:WebT PL PS WC H p m (esT tr) (tsT tr tr.length) (ksT tr)
 tn:bh m (esT tr) (tsT tr tr.length)
 td:∃ ws,H pk=some (.lst ws)/\LsAt TrR H ws tr
 ok:TrOk tr
 tm:tr.length+1=m
 m16:m<=16
theorem WTr.mono{PL PS WC:Addr}{H H':Hp}{pk p:Addr}{m:Nat}{tr:Tr}(h:WTr PL PS WC H pk p m tr)(s:Same H H'):WTr PL PS WC H' pk p m tr:=by
 obtain⟨a,b,⟨ws,c,d⟩,e,f,g⟩:=h
 exact⟨a.mono s,b,⟨ws,s _ _ c,TrR.ls d s⟩,e,f,g⟩
def restB(K:IC)(PL PS WC:Addr):TS:=fun D σ H=>∃(a pk p:Addr)(ns:List Int)(m:Nat)(sb:Bool)(wy:Int)(tr:Tr),σ = [some (.ref a),some (.int (m:Int)),some (.bl sb),some (.ref pk),some (.ref p),some (.int wy),none,none,none,none,none,none]/\SqL K H a (ns.map V.int)/\WTr PL PS WC H pk p m tr/\∀ H',D.rt (.bl true) H'
def restC(PL PS WC:Addr):TS:=fun D σ H=>∃(a pk p qo:Addr)(m:Nat)(sb:Bool)(wy:Int)(tr:Tr)(od:List Nat),σ = [some (.ref a),some (.int (m:Int)),some (.bl sb),some (.ref pk),some (.ref p),some (.int wy),some (.ref qo),none,none,none,none,none]/\WTr PL PS WC H pk p m tr/\H qo=some (.lst (od.map iV))/\od.Perm (JC m)/\∀ H',D.rt (.bl true) H'
def restD:TS:=fun D σ H=>∃(a pk p qo qh qf d:Addr)(m:Nat)(sb:Bool)(wy:Int)(od:List Nat)(rows:List V)(Dd De:Hs)(g:Int->Int),σ = [some (.ref a),some (.int (m:Int)),some (.bl sb),some (.ref pk),some (.ref p),some (.int wy),some (.ref qo),some (.ref qh),some (.ref qf),some (.ref d),none,none] /\
 H qo=some (.lst (od.map iV))/\H qh=some (.lst (od.map iV))/\H d=some (.dK (repD Dd))/\Hst Dd g/\H qf=some (.lst rows)/\LsAt PrAt H rows De/\Hst De g/\(De.Pairwise fun x y=>x.1<y.1)/\(∀ e∈De,0<=e.1)/\∀ H',D.rt (.bl true) H'
section
variable{P:Program}{w:World}{K:IC}{mg:Str->Option Value}{base:Heap}
theorem cS:aC ["script","many","star","told","web","way","order","handed","found","due","last","row"] ["script"] (ah qM):=⟨rfl,rfl,rfl,by decide +kernel,rfl,by decide +kernel,by decide +kernel⟩
theorem ok_law{f fC ft fT fr fo fF fs fp PL PS WC:Addr}{fd dC dt dT dr do' dF ds dp:FuncData} (F:Fun K "law" "law" qM f fd) (T:Txt mg) (G_law_cell:Cal P w K mg base 1 "_law_cell" ["script","k"] (zJ K) fC dC) (G_law_told:Cal P w K mg base 2 "_law_told" ["script","many","star"] (BY K) ft dt) (G_law_tree:Cal P w K mg base 7 "_law_tree" ["told"] (BX PL PS WC) fT dT) (G_law_refused:Cal P w K mg base 6 "_law_refused" ["web"] (B0 PL PS WC) fr dr) (G_law_order:Cal P w K mg base 1 "_law_order" ["cell","many"] wI fo do')
  (G_law_asked:CalX P w K mg base 6 "_law_asked" ["web","way","order"] (B8 PL PS WC) fF dF) (G_law_sums:Cal P w K mg base 1 "_law_sums" ["told"] BZ fs ds) (G_law_pair:Cal P w K mg base 2 "_law_pair" ["found"] B3 fp dp):FnOk P w K mg base CX0 8 f fd ["script"] (EM K):=by
 refine F.ok cS (fun vs H Q E h=>?_) (fun cdv A outer s H vs Q E hr h=>?_)
 ·obtain⟨a,ns,rfl,_⟩:=h
  rfl
 obtain⟨a,ns,rfl,hS,h63,kk⟩:=h
 have hu64:=hr.units
 have hu:=yA hr
 refine⟨_,(ag (az (i:=1) cS.nd rfl (Or.inl rfl) (aA cU aj (aA cv (aI G_law_cell.ok (hr.mono (by decide)) rfl G_law_cell.mg G_law_cell.kp G_law_cell.bn .nil bt (aa (pv 0) (aa aj ak))) aj)))
   (ag (az (i:=2) cS.nd rfl (Or.inl rfl) (CI rf (aA cv (aA fg (aI G_law_cell.ok (hr.mono (by decide)) rfl G_law_cell.mg G_law_cell.kp G_law_cell.bn .nil bt (aa (pv 0) (aa aj ak))) aj) aj) aj (aM _)))
   (ag (cT (nv (pv 2)) (ao (az (i:=1) cS.nd rfl (Or.inl rfl) aj)) aP)
   (nz (t2:=restA K) (ag (az (i:=3) cS.nd rfl (Or.inl rfl) (aI G_law_told.ok (hr.mono (by decide)) rfl G_law_told.mg G_law_told.kp G_law_told.bn .nil bt (aa (pv 0) (aa (pv 1) (aa (pv 2) ak)))))
   (ag (az (i:=4) cS.nd rfl (Or.inl rfl) (aI G_law_tree.ok (hr.mono (by decide)) rfl G_law_tree.mg G_law_tree.kp G_law_tree.bn .nil bt (aa (pv 3) ak)))
   (ag (cT (aG CK (pv 1) aj (aM _)) (ao (aK (aI G_law_refused.ok (hr.mono (by decide)) rfl G_law_refused.mg G_law_refused.kp G_law_refused.bn .nil bt (aa (pv 4) ak)))) aP)
   (ag (az (i:=5) cS.nd rfl (Or.inl rfl) (aA cv (aA fg (aI G_law_cell.ok (hr.mono (by decide)) rfl G_law_cell.mg G_law_cell.kp G_law_cell.bn .nil bt (aa (pv 0) (aa aj ak))) aj) aj))
   (ag (cT (aG CK (pv 1) aj (aM _)) (ao (az (i:=5) cS.nd rfl (Or.inl rfl) (aA cv (pv 5) aj))) aP)
   (nz (t2:=restB K PL PS WC) (ag (az (i:=6) cS.nd rfl (Or.inl rfl) (aI G_law_order.ok (hr.mono (by decide)) rfl G_law_order.mg G_law_order.kp G_law_order.bn .nil bt (aa (aJ (An rfl) (by rfl) T.n_sum Gq (aa (pv 0) ak)) (aa (pv 1) ak))))
   (ag (cT (nv (pv 2)) (ag (az (i:=5) cS.nd rfl (Or.inl rfl) aj)
   (ao (az (i:=6) cS.nd rfl (Or.inl rfl) (aA Hn (zR rfl (fr:=[]) (xs:=["place"]) (tw.of (by rfl) (by decide +kernel) (by rfl) (by decide +kernel) (fun p hp=>nomatch hp) (by decide +kernel) (fun p hp=>nomatch hp)) (bx (pv 6)) (fun C ex s H=>(aH (i:=0) (show(["place"]:List Str).Nodup from by decide +kernel) rfl (Or.inl rfl))) (fun C ex s H=>(Cm (aG CK (pv 0) aj (aM _)))) (fun C ex s H=>(pv 0))) (eS (aa aj ak)))))) aP)
   (nz (t2:=restC PL PS WC) (ag (az (i:=7) cS.nd rfl (Or.inl rfl) (gj eF (by rfl) T.n_list kZ (aa (pv 6) ak)))
   (ag (az (i:=8) cS.nd rfl (Or.inl rfl) (aI G_law_asked.ok (hr.mono (by decide)) rfl G_law_asked.mg G_law_asked.kp G_law_asked.bn .nil pass0r (aa (pv 4) (aa (pv 5) (aa (pv 7) ak)))))
   (ag (az (i:=9) cS.nd rfl (Or.inl rfl) (aI G_law_sums.ok (hr.mono (by decide)) rfl G_law_sums.mg G_law_sums.kp G_law_sums.bn .nil bt (aa (pv 3) ak)))
   (nz (t2:=restD) (ag (cT (PW.pt (t8 (aG (F8 hu64) (pv 7) (pv 6) (aM _)) (t8 (Cn (nv (aJ mY (by rfl) T.n_isinstance cj (aa (pv 8) (aa (qY (v:=.ty "list") rfl T.n_list kZ rfl) ak))))) (tZ (aG ra (aJ aL (by rfl) T.n_len gc (aa (pv 8) ak)) (aJ El (by rfl) T.n_len gc (aa (pv 9) ak)) (aM _)))))) (ao (aK CJ)) aP)
   (ag (az (i:=10) cS.nd rfl (Or.inl rfl) (pe_un un_neg aj))
   (ag (cu PassesOwn.never rfl (bx (pv 8)) (aH (i:=11) cS.nd rfl (Or.inl rfl)) (ag (cT (PW.pt (t8 (Cn (nv (aI G_law_pair.ok (hr.mono (by decide)) rfl G_law_pair.mg G_law_pair.kp G_law_pair.bn .nil bt (aa (pv 11) ak)))) (t8 (aG op_le (bL dN (pv 11) aj (fun _ _=>rfl)) (pv 10) (aM _)) (t8 (F2 (uu hu (bL dN (pv 11) aj (fun _ _=>rfl)) (pv 9))) (tZ (aG ra (qX hu (pv 9) (bL dN (pv 11) aj (fun _ _=>rfl)) (fun _ _=>rfl)) (bL dN (pv 11) aj (fun _ _=>rfl)) (aM _))))))) (ao (aK CJ)) aP)
   (ao (az (i:=10) cS.nd rfl (Or.inl rfl) (bL dN (pv 11) aj (fun _ _=>rfl))))))
   (ao (aK CJ))))) (fun D0 S0 H0 h0=>?restd))))) (fun D0 S0 H0 h0=>?restc)))) (fun D0 S0 H0 h0=>?restb))))))) (fun D0 S0 H0 h0=>?resta))))),?_⟩
 case restd =>
  obtain⟨a,pk,p,qo,qh,qf,d,m,sb,wy,od,rows,Dd,De,g,rfl,hqo,hqh,hd,hDd,hqf,ls,hDe,up,nn,kk⟩:=h0
  have two:=hDe.two hDd
  have rl:rows.length=(repD Dd).length:=by rw[ls.1,two.length_eq];unfold repD;rw[IJ]
  refine⟨_,rfl,_,rfl,_,x5 (SqL.of hqh),x5 (SqL.of hqo),jj _,_,rfl,iteF ?_⟩
  refine⟨_,rfl,_,_,_,_,_,rfl,TyOf.lst hqf,Or.inl ⟨_,rfl,rfl⟩,kit_ll K,_,rfl,iteF ?_⟩
  refine⟨_,rfl,qf,_,rfl,.inl (SqL.of hqf),_,rfl,d,_,rfl,hd,rfl,_,rfl,Dv (congrArg V.int (by omega)) ?_⟩
  refine⟨_,rfl,_,rfl,qf,rfl,⟨_,SqL.of hqf⟩,cO (K:=K) (xs:=rows) (fun i σ H3=>∃(la:Int)(v11:Option V),σ = [some (.ref a),some (.int (m:Int)),some (.bl sb),some (.ref pk),some (.ref p),some (.int wy),some (.ref qo),some (.ref qh),some (.ref qf),some (.ref d),some (.int la),v11]/\Same H0 H3/\∀(j:Nat)(e:Int×Int),i<=j->De[j]?=some e->la<e.1) ⟨-1,_,rfl,fun _ _ z=>z,fun j e _ hj=>by have:=nn e (ID hj);omega⟩ (fun i σ H3 _ ⟨_,_,_,z,_⟩=>SqL.of (z _ _ hqf)) ?_ ?_⟩
  ·rintro i x σ H3 hx ⟨la,v11,rfl,s3,hla⟩
   obtain⟨e,he,tr,rfl,htr⟩:=ls.get hx
   have ht3:=s3 _ _ htr
   have lt:=hla i e (IG _) he
   have hin:=two.mem_iff.mp (ID he)
   have hval:valV (repD Dd) (.inl e.1)=some (.int e.2):=qz (xh hDd.nd) (IY.mpr ⟨e,hin,rfl⟩)
   refine⟨_,rfl,.ref tr,e,rfl,⟨tr,rfl,ht3⟩,_,rfl,iteF ?_⟩
   refine⟨_,rfl,tr,_,0,_,rfl,rfl,SqT.of ht3,at0,_,rfl,_,_,rfl,rfl,_,rfl,ite2 (fun z=>absurd (of_decide_eq_true z) (by omega)) (fun _=>?_)⟩
   refine⟨_,rfl,tr,_,0,_,rfl,rfl,SqT.of ht3,at0,_,rfl,d,_,rfl,DGet.k (k:=.inl e.1) (s3 _ _ hd),_,rfl,?_⟩
   rw[hval]
   refine iteF ?_
   refine⟨_,rfl,_,rfl,tr,_,0,_,rfl,rfl,SqT.of ht3,at0,d,.int e.2,rfl,.inl ⟨_,.inl e.1,.inl (s3 _ _ hd),rfl,hval.symm⟩,_,rfl,tr,_,1,_,rfl,rfl,SqT.of ht3,at1,rfl,_,rfl,Dv rfl ?_⟩
   refine⟨_,rfl,tr,_,0,_,rfl,rfl,SqT.of ht3,at0,?_⟩
   refine⟨e.1,_,rfl,s3,fun j e' hij hj=>?_⟩
   obtain⟨h1,e1⟩:=IA.mp he
   obtain⟨h2,e2⟩:=IA.mp hj
   have:=Kf.mp up i j h1 h2 (by omega)
   rw[e1,e2]at this
   exact this
  ·rintro σ H3 ⟨la,v11,rfl,_,_⟩
   exact kk _
 case restc =>
  obtain⟨a,pk,p,qo,m,sb,wy,tr,od,rfl,wtr,hqo,pm,kk⟩:=h0
  have tm:=wtr.tm
  have m16:=wtr.m16
  refine⟨_,rfl,qo,_,rfl,.inl (SqL.of hqo),fun qh hqh=>?_⟩
  have s4:=aq hqh (.lst (od.map iV))
  have hh4:(upd H0 qh (.lst (od.map iV))) qh=some (.lst (od.map iV)):=ae
  generalize upd H0 qh (.lst (od.map iV))=H4 at s4 hh4
  have w4:=wtr.mono s4
  refine⟨_,rfl,_,rfl,_,rfl,p,qh,wy,m,esT tr,tsT tr tr.length,ksT tr,od,rfl,w4.wt,by rw[rQ,bO],w4.tn,by rw[bO];omega,m16,hh4,pm,fun q rows De H6 s6 _ hq ls hi=>?_⟩
  have w6:=w4.mono s6
  obtain⟨ws,hpk,hls⟩:=w6.td
  refine⟨_,rfl,pk,ws,tr,rfl,hpk,hls,by omega,fun d Dd H7 s7 hd hD=>?_⟩
  have k0:∀(n:Nat)(k:Int×Int),(ksT tr)[n]?=some k->0<=k.2:=fun n k hk=>by
   unfold ksT at hk
   rw[II]at hk
   obtain⟨r,hr',e⟩:=Jd.mp hk
   rw[← e]
   exact(wtr.ok n r hr').2.2
  have th:∀ x,hA (esT tr) (ksT tr) m x=gT tr tr.length x:=fun x=>by
   have:=m9 wtr.ok tr.length (IG _) x
   rw[Jy,tm]at this
   exact this
  have s67:=s6.trans s7
  refine⟨a,pk,p,qo,qh,q,d,m,sb,wy,od,rows,Dd,De,gT tr tr.length,rfl,(s4.trans s67) _ _ hqo,s67 _ _ hh4,hd,hD,s7 _ _ hq,ls.imp fun y x ⟨t,a,b⟩=>⟨t,a,s7 _ _ b⟩,hi.hs.cg fun x=>(th x),hi.up,fun e he=>(hi.nn k0 e he).1,kk⟩
 case restb =>
  obtain⟨a,pk,p,ns,m,sb,wy,tr,rfl,hS,wtr,kk⟩:=h0
  have tm:=wtr.tm
  have m16:=wtr.m16
  refine⟨_,rfl,a,ns,rfl,hS,_,rfl,_,m,rfl,by omega,fun qo o H3 s3 nq hqo ol nd ob=>?_⟩
  have pm:=Hl ol nd ob
  have w3:=wtr.mono s3
  cases sb with
  |false =>
   refine⟨_,rfl,_,rfl,iteF ?_⟩
   exact⟨a,pk,p,qo,m,false,wy,tr,o,rfl,w3,hqo,pm,kk⟩
  |true =>
   refine⟨_,rfl,_,rfl,iteT ?_⟩
   have oml:(o.map iV).length=m:=by rw[IJ,ol]
   refine⟨_,rfl,qo,rfl,⟨_,SqL.of hqo⟩,qb (K:=K) (xs:=o.map iV) (fun i zs H4=>H4=H3/\zs=((o.take i).filter (fun x=>decide (0<x))).map iV) (JY (aB (by omega))) ⟨rfl,rfl⟩ (fun i zs H4 _ z=>by rw[z.1];exact SqL.of hqo) ?_ ?_ (fun n zs H7 z=>by
    rw[z.2,IJ]
    have:=Lm (fun x=>decide (0<x)) (o.take n)
    rw[Jg]at this
    omega)⟩
   ·rintro i x zs H4 hx ⟨rfl,rfl⟩
    rw[II]at hx
    obtain⟨x,hx',rfl⟩:=Jd.mp hx
    have et:o.take (i+1)=o.take i++[x]:=by rw[Jk,hx'];rfl
    refine⟨rfl,_,rfl,_,_,rfl,rfl,_,rfl,ite2 (fun c=>?_) (fun c=>?_)⟩
    ·have c':0<x:=by have:(0:Int)<(x:Int):=of_decide_eq_true c;omega
     refine⟨_,rfl,rfl,?_⟩
     rw[et,Lv,MK (p:=fun x=>decide (0<x)) (decide_eq_true c'),Mu,Jr]
     rfl
    ·have c':¬ 0<x:=fun z=>c (decide_eq_true (by show(0:Int)<(x:Int);omega))
     refine⟨rfl,?_⟩
     rw[et,Lv,MM (p:=fun x=>decide (0<x)) (by rw[decide_eq_false c'];exact IS),Mu,Kz]
   ·rintro zs H4 ⟨rfl,rfl⟩ D hD
    rw[oml,show o.take m=o by rw[← ol,Jy]]
    have sD:=aq hD (.lst ((o.filter (fun x=>decide (0<x))).map iV))
    refine⟨(by show 1<=sizeLine;decide),fun g hg=>?_⟩
    have sg:=aq hg (.lst [V.int 0])
    have fl:=Lm (fun x=>decide (0<x)) o
    refine⟨D,g,_,_,rfl,rfl,SqL.of (sg _ _ ae),SqL.of ae,(by rw[IJ];exact JY (aB (by show _+1<=1000;omega))),fun b hb=>?_⟩
    have sb:=aq hb (.lst ((o.filter (fun x=>decide (0<x))).map iV++[V.int 0]))
    refine⟨a,pk,p,b,m,true,2,tr,o.filter (fun x=>decide (0<x))++[0],rfl,w3.mono ((sD.trans sg).trans sb),?_,A6 (by omega) pm,kk⟩
    rw[ae,Jr]
    rfl
 case resta =>
  obtain⟨a,ns,m,sb,rfl,hS,m2,m17,h63,kk⟩:=h0
  refine⟨_,rfl,_,rfl,_,rfl,a,ns,m,sb,rfl,hS,m2,by omega,h63,fun pk ws tr H1 s1 npk hpk ls ok tm=>?_⟩
  refine⟨_,rfl,pk,ws,tr,rfl,hpk,ls,ok,by omega,by omega,fun p rs H2 s2 wf=>?_⟩
  have g:Gr (tr.length+1) (esT tr) (tsT tr tr.length):=by
   obtain⟨n,hn⟩:∃ n,tr.length=n+1:=⟨tr.length-1,by omega⟩
   have:=wB ok n (by omega)
   rw[← hn,Jy]at this
   rw[hn]at this ⊢
   exact this
  have s12:=s1.trans s2
  rw[tm]at wf g
  refine⟨_,rfl,_,_,rfl,rfl,_,rfl,ite2 (fun c=>?_) (fun c=>?_)⟩
  ·have c':(16:Int)<(m:Int):=of_decide_eq_true c
   exact⟨_,rfl,p,m,esT tr,tsT tr tr.length,ksT tr,rfl,wf.t,by rw[rQ,bO],g.w,by rw[bO];omega,by omega,by omega,fun H' _=>kk H'⟩
  have c':¬ (16:Int)<(m:Int):=fun z=>c (decide_eq_true z)
  have wtr:WTr PL PS WC H2 pk p m tr:=⟨wf.t,g.w,⟨ws,s2 _ _ hpk,TrR.ls ls s2⟩,ok,tm,by omega⟩
  refine⟨_,rfl,a,0,ns,rfl,s12.seq hS,?_⟩
  generalize sM ns 0=c0
  refine⟨_,_,rfl,rfl,⟨by decide,by decide⟩,_,_,rfl,rfl,(by show(0:Int)<4;decide),?_⟩
  refine⟨_,rfl,_,_,rfl,rfl,_,rfl,ite2 (fun c8=>?_) (fun c8=>?_)⟩
  ·refine⟨_,rfl,_,_,rfl,rfl,(by show(0:Int)<2;decide),?_⟩
   exact⟨a,pk,p,ns,m,sb,_,tr,rfl,s12.seq hS,wtr,kk⟩
  ·exact⟨a,pk,p,ns,m,sb,_,tr,rfl,s12.seq hS,wtr,kk⟩
 refine⟨_,rfl,a,0,ns,rfl,hS,?_⟩
 generalize sM ns 0=c0
 obtain⟨m,hm,m2,m17⟩:∃ m:Nat,2+c0%16=(m:Int)/\2<=m/\m<=17:=by
  have h1:=KA c0 (show(16:Int)≠0 by decide)
  have h2:=Mc c0 (show(0:Int)<16 by decide)
  exact⟨(2+c0%16).toNat,by omega,by omega,by omega⟩
 refine⟨_,_,rfl,rfl,(by show(0:Int)<16;decide),_,_,rfl,rfl,?_⟩
 dsimp only
 rw[hm]
 refine⟨_,rfl,a,0,ns,rfl,hS,_,_,rfl,rfl,⟨by decide,by decide⟩,_,_,rfl,rfl,(by show(0:Int)<4;decide),rfl,?_⟩
 generalize decide (V.int (sM ns 0/64%4)=V.int 1)=sb
 cases sb with
 |true =>
  refine⟨_,rfl,_,rfl,iteT ?_⟩
  exact⟨a,ns,10,true,rfl,hS,by omega,by omega,h63,fun H'=>kk H'⟩
 |false =>
  refine⟨_,rfl,_,rfl,iteF ?_⟩
  exact⟨a,ns,m,false,rfl,hS,m2,m17,h63,fun H'=>kk H'⟩
end
end K8
namespace K8
open PySem L2
theorem all_mk{l:Mq}{w:World}{K:IC}{h:Heap}{mg:Str->Option Value}{fa bZ cL d6 aW aV dZ jT dk iE iK mV fH eA eE cb mU bj eU aT bN dO Af jU iL eB fJ iD di cP b9 bY iJ fK iI fM iG iF iH fN dj Ic:Addr}(X:K.In h)(G:h.Ns mainGlobals mg) (hfa:mg "law" = some (.ref fa))
  {AI BC ph pP xG zh xN zt CY Ew uv vU rg sS rj sV l7 mH CV Eu rp sY xP zv l8 mI uA vZ uB wa HF Iy AJ BD xO zu rh sU uw vV xF zg pe pN nE oK l6 mG rm sW xM zr ux vW xK zp uy vX xI zm xH zj xJ zo uz vY pf pO od_law Gu:Option Addr} {Au o6 wN wW Cb tK qF qH lV B9 qJ wY lW tP tQ G7 Av wX qG tL wM o4 nj lU qI wV tM wU tN wQ wO wR tO o5 sl_law:Array (Option Value)} {AK A7 Bg AE qc Bi pA pE pI pd iS pL xR yn yH xm oi yS xY yv yN xt ox yY C0 Du DY Cz vH Ef uC uW vj uc lF vv rq rR sj qQ jW sy rB rV sm qS jY sG md mq mz lZ f9 mE CZ Dt DX Cy vG Ee rD rX sr qU j4 sI x4 yx yP xw oz y6 mh mv mB l5 gb mF uH u4 vq uh lK vB uI u5 vt ui lL vC HG HP Il Hj Ej Io AL A8 Bh AF qd Bj xZ yw yO xu oy yZ rA rT sk qR jX sE uD uX vk ud lG vx xQ ym yG xk oh yR pj pC pG o8 iQ pJ nF nU n8 nB gN n9 ma mm mw lY f7 mD rC rW so qT jZ sH xX yt yM xr ou yX uE uY vn ue lH vy xW yr yL xq ot yW uF uZ vo uf lI vz xU yp yJ xo oo yU xS yo yI xn oj yT xV yq yK xp oq yV uG u0 vp ug lJ vA pz pD pH o9 iR pK oc_law Gd Gn F3 Ei Gp:Value}
  {ti_most:Tok}
  {Al:Addr} {Ed:Value} {Eb:Option Addr} {D9:Nat} {D6:Array (Option Value)}
  {Ak:Addr} {Ec:Value} {Ea:Option Addr} {D8:Nat} {D5:Array (Option Value)}
  (fY:IU K mainGlobals "FloorError" = some (some (.ref bZ)))
  (jA:IU K mainGlobals "BadOrder" = some (some (.ref cL)))
  (lz:IU K mainGlobals "TooWide" = some (some (.ref d6)))
  (zx:IU K mainGlobals "Pull" = some (some (.ref aW)))
  (zw:IU K mainGlobals "Push" = some (some (.ref aV)))
  (Ey:IU K mainGlobals "Web" = some (some (.ref dZ)))
  (gz:Jj K (.ref aW) "__init__" = some (some (.ref bj)))
  (gy:Jj K (.ref aW) "wish" = some (some (.ref eU)))
  (cH:Jj K (.ref aW) "unpleased" = some (some (.ref aT)))
  (fk:Jj K (.ref aW) "price" = some (some (.ref bN)))
  (gw:Jj K (.ref aV) "__init__" = some (some (.ref bj)))
  (gu:Jj K (.ref aV) "wish" = some (some (.ref dO)))
  (cG:Jj K (.ref aV) "unpleased" = some (some (.ref aT)))
  (fj:Jj K (.ref aV) "price" = some (some (.ref bN)))
  (jb:Jj K (.ref dZ) "__init__" = some (some (.ref bY)))
  (oM:IU K mainGlobals "reached" = some (some (.ref jT)))
  (nP:K.lookup jT=some ⟨AK,AI,.func (Jb "reached" "reached" (ay eQ) (aw eQ) (ah eQ) .none A7 Bg AE BC qc Bi),Au⟩)
  (oB:IZ K qc "reached" = true)
  (jO:IQ K (.ref jT)=true)
  (fX:IU K mainGlobals "ends_within" = some (some (.ref dk)))
  (fx:K.lookup dk=some ⟨pA,ph,.func (Jb "ends_within" "ends_within" (ay bI) (aw bI) (ah bI) .none pE pI pd pP iS pL),o6⟩)
  (fQ:IZ K iS "ends_within" = true)
  (dh:IQ K (.ref dk)=true)
  (lg:IU K mainGlobals "order_of" = some (some (.ref iE)))
  (ku:K.lookup iE=some ⟨xR,xG,.func (Jb "order_of" "order_of" (ay dq) (aw dq) (ah dq) .none yn yH xm zh oi yS),wN⟩)
  (kP:IZ K oi "order_of" = true)
  (iq:IQ K (.ref iE)=true)
  (lx:IU K mainGlobals "front_of" = some (some (.ref iK)))
  (kG:K.lookup iK=some ⟨xY,xN,.func (Jb "front_of" "front_of" (ay dA) (aw dA) (ah dA) .none yv yN xt zt ox yY),wW⟩)
  (kW:IZ K ox "front_of" = true)
  (iA:IQ K (.ref iK)=true)
  (tj:IU K mainGlobals "fronts" = some (some (.ref mV)))
  (rP:K.lookup mV=some ⟨C0,CY,.func (Jb "fronts" "fronts" (ay h9) (aw h9) (ah h9) (.ref Al) Du DY Cz Ew vH Ef),Cb⟩)
  (nO:K.lookup Al=some ⟨Ed,Eb,.seq #[.none] D9,D6⟩)
  (sO:IZ K vH "fronts" = true)
  (mS:IQ K (.ref mV)=true)
  (jv:IU K mainGlobals "ties_back" = some (some (.ref fH)))
  (jc:K.lookup fH=some ⟨uC,uv,.func (Jb "ties_back" "ties_back" (ay cy) (aw cy) (ah cy) .none uW vj uc vU lF vv),tK⟩)
  (jn:IZ K lF "ties_back" = true)
  (fy:IQ K (.ref fH)=true)
  (gX:IU K mainGlobals "signs_with" = some (some (.ref eA)))
  (gB:K.lookup eA=some ⟨rq,rg,.func (Jb "signs_with" "signs_with" (ay bR) (aw bR) (ah bR) .none rR sj qQ sS jW sy),qF⟩)
  (gP:IZ K jW "signs_with" = true)
  (d7:IQ K (.ref eA)=true)
  (gZ:IU K mainGlobals "add_counts" = some (some (.ref eE)))
  (gD:K.lookup eE=some ⟨rB,rj,.func (Jb "add_counts" "add_counts" (ay bV) (aw bV) (ah bV) .none rV sm qS sV jY sG),qH⟩)
  (gR:IZ K jY "add_counts" = true)
  (eg:IQ K (.ref eE)=true)
  (dW:IU K mainGlobals "counts_behind" = some (some (.ref cb)))
  (dI:K.lookup cb=some ⟨md,l7,.func (Jb "counts_behind" "counts_behind" (ay ba) (aw ba) (ah ba) .none mq mz lZ mH f9 mE),lV⟩)
  (dR:IZ K f9 "counts_behind" = true)
  (b7:IQ K (.ref cb)=true)
  (sZ:IU K mainGlobals "worths" = some (some (.ref mU)))
  (rO:K.lookup mU=some ⟨CZ,CV,.func (Jb "worths" "worths" (ay h7) (aw h7) (ah h7) (.ref Ak) Dt DX Cy Eu vG Ee),B9⟩)
  (nN:K.lookup Ak=some ⟨Ec,Ea,.seq #[.none] D8,D5⟩)
  (sN:IZ K vG "worths" = true)
  (mR:IQ K (.ref mU)=true)
  (gF:K.lookup bj=some ⟨rD,rp,.func (Jb "__init__" "Tie.__init__" (ay bX) (aw bX) (ah bX) .none rX sr qU sY j4 sI),qJ⟩)
  (gU:IZ K j4 "Tie.__init__" = true)
  (gI:IQ K (.ref bj)=true)
  (eh:KR K (.ref bj)=true)
  (kJ:K.lookup eU=some ⟨x4,xP,.func (Jb "wish" "Tie.wish" (ay dD) (aw dD) (ah dD) .none yx yP xw zv oz y6),wY⟩)
  (kY:IZ K oz "Tie.wish" = true)
  (iC:IQ K (.ref eU)=true)
  (kM:KR K (.ref eU)=true)
  (dJ:K.lookup aT=some ⟨mh,l8,.func (Jb "unpleased" "Tie.unpleased" (ay bb) (aw bb) (ah bb) .none mv mB l5 mI gb mF),lW⟩)
  (dS:IZ K gb "Tie.unpleased" = true)
  (bC:IQ K (.ref aT)=true)
  (b8:KR K (.ref aT)=true)
  (jh:K.lookup bN=some ⟨uH,uA,.func (Jb "price" "Tie.price" (ay cD) (aw cD) (ah cD) .none u4 vq uh vZ lK vB),tP⟩)
  (jt:IZ K lK "Tie.price" = true)
  (dM:IQ K (.ref bN)=true)
  (fG:KR K (.ref bN)=true)
  (ji:K.lookup dO=some ⟨uI,uB,.func (Jb "wish" "Push.wish" (ay cE) (aw cE) (ah cE) .none u5 vt ui wa lL vC),tQ⟩)
  (ju:IZ K lL "Push.wish" = true)
  (fE:IQ K (.ref dO)=true)
  (jk:KR K (.ref dO)=true)
  (Ex:IU K mainGlobals "head" = some (some (.ref Af)))
  (Dk:K.lookup Af=some ⟨HG,HF,.func (Jb "head" "head" (ay pU) (aw pU) (ah pU) .none HP Il Hj Iy Ej Io),G7⟩)
  (Ep:IZ K Ej "head" = true)
  (k_head:IQ K (.ref Af)=true)
  (oN:IU K mainGlobals "leaving" = some (some (.ref jU)))
  (nQ:K.lookup jU=some ⟨AL,AJ,.func (Jb "leaving" "leaving" (ay eR) (aw eR) (ah eR) .none A8 Bh AF BD qd Bj),Av⟩)
  (oE:IZ K qd "leaving" = true)
  (jP:IQ K (.ref jU)=true)
  (ly:IU K mainGlobals "follower" = some (some (.ref iL)))
  (kH:K.lookup iL=some ⟨xZ,xO,.func (Jb "follower" "follower" (ay dB) (aw dB) (ah dB) .none yw yO xu zu oy yZ),wX⟩)
  (kX:IZ K oy "follower" = true)
  (iB:IQ K (.ref iL)=true)
  (gY:IU K mainGlobals "round_from" = some (some (.ref eB)))
  (gC:K.lookup eB=some ⟨rA,rh,.func (Jb "round_from" "round_from" (ay bT) (aw bT) (ah bT) .none rT sk qR sU jX sE),qG⟩)
  (gQ:IZ K jX "round_from" = true)
  (d8:IQ K (.ref eB)=true)
  (jw:IU K mainGlobals "rounds_of" = some (some (.ref fJ)))
  (jd:K.lookup fJ=some ⟨uD,uw,.func (Jb "rounds_of" "rounds_of" (ay cz) (aw cz) (ah cz) .none uX vk ud vV lG vx),tL⟩)
  (jo:IZ K lG "rounds_of" = true)
  (fz:IQ K (.ref fJ)=true)
  (k9:IU K mainGlobals "sides_of" = some (some (.ref iD)))
  (kr:K.lookup iD=some ⟨xQ,xF,.func (Jb "sides_of" "sides_of" (ay dm) (aw dm) (ah dm) .none ym yG xk zg oh yR),wM⟩)
  (kN:IZ K oh "sides_of" = true)
  (ik:IQ K (.ref iD)=true)
  (fU:IU K mainGlobals "refuse_ends" = some (some (.ref di)))
  (fm:K.lookup di=some ⟨pj,pe,.func (Jb "refuse_ends" "refuse_ends" (ay bG) (aw bG) (ah bG) .none pC pG o8 pN iQ pJ),o4⟩)
  (fO:IZ K iQ "refuse_ends" = true)
  (df:IQ K (.ref di)=true)
  (eO:IU K mainGlobals "refuse_turns" = some (some (.ref cP)))
  (eJ:K.lookup cP=some ⟨nF,nE,.func (Jb "refuse_turns" "refuse_turns" (ay br) (aw br) (ah br) .none nU n8 nB oK gN n9),nj⟩)
  (eL:IZ K gN "refuse_turns" = true)
  (cN:IQ K (.ref cP)=true)
  (dU:IU K mainGlobals "refuse_parted" = some (some (.ref b9)))
  (dH:K.lookup b9=some ⟨ma,l6,.func (Jb "refuse_parted" "refuse_parted" (ay a9) (aw a9) (ah a9) .none mm mw lY mG f7 mD),lU⟩)
  (dQ:IZ K f7 "refuse_parted" = true)
  (b6:IQ K (.ref b9)=true)
  (gE:K.lookup bY=some ⟨rC,rm,.func (Jb "__init__" "Web.__init__" (ay bW) (aw bW) (ah bW) .none rW so qT sW jZ sH),qI⟩)
  (gS:IZ K jZ "Web.__init__" = true)
  (gG:IQ K (.ref bY)=true)
  (gJ:KR K (.ref bY)=true)
  (lu:IU K mainGlobals "_law_cell" = some (some (.ref iJ)))
  (kE:K.lookup iJ=some ⟨xX,xM,.func (Jb "_law_cell" "_law_cell" (ay dz) (aw dz) (ah dz) .none yt yM xr zr ou yX),wV⟩)
  (kU:IZ K ou "_law_cell" = true)
  (iz:IQ K (.ref iJ)=true)
  (jx:IU K mainGlobals "_law_whole" = some (some (.ref fK)))
  (je:K.lookup fK=some ⟨uE,ux,.func (Jb "_law_whole" "_law_whole" (ay cA) (aw cA) (ah cA) .none uY vn ue vW lH vy),tM⟩)
  (jq:IZ K lH "_law_whole" = true)
  (fA:IQ K (.ref fK)=true)
  (lr:IU K mainGlobals "_law_pair" = some (some (.ref iI)))
  (kD:K.lookup iI=some ⟨xW,xK,.func (Jb "_law_pair" "_law_pair" (ay dy) (aw dy) (ah dy) .none yr yL xq zp ot yW),wU⟩)
  (kT:IZ K ot "_law_pair" = true)
  (iy:IQ K (.ref iI)=true)
  (jy:IU K mainGlobals "_law_order" = some (some (.ref fM)))
  (jf:K.lookup fM=some ⟨uF,uy,.func (Jb "_law_order" "_law_order" (ay cB) (aw cB) (ah cB) .none uZ vo uf vX lI vz),tN⟩)
  (jr:IZ K lI "_law_order" = true)
  (fB:IQ K (.ref fM)=true)
  (lj:IU K mainGlobals "_law_told" = some (some (.ref iG)))
  (kB:K.lookup iG=some ⟨xU,xI,.func (Jb "_law_told" "_law_told" (ay dv) (aw dv) (ah dv) .none yp yJ xo zm oo yU),wQ⟩)
  (kR:IZ K oo "_law_told" = true)
  (iu:IQ K (.ref iG)=true)
  (lh:IU K mainGlobals "_law_tree" = some (some (.ref iF)))
  (kA:K.lookup iF=some ⟨xS,xH,.func (Jb "_law_tree" "_law_tree" (ay du) (aw du) (ah du) .none yo yI xn zj oj yT),wO⟩)
  (kQ:IZ K oj "_law_tree" = true)
  (ir:IQ K (.ref iF)=true)
  (lp:IU K mainGlobals "_law_sums" = some (some (.ref iH)))
  (kC:K.lookup iH=some ⟨xV,xJ,.func (Jb "_law_sums" "_law_sums" (ay dw) (aw dw) (ah dw) .none yq yK xp zo oq yV),wR⟩)
  (kS:IZ K oq "_law_sums" = true)
  (iw:IQ K (.ref iH)=true)
  (jz:IU K mainGlobals "_law_asked" = some (some (.ref fN)))
  (jg:K.lookup fN=some ⟨uG,uz,.func (Jb "_law_asked" "_law_asked" (ay cC) (aw cC) (ah cC) .none u0 vp ug vY lJ vA),tO⟩)
  (js:IZ K lJ "_law_asked" = true)
  (fD:IQ K (.ref fN)=true)
  (fV:IU K mainGlobals "_law_refused" = some (some (.ref dj)))
  (fu:K.lookup dj=some ⟨pz,pf,.func (Jb "_law_refused" "_law_refused" (ay bH) (aw bH) (ah bH) .none pD pH o9 pO iR pK),o5⟩)
  (fP:IZ K iR "_law_refused" = true)
  (dg:IQ K (.ref dj)=true)
  (FP:IU K mainGlobals "law" = some (some (.ref Ic)))
  (HM:K.lookup Ic=some ⟨oc_law,od_law,.func (Jb "law" "law" (ay qM) (aw qM) (ah qM) .none Gd Gn F3 Gu Ei Gp),sl_law⟩)
  (Iq:IZ K Ei "law" = true)
  (HN:IQ K (.ref Ic)=true)
  (eV:LD K bZ veM "ValueError.__new__" = true)
  (iW:LD K cL veM "ValueError.__new__" = true)
  (cx:KG K cL (.ref bZ)=some true)
  (kc:LD K d6 veM "ValueError.__new__" = true)
  (bz:KG K d6 (.ref bZ)=some true)
  (xA:KN K aW Str.empty=true)
  (yC:KZ K aW=true)
  (xj:Lh K aW=true)
  (xf:Jj K (.ref aW) "__setattr__" = some (some (.builtin "object.__setattr__")))
  (x9:Lu K aW=true)
  (yl:IQ K (.ref aW)=true)
  (ja:Jj K (.ref aW) "one" = some none)
  (i9:Jj K (.ref aW) "two" = some none)
  (cY:Jj K (.ref aW) "strength" = some none)
  (xy:KN K aV Str.empty=true)
  (yB:KZ K aV=true)
  (xi:Lh K aV=true)
  (xc:Jj K (.ref aV) "__setattr__" = some (some (.builtin "object.__setattr__")))
  (x8:Lu K aV=true)
  (yk:IQ K (.ref aV)=true)
  (i8:Jj K (.ref aV) "one" = some none)
  (i7:Jj K (.ref aV) "two" = some none)
  (cX:Jj K (.ref aV) "strength" = some none)
  (CC:KN K dZ Str.empty=true)
  (DJ:KZ K dZ=true)
  (Cw:Lh K dZ=true)
  (Cf:Jj K (.ref dZ) "__setattr__" = some (some (.builtin "object.__setattr__")))
  (C4:Lu K dZ=true)
  (Dr:IQ K (.ref dZ)=true)
  (i6:Jj K (.ref dZ) "many" = some none)
  (i5:Jj K (.ref dZ) "ties" = some none)
  (gk:Jj K (.ref dZ) "turns" = some none)
  (fi:Jj K (.ref dZ) "rounds" = some none)
  (gs:Jj K (.ref dZ) "sides" = some none)
  (gi_most:IU K mainGlobals "MOST_PLACES" = some (some (.int 16 ti_most)))
  (GA:IU K mainGlobals "len" = some none)
  (GB:IU K mainGlobals "int" = some none)
  (BG:IU K mainGlobals "bool" = some none)
  (BE:IU K mainGlobals "list" = some none)
  (wg:IU K mainGlobals "tuple" = some none)
  (wj:IU K mainGlobals "range" = some none)
  (iU:IU K mainGlobals "enumerate" = some none)
  (gf:IU K mainGlobals "isinstance" = some none)
  (Gy:IU K mainGlobals "min" = some none)
  (Gx:IU K mainGlobals "sum" = some none)
  (qx:IU K mainGlobals "sorted" = some none)
  (Gz:IU K mainGlobals "max" = some none)
  (GD:IU K mainGlobals "all" = some none)
  (Gw:IU K mainGlobals "zip" = some none)
  (GC:IU K mainGlobals "any" = some none)
  (BF:IU K mainGlobals "dict" = some none)
  : ∃ fd:FuncData,(∀(s:Shared)(v:Value),BindsTo s fd ⟨[v],[]⟩ [("script",v)])/\∀ base:Heap,K.In base->base.Ns mainGlobals mg->FnOk l.prog w K mg base CX0 8 fa fd ["script"] (EM K):=by
 have e:=hfa.symm.trans (Jh X G FP)
 cases e
 have wd:=aO (st:=eQ) nP oB jO
 have Er:=wd.binds (ps:=["start","pairs"]) fun _ _ _ _ _ _ us hl=>by obtain⟨x0,x1,rfl⟩:=iN hl;rfl
 have j8:=aO (st:=bI) fx fQ dh
 have sR:=j8.binds (ps:=["tie","patch"]) fun _ _ _ _ _ _ us hl=>by obtain⟨x0,x1,rfl⟩:=iN hl;rfl
 have qj:=aO (st:=dq) ku kP iq
 have Bt:=qj.binds (ps:=["web","order"]) fun _ _ _ _ _ _ us hl=>by obtain⟨x0,x1,rfl⟩:=iN hl;rfl
 have qu:=aO (st:=dA) kG kW iA
 have Bz:=qu.binds (ps:=["web","behind"]) fun _ _ _ _ _ _ us hl=>by obtain⟨x0,x1,rfl⟩:=iN hl;rfl
 have tu:=DN (st:=h9) rP sO mS nO rfl
 have FO:=tu.binds (ps:=["web","order"]) (ds:=[]) fun _ _ _ _ _ _ _ us hl=>match us,hl with | [_,_],_=>⟨_,rfl,rfl⟩
 have b1_fronts:=tu.binds (ps:=["web","order"]) (ds:=[.none]) fun _ _ _ _ _ _ _ us hl=>by
  have h1:us.length=1:=by simpa using hl
  match us,h1 with | [_],_=>exact⟨_,rfl,rfl⟩
 have oQ:=aO (st:=cy) jc jn fy
 have y7:=oQ.binds (ps:=["web","order"]) fun _ _ _ _ _ _ us hl=>by obtain⟨x0,x1,rfl⟩:=iN hl;rfl
 have lO:=aO (st:=bR) gB gP d7
 have vP:=lO.binds (ps:=["place","signs"]) fun _ _ _ _ _ _ us hl=>by obtain⟨x0,x1,rfl⟩:=iN hl;rfl
 have lQ:=aO (st:=bV) gD gR eg
 have vR:=lQ.binds (ps:=["counts","price","more"]) fun _ _ _ _ _ _ us hl=>by obtain⟨x0,x1,x2,rfl⟩:=uQ hl;rfl
 have g9:=aO (st:=ba) dI dR b7
 have oI:=g9.binds (ps:=["counts","place","ties","front"]) fun _ _ _ _ _ _ us hl=>by obtain⟨x0,x1,x2,x3,rfl⟩:=Fn hl;rfl
 have tq:=DN (st:=h7) rO sN mR nN rfl
 have FN:=tq.binds (ps:=["web","order"]) (ds:=[]) fun _ _ _ _ _ _ _ us hl=>match us,hl with | [_,_],_=>⟨_,rfl,rfl⟩
 have vT:=tq.binds (ps:=["web","order"]) (ds:=[.none]) fun _ _ _ _ _ _ _ us hl=>by
  have h1:us.length=1:=by simpa using hl
  match us,h1 with | [_],_=>exact⟨_,rfl,rfl⟩
 have lS:=aO (st:=bX) gF gU gI
 have lM:=lS.binds (ps:=["self","one","two","strength"]) fun _ _ _ _ _ _ us hl=>by obtain⟨x0,x1,x2,x3,rfl⟩:=Fn hl;rfl
 have qw:=aO (st:=dD) kJ kY iC
 have BB:=qw.binds (ps:=["self"]) fun _ _ _ _ _ _ us hl=>by obtain⟨x0,rfl⟩:=uR hl;rfl
 have dY:=aO (st:=bb) dJ dS bC
 have gW:=dY.binds (ps:=["self","laying"]) fun _ _ _ _ _ _ us hl=>by obtain⟨x0,x1,rfl⟩:=iN hl;rfl
 have jB:=aO (st:=cD) jh jt dM
 have oJ:=jB.binds (ps:=["self","laying"]) fun _ _ _ _ _ _ us hl=>by obtain⟨x0,x1,rfl⟩:=iN hl;rfl
 have oW:=aO (st:=cE) ji ju fE
 have ze:=oW.binds (ps:=["self"]) fun _ _ _ _ _ _ us hl=>by obtain⟨x0,rfl⟩:=uR hl;rfl
 have Gv:=aO (st:=pU) Dk Ep k_head
 have b_head:=Gv.binds (ps:=["ties","dart"]) fun _ _ _ _ _ _ us hl=>by obtain⟨x0,x1,rfl⟩:=iN hl;rfl
 have we:=aO (st:=eR) nQ oE jP
 have Es:=we.binds (ps:=["ties","number","place"]) fun _ _ _ _ _ _ us hl=>by obtain⟨x0,x1,x2,rfl⟩:=uQ hl;rfl
 have qv:=aO (st:=dB) kH kX iB
 have BA:=qv.binds (ps:=["ties","turns","dart"]) fun _ _ _ _ _ _ us hl=>by obtain⟨x0,x1,x2,rfl⟩:=uQ hl;rfl
 have lP:=aO (st:=bT) gC gQ d8
 have vQ:=lP.binds (ps:=["ties","turns","first"]) fun _ _ _ _ _ _ us hl=>by obtain⟨x0,x1,x2,rfl⟩:=uQ hl;rfl
 have oR:=aO (st:=cz) jd jo fz
 have y8:=oR.binds (ps:=["ties","turns"]) fun _ _ _ _ _ _ us hl=>by obtain⟨x0,x1,rfl⟩:=iN hl;rfl
 have qi:=aO (st:=dm) kr kN ik
 have Bs:=qi.binds (ps:=["ties","rounds"]) fun _ _ _ _ _ _ us hl=>by obtain⟨x0,x1,rfl⟩:=iN hl;rfl
 have j6:=aO (st:=bG) fm fO df
 have sP:=j6.binds (ps:=["many","ties"]) fun _ _ _ _ _ _ us hl=>by obtain⟨x0,x1,rfl⟩:=iN hl;rfl
 have iT:=aO (st:=br) eJ eL cN
 have pM:=iT.binds (ps:=["many","ties","turns"]) fun _ _ _ _ _ _ us hl=>by obtain⟨x0,x1,x2,rfl⟩:=uQ hl;rfl
 have g8:=aO (st:=a9) dH dQ b6
 have oH:=g8.binds (ps:=["many","ties"]) fun _ _ _ _ _ _ us hl=>by obtain⟨x0,x1,rfl⟩:=iN hl;rfl
 have lR:=aO (st:=bW) gE gS gG
 have vS:=lR.binds (ps:=["self","many","ties","turns"]) fun _ _ _ _ _ _ us hl=>by obtain⟨x0,x1,x2,x3,rfl⟩:=Fn hl;rfl
 have qq:=aO (st:=dz) kE kU iz
 have By:=qq.binds (ps:=["script","k"]) fun _ _ _ _ _ _ us hl=>by obtain⟨x0,x1,rfl⟩:=iN hl;rfl
 have oS:=aO (st:=cA) je jq fA
 have y9:=oS.binds (ps:=["found"]) fun _ _ _ _ _ _ us hl=>by obtain⟨x0,rfl⟩:=uR hl;rfl
 have qp:=aO (st:=dy) kD kT iy
 have Bx:=qp.binds (ps:=["found"]) fun _ _ _ _ _ _ us hl=>by obtain⟨x0,rfl⟩:=uR hl;rfl
 have oU:=aO (st:=cB) jf jr fB
 have zc:=oU.binds (ps:=["cell","many"]) fun _ _ _ _ _ _ us hl=>by obtain⟨x0,x1,rfl⟩:=iN hl;rfl
 have ql:=aO (st:=dv) kB kR iu
 have Bv:=ql.binds (ps:=["script","many","star"]) fun _ _ _ _ _ _ us hl=>by obtain⟨x0,x1,x2,rfl⟩:=uQ hl;rfl
 have qk:=aO (st:=du) kA kQ ir
 have Bu:=qk.binds (ps:=["told"]) fun _ _ _ _ _ _ us hl=>by obtain⟨x0,rfl⟩:=uR hl;rfl
 have qm:=aO (st:=dw) kC kS iw
 have Bw:=qm.binds (ps:=["told"]) fun _ _ _ _ _ _ us hl=>by obtain⟨x0,rfl⟩:=uR hl;rfl
 have oV:=aO (st:=cC) jg js fD
 have zd:=oV.binds (ps:=["web","way","order"]) fun _ _ _ _ _ _ us hl=>by obtain⟨x0,x1,x2,rfl⟩:=uQ hl;rfl
 have j7:=aO (st:=bH) fu fP dg
 have sQ:=j7.binds (ps:=["web"]) fun _ _ _ _ _ _ us hl=>by obtain⟨x0,rfl⟩:=uR hl;rfl
 have F_law:=aO (st:=qM) HM Iq HN
 refine⟨Jb "law" "law" (ay qM) (aw qM) (ah qM) .none Gd Gn F3 Gu Ei Gp,fun s v=>.of_eq rfl,fun base _ _=>?_⟩
 have C9:=Jh X G oM
 have rK:=Jh X G fX
 have AU:=Jh X G lg
 have A0:=Jh X G lx
 have Fl:=Jh X G tj
 have yc:=Jh X G jv
 have uK:=Jh X G gX
 have uN:=Jh X G gZ
 have nJ:=Jh X G dW
 have Fj:=Jh X G sZ
 have m_head:=Jh X G Ex
 have Dc:=Jh X G oN
 have A3:=Jh X G ly
 have uM:=Jh X G gY
 have yd:=Jh X G jw
 have AS:=Jh X G k9
 have rH:=Jh X G fU
 have pB:=Jh X G eO
 have nI:=Jh X G dU
 have AZ:=Jh X G lu
 have ye:=Jh X G jx
 have AY:=Jh X G lr
 have yf:=Jh X G jy
 have AW:=Jh X G lj
 have AV:=Jh X G lh
 have AX:=Jh X G lp
 have yg:=Jh X G jz
 have rJ:=Jh X G fV
 have m_law:=Jh X G FP
 have uP:=Jh X G fY
 have A4:=Jh X G jA
 have uO:=Jh X G lz
 have m_Pull:=Jh X G zx
 have m_Push:=Jh X G zw
 have m_Web:=Jh X G Ey
 have most:=Jh X G gi_most
 have n_len:=JA X G GA
 have n_int:=JA X G GB
 have n_bool:=JA X G BG
 have n_list:=JA X G BE
 have n_tuple:=JA X G wg
 have n_range:=JA X G wj
 have n_enumerate:=JA X G iU
 have n_isinstance:=JA X G gf
 have n_min:=JA X G Gy
 have n_sum:=JA X G Gx
 have n_sorted:=JA X G qx
 have n_max:=JA X G Gz
 have n_all:=JA X G GD
 have n_zip:=JA X G Gw
 have n_any:=JA X G GC
 have n_dict:=JA X G BF
 have TL:CT K aW:=⟨⟨xA,yC,xj,xf⟩,ja,i9,cY⟩
 have TS:CT K aV:=⟨⟨xy,yB,xi,xc⟩,i8,i7,cX⟩
 have cw:CW K dZ:=⟨⟨CC,DJ,Cw,Cf⟩,i6,i5,gk,fi,gs⟩
 have T:Txt mg:=⟨n_max,n_all,n_zip,n_any,n_len,n_int,n_bool,n_list,n_tuple,n_range,n_enumerate,n_isinstance,n_min,n_sum,n_sorted⟩
 have TM:TxtM mg:={ T with most:=⟨_,most⟩ }
 have GI:FnOk l.prog w K mg base CX0 1 bj _ _ (pT K):=Hv lS
 have ML:Mak l.prog w K mg base 1 "Pull" _ (pT K) aW bj _:=⟨⟨x9,gz,eh,yl⟩,GI,lM,m_Pull⟩
 have MS:Mak l.prog w K mg base 1 "Push" _ (pT K) aV bj _:=⟨⟨x8,gw,eh,yk⟩,GI,lM,m_Push⟩
 have wL:Met l.prog w K mg base 1 aW "wish" _ (tH false) eU _:=⟨⟨gy,kM,iC⟩,E7 qw,BB⟩
 have wS:Met l.prog w K mg base 1 aV "wish" _ (tH true) dO _:=⟨⟨gu,jk,fE⟩,E6 oW,ze⟩
 have uL:Met l.prog w K mg base 2 aW "unpleased" _ (zH aW false) aT _:=⟨⟨cH,b8,bC⟩,CO dY TL wL,gW⟩
 have uS:Met l.prog w K mg base 2 aV "unpleased" _ (zH aV true) aT _:=⟨⟨cG,b8,bC⟩,CO dY TS wS,gW⟩
 have rL:Met l.prog w K mg base 3 aW "price" _ (ni aW false) bN _:=⟨⟨fk,fG,dM⟩,zU jB TL uL,oJ⟩
 have rS:Met l.prog w K mg base 3 aV "price" _ (ni aV true) bN _:=⟨⟨fj,fG,dM⟩,zU jB TS uS,oJ⟩
 have Gh:Cal l.prog w K mg base 1 "head" _ (B5 K) Af _:=⟨Hw Gv,b_head,m_head,k_head⟩
 have Gl:Cal l.prog w K mg base 1 "leaving" _ (B4 K) jU _:=⟨AH we,Es,Dc,jP⟩
 have Gf:Cal l.prog w K mg base 2 "follower" _ (G4 K) iL _:=⟨xE qv T Gh Gl,BA,A3,iB⟩
 have Gr:Cal l.prog w K mg base 3 "round_from" _ (B6 K) eB _:=⟨Hy lP Gf,vQ,uM,d8⟩
 have GR:Cal l.prog w K mg base 4 "rounds_of" _ (qC K) fJ _:=⟨CQ oR T Gr,y8,yd,fz⟩
 have GS:Cal l.prog w K mg base 1 "sides_of" _ (wD K) iD _:=⟨Fc qi T,Bs,AS,ik⟩
 have Ga:Cal l.prog w K mg base 1 "reached" _ (wF K) jT _:=⟨AG wd,Er,C9,jO⟩
 have R1:Cal l.prog w K mg base 1 "refuse_ends" _ (wH K) di _:=⟨Fe j6,sP,rH,df⟩
 have R2:Cal l.prog w K mg base 1 "refuse_turns" _ (qD K) cP _:=⟨CP iT T,pM,pB,cN⟩
 have R3:Cal l.prog w K mg base 2 "refuse_parted" _ (wG K) b9 _:=⟨Fd g8 Ga,oH,nI,b6⟩
 have WI:FnOk l.prog w K mg base CX0 5 bY _ _ (qB K):=E8 lR T R1 R2 R3 GR GS
 have MW:Mak l.prog w K mg base 5 "Web" _ (qB K) dZ bY _:=⟨⟨C4,jb,gJ,Dr⟩,WI,vS,m_Web⟩
 have Gc:Cal l.prog w K mg base 1 "_law_cell" _ (zJ K) iJ _:=⟨Hz qq T,By,AZ,iz⟩
 have L5:Cal l.prog w K mg base 1 "_law_order" _ wI fM _:=⟨Ff oU T,zc,yf,fB⟩
 have L9:Cal l.prog w K mg base 1 "_law_whole" _ G1 fK _:=⟨E9 oS T,y9,ye,fA⟩
 have Ge:Cal l.prog w K mg base 1 "ends_within" _ (mO K) dk _:=⟨CN j8,sR,rK,dh⟩
 have XB:ErrC K mg "BadOrder" cL:=⟨A4,iW⟩
 have XW:ErrC K mg "TooWide" d6:=⟨uO,kc⟩
 have Gt:Cal l.prog w K mg base 2 "front_of" _ (wJ aW aV dZ) iK _:=⟨Fg qu cw TL TS Ge,Bz,A0,iA⟩
 have Go:CalX l.prog w K mg base 1 "order_of" _ (zI cL dZ) iE _:=⟨ok_ord qj T cw XB,Bt,AU,iq⟩
 have GF:CalX l.prog w K mg base 3 "fronts" _ (G3 cL aW aV dZ) mV _:=⟨CS tu Go Gt,FO,Fl,mS⟩
 have Gbk:Cal l.prog w K mg base 2 "ties_back" _ (B7 aW aV dZ) fH _:=⟨HD oQ cw TL TS Ge,y7,yc,fy⟩
 have Gsw:Cal l.prog w K mg base 1 "signs_with" _ wC eA _:=⟨Fb lO,vP,uK,d7⟩
 have Gad:Cal l.prog w K mg base 1 "add_counts" _ EN eE _:=⟨ok_add lQ,vR,uN,eg⟩
 have Gcb:Cal l.prog w K mg base 4 "counts_behind" _ (spCB aW aV) cb _:=⟨ok_cb g9 T TL TS rL rS Gsw Gad,oI,nJ,b7⟩
 have Gpr:Cal l.prog w K mg base 2 "_law_pair" _ B3 iI _:=⟨Hu qp T L9,Bx,AY,iy⟩
 have Gws:CalX l.prog w K mg base 5 "worths" _ (spWs cL d6 aW aV dZ) mU _:=⟨ok_ws tq TM cw XW Go GF Gbk Gcb,FN,Fj,mR⟩
 have Gas:CalX l.prog w K mg base 6 "_law_asked" _ (B8 aW aV dZ) fN _:=⟨ok_ask oV Gws vT,zd,yg,fD⟩
 have mTF:KG K d6 (.ref bZ)=some true:=bz
 have XF:ErrC K mg "FloorError" bZ:=⟨uP,eV⟩
 have TX:TxtX mg d6:={ T with g_TooWide:=uO }
 have TQ:TxtL mg:={ T with n_dict:=n_dict }
 have Gre:Cal l.prog w K mg base 6 "_law_refused" _ (B0 aW aV dZ) dj _:=⟨Ht j7 TX XF XW mTF Gws vT,sQ,rJ,dg⟩
 have Gto:Cal l.prog w K mg base 2 "_law_told" _ (BY K) iG _:=⟨Hq ql T Gc,Bv,AW,iu⟩
 have Gsu:Cal l.prog w K mg base 1 "_law_sums" _ BZ iH _:=⟨Hr qm TQ,Bw,AX,iw⟩
 have Gtr:Cal l.prog w K mg base 7 "_law_tree" _ (BX aW aV dZ) iF _:=⟨Ho qk T ML MS TL TS MW cw,Bu,AV,ir⟩
 exact ok_law F_law T Gc Gto Gtr Gre L5 Gas Gsu Gpr
theorem walk{l:Mq}{q:Program}{loose:List Str}{XP:(Str->Option Value)->Heap->Prop}{YP:World->Heap->Prop}{d:DefRec}{K:Params->IC}(hn:l.most=some 63)(hdf:d.params.defaults = [])
  (hY:∀(w:World)(h:Heap),YP w h->(K w.params).In h)
  (F:∀(w:World)(mg:Str->Option Value)(fa:Addr)(h:Heap),(K w.params).In h->h.Ns mainGlobals mg->mg d.name=some (.ref fa) ->
   ∃ fd:FuncData,(∀(s:Shared)(u:Value),BindsTo s fd ⟨[u],[]⟩ [("script",u)])/\∀ base:Heap,(K w.params).In base->base.Ns mainGlobals mg->FnOk l.prog w (K w.params) mg base CX0 8 fa fd ["script"] (EM (K w.params))) :
  PySem.W.WalkO q loose XP YP l.row.toRowW d [] (fun f vs=>PySem.call f vs) :=
 L2.walk_of (n:=63) (k:=8) (x:="script") (CX:=fun _=>CX0) (sp:=fun w=>EM (K w.params)) hn (by decide) hdf ⟨rfl,by decide,by decide⟩ hY F (fun _ _ a ns hl _ hS=>⟨a,ns,rfl,hS,hl,fun _=>rfl⟩) fun _ _ _ _ _ z=>z
end K8
def PySem.W.Fast.tw7700318730910382912:Nat:=0
def PySem.W.Fast.tw6135025273097673825:Nat:=0
def PySem.W.Fast.tw3595707917998636996:Nat:=0
def PySem.W.Fast.tw8039399711155021765:Nat:=0
def PySem.W.Fast.tw1823180626214143209:Nat:=0
def PySem.W.Fast.tw876869238804259402:Nat:=0
def PySem.W.Fast.tw6357081614972245517:Nat:=0
def PySem.W.Fast.tw6778291319339351599:Nat:=0
def PySem.W.Fast.tw906532279981095504:Nat:=0
def PySem.W.Fast.tw2399814366190069937:Nat:=0
def PySem.W.Fast.tw1463850596939753810:Nat:=0
def PySem.W.Fast.tw6788161977723051316:Nat:=0
def PySem.W.Fast.tw7080449499066416533:Nat:=0
def PySem.W.Fast.tw14930031131619998392:Nat:=0
def PySem.W.Fast.tw5782646520389395578:Nat:=0
def PySem.W.Fast.tw10913921900752412858:Nat:=0
def PySem.W.Fast.tw12935019034150704669:Nat:=0
namespace PySem.W.Fast
def tw8128739493969452032:=0
def tw13917000080473714784:=0
def tw6637076782901567616:=0
def tw12706778512339117216:=0
def tw9266916818549072032:=0
def tw8716914209450885312:=0
def tw7056485957307248864:=0
def tw15755014215260133632:=0
def tw1664983027948123456:=0
def tw5116936194646856064:=0
def tw13213479789574681024:=0
def tw17867417046063286752:=0
def tw11235900840325548576:=0
def tw5021731764629575360:=0
def tw2233866288001713952:=0
def tw8190461531667532736:=0
def tw1122357101421591520:=0
def tw5255855246458071233:=0
def tw8128715038007166241:=0
def tw285751834664981793:=0
def tw8427678984101294369:=0
def tw8444584330675136833:=0
def tw6315414370830928481:=0
def tw3163805760942273121:=0
def tw12082227298794010337:=0
def tw10575973279423988545:=0
def tw14293013061623938977:=0
def tw12996255006386537474:=0
def tw1329054466466464802:=0
def tw15956302076112114754:=0
def tw4904947357206070402:=0
def tw5114647992904900866:=0
def tw10010995844386672930:=0
def tw12871458063892922850:=0
def tw7514611458780429826:=0
def tw8507739561579862530:=0
def tw14451618909951809090:=0
def tw9737588616907381314:=0
def tw5654397558910372482:=0
def tw2241402751877877410:=0
def tw12074441524385772547:=0
def tw6587212876331022371:=0
def tw12988315403246649443:=0
def tw1527416681084981347:=0
def tw97728458644546723:=0
def tw6015968455400599715:=0
def tw17951244625275709667:=0
def tw3416934284443672867:=0
def tw15889848706108139907:=0
def tw6285631087610821091:=0
def tw16023420304276119075:=0
def tw7010660715643848291:=0
def tw4808946765614461571:=0
def tw3043414073691468451:=0
def tw14044950621084892899:=0
def tw15267142753129204483:=0
def tw6859944685130662755:=0
def tw16537683211819067299:=0
def tw282954861169525667:=0
def tw4172003211557614563:=0
def tw17928307267073951748:=0
def tw3862268194701854756:=0
def tw11042403571352266852:=0
def tw6059971111699857604:=0
def tw5476709751237363908:=0
def tw2709882226139703524:=0
def tw4976110215061125540:=0
def tw12399137685319123428:=0
def tw16278189150831177220:=0
def tw13528753594556380772:=0
def tw513424267734490788:=0
def tw13626299905863886660:=0
def tw1366796135669222244:=0
def tw9608489320208717668:=0
def tw17164642450535413636:=0
def tw6986736407840907204:=0
def tw7126463785702330469:=0
def tw11167355331145214117:=0
def tw5040429875224364325:=0
def tw2586226594599184741:=0
def tw244363322575550917:=0
def tw3645622836105231877:=0
def tw10811867190279466533:=0
def tw3605904020088352357:=0
def tw5611187458533841605:=0
def tw9898090904411569925:=0
def tw14405913925226585957:=0
def tw10119138830431457125:=0
def tw7875282713371667397:=0
def tw15773317672481710182:=0
def tw10606825988433754406:=0
def tw2379212692600850726:=0
def tw10618403464757566886:=0
def tw15148736910343947718:=0
def tw17922257575456629286:=0
def tw7711974027408393798:=0
def tw13906237982277909094:=0
def tw1289168269750772358:=0
def tw3016996251453206150:=0
def tw12357731278393611014:=0
def tw8276195040458997734:=0
def tw8884776576088474663:=0
def tw2320790020350831783:=0
def tw2140959711228192007:=0
def tw9936867232200060263:=0
def tw18383263814590852519:=0
def tw11849065499937632679:=0
def tw5064831478222454183:=0
def tw7797252830366045767:=0
def tw16946749726446710407:=0
def tw14303565854889450119:=0
def tw11078017265188934407:=0
def tw5171079158624654344:=0
def tw2740873569204855880:=0
def tw8446522225808720008:=0
def tw14424987227105878152:=0
def tw6108053176515251400:=0
def tw306522140423134632:=0
def tw8401082866826497576:=0
def tw5707158089645914664:=0
def tw14468478305556897416:=0
def tw15541144442272019176:=0
def tw4280756000839890696:=0
def tw10148501276009816872:=0
def tw12539733832709468072:=0
def tw13399405325624500233:=0
def tw9346394994306720809:=0
def tw6583267127312329769:=0
def tw9718860009963050121:=0
def tw14859623800227035337:=0
def tw15102211357797129417:=0
def tw9624020310949145833:=0
def tw227357732604753129:=0
def tw13406922077383911657:=0
def tw16005365757961893129:=0
def tw12898193452631573993:=0
def tw18114732792992492041:=0
def tw9654966523118380745:=0
def tw11034101333796997865:=0
def tw15656800215712852713:=0
def tw2619176229769468777:=0
def tw13993477841884995433:=0
def tw16698914545120209769:=0
def tw2648836006158971817:=0
def tw7258939106658154634:=0
def tw12148773597766903978:=0
def tw16921461262616366506:=0
def tw1212874191659705898:=0
def tw14430665728261338826:=0
def tw8952353453212750634:=0
def tw11840219425525206922:=0
def tw1047166681774721099:=0
def tw166854944132503627:=0
def tw14547695075386252427:=0
def tw3348134674536996043:=0
def tw925960398873765131:=0
def tw9989329256017866091:=0
def tw4333654070522792523:=0
def tw12784656725296248427:=0
def tw8728796653353393867:=0
def tw10264558181561419531:=0
def tw997358519505701643:=0
def tw14942991830313007979:=0
def tw17081507688323898283:=0
def tw12842755655026691051:=0
def tw13888403971963274219:=0
def tw3680314264026665996:=0
def tw1295883383517333548:=0
def tw2423401264680473772:=0
def tw3132371342218688684:=0
def tw5346168544316619948:=0
def tw14948136886282080556:=0
def tw11634833123444476236:=0
def tw12548870503700665676:=0
def tw2131742787217538444:=0
def tw3242777154147008972:=0
def tw7992936753937445484:=0
def tw2071477026466269868:=0
def tw4131979111924695724:=0
def tw6488360719747925772:=0
def tw3306399725245268780:=0
def tw14950494986971718572:=0
def tw4157764108022429709:=0
def tw471444808684095565:=0
def tw6837415047067326669:=0
def tw16608717875822961965:=0
def tw6571541827704513869:=0
def tw2893162261387326829:=0
def tw6615875705723142573:=0
def tw1568236514990827981:=0
def tw12806734595385438669:=0
def tw9838616119415305837:=0
def tw1372592092434284237:=0
def tw10091966425501100781:=0
def tw1400275996665163629:=0
def tw139594994112875405:=0
def tw16782184652041233293:=0
def tw7965061592784227245:=0
def tw16981824653710691245:=0
def tw774774019708205005:=0
def tw6889165735575740494:=0
def tw16686895046241698030:=0
def tw208477754524095726:=0
def tw1740117227394637134:=0
def tw16097842067476421038:=0
def tw8183096719407307310:=0
def tw15528819387244869198:=0
def tw3480747662161429390:=0
def tw3663639409810615246:=0
def tw4911504524560002030:=0
def tw1316768791095129135:=0
def tw4609724485980362831:=0
def tw13180606761793380655:=0
def tw212763455888165263:=0
def tw16954214876711027183:=0
def tw4617435193917081199:=0
def tw2356311903904105135:=0
def tw11691017682798136079:=0
def tw2165432198384878447:=0
def tw9571449631879532431:=0
def tw11314150851967156111:=0
def tw8046875222471196688:=0
def tw13318247933717046288:=0
def tw6478194582016732208:=0
def tw6224635171206177872:=0
def tw15461066341614086480:=0
def tw6534637736907382128:=0
def tw2771615941145533872:=0
def tw4764235884926979504:=0
def tw8010744228504533424:=0
def tw6357233801185136272:=0
def tw7681524751644480176:=0
def tw15022325049492381360:=0
def tw6386146636356857584:=0
def tw8284902000363580176:=0
def tw9964019571537364880:=0
def tw17328908452454560656:=0
def tw11919307196521611184:=0
def tw7619219899366116401:=0
def tw2414489260783629521:=0
def tw9393968116266058993:=0
def tw8907113924927987089:=0
def tw10018408792078288465:=0
def tw4190563166428162769:=0
def tw17472119286583971569:=0
def tw14427860400791140113:=0
def tw2454626937316255858:=0
def tw9220315877285715058:=0
def tw15825929104078497906:=0
def tw11111127976368692434:=0
def tw5864247265323059570:=0
def tw9439995955159895410:=0
def tw16973678274883765746:=0
def tw9036899352207813170:=0
def tw14413518615214127730:=0
def tw9232335074304852690:=0
def tw13715089396759176914:=0
def tw5724718224813075410:=0
def tw11794706175965348850:=0
def tw8979013718942021618:=0
def tw11928913905381199891:=0
def tw18194736784379555027:=0
def tw5099814168707018131:=0
def tw11332607824699989427:=0
def tw7365192610499043859:=0
def tw2754296112972537395:=0
def tw1387426301551704659:=0
def tw12411515382901476019:=0
def tw479584903305067251:=0
def tw1676607368096496467:=0
def tw6232921519983554419:=0
def tw2118223895139732435:=0
def tw1824537628413322227:=0
def tw4370903852074844147:=0
def tw10941679745686303764:=0
def tw5943420052120676372:=0
def tw8311262462488842356:=0
def tw4337832691909160116:=0
def tw7406628335344115924:=0
def tw3434427286178438388:=0
def tw9609792629323807092:=0
def tw6461578950118538644:=0
def tw6896527266232915380:=0
def tw11249072262624163316:=0
def tw17443328583197318772:=0
def tw4753521156126281332:=0
def tw17058554722396772020:=0
def tw6904033646194748180:=0
def tw15253821569889802100:=0
def tw17678393516802816916:=0
def tw15268880122101269557:=0
def tw4810541398411414581:=0
def tw16550292562175664181:=0
def tw14669046541509877941:=0
def tw17730487728162563381:=0
def tw17518670765617171797:=0
def tw12631285062850669941:=0
def tw14864497960350092661:=0
def tw8240217869509993941:=0
def tw4896407062358248917:=0
def tw16162849042041149941:=0
def tw5262401903344556597:=0
def tw9690912954944428661:=0
def tw19857477337586325:=0
def tw17864477616593474261:=0
def tw3328182526961868501:=0
def tw5693506539888436949:=0
def tw7898618743912897301:=0
def tw17111500739049770773:=0
def tw12453136276482305813:=0
def tw14806967012959912789:=0
def tw17007106212875278165:=0
def tw1606826203077777237:=0
def tw7882692453520866261:=0
def tw16583902289510635509:=0
def tw17392970543760976885:=0
def tw8139912016043937910:=0
def tw13756004618716651670:=0
def tw3719137837455124694:=0
def tw6296706933845707158:=0
def tw8613234275698092598:=0
def tw3422403418743288374:=0
def tw9682830690396215894:=0
def tw15907900531229296246:=0
def tw11560393128228324022:=0
def tw5750698840733206294:=0
def tw1283643781971838806:=0
def tw7706356153642296471:=0
def tw7693670826474783959:=0
def tw6839800582113105143:=0
def tw8601412316364507479:=0
def tw3241919729953225143:=0
def tw6695924112971581879:=0
def tw7586764748382175799:=0
def tw13116084917559413367:=0
def tw14878818197559297719:=0
def tw1973238589766694615:=0
def tw13790930886871388887:=0
def tw1098413577228721943:=0
def tw8902424813953260311:=0
def tw10559605339563106103:=0
def tw18224361526764227415:=0
def tw11173539049616852887:=0
def tw1911972134187156568:=0
def tw338472274158784696:=0
def tw16504272502401555832:=0
def tw6034230213012225464:=0
def tw809925050058732152:=0
def tw8467414437805458072:=0
def tw8439764106651710296:=0
def tw18000159927136742232:=0
def tw15073193967695301496:=0
def tw8883145364556495800:=0
def tw15318465625522018393:=0
def tw4685661965284611193:=0
def tw13260750291157422361:=0
def tw14789650107271373369:=0
def tw15699649114885996153:=0
def tw13576635824511743609:=0
def tw4077829674121822969:=0
def tw1928325825497664377:=0
def tw17810043081462597690:=0
def tw9579151071867511898:=0
def tw16397066475739325562:=0
def tw12557031487432261786:=0
def tw7830296274395756986:=0
def tw10867362161691214554:=0
def tw13643900388868652794:=0
def tw14153755836015369018:=0
def tw12896687717949288346:=0
def tw6931735230575544218:=0
def tw9611528368642710458:=0
def tw14460875233270938586:=0
def tw1469636297008548826:=0
def tw14124505829727088827:=0
def tw52195420505680123:=0
def tw826720336570200411:=0
def tw8128822527996374491:=0
def tw886004552507242011:=0
def tw3676566914218386203:=0
def tw7523087417078575931:=0
def tw5745445542465759163:=0
def tw14328395350609019964:=0
def tw34590042919359548:=0
def tw16075401856703785020:=0
def tw8844912475527318620:=0
def tw11386484313159224444:=0
def tw13500759556228200764:=0
def tw5756644213579923836:=0
def tw6924309442773709308:=0
def tw13293107905018652188:=0
def tw119162819791756892:=0
def tw10148248300045483644:=0
def tw15672633785120971452:=0
def tw4474367735192672988:=0
def tw18139773816547872540:=0
def tw8029755305313168220:=0
def tw8830305215762669436:=0
def tw9080931814962728892:=0
def tw6756193881281949660:=0
def tw5352459274044004381:=0
def tw8884330911592084573:=0
def tw1981035458989506813:=0
def tw1719395735819769085:=0
def tw13083329032816467229:=0
def tw13669229425505613117:=0
def tw3484796629821597117:=0
def tw16423879436833568189:=0
def tw6844819747311484541:=0
def tw13869841044586848989:=0
def tw1351011571488431933:=0
def tw5950776171680577373:=0
def tw17419621685655885789:=0
def tw11594764112659315774:=0
def tw4276558897542412350:=0
def tw4404582806946199678:=0
def tw2259398860780679326:=0
def tw8320872586323048606:=0
def tw3861114029949657278:=0
def tw12860519825776060702:=0
def tw14957487717728433534:=0
def tw16255373369448241566:=0
def tw10243821296174096894:=0
def tw9515548377070756446:=0
def tw7366713613157892798:=0
def tw3406545321099495134:=0
def tw14106354698102011678:=0
def tw8799575915064681278:=0
def tw14897709889629627262:=0
def tw10337938755379976094:=0
def tw8202734919225503710:=0
def tw5441426860923675646:=0
def tw14607907630209133566:=0
def tw519849800387478559:=0
def tw8033228463268580959:=0
def tw3693553169817451103:=0
def tw5576386637058954943:=0
def tw4545329861057567551:=0
def tw7214443644145237887:=0
def tw1768006934977896447:=0
def tw5450785821967304586:=0
end PySem.W.Fast
open PySem PySem.W PyProof.Rows
set_option maxRecDepth 100000 in
set_option maxHeartbeats 0 in
theorem PySem.Challenge.cw_spinfloor_k45_worths_of_trees_holds : PySem.Challenge.rw_spinfloor_k45_worths_of_trees.Holds := by
 w_on;o_law;k_head;(case hw=>w_witness2)
 k_fill
 refine K8.walk (l:=PySem.Challenge.rw_spinfloor_k45_worths_of_trees) rfl rfl (fun w h Y=>PySem.W.kIn_of Y) ?F
 case F =>
  intro w mg fa h KX G hmg
  refine' K8.all_mk KX G hmg ?fY ?jA ?lz ?zx ?zw ?Ey ?gz ?gy ?cH ?fk ?gw ?gu ?cG ?fj ?jb ?oM ?nP ?oB ?jO ?fX ?fx ?fQ ?dh ?lg ?ku ?kP ?iq ?lx ?kG ?kW ?iA ?tj ?rP ?nO ?sO ?mS ?jv ?jc ?jn ?fy ?gX ?gB ?gP ?d7 ?gZ ?gD ?gR ?eg ?dW ?dI ?dR ?b7 ?sZ ?rO ?nN ?sN ?mR ?gF ?gU ?gI ?eh ?kJ ?kY ?iC ?kM ?dJ ?dS ?bC ?b8 ?jh ?jt ?dM ?fG ?ji ?ju ?fE ?jk ?Ex ?Dk ?Ep ?k_head ?oN ?nQ ?oE ?jP ?ly ?kH ?kX ?iB ?gY ?gC ?gQ ?d8 ?jw ?jd ?jo ?fz ?k9 ?kr ?kN ?ik ?fU ?fm ?fO ?df ?eO ?eJ ?eL ?cN ?dU ?dH ?dQ ?b6 ?gE ?gS ?gG ?gJ ?lu ?kE ?kU ?iz ?jx ?je ?jq ?fA ?lr ?kD ?kT ?iy ?jy ?jf ?jr ?fB ?lj ?kB ?kR ?iu ?lh ?kA ?kQ ?ir ?lp ?kC ?kS ?iw ?jz ?jg ?js ?fD ?fV ?fu ?fP ?dg ?FP ?HM ?Iq ?HN ?eV ?iW ?cx ?kc ?bz ?xA ?yC ?xj ?xf ?x9 ?yl ?ja ?i9 ?cY ?xy ?yB ?xi ?xc ?x8 ?yk ?i8 ?i7 ?cX ?CC ?DJ ?Cw ?Cf ?C4 ?Dr ?i6 ?i5 ?gk ?fi ?gs ?gi_most ?GA ?GB ?BG ?BE ?wg ?wj ?iU ?gf ?Gy ?Gx ?qx ?Gz ?GD ?Gw ?GC ?BF
  (case fY=>k_is)
  (case jA=>k_is)
  (case lz=>k_is)
  (case zx=>k_is)
  (case zw=>k_is)
  (case Ey=>k_is)
  (case gz=>k_is)
  (case gy=>k_is)
  (case cH=>k_is)
  (case fk=>k_is)
  (case gw=>k_is)
  (case gu=>k_is)
  (case cG=>k_is)
  (case fj=>k_is)
  (case jb=>k_is)
  (case oM=>k_is)
  (case nP=>k_is)
  (case oB=>k_is)
  (case jO=>k_is)
  (case fX=>k_is)
  (case fx=>k_is)
  (case fQ=>k_is)
  (case dh=>k_is)
  (case lg=>k_is)
  (case ku=>k_is)
  (case kP=>k_is)
  (case iq=>k_is)
  (case lx=>k_is)
  (case kG=>k_is)
  (case kW=>k_is)
  (case iA=>k_is)
  (case tj=>k_is)
  (case rP=>k_is)
  (case nO=>k_is)
  (case sO=>k_is)
  (case mS=>k_is)
  (case jv=>k_is)
  (case jc=>k_is)
  (case jn=>k_is)
  (case fy=>k_is)
  (case gX=>k_is)
  (case gB=>k_is)
  (case gP=>k_is)
  (case d7=>k_is)
  (case gZ=>k_is)
  (case gD=>k_is)
  (case gR=>k_is)
  (case eg=>k_is)
  (case dW=>k_is)
  (case dI=>k_is)
  (case dR=>k_is)
  (case b7=>k_is)
  (case sZ=>k_is)
  (case rO=>k_is)
  (case nN=>k_is)
  (case sN=>k_is)
  (case mR=>k_is)
  (case gF=>k_is)
  (case gU=>k_is)
  (case gI=>k_is)
  (case eh=>k_is)
  (case kJ=>k_is)
  (case kY=>k_is)
  (case iC=>k_is)
  (case kM=>k_is)
  (case dJ=>k_is)
  (case dS=>k_is)
  (case bC=>k_is)
  (case b8=>k_is)
  (case jh=>k_is)
  (case jt=>k_is)
  (case dM=>k_is)
  (case fG=>k_is)
  (case ji=>k_is)
  (case ju=>k_is)
  (case fE=>k_is)
  (case jk=>k_is)
  (case Ex=>k_is)
  (case Dk=>k_is)
  (case Ep=>k_is)
  (case k_head=>k_is)
  (case oN=>k_is)
  (case nQ=>k_is)
  (case oE=>k_is)
  (case jP=>k_is)
  (case ly=>k_is)
  (case kH=>k_is)
  (case kX=>k_is)
  (case iB=>k_is)
  (case gY=>k_is)
  (case gC=>k_is)
  (case gQ=>k_is)
  (case d8=>k_is)
  (case jw=>k_is)
  (case jd=>k_is)
  (case jo=>k_is)
  (case fz=>k_is)
  (case k9=>k_is)
  (case kr=>k_is)
  (case kN=>k_is)
  (case ik=>k_is)
  (case fU=>k_is)
  (case fm=>k_is)
  (case fO=>k_is)
  (case df=>k_is)
  (case eO=>k_is)
  (case eJ=>k_is)
  (case eL=>k_is)
  (case cN=>k_is)
  (case dU=>k_is)
  (case dH=>k_is)
  (case dQ=>k_is)
  (case b6=>k_is)
  (case gE=>k_is)
  (case gS=>k_is)
  (case gG=>k_is)
  (case gJ=>k_is)
  (case lu=>k_is)
  (case kE=>k_is)
  (case kU=>k_is)
  (case iz=>k_is)
  (case jx=>k_is)
  (case je=>k_is)
  (case jq=>k_is)
  (case fA=>k_is)
  (case lr=>k_is)
  (case kD=>k_is)
  (case kT=>k_is)
  (case iy=>k_is)
  (case jy=>k_is)
  (case jf=>k_is)
  (case jr=>k_is)
  (case fB=>k_is)
  (case lj=>k_is)
  (case kB=>k_is)
  (case kR=>k_is)
  (case iu=>k_is)
  (case lh=>k_is)
  (case kA=>k_is)
  (case kQ=>k_is)
  (case ir=>k_is)
  (case lp=>k_is)
  (case kC=>k_is)
  (case kS=>k_is)
  (case iw=>k_is)
  (case jz=>k_is)
  (case jg=>k_is)
  (case js=>k_is)
  (case fD=>k_is)
  (case fV=>k_is)
  (case fu=>k_is)
  (case fP=>k_is)
  (case dg=>k_is)
  (case FP=>k_is)
  (case HM=>k_is)
  (case Iq=>k_is)
  (case HN=>k_is)
  (case eV=>k_exc)
  (case iW=>k_exc)
  (case cx=>k_is)
  (case kc=>k_exc)
  (case bz=>k_is)
  (case xA=>k_is)
  (case yC=>k_is)
  (case xj=>k_is)
  (case xf=>k_is)
  (case x9=>k_is)
  (case yl=>k_is)
  (case ja=>k_is)
  (case i9=>k_is)
  (case cY=>k_is)
  (case xy=>k_is)
  (case yB=>k_is)
  (case xi=>k_is)
  (case xc=>k_is)
  (case x8=>k_is)
  (case yk=>k_is)
  (case i8=>k_is)
  (case i7=>k_is)
  (case cX=>k_is)
  (case CC=>k_is)
  (case DJ=>k_is)
  (case Cw=>k_is)
  (case Cf=>k_is)
  (case C4=>k_is)
  (case Dr=>k_is)
  (case i6=>k_is)
  (case i5=>k_is)
  (case gk=>k_is)
  (case fi=>k_is)
  (case gs=>k_is)
  (case gi_most=>k_is)
  (case GA=>k_is)
  (case GB=>k_is)
  (case BG=>k_is)
  (case BE=>k_is)
  (case wg=>k_is)
  (case wj=>k_is)
  (case iU=>k_is)
  (case gf=>k_is)
  (case Gy=>k_is)
  (case Gx=>k_is)
  (case qx=>k_is)
  (case Gz=>k_is)
  (case GD=>k_is)
  (case Gw=>k_is)
  (case GC=>k_is)
  (case BF=>k_is)
