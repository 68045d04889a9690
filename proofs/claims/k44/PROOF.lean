import PyProof.Rows.All
import Wide.All
import OpenK.AllK
import Wide.FinOn
import Lean
import PyProof.EqAt
import PyProof.EqKinds
import PyProof.TupleCall
import PySem.Challenge.RW_spinfloor_k44_stars
open Array renaming length_toList → Kf, getElem?_toList → Lk, getElem?_eq_some_iff → Mo
open Bool renaming false_ne_true → Jo, and_eq_true_iff → JR, false_and → Lg, or_false → Lo, or_eq_true_iff → Lv, true_and → LK, eq_iff_iff → LP, and_false → LR, false_eq_true → L5
open Int renaming toNat_natCast → JI, zero_add → KA, le_refl → KD, emod_nonneg → Lu, natCast_nonneg → LZ, emod_lt_of_pos → L4, fdiv_eq_ediv_of_nonneg → Mn
open List renaming getElem?_eq_some_iff → IS, getElem?_eq_getElem → IU, length_map → IV, mem_of_getElem? → IW, length_append → IX, getElem?_append_right → IZ, mem_cons → Ja, getElem?_append_left → Jb, mem_append_right → Jc, getElem?_map → Je, length_singleton → Jg, mem_map → Jj, mem_cons_of_mem → Jk, mem_append → Jl, mem_cons_self → Jn, mem_singleton → Jq, take_add_one → Jt, range → Ju, mem_range → Jx, map_append → Jy, take_length → JA, size_toArray → JB, nodup_cons → JD, length_take → JE, mem_append_left → JG, length_range → JH, map_cons → JJ, not_mem_nil → JK, length_cons → JL, take_of_length_le → JQ, nodup_range → JU, replicate → JW, pairwise_iff_getElem → JX, getElem?_of_mem → JY, mem_filter → JZ, getD_eq_getElem?_getD → J1, nodup_append → Ka, mem_of_mem_take → Kb, getElem?_take → Kh, map_map → Km, length_drop → Ko, perm_ext_iff_of_nodup → Kp, mem_iff_getElem? → Kt, length_set → Ku, append_nil → Kv, length_eq_zero_iff → Kx, getElem?_replicate → Ky, getElem?_set → KC, length_pos_of_mem → KG, mem_flatten → KH, any_eq_true → KI, getElem?_eq_none → KJ, length_dropLast → KL, Pairwise → KO, filter_append → KS, dropLast_concat_getLast → KU, length_replicate → KY, length_filter_le → KZ, getElem?_set_ne → K1, flatten_append → K4, idxOf_lt_length_iff → K5, length_nil → K9, find?_cons → La, getElem?_set_self → Lb, pairwise_map → Le, flatten_cons → Lf, take_append_drop → Lj, replicate_succ' → Ln, map_congr_left → Lq, lookup → Lr, getElem?_range → Ls, pairwise_cons → Lx, map_inj_right → Ly, take_zero → Lz, take_sublist → LA, append_assoc → LB, filter_cons_of_pos → LG, filter_cons_of_neg → LH, any_cons → LJ, range_succ → LN, map_nil → LO, filterMap_cons → LW, mem_filterMap → LX, getElem?_drop → LY, flatMap_cons → Ma, ext_getElem? → Mb, take_append_of_le_length → Mf, of_mem_zip → Mm, nodup_nil → Mp, mem_or_eq_of_mem_set → Mq, getLast?_eq_getElem? → Mr, length_erase_of_mem → Mt, map_take → Mx, map_drop → My
open List.Pairwise renaming nil → LC
open Nat renaming le_refl → IY, ne_of_lt → Jw, lt_of_lt_of_le → Jz, sub_self → JC, testBit_two_pow → JF, le_trans → JS, le_of_lt → JT, eq_of_testBit_eq → JV, testBit_or → J2, zero_le → Kc, lt_irrefl → Ke, zero_testBit → Kg, testBit_and → Kj, mod_eq_of_lt → Kk, pow_le_pow_right → Kw, ne_of_gt → Kz, lt_succ_self → KQ, testBit_lt_two_pow → KR, lt_succ_of_lt → K0, lt_pow_two_of_testBit → K3, min_eq_left → K7, le_succ → Ld, mod_self → Lh, and_zero → Li, le_add_right → Ll, not_lt_zero → LM, or_zero → LV, lt_trichotomy → L8, pow_succ → Md, testBit → Ml
open Nat.succ renaming inj → Mc
open Option renaming map_eq_some_iff → Jv, map_some → LL, isSome_iff_exists → Ms
open Option.some renaming inj → Js
open PySem renaming Spec → Jr, mem_of_lookup → Kl
open PySem.F renaming plainAttrs_list → JM, type_list_append → JO, slot_list_append → JP, slot_dict_setdefault → Mg, slot_dict_items → Mv, plainAttrs_dict → Mw
open PySem.W renaming Frag → IT, keepIn → Jd, nsIn → Jf, codeIn → Jh, fnOf → Ji, findIn → Jm, mg_of → Jp, mg_none_of → JN, mroIn → Kd, kia_one → Ki, hasDictIn → Kq, emptyDict → Kr, kitOne → Ks, instObj → KN, plainGet → KP, isFn → KW, callWith_K → K6, plainOver → Lc, looks_findIn → Lm, makesIn → Lp, excIn → LD, Looks → LF, lookIn → LQ, plainGet_of → LS, hideAll_get → LU, specialIn → L6, methodObj → L7, any_some → Me, takesIn → Mh, takerIn → Mi, OpenLaw → Mj, clsIn → Mu
set_option Elab.async false
set_option linter.all false
set_option maxRecDepth 100000
local macro_rules | `(tactic| omega) => `(tactic| first | assumption | lia | omega +splitDisjunctions)
namespace L2
open PySem PySem.Spec PyProof.Rows
abbrev Key:=Sum Int Str
def ud:Key->Value->Bool
 |.inl k,v=>Value.isInt k v
 |.inr x,v=>Value.isStrOf x v
def keyH(w:World):Key->Int
 |.inl k=>hashInt k
 |.inr x=>hashStr w x
theorem aR:∀{k:Key}{v:Value},ud k v=true->(∃ i t,k=Sum.inl i/\v=Value.int i t)∨(∃ x t,k=Sum.inr x/\v=Value.str x t)
 |.inl i,v,h=>by
  obtain⟨t,e⟩:=Value.isInt_shape (k:=i) (v:=v) h
  exact .inl ⟨i,t,rfl,e⟩
 |.inr x,v,h=>by
  obtain⟨t,e⟩:=Value.isStrOf_shape (x:=x) (v:=v) h
  exact .inr ⟨x,t,rfl,e⟩
theorem DD(i:Int)(t:Tok):ud (.inl i) (.int i t)=true:=by simp[ud,Value.isInt]
theorem DC(x:Str)(t:Tok):ud (.inr x) (.str x t)=true:=by simp[ud,Value.isStrOf]
theorem key_ll(a b:Int):decide ((Sum.inl a:Key)=Sum.inl b)=(a == b):=by
 by_cases e:a=b
 ·subst e;simp
 ·have h:¬ (Sum.inl a:Key)=Sum.inl b:=fun q=>e (Sum.inl.inj q)
  rw[decide_eq_false h]
  exact(beq_eq_false_iff_ne.mpr e).symm
theorem key_rr(a b:Str):decide ((Sum.inr a:Key)=Sum.inr b)=decide (a=b):=by
 by_cases e:a=b
 ·subst e;simp
 ·have h:¬ (Sum.inr a:Key)=Sum.inr b:=fun q=>e (Sum.inr.inj q)
  rw[decide_eq_false h,decide_eq_false e]
theorem key_lr(a:Int)(b:Str):decide ((Sum.inl a:Key)=Sum.inr b)=false:=decide_eq_false (fun q=>nomatch q)
theorem key_rl(a:Str)(b:Int):decide ((Sum.inr a:Key)=Sum.inl b)=false:=decide_eq_false (fun q=>nomatch q)
def bA(prog:Program)(w:World):PySem.KeyKind prog w Key where
 is:=ud
 hash:=keyH w
 inj:=fun v a b ha hb=>by
  rcases aR ha with⟨i,t,rfl,rfl⟩ | ⟨x,t,rfl,rfl⟩
  ·rcases aR hb with⟨j,u,rfl,e⟩ | ⟨y,u,rfl,e⟩
   ·injection e with e1 _;rw[e1]
   ·exact nomatch e
  ·rcases aR hb with⟨j,u,rfl,e⟩ | ⟨y,u,rfl,e⟩
   ·exact nomatch e
   ·injection e with e1 _;rw[e1]
 byValue:=fun k v h=>by
  rcases aR h with⟨i,t,rfl,rfl⟩ | ⟨x,t,rfl,rfl⟩<;>rfl
 pyHash:=fun hv h=>by
  rcases aR hv with⟨i,t,rfl,rfl⟩ | ⟨x,t,rfl,rfl⟩
  ·exact wpAny_pyHash_int h
  ·exact wpAny_pyHash_str h
 eqBool:=fun hu hv h=>by
  rcases aR hu with⟨i,t,rfl,rfl⟩ | ⟨x,t,rfl,rfl⟩
  ·rcases aR hv with⟨j,u,rfl,rfl⟩ | ⟨y,u,rfl,rfl⟩
   ·rw[key_ll]at h;exact wpAny_eqBool_int h
   ·rw[key_lr]at h;exact SeqAt.EqAt.int_str i t y u _ _ _ _ h
  ·rcases aR hv with⟨j,u,rfl,rfl⟩ | ⟨y,u,rfl,rfl⟩
   ·rw[key_rl]at h;exact SeqAt.EqAt.str_int x t j u _ _ _ _ h
   ·rw[key_rr]at h;exact wpAny_eqBool_str h
 «strs»:=fun k x t v h=>by
  rcases aR h with⟨i,u,rfl,e⟩ | ⟨y,u,rfl,e⟩
  ·exact nomatch e
  ·injection e with e1 _
   subst e1
   cases v<;>rfl
theorem yO(prog:Program)(w:World)(i:Int)(t:Tok):(bA prog w).is (.inl i) (.int i t)=true:=DD i t
theorem yN(prog:Program)(w:World)(x:Str)(t:Tok):(bA prog w).is (.inr x) (.str x t)=true:=DC x t
end L2
namespace L2
open PySem PySem.Spec PyProof.Rows
inductive V where
 |non | bl (b:Bool) | int (i:Int) | str (x:Str) | byt (b:Array UInt8) | flt (b:UInt64) | ref (a:Addr) | ty (n:String)
 deriving DecidableEq
def RelV:V->Value->Prop
 |.non,u=>u=Value.none
 |.bl b,u=>u=Value.bool b
 |.int i,u=>∃ t,u=Value.int i t
 |.str x,u=>∃ t,u=Value.str x t
 |.byt b,u=>∃ t,u=Value.bytes b t
 |.flt b,u=>∃ t,u=Value.float b t
 |.ref a,u=>u=Value.ref a
 |.ty n,u=>u=Value.type n
abbrev Vals:List V->List Value->Prop:=Paired RelV
theorem Vals.length{xs:List V}{us:List Value}(r:Vals xs us):xs.length=us.length:=Paired.length r
theorem Vals.get:∀{xs:List V}{us:List Value}{i:Nat}{x:V},Vals xs us->xs[i]?=some x->∃ u,us[i]?=some u/\RelV x u
 |_,_,_,_,.nil,e=>by simp at e
 |_,_,0,_,.cons r _,e=>by simp at e;subst e;exact⟨_,rfl,r⟩
 |_,_,i+1,x,.cons _ t,e=>by
  obtain⟨u,h1,h2⟩:=Vals.get (i:=i) (x:=x) t (by simpa using e)
  exact⟨u,by simpa using h1,h2⟩
theorem Vals.set{x:V}{u:Value}(r:RelV x u):∀{xs:List V}{us:List Value}(i:Nat),Vals xs us->Vals (xs.set i x) (us.set i u)
 |_,_,_,.nil=>.nil
 |_,_,0,.cons _ t=>.cons r t
 |_,_,i+1,.cons q t=>.cons q (Vals.set r i t)
theorem Vals.append:∀{xs ys:List V}{us ws:List Value},Vals xs us->Vals ys ws->Vals (xs++ys) (us++ws)
 |_,_,_,_,.nil,s=>s
 |_,_,_,_,.cons r t,s=>.cons r (Vals.append t s)
theorem Vals.take:∀{xs:List V}{us:List Value}(n:Nat),Vals xs us->Vals (xs.take n) (us.take n)
 |_,_,0,_=>.nil
 |_,_,_+1,.nil=>.nil
 |_,_,n+1,.cons r t=>.cons r (Vals.take n t)
theorem Vals.drop:∀{xs:List V}{us:List Value}(n:Nat),Vals xs us->Vals (xs.drop n) (us.drop n)
 |_,_,0,r=>r
 |_,_,_+1,.nil=>.nil
 |_,_,n+1,.cons _ t=>Vals.drop n t
def RelO:Option V->Option Value->Prop
 |some v,some u=>RelV v u
 |none,none=>True
 |_,_=>False
def KV{κ:Type}:List (κ×V)->List (κ×Value)->Prop:=Paired fun(p:κ×V) (q:κ×Value)=>p.1=q.1/\RelV p.2 q.2
def kV:Key->V
 |.inl i=>.int i
 |.inr x=>.str x
inductive HO where
  |lst (xs:List V)
  |tup (xs:List V)
  |dK (kvs:List (Key×V)) | dT (kvs:List (List Key×V))
  |set (S:Int->Bool) (n:Nat)
  |ins (C dx:Addr) (fs:List (Str×V))
  |own (x:Addr)
  |xd (fs:List (Str×V))
  |met (f x:Addr)
  |rng (lo hi:Int)
  |frz (o:Obj) (u:HO)
  |tbl (ps:Array Value)
  |ext (φ:Heap->Prop)
abbrev Hp:=Addr->Option HO
def upd(H:Hp)(a:Addr)(o:HO):Hp:=fun b=>if b=a then some o else H b
theorem ae{H:Hp}{a:Addr}{o:HO}:upd H a o a=some o:=by unfold upd;rw[if_pos rfl]
theorem ao{H:Hp}{a b:Addr}{o:HO}(h:b≠a):upd H a o b=H b:=by unfold upd;rw[if_neg h]
theorem Bp{H:Hp}{a b:Addr}{o u:HO}(h:H a=some o)(h':H b=some u)(d:o≠u):a≠b:=by
 intro e;subst e;rw[h]at h';exact d (Js h')
theorem az{H:Hp}{a b:Addr}{o:HO}(h:H a=some o)(h':H b=none):a≠b:=by
 intro e;subst e;rw[h]at h';cases h'
section
variable(P:Program)(w:World)
def br(H:Hp)(h:Heap)(a:Addr):HO->Prop
 |.lst xs=>xs.length<=sizeLine/\∃(its:List Value)(n:Nat),Vals xs its/\h.get? a=some { cls:=.type "list",data:=.seq its.toArray n }
 |.tup xs=>xs.length<=sizeLine/\∃ its:List Value,Vals xs its/\IsTup h a its.toArray
 |.dK kvs=>kvs.length<=sizeLine/\(a == sysModules)=false/\∃ vs,KV kvs vs/\h.DictOf (bA P w) a vs
 |.dT kvs=>kvs.length<=sizeLine/\(a == sysModules)=false/\∃ xs:List (List Key×Addr×Value),
   Paired (fun(p:List Key×V) (q:List Key×Addr×Value)=>p.1=q.1/\H q.2.1=some (.tup (p.1.map kV))/\RelV p.2 q.2.2) kvs xs /\
   ∃ o es ep,h.get? a=some o/\o.ExactDict/\o.data=.dict es ep/\es.toList=xs.map (entryOfKey (tupleKind (bA P w)))/\(xs.map (·.1)).Nodup
 |.set S n=>h.SetOf (intKind P w) a S n
 |.ins C dx fs=>H dx=some (.own a)/\fs.length<=1000/\dx≠a/\h.get? a=some (KN C dx) /\
   ∃ mA,h.Ns1 dx mA/\(∀ f,RelO (fs.lookup f) (mA f))/\PySem.Within mA (fs.map (·.1))
 |.own _=>∃ o,h.get? a=some o
 |.xd fs=>∃ mA,h.Ns1 a mA/\∀ f,RelO (fs.lookup f) (mA f)
 |.rng lo hi=>∃ t u v,h.get? a=some { cls:=.type "range",data:=.fields #[.int lo t,.int hi u,.int 1 v] }
 |.frz o u=>h.get? a=some o/\br H h a u
 |.tbl ps=>h.get? a=some { cls:=.none,data:=.fields ps }
 |.met f x=>h.get? a=some (L7 (.ref f) (.ref x))
 |.ext φ=>φ h/\(∃ o,h.get? a=some o)/\∀ h1 h2:Heap,φ h1->(∀ o,h1.get? a=some o->h2.get? a=some o)->φ h2
def HOk(H:Hp)(h:Heap):Prop:=∀ a o,H a=some o->br P w H h a o
end
section
variable{P:Program}{w:World}{H H':Hp}{h h':Heap}{a:Addr}{o:HO}
theorem br.lt(x:br P w H h a o):a<h.objs.size:=by
 cases o with
 |lst xs=>obtain⟨_,_,_,_,e⟩:=x;exact Heap.lt_size e
 |tup xs=>obtain⟨_,_,_,p⟩:=x;exact p.lt
 |dK kvs=>obtain⟨_,_,_,_,o,_,_,e,_⟩:=x;exact Heap.lt_size e
 |dT kvs=>obtain⟨_,_,_,_,o,_,_,e,_⟩:=x;exact Heap.lt_size e
 |set S n=>obtain⟨o,_,_,_,e,_⟩:=x;exact Heap.lt_size e
 |ins C dx fs=>obtain⟨_,_,_,e,_⟩:=x;exact Heap.lt_size e
 |own y=>obtain⟨_,e⟩:=x;exact Heap.lt_size e
 |xd fs=>obtain⟨_,⟨_,_,_,e,_⟩,_⟩:=x;exact Heap.lt_size e
 |rng lo hi=>obtain⟨_,_,_,e⟩:=x;exact Heap.lt_size e
 |frz ob u=>obtain⟨e,_⟩:=x;exact Heap.lt_size e
 |tbl ps=>exact Heap.lt_size (show h.get? a=some _ from x)
 |met f y=>exact Heap.lt_size (show h.get? a=some _ from x)
 |ext φ=>obtain⟨_,⟨_,e⟩,_⟩:=x;exact Heap.lt_size e
theorem Paired.mapP{α β:Type}{F G:α->β->Prop}:∀{l₁:List α}{l₂:List β},Paired F l₁ l₂->(∀ a b,F a b->G a b)->Paired G l₁ l₂
 |_,_,.nil,_=>.nil
 |_,_,.cons r t,f=>.cons (f _ _ r) (Paired.mapP t f)
theorem br.stay(x:br P w H h a o)(k:∀ b u,(b=a∨H b=some (.own a))->h.get? b=some u->h'.get? b=some u)
  (ho:∀ b,H b=some (.own a)->H' b=some (.own a)) (ht:∀ b xs,H b=some (.tup xs)->H' b=some (.tup xs)):br P w H' h' a o:=by
 induction o with
 |lst xs=>obtain⟨z,its,n,r,e⟩:=x;exact⟨z,its,n,r,k _ _ (.inl rfl) e⟩
 |tup xs=>obtain⟨z,its,r,ob,e,c⟩:=x;exact⟨z,its,r,ob,k _ _ (.inl rfl) e,c⟩
 |dK kvs=>obtain⟨z,y,vs,r,ob,es,ep,e,c⟩:=x;exact⟨z,y,vs,r,ob,es,ep,k _ _ (.inl rfl) e,c⟩
 |dT kvs =>
  obtain⟨z,y,xs,r,ob,es,ep,e,c⟩:=x
  exact⟨z,y,xs,Paired.mapP r fun p q z=>⟨z.1,ht _ _ z.2.1,z.2.2⟩,ob,es,ep,k _ _ (.inl rfl) e,c⟩
 |set S n=>obtain⟨ob,es,ep,t,e,c⟩:=x;exact⟨ob,es,ep,t,k _ _ (.inl rfl) e,c⟩
 |ins C dx fs =>
  obtain⟨d,z,ne,e,mA,⟨od,es,ep,e2,c⟩,r⟩:=x
  exact⟨ho _ d,z,ne,k _ _ (.inl rfl) e,mA,⟨od,es,ep,k _ _ (.inr d) e2,c⟩,r⟩
 |own y=>obtain⟨ob,e⟩:=x;exact⟨ob,k _ _ (.inl rfl) e⟩
 |xd fs=>obtain⟨mA,⟨od,es,ep,e,c⟩,r⟩:=x;exact⟨mA,⟨od,es,ep,k _ _ (.inl rfl) e,c⟩,r⟩
 |rng lo hi=>obtain⟨t,u,v,e⟩:=x;exact⟨t,u,v,k _ _ (.inl rfl) e⟩
 |frz ob u ih=>obtain⟨e,q⟩:=x;exact⟨k _ _ (.inl rfl) e,ih q⟩
 |tbl ps =>
  have e:h.get? a=some { cls:=.none,data:=.fields ps }:=x
  show h'.get? a=some { cls:=.none,data:=.fields ps }
  exact k a _ (.inl rfl) e
 |met f y =>
  have e:h.get? a=some (L7 (.ref f) (.ref y)):=x
  show h'.get? a=some (L7 (.ref f) (.ref y))
  exact k a _ (.inl rfl) e
 |ext φ=>obtain⟨p,⟨o,e⟩,st⟩:=x;exact⟨st _ _ p fun o q=>k _ _ (.inl rfl) q,⟨o,k _ _ (.inl rfl) e⟩,st⟩
theorem HOk.lt(x:HOk P w H h)(e:H a=some o):a<h.objs.size:=(x a o e).lt
theorem HOk.fresh(x:HOk P w H h)(e:h.objs.size<=a):H a=none:=by
 cases q:H a with
 |none=>rfl
 |some u=>exact absurd (Jz (x.lt q) e) (Ke _)
theorem HOk.kept(x:HOk P w H h)(k:∀ b u,h.get? b=some u->h'.get? b=some u):HOk P w H h':=fun a o e =>
 (x a o e).stay (fun b u _ q=>k b u q) (fun _ q=>q) fun _ _ q=>q
theorem HOk.laid(x:HOk P w H h)(k:∀ b u,h.get? b=some u->h'.get? b=some u)(hp:h.objs.size<=a)(new:br P w (upd H a o) h' a o):HOk P w (upd H a o) h':=fun b u e=>by
 have hn:=x.fresh hp
 by_cases hb:b=a
 ·subst hb;rw[ae]at e;cases e;exact new
 ·rw[ao hb]at e
  exact(x b u e).stay (fun c v _ q=>k c v q) (fun c q=>by rw[ao (az q hn)];exact q) fun c xs q=>by rw[ao (az q hn)];exact q
end
def Rd(H:Hp)(a:Addr)(u:HO):Prop:=H a=some u∨∃ o,H a=some (.frz o u)
theorem Rd.ok{P:Program}{w:World}{H:Hp}{h:Heap}{a:Addr}{u:HO}(r:Rd H a u)(x:HOk P w H h):br P w H h a u:=by
 rcases r with r | ⟨o,r⟩
 ·exact x a u r
 ·obtain⟨_,q⟩:=x a _ r
  exact q
def Mut:Option HO->Prop
 |some (.lst _)=>True
 |some (.dK _)=>True
 |some (.dT _)=>True
 |some (.set _ _)=>True
 |some (.ins _ _ _)=>True
 |some (.ext _)=>True
 |_=>False
section
variable{P:Program}{w:World}{H:Hp}{h h':Heap}{x e:Addr}{o':HO}
theorem HOk.write(ok:HOk P w H h)(mu:Mut (H x))(he:e=x∨H e=some (.own x))(k:∀ b u,b≠e->h.get? b=some u->h'.get? b=some u)(heo:∃ u,h'.get? e=some u)
  (new:br P w (upd H x o') h' x o'):HOk P w (upd H x o') h':=fun b u q=>by
 have nown:∀ c y,H c=some (.own y)->c≠x:=fun c y r z=>by subst z;rw[r]at mu;exact mu
 have ntup:∀ c xs,H c=some (.tup xs)->c≠x:=fun c xs r z=>by subst z;rw[r]at mu;exact mu
 by_cases hb:b=x
 ·subst hb;rw[ae]at q;cases q;exact new
 ·rw[ao hb]at q
  by_cases hbe:b=e
  ·have q':H b=some (.own x):=by
    rcases he with z | z
    ·exact absurd (hbe.trans z) hb
    ·rw[hbe];exact z
   rw[q]at q';cases q'
   obtain⟨v,hv⟩:=heo
   exact⟨v,by rw[hbe];exact hv⟩
  ·refine(ok b u q).stay (fun c v hc r=>k c v ?_ r) (fun c r=>by rw[ao (nown c b r)];exact r) fun c xs r=>by rw[ao (ntup c xs r)];exact r
   rcases hc with rfl | hc
   ·exact hbe
   ·rintro rfl
    rcases he with z | z
    ·exact nown c b hc z
    ·rw[hc]at z;cases z;exact hb rfl
end
structure Un(fs ex:List Addr)(H H':Hp)(h h':Heap):Prop where
 keep:∀ b o,h.get? b=some o->H b=none->b∉fs->b∉ex->h'.get? b=some o
 slot:∀ b o,h.get? b=some o->H b=none->b∈fs->b∉ex->∃ sl,h'.get? b=some { o with slots:=sl }
 free:∀ b o,h.get? b=some o->H b=none->b∉ex->H' b=none
 there:∀ b o,h.get? b=some o->b∉ex->∃ o',h'.get? b=some o'
 tups:∀ b xs,H b=some (.tup xs)->H' b=some (.tup xs)
 frzs:∀ b o u,H b=some (.frz o u)->H' b=some (.frz o u)
 tbls:∀ b ps,H b=some (.tbl ps)->∃ more,H' b=some (.tbl (ps++more))
section
variable{fs fs' ex ex':List Addr}{H H1 H2:Hp}{h h1 h2 h':Heap}{a x e:Addr}{o:HO}
theorem Un.any(u:Un fs ex H H1 h h1){b:Addr}{ob:Obj}(q:h.get? b=some ob)(n:H b=none)(hx:b∉ex):∃ sl,h1.get? b=some { ob with slots:=sl }:=by
 by_cases hb:b∈fs
 ·exact u.slot b ob q n hb hx
 ·exact⟨ob.slots,u.keep b ob q n hb hx⟩
theorem Un.kept(k:∀ b u,h.get? b=some u->h'.get? b=some u):Un fs ex H H h h' :=
 ⟨fun b ob q _ _ _=>k b ob q,fun b ob q _ _ _=>⟨ob.slots,k b ob q⟩,fun _ _ _ n _=>n,fun b ob q _=>⟨ob,k b ob q⟩,fun _ _ q=>q,fun _ _ _ q=>q,fun _ ps q=>⟨#[],by rw[q];simp⟩⟩
theorem Un.refl:Un fs ex H H h h:=Un.kept fun _ _ q=>q
theorem Un.laid(k:∀ b u,h.get? b=some u->h'.get? b=some u)(hp:h.objs.size<=a)(hn:H a=none):Un fs ex H (upd H a o) h h' where
 keep:=fun b u q _ _ _=>k b u q
 slot:=fun b u q _ _ _=>⟨u.slots,k b u q⟩
 free:=fun b u q n _=>by rw[ao (Jw (Jz (Heap.lt_size q) hp))];exact n
 there:=fun b u q _=>⟨u,k b u q⟩
 tups:=fun b xs q=>by rw[ao (az q hn)];exact q
 frzs:=fun b u xs q=>by rw[ao (az q hn)];exact q
 tbls:=fun b ps q=>⟨#[],by rw[ao (az q hn),q];simp⟩
theorem Un.write(mu:Mut (H x))(he:e=x∨H e=some (.own x))(k:∀ b u,b≠e->h.get? b=some u->h'.get? b=some u)(heo:∃ u,h'.get? e=some u):Un fs ex H (upd H x o) h h':=by
 have hx:∀ b,H b=none->b≠x:=fun b n z=>by subst z;rw[n]at mu;exact mu
 have hb:∀ b,H b=none->b≠e:=fun b n z=>by
  subst z
  rcases he with r | r
  ·exact hx b n r
  ·rw[n]at r;cases r
 have hm:∀ b u,H b=some u->¬ Mut (some u)->b≠x:=fun b u q nm z=>by subst z;rw[q]at mu;exact nm mu
 refine⟨fun b u q n _ _=>k b u (hb b n) q,fun b u q n _ _=>⟨u.slots,k b u (hb b n) q⟩,fun b u q n _=>by rw[ao (hx b n)];exact n,fun b u q _=>?_,
  fun b xs q=>by rw[ao (hm b _ q fun z=>z)];exact q,fun b u xs q=>by rw[ao (hm b _ q fun z=>z)];exact q,fun b ps q=>⟨#[],by rw[ao (hm b _ q fun z=>z),q];simp⟩⟩
 by_cases hbe:b=e
 ·subst hbe;exact heo
 ·exact⟨u,k b u hbe q⟩
end
def trk(h:Heap)(H:Hp):List Addr:=(Ju h.objs.size).filter fun a=>(H a).isSome
def hidT(h:Heap)(H:Hp):Heap:=PySem.W.hideAll h (trk h H)
theorem DT(h:Heap)(H:Hp):(hidT h H).objs.size=h.objs.size:=PySem.W.hideAll_size _ _
theorem FW{h:Heap}{H:Hp}{b:Addr}{o:Obj}(e:h.get? b=some o)(n:H b=none):(hidT h H).get? b=some o :=
 LU _ e fun hm=>by
  have q:(H b).isSome=true:=(JZ.mp hm).2
  rw[n]at q;simp at q
theorem HY{h:Heap}{H:Hp}{b:Addr}{o:Obj}(e:(hidT h H).get? b=some o):h.get? b=some o/\H b=none:=by
 have e':h.get? b=some o:=PySem.W.of_hideAll (trk h H) e
 refine⟨e',?_⟩
 cases q:H b with
 |none=>rfl
 |some x =>
  have hm:b∈trk h H:=JZ.mpr ⟨Jx.mpr (Heap.lt_size e'),by simp[q]⟩
  have z:(hidT h H).get? b=none:=PySem.W.hideAll_none (trk h H) hm
  rw[z]at e;cases e
end L2
namespace L2
open PySem PySem.Spec PyProof.Rows
structure Mod(K:IT)(mg:Str->Option Value)(base:Heap):Prop where
 kin:K.In base
 glob:base.Ns mainGlobals mg
 blt:∃ mb,base.Ns builtinsNs mb/\∀ x:Str,x≠"__name__"->mb x=bootBuiltins x
 nolimit:base.NoLimit
structure Cx where
 prog:Program
 w:World
 K:IT
 mg:Str->Option Value
 base:Heap
 A:Around
 N:List Str
 s₀:Shared
 H₀:Hp
 env:Env
 outer:List Env
 stack:List Env
 ex:List Addr
 fn:Str->Bool
 calm:Bool
 pn:List (Addr×Obj)
 xe:Value->Shared->Prop
def frs(l:List Env):List Addr:=l.filterMap (·.frame)
abbrev Cx.fs(X:Cx):List Addr:=frs X.outer
def Vis(sc:Scope)(x:Str):Prop:=sc.names.lookup x=some .local∨sc.names.lookup x=some .cell∨sc.names.lookup x=some .free
def Loc(sc:Scope)(x:Str):Prop:=sc.names.lookup x=some .local∨sc.names.lookup x=some .cell
def Look(env:Env)(h:Heap)(m:Str->Option Value)(x:Str)(u:Value):Prop :=
 (env.kindOf x=some .local/\m x=some u)∨((env.kindOf x=some .cell∨env.kindOf x=some .free)/\∃ c,env.cells.lookup x=some c/\h.IsCell c (some u))
structure Cx.Ok(X:Cx):Prop where
 mod:Mod X.K X.mg X.base
 kind:X.env.scope.kind=.function
 glob:X.env.globals=mainGlobals
 blt:X.env.builtins=builtinsNs
 above:X.s₀.heap.objs.size<=X.env.locals
 inj:∀ x y c,X.env.cells.lookup x=some c->X.env.cells.lookup y=some c->x=y
 has:∀ x,(X.env.kindOf x=some .cell∨X.env.kindOf x=some .free)->∃ c,X.env.cells.lookup x=some c
 cab:∀ x c,X.fn x=true->X.env.cells.lookup x=some c->X.s₀.heap.objs.size<=c
 hd:X.calm=true->X.A.handled=none
 frames:X.A.frames=some X.stack
 stk:X.stack=X.outer∨(X.stack=X.env::X.outer/\X.env.frame=some X.env.locals)
 exf:∀ b∈X.ex,b≠X.env.locals/\∀ x c,X.env.cells.lookup x=some c->c≠b
 bs:∀ b o,X.base.get? b=some o->X.s₀.heap.get? b=some o/\X.H₀ b=none
 bsz:X.base.objs.size<=X.s₀.heap.objs.size
 noex:∀ b o,X.base.get? b=some o->b∉X.ex
 exfs:∀ b∈X.ex,b∉X.fs
 funs:X.s₀.heap.FunFrames X.base X.outer
 frf:∀ b∈X.fs,X.H₀ b=none
structure Inv(X:Cx)(pins:List (Addr×Obj))(σ:List (Option V))(H:Hp)(s:Shared):Prop where
 ok:X.Ok
 os:s.os=X.s₀.os
 bare:AllBare s.gens
 base:Un X.fs X.ex X.H₀ H X.s₀.heap s.heap
 loc:∃ m,s.heap.Ns X.env.locals m/\∀(i:Nat)(x:Str)(v:V),X.N[i]?=some x->σ[i]?=some (some v)->Vis X.env.scope x->∃ u,RelV v u/\Look X.env s.heap m x u
 cell:∀ x c,X.env.cells.lookup x=some c->∃ v,s.heap.IsCell c v
 free:H X.env.locals=none
 freeC:∀ x c,X.env.cells.lookup x=some c->H c=none
 pin:∀ p∈X.pn++pins,s.heap.get? p.1=some p.2/\H p.1=none/\p.1≠X.env.locals/\p.1∉X.fs/\∀ v,p.2.data≠.cell v
 hok:HOk X.prog X.w H s.heap
 len:σ.length=X.N.length
section
variable{X:Cx}{pins:List (Addr×Obj)}{σ:List (Option V)}{H H':Hp}{s:Shared}{h':Heap}
theorem Cx.Ok.nofr(ok:X.Ok){b:Addr}{o:Obj}(e:X.base.get? b=some o):b∉X.fs:=fun hb=>by
 have:=(ok.funs.mem hb).1
 rw[e]at this;cases this
theorem Inv.bs(I:Inv X pins σ H s):∀ b o,X.base.get? b=some o->s.heap.get? b=some o/\H b=none:=fun b o e =>
 ⟨I.base.keep b o (I.ok.bs b o e).1 (I.ok.bs b o e).2 (I.ok.nofr e) (I.ok.noex b o e),I.base.free b o (I.ok.bs b o e).1 (I.ok.bs b o e).2 (I.ok.noex b o e)⟩
theorem Inv.bk(I:Inv X pins σ H s):∀ b o,X.base.get? b=some o->s.heap.get? b=some o:=fun b o e=>(I.bs b o e).1
theorem Inv.mod(I:Inv X pins σ H s):Mod X.K X.mg X.base:=I.ok.mod
theorem Inv.kIn(I:Inv X pins σ H s):X.K.In s.heap:=I.ok.mod.kin.keeps I.bk
theorem Inv.lt(I:Inv X pins σ H s):X.env.locals<s.heap.objs.size:=let ⟨_,hn,_⟩:=I.loc;hn.lt
theorem Inv.sz(I:Inv X pins σ H s):X.s₀.heap.objs.size<=s.heap.objs.size:=JS I.ok.above (JT I.lt)
theorem Inv.nofs(I:Inv X pins σ H s){a:Addr}(h:s.heap.objs.size<=a):a∉X.fs:=fun hb=>by
 obtain⟨_,o,ho,_⟩:=I.ok.funs.mem hb
 exact absurd (Jz (Heap.lt_size ho) (JS I.sz h)) (Ke _)
theorem Inv.cne(I:Inv X pins σ H s):∀ x c,X.env.cells.lookup x=some c->c≠X.env.locals:=fun x c e z=>by
 obtain⟨v,o,ho,hd⟩:=I.cell x c e
 obtain⟨m,⟨o',es,ep,ho',hd',_⟩,_⟩:=I.loc
 rw[z,ho']at ho;cases ho;rw[hd']at hd;cases hd
theorem Inv.funs(I:Inv X pins σ H s):s.heap.FunFrames X.base X.outer:=by
 have all:∀(l:List Env),(∀ b∈frs l,b∈X.fs)->X.s₀.heap.FunFrames X.base l->s.heap.FunFrames X.base l:=by
  intro l
  induction l with
  |nil=>intro _ _;trivial
  |cons env r ih =>
   intro hs hl
   obtain⟨hk,⟨L,o,hf,hn,ho,hd⟩,hr⟩:=hl
   have hL:L∈X.fs:=hs L (by unfold frs;rw[LW,hf];exact Jn)
   obtain⟨sl,e⟩:=I.base.slot L o ho (I.ok.frf L hL) hL fun z=>I.ok.exfs L z hL
   exact⟨hk,⟨L,_,hf,hn,e,hd⟩,ih (fun b hb=>hs b (by unfold frs;rw[LW,hf];exact Jk _ hb)) hr⟩
 exact all X.outer (fun _ hb=>hb) I.ok.funs
theorem Inv.stack(I:Inv X pins σ H s):s.heap.FunFrames X.base X.stack:=by
 rcases I.ok.stk with e | ⟨e,hf⟩
 ·rw[e];exact I.funs
 ·rw[e]
  obtain⟨m,hn,_⟩:=I.loc
  refine .cons (by rw[I.ok.kind];decide) hf hn ?_ I.funs
  exact Heap.get?_none_of_le (JS I.ok.bsz I.ok.above)
theorem Inv.stkSub(I:Inv X pins σ H s):∀ b∈frs X.stack,b∈X.env.locals::X.fs:=fun b hb=>by
 rcases I.ok.stk with e | ⟨e,hf⟩
 ·rw[e]at hb;exact Jk _ hb
 ·rw[e]at hb
  unfold frs at hb
  rw[LW,hf]at hb
  exact hb
theorem Inv.stkFree(I:Inv X pins σ H s):∀ b∈frs X.stack,H b=none:=fun b hb=>by
 rcases Ja.mp (I.stkSub b hb)with e | hb
 ·rw[e];exact I.free
 ·obtain⟨_,o,ho,_⟩:=I.ok.funs.mem hb
  exact I.base.free b o ho (I.ok.frf b hb) fun z=>I.ok.exfs b z hb
theorem Inv.step{g':Array GenState}{t':Nat}{d':Drawn}{ch:List Addr}(I:Inv X pins σ H s)
  (hch:∀ b∈ch,(b∈X.ex∨X.s₀.heap.objs.size<=b)/\b≠X.env.locals/\(∀ x c,X.env.cells.lookup x=some c->c≠b)/\∀ p∈X.pn++pins,p.1≠b)
  (keep:∀ b o,b≠X.env.locals->b∉X.fs->b∉ch->s.heap.get? b=some o->H b=none->h'.get? b=some o)
  (slot:∀ b o,b≠X.env.locals->b∈X.fs->b∉ch->s.heap.get? b=some o->H b=none->∃ sl,h'.get? b=some { o with slots:=sl }) (free:∀ b o,b∉ch->s.heap.get? b=some o->H b=none->H' b=none)
  (there:∀ b o,b∉ch->s.heap.get? b=some o->∃ o',h'.get? b=some o')
  (tups:∀ b xs,H b=some (.tup xs)->H' b=some (.tup xs)) (frzs:∀ b o u,H b=some (.frz o u)->H' b=some (.frz o u)) (tbls:∀ b ps,H b=some (.tbl ps)->∃ more,H' b=some (.tbl (ps++more)))
  (ns:∀ m,s.heap.Ns X.env.locals m->h'.Ns X.env.locals m) (hok:HOk X.prog X.w H' h') (hg:AllBare g') :
  Inv X pins σ H' { s with heap:=h',gens:=g',drawn:=d',toks:=t' }:=by
 have neL:∀ b o,X.s₀.heap.get? b=some o->b≠X.env.locals:=fun b o e=>Jw (Jz (Heap.lt_size e) I.ok.above)
 have neC:∀ b o,X.s₀.heap.get? b=some o->b∉X.ex->b∉ch:=fun b o e hx hb=>by
  rcases(hch b hb).1 with z | z
  ·exact hx z
  ·exact absurd (Jz (Heap.lt_size e) z) (Ke _)
 have cellK:∀ x c,X.env.cells.lookup x=some c->∀ v,s.heap.IsCell c v->h'.IsCell c v:=fun x c e v ⟨o,ho,hd⟩=>by
  have nch:c∉ch:=fun z=>(hch c z).2.2.1 x c e rfl
  by_cases hc:c∈X.fs
  ·obtain⟨sl,q⟩:=slot c o (I.cne x c e) hc nch ho (I.freeC x c e)
   exact⟨_,q,hd⟩
  ·exact⟨o,keep c o (I.cne x c e) hc nch ho (I.freeC x c e),hd⟩
 refine⟨I.ok,I.os,hg,⟨fun b o e n hb hx=>?_,fun b o e n hb hx=>?_,fun b o e n hx=>?_,fun b o e hx=>?_,fun b xs e=>tups b xs (I.base.tups b xs e),fun b o xs e=>frzs b o xs (I.base.frzs b o xs e),fun b ps e=>?_⟩,?_,fun x c e=>?_,?_,fun x c e=>?_,fun p hp=>?_,hok,I.len⟩
 ·exact keep b o (neL b o e) hb (neC b o e hx) (I.base.keep b o e n hb hx) (I.base.free b o e n hx)
 ·obtain⟨sl,e1⟩:=I.base.slot b o e n hb hx
  obtain⟨sl',e2⟩:=slot b _ (neL b o e) hb (neC b o e hx) e1 (I.base.free b o e n hx)
  exact⟨sl',e2⟩
 ·obtain⟨o',e1⟩:=I.base.there b o e hx
  exact free b o' (neC b o e hx) e1 (I.base.free b o e n hx)
 ·obtain⟨o',e1⟩:=I.base.there b o e hx
  exact there b o' (neC b o e hx) e1
 ·obtain⟨m1,e1⟩:=I.base.tbls b ps e
  obtain⟨m2,e2⟩:=tbls b _ e1
  exact⟨m1++m2,by rw[e2,Array.append_assoc]⟩
 ·obtain⟨m,hn,hl⟩:=I.loc
  refine⟨m,ns m hn,fun i x v e1 e2 e3=>?_⟩
  obtain⟨u,r,l⟩:=hl i x v e1 e2 e3
  refine⟨u,r,?_⟩
  rcases l with l | ⟨k,c,e,z⟩
  ·exact .inl l
  ·exact .inr ⟨k,c,e,cellK x c e _ z⟩
 ·obtain⟨v,z⟩:=I.cell x c e
  exact⟨v,cellK x c e v z⟩
 ·obtain⟨m,⟨o,_,_,ho,_⟩,_⟩:=I.loc
  exact free _ o (fun z=>(hch _ z).2.1 rfl) ho I.free
 ·obtain⟨v,o,ho,hd⟩:=I.cell x c e
  exact free c o (fun z=>(hch c z).2.2.1 x c e rfl) ho (I.freeC x c e)
 ·obtain⟨e,n,ne,nf,d⟩:=I.pin p hp
  have nch:p.1∉ch:=fun z=>(hch p.1 z).2.2.2 p hp rfl
  exact⟨keep p.1 p.2 ne nf nch e n,free p.1 p.2 nch e n,ne,nf,d⟩
theorem Inv.un{t':Nat}(I:Inv X pins σ H s)(u:Un X.fs [] H H' s.heap h')(hok:HOk X.prog X.w H' h'):Inv X pins σ H' { s with heap:=h',toks:=t' }:=by
 obtain⟨m,⟨o,es,ep,ho,r⟩,_⟩:=id I.loc
 obtain⟨sl,hL⟩:=u.any ho I.free (by simp)
 exact I.step (g':=s.gens) (d':=s.drawn) (ch:=[]) (fun _ z=>nomatch z) (fun b o _ hb _ e n=>u.keep b o e n hb (by simp)) (fun b o _ hb _ e n=>u.slot b o e n hb (by simp)) (fun b o _ e n=>u.free b o e n (by simp)) (fun b o _ e=>u.there b o e (by simp)) u.tups u.frzs u.tbls (fun m' hm=>by
  obtain⟨o',es',ep',ho',r'⟩:=hm
  rw[ho]at ho';cases ho'
  exact⟨_,es',ep',hL,r'⟩) hok I.bare
theorem Inv.call{g':Array GenState}{t':Nat}{d':Drawn}{ch:List Addr}(I:Inv X pins σ H s)(u:Un (frs X.stack) ch H H' s.heap h')(hok:HOk X.prog X.w H' h')(hg:AllBare g')
  (hch:∀ b∈ch,(b∈X.ex∨X.s₀.heap.objs.size<=b)/\b≠X.env.locals/\(∀ x c,X.env.cells.lookup x=some c->c≠b)/\∀ p∈X.pn++pins,p.1≠b) :
  Inv X pins σ H' { s with heap:=h',gens:=g',drawn:=d',toks:=t' }:=by
 obtain⟨m,⟨o,es,ep,ho,r⟩,_⟩:=id I.loc
 obtain⟨sl,hL⟩:=u.any ho I.free fun z=>(hch _ z).2.1 rfl
 exact I.step (ch:=ch) hch (fun b o hL hb hc e n=>u.keep b o e n (fun z=>(Ja.mp (I.stkSub b z)).elim hL hb) hc) (fun b o _ _ hc e n=>u.any e n hc) (fun b o hc e n=>u.free b o e n hc) (fun b o hc e=>u.there b o e hc) u.tups u.frzs u.tbls (fun m' hm=>by
  obtain⟨o',es',ep',ho',r'⟩:=hm
  rw[ho]at ho';cases ho'
  exact⟨_,es',ep',hL,r'⟩) hok hg
theorem Inv.turned{t':Nat}{it:Addr}(I:Inv X pins σ H s)(k:∀ b o,b≠it->s.heap.get? b=some o->h'.get? b=some o)(hn:H it=none)(hL:it≠X.env.locals)
  (h1:it∈X.ex∨X.s₀.heap.objs.size<=it) (h2:∀ x c,X.env.cells.lookup x=some c->c≠it) (h3:∀ p∈X.pn++pins,p.1≠it):Inv X pins σ H { s with heap:=h',toks:=t' }:=by
 have nit:∀ b u,H b=some u->b≠it:=fun b u e z=>by rw[z,hn]at e;cases e
 refine I.step (g':=s.gens) (d':=s.drawn) (ch:=[it]) (fun b hb=>?_) (fun b o _ _ hc e _=>k b o (fun z=>hc (by simp[z])) e) (fun b o _ _ hc e _=>⟨o.slots,k b o (fun z=>hc (by simp[z])) e⟩) (fun _ _ _ _ n=>n)
  (fun b o hc e=>⟨o,k b o (fun z=>hc (by simp[z])) e⟩) (fun _ _ e=>e) (fun _ _ _ e=>e) (fun b ps e=>⟨#[],by rw[e];simp⟩) (fun m hm=>?_) (fun b u e=>?_) I.bare
 ·have e:b=it:=by simpa using hb
  subst e
  exact⟨h1,hL,h2,h3⟩
 ·obtain⟨o,es,ep,ho,r⟩:=hm
  exact⟨o,es,ep,k _ o (Ne.symm hL) ho,r⟩
 ·refine(I.hok b u e).stay (fun c v hc q=>k c v ?_ q) (fun _ q=>q) fun _ _ q=>q
  rcases hc with z | z
  ·rw[z];exact nit b u e
  ·exact nit c _ z
theorem Inv.tok(I:Inv X pins σ H s)(t:Nat):Inv X pins σ H { s with toks:=t }:=I.un (h':=s.heap) (t':=t) Un.refl I.hok
theorem Inv.kept{t':Nat}(I:Inv X pins σ H s)(k:∀ b u,s.heap.get? b=some u->h'.get? b=some u):Inv X pins σ H { s with heap:=h',toks:=t' }:=I.un (Un.kept k) (I.hok.kept k)
theorem Inv.laid{a:Addr}{o:HO}{t':Nat}(I:Inv X pins σ H s)(k:∀ b u,s.heap.get? b=some u->h'.get? b=some u)(hp:s.heap.objs.size<=a)(new:br X.prog X.w (upd H a o) h' a o) :
  Inv X pins σ (upd H a o) { s with heap:=h',toks:=t' }:=I.un (Un.laid k hp (I.hok.fresh hp)) (I.hok.laid k hp new)
theorem Inv.write{x e:Addr}{o:HO}{t':Nat}(I:Inv X pins σ H s)(mu:Mut (H x))(he:e=x∨H e=some (.own x))(k:∀ b u,b≠e->s.heap.get? b=some u->h'.get? b=some u)(heo:∃ u,h'.get? e=some u)
  (new:br X.prog X.w (upd H x o) h' x o):Inv X pins σ (upd H x o) { s with heap:=h',toks:=t' }:=I.un (Un.write mu he k heo) (I.hok.write mu he k heo new)
theorem Inv.weak{σ':List (Option V)}(I:Inv X pins σ H s)(hl:σ'.length=σ.length)(w:∀ (i:Nat) v,σ'[i]?=some (some v)->σ[i]?=some (some v)):Inv X pins σ' H s :=
 ⟨I.ok,I.os,I.bare,I.base,let ⟨m,hn,hl'⟩:=I.loc;⟨m,hn,fun i x v e1 e2 e3=>hl' i x v e1 (w i v e2) e3⟩,I.cell,I.free,I.freeC,I.pin,I.hok,hl.trans I.len⟩
theorem Inv.pins_of{pins':List (Addr×Obj)}(I:Inv X pins σ H s)(h:∀ p∈pins',s.heap.get? p.1=some p.2/\H p.1=none/\p.1≠X.env.locals/\p.1∉X.fs/\∀ v,p.2.data≠.cell v):Inv X pins' σ H s :=
 ⟨I.ok,I.os,I.bare,I.base,I.loc,I.cell,I.free,I.freeC,fun p hp=>(Jl.mp hp).elim (fun z=>I.pin p (JG _ z)) (h p),I.hok,I.len⟩
theorem tU{N:List Str}(hN:N.Nodup){i j:Nat}{x:Str}(a:N[i]?=some x)(b:N[j]?=some x):i=j:=by
 obtain⟨h1,e1⟩:=IS.mp a
 obtain⟨h2,e2⟩:=IS.mp b
 exact(List.getElem_inj hN).mp (e1.trans e2.symm)
theorem Cp{M:Model}{A:Around}{E:Value->Shared->Prop}{i:Nat}{x:Str}{v:V}{u:Value}{Q:Unit->Shared->Prop}(I:Inv X pins σ H s)(hN:X.N.Nodup)(hi:X.N[i]?=some x)(hx:Loc X.env.scope x)(r:RelV v u)
  (h:∀ s',Inv X pins (σ.set i (some v)) H s'->(∃ a,Heap.SameBut a s.heap s'.heap/\(a=X.env.locals∨X.env.cells.lookup x=some a))->Q () s') (hf:X.fn x=true∨X.env.scope.names.lookup x=some .local:=by first | exact .inl rfl | exact .inr rfl | assumption):wpAny M A (storeName X.env x u) Q E s:=by
 obtain⟨m,hn,hl⟩:=id I.loc
 have hcls:(X.env.scope.kind == .class||(X.env.scope.kind == .module&&X.env.locals != X.env.globals))=false:=by rw[I.ok.kind];rfl
 have hiσ:i<σ.length:=by rw[I.len];exact(IS.mp hi).1
 have cne:=I.cne
 have tracked:∀{a:Addr}{h':Heap},(∃ o,s.heap.get? a=some o/\H a=none)->Heap.SameBut a s.heap h'->HOk X.prog X.w H h':=fun{a h'} ha hs b ob e=>by
  obtain⟨_,_,hfree⟩:=ha
  refine(I.hok b ob e).stay (fun c w' hc q=>(hs.2 c ?_).trans q) (fun _ q=>q) fun _ _ q=>q
  rintro rfl
  rcases hc with rfl | hc
  ·rw[hfree]at e;cases e
  ·rw[hfree]at hc;cases hc
 rcases hx with hk | hk
 ·refine wpAny_storeName_local hk hn (fun h' hn' hs=>?_) hcls
  obtain⟨oL,_,_,hoL,_⟩:=id hn
  refine h _ ⟨I.ok,I.os,I.bare,⟨fun b o e n hb hx=>?_,fun b o e n hb hx=>?_,I.base.free,fun b o e hx=>?_,I.base.tups,I.base.frzs,I.base.tbls⟩,⟨_,hn',fun j y v' e1 e2 e3=>?_⟩,fun y c e=>?_,I.free,I.freeC,fun p hp=>?_,tracked ⟨oL,hoL,I.free⟩ hs,by simpa using I.len⟩ ⟨_,hs,.inl rfl⟩
  ·exact(hs.2 b (Jw (Jz (Heap.lt_size e) I.ok.above))).trans (I.base.keep b o e n hb hx)
  ·obtain⟨sl,e1⟩:=I.base.slot b o e n hb hx
   exact⟨sl,(hs.2 b (Jw (Jz (Heap.lt_size e) I.ok.above))).trans e1⟩
  ·obtain⟨o',e1⟩:=I.base.there b o e hx
   exact⟨o',(hs.2 b (Jw (Jz (Heap.lt_size e) I.ok.above))).trans e1⟩
  ·by_cases hj:j=i
   ·subst hj
    rw[hi]at e1;cases e1
    rw[Lb hiσ]at e2
    cases e2
    exact⟨u,r,.inl ⟨hk,by simp⟩⟩
   ·rw[K1 (Ne.symm hj)]at e2
    obtain⟨u',r',q⟩:=hl j y v' e1 e2 e3
    refine⟨u',r',?_⟩
    rcases q with⟨k,e⟩ | ⟨k,c,e,z⟩
    ·refine .inl ⟨k,?_⟩
     have:y≠x:=fun e=>hj (tU hN e1 (e▸hi))
     simp[this,e]
    ·exact .inr ⟨k,c,e,z.sameBut hs (cne y c e)⟩
  ·obtain⟨w',z⟩:=I.cell y c e
   exact⟨w',z.sameBut hs (cne y c e)⟩
  ·obtain⟨e,n,ne,nf,d⟩:=I.pin p hp
   exact⟨(hs.2 p.1 ne).trans e,n,ne,nf,d⟩
 ·have hfn:X.fn x=true:=by
   rcases hf with z | z
   ·exact z
   ·rw[z]at hk;cases hk
  obtain⟨c,hc⟩:=I.ok.has x (.inl hk)
  obtain⟨w',z⟩:=I.cell x c hc
  refine wpAny_storeName_cell I.ok.kind hk hc z (fun h' hc' hs=>?_)
  obtain⟨oc,hoc,hocd⟩:=id z
  refine h { s with heap:=h' } ⟨I.ok,I.os,I.bare,⟨fun b o e n hb hx=>?_,fun b o e n hb hx=>?_,I.base.free,fun b o e hx=>?_,I.base.tups,I.base.frzs,I.base.tbls⟩,⟨m,hn.sameBut hs (Ne.symm (cne x c hc)),fun j y v' e1 e2 e3=>?_⟩,fun y c' e=>?_,I.free,I.freeC,fun p hp=>?_,tracked ⟨oc,hoc,I.freeC x c hc⟩ hs,by simpa using I.len⟩ ⟨c,hs,.inr hc⟩
  ·exact(hs.2 b (Jw (Jz (Heap.lt_size e) (I.ok.cab x c hfn hc)))).trans (I.base.keep b o e n hb hx)
  ·obtain⟨sl,e1⟩:=I.base.slot b o e n hb hx
   exact⟨sl,(hs.2 b (Jw (Jz (Heap.lt_size e) (I.ok.cab x c hfn hc)))).trans e1⟩
  ·obtain⟨o',e1⟩:=I.base.there b o e hx
   exact⟨o',(hs.2 b (Jw (Jz (Heap.lt_size e) (I.ok.cab x c hfn hc)))).trans e1⟩
  ·by_cases hj:j=i
   ·subst hj
    rw[hi]at e1;cases e1
    rw[Lb hiσ]at e2
    cases e2
    exact⟨u,r,.inr ⟨.inl hk,c,hc,hc'⟩⟩
   ·rw[K1 (Ne.symm hj)]at e2
    obtain⟨u',r',q⟩:=hl j y v' e1 e2 e3
    refine⟨u',r',?_⟩
    rcases q with q | ⟨k,c',e,z'⟩
    ·exact .inl q
    ·refine .inr ⟨k,c',e,z'.sameBut hs ?_⟩
     rintro rfl
     exact hj (tU hN e1 (I.ok.inj _ _ _ e hc▸hi))
  ·by_cases hcc:c'=c
   ·subst hcc;exact⟨_,hc'⟩
   ·obtain⟨w2,z2⟩:=I.cell y c' e
    exact⟨w2,z2.sameBut hs hcc⟩
  ·obtain⟨e,n,ne,nf,d⟩:=I.pin p hp
   refine⟨(hs.2 p.1 ?_).trans e,n,ne,nf,d⟩
   intro q
   rw[q,hoc]at e
   have q':oc=p.2:=Js e
   exact d w' (by rw[← q'];exact hocd)
theorem kE{M:Model}{A:Around}{E:Value->Shared->Prop}{i:Nat}{x:Str}{v:V}{u:Value}{Q:Unit->Shared->Prop}(I:Inv X pins σ H s)(hN:X.N.Nodup)(hi:X.N[i]?=some x)(hx:Loc X.env.scope x)(r:RelV v u)
  (h:∀ s',Inv X pins (σ.set i (some v)) H s'->Q () s') (hf:X.fn x=true∨X.env.scope.names.lookup x=some .local:=by first | exact .inl rfl | exact .inr rfl | assumption):wpAny M A (storeName X.env x u) Q E s :=
 Cp I hN hi hx r (fun s' I' _=>h s' I') hf
theorem Inv.call'{s':Shared}{ch:List Addr}(I:Inv X pins σ H s)(ho:s'.os=s.os)(u:Un (frs X.stack) ch H H' s.heap s'.heap)(hok:HOk X.prog X.w H' s'.heap)(hg:AllBare s'.gens)
  (hch:∀ b∈ch,(b∈X.ex∨X.s₀.heap.objs.size<=b)/\b≠X.env.locals/\(∀ x c,X.env.cells.lookup x=some c->c≠b)/\∀ p∈X.pn++pins,p.1≠b):Inv X pins σ H' s':=by
 obtain⟨h',g',d',t',o'⟩:=s'
 have e:o'=s.os:=ho
 subst e
 exact I.call (g':=g') (t':=t') (d':=d') u hok hg hch
end
abbrev XK:=Value->Option Addr->Hp->Prop
abbrev St:=List (Option V)
abbrev VK:=V->Hp->Prop
abbrev TE:=St->Hp->VK->Prop
abbrev TT:=St->Hp->(Bool->Hp->Prop)->Prop
abbrev TA:=St->Hp->(List V->Hp->Prop)->Prop
structure Ends where
 nx:St->Hp->Prop
 rt:VK
 bk:St->Hp->Prop:=fun _ _=>False
 ct:St->Hp->Prop:=fun _ _=>False
abbrev TS:=Ends->St->Hp->Prop
def EP(X:Cx)(pins:List (Addr×Obj))(σ:St)(Q:VK)(u:Value)(s':Shared):Prop:=∃ v H',Inv X pins σ H' s'/\RelV v u/\Q v H'
def TP(X:Cx)(pins:List (Addr×Obj))(σ:St)(Q:Bool->Hp->Prop)(b:Bool)(s':Shared):Prop:=∃ H',Inv X pins σ H' s'/\Q b H'
def AP(X:Cx)(pins:List (Addr×Obj))(σ:St)(Q:List V->Hp->Prop)(us:List Value)(s':Shared):Prop:=∃ vs H',Inv X pins σ H' s'/\Vals vs us/\Q vs H'
def SP(X:Cx)(pins:List (Addr×Obj))(D:Ends)(f:Flow)(s':Shared):Prop :=
 match f with
 |.next=>∃ σ' H',Inv X pins σ' H' s'/\D.nx σ' H'
 |.brk=>∃ σ' H',Inv X pins σ' H' s'/\D.bk σ' H'
 |.cont=>∃ σ' H',Inv X pins σ' H' s'/\D.ct σ' H'
 |.ret u=>∃ v σ' H',Inv X pins σ' H' s'/\RelV v u/\D.rt v H'
def PE(X:Cx)(e:Expr)(t:TE):Prop :=
 ∀(pins:List (Addr×Obj))(s:Shared)(σ:St)(H:Hp)(Q:VK),Inv X pins σ H s->t σ H Q->wpAny (model X.prog X.w) X.A (eval e X.env) (EP X pins σ Q) X.xe s
def PT(X:Cx)(e:Expr)(t:TT):Prop :=
 ∀(pins:List (Addr×Obj))(s:Shared)(σ:St)(H:Hp)(Q:Bool->Hp->Prop),Inv X pins σ H s->t σ H Q->wpAny (model X.prog X.w) X.A (isTrue e X.env (eval e X.env)) (TP X pins σ Q) X.xe s
def PW(X:Cx)(e:Expr)(t:TT):Prop :=
 ∀(whole:Sem Value)(pins:List (Addr×Obj))(s:Shared)(σ:St)(H:Hp)(Q:Bool->Hp->Prop),Inv X pins σ H s->t σ H Q->wpAny (model X.prog X.w) X.A (isTrue e X.env whole) (TP X pins σ Q) X.xe s
theorem PW.pt{X:Cx}{e:Expr}{t:TT}(h:PW X e t):PT X e t:=h _
def PA(X:Cx)(es:List Expr)(t:TA):Prop :=
 ∀(pos:Pos)(pins:List (Addr×Obj))(s:Shared)(σ:St)(H:Hp)(Q:List V->Hp->Prop),Inv X pins σ H s->t σ H Q->wpAny (model X.prog X.w) X.A (spliced (backTo pos (starEach es X.env))) (AP X pins σ Q) X.xe s
def PS(X:Cx)(st:Stmt)(t:TS):Prop :=
 ∀(pins:List (Addr×Obj))(s:Shared)(σ:St)(H:Hp)(D:Ends),Inv X pins σ H s->t D σ H->wpAny (model X.prog X.w) X.A (exec st X.env) (SP X pins D) X.xe s
def PSs(X:Cx)(st:List Stmt)(t:TS):Prop :=
 ∀(pins:List (Addr×Obj))(s:Shared)(σ:St)(H:Hp)(D:Ends),Inv X pins σ H s->t D σ H->wpAny (model X.prog X.w) X.A (execs st X.env) (SP X pins D) X.xe s
theorem thn{α:Type}{t:Sem α}{Q Q':α->Shared->Prop}{M:Model}{A:Around}{E:Value->Shared->Prop}{s:Shared}(h:wpAny M A t Q E s)(hQ:∀ a s,Q a s->Q' a s):wpAny M A t Q' E s:=wpAny_mono h hQ fun _ _ x=>x
end L2
namespace L2
open PySem PySem.Spec PyProof.Rows
section
variable{X:Cx}
def tVar(i:Nat):TE:=fun σ H Q=>∃ v,σ[i]?=some (some v)/\Q v H
def tC(v:V):TE:=fun _ H Q=>Q v H
theorem pe_var{i:Nat}{x:Str}{pos:Pos}(hN:X.N[i]?=some x)(hv:Vis X.env.scope x) (hd:(x == ("__debug__" : Str))=false:=by decide) (hcd:(x == ("__classdict__" : Str))=false:=by decide):PE X (.Name x pos) (tVar i):=by
 intro pins s σ H Q I h
 obtain⟨v,e,h⟩:=h
 obtain⟨m,hn,hl⟩:=I.loc
 obtain⟨u,r,l⟩:=hl i x v hN e hv
 have fin:EP X pins σ Q u s:=⟨v,H,I,r,h⟩
 rcases l with⟨hk,hm⟩ | ⟨hk,c,hc,hcell⟩
 ·exact wpAny_Name (wpAny_loadName_local I.ok.kind hk hn hm fin) hd
 ·rcases hk with hk | hk
  ·exact wpAny_Name (wpAny_loadName_cell I.ok.kind hk hc hcell fin) hd
  ·exact wpAny_Name (wpAny_loadName_free I.ok.kind hk hc hcell fin hcd) hd
theorem ai{i j pos}:PE X (.Constant (.int i) j pos) (tC (.int i)):=fun _ _ _ H _ I h=>wpAny_Constant_int ⟨.int i,H,I.tok _,⟨_,rfl⟩,h⟩
theorem kK{b j pos}:PE X (.Constant (.bool b) j pos) (tC (.bl b)):=fun _ _ _ H _ I h=>Constant_bool ⟨.bl b,H,I,rfl,h⟩
theorem Gv{j pos}:PE X (.Constant .none j pos) (tC .non):=fun _ _ _ H _ I h=>Constant_none ⟨.non,H,I,rfl,h⟩
theorem C5{x j pos}:PE X (.Constant (.str x) j pos) (tC (.str x)):=fun _ _ _ H _ I h=>Calls.Constant_str ⟨.str x,H,I.tok _,⟨_,rfl⟩,h⟩
def Gl(X:Cx)(x:Str):Prop:=X.env.kindOf x=some .globalImplicit
theorem lJ{E:Value->Shared->Prop}{pins:List (Addr×Obj)}{s:Shared}{σ:St}{H:Hp}{x:Str}{u:Value}{pos:Pos}{Q:Value->Shared->Prop}(I:Inv X pins σ H s)(hg:Gl X x)(hm:X.mg x=some u)(h:Q u s)
  (hd:(x == ("__debug__" : Str))=false:=by decide):wpAny (model X.prog X.w) X.A (eval (.Name x pos) X.env) Q E s :=
 Calls.Name_function_global I.ok.kind hg (Calls.loadGlobal_global (by rw[I.ok.glob];exact I.mod.glob.keeps I.bk) hm h) hd
theorem mS{E:Value->Shared->Prop}{pins:List (Addr×Obj)}{s:Shared}{σ:St}{H:Hp}{x:Str}{u:Value}{pos:Pos}{Q:Value->Shared->Prop}(I:Inv X pins σ H s)(hg:Gl X x)(hm:X.mg x=none)(hv:bootBuiltins x=some u)(h:Q u s)
  (hn:x≠"__name__":=by decide) (hd:(x == ("__debug__" : Str))=false:=by decide):wpAny (model X.prog X.w) X.A (eval (.Name x pos) X.env) Q E s:=by
 obtain⟨mb,h1,h2⟩:=I.mod.blt
 exact Calls.Name_function_global I.ok.kind hg (Calls.loadGlobal_builtin (by rw[I.ok.glob];exact I.mod.glob.keeps I.bk) hm (by rw[I.ok.blt];exact h1.keeps I.bk) ((h2 x hn).trans hv) h) hd
theorem oz{x:Str}{v:V}{u:Value}{pos:Pos}(hg:Gl X x)(hm:X.mg x=some u)(r:RelV v u) (hd:(x == ("__debug__" : Str))=false:=by decide):PE X (.Name x pos) (tC v) :=
 fun _ _ _ H _ I h=>lJ I hg hm ⟨v,H,I,r,h⟩ hd
theorem jE{x:Str}{v:V}{u:Value}{pos:Pos}(hg:Gl X x)(hm:X.mg x=none)(hv:bootBuiltins x=some u)(r:RelV v u) (hn:x≠"__name__":=by decide) (hd:(x == ("__debug__" : Str))=false:=by decide):PE X (.Name x pos) (tC v) :=
 fun _ _ _ H _ I h=>mS I hg hm hv ⟨v,H,I,r,h⟩ hn hd
variable{a b:Expr}{ta tb:TE}{pos:Pos}
def PC(X:Cx)(op:CmpOp)(a b:Expr)(t:TE):Prop :=
 ∀(pins:List (Addr×Obj))(s:Shared)(σ:St)(H:Hp)(Q:VK),Inv X pins σ H s->t σ H Q ->
  wpAny (model X.prog X.w) X.A (eval a X.env) (fun v s₁=>wpAny (model X.prog X.w) X.A (eval b X.env) (fun u s₂=>wpAny (model X.prog X.w) X.A (compareOp op v u) (EP X pins σ Q) X.xe s₂) X.xe s₁) X.xe s
def tB(t:TE):TT:=fun σ H Q=>t σ H fun x H1=>∃ c,x=.bl c/\Q c H1
theorem pt_cmp{op:CmpOp}{t:TE}(h:PC X op a b t)(h1:behindInMarks op b=false:=by first | exact nobehind _ (by decide) (by decide) | rfl):PT X (.Compare a [op] [b] pos) (tB t):=by
 intro pins s σ H Q I hw
 refine wpAny_isTrue_Compare1 (thn (h pins s σ H _ I hw) fun v s1 h1=>thn h1 fun u s2 h2=>thn h2 fun c s3 ⟨x,H1,I1,r1,q1⟩=>?_) h1
 obtain⟨d,rfl,q⟩:=q1
 cases r1
 exact wpAny_truthy_bool ⟨H1,I1,q⟩
theorem df{e:Expr}{t:TE}(h:PE X e t)(he:∀ whole,isTrue e X.env whole=(do let v ← whole;standAt e.pos;holding [v] (truthy v)):=by intro _;rfl):PT X e (tB t):=by
 intro pins s σ H Q I hw
 refine isTrue_plain (thn (h pins s σ H _ I hw) fun v s1 ⟨x,H1,I1,r1,q1⟩=>?_) (he _)
 obtain⟨d,rfl,q⟩:=q1
 cases r1
 exact wpAny_truthy_bool ⟨H1,I1,q⟩
variable{tA tB':TT}{rest:List Expr}
def tAnd(t u:TT):TT:=fun σ H Q=>t σ H fun c H1=>if c=true then u σ H1 Q else Q false H1
def tOr(t u:TT):TT:=fun σ H Q=>t σ H fun c H1=>if c=true then Q true H1 else u σ H1 Q
def tNot(t:TT):TT:=fun σ H Q=>t σ H fun c H1=>Q (!c) H1
theorem Hr(ha:PT X a tA):PW X (.BoolOp .And [a] pos) tA:=by
 intro wh pins s σ H Q I h
 refine isTrue_and (thn (ha pins s σ H Q I h) fun c s1 e=>?_)
 cases c with
 |true=>exact isTrue_and_nil e
 |false=>exact e
theorem gX(ha:PT X a tA):PW X (.BoolOp .Or [a] pos) tA:=by
 intro wh pins s σ H Q I h
 refine isTrue_or (thn (ha pins s σ H Q I h) fun c s1 e=>?_)
 cases c with
 |false=>exact isTrue_or_nil e
 |true=>exact e
theorem pw_and(ha:PT X a tA)(hb:PW X (.BoolOp .And (b::rest) pos) tB'):PW X (.BoolOp .And (a::b::rest) pos) (tAnd tA tB'):=by
 intro wh pins s σ H Q I h
 refine isTrue_and (thn (ha pins s σ H _ I h) fun c s1 ⟨H1,I1,q1⟩=>?_)
 cases c with
 |true=>exact hb wh pins s1 σ H1 Q I1 q1
 |false=>exact⟨H1,I1,q1⟩
theorem jm(ha:PT X a tA)(hb:PW X (.BoolOp .Or (b::rest) pos) tB'):PW X (.BoolOp .Or (a::b::rest) pos) (tOr tA tB'):=by
 intro wh pins s σ H Q I h
 refine isTrue_or (thn (ha pins s σ H _ I h) fun c s1 ⟨H1,I1,q1⟩=>?_)
 cases c with
 |true=>exact⟨H1,I1,q1⟩
 |false=>exact hb wh pins s1 σ H1 Q I1 q1
theorem eU(ha:PT X a tA):PT X (.UnaryOp .Not a pos) (tNot tA):=by
 intro pins s σ H Q I h
 exact isTrue_not (ha pins s σ H (fun c H1=>Q (!c) H1) I h)
def tAndV(ta tb:TE):TE:=fun σ H Q=>ta σ H fun x H1=>∃ c,x=.bl c/\if c=true then tb σ H1 Q else Q (.bl false) H1
def tNotV(ta:TE):TE:=fun σ H Q=>ta σ H fun x H1=>∃ c,x=.bl c/\Q (.bl (!c)) H1
theorem An{op}{t:TE}(h:PE X a t):PE X (.BoolOp op [a] pos) t:=fun pins s σ H Q I hw=>BoolOp_one (h pins s σ H Q I hw)
theorem Aq(ha:PE X a ta)(hb:PE X (.BoolOp .And (b::rest) pos) tb):PE X (.BoolOp .And (a::b::rest) pos) (tAndV ta tb):=by
 intro pins s σ H Q I h
 refine BoolOp_and (thn (ha pins s σ H _ I h) fun v s1 ⟨x,H1,I1,r1,q1⟩=>?_)
 obtain⟨c,rfl,q1⟩:=q1
 cases r1
 refine wpAny_truthy_bool ?_
 cases c with
 |true=>exact hb pins s1 σ H1 Q I1 q1
 |false=>exact⟨.bl false,H1,I1,rfl,q1⟩
theorem Gu(ha:PE X a ta):PE X (.UnaryOp .Not a pos) (tNotV ta):=by
 intro pins s σ H Q I h
 refine UnaryOp_ (thn (ha pins s σ H _ I h) fun v s1 ⟨x,H1,I1,r1,q1⟩=>?_)
 obtain⟨c,rfl,q1⟩:=q1
 cases r1
 exact not_of (wpAny_truthy_bool ⟨.bl (!c),H1,I1,rfl,q1⟩)
def tIf(t:TT)(ta tb:TE):TE:=fun σ H Q=>t σ H fun c H1=>if c=true then ta σ H1 Q else tb σ H1 Q
theorem tD{c:Expr}(hc:PT X c tA)(ha:PE X a ta)(hb:PE X b tb):PE X (.IfExp c a b pos) (tIf tA ta tb):=by
 intro pins s σ H Q I h
 refine wpAny_IfExp (thn (hc pins s σ H _ I h) fun d s1 ⟨H1,I1,q1⟩=>?_)
 cases d with
 |true=>exact ha pins s1 σ H1 Q I1 q1
 |false=>exact hb pins s1 σ H1 Q I1 q1
end
end L2
namespace L2
open PySem PySem.Spec PyProof.Rows
def SqL(K:IT)(H:Hp)(a:Addr)(xs:List V):Prop :=
 Rd H a (.lst xs) ∨
  ∃(o:Obj)(its:Array Value)(n:Nat),K.lookup a=some o/\o.cls=.type "list"/\o.dict=none/\o.data=.seq its n/\its.size<=sizeLine/\Vals xs its.toList
def SqT(K:IT)(H:Hp)(a:Addr)(xs:List V):Prop :=
 Rd H a (.tup xs) ∨
  ∃(o:Obj)(its:Array Value)(n:Nat),K.lookup a=some o/\o.cls=.type "tuple"/\o.data=.seq its n/\its.size<=sizeLine/\Vals xs its.toList
def absV:Value->Option V
 |.none=>some .non
 |.bool b=>some (.bl b)
 |.int i _=>some (.int i)
 |.str x _=>some (.str x)
 |.bytes b _=>some (.byt b)
 |.float b _=>some (.flt b)
 |.ref a=>some (.ref a)
 |.type n=>some (.ty n)
 |_=>none
theorem RelV.abs{x:V}{u:Value}(r:RelV x u):absV u=some x:=by
 cases x with
 |non=>cases r;rfl
 |bl _=>cases r;rfl
 |int _=>obtain⟨t,rfl⟩:=r;rfl
 |str _=>obtain⟨t,rfl⟩:=r;rfl
 |byt _=>obtain⟨t,rfl⟩:=r;rfl
 |flt _=>obtain⟨t,rfl⟩:=r;rfl
 |ref _=>cases r;rfl
 |ty _=>cases r;rfl
theorem RelV.inj{x y:V}{u:Value}(r:RelV x u)(q:RelV y u):x=y:=Js (r.abs.symm.trans q.abs)
theorem Vals.inj:∀{xs ys:List V}{us:List Value},Vals xs us->Vals ys us->xs=ys
 |_,_,_,.nil,.nil=>rfl
 |_,_,_,.cons r t,.cons r' t'=>by rw[r.inj r',Vals.inj t t']
section
variable{X:Cx}{pins:List (Addr×Obj)}{σ:St}{H:Hp}{s:Shared}{a:Addr}{xs ys:List V}
theorem SqL.of{K:IT}(h:H a=some (.lst xs)):SqL K H a xs:=.inl (.inl h)
theorem SqT.of{K:IT}(h:H a=some (.tup xs)):SqT K H a xs:=.inl (.inl h)
theorem Inv.list(I:Inv X pins σ H s)(h:SqL X.K H a xs):∃ its:List Value,Vals xs its/\PlainL s.heap a its.toArray/\xs.length<=sizeLine:=by
 rcases h with h | ⟨o,its,n,hk,hc,hd,hs,hz,r⟩
 ·obtain⟨z,its,n,r,e⟩:=h.ok I.hok
  exact⟨its,r,⟨_,n,e,rfl,rfl,rfl⟩,z⟩
 ·refine⟨its.toList,r,⟨o,n,I.kIn a o hk,hc,hd,by simpa using hs⟩,?_⟩
  have e:=r.length
  simp only[Kf]at e
  omega
theorem Inv.tuple(I:Inv X pins σ H s)(h:SqT X.K H a xs):∃ its:List Value,Vals xs its/\IsTup s.heap a its.toArray/\xs.length<=sizeLine:=by
 rcases h with h | ⟨o,its,n,hk,hc,hs,hz,r⟩
 ·obtain⟨z,its,r,p⟩:=h.ok I.hok
  exact⟨its,r,p,z⟩
 ·refine⟨its.toList,r,⟨o,I.kIn a o hk,hc,n,by simpa using hs⟩,?_⟩
  have e:=r.length
  simp only[Kf]at e
  omega
theorem Inv.list_inj(I:Inv X pins σ H s)(h:SqL X.K H a xs)(h':SqL X.K H a ys):xs=ys:=by
 obtain⟨its,r,⟨o,n,e,_,_,d⟩,_⟩:=I.list h
 obtain⟨its',r',⟨o',n',e',_,_,d'⟩,_⟩:=I.list h'
 rw[e]at e';cases e'
 rw[d]at d'
 injection d' with d1 _
 have:its=its':=by simpa using congrArg Array.toList d1
 subst this
 exact r.inj r'
theorem Inv.tuple_inj(I:Inv X pins σ H s)(h:SqT X.K H a xs)(h':SqT X.K H a ys):xs=ys:=by
 obtain⟨its,r,⟨o,e,_,n,d⟩,_⟩:=I.tuple h
 obtain⟨its',r',⟨o',e',_,n',d'⟩,_⟩:=I.tuple h'
 rw[e]at e';cases e'
 rw[d]at d'
 injection d' with d1 _
 have:its=its':=by simpa using congrArg Array.toList d1
 subst this
 exact r.inj r'
end
abbrev Cx.wish(X:Cx)(E:Value->Shared->Prop):Cx:={ X with xe:=E }
abbrev Cx.nox(X:Cx):Cx:=X.wish fun _ _=>False
theorem Cx.Ok.wish{X:Cx}(ok:X.Ok)(E:Value->Shared->Prop):(X.wish E).Ok :=
 ⟨ok.mod,ok.kind,ok.glob,ok.blt,ok.above,ok.inj,ok.has,ok.cab,ok.hd,ok.frames,ok.stk,ok.exf,ok.bs,ok.bsz,ok.noex,ok.exfs,ok.funs,ok.frf⟩
theorem Cx.Ok.unwish{X:Cx}{E:Value->Shared->Prop}(ok:(X.wish E).Ok):X.Ok :=
 ⟨ok.mod,ok.kind,ok.glob,ok.blt,ok.above,ok.inj,ok.has,ok.cab,ok.hd,ok.frames,ok.stk,ok.exf,ok.bs,ok.bsz,ok.noex,ok.exfs,ok.funs,ok.frf⟩
section
variable{X:Cx}{pins:List (Addr×Obj)}{σ:St}{H:Hp}{s:Shared}{E:Value->Shared->Prop}
theorem Inv.wish(I:Inv X pins σ H s)(E:Value->Shared->Prop):Inv (X.wish E) pins σ H s:=⟨I.ok.wish E,I.os,I.bare,I.base,I.loc,I.cell,I.free,I.freeC,I.pin,I.hok,I.len⟩
theorem Inv.unwish(I:Inv (X.wish E) pins σ H s):Inv X pins σ H s:=⟨I.ok.unwish,I.os,I.bare,I.base,I.loc,I.cell,I.free,I.freeC,I.pin,I.hok,I.len⟩
theorem SP.unwish{D:Ends}{f:Flow}{s':Shared}(h:SP (X.wish E) pins D f s'):SP X pins D f s':=by
 cases f with
 |next=>obtain⟨σ',H',I,q⟩:=h;exact⟨σ',H',I.unwish,q⟩
 |brk=>obtain⟨σ',H',I,q⟩:=h;exact⟨σ',H',I.unwish,q⟩
 |cont=>obtain⟨σ',H',I,q⟩:=h;exact⟨σ',H',I.unwish,q⟩
 |ret u=>obtain⟨v,σ',H',I,r,q⟩:=h;exact⟨v,σ',H',I.unwish,r,q⟩
theorem PSs.nox{st:List Stmt}{t:TS}(h:PSs X.nox st t):PSs X st t:=fun pins s σ H D I hw =>
 wpAny_mono (h pins s σ H D (I.wish _) hw) (fun _ _ q=>q.unwish) fun _ _ z=>False.elim z
end
section
variable{X:Cx}{st:Stmt}{rest:List Stmt}{t u:TS}{e:Expr}{te:TE}{pos:Pos}
def tNext:TS:=fun D σ H=>D.nx σ H
def tSeq(t u:TS):TS:=fun D σ H=>t { D with nx:=u D } σ H
theorem aK:PSs X [] tNext:=fun _ _ σ H _ I h=>wpAny_execs_nil ⟨σ,H,I,h⟩
theorem af(h1:PS X st t)(h2:PSs X rest u):PSs X (st::rest) (tSeq t u):=by
 intro pins s σ H D I h
 refine wpAny_execs_cons (thn (h1 pins s σ H { D with nx:=u D } I h) fun f s1 q=>?_)
 cases f with
 |next =>
  obtain⟨σ',H',I',q⟩:=q
  exact h2 pins s1 σ' H' D I' q
 |ret v=>exact q
 |brk=>exact q
 |cont=>exact q
theorem ak(h1:PS X st t):PSs X [st] t:=by
 intro pins s σ H D I h
 refine wpAny_execs_cons (thn (h1 pins s σ H D I h) fun f s1 q=>?_)
 cases f with
 |next=>exact wpAny_execs_nil q
 |ret v=>exact q
 |brk=>exact q
 |cont=>exact q
theorem Inv.quiet{pins:List (Addr×Obj)}{σ:St}{H:Hp}{s:Shared}(I:Inv X pins σ H s):interactive X.env=false:=by simp[interactive,I.ok.kind]
def tDrop(te:TE):TS:=fun D σ H=>te σ H fun _ H1=>D.nx σ H1
theorem bR(he:PE X e te)(hs:swapsWith e none pos.line X.env=pure false:=by rfl):PS X (.Expr e pos) (tDrop te):=by
 intro pins s σ H D I h
 exact wpAny_Expr_any (thn (he pins s σ H _ I h) fun v s1 ⟨x,H1,I1,r1,q1⟩=>⟨σ,H1,I1,q1⟩) I.quiet hs
def tRet(te:TE):TS:=fun D σ H=>te σ H D.rt
theorem aI(he:PE X e te):PS X (.Return (some e) pos) (tRet te):=by
 intro pins s σ H D I h
 exact wpAny_Return_some (thn (he pins s σ H _ I h) fun v s1 ⟨x,H1,I1,r1,q1⟩=>⟨x,σ,H1,I1,r1,q1⟩)
def tIfS(c:TT)(t u:TS):TS:=fun D σ H=>c σ H fun b H1=>if b=true then t D σ H1 else u D σ H1
theorem bQ{c:Expr}{a b:List Stmt}{tc:TT}(hc:PT X c tc)(ha:PSs X a t)(hb:PSs X b u):PS X (.If c a b pos) (tIfS tc t u):=by
 intro pins s σ H D I h
 refine wpAny_If (thn (hc pins s σ H _ I h) fun d s1 ⟨H1,I1,q1⟩=>?_)
 cases d with
 |true=>exact ha pins s1 σ H1 D I1 q1
 |false=>exact hb pins s1 σ H1 D I1 q1
def tNever:TS:=fun _ _ _=>False
theorem fT:PS X st tNever:=fun _ _ _ _ _ _ h=>h.elim
end
abbrev TG:=V->St->Hp->(St->Hp->Prop)->Prop
abbrev TGs:=List V->St->Hp->(St->Hp->Prop)->Prop
def PG(X:Cx)(target:Expr)(t:TG):Prop :=
 ∀(pins:List (Addr×Obj))(s:Shared)(σ:St)(H:Hp)(v:V)(u:Value)(Q:St->Hp->Prop),Inv X pins σ H s->RelV v u->t v σ H Q ->
  wpAny (model X.prog X.w) X.A (assign target X.env u) (fun _ s'=>∃ σ' H',Inv X pins σ' H' s'/\Q σ' H') X.xe s
def PGs(X:Cx)(ts:List Expr)(t:TGs):Prop :=
 ∀(pins:List (Addr×Obj))(s:Shared)(σ:St)(H:Hp)(vs:List V)(us:List Value)(Q:St->Hp->Prop),Inv X pins σ H s->Vals vs us->t vs σ H Q ->
  wpAny (model X.prog X.w) X.A (assignInOrder ((assignEach ts X.env).map (·.2)) us) (fun _ s'=>∃ σ' H',Inv X pins σ' H' s'/\Q σ' H') X.xe s
abbrev TSet:=V->V->V->Hp->(Hp->Prop)->Prop
def PSet(X:Cx)(t:TSet):Prop :=
 ∀(pins:List (Addr×Obj))(s:Shared)(σ:St)(H:Hp)(o i v:V)(ov iv u:Value)(Q:Hp->Prop),Inv X pins σ H s->RelV o ov->RelV i iv->RelV v u->t o i v H Q ->
  wpAny (model X.prog X.w) X.A (setItem ov iv u) (fun _ s'=>∃ H',Inv X pins σ H' s'/\Q H') X.xe s
section
variable{X:Cx}{pos:Pos}
def gName(i:Nat):TG:=fun v σ H Q=>Q (σ.set i (some v)) H
theorem aM{i:Nat}{x:Str}(hN:X.N.Nodup)(hi:X.N[i]?=some x)(hx:Loc X.env.scope x)(hf:X.fn x=true∨X.env.scope.names.lookup x=some .local:=by first | exact .inl rfl | exact .inr rfl | assumption):PG X (.Name x pos) (gName i):=by
 intro pins s σ H v u Q I r h
 exact wpAny_assign_Name (kE I hN hi hx r (fun s' I'=>⟨_,H,I',h⟩) hf)
def gNil:TGs:=fun vs σ H Q=>vs = []/\Q σ H
def gCons(t:TG)(u:TGs):TGs:=fun vs σ H Q=>∃ v r,vs=v::r/\t v σ H fun σ' H'=>u r σ' H' Q
theorem oy:PGs X [] gNil:=by
 intro pins s σ H vs us Q I r h
 obtain⟨e,h⟩:=h
 subst e
 cases r
 exact assignInOrder_nil ⟨σ,H,I,h⟩
theorem cB{e:Expr}{es:List Expr}{t:TG}{u:TGs}(h1:PG X e t)(h2:PGs X es u)
  (hs:(assignEach (e::es) X.env).map (·.2)=assign e X.env::(assignEach es X.env).map (·.2):=by rfl):PGs X (e::es) (gCons t u):=by
 intro pins s σ H vs us Q I r h
 obtain⟨v,vr,e1,h⟩:=h
 subst e1
 cases r with
 |cons r rr =>
  rw[hs]
  refine assignInOrder_cons (thn (h1 pins s σ H _ _ _ I r h) fun _ s1 ⟨σ1,H1,I1,q1⟩=>?_)
  exact h2 pins s1 σ1 H1 _ _ Q I1 rr q1
def gTup(K:IT)(n:Nat)(t:TGs):TG:=fun v σ H Q=>∃ a xs,v=.ref a/\SqT K H a xs/\xs.length=n/\t xs σ H Q
theorem vF{es:List Expr}{k:Nat}{t:TGs}{n:Nat}(hc:X.calm=true)(h:PGs X es t)
  (hn:(assignEach es X.env).length=n:=by rfl) (hst:(assignEach es X.env).findIdx? (·.1)=none:=by rfl):PG X (.Tuple es k pos) (gTup X.K n t):=by
 intro pins s σ H v u Q I r hw
 obtain⟨a,xs,e1,hq,hl,hw⟩:=hw
 subst e1
 cases r
 obtain⟨its,rv,ht,hz⟩:=I.tuple hq
 refine assign_Tuple_tuple (I.ok.hd hc) ht (by simp[hn,← hl,rv.length]) hst fun h' hx=>?_
 have I1:Inv X pins σ H { s with heap:=h' }:=I.kept (t':=s.toks) fun b o e=>hx b o (Jw (Heap.lt_size e)) e
 exact h pins _ σ H xs _ Q I1 (by simpa using rv) hw
def gSub(to ti:TE)(t:TSet):TG:=fun v σ H Q=>to σ H fun o H1=>ti σ H1 fun i H2=>t o i v H2 fun H3=>Q σ H3
theorem Gs{o i:Expr}{to ti:TE}{t:TSet}(ho:PE X o to)(hi:PE X i ti)(hs:PSet X t)
  (ha:∀ v,assign (.Subscript o i pos) X.env v=(do
   let ov ← holding [v] (eval o X.env)
   let iv ← holding [v,ov] (eval i X.env)
   standAt pos
   holding [v,ov,iv] (setItem ov iv v)
   release [v,ov,iv] []):=by intro _;rfl):PG X (.Subscript o i pos) (gSub to ti t):=by
 intro pins s σ H v u Q I r h
 rw[ha]
 refine wpAny_bind (wpAny_holding (thn (ho pins s σ H _ I h) fun ov s1 ⟨x,H1,I1,r1,q1⟩=>?_))
 refine wpAny_bind (wpAny_holding (thn (hi pins s1 σ H1 _ I1 q1) fun iv s2 ⟨y,H2,I2,r2,q2⟩=>?_))
 refine wpAny_bind (wpAny_standAt (wpAny_bind (wpAny_holding (thn (hs pins s2 σ H2 x y v ov iv u _ I2 r1 r2 r q2) fun _ s3 ⟨H3,I3,q3⟩=>?_))))
 exact wpAny_release ⟨σ,H3,I3,q3⟩
def tAsg(te:TE)(g:TG):TS:=fun D σ H=>te σ H fun x H1=>g x σ H1 D.nx
theorem Gn{tg e:Expr}{te:TE}{g:TG}(he:PE X e te)(hg:PG X tg g)(hs:swapsWithSole [tg] e pos.line X.env=pure false:=by rfl)(hw:swappedStores [tg] e X.env=pure none:=by rfl)
  (h1:(assignEach [tg] X.env).map (·.2) = [assign tg X.env]:=by rfl):PS X (.Assign [tg] e pos) (tAsg te g):=by
 intro pins s σ H D I h
 refine wpAny_Assign_stores (thn (he pins s σ H _ I h) fun v s1 ⟨x,H1,I1,r1,q1⟩=>?_) hs hw
 rw[h1]
 exact thn (hg pins s1 σ H1 x v _ I1 r1 q1) fun _ s2 q=>q
theorem ax{i:Nat}{x:Str}{e:Expr}{te:TE}{pos':Pos}(hN:X.N.Nodup)(hi:X.N[i]?=some x)(hx:Loc X.env.scope x)(he:PE X e te)(hs:swapsWith e (some (.Name x pos')) pos.line X.env=pure false:=by rfl)(hf:X.fn x=true∨X.env.scope.names.lookup x=some .local:=by first | exact .inl rfl | exact .inr rfl | assumption) :
  PS X (.Assign [.Name x pos'] e pos) (tAsg te (gName i)):=by
 intro pins s σ H D I h
 refine wpAny_Assign_Name (thn (he pins s σ H _ I h) fun v s1 ⟨y,H1,I1,r1,q1⟩=>?_) hs
 exact kE I1 hN hi hx r1 (fun s2 I2=>⟨_,H1,I2,q1⟩) hf
end
section
variable{X:Cx}{pos:Pos}
def Gj(c:TT)(tb:TS):TS:=fun D σ H=>∃ W:Nat->St->Hp->Prop,(∃ m,W m σ H)/\∀ m σ H,W m σ H ->
 c σ H fun b H1=>if b=true then ∃ N:St->Hp->Prop,(∀ σ' H',N σ' H'->∃ m',m'<m/\W m' σ' H')/\tb { D with nx:=N,ct:=N,bk:=D.nx } σ H1 else D.nx σ H1
theorem sW{c:Expr}{body:List Stmt}{tc:TT}{tb:TS}(hp:PassesOwn (model X.prog X.w) X.A X.env X.xe)(hc:PT X c tc)(hb:PSs X body tb):PS X (.While c body [] pos) (Gj tc tb):=by
 intro pins s σ H D I h
 obtain⟨W,⟨m0,w0⟩,turn⟩:=h
 refine wpAny_While (codeAny_whileLoop (fun n s'=>∃ σ' H',Inv X pins σ' H' s'/\W n σ' H') ?_ m0 ⟨σ,H,I,w0⟩)
 rintro n s1 ⟨σ1,H1,I1,w1⟩
 refine wpAny_passesOwn hp (thn (hc pins s1 σ1 H1 _ I1 (turn n σ1 H1 w1)) fun b s2 ⟨H2,I2,q2⟩=>?_)
 cases b with
 |true =>
  obtain⟨N,hN,q2⟩:=q2
  rw[if_pos rfl]
  refine wpAny_passesOwn hp (thn (hb pins s2 σ1 H2 _ I2 q2) fun f s3 q3=>?_)
  cases f with
  |next =>
   obtain⟨σ3,H3,I3,n3⟩:=q3
   obtain⟨m',hm,w3⟩:=hN σ3 H3 n3
   exact⟨m',hm,σ3,H3,I3,w3⟩
  |cont =>
   obtain⟨σ3,H3,I3,n3⟩:=q3
   obtain⟨m',hm,w3⟩:=hN σ3 H3 n3
   exact⟨m',hm,σ3,H3,I3,w3⟩
  |brk=>exact q3
  |ret v=>exact q3
 |false =>
  rw[if_neg Jo]
  exact wpAny_execs_nil ⟨σ1,H2,I2,q2⟩
end
structure It where
 go:Nat->Hp->Prop
 yld:Nat->Hp->V->Hp->Prop
 stop:Nat->Hp->Prop
def FpOk(X:Cx)(pins:List (Addr×Obj))(H:Hp)(b:Addr):Prop :=
 H b=none/\b≠X.env.locals/\b∉X.fs/\(b∈X.ex∨X.s₀.heap.objs.size<=b)/\(∀ x c,X.env.cells.lookup x=some c->c≠b)/\∀ p∈X.pn++pins,p.1≠b
theorem Inv.fpOk{X:Cx}{pins:List (Addr×Obj)}{σ:St}{H H':Hp}{s:Shared}{b:Addr}(I:Inv X pins σ H s)(hb:s.heap.objs.size<=b)(hn:H' b=none):FpOk X pins H' b:=by
 refine⟨hn,Kz (Jz I.lt hb),I.nofs hb,.inr (JS I.sz hb),fun x c e z=>?_,fun p hp z=>?_⟩
 ·obtain⟨v,q⟩:=I.cell x c e
  exact absurd (Jz q.lt (by rw[z];exact hb)) (Ke _)
 ·exact absurd (Jz (Heap.lt_size (I.pin p hp).1) (by rw[z];exact hb)) (Ke _)
structure Turn(P:Program)(w:World)(K:IT)(tg:Expr)(J:It)(fp:List Addr)(it:Addr)(tn:Nat->Heap->Prop):Prop where
 mem:it∈fp
 obj:∀ i h,tn i h->∀ b∈fp,∃ o,h.get? b=some o/\∀ v,o.data≠.cell v
 keep:∀ i h h',tn i h->(∀ b∈fp,∀ o,h.get? b=some o->h'.get? b=some o)->tn i h'
 item:∀(X:Cx),X.prog=P->X.w=w->X.K=K->X.calm=true->∀(i:Nat)(pins:List (Addr×Obj))(s:Shared)(σ:St)(H:Hp)(E:Value->Shared->Prop),Inv X pins σ H s->(∀ b∈fp,FpOk X pins H b)->tn i s.heap->J.go i H ->
  wpAny (model P w) X.A (pyNext (.ref it)) (fun r s1=>∃ u,r=some u /\
   wpAny (model P w) X.A (letOwnedTupleGo tg (.ref it) u) (fun _ s2=>∃ x H',Inv X pins σ H' s2/\RelV x u/\J.yld i H x H'/\tn (i+1) s2.heap/\∀ b∈fp,H' b=none) E s1) E s
 done:∀(X:Cx),X.prog=P->X.w=w->X.K=K->X.calm=true->∀(i:Nat)(pins:List (Addr×Obj))(s:Shared)(σ:St)(H:Hp)(E:Value->Shared->Prop),Inv X pins σ H s->(∀ b∈fp,FpOk X pins H b)->tn i s.heap->J.stop i H ->
  wpAny (model P w) X.A (pyNext (.ref it)) (fun r s1=>r=none/\Inv X pins σ H s1) E s
 self:∀(A:Around)(i:Nat)(s:Shared)(Q:Value->Shared->Prop)(E:Value->Shared->Prop),tn i s.heap->Q (.ref it) s->wpAny (model P w) A (pyIter (.ref it)) Q E s
abbrev TI:=St->Hp->(It->Hp->Prop)->Prop
def PIE(X:Cx)(pins:List (Addr×Obj))(σ:St)(tg:Expr)(R:It->Hp->Prop)(itv:Value)(s2:Shared):Prop :=
 ∃(it:Addr)(fp:List Addr)(tn:Nat->Heap->Prop)(J:It)(H':Hp),itv=.ref it/\Inv X pins σ H' s2/\Turn X.prog X.w X.K tg J fp it tn/\tn 0 s2.heap/\(∀ b∈fp,FpOk X pins H' b)/\R J H'
def PI(X:Cx)(tg iter:Expr)(wi:TI):Prop :=
 ∀(pins:List (Addr×Obj))(s:Shared)(σ:St)(H:Hp)(R:It->Hp->Prop),Inv X pins σ H s->wi σ H R ->
  wpAny (model X.prog X.w) X.A (eval iter X.env) (fun v s1=>wpAny (model X.prog X.w) X.A (pyIter v) (PIE X pins σ tg R) X.xe s1) X.xe s
theorem FX{M:Model}{A:Around}{E:Value->Shared->Prop}{s:Shared}{tg:Expr}{it:Addr}{u:Value}{o:Obj}{n:String}{vs:Array Value}{Q:Unit->Shared->Prop}(ho:s.heap.get? it=some o)(hc:o.cls=.type n)(hd:o.data=.fields vs)
  (hn : ["enumerate","zip","dict_itemiterator","dict_reverseitemiterator","odict_iterator","itertools.zip_longest","itertools.pairwise"].contains n=false) (hQ:Q () s):wpAny M A (letOwnedTupleGo tg (.ref it) u) Q E s:=by
 unfold letOwnedTupleGo
 cases tg<;>first
  |exact wpAny_pure hQ
  | (cases u<;>first
    |exact wpAny_pure hQ
    | (refine wpAny_bind (wpAny_load ho ?_)
       rw[hc,hd]
       show wpAny M A (if(["enumerate","zip","dict_itemiterator","dict_reverseitemiterator","odict_iterator","itertools.zip_longest","itertools.pairwise"].contains n&&vs[0]? == some (rawInt _))=true then _ else _) Q E s
       rw[if_neg (by intro h;rw[hn,Lg]at h;cases h)]
       exact wpAny_pure hQ))
def Itl(K:IT)(a:Addr):It :=
 ⟨fun i H=>∃ xs x,SqL K H a xs/\xs[i]?=some x,fun i H x H'=>H'=H/\∀ xs,SqL K H a xs->xs[i]?=some x,fun i H=>∃ xs,SqL K H a xs/\xs.length<=i⟩
def Itt(K:IT)(a:Addr):It :=
 ⟨fun i H=>∃ xs x,SqT K H a xs/\xs[i]?=some x,fun i H x H'=>H'=H/\∀ xs,SqT K H a xs->xs[i]?=some x,fun i H=>∃ xs,SqT K H a xs/\xs.length<=i⟩
def Itr(lo:Int)(n:Nat):It:=⟨fun i _=>i<n,fun i H x H'=>H'=H/\x=.int (lo+i),fun i _=>n<=i⟩
theorem Ce{P:Program}{w:World}{K:IT}{tg:Expr}(a it:Addr):Turn P w K tg (Itl K a) [it] it (fun i h=>h.IsListIter it a i) where
 mem:=by simp
 obj:=fun i h st b hb=>by
  have e:b=it:=by simpa using hb
  subst e
  obtain⟨o,e,c,d⟩:=st
  exact⟨o,e,fun v z=>by rw[d]at z;cases z⟩
 keep:=fun i h h' st k=>st.at fun o e=>k it (by simp) o e
 item:=by
  intro X hP hw hK hc i pins s σ H E I hf st hg
  subst hP hw hK
  obtain⟨xs,x,hq,hx⟩:=hg
  obtain⟨its,rv,p,hz⟩:=I.list hq
  obtain⟨u,hu,ru⟩:=rv.get hx
  obtain⟨f0,f1,f2,f3,f4,f5⟩:=hf it (by simp)
  refine wpAny_pyNext_list_item st p.isList (x:=u) (by simpa using hu) fun h' st' sb=>?_
  have I1:Inv X pins σ H { s with heap:=h' }:=I.turned (t':=s.toks) (fun b o hb e=>(sb.2 b hb).trans e) f0 f1 f3 f4 f5
  obtain⟨o,e,c,d⟩:=id st'
  exact⟨u,rfl,FX (s:={ s with heap:=h' }) e c d (by decide) ⟨x,H,I1,ru,⟨rfl,fun ys hy=>by rw[I.list_inj hy hq];exact hx⟩,st',fun b hb=>(hf b hb).1⟩⟩
 done:=by
  intro X hP hw hK hc i pins s σ H E I hf st hg
  subst hP hw hK
  obtain⟨xs,hq,hx⟩:=hg
  obtain⟨its,rv,p,hz⟩:=I.list hq
  obtain⟨f0,f1,f2,f3,f4,f5⟩:=hf it (by simp)
  have hl:=rv.length
  exact wpAny_pyNext_list_end (I.ok.hd hc) st p.isList (by simp;omega) fun h' eb=>⟨rfl,I.turned (t':=s.toks) (fun b o hb e=>eb b o hb e) f0 f1 f3 f4 f5⟩
 self:=fun _ _ _ _ _ st h=>wpAny_pyIter_listiter st h
theorem AW{P:Program}{w:World}{K:IT}{tg:Expr}(a it:Addr):Turn P w K tg (Itt K a) [it] it (fun i h=>h.IsTupleIter it a i) where
 mem:=by simp
 obj:=fun i h st b hb=>by
  have e:b=it:=by simpa using hb
  subst e
  obtain⟨o,e,c,d⟩:=st
  exact⟨o,e,fun v z=>by rw[d]at z;cases z⟩
 keep:=fun i h h' st k=>st.at fun o e=>k it (by simp) o e
 item:=by
  intro X hP hw hK hc i pins s σ H E I hf st hg
  subst hP hw hK
  obtain⟨xs,x,hq,hx⟩:=hg
  obtain⟨its,rv,p,hz⟩:=I.tuple hq
  obtain⟨u,hu,ru⟩:=rv.get hx
  obtain⟨f0,f1,f2,f3,f4,f5⟩:=hf it (by simp)
  refine wpAny_pyNext_tuple_item st (show s.heap.IsTuple a its.toArray from p) (x:=u) (by simpa using hu) fun h' st' sb=>?_
  have I1:Inv X pins σ H { s with heap:=h' }:=I.turned (t':=s.toks) (fun b o hb e=>(sb.2 b hb).trans e) f0 f1 f3 f4 f5
  obtain⟨o,e,c,d⟩:=id st'
  exact⟨u,rfl,FX (s:={ s with heap:=h' }) e c d (by decide) ⟨x,H,I1,ru,⟨rfl,fun ys hy=>by rw[I.tuple_inj hy hq];exact hx⟩,st',fun b hb=>(hf b hb).1⟩⟩
 done:=by
  intro X hP hw hK hc i pins s σ H E I hf st hg
  subst hP hw hK
  obtain⟨xs,hq,hx⟩:=hg
  obtain⟨its,rv,p,hz⟩:=I.tuple hq
  obtain⟨f0,f1,f2,f3,f4,f5⟩:=hf it (by simp)
  have hl:=rv.length
  exact wpAny_pyNext_tuple_end (I.ok.hd hc) st (show s.heap.IsTuple a its.toArray from p) (by simp;omega) fun h' eb=>⟨rfl,I.turned (t':=s.toks) (fun b o hb e=>eb b o hb e) f0 f1 f3 f4 f5⟩
 self:=fun _ _ _ _ _ st h=>wpAny_pyIter_tupleiter st h
theorem AY{P:Program}{w:World}{K:IT}{tg:Expr}(it:Addr)(lo:Int)(n:Nat):Turn P w K tg (Itr lo n) [it] it (fun i h=>IsRangeIter h it (lo+(i:Nat)*1) ((n:Int)-(i:Nat)) 1) where
 mem:=by simp
 obj:=fun i h st b hb=>by
  have e:b=it:=by simpa using hb
  subst e
  exact⟨_,st,fun v z=>by
   have z':Data.fields _=Data.cell v:=z
   cases z'⟩
 keep:=fun i h h' st k=>k it (by simp) _ st
 item:=by
  intro X hP hw hK hc i pins s σ H E I hf st hg
  subst hP hw hK
  obtain⟨f0,f1,f2,f3,f4,f5⟩:=hf it (by simp)
  have W:=Walks.range (prog:=X.prog) (w:=X.w) (I.ok.hd hc) it lo 1 n
  refine W.item i s _ _ hg st fun v h' tk hv st' kk=>?_
  obtain⟨t,rfl⟩:=hv
  have I1:Inv X pins σ H { s with heap:=h',toks:=tk }:=I.turned (fun b o hb e=>kk b o (by simpa using hb) e) f0 f1 f3 f4 f5
  refine⟨_,rfl,FX (s:={ s with heap:=h',toks:=tk }) (n:="range_iterator") st' rfl rfl (by decide) ⟨.int (lo+i),H,I1,⟨t,?_⟩,⟨rfl,rfl⟩,st',fun b hb=>(hf b hb).1⟩⟩
  rw[Int.mul_one]
 done:=by
  intro X hP hw hK hc i pins s σ H E I hf st hg
  subst hP hw hK
  obtain⟨f0,f1,f2,f3,f4,f5⟩:=hf it (by simp)
  exact wpAny_pyNext_range_end (I.ok.hd hc) st (by have:n<=i:=hg;omega) fun h' eb=>⟨rfl,I.turned (t':=s.toks) (fun b o hb e=>eb b o hb e) f0 f1 f3 f4 f5⟩
 self:=fun _ _ _ _ _ st h=>wpAny_pyIter_rangeiter st h
end L2
namespace L2
open PySem PySem.Spec PyProof.Rows
section
variable{X:Cx}{tg:Expr}
def iList(K:IT)(tl:TE):TI:=fun σ H R=>tl σ H fun x H1=>∃ a,x=.ref a/\(∃ xs,SqL K H1 a xs)/\R (Itl K a) H1
def iTup(K:IT)(tl:TE):TI:=fun σ H R=>tl σ H fun x H1=>∃ a,x=.ref a/\(∃ xs,SqT K H1 a xs)/\R (Itt K a) H1
theorem bc{l:Expr}{tl:TE}(hl:PE X l tl):PI X tg l (iList X.K tl):=by
 intro pins s σ H R I h
 refine thn (hl pins s σ H _ I h) fun v s1 ⟨x,H1,I1,r1,q1⟩=>?_
 obtain⟨a,e,⟨xs,hq⟩,q⟩:=q1
 subst e
 cases r1
 obtain⟨its,rv,p,hz⟩:=I1.list hq
 refine wpAny_pyIter_list p.isList ?_
 refine⟨s1.heap.objs.size,[s1.heap.objs.size],_,_,H1,rfl,I1.kept (t':=s1.toks) fun b o e=>Heap.get?_push_of_some _ e,Ce a _,⟨_,Heap.get?_push_size _ rfl,rfl,rfl⟩,fun b hb=>?_,q⟩
 have e:b=s1.heap.objs.size:=by simpa using hb
 subst e
 exact I1.fpOk (IY _) (I1.hok.fresh (IY _))
theorem Gq{l:Expr}{tl:TE}(hl:PE X l tl):PI X tg l (iTup X.K tl):=by
 intro pins s σ H R I h
 refine thn (hl pins s σ H _ I h) fun v s1 ⟨x,H1,I1,r1,q1⟩=>?_
 obtain⟨a,e,⟨xs,hq⟩,q⟩:=q1
 subst e
 cases r1
 obtain⟨its,rv,p,hz⟩:=I1.tuple hq
 refine wpAny_pyIter_tuple (show s1.heap.IsTuple a its.toArray from p) ?_
 refine⟨s1.heap.objs.size,[s1.heap.objs.size],_,_,H1,rfl,I1.kept (t':=s1.toks) fun b o e=>Heap.get?_push_of_some _ e,AW a _,⟨_,Heap.get?_push_size _ rfl,rfl,rfl⟩,fun b hb=>?_,q⟩
 have e:b=s1.heap.objs.size:=by simpa using hb
 subst e
 exact I1.fpOk (IY _) (I1.hok.fresh (IY _))
theorem Fi{pins:List (Addr×Obj)}{σ:St}{H:Hp}{s:Shared}{R:It->Hp->Prop}{E:Value->Shared->Prop}{lo hi:Int}{t u v:Tok}{tk:Nat}(I:Inv X pins σ H s)(h1 : -(2^62)<=lo)(h2:lo<2^62)(h3 : -(2^62)<=hi)(h4:hi<2^62)
  (q:R (Itr lo (hi-lo).toNat) H):wpAny (model X.prog X.w) X.A (pyIter (.ref s.heap.objs.size)) (PIE X pins σ tg R) E { s with heap:=s.heap.push { cls:=.type "range",data:=.fields #[.int lo t,.int hi u,.int 1 v] },toks:=tk }:=by
 refine wpAny_pyIter_range (IsRange.new ..) (small_one h1 h2 h3 h4) ?_
 have I1:Inv X pins σ H { s with heap:=s.heap.push { cls:=.type "range",data:=.fields #[.int lo t,.int hi u,.int 1 v] },toks:=tk }:=I.kept fun b o e=>Heap.get?_push_of_some _ e
 refine⟨(s.heap.push { cls:=.type "range",data:=.fields #[.int lo t,.int hi u,.int 1 v] }).objs.size,[(s.heap.push { cls:=.type "range",data:=.fields #[.int lo t,.int hi u,.int 1 v] }).objs.size],_,_,H,rfl,
  I1.kept (t':=tk) fun b o e=>Heap.get?_push_of_some _ e,AY _ lo (hi-lo).toNat,?_,fun b hb=>?_,q⟩
 ·have e1:lo+((0:Nat):Int)*1=lo:=by simp
  have e2:(((hi-lo).toNat:Nat):Int)-((0:Nat):Int)=Builtin.Range.rangeSize lo hi 1:=by rw[rangeSize_one];split<;>omega
  show IsRangeIter _ _ (lo+((0:Nat):Int)*1) ((((hi-lo).toNat:Nat):Int)-((0:Nat):Int)) 1
  rw[e1,e2]
  exact Heap.get?_push_size _ rfl
 ·have e:b=(s.heap.push { cls:=.type "range",data:=.fields #[.int lo t,.int hi u,.int 1 v] }).objs.size:=by simpa using hb
  subst e
  exact I1.fpOk (IY _) (I1.hok.fresh (IY _))
def iRng1(ta:TA):TI:=fun σ H R=>ta σ H fun vs H1=>∃ j:Int,vs = [.int j]/\-(2^62)<=j/\j<2^62/\R (Itr 0 j.toNat) H1
theorem cA{a:Expr}{ta:TA}{p pos:Pos} (hg:Gl X "range") (hm:X.mg "range" = none) (ha:PA X [a] ta) (hs:starEach [a] X.env = [(false,eval a X.env)]:=by rfl):PI X tg (.Call (.Name "range" p) [a] [] pos) (iRng1 ta):=by
 intro pins s σ H R I h
 refine Call_ (mS I hg hm boot_range (PyProof.Rows.callWith_type1 (thn (ha pos pins s σ H _ I h) fun us s1 ⟨vs,H1,I1,r1,q1⟩=>?_) hs rfl))
 obtain⟨j,e,q1,q2,q⟩:=q1
 subst e
 cases r1 with
 |cons r rr =>
  cases rr
  obtain⟨t,rfl⟩:=r
  exact call_range_1 (Fi I1 (by omega) (by omega) q1 q2 (by simpa using q))
def tFor(wi:TI)(g:TG)(tb:TS):TS:=fun D σ H=>wi σ H fun J H1=>∃ W:Nat->Nat->St->Hp->Prop,(∃ m,W 0 m σ H1)/\∀ i m σ H,W i m σ H ->
 (J.stop i H/\D.nx σ H)∨(J.go i H/\∃ N:St->Hp->Prop,(∀ σ' H',N σ' H'->∃ m',m'<m/\W (i+1) m' σ' H')/\∀ x H',J.yld i H x H'->g x σ H' fun σ2 H2=>tb { D with nx:=N,ct:=N,bk:=D.nx } σ2 H2)
def rK(fp:List Addr)(h:Heap):List (Addr×Obj):=fp.filterMap fun b=>(h.get? b).map fun o=>(b,o)
theorem cT{fp:List Addr}{h:Heap}{b:Addr}{o:Obj}(hb:b∈fp)(e:h.get? b=some o):(b,o)∈rK fp h:=LX.mpr ⟨b,hb,by rw[e];rfl⟩
theorem Di{fp:List Addr}{h:Heap}{p:Addr×Obj}(hp:p∈rK fp h):p.1∈fp/\h.get? p.1=some p.2:=by
 obtain⟨b,hb,e⟩:=LX.mp hp
 cases q:h.get? b with
 |none=>rw[q]at e;cases e
 |some o =>
  rw[q]at e
  have e':(b,o)=p:=Js e
  subst e'
  exact⟨hb,q⟩
theorem Inv.pinned{pins:List (Addr×Obj)}{σ:St}{H:Hp}{s:Shared}{fp:List Addr}(I:Inv X pins σ H s)(hf:∀ b∈fp,FpOk X pins H b)(ho:∀ b∈fp,∃ o,s.heap.get? b=some o/\∀ v,o.data≠.cell v):Inv X (pins++rK fp s.heap) σ H s :=
 I.pins_of fun p hp=>(Jl.mp hp).elim (fun z=>I.pin p (Jc _ z)) fun z=>by
  obtain⟨hb,e⟩:=Di z
  obtain⟨f0,f1,f2,_⟩:=hf p.1 hb
  obtain⟨o,e',d⟩:=ho p.1 hb
  rw[e]at e';cases e'
  exact⟨e,f0,f1,f2,d⟩
theorem Inv.unpinned{pins pl:List (Addr×Obj)}{σ:St}{H:Hp}{s:Shared}(I:Inv X (pins++pl) σ H s):Inv X pins σ H s:=I.pins_of fun p hp=>I.pin p (Jc _ (JG _ hp))
theorem ck{iter:Expr}{body:List Stmt}{wi:TI}{g:TG}{tb:TS}{pos:Pos}(hp:PassesOwn (model X.prog X.w) X.A X.env X.xe)(hc:X.calm=true)(hi:PI X tg iter wi)(hg:PG X tg g)(hb:PSs X body tb)
  (hs:∀ x,foldedSetIterable iter X.env x=pure x:=by intro _;rfl):PS X (.For tg iter body [] pos) (tFor wi g tb):=by
 intro pins s σ H D I h
 refine wpAny_For (thn (hi pins s σ H _ I h) fun v s1 h1=>thn h1 fun itv s2 h2=>?_) hs
 obtain⟨it,fp,tn,J,H2,e,I2,T,st2,f2,W,⟨m0,w0⟩,turn⟩:=h2
 subst e
 have stat:∀{H':Hp},(∀ b∈fp,H' b=none)->∀ b∈fp,FpOk X pins H' b:=fun hn b hb=>⟨hn b hb,(f2 b hb).2⟩
 refine codeAny_forLoop_any (fun n s'=>∃ i σ' H',Inv X pins σ' H' s'/\tn i s'.heap/\(∀ b∈fp,H' b=none)/\W i n σ' H') ?_ m0 ⟨0,σ,H2,I2,st2,fun b hb=>(f2 b hb).1,w0⟩
 rintro n s3 ⟨i,σ3,H3,I3,st3,fr3,w3⟩
 rcases turn i n σ3 H3 w3 with⟨stop,qn⟩ | ⟨go,N,hN,step⟩
 ·refine wpAny_passesOwn hp (thn (T.done X rfl rfl rfl hc i pins s3 σ3 H3 X.xe I3 (stat fr3) st3 stop) fun r s4 ⟨hr,I4⟩=>?_)
  subst hr
  exact wpAny_execs_nil ⟨σ3,H3,I4,qn⟩
 ·refine wpAny_passesOwn hp (thn (T.item X rfl rfl rfl hc i pins s3 σ3 H3 X.xe I3 (stat fr3) st3 go) fun r s4 ⟨u,hr,h4⟩=>?_)
  subst hr
  refine wpAny_passesOwn hp (thn h4 fun _ s5 ⟨x,H5,I5,r5,y5,st5,fr5⟩=>?_)
  have I5':=I5.pinned (stat fr5) (T.obj _ _ st5)
  refine wpAny_passesOwn hp (thn (hg _ s5 σ3 H5 x u _ I5' r5 (step x H5 y5)) fun _ s6 ⟨σ6,H6,I6,q6⟩=>?_)
  refine wpAny_passesOwn hp (thn (hb _ s6 σ6 H6 _ I6 q6) fun f s7 q7=>?_)
  have again:∀{σ7:St}{H7:Hp},Inv X (pins++rK fp s5.heap) σ7 H7 s7->N σ7 H7->∃ m,m<n/\∃ i σ' H',Inv X pins σ' H' s7/\tn i s7.heap/\(∀ b∈fp,H' b=none)/\W i m σ' H':=fun{σ7 H7} I7 n7=>by
   obtain⟨m',hm,w7⟩:=hN σ7 H7 n7
   refine⟨m',hm,i+1,σ7,H7,I7.unpinned,T.keep _ _ _ st5 fun b hb o e=>(I7.pin (b,o) (Jc _ (Jc _ (cT hb e)))).1,fun b hb=>?_,w7⟩
   obtain⟨o,e,d⟩:=T.obj _ _ st5 b hb
   exact(I7.pin (b,o) (Jc _ (Jc _ (cT hb e)))).2.1
  cases f with
  |next=>obtain⟨σ7,H7,I7,n7⟩:=q7;exact again I7 n7
  |cont=>obtain⟨σ7,H7,I7,n7⟩:=q7;exact again I7 n7
  |brk=>obtain⟨σ7,H7,I7,q7⟩:=q7;exact⟨σ7,H7,I7.unpinned,q7⟩
  |ret v=>obtain⟨x7,σ7,H7,I7,r7,q7⟩:=q7;exact⟨x7,σ7,H7,I7.unpinned,r7,q7⟩
end
theorem cF{K:IT}{a:Addr}{xs:List V}{g:TG}{tb:TS}{D:Ends}{σ:St}{H:Hp}(Pv:Nat->St->Hp->Prop)(h0:Pv 0 σ H)(hl:∀ i σ H,i<=xs.length->Pv i σ H->SqL K H a xs)
  (hs:∀ i x σ H,xs[i]?=some x->Pv i σ H->g x σ H fun σ2 H2=>tb { D with nx:=Pv (i+1),ct:=Pv (i+1),bk:=D.nx } σ2 H2) (hd:∀ σ H,Pv xs.length σ H->D.nx σ H) :
  ∃ W:Nat->Nat->St->Hp->Prop,(∃ m,W 0 m σ H)/\∀ i m σ H,W i m σ H ->
   ((Itl K a).stop i H/\D.nx σ H)∨((Itl K a).go i H/\∃ N:St->Hp->Prop,(∀ σ' H',N σ' H'->∃ m',m'<m/\W (i+1) m' σ' H')/\∀ x H',(Itl K a).yld i H x H'->g x σ H' fun σ2 H2=>tb { D with nx:=N,ct:=N,bk:=D.nx } σ2 H2):=by
 refine⟨fun i m σ H=>m=xs.length-i/\i<=xs.length/\Pv i σ H,⟨xs.length,by simp,Kc _,h0⟩,?_⟩
 rintro i m σ H ⟨rfl,hi,p⟩
 have q:=hl i σ H hi p
 by_cases hlt:i<xs.length
 ·refine .inr ⟨⟨xs,xs[i],q,by simp[hlt]⟩,Pv (i+1),fun σ' H' p'=>⟨xs.length-(i+1),by omega,rfl,hlt,p'⟩,fun x H' y=>?_⟩
  obtain⟨e,y⟩:=y
  subst e
  exact hs i x σ _ (y xs q) p
 ·have e:i=xs.length:=by omega
  subst e
  exact .inl ⟨⟨xs,q,IY _⟩,hd σ H p⟩
theorem iy{lo:Int}{n:Nat}{g:TG}{tb:TS}{D:Ends}{σ:St}{H:Hp}(Pv:Nat->St->Hp->Prop)(h0:Pv 0 σ H)
  (hs:∀ i σ H,i<n->Pv i σ H->g (.int (lo+i)) σ H fun σ2 H2=>tb { D with nx:=Pv (i+1),ct:=Pv (i+1),bk:=D.nx } σ2 H2) (hd:∀ σ H,Pv n σ H->D.nx σ H) :
  ∃ W:Nat->Nat->St->Hp->Prop,(∃ m,W 0 m σ H)/\∀ i m σ H,W i m σ H ->
   ((Itr lo n).stop i H/\D.nx σ H)∨((Itr lo n).go i H/\∃ N:St->Hp->Prop,(∀ σ' H',N σ' H'->∃ m',m'<m/\W (i+1) m' σ' H')/\∀ x H',(Itr lo n).yld i H x H'->g x σ H' fun σ2 H2=>tb { D with nx:=N,ct:=N,bk:=D.nx } σ2 H2):=by
 refine⟨fun i m σ H=>m=n-i/\i<=n/\Pv i σ H,⟨n,by simp,Kc _,h0⟩,?_⟩
 rintro i m σ H ⟨rfl,hi,p⟩
 by_cases hlt:i<n
 ·refine .inr ⟨hlt,Pv (i+1),fun σ' H' p'=>⟨n-(i+1),by omega,rfl,hlt,p'⟩,fun x H' y=>?_⟩
  obtain⟨e,y⟩:=y
  subst e y
  exact hs i σ _ hlt p
 ·have e:i=n:=by omega
  subst e
  exact .inl ⟨IY _,hd σ H p⟩
theorem sF{c:TT}{tb:TS}{D:Ends}{σ:St}{H:Hp}(Pv:St->Hp->Prop)(μ:St->Hp->Nat)(h0:Pv σ H)
  (hs:∀ σ H,Pv σ H->c σ H fun b H1=>if b=true then tb { D with nx:=fun σ' H'=>Pv σ' H'/\μ σ' H'<μ σ H,ct:=fun σ' H'=>Pv σ' H'/\μ σ' H'<μ σ H,bk:=D.nx } σ H1 else D.nx σ H1)
  (mono:∀ σ H Q Q',(∀ b H1,Q b H1->Q' b H1)->c σ H Q->c σ H Q'):Gj c tb D σ H:=by
 refine⟨fun m σ H=>m=μ σ H/\Pv σ H,⟨_,rfl,h0⟩,?_⟩
 rintro m σ H ⟨rfl,p⟩
 refine mono σ H _ _ (fun b H1 q=>?_) (hs σ H p)
 cases b with
 |true=>exact⟨_,fun σ' H' ⟨p',l⟩=>⟨_,l,rfl,p'⟩,q⟩
 |false=>exact q
end L2
namespace L2
open PySem PySem.Spec PyProof.Rows
abbrev R2:=V->V->Hp->VK->Prop
def OpR(X:Cx)(f:Value->Value->Sem Value)(r:R2):Prop :=
 ∀(pins:List (Addr×Obj))(s:Shared)(σ:St)(H:Hp)(x y:V)(v u:Value)(Q:VK),Inv X pins σ H s->RelV x v->RelV y u->r x y H Q ->
  wpAny (model X.prog X.w) X.A (f v u) (EP X pins σ Q) X.xe s
def UnR(X:Cx)(f:Value->Sem Value)(r:V->Hp->VK->Prop):Prop :=
 ∀(pins:List (Addr×Obj))(s:Shared)(σ:St)(H:Hp)(x:V)(v:Value)(Q:VK),Inv X pins σ H s->RelV x v->r x H Q ->
  wpAny (model X.prog X.w) X.A (f v) (EP X pins σ Q) X.xe s
def ku(X:Cx)(f:Value)(r:List V->Hp->VK->Prop):Prop :=
 ∀(pins:List (Addr×Obj))(s:Shared)(σ:St)(H:Hp)(xs:List V)(us:List Value)(Q:VK),Inv X pins σ H s->Vals xs us->r xs H Q ->
  wpAny (model X.prog X.w) X.A (call f us) (EP X pins σ Q) X.xe s
def tOp(r:R2)(ta tb:TE):TE:=fun σ H Q=>ta σ H fun x H1=>tb σ H1 fun y H2=>r x y H2 Q
def tUn(r:V->Hp->VK->Prop)(ta:TE):TE:=fun σ H Q=>ta σ H fun x H1=>r x H1 Q
def rI(C:Int->Int->Prop)(g:Int->Int->V):R2:=fun x y H Q=>∃ i j,x=.int i/\y=.int j/\C i j/\Q (g i j) H
def rI0(g:Int->Int->V):R2:=fun x y H Q=>∃ i j,x=.int i/\y=.int j/\Q (g i j) H
def rU(g:Int->V):V->Hp->VK->Prop:=fun x H Q=>∃ i,x=.int i/\Q (g i) H
section
variable{X:Cx}{a b c:Expr}{ta tb tc:TE}{pos:Pos}
theorem binT(ha:PE X a ta)(hb:PE X b tb){pins:List (Addr×Obj)}{s:Shared}{σ:St}{H:Hp}{R:V->V->Hp->Prop}(I:Inv X pins σ H s)
  (h:ta σ H fun x H1=>tb σ H1 fun y H2=>R x y H2) {Q:Value->Shared->Prop} {f:Value->Value->Sem Value}
  (hf:∀ v u s2 x y H2,Inv X pins σ H2 s2->RelV x v->RelV y u->R x y H2->wpAny (model X.prog X.w) X.A (f v u) Q X.xe s2) :
  wpAny (model X.prog X.w) X.A (eval a X.env) (fun v s₁=>wpAny (model X.prog X.w) X.A (eval b X.env) (fun u s₂=>wpAny (model X.prog X.w) X.A (f v u) Q X.xe s₂) X.xe s₁) X.xe s:=by
 refine thn (ha pins s σ H _ I h) fun v s1 ⟨x,H1,I1,r1,q1⟩=>?_
 refine thn (hb pins s1 σ H1 _ I1 q1) fun u s2 ⟨y,H2,I2,r2,q2⟩=>?_
 exact hf v u s2 x y H2 I2 r1 r2 q2
theorem aC{op:Operator}{r:R2}(ho:OpR X (binaryOp op) r)(ha:PE X a ta)(hb:PE X b tb):PE X (.BinOp a op b pos) (tOp r ta tb):=by
 intro pins s σ H Q I h
 exact wpAny_BinOp (binT ha hb I h fun v u s2 x y H2 I2 rx ry q=>ho pins s2 σ H2 x y v u Q I2 rx ry q)
theorem Fn{op:UnaryOp}{r:V->Hp->VK->Prop}(ho:UnR X (unaryOp op) r)(ha:PE X a ta):PE X (.UnaryOp op a pos) (tUn r ta):=by
 intro pins s σ H Q I h
 exact UnaryOp_ (thn (ha pins s σ H _ I h) fun v s1 ⟨x,H1,I1,r1,q1⟩=>ho pins s1 σ H1 x v Q I1 r1 q1)
theorem opI{f:Value->Value->Sem Value}{C:Int->Int->Prop}{g:Int->Int->Int}
  (rule:∀(i j:Int)(t u:Tok)(s:Shared)(Q:Value->Shared->Prop)(E:Value->Shared->Prop),C i j->Q (.int (g i j) s.toks) { s with toks:=s.toks+1 }->wpAny (model X.prog X.w) X.A (f (.int i t) (.int j u)) Q E s) :
  OpR X f (rI C fun i j=>.int (g i j)):=by
 intro pins s σ H x y v u Q I rx ry h
 obtain⟨i,j,rfl,rfl,hc,q⟩:=h
 obtain⟨t,rfl⟩:=rx
 obtain⟨t',rfl⟩:=ry
 exact rule i j t t' s _ _ hc ⟨.int (g i j),H,I.tok _,⟨_,rfl⟩,q⟩
theorem opI0{f:Value->Value->Sem Value}{g:Int->Int->Int}
  (rule:∀(i j:Int)(t u:Tok)(s:Shared)(Q:Value->Shared->Prop)(E:Value->Shared->Prop),Q (.int (g i j) s.toks) { s with toks:=s.toks+1 }->wpAny (model X.prog X.w) X.A (f (.int i t) (.int j u)) Q E s) :
  OpR X f (rI0 fun i j=>.int (g i j)):=by
 intro pins s σ H x y v u Q I rx ry h
 obtain⟨i,j,rfl,rfl,q⟩:=h
 obtain⟨t,rfl⟩:=rx
 obtain⟨t',rfl⟩:=ry
 exact rule i j t t' s _ _ ⟨.int (g i j),H,I.tok _,⟨_,rfl⟩,q⟩
theorem opB0{f:Value->Value->Sem Value}{g:Int->Int->Bool}
  (rule:∀(i j:Int)(t u:Tok)(s:Shared)(Q:Value->Shared->Prop)(E:Value->Shared->Prop),Q (.bool (g i j)) s->wpAny (model X.prog X.w) X.A (f (.int i t) (.int j u)) Q E s) :
  OpR X f (rI0 fun i j=>.bl (g i j)):=by
 intro pins s σ H x y v u Q I rx ry h
 obtain⟨i,j,rfl,rfl,q⟩:=h
 obtain⟨t,rfl⟩:=rx
 obtain⟨t',rfl⟩:=ry
 exact rule i j t t' s _ _ ⟨.bl (g i j),H,I,rfl,q⟩
def CDiv(i j:Int):Prop:=0<j/\j<1073741824
def CPow(i j:Int):Prop:=0<=j/\j<=1000000/\i.natAbs<2^64
def CMul(i j:Int):Prop:=(-(2^64)<i/\i<2^64)∨(-(2^64)<j/\j<2^64)
theorem CMul.ok{i j:Int}(h:CMul i j):IntMulOk i j:=by
 rcases h with⟨h1,h2⟩ | ⟨h1,h2⟩
 ·exact .of_left (intBits_le_64 h1 h2)
 ·exact .of_right (intBits_le_64 h1 h2)
theorem AV(k:Nat):(0:Int)<=2^k:=by
 rw[two_pow_cast]
 exact LZ _
theorem cL:OpR X (binaryOp .Add) (rI0 fun i j=>.int (i+j)):=opI0 fun _ _ _ _ _ _ _ q=>add_int q
theorem As:OpR X (binaryOp .Sub) (rI0 fun i j=>.int (i-j)):=opI0 fun _ _ _ _ _ _ _ q=>sub_int q
theorem rM:OpR X (binaryOp .Mult) (rI CMul fun i j=>.int (i*j)):=opI fun _ _ _ _ _ _ _ hc q=>mul_int q hc.ok
theorem fq:OpR X (binaryOp .FloorDiv) (rI CDiv fun i j=>.int (i/j)):=opI fun i j _ _ _ _ _ hc q=>by
 have h1:(0:Int)<j:=hc.1
 have h2:j<1073741824:=hc.2
 exact floordiv_int (by omega) (by rw[Mn i (by omega)];exact q) (.inl (PyProof.noPylong_small (by omega)))
theorem eW:OpR X (binaryOp .Mod) (rI (fun _ j=>0<j) fun i j=>.int (i%j)):=opI fun i j _ _ _ _ _ hc q=>by
 have h1:(0:Int)<j:=hc
 exact mod_int' (by omega) (by rw[Int.fmod_eq_emod_of_nonneg i (by omega)];exact q)
theorem op_pow:OpR X (binaryOp .Pow) (rI CPow fun i j=>.int (i^j.toNat)):=opI fun _ _ _ _ _ _ _ hc q=>pow_int_small hc.1 hc.2.1 hc.2.2 q
theorem g9:OpR X (binaryOp .LShift) (rI CPow fun i j=>.int (i*2^j.toNat)):=opI fun _ _ _ _ _ _ _ hc q=>lshift_int_small hc.1 hc.2.1 hc.2.2 q
theorem Au:OpR X (binaryOp .RShift) (rI (fun _ j=>0<=j) fun i j=>.int (i/2^j.toNat)):=opI fun i j _ _ _ _ _ hc q =>
 rshift_int hc (by rw[Mn i (AV _)];exact q)
theorem oE:OpR X (binaryOp .BitAnd) (rI0 fun i j=>.int (Builtin.bitAnd i j)):=opI0 fun _ _ _ _ _ _ _ q=>and_int q
theorem yn:OpR X (binaryOp .BitOr) (rI0 fun i j=>.int (Builtin.bitOr i j)):=opI0 fun _ _ _ _ _ _ _ q=>or_int q
theorem op_xor:OpR X (binaryOp .BitXor) (rI0 fun i j=>.int (Builtin.bitXor i j)):=opI0 fun _ _ _ _ _ _ _ q=>xor_int q
theorem unI{f:Value->Sem Value}{g:Int->Int}
  (rule:∀(i:Int)(t:Tok)(s:Shared)(Q:Value->Shared->Prop)(E:Value->Shared->Prop),Q (.int (g i) s.toks) { s with toks:=s.toks+1 }->wpAny (model X.prog X.w) X.A (f (.int i t)) Q E s) :
  UnR X f (rU fun i=>.int (g i)):=by
 intro pins s σ H x v Q I rx h
 obtain⟨i,rfl,q⟩:=h
 obtain⟨t,rfl⟩:=rx
 exact rule i t s _ _ ⟨.int (g i),H,I.tok _,⟨_,rfl⟩,q⟩
theorem Ae:UnR X (unaryOp .USub) (rU fun i=>.int (-i)):=unI fun _ _ _ _ _ q=>neg_int q
end
def scal:V->V->Bool
 |.non,.non=>true | .non,.int _=>true | .int _,.non=>true | .non,.bl _=>true | .bl _,.non=>true | .non,.str _=>true | .str _,.non=>true
 |.int _,.int _=>true | .bl _,.bl _=>true | .str _,.str _=>true | .byt _,.byt _=>true
 |.int _,.str _=>true | .str _,.int _=>true | .bl _,.str _=>true | .str _,.bl _=>true
 |_,_=>false
def rEq:R2:=fun x y H Q=>scal x y=true/\Q (.bl (decide (x=y))) H
def rNe:R2:=fun x y H Q=>scal x y=true/\Q (.bl (!decide (x=y))) H
theorem Ec{i j:Int}:decide (V.int i=V.int j)=(i == j):=by
 rw[LP]
 simp
theorem GD{i j:Bool}:decide (V.bl i=V.bl j)=(i == j):=by
 rw[LP]
 simp
theorem Eb{i j:Str}:decide (V.str i=V.str j)=(i == j):=by
 rw[LP]
 simp
theorem Ed{i j:Array UInt8}:decide (V.byt i=V.byt j)=(i.toList == j.toList):=by
 rw[LP]
 cases i
 cases j
 simp
section
variable{X:Cx}{a b c:Expr}{ta tb tc:TE}{pos:Pos}
theorem aX{pins:List (Addr×Obj)}{σ:St}{H:Hp}{s:Shared}{Q:VK}{k k':Bool}(I:Inv X pins σ H s)(q:Q (.bl k) H)(e:k=k'):EP X pins σ Q (.bool k') s:=by
 subst e
 exact⟨.bl k,H,I,rfl,q⟩
theorem lG:OpR X (compareOp .Eq) rEq:=by
 intro pins s σ H x y v u Q I rx ry h
 obtain⟨hs,q⟩:=h
 cases x with
 |non =>
  cases rx
  cases y with
  |non=>cases ry;exact PySem.EqNone.eq_none_none (aX I q (by simp))
  |bl j=>cases ry;exact PySem.EqNone.eq_none_bool (aX I q (by simp))
  |int j=>obtain⟨t',rfl⟩:=ry;exact PySem.EqNone.eq_none_int (aX I q (by simp))
  |str j=>obtain⟨t',rfl⟩:=ry;exact PySem.EqNone.eq_none_str (aX I q (by simp))
  |_=>exact absurd (show false=true from hs) Jo
 |bl i =>
  cases rx
  cases y with
  |non=>cases ry;exact PySem.EqNone.eq_bool_none (aX I q (by simp))
  |bl j=>cases ry;exact eq_bool (aX I q GD)
  |str j=>obtain⟨t',rfl⟩:=ry;exact PySem.EqMixed.eq_bool_str (aX I q (by simp))
  |_=>exact absurd (show false=true from hs) Jo
 |int i =>
  obtain⟨t,rfl⟩:=rx
  cases y with
  |non=>cases ry;exact PySem.EqNone.eq_int_none (aX I q (by simp))
  |int j=>obtain⟨t',rfl⟩:=ry;exact eq_int (aX I q Ec)
  |str j=>obtain⟨t',rfl⟩:=ry;exact PySem.EqMixed.eq_int_str (aX I q (by simp))
  |_=>exact absurd (show false=true from hs) Jo
 |str i =>
  obtain⟨t,rfl⟩:=rx
  cases y with
  |non=>cases ry;exact PySem.EqNone.eq_str_none (aX I q (by simp))
  |bl j=>cases ry;exact PySem.EqMixed.eq_str_bool (aX I q (by simp))
  |int j=>obtain⟨t',rfl⟩:=ry;exact PySem.EqMixed.eq_str_int (aX I q (by simp))
  |str j=>obtain⟨t',rfl⟩:=ry;exact eq_str (aX I q Eb)
  |_=>exact absurd (show false=true from hs) Jo
 |byt i =>
  obtain⟨t,rfl⟩:=rx
  cases y with
  |byt j=>obtain⟨t',rfl⟩:=ry;exact PySem.W.eq_bytes (aX I q Ed)
  |_=>exact absurd (show false=true from hs) Jo
 |_=>cases y<;>exact absurd (show false=true from hs) Jo
theorem jF:OpR X (compareOp .NotEq) rNe:=by
 intro pins s σ H x y v u Q I rx ry h
 obtain⟨hs,q⟩:=h
 cases x with
 |non =>
  cases rx
  cases y with
  |non=>cases ry;exact PySem.EqNone.ne_none_none (aX I q (by simp))
  |bl j=>cases ry;exact PySem.EqNone.ne_none_bool (aX I q (by simp))
  |int j=>obtain⟨t',rfl⟩:=ry;exact PySem.EqNone.ne_none_int (aX I q (by simp))
  |str j=>obtain⟨t',rfl⟩:=ry;exact PySem.EqNone.ne_none_str (aX I q (by simp))
  |_=>exact absurd (show false=true from hs) Jo
 |bl i =>
  cases rx
  cases y with
  |non=>cases ry;exact PySem.EqNone.ne_bool_none (aX I q (by simp))
  |bl j=>cases ry;exact ne_bool (aX I q (congrArg not GD))
  |str j=>obtain⟨t',rfl⟩:=ry;exact PySem.EqMixed.ne_bool_str (aX I q (by simp))
  |_=>exact absurd (show false=true from hs) Jo
 |int i =>
  obtain⟨t,rfl⟩:=rx
  cases y with
  |non=>cases ry;exact PySem.EqNone.ne_int_none (aX I q (by simp))
  |int j=>obtain⟨t',rfl⟩:=ry;exact ne_int (aX I q (congrArg not Ec))
  |str j=>obtain⟨t',rfl⟩:=ry;exact PySem.EqMixed.ne_int_str (aX I q (by simp))
  |_=>exact absurd (show false=true from hs) Jo
 |str i =>
  obtain⟨t,rfl⟩:=rx
  cases y with
  |non=>cases ry;exact PySem.EqNone.ne_str_none (aX I q (by simp))
  |bl j=>cases ry;exact PySem.EqMixed.ne_str_bool (aX I q (by simp))
  |int j=>obtain⟨t',rfl⟩:=ry;exact PySem.EqMixed.ne_str_int (aX I q (by simp))
  |str j=>obtain⟨t',rfl⟩:=ry;exact ne_str (aX I q (congrArg not Eb))
  |_=>exact absurd (show false=true from hs) Jo
 |byt i =>
  obtain⟨t,rfl⟩:=rx
  cases y with
  |byt j=>obtain⟨t',rfl⟩:=ry;exact PySem.W.ne_bytes (aX I q (congrArg not Ed))
  |_=>exact absurd (show false=true from hs) Jo
 |_=>cases y<;>exact absurd (show false=true from hs) Jo
theorem Fs:OpR X (compareOp .Lt) (rI0 fun i j=>.bl (decide (i<j))):=opB0 fun _ _ _ _ _ _ _ q=>lt_int q
theorem op_le:OpR X (compareOp .LtE) (rI0 fun i j=>.bl (decide (i<=j))):=opB0 fun _ _ _ _ _ _ _ q=>le_int q
theorem Dc:OpR X (compareOp .Gt) (rI0 fun i j=>.bl (decide (j<i))):=opB0 fun _ _ _ _ _ _ _ q=>gt_int q
theorem op_ge:OpR X (compareOp .GtE) (rI0 fun i j=>.bl (decide (j<=i))):=opB0 fun _ _ _ _ _ _ _ q=>ge_int q
theorem op_isN:OpR X (compareOp .Is) (fun x y H Q=>y=.non/\Q (.bl (decide (x=.non))) H):=by
 intro pins s σ H x y v u Q I rx ry h
 obtain⟨rfl,q⟩:=h
 cases ry
 refine is_none_gen (aX I q ?_)
 cases x<;>first
  | (cases rx;rfl)
  | (obtain⟨t,rfl⟩:=rx;rfl)
theorem aJ(b:Expr){op:CmpOp}(h:op≠.In:=by decide)(h2:op≠.NotIn:=by decide):behindInMarks op b=false:=by
 have e1:(op == CmpOp.In)=false:=by cases op<;>first | rfl | exact absurd rfl h
 have e2:(op == CmpOp.NotIn)=false:=by cases op<;>first | rfl | exact absurd rfl h2
 cases b<;>simp[behindInMarks,e1,e2]
theorem ym{op:CmpOp}{r:R2}(ho:OpR X (compareOp op) r)(ha:PE X a ta)(hb:PE X b tb)(hm:behindInMarks op b=false):PE X (.Compare a [op] [b] pos) (tOp r ta tb):=by
 intro pins s σ H Q I h
 exact wpAny_Compare1 (binT ha hb I h fun v u s2 x y H2 I2 rx ry q=>ho pins s2 σ H2 x y v u Q I2 rx ry q) hm
def tTest(t:TE):TT:=fun σ H Q=>t σ H fun x H'=>∃ k,x=.bl k/\Q k H'
theorem aE{op:CmpOp}{r:R2}(ho:OpR X (compareOp op) r)(ha:PE X a ta)(hb:PE X b tb)(hm:behindInMarks op b=false):PT X (.Compare a [op] [b] pos) (tTest (tOp r ta tb)):=by
 intro pins s σ H Q I h
 refine wpAny_isTrue_Compare1 (thn (ha pins s σ H _ I h) fun v s1 ⟨x,H1,I1,r1,q1⟩=>thn (hb pins s1 σ H1 _ I1 q1) fun u s2 ⟨y,H2,I2,r2,q2⟩ =>
  thn (ho pins s2 σ H2 x y v u _ I2 r1 r2 q2) fun c s3 ⟨z,H3,I3,r3,k,e,q3⟩=>?_) hm
 subst e
 cases r3
 exact wpAny_truthy_bool ⟨H3,I3,q3⟩
theorem Az:(sizeLine:Nat)<2^63:=by rw[sizeLine_eq];decide
theorem vb{x:V}{us:List Value}(r:Vals [x] us):∃ u,us = [u]/\RelV x u:=by
 cases r with
 |cons r1 r2=>cases r2;exact⟨_,rfl,r1⟩
theorem EZ{x y:V}{us:List Value}(r:Vals [x,y] us):∃ u w',us = [u,w']/\RelV x u/\RelV y w':=by
 cases r with
 |cons r1 r2 =>
  cases r2 with
  |cons r3 r4=>cases r4;exact⟨_,_,rfl,r1,r3⟩
theorem EE(hc:X.calm=true):ku X (.builtin "max") (fun xs H Q=>∃ i j,xs = [.int i,.int j]/\Q (.int (if j > i then j else i)) H):=by
 intro pins s σ H xs us Q I r h
 obtain⟨i,j,rfl,q⟩:=h
 obtain⟨u,w',rfl,⟨t,rfl⟩,⟨t',rfl⟩⟩:=EZ r
 refine max_two_ints (I.ok.hd hc) fun h' tk k=>⟨_,H,I.kept k,?_,q⟩
 by_cases hj:j > i
 ·rw[if_pos hj,if_pos hj];exact⟨_,rfl⟩
 ·rw[if_neg hj,if_neg hj];exact⟨_,rfl⟩
end
end L2
namespace L2
open PySem PySem.Spec PyProof.Rows
structure ObjM(h:Heap)(x dx C:Addr)(mA:Str->Option Value):Prop where
 obj:h.get? x=some (KN C dx)
 ns:h.Ns1 dx mA
 ne:dx≠x
theorem Dv{h:Heap}{dx:Addr}{mA:Str->Option Value}(n:h.Ns1 dx mA):∃ od,h.get? dx=some od/\∀ name,LQ name od=some (mA name):=by
 obtain⟨o,es,ep,ho,hd,hk,_,hm⟩:=n
 refine⟨o,ho,fun name=>?_⟩
 have e:=hm name
 unfold nsFind findBy at e
 rw[← Array.find?_toList]at e
 unfold LQ
 rw[hd]
 dsimp only
 split
 ·rename_i y q
  rw[q]at e
  exact congrArg some e
 ·rename_i q
  rw[q]at e
  have a:es.toList.any (·.refKey)=false:=by
   rw[List.any_eq_false]
   intro y hy
   obtain⟨z,t,hkey⟩:=hk y (Array.mem_toList_iff.mp hy)
   simp[DictEntry.refKey,hkey]
  have a':¬ es.toList.any (·.refKey)=true:=by rw[a];exact Jo
  rw[if_neg a']
  exact congrArg some e
theorem ObjM.look{h:Heap}{x dx C:Addr}{mA:Str->Option Value}(I:ObjM h x dx C mA):∃ od,PySem.W.InstAt h x (KN C dx) C (some od)/\∀ name,LQ name od=some (mA name) :=
 let ⟨od,ho,hl⟩:=Dv I.ns
 ⟨od,⟨I.obj,rfl,rfl,ho⟩,hl⟩
section
variable{prog:Program}{w:World}{A:Around}{E:Value->Shared->Prop}{s:Shared}{K:IT}{x dx C f:Addr}{mA:Str->Option Value}{name:Str}{v:Value}
theorem Ir{expr:Bool}{Q:Value->Shared->Prop}(X:K.In s.heap)(I:ObjM s.heap x dx C mA)(hg:KP K C name=true)(hh:Kq K C=true)
  (ha:Jm K (.ref C) name=some none) (hv:mA name=some v) (hv':PySem.W.handedIn v=true) (h:Q v { s with toks:=s.toks+1 }) :
  wpAny (model prog w) A (getAttr (.ref x) name expr) Q E s:=by
 obtain⟨od,J,hl⟩:=I.look
 exact PySem.W.get_value X J (LS hg).1 (PySem.W.findObj_own hh ha rfl (by rw[hl,hv])) hv' h
theorem FY{pl:Sem Bool}{Q:Value×List Value->Shared->Prop}(X:K.In s.heap)(I:ObjM s.heap x dx C mA)(hg:KP K C name=true)
  (hf:Jm K (.ref C) name=some (some (.ref f))) (ht:KW K (.ref f)=true) (hv:mA name=none) (h:Q (.ref f,[.ref x]) s) :
  wpAny (model prog w) A (getMethod (.ref x) name pl) Q E s:=by
 obtain⟨od,J,hl⟩:=I.look
 exact PySem.W.method_fn X J (LS hg).1 (LS hg).2 hf (beq_iff_eq.mp ht) (by show(LQ name od).map (·.isSome)=some false;rw[hl,hv];rfl) h
theorem Hm{ns:List Str}{Q:Unit->Shared->Prop}(X:K.In s.heap)(I:ObjM s.heap x dx C mA)
  (hs:Jm K (.ref C) "__setattr__" = some (some (.builtin "object.__setattr__"))) (hp:Lc K C=true) (ht:Mi K C name=some none) (hh:Kq K C=true)
  (hw:PySem.Within mA ns) (hsz:ns.length<=sizeLine)
  (h:∀ h',ObjM h' x dx C (fun y=>if y=name then some v else mA y)->Heap.SameBut dx s.heap h'->Q () { s with heap:=h',toks:=s.toks+2 }) :
  wpAny (model prog w) A (setAttr (.ref x) name v) Q E s:=by
 obtain⟨od,J,hl⟩:=I.look
 refine PySem.W.set_plain X J hs (PySem.W.osa_open (s:={ s with toks:=s.toks+1 }) (r:=none) X J hp ht fun b=>?_)
 obtain⟨cd,hc,hd'⟩:=Me hh
 have hx:s.heap.get? x=some ⟨.ref C,some dx,.plain,#[]⟩:=I.obj
 refine wpAny_bind (wpAny_pure (wpAny_bind (wpAny_bind (wpAny_loadPart hx (wpAny_bind (PySem.W.Looks.here (s:={ s with toks:=s.toks+1 }) (PySem.W.looks_clsIn X hc) ?_))))))
 rw[hd']
 refine wpAny_pure (a:=some dx) (wpAny_bind (wpAny_pure (wpAny_bind ?_)))
 refine wpAny_nsSet1 (s:={ s with toks:=s.toks+1 }) I.ns fun h' hn2 hs2=>?_
 obtain⟨oD,esD,epD,hoD,hdD,hcD⟩:=hn2.count (PySem.Within.cons name v hw)
 refine wpAny_bind (wpAny_lookBehind hoD (by rw[hdD];exact pastItsLine_dict (JS hcD (by rw[JL];omega))) ?_)
 exact wpAny_pure (h _ ⟨(hs2.2 _ (Ne.symm I.ne)).trans I.obj,hn2,I.ne⟩ hs2)
theorem FG{R:Result->Shared->Prop}{vs:List Value}{kw:List (Str×Value)}(X:K.In s.heap)(hm:Lp K C=true)
  (hi:Jm K (.ref C) "__init__" = some (some (.ref f))) (hf:PySem.W.typeIn K (.ref f)=some (.type "function"))
  (h:codeAny (model prog w) (A.under (.builtin "type.__call__" ⟨.ref C::vs,kw⟩)) (.call (.ref f) ⟨.ref (s.heap.objs.size+1)::vs,kw⟩) (PySem.W.InitBack (s.heap.objs.size+1) R)
   { s with heap:=(s.heap.push Kr).push (KN C s.heap.objs.size) }) :
  codeAny (model prog w) A (.call (.ref C) ⟨vs,kw⟩) R s:=by
 obtain⟨hh,g,d,t,os⟩:=s
 exact PySem.W.make_core (PySem.W.makes_of X hm) (Lm X hi) (fun self=>PySem.W.bind_fn X self hf) (.inl rfl) h
end
def putF(f:Str)(v:V):List (Str×V)->List (Str×V)
 |[]=>[(f,v)]
 | (g,x)::r=>if g=f then(g,v)::r else(g,x)::putF f v r
theorem ar(f g:Str)(v:V):∀ fs:List (Str×V),(putF f v fs).lookup g=if g=f then some v else fs.lookup g
 |[]=>by
  show Lr g [(f,v)]=_
  by_cases h:g=f
  ·have hb:(g == f)=true:=beq_iff_eq.mpr h
   simp only[Lr,hb,if_pos h]
  ·have hb:(g == f)=false:=beq_eq_false_iff_ne.mpr h
   simp only[Lr,hb,if_neg h]
 | (k,x)::r=>by
  have ih:=ar f g v r
  rw[show putF f v ((k,x)::r)=(if k=f then(k,v)::r else(k,x)::putF f v r) from rfl]
  by_cases hk:k=f
  ·rw[if_pos hk]
   by_cases h:g=k
   ·have hb:(g == k)=true:=beq_iff_eq.mpr h
    simp only[Lr,hb,if_pos (h.trans hk)]
   ·have hb:(g == k)=false:=beq_eq_false_iff_ne.mpr h
    simp only[Lr,hb,if_neg (fun e:g=f=>h (e.trans hk.symm))]
  ·rw[if_neg hk]
   by_cases h:g=k
   ·have hb:(g == k)=true:=beq_iff_eq.mpr h
    simp only[Lr,hb,if_neg (fun e:g=f=>hk (h.symm.trans e))]
   ·have hb:(g == k)=false:=beq_eq_false_iff_ne.mpr h
    simp only[Lr,hb]
    exact ih
theorem oX(f:Str)(v:V):∀ fs:List (Str×V),f∈(putF f v fs).map (·.1)/\∀ g,g∈fs.map (·.1)->g∈(putF f v fs).map (·.1)
 |[]=>⟨by simp[putF],fun g h=>by simp at h⟩
 | (k,x)::r=>by
  obtain⟨i1,i2⟩:=oX f v r
  rw[show putF f v ((k,x)::r)=(if k=f then(k,v)::r else(k,x)::putF f v r) from rfl]
  by_cases hk:k=f
  ·rw[if_pos hk]
   subst hk
   exact⟨by simp,fun g h=>by simpa using h⟩
  ·rw[if_neg hk]
   refine⟨?_,fun g h=>?_⟩
   ·rw[JJ]
    exact Jk _ i1
   ·rw[JJ]at h ⊢
    rcases Ja.mp h with e | e
    ·exact Ja.mpr (.inl e)
    ·exact Jk _ (i2 g e)
theorem oP(f:Str)(v:V):∀ fs:List (Str×V),(putF f v fs).length<=fs.length+1
 |[]=>by simp[putF]
 | (k,x)::r=>by
  have ih:=oP f v r
  rw[show putF f v ((k,x)::r)=(if k=f then(k,v)::r else(k,x)::putF f v r) from rfl]
  by_cases hk:k=f
  ·rw[if_pos hk,JL,JL];omega
  ·rw[if_neg hk,JL,JL];omega
theorem RelO.some_of{v:V}{o:Option Value}(r:RelO (some v) o):∃ u,o=some u/\RelV v u:=by
 cases o with
 |none=>exact(show False from r).elim
 |some u=>exact⟨u,rfl,r⟩
theorem RelO.none_of{o:Option Value}(r:RelO none o):o=none:=by
 cases o with
 |none=>rfl
 |some u=>exact(show False from r).elim
theorem DV{v:V}{u:Value}(r:RelV v u):PySem.W.handedIn u=true:=by
 cases v with
 |non=>cases (show u=Value.none from r);rfl
 |bl b=>cases (show u=Value.bool b from r);rfl
 |int i=>obtain⟨t,e⟩:=(show ∃ t,u=Value.int i t from r);cases e;rfl
 |str x=>obtain⟨t,e⟩:=(show ∃ t,u=Value.str x t from r);cases e;rfl
 |byt b=>obtain⟨t,e⟩:=(show ∃ t,u=Value.bytes b t from r);cases e;rfl
 |flt b=>obtain⟨t,e⟩:=(show ∃ t,u=Value.float b t from r);cases e;rfl
 |ref a=>cases (show u=Value.ref a from r);rfl
 |ty n=>cases (show u=Value.type n from r);rfl
section
variable{P:Program}{w:World}{H H':Hp}{h h':Heap}{a C dx:Addr}{fs fs':List (Str×V)}
theorem uk(hok:HOk P w H h)(e:H a=some (.ins C dx fs)):∃ mA,ObjM h a dx C mA/\(∀ f,RelO (fs.lookup f) (mA f))/\PySem.Within mA (fs.map (·.1))/\fs.length<=1000/\H dx=some (.own a):=by
 obtain⟨d,z,ne,ob,mA,n,r,q⟩:=(show br P w H h a (.ins C dx fs) from hok a _ e)
 exact⟨mA,⟨ob,n,ne⟩,r,q,z,d⟩
end
structure Cls(K:IT)(C:Addr):Prop where
 pg:KP K C Str.empty=true
 hd:Kq K C=true
 po:Lc K C=true
 sa:Jm K (.ref C) "__setattr__" = some (some (.builtin "object.__setattr__"))
theorem Cls.get{K:IT}{C:Addr}(c:Cls K C)(f:Str):KP K C f=true:=c.pg
def fj(K:IT)(C:Addr)(f:Str):Prop:=Jm K (.ref C) f=some none
theorem fj.taker{K:IT}{C:Addr}{f:Str}(n:fj K C f):Mi K C f=some none:=by
 unfold Mi
 rw[show Jm K (.ref C) f=some none from n]
 rfl
structure Meth(K:IT)(C:Addr)(m:Str)(f:Addr):Prop where
 at_:Jm K (.ref C) m=some (some (.ref f))
 fn:KW K (.ref f)=true
 kp:Jd K (.ref f)=true
section
variable{X:Cx}{pins:List (Addr×Obj)}{σ:St}{H:Hp}{s:Shared}{a C dx:Addr}{fs:List (Str×V)}{f:Str}{v:V}{A:Around}{E:Value->Shared->Prop}
theorem BJ{b:Bool}{Q:Value->Shared->Prop}(I:Inv X pins σ H s)(e:H a=some (.ins C dx fs))(c:Cls X.K C)(n:fj X.K C f)(l:fs.lookup f=some v)
  (h:∀ u s',Inv X pins σ H s'->RelV v u->Q u s'):wpAny (model X.prog X.w) A (getAttr (.ref a) f b) Q E s:=by
 obtain⟨mA,O,r,_,_,_⟩:=uk I.hok e
 obtain⟨u,hu,ru⟩:=RelO.some_of (v:=v) (o:=mA f) (by rw[← l];exact r f)
 exact Ir I.kIn O (c.get f) c.hd n hu (DV ru) (h u _ (I.tok _) ru)
theorem rP{m:Str}{g:Addr}{pl:Sem Bool}{Q:Value×List Value->Shared->Prop}(I:Inv X pins σ H s)(e:H a=some (.ins C dx fs))(c:Cls X.K C)(k:Meth X.K C m g)(l:fs.lookup m=none)
  (h:Q (.ref g,[.ref a]) s):wpAny (model X.prog X.w) A (getMethod (.ref a) m pl) Q E s:=by
 obtain⟨mA,O,r,_,_,_⟩:=uk I.hok e
 have hn:mA m=none:=RelO.none_of (by rw[← l];exact r m)
 exact FY I.kIn O (c.get m) k.at_ k.fn hn h
theorem A5{y:V}{u:Value}{Q:Unit->Shared->Prop}(I:Inv X pins σ H s)(e:H a=some (.ins C dx fs))(c:Cls X.K C)(n:fj X.K C f)(hl:fs.length<1000)(ry:RelV y u)
  (h:∀ s',Inv X pins σ (upd H a (.ins C dx (putF f y fs))) s'->Q () s'):wpAny (model X.prog X.w) A (setAttr (.ref a) f u) Q E s:=by
 obtain⟨mA,O,r,wi,_,ho⟩:=uk I.hok e
 have hz:(fs.map (·.1)).length<=sizeLine:=by rw[IV,sizeLine_eq];omega
 refine Hm I.kIn O c.sa c.po n.taker c.hd wi hz fun h' O' sb=>h _ ?_
 have hd:∃ o,h'.get? dx=some o:=let ⟨o,_,_,e',_⟩:=O'.ns;⟨o,e'⟩
 refine I.write (x:=a) (e:=dx) (by rw[e];exact True.intro) (.inr ho) (fun b q hb z=>(sb.2 b hb).trans z) hd ?_
 refine⟨by rw[ao O.ne];exact ho,?_,O.ne,O'.obj,_,O'.ns,fun g=>?_,fun g hg=>?_⟩
 ·have:=oP f y fs;omega
 ·show RelO ((putF f y fs).lookup g) (if g=f then some u else mA g)
  rw[ar]
  by_cases q:g=f
  ·rw[if_pos q,if_pos q];exact ry
  ·rw[if_neg q,if_neg q];exact r g
 ·by_cases q:g=f
  ·rw[q];exact(oX f y fs).1
  ·refine(oX f y fs).2 g (wi g fun z=>hg ?_)
   show(if g=f then some u else mA g)=none
   rw[if_neg q];exact z
theorem Inv.made(I:Inv X pins σ H s):Inv X pins σ (upd (upd H s.heap.objs.size (.own (s.heap.objs.size+1))) (s.heap.objs.size+1) (.ins C s.heap.objs.size []))
  { s with heap:=(s.heap.push Kr).push (KN C s.heap.objs.size) }:=by
 have e1:(s.heap.push Kr).get? s.heap.objs.size=some Kr:=Heap.get?_push_size s.heap rfl
 have e2:((s.heap.push Kr).push (KN C s.heap.objs.size)).get? (s.heap.objs.size+1)=some (KN C s.heap.objs.size):=by
  have:=Heap.get?_push_size (s.heap.push Kr) (o:=KN C s.heap.objs.size) rfl
  rwa[Heap.size_push]at this
 have e3:(s.heap.push Kr).Ns s.heap.objs.size (fun _=>none):=⟨Kr,#[],_,e1,rfl,(fun e he=>absurd he (by simp)),fun _=>rfl⟩
 have I1:=I.laid (a:=s.heap.objs.size) (o:=.own (s.heap.objs.size+1)) (h':=s.heap.push Kr) (t':=s.toks) (fun b u q=>Heap.get?_push_of_some _ q) (IY _) ⟨_,e1⟩
 refine I1.laid (a:=s.heap.objs.size+1) (o:=.ins C s.heap.objs.size []) (t':=s.toks) (fun b u q=>Heap.get?_push_of_some _ q) (Nat.le_of_eq (Heap.size_push _ _)) ?_
 have ne:s.heap.objs.size≠s.heap.objs.size+1:=Jw (KQ _)
 refine⟨by rw[ao ne,ae],Kc _,ne,e2,fun _=>none,(Heap.Ns1.of_empty e3).at fun o q=>Heap.get?_push_of_some _ q,fun _=>True.intro,fun y hy=>absurd rfl hy⟩
theorem IK{prog:Program}{w:World}{env:Env}{e:Expr}{f:Str}{pos:Pos}{s:Shared}{Q:Value->Shared->Prop}(hb:attributeBase e f env (eval e env)=eval e env)
  (h:wpAny (model prog w) A (eval e env) (fun o s₁=>wpAny (model prog w) A (getAttr o f true) Q E s₁) E s):wpAny (model prog w) A (eval (.Attribute e f pos) env) Q E s :=
 Attribute_any_ h (by rw[arm_eval_Attribute,hb])
end
def tFld(K:IT)(ta:TE)(f:Str):TE:=fun σ H Q=>ta σ H fun x H1=>∃ a C dx fs v,x=.ref a/\H1 a=some (.ins C dx fs)/\Cls K C/\fj K C f/\fs.lookup f=some v/\Q v H1
def sFld(K:IT)(ta tv:TE)(f:Str):TS:=fun D σ H=>tv σ H fun y H1=>ta σ H1 fun x H2=>∃ a C dx fs,x=.ref a/\H2 a=some (.ins C dx fs)/\Cls K C/\fj K C f/\fs.length<1000 /\
 D.nx σ (upd H2 a (.ins C dx (putF f y fs)))
section
variable{X:Cx}{o e value:Expr}{f:Str}{pos pos' tpos:Pos}{ta tv:TE}
theorem cp(he:PE X e ta)(hb:attributeBase e f X.env (eval e X.env)=eval e X.env):PE X (.Attribute e f pos) (tFld X.K ta f):=by
 intro pins s σ H Q I h
 refine IK hb (thn (he pins s σ H _ I h) fun u s1 ⟨x,H1,I1,rx,a,C,dx,fs,v,ex,ea,c,n,l,q⟩=>?_)
 subst ex
 obtain rfl:u=Value.ref a:=rx
 exact BJ I1 ea c n l fun u' s2 I2 ru=>⟨v,H1,I2,ru,q⟩
theorem mQ(ha:PE X o ta)(hv:PE X value tv)(hs:swapsWith value (some (.Attribute o f pos')) pos.line X.env=pure false):PS X (.Assign [.Attribute o f pos'] value pos) (sFld X.K ta tv f):=by
 intro pins s σ H D I h
 refine plainObj_wpAny_Assign_Attribute (thn (hv pins s σ H _ I h) fun u s1 ⟨y,H1,I1,ry,q⟩=>thn (ha pins s1 σ H1 _ I1 q) fun ov s2 ⟨x,H2,I2,rx,a,C,dx,fs,ex,ea,c,n,l,q2⟩=>?_) hs
 subst ex
 obtain rfl:ov=Value.ref a:=rx
 exact A5 I2 ea c n l ry fun s3 I3=>⟨σ,_,I3,q2⟩
end
section
variable{X:Cx}{pins:List (Addr×Obj)}{σ:St}{H:Hp}{s:Shared}{A:Around}{E:Value->Shared->Prop}{Q:Value->Shared->Prop}{c:Value}{b:Bool}
inductive TyOf(K:IT)(H:Hp):V->Value->Prop where
 |non:TyOf K H .non (.type "NoneType")
 |bl (x:Bool):TyOf K H (.bl x) (.type "bool")
 |int (i:Int):TyOf K H (.int i) (.type "int")
 |str (x:Str):TyOf K H (.str x) (.type "str")
 |flt (x:UInt64):TyOf K H (.flt x) (.type "float")
 |lst {a:Addr} {xs:List V} (e:H a=some (.lst xs)):TyOf K H (.ref a) (.type "list")
 |frz {a:Addr} {o:Obj} {xs:List V} (e:H a=some (.frz o (.lst xs))):TyOf K H (.ref a) (.type "list")
 |tup {a:Addr} {xs:List V} (e:H a=some (.tup xs)):TyOf K H (.ref a) (.type "tuple")
 |dK {a:Addr} {kvs:List (Key×V)} (e:H a=some (.dK kvs)):TyOf K H (.ref a) (.type "dict")
 |dT {a:Addr} {kvs:List (List Key×V)} (e:H a=some (.dT kvs)):TyOf K H (.ref a) (.type "dict")
 |ins {a C dx:Addr} {fs:List (Str×V)} (e:H a=some (.ins C dx fs)) (cl:Cls K C) (ha:Jm K (.ref C) "__class__" = some (some (.builtin "object.__class__")))
   (hn:L6 K (.builtin "object.__class__") "__get__" = some (some (.builtin "getset_descriptor.__get__"))) (htk:Mh K (.builtin "object.__class__")=some true)
   (hm:Kd K C (.type "object")=some true):TyOf K H (.ref a) (.ref C)
theorem DJ{x:V}{u t:Value}(I:Inv X pins σ H s)(rx:RelV x u)(ty:TyOf X.K H x t)(e:Ks X.K t c=some b)(h:∀ tk,Q (.bool b) { s with toks:=tk }) :
  wpAny (model X.prog X.w) A (call (.builtin "isinstance") [u,c]) Q E s:=by
 cases ty with
 |non=>cases (show u=Value.none from rx);exact Ki PySem.W.kitx_none I.kIn True.intro e (fun z=>nomatch z) h
 |bl y=>cases (show u=Value.bool y from rx);exact Ki PySem.W.kitx_bool I.kIn True.intro e (fun z=>nomatch z) h
 |int i=>obtain⟨t,q⟩:=(show ∃ t,u=Value.int i t from rx);cases q;exact Ki PySem.W.kitx_int I.kIn True.intro e (fun z=>nomatch z) h
 |str y=>obtain⟨t,q⟩:=(show ∃ t,u=Value.str y t from rx);cases q;exact Ki PySem.W.kitx_str I.kIn True.intro e (fun z=>nomatch z) h
 |flt y=>obtain⟨t,q⟩:=(show ∃ t,u=Value.float y t from rx);cases q;exact Ki PySem.W.kitx_float I.kIn True.intro e (fun z=>nomatch z) h
 | @lst a xs ea =>
  cases (show u=Value.ref a from rx)
  obtain⟨_,_,n,_,h1⟩:=(show br X.prog X.w H s.heap a (.lst xs) from I.hok a _ ea)
  exact Ki PySem.W.kitx_list I.kIn ⟨_,h1,rfl⟩ e (fun z=>nomatch z) h
 | @frz a ob xs ea =>
  cases (show u=Value.ref a from rx)
  obtain⟨_,_,_,n,_,h1⟩:=(show br X.prog X.w H s.heap a (.frz ob (.lst xs)) from I.hok a _ ea)
  exact Ki PySem.W.kitx_list I.kIn ⟨_,h1,rfl⟩ e (fun z=>nomatch z) h
 | @tup a xs ea =>
  cases (show u=Value.ref a from rx)
  obtain⟨_,_,_,p⟩:=(show br X.prog X.w H s.heap a (.tup xs) from I.hok a _ ea)
  obtain⟨o,h1,h2,_⟩:=p
  exact Ki PySem.W.kitx_tuple I.kIn ⟨o,h1,h2⟩ e (fun z=>nomatch z) h
 | @dK a kvs ea =>
  cases (show u=Value.ref a from rx)
  obtain⟨_,_,vs,_,p⟩:=(show br X.prog X.w H s.heap a (.dK kvs) from I.hok a _ ea)
  obtain⟨o,es,ep,h1,h2,_⟩:=p
  exact Ki PySem.W.kitx_dict I.kIn ⟨o,h1,h2.1⟩ e (fun z=>nomatch z) h
 | @dT a kvs ea =>
  cases (show u=Value.ref a from rx)
  obtain⟨_,_,xs,_,o,es,ep,h1,h2,_⟩:=(show br X.prog X.w H s.heap a (.dT kvs) from I.hok a _ ea)
  exact Ki PySem.W.kitx_dict I.kIn ⟨o,h1,h2.1⟩ e (fun z=>nomatch z) h
 | @ins a C dx fs ea cl ha hn htk hm =>
  cases (show u=Value.ref a from rx)
  obtain⟨mA,O,_⟩:=uk I.hok ea
  obtain⟨od,J,_⟩:=O.look
  exact Ki (PySem.W.kitx_own (cl.get _) cl.hd ha hn htk hm) I.kIn J e (fun z=>nomatch z) h
end
end L2
namespace L2
open PySem PySem.Spec PyProof.Rows
structure Room(k:Nat)(A:Around):Prop where
 hd:A.handled=none
 dp:A.depth+3*k+5<recursionLimit
 un:A.units+16*k+200<cLine
theorem Room.mono{j k:Nat}{A:Around}(r:Room k A)(h:j<=k):Room j A:=⟨r.hd,by have:=r.dp;omega,by have:=r.un;omega⟩
theorem Room.deeper{k:Nat}{A:Around}(r:Room (k+1) A)(env:Env):Room k (A.deeper env) :=
 ⟨r.hd,by have:=r.dp;show A.depth+1+3*k+5<_;omega,by have:=r.un;show A.units+3+16*k+200<_;omega⟩
theorem Bv{A:Around}{C:Addr}{us:List Value}{kw:List (Str×Value)}:(A.under (.builtin "type.__call__" ⟨.ref C::us,kw⟩)).depth=A.depth+1:=by
 first | rfl | simp[Around.under,Code.weight,Code.isCreation,Code.isGuard,Code.isCaller,Code.frames,Code.isFrame,guardIds]
theorem Bu{A:Around}{C:Addr}{us:List Value}{kw:List (Str×Value)}:(A.under (.builtin "type.__call__" ⟨.ref C::us,kw⟩)).units=A.units+1:=by
 first | rfl | simp[Around.under,Code.cUnits,Code.frames,Code.isFrame]
theorem Room.make{k:Nat}{A:Around}(r:Room (k+1) A)(C:Addr)(us:List Value)(kw:List (Str×Value)):Room k (A.under (.builtin "type.__call__" ⟨.ref C::us,kw⟩)) :=
 ⟨r.hd,by have:=r.dp;rw[Bv];omega,by have:=r.un;rw[Bu];omega⟩
theorem Room.depth{k:Nat}{A:Around}(r:Room k A):A.depth<recursionLimit:=by have:=r.dp;omega
theorem Room.units{k:Nat}{A:Around}(r:Room k A):A.units+64<cLine:=by have:=r.un;omega
def tNil:TA:=fun _ H Q=>Q [] H
def tCons(ta:TE)(tr:TA):TA:=fun σ H Q=>ta σ H fun x H1=>tr σ H1 fun xs H2=>Q (x::xs) H2
section
variable{X:Cx}{e:Expr}{es:List Expr}{te:TE}{t:TA}{pos:Pos}
theorem ah:PA X [] tNil:=fun _ _ _ _ H Q I h=>Calls.spliced_nil ⟨[],H,I,.nil,h⟩
theorem aa(ha:PE X e te)(hr:PA X es t)(hs:starEach (e::es) X.env=(false,eval e X.env)::starEach es X.env:=by rfl):PA X (e::es) (tCons te t):=by
 intro pos pins s σ H Q I h
 rw[hs]
 show wpAny _ _ (spliced ((false,eval e X.env)::backTo pos (starEach es X.env))) _ _ s
 refine Calls.spliced_cons (thn (ha pins s σ H _ I h) fun u s1 ⟨x,H1,I1,r1,q1⟩=>?_)
 exact thn (hr pos pins s1 σ H1 _ I1 q1) fun us s2 ⟨xs,H2,I2,r2,q2⟩=>⟨x::xs,H2,I2,.cons r1 r2,q2⟩
def tTup(t:TA):TE:=fun σ H Q=>t σ H fun xs H1=>xs.length<=sizeLine/\∀ p,H1 p=none->Q (.ref p) (upd H1 p (.tup xs))
def tLst(t:TA):TE:=fun σ H Q=>t σ H fun xs H1=>xs.length<=sizeLine/\∀ p,H1 p=none->Q (.ref p) (upd H1 p (.lst xs))
theorem gN{x1}(h:PA X es t):PE X (.Tuple es x1 pos) (tTup t):=by
 intro pins s σ H Q I hq
 refine wpAny_Tuple_spliced (thn (h pos pins s σ H _ I hq) fun us s1 ⟨xs,H1,I1,r,z,q⟩=>⟨by rw[← r.length];exact z,?_⟩)
 have hf:H1 s1.heap.objs.size=none:=I1.hok.fresh (IY _)
 refine⟨.ref s1.heap.objs.size,upd H1 s1.heap.objs.size (.tup xs),I1.laid (t':=s1.toks) (fun b u e=>Heap.get?_push_of_some _ e) (IY _) ?_,rfl,q _ hf⟩
 exact⟨z,us,r,⟨_,Heap.get?_push_size _ rfl,rfl,_,rfl⟩⟩
theorem dv(h:PA X es t):PE X (.List es pos) (tLst t):=by
 intro pins s σ H Q I hq
 refine wpAny_List_spliced (thn (h pos pins s σ H _ I hq) fun us s1 ⟨xs,H1,I1,r,z,q⟩=>⟨by rw[← r.length];exact z,?_⟩)
 have hf:H1 s1.heap.objs.size=none:=I1.hok.fresh (IY _)
 refine⟨.ref s1.heap.objs.size,upd H1 s1.heap.objs.size (.lst xs),I1.laid (t':=s1.toks) (fun b u e=>Heap.get?_push_of_some _ e) (IY _) ?_,rfl,q _ hf⟩
 exact⟨z,us,0,r,Heap.get?_push_size _ rfl⟩
end
abbrev Sp:=List V->Hp->VK->XK->Prop
abbrev CXT:=List Env->Hp->Shared->XK->Value->Shared->Prop
structure Env0(P:Program)(w:World)(K:IT)(mg:Str->Option Value)(base:Heap)(A:Around)(outer:List Env)(s:Shared)(H:Hp):Prop where
 frames:A.frames=some outer
 mod:Mod K mg base
 bs:∀ b o,base.get? b=some o->s.heap.get? b=some o/\H b=none
 bsz:base.objs.size<=s.heap.objs.size
 funs:s.heap.FunFrames base outer
 frf:∀ b∈frs outer,H b=none
 hok:HOk P w H s.heap
 bare:AllBare s.gens
def CE(outer:List Env)(P:Program)(w:World)(H:Hp)(s:Shared)(Q:VK)(u:Value)(s':Shared):Prop :=
 ∃ v H',s'.os=s.os/\AllBare s'.gens/\Un (frs outer) [] H H' s.heap s'.heap/\HOk P w H' s'.heap/\RelV v u/\Q v H'
def CR(CX:CXT)(outer:List Env)(P:Program)(w:World)(H:Hp)(s:Shared)(Q:VK)(E:XK)(r:Result)(s':Shared):Prop :=
 match r with
 |.ok (.ret u)=>CE outer P w H s Q u s'
 |.ok _=>False
 |.error e=>CX outer H s E e s'
structure FnOk(P:Program)(w:World)(K:IT)(mg:Str->Option Value)(base:Heap)(CX:CXT)(k:Nat)(f:Addr)(fd:FuncData)(ps:List Str)(sp:Sp):Prop where
 len:∀ vs H Q E,sp vs H Q E->vs.length=ps.length
 run:∀(A:Around)(outer:List Env)(s:Shared)(H:Hp)(args:Args)(us:List Value)(vs:List V)(Q:VK)(E:XK),Room k A->Env0 P w K mg base A outer s H->BindsTo s fd args (ps.zip us)->Vals vs us->sp vs H Q E ->
  codeAny (model P w) A (.call (.ref f) args) (CR CX outer P w H s Q E) s
theorem Env0.make{P:Program}{w:World}{K:IT}{mg:Str->Option Value}{base:Heap}{A:Around}{outer:List Env}{s:Shared}{H:Hp}(e:Env0 P w K mg base A outer s H)(C:Addr)(us:List Value)(kw:List (Str×Value)) :
  Env0 P w K mg base (A.under (.builtin "type.__call__" ⟨.ref C::us,kw⟩)) outer s H:=⟨by first | exact e.frames | (simpa[Around.under,Code.envs,Code.isFrame,pushEnvs] using e.frames),e.mod,e.bs,e.bsz,e.funs,e.frf,e.hok,e.bare⟩
section
variable{X:Cx}{pins:List (Addr×Obj)}{σ:St}{H:Hp}{s s':Shared}
theorem Inv.env0(I:Inv X pins σ H s):Env0 X.prog X.w X.K X.mg X.base X.A X.stack s H :=
 ⟨I.ok.frames,I.ok.mod,I.bs,JS I.ok.bsz I.sz,I.stack,I.stkFree,I.hok,I.bare⟩
theorem Inv.after{Q:VK}{u:Value}(I:Inv X pins σ H s)(h:CE X.stack X.prog X.w H s Q u s'):EP X pins σ Q u s':=by
 obtain⟨v,H',os,bare,un,hok,r,q⟩:=h
 obtain⟨hh,g,d,t,os'⟩:=s'
 obtain rfl:os'=s.os:=os
 exact⟨v,H',I.call (h':=hh) (g':=g) (d':=d) (t':=t) (ch:=[]) un hok bare (fun b z=>absurd z (by simp)),r,q⟩
end
def tCall(sp:Sp)(dvs:List V)(E:XK)(t:TA):TE:=fun σ H Q=>t σ H fun vs H1=>sp (vs++dvs) H1 Q E
def tMeth(C:Addr)(m:Str)(sp:Sp)(dvs:List V)(E:XK)(ta:TE)(t:TA):TE:=fun σ H Q=>ta σ H fun x H1=>∃ a dx fs,x=.ref a/\H1 a=some (.ins C dx fs)/\fs.lookup m=none /\
 t σ H1 fun vs H2=>sp (x::(vs++dvs)) H2 Q E
def tMake(C:Addr)(sp:Sp)(dvs:List V)(E:XK)(t:TA):TE:=fun σ H Q=>t σ H fun vs H1=>∀ x dx,H1 x=none->H1 dx=none->dx≠x ->
 sp (.ref x::(vs++dvs)) (upd (upd H1 dx (.own x)) x (.ins C dx [])) (fun v H2=>v=.non/\Q (.ref x) H2) E
def iR(K:IT)(fd:FuncData)(ps:List Str)(ds:List Value):Prop :=
 ∀(s:Shared)(us:List Value),K.In s.heap->(us++ds).length=ps.length->BindsTo s fd ⟨us,[]⟩ (ps.zip (us++ds))
theorem iR.all{K:IT}{fd:FuncData}{ps:List Str}(h:∀ us:List Value,us.length=ps.length->bindArgs fd ⟨us,[]⟩=pure (ps.zip us)):iR K fd ps []:=fun s us _ hl=>by
 rw[Kv]at hl ⊢
 exact .of_eq (h us hl)
def m6(CX:CXT)(X:Cx)(E:XK):Prop:=∀(pins:List (Addr×Obj))(σ:St)(H:Hp)(s:Shared)(e:Value)(s':Shared),Inv X pins σ H s->CX X.stack H s E e s'->X.xe e s'
section
variable{X:Cx}{CX:CXT}{k:Nat}{f C:Addr}{fd:FuncData}{ps:List Str}{sp:Sp}{dvs:List V}{ds:List Value}{E:XK}{x m:Str}{p pos apos:Pos}{e o:Expr}{es:List Expr}{ta:TE}{t:TA}
theorem CQ{pins:List (Addr×Obj)}{σ:St}{H:Hp}{s:Shared}{Q:VK}{us:List Value}{vs:List V}(F:FnOk X.prog X.w X.K X.mg X.base CX k f fd ps sp)(hr:Room k X.A)(hb:iR X.K fd ps ds)(hd:Vals dvs ds)(hx:m6 CX X E)
  (I:Inv X pins σ H s) (r:Vals vs us) (h:sp (vs++dvs) H Q E):wpAny (model X.prog X.w) X.A (call (.ref f) us) (EP X pins σ Q) X.xe s:=by
 have r2:Vals (vs++dvs) (us++ds):=r.append hd
 have hl:(us++ds).length=ps.length:=by rw[← r2.length];exact F.len _ _ _ _ h
 refine wpAny_call (codeAny_mono (F.run X.A X.stack s H ⟨us,[]⟩ (us++ds) (vs++dvs) Q E hr I.env0 (hb s us I.kIn hl) r2 h) fun r s' hq=>?_)
 cases r with
 |error e=>exact hx pins σ H s e s' I hq
 |ok fl =>
  cases fl with
  |ret u=>exact I.after hq
  |next=>exact False.elim hq
  |brk=>exact False.elim hq
  |cont=>exact False.elim hq
theorem aG(F:FnOk X.prog X.w X.K X.mg X.base CX k f fd ps sp)(hr:Room k X.A)(hg:Gl X x)(hm:X.mg x=some (.ref f))(hk:Jd X.K (.ref f)=true)(hb:iR X.K fd ps ds)(hd:Vals dvs ds)(hx:m6 CX X E)
  (ha:PA X (e::es) t) (hdb:(x == ("__debug__" : Str))=false:=by decide) (he:starEach (e::es) X.env=(false,eval e X.env)::starEach es X.env:=by rfl) (hpl:(backTo pos (starEach es X.env)).any (·.1)=false:=by rfl) :
  PE X (.Call (.Name x p) (e::es) [] pos) (tCall sp dvs E t):=by
 intro pins s σ H Q I h
 refine wpAny_Call_Name_kw (lJ I hg hm ?_ hdb)
 refine K6 (h₀:=X.base) I.ok.mod.kin hk (thn (ha pos pins s σ H _ I h) fun us s1 ⟨vs,H1,I1,r,q⟩=>⟨I1.kIn,?_⟩) he hpl
 exact CQ F hr hb hd hx I1 r q
theorem yj{pl:Sem Bool}(he:PE X o ta)(c:Cls X.K C)(hm:Meth X.K C m f)(F:FnOk X.prog X.w X.K X.mg X.base CX k f fd ps sp)(hr:Room k X.A)(hb:iR X.K fd ps ds)(hd:Vals dvs ds)(hx:m6 CX X E)(ha:PA X (e::es) t)
  (hst:starEach (e::es) X.env=(false,eval e X.env)::starEach es X.env:=by rfl) (hpl:(backTo pos (starEach es X.env)).any (·.1)=false:=by rfl)
  (ht:eval (.Call (.Attribute o m apos) (e::es) [] pos) X.env=(do
   let ov ← eval o X.env
   standAt apos.atName
   let (f,first) ← holding [ov] (getMethod ov m pl)
   callWith pos f first (backTo pos (starEach (e::es) X.env)) (backToKw pos (keywordEach [] X.env))):=by rfl) :
  PE X (.Call (.Attribute o m apos) (e::es) [] pos) (tMeth C m sp dvs E ta t):=by
 intro pins s σ H Q I h
 refine PySem.W.methodCall_KW (pl:=pl) (thn (he pins s σ H _ I h) fun u s1 ⟨x,H1,I1,rx,a,dx,fs,ex,ea,l,q⟩=>?_) ht
 subst ex
 obtain rfl:u=Value.ref a:=rx
 refine rP I1 ea c hm l ?_
 refine K6 (first:=[.ref a]) (h₀:=X.base) I.ok.mod.kin hm.kp (thn (ha pos pins s1 σ H1 _ I1 q) fun us s2 ⟨vs,H2,I2,r,q2⟩=>⟨I2.kIn,?_⟩) hst hpl
 exact CQ (us:=.ref a::us) (vs:=.ref a::vs) F hr hb hd hx I2 (.cons rfl r) q2
theorem Fo{pl:Sem Bool}(he:PE X o ta)(c:Cls X.K C)(hm:Meth X.K C m f)(F:FnOk X.prog X.w X.K X.mg X.base CX k f fd ps sp)(hr:Room k X.A)(hb:iR X.K fd ps ds)(hd:Vals dvs ds)(hx:m6 CX X E)
  (ht:eval (.Call (.Attribute o m apos) [] [] pos) X.env=(do
   let ov ← eval o X.env
   standAt apos.atName
   let (f,first) ← holding [ov] (getMethod ov m pl)
   callWith pos f first (backTo pos (starEach [] X.env)) (backToKw pos (keywordEach [] X.env))):=by rfl) :
  PE X (.Call (.Attribute o m apos) [] [] pos) (tMeth C m sp dvs E ta tNil):=by
 intro pins s σ H Q I h
 refine PySem.W.methodCall_KW (pl:=pl) (thn (he pins s σ H _ I h) fun u s1 ⟨x,H1,I1,rx,a,dx,fs,ex,ea,l,q⟩=>?_) ht
 subst ex
 obtain rfl:u=Value.ref a:=rx
 refine rP I1 ea c hm l ?_
 exact PySem.W.callWith_K0 (first:=[.ref a]) I1.kIn hm.kp (CQ (us:=[.ref a]) (vs:=[.ref a]) F hr hb hd hx I1 (.cons rfl .nil) q)
structure Mk(K:IT)(C f:Addr):Prop where
 makes:Lp K C=true
 init:Jm K (.ref C) "__init__" = some (some (.ref f))
 fn:KW K (.ref f)=true
 kp:Jd K (.ref C)=true
theorem Ff{pins:List (Addr×Obj)}{σ:St}{H:Hp}{s:Shared}{Q:VK}{us:List Value}{vs:List V}(M:Mk X.K C f)(F:FnOk X.prog X.w X.K X.mg X.base CX k f fd ps sp)(hr:Room (k+1) X.A)(hb:iR X.K fd ps ds)(hd:Vals dvs ds)
  (hx:m6 CX X E) (I:Inv X pins σ H s) (r:Vals vs us)
  (h:∀ x dx,H x=none->H dx=none->dx≠x->sp (.ref x::(vs++dvs)) (upd (upd H dx (.own x)) x (.ins C dx [])) (fun v H2=>v=.non/\Q (.ref x) H2) E) :
  wpAny (model X.prog X.w) X.A (call (.ref C) us) (EP X pins σ Q) X.xe s:=by
 have hq:=h (s.heap.objs.size+1) s.heap.objs.size (I.hok.fresh (Ld _)) (I.hok.fresh (IY _)) (Jw (KQ _))
 have I2:=Inv.made (C:=C) I
 have r2:Vals (V.ref (s.heap.objs.size+1)::(vs++dvs)) (Value.ref (s.heap.objs.size+1)::(us++ds)):=.cons rfl (r.append hd)
 have hl:(Value.ref (s.heap.objs.size+1)::us++ds).length=ps.length:=by
  have e:=r2.length
  rw[F.len _ _ _ _ hq]at e
  exact e.symm
 refine wpAny_call (FG (f:=f) I.kIn M.makes M.init (beq_iff_eq.mp M.fn) (codeAny_mono (F.run _ X.stack _ _ ⟨Value.ref (s.heap.objs.size+1)::us,[]⟩ (Value.ref (s.heap.objs.size+1)::(us++ds)) _ _ E (hr.make C us [])
  (I2.env0.make C us []) (hb _ (Value.ref (s.heap.objs.size+1)::us) I2.kIn hl) r2 hq) fun r s' hq'=>?_))
 cases r with
 |error e=>exact hx pins σ _ _ e s' I2 hq'
 |ok fl =>
  cases fl with
  |ret u =>
   obtain⟨v,H',I3,rv,ev,q3⟩:=I2.after hq'
   subst ev
   exact⟨rv,⟨V.ref (s.heap.objs.size+1),H',I3,rfl,q3⟩⟩
  |next=>exact False.elim hq'
  |brk=>exact False.elim hq'
  |cont=>exact False.elim hq'
theorem yk(M:Mk X.K C f)(F:FnOk X.prog X.w X.K X.mg X.base CX k f fd ps sp)(hr:Room (k+1) X.A)(hg:Gl X x)(hm:X.mg x=some (.ref C))(hb:iR X.K fd ps ds)(hd:Vals dvs ds)(hx:m6 CX X E)
  (ha:PA X (e::es) t) (hdb:(x == ("__debug__" : Str))=false:=by decide) (he:starEach (e::es) X.env=(false,eval e X.env)::starEach es X.env:=by rfl) (hpl:(backTo pos (starEach es X.env)).any (·.1)=false:=by rfl) :
  PE X (.Call (.Name x p) (e::es) [] pos) (tMake C sp dvs E t):=by
 intro pins s σ H Q I h
 refine wpAny_Call_Name_kw (lJ I hg hm ?_ hdb)
 refine K6 (h₀:=X.base) I.ok.mod.kin M.kp (thn (ha pos pins s σ H _ I h) fun us s1 ⟨vs,H1,I1,r,q⟩=>⟨I1.kIn,?_⟩) he hpl
 exact Ff M F hr hb hd hx I1 r q
end
section
variable{X:Cx}{CX:CXT}{k:Nat}{f C:Addr}{fd:FuncData}{ps ks:List Str}{sp:Sp}{E:XK}{x m:Str}{p pos apos kpos:Pos}{e o:Expr}{es:List Expr}{kws:List Keyword}{te ta:TE}{t tk:TA}{nm:Option Str}
variable{g:List Value->List Value->List Value}{gV:List V->List V->List V}
end
structure aB(N P:List Str)(sc:Scope):Prop where
 kind:sc.kind=.function
 co:sc.isCoroutine=false
 gen:sc.isGenerator=false
 nd:N.Nodup
 pre:N.take P.length=P
 par:∀ x∈P,sc.names.lookup x=some .local∨sc.names.lookup x=some .cell
 nofree:∀ y∈sc.names,y.2≠.free
theorem wW{kindOf:Str->Option NameKind}{x:Str}:∀{binds:List (Str×Value)}{m:Str->Option Value},(∀ v,(x,v)∉binds)->bindL kindOf binds m x=m x
 |[],_,_=>rfl
 | (n,v)::r,m,h=>by
  unfold bindL
  rw[wW fun w hw=>h w (Jk _ hw)]
  split
  ·have:x≠n:=by rintro rfl;exact h v Jn
   simp[this]
  ·rfl
theorem wY{kindOf:Str->Option NameKind}{x:Str}:∀{binds:List (Str×Value)}{m:Str->Option Value},(∀ v,(x,v)∉binds)->bindC kindOf binds m x=m x
 |[],_,_=>rfl
 | (n,v)::r,m,h=>by
  unfold bindC
  rw[wY fun w hw=>h w (Jk _ hw)]
  split
  ·rfl
  ·have:x≠n:=by rintro rfl;exact h v Jn
   simp[this]
theorem wX{kindOf:Str->Option NameKind}{x:Str}{v:Value}:∀{P:List Str}{vs:List Value}{i:Nat}{m:Str->Option Value},P.Nodup->P[i]?=some x->vs[i]?=some v->kindOf x=some .local ->
  bindL kindOf (P.zip vs) m x=some v
 |[],_,_,_,_,h,_,_=>by simp at h
 |_::_,[],_,_,_,_,h,_=>by simp at h
 |p::P,w::vs,0,m,nd,h1,h2,hk=>by
  simp at h1 h2;subst h1;subst h2
  show bindL kindOf ((p,w)::P.zip vs) m p=_
  unfold bindL
  rw[wW fun v hv=>(JD.mp nd).1 (Mm hv).1,if_pos hk]
  simp
 |p::P,w::vs,i+1,m,nd,h1,h2,hk=>by
  show bindL kindOf ((p,w)::P.zip vs) m x=_
  unfold bindL
  exact wX (i:=i) (JD.mp nd).2 (by simpa using h1) (by simpa using h2) hk
theorem wZ{kindOf:Str->Option NameKind}{x:Str}{v:Value}:∀{P:List Str}{vs:List Value}{i:Nat}{m:Str->Option Value},P.Nodup->P[i]?=some x->vs[i]?=some v->kindOf x≠some .local ->
  bindC kindOf (P.zip vs) m x=some v
 |[],_,_,_,_,h,_,_=>by simp at h
 |_::_,[],_,_,_,_,h,_=>by simp at h
 |p::P,w::vs,0,m,nd,h1,h2,hk=>by
  simp at h1 h2;subst h1;subst h2
  show bindC kindOf ((p,w)::P.zip vs) m p=_
  unfold bindC
  rw[wY fun v hv=>(JD.mp nd).1 (Mm hv).1,if_neg hk]
  simp
 |p::P,w::vs,i+1,m,nd,h1,h2,hk=>by
  show bindC kindOf ((p,w)::P.zip vs) m x=_
  unfold bindC
  exact wZ (i:=i) (JD.mp nd).2 (by simpa using h1) (by simpa using h2) hk
def qj(N:List Str)(vs:List V):St:=vs.map some++JW (N.length-vs.length) none
def cxOf(CX:CXT)(P:Program)(w:World)(K:IT)(mg:Str->Option Value)(base:Heap)(N:List Str)(qual:Str)(scope:Scope)(f:Addr)(cd:Value)(A:Around)(outer:List Env)(s:Shared)(H:Hp)(E:XK):Cx where
 prog:=P
 w:=w
 K:=K
 mg:=mg
 base:=base
 A:=A.deeper (envOfC qual scope s.heap.objs.size f cd)
 N:=N
 s₀:=s
 H₀:=H
 env:=envOfC qual scope s.heap.objs.size f cd
 outer:=outer
 stack:=envOfC qual scope s.heap.objs.size f cd::outer
 ex:=[]
 calm:=true
 fn:=fun _=>true
 pn:=[]
 xe:=fun e s'=>wpAny (model P w) (A.deeper (envOfC qual scope s.heap.objs.size f cd)) (leaving (envOfC qual scope s.heap.objs.size f cd) e) (fun _ s''=>CX outer H s E e s'') (fun e' s''=>CX outer H s E e' s'') s'
theorem AS{sc:Scope}{n:Nat}{x:Str}(h:sc.names.lookup x=some .cell):∃ c,(cellsFrom n sc.names []).lookup x=some c:=by
 have q:=PySem.W.cellsFrom_some sc.names n [] (.inl h)
 exact Ms.mp q
theorem DL{CX:CXT}{P:Program}{w:World}{K:IT}{mg:Str->Option Value}{base:Heap}{N ps:List Str}{qual:Str}{scope:Scope}{f:Addr}{cd:Value}{A:Around}{outer:List Env}{s s1:Shared}{H:Hp}{E:XK}{us:List Value}{vs:List V}
  (S:aB N ps scope) (hd:A.handled=none) (e0:Env0 P w K mg base A outer s H) (hl:vs.length=ps.length) (r:Vals vs us)
  (x:InCallC s s.heap.objs.size (bindL (envOfC qual scope s.heap.objs.size f cd).kindOf (ps.zip us) fun _=>none) (cellsFrom (s.heap.objs.size+1) scope.names []) (bindC (envOfC qual scope s.heap.objs.size f cd).kindOf (ps.zip us) fun _=>none) s1) :
  Inv (cxOf CX P w K mg base N qual scope f cd A outer s H E) [] (qj N vs) H s1:=by
 have hpl:ps.length<=N.length:=by have:=congrArg List.length S.pre;rw[JE]at this;omega
 obtain⟨h1,tk,rfl,hk⟩:=x.done
 have noA:∀ b:Addr,b∉(cxOf CX P w K mg base N qual scope f cd A outer s H E).ex:=fun b z=>absurd (show b∈([]:List Addr) from z) (by simp)
 refine⟨⟨e0.mod,S.kind,rfl,rfl,IY _,fun y z c h1 h2=>?_,fun y hy=>?_,fun y c _ h=>?_,fun _=>hd,Around.frames_deeper e0.frames,.inr ⟨rfl,rfl⟩,fun b z=>absurd z (noA b),e0.bs,e0.bsz,fun b _ _=>noA b,fun b z=>absurd z (noA b),e0.funs,e0.frf⟩,
  rfl,e0.bare,Un.kept hk,⟨_,x.toInCall.ns,fun i y v h1 h2 h3=>?_⟩,fun y c h=>⟨_,x.cell y c h⟩,e0.hok.fresh (IY _),fun y c h=>?_,fun p hp=>absurd (show p∈([]:List (Addr×Obj)) from hp) (by simp),e0.hok.kept hk,?_⟩
 ·exact name_of_addr x.apart (Kl h1) (Kl h2)
 ·have hy:scope.names.lookup y=some .cell∨scope.names.lookup y=some .free:=hy
  rcases hy with hy | hy
  ·exact AS hy
  ·exact absurd rfl (S.nofree _ (Kl hy))
 ·exact JT (x.above y c (Kl h))
 ·have hi:i<vs.length:=by
   unfold qj at h2
   by_cases hi:i<vs.length
   ·exact hi
   ·rw[IZ (by simpa using hi)]at h2
    rw[Ky]at h2
    split at h2<;>cases h2
  have ha:vs[i]?=some v:=by
   unfold qj at h2
   rw[Jb (by simpa using hi),Je]at h2
   cases e:vs[i]? with
   |none=>rw[e]at h2;cases h2
   |some a=>rw[e]at h2;cases h2;rfl
  obtain⟨u,hu,rv⟩:=r.get ha
  have hp:ps[i]?=some y:=by
   rw[← S.pre,List.getElem?_take_of_lt (by omega)];exact h1
  have ndP:ps.Nodup:=by rw[← S.pre];exact S.nd.sublist (LA _ _)
  refine⟨u,rv,?_⟩
  rcases S.par y (IW hp)with k | k
  ·exact .inl ⟨k,wX ndP hp hu k⟩
  ·obtain⟨c,e⟩:=AS (n:=s.heap.objs.size+1) k
   refine .inr ⟨.inl k,c,e,?_⟩
   have q:=x.cell y c e
   rw[wZ ndP hp hu (by show scope.names.lookup y≠_;rw[k];decide)]at q
   exact q
 ·exact e0.hok.fresh (JT (x.above y c (Kl h)))
 ·unfold qj
  show _=N.length
  rw[IX,IV,KY]
  omega
theorem Iu{CX:CXT}{P:Program}{w:World}{K:IT}{mg:Str->Option Value}{base:Heap}{k:Nat}{f:Addr}{name qual:Str}{params:Arguments}{body:List Stmt}{scope:Scope}{dV kV doc pm cdv ct oc:Value}{an od:Option Addr}
  {osl:Array (Option Value)} {N ps:List Str} {sp:Sp} (lk:K.lookup f=some ⟨oc,od,.func (Ji name qual params body scope dV kV doc pm an cdv ct),osl⟩) (hcd:Jh K cdv qual=true) (S:aB N ps scope)
  (len:∀ vs H Q E,sp vs H Q E->vs.length=ps.length)
  (hbody:∀(A:Around)(outer:List Env)(s:Shared)(H:Hp)(vs:List V)(Q:VK)(E:XK),Room k (A.deeper (envOfC qual scope s.heap.objs.size f cdv))->sp vs H Q E ->
   ∃ t,PSs (cxOf CX P w K mg base N qual scope f cdv A outer s H E) body t/\t { nx:=fun _ H'=>Q .non H',rt:=Q } (qj N vs) H) :
  FnOk P w K mg base CX (k+1) f (Ji name qual params body scope dV kV doc pm an cdv ct) ps sp:=by
 refine⟨len,fun A outer s H args us vs Q E hr e0 hb r hsp=>?_⟩
 have hl:=len _ _ _ _ hsp
 have KX:K.In s.heap:=e0.mod.kin.keeps fun b o e=>(e0.bs b o e).1
 have lim:s.heap.NoLimit:=e0.mod.nolimit.keeps fun b o e=>(e0.bs b o e).1
 have hkind:∀ y∈ps.zip us,scope.names.lookup y.1=some .local∨(scope.names.lookup y.1=some .cell/\((cellsFrom (s.heap.objs.size+1) scope.names []).lookup y.1).isSome=true):=fun⟨n,v⟩ hy=>by
  rcases S.par n (Mm hy).1 with q | q
  ·exact .inl q
  ·exact .inr ⟨q,PySem.W.cellsFrom_some _ _ _ (.inl q)⟩
 refine codeAny_call_function hr.depth (KX _ _ lk) rfl S.co S.gen rfl (PySem.W.codeRec_of KX hcd) (hb _ _ _ _ ?_)
 refine wpAny_newFunctionEnv_cells S.kind hkind fun env he s1 x=>?_
 subst he
 refine⟨lim.keeps x.toInCall.keep,codeAny_func ?_⟩
 obtain⟨t,ht,hq⟩:=hbody A outer s H vs Q E (hr.deeper _) hsp
 have I:Inv (cxOf CX P w K mg base N qual scope f cdv A outer s H E) [] (qj N vs) H s1:=DL S hr.hd e0 hl r x
 refine wpAny_mono (ht [] s1 (qj N vs) H _ I hq) (fun fl s' hs=>?_) fun e s' hs=>hs
 have fin:∀{σ':St}{H':Hp}{v:V}{u:Value},Inv (cxOf CX P w K mg base N qual scope f cdv A outer s H E) [] σ' H' s'->RelV v u->Q v H'->CE outer P w H s Q u s' :=
  fun{σ' H' v u} J rv q=>⟨v,H',J.os,J.bare,J.base,J.hok,rv,q⟩
 cases fl with
 |ret u =>
  obtain⟨v,σ',H',J,rv,q⟩:=hs
  exact fin J rv q
 |next =>
  obtain⟨σ',H',J,q⟩:=hs
  exact fin (v:=V.non) (u:=Value.none) J rfl q
 |brk =>
  obtain⟨_,_,_,q⟩:=hs
  exact False.elim q
 |cont =>
  obtain⟨_,_,_,q⟩:=hs
  exact False.elim q
end L2
namespace L2
open PySem PySem.Spec PyProof.Rows
section
variable{X:Cx}{x:Str}{p pos:Pos}{e:Expr}{es:List Expr}{t:TA}{id T:String}{r:List V->Hp->VK->Prop}
def tCB(r:List V->Hp->VK->Prop)(t:TA):TE:=fun σ H Q=>t σ H fun vs H1=>r vs H1 Q
theorem aq(hc:ku X (.builtin id) r)(hg:Gl X x)(hm:X.mg x=none)(hv:bootBuiltins x=some (.builtin id))(ha:PA X (e::es) t) (hn:x≠"__name__":=by decide) (hdb:(x == ("__debug__" : Str))=false:=by decide)
  (he:starEach (e::es) X.env=(false,eval e X.env)::starEach es X.env:=by rfl) (hpl:(backTo pos (starEach es X.env)).any (·.1)=false:=by rfl):PE X (.Call (.Name x p) (e::es) [] pos) (tCB r t):=by
 intro pins s σ H Q I h
 refine wpAny_Call_Name_kw (mS I hg hm hv ?_ hn hdb)
 exact PyProof.Rows.callWith_builtin1 (thn (ha pos pins s σ H _ I h) fun us s1 ⟨vs,H1,I1,r1,q1⟩=>hc pins s1 σ H1 vs us Q I1 r1 q1) he hpl
theorem oB(hc:ku X (.type T) r)(hg:Gl X x)(hm:X.mg x=none)(hv:bootBuiltins x=some (.type T))(ha:PA X (e::es) t) (hn:x≠"__name__":=by decide) (hdb:(x == ("__debug__" : Str))=false:=by decide)
  (he:starEach (e::es) X.env=(false,eval e X.env)::starEach es X.env:=by rfl) (hpl:(backTo pos (starEach es X.env)).any (·.1)=false:=by rfl):PE X (.Call (.Name x p) (e::es) [] pos) (tCB r t):=by
 intro pins s σ H Q I h
 refine wpAny_Call_Name_kw (mS I hg hm hv ?_ hn hdb)
 exact PyProof.Rows.callWith_type1 (thn (ha pos pins s σ H _ I h) fun us s1 ⟨vs,H1,I1,r1,q1⟩=>hc pins s1 σ H1 vs us Q I1 r1 q1) he hpl
end
end L2
namespace HT
open PySem PyProof.Rows
section
open PySem.SeqAt
open PySem.AutoSeq1 (wpAny_loadPart')
open PySem.MeetsSeq PySem.MeetsSeq2 PySem.MeetsSeq3
end
section
variable{prog:Program}{w:World}{A:Around}{E:Value->Shared->Prop}{s:Shared}
def sIx(n d:Nat):Option Int->Nat
 |none=>d
 |some v=>if v<0 then(v+(n:Int)).toNat else min v.toNat n
theorem sIx_none(n d:Nat):sIx n d none=d:=rfl
theorem sIx_nat(n d k:Nat):sIx n d (some (k:Int))=min k n:=by
 show(if(k:Int)<0 then((k:Int)+(n:Int)).toNat else min (k:Int).toNat n)=min k n
 rw[if_neg (by omega),JI]
end
end HT
namespace L2
open PySem PySem.Spec PyProof.Rows
abbrev TO:=St->Hp->(Option Int->Hp->Prop)->Prop
def PO(X:Cx)(e:Option Expr)(t:TO):Prop :=
 ∀(pins:List (Addr×Obj))(s:Shared)(σ:St)(H:Hp)(Q:Option Int->Hp->Prop),Inv X pins σ H s->t σ H Q ->
  wpAny (model X.prog X.w) X.A (evalPart e X.env) (fun u s'=>∃ o H',Inv X pins σ H' s'/\IsPart u o/\Q o H') X.xe s
def G8:TO:=fun _ H Q=>Q none H
def tPart(t:TE):TO:=fun σ H Q=>t σ H fun x H1=>∃ i,x=.int i/\Q (some i) H1
section
variable{X:Cx}{e:Expr}{te:TE}{lo hi:Option Expr}{tl th:TO}{pos p2:Pos}
theorem g8:PO X none G8:=by
 intro pins s σ H Q I h
 rw[evalPart_none]
 exact wpAny_pure ⟨none,H,I,.none,h⟩
theorem gZ(h:PE X e te):PO X (some e) (tPart te):=by
 intro pins s σ H Q I hw
 rw[evalPart_some]
 refine thn (h pins s σ H _ I hw) fun u s1 ⟨x,H1,I1,r1,q1⟩=>?_
 obtain⟨i,rfl,q⟩:=q1
 obtain⟨t,rfl⟩:=r1
 exact⟨some i,H1,I1,.int i t,q⟩
def SlR(X:Cx)(r:V->Option Int->Option Int->Hp->VK->Prop):Prop :=
 ∀(pins:List (Addr×Obj))(s:Shared)(σ:St)(H:Hp)(x:V)(v vl vu:Value)(lo hi:Option Int)(sl:Addr)(Q:VK),Inv X pins σ H s->RelV x v->s.heap.IsSliceOf sl vl vu .none->IsPart vl lo->IsPart vu hi->r x lo hi H Q ->
  ∃ T id,typeLookup (.type T) "__getitem__" = pure (some (.builtin id))/\s.TypeIs v T/\wpAny (model X.prog X.w) X.A (getItem v (.ref sl)) (EP X pins σ Q) X.xe s
def tSl(r:V->Option Int->Option Int->Hp->VK->Prop)(te:TE)(tl th:TO):TE:=fun σ H Q=>te σ H fun x H1=>tl σ H1 fun l H2=>th σ H2 fun u H3=>r x l u H3 Q
theorem eV{r:V->Option Int->Option Int->Hp->VK->Prop}(hr:SlR X r)(he:PE X e te)(hl:PO X lo tl)(hu:PO X hi th):PE X (.Subscript e (.Slice lo hi none p2) pos) (tSl r te tl th):=by
 intro pins s σ H Q I h
 refine Subscript_ (thn (he pins s σ H _ I h) fun v s1 ⟨x,H1,I1,r1,q1⟩=>?_)
 refine wpAny_Slice (thn (hl pins s1 σ H1 _ I1 q1) fun vl s2 ⟨l,H2,I2,pl,q2⟩=>thn (hu pins s2 σ H2 _ I2 q2) fun vu s3 ⟨u,H3,I3,pu,q3⟩=>?_)
 rw[evalPart_none]
 refine wpAny_pure ?_
 have I4:Inv X pins σ H3 { s3 with heap:=s3.heap.push { cls:=.type "slice",data:=.fields #[vl,vu,.none] } }:=I3.kept (t':=s3.toks) fun b ob q=>Heap.get?_push_of_some _ q
 obtain⟨T,id,hT,ht,hg⟩:=hr pins { s3 with heap:=s3.heap.push { cls:=.type "slice",data:=.fields #[vl,vu,.none] } } σ H3 x v vl vu l u s3.heap.objs.size Q I4 r1 (Heap.IsSliceOf.new ..) pl pu q3
 show wpAny (model X.prog X.w) X.A (subscriptTail e (.Slice lo hi none p2) v (.ref s3.heap.objs.size)) (EP X pins σ Q) X.xe { s3 with heap:=s3.heap.push { cls:=.type "slice",data:=.fields #[vl,vu,.none] } }
 exact tail_any (ops:=[.ref s3.heap.objs.size,v]) ht hT hg (by with_unfolding_all rfl)
def cutV(xs:List V)(lo hi:Option Int):List V:=(xs.drop (HT.sIx xs.length 0 lo)).take (HT.sIx xs.length xs.length hi-HT.sIx xs.length 0 lo)
theorem zx(xs:List V)(lo hi:Option Int):(cutV xs lo hi).length<=xs.length:=by
 unfold cutV
 rw[JE,Ko]
 omega
end
end L2
namespace L2
open PySem PySem.Spec PyProof.Rows
def ixN(n:Nat)(i:Int):Option Nat:=if 0<=i then(if i<n then some i.toNat else none) else if -(n:Int)<=i then some (i+n).toNat else none
def atI{α:Type}(xs:List α)(i:Int):Option α:=(ixN xs.length i).bind fun j=>xs[j]?
theorem DH{n:Nat}{i:Int}{j:Nat}(h:ixN n i=some j):seqIndex? i n=some j/\j<n/\-(n:Int)<=i/\i<n:=by
 unfold ixN at h
 by_cases h0:0<=i
 ·rw[if_pos h0]at h
  by_cases h1:i<n
  ·rw[if_pos h1]at h
   have e:i.toNat=j:=Js h
   exact⟨by rw[seqIndex_of h0 h1,e],by omega,by omega,h1⟩
  ·rw[if_neg h1]at h;cases h
 ·rw[if_neg h0]at h
  by_cases h1 : -(n:Int)<=i
  ·rw[if_pos h1]at h
   have e:(i+n).toNat=j:=Js h
   exact⟨by rw[seqIndex_neg (by omega) h1,e],by omega,h1,by omega⟩
  ·rw[if_neg h1]at h;cases h
theorem EN{α:Type}{xs:List α}{i:Int}{v:α}(h:atI xs i=some v):∃ j,seqIndex? i xs.length=some j/\xs[j]?=some v/\j<xs.length/\-(xs.length:Int)<=i/\i<xs.length:=by
 unfold atI at h
 cases e:ixN xs.length i with
 |none=>rw[e]at h;cases h
 |some j =>
  rw[e]at h
  obtain⟨h1,h2,h3,h4⟩:=DH e
  exact⟨j,h1,h,h2,h3,h4⟩
theorem bH{α:Type}{xs:List α}{j:Nat}{v:α}(h:xs[j]?=some v):atI xs (j:Int)=some v:=by
 have hj:j<xs.length:=(IS.mp h).1
 have e:ixN xs.length (j:Int)=some j:=by
  unfold ixN
  rw[if_pos (by omega),if_pos (by omega)];simp
 unfold atI;rw[e];exact h
def IQ(b:Expr):Prop:=∀ o i,subscripted b false o i=operate [o,i] (getItem o i)
def IxR(X:Cx)(r:R2):Prop :=
 ∀(value slice:Expr)(pins:List (Addr×Obj))(s:Shared)(σ:St)(H:Hp)(x y:V)(v u:Value)(Q:VK),Inv X pins σ H s->RelV x v->RelV y u->r x y H Q ->
  subscripted slice false v u=operate [v,u] (getItem v u)->wpAny (model X.prog X.w) X.A (subscriptTail value slice v u) (EP X pins σ Q) X.xe s
def MtR(X:Cx)(id:String)(r:V->List V->Hp->VK->Prop):Prop :=
 ∀(pins:List (Addr×Obj))(s:Shared)(σ:St)(H:Hp)(x:V)(xs:List V)(v:Value)(us:List Value)(Q:VK),Inv X pins σ H s->RelV x v->Vals xs us->r x xs H Q ->
  wpAny (model X.prog X.w) X.A (call (.builtin id) (v::us)) (EP X pins σ Q) X.xe s
section
variable{X:Cx}{a b:Expr}{ta tb:TE}{pos:Pos}
theorem aW{r:R2}(hr:IxR X r)(ha:PE X a ta)(hb:PE X b tb)(hs:IQ b):PE X (.Subscript a b pos) (tOp r ta tb):=by
 intro pins s σ H Q I h
 exact Subscript_ (binT ha hb I h fun v u s2 x y H2 I2 rx ry q=>hr a b pins s2 σ H2 x y v u Q I2 rx ry q (hs _ _))
def rIxL(K:IT):R2:=fun x y H Q=>∃ p xs i v,x=.ref p/\y=.int i/\SqL K H p xs/\atI xs i=some v/\Q v H
def rIxT(K:IT):R2:=fun x y H Q=>∃ p xs i v,x=.ref p/\y=.int i/\SqT K H p xs/\atI xs i=some v/\Q v H
theorem a9:IxR X (rIxL X.K):=by
 intro value slice pins s σ H x y v u Q I rx ry h hs
 obtain⟨p,xs,i,z,rfl,rfl,hq,he,q⟩:=h
 cases rx
 obtain⟨t,rfl⟩:=ry
 obtain⟨its,r,pl,hz⟩:=I.list hq
 obtain⟨j,h1,h2,h3,h4,h5⟩:=EN he
 obtain⟨w,ew,rw'⟩:=r.get h2
 have hl:=r.length
 have hn:=Az
 have fin:EP X pins σ Q w s:=⟨z,H,I,rw',q⟩
 by_cases h0:0<=i
 ·have hj:i.toNat=j:=by
   rw[seqIndex_of h0 h5]at h1
   exact Js h1
  exact item_listR pl.isList h0 (by omega) (by rw[hj];simpa using ew) fin hs
 ·have hj:(i+(its.toArray.size:Int)).toNat=j:=by
   rw[seqIndex_neg (by omega) h4]at h1
   rw[JB,← hl]
   exact Js h1
  exact subscriptTail_builtinR (x:=w) pl.isList.typeIs slot_list_getitem.lookup
   (wpAny_getItem_list_neg (Q:=fun r s'=>r=w/\EP X pins σ Q r s') pl.isList (by omega) (by rw[JB]<;>omega) (by omega) (by rw[hj];simpa using ew) ⟨rfl,fin⟩) hs
theorem bT:IxR X (rIxT X.K):=by
 intro value slice pins s σ H x y v u Q I rx ry h hs
 obtain⟨p,xs,i,z,rfl,rfl,hq,he,q⟩:=h
 cases rx
 obtain⟨t,rfl⟩:=ry
 obtain⟨its,r,pl,hz⟩:=I.tuple hq
 obtain⟨j,h1,h2,h3,h4,h5⟩:=EN he
 obtain⟨w,ew,rw'⟩:=r.get h2
 have hl:=r.length
 have hn:=Az
 have fin:EP X pins σ Q w s:=⟨z,H,I,rw',q⟩
 exact subscriptTail_builtinR (x:=w) pl.typeIs slot_tuple_getitem.lookup
  (getItem_tuple (j:=j) (Q:=fun r s'=>r=w/\EP X pins σ Q r s') pl (by omega) (by omega) (by rw[JB,← hl];exact h1) (by simpa using ew) ⟨rfl,fin⟩) hs
theorem Bt(its:List Value)(n j:Nat)(u:Value):Obj.mapSeq (·.setIfInBounds j u) { cls:=.type "list",data:=.seq its.toArray n }={ cls:=.type "list",data:=.seq (its.set j u).toArray n }:=by
 simp[Obj.mapSeq]
theorem Inv.lst{pins:List (Addr×Obj)}{σ:St}{H:Hp}{s:Shared}{p:Addr}{xs:List V}(I:Inv X pins σ H s)(h:H p=some (.lst xs)) :
  ∃(its:List Value)(n:Nat),Vals xs its/\s.heap.get? p=some { cls:=.type "list",data:=.seq its.toArray n }/\xs.length<=sizeLine:=by
 obtain⟨z,its,n,r,e⟩:=I.hok p _ h
 exact⟨its,n,r,e,z⟩
theorem Inv.lstUpd{pins:List (Addr×Obj)}{σ:St}{H:Hp}{s:Shared}{p:Addr}{xs ys:List V}{its its':List Value}{n n':Nat}{f:Obj->Obj}(I:Inv X pins σ H s)(h:H p=some (.lst xs))
  (ho:s.heap.get? p=some { cls:=.type "list",data:=.seq its.toArray n }) (hf:f { cls:=.type "list",data:=.seq its.toArray n }={ cls:=.type "list",data:=.seq its'.toArray n' }) (r:Vals ys its') (hz:ys.length<=sizeLine) (t:Nat) :
  Inv X pins σ (upd H p (.lst ys)) { s with heap:=s.heap.update p f,toks:=t }:=by
 have e:(s.heap.update p f).get? p=some { cls:=.type "list",data:=.seq its'.toArray n' }:=by
  rw[Heap.get?_update_self f ho (by rw[hf]<;>rfl),hf]
 refine I.write (x:=p) (e:=p) (by rw[h];trivial) (.inl rfl) (fun b u hb q=>(Heap.get?_update_other _ _ (Ne.symm hb)).trans q) ⟨_,e⟩ ?_
 exact⟨hz,its',n',r,e⟩
def rSetL:V->V->V->Hp->(Hp->Prop)->Prop:=fun o i v H Q=>∃ p xs k j,o=.ref p/\i=.int k/\H p=some (.lst xs)/\ixN xs.length k=some j/\Q (upd H p (.lst (xs.set j v)))
theorem Al:PSet X rSetL:=by
 intro pins s σ H o i v ov iv u Q I ro ri rv h
 obtain⟨p,xs,k,j,rfl,rfl,hp,hj,q⟩:=h
 cases ro
 obtain⟨t,rfl⟩:=ri
 obtain⟨its,n,r,ho,hz⟩:=I.lst hp
 obtain⟨h1,h2,h3,h4⟩:=DH hj
 have hl:=r.length
 have hn:=Az
 have I':Inv X pins σ (upd H p (.lst (xs.set j v))) { s with heap:=s.heap.update p (Obj.mapSeq (·.setIfInBounds j u)) } :=
  I.lstUpd hp ho (Bt its n j u) (r.set rv j) (by rw[Ku];exact hz) s.toks
 by_cases h0:0<=k
 ·have hk:k.toNat=j:=by
   rw[seqIndex_of h0 h4]at h1
   exact Js h1
  exact PySem.W.ki_setAt ho h0 (by omega) (by rw[JB,← hl];exact h4) (by rw[hk];exact⟨_,I',q⟩)
 ·have hk:(k+(its.toArray.size:Int)).toNat=j:=by
   rw[seqIndex_neg (by omega) h3]at h1
   rw[JB,← hl]
   exact Js h1
  exact PySem.W.ki_setBack ho (by omega) (by rw[JB,← hl];exact h3) (by omega) (by rw[hk];exact⟨_,I',q⟩)
theorem vk(lo hi:Option Int)(n:Nat):(sliceBounds lo hi none n).1=((HT.sIx n 0 lo:Nat):Int)/\(sliceBounds lo hi none n).2.1=((HT.sIx n n hi:Nat):Int)/\(sliceBounds lo hi none n).2.2=1:=by
 refine⟨?_,?_,rfl⟩
 ·cases lo with
  |none=>simp[sliceBounds,HT.sIx]
  |some i =>
   simp only[sliceBounds,HT.sIx,Option.getD_none,show(1:Int) > 0 by decide,if_true]
   by_cases h:i<0
   ·simp only[h,if_true]<;>omega
   ·simp only[h,if_false]<;>omega
 ·cases hi with
  |none=>simp[sliceBounds,HT.sIx]
  |some i =>
   simp only[sliceBounds,HT.sIx,Option.getD_none,show(1:Int) > 0 by decide,if_true]
   by_cases h:i<0
   ·simp only[h,if_true]<;>omega
   ·simp only[h,if_false]<;>omega
theorem sL(its:List Value)(lo hi:Option Int):slicePick its.toArray lo hi none=((its.drop (HT.sIx its.length 0 lo)).take (HT.sIx its.length its.length hi-HT.sIx its.length 0 lo)).toArray:=by
 obtain⟨h1,h2,h3⟩:=vk lo hi its.toArray.size
 unfold slicePick
 rw[h1,h2,h3]
 simp only[sliceRange_one,pick_run,JB]<;>rfl
def rSlL(K:IT):V->Option Int->Option Int->Hp->VK->Prop:=fun x lo hi H Q=>∃ a xs,x=.ref a/\SqL K H a xs/\∀ p,H p=none->Q (.ref p) (upd H p (.lst (cutV xs lo hi)))
theorem gT:SlR X (rSlL X.K):=by
 intro pins s σ H x v vl vu lo hi sl Q I rx hs pl pu h
 obtain⟨a,xs,rfl,hx,q⟩:=h
 cases rx
 obtain⟨its,r,ht,hz⟩:=I.list hx
 have hlen:=r.length
 refine⟨"list",_,slot_list_getitem.lookup,ht.isList.typeIs,?_⟩
 refine wpAny_getItem_list_slice ht.isList hs pl pu .none (by simp) ?_ (by rw[JB]<;>omega)
 rw[sL,← hlen]
 refine⟨.ref s.heap.objs.size,_,I.laid (t':=s.toks) (o:=.lst (cutV xs lo hi)) (fun b ob q=>Heap.get?_push_of_some _ q) (IY _) ?_,rfl,q _ (I.hok.fresh (IY _))⟩
 exact⟨JS (zx xs lo hi) hz,_,0,(r.drop (HT.sIx xs.length 0 lo)).take (HT.sIx xs.length xs.length hi-HT.sIx xs.length 0 lo),Heap.get?_push_size _ rfl⟩
theorem aA:ku X (.builtin "len") (fun xs H Q=>∃ p ys,xs = [.ref p]/\(SqL X.K H p ys∨SqT X.K H p ys)/\Q (.int ys.length) H):=by
 intro pins s σ H xs us Q I r h
 obtain⟨p,ys,rfl,hq,q⟩:=h
 obtain⟨u,rfl,rx⟩:=vb r
 cases rx
 have hn:=Az
 rcases hq with hq | hq
 ·obtain⟨its,r',pl,hz⟩:=I.list hq
  have hlen:=r'.length
  exact Calls.call_len_list pl.isList (by simp only[JB]<;>omega) ⟨.int ys.length,H,I.tok _,⟨s.toks+1,by rw[JB,hlen]⟩,q⟩
 ·obtain⟨its,r',pl,hz⟩:=I.tuple hq
  have hlen:=r'.length
  exact len_tuple pl (by simp only[JB]<;>omega) ⟨.int ys.length,H,I.tok _,⟨s.toks+1,by rw[JB,hlen]⟩,q⟩
theorem iD:ku X (.type "list") (fun xs H Q=>∃ p ys,xs = [.ref p]/\(SqL X.K H p ys∨SqT X.K H p ys)/\∀ l,H l=none->Q (.ref l) (upd H l (.lst ys))):=by
 intro pins s σ H xs us Q I r h
 obtain⟨p,ys,rfl,hq,q⟩:=h
 obtain⟨u,rfl,rx⟩:=vb r
 cases rx
 have fin:∀(its:List Value),Vals ys its->ys.length<=sizeLine->∀(h':Heap)(c':Nat),(∀ b o',s.heap.get? b=some o'->h'.get? b=some o') ->
   h'.get? s.heap.objs.size=some { cls:=.type "list",dict:=none,data:=.seq its.toArray c',slots:=#[] }->EP X pins σ Q (.ref s.heap.objs.size) { s with heap:=h' }:=fun its r' hz h' c' kp e =>
  ⟨.ref s.heap.objs.size,_,I.laid (t':=s.toks) kp (IY _) (show br X.prog X.w _ h' _ (.lst ys) from⟨hz,its,c',r',e⟩),rfl,q _ (I.hok.fresh (IY _))⟩
 rcases hq with hq | hq
 ·obtain⟨its,r',pl,hz⟩:=I.list hq
  have hlen:=r'.length
  obtain⟨o,ho,hc,n,hd⟩:=pl.isList
  exact call_list_seq p (.inl rfl) ho hc hd (fun h' c' kp e=>fin its r' hz h' c' kp e) (by simp only[JB]<;>omega)
 ·obtain⟨its,r',pl,hz⟩:=I.tuple hq
  have hlen:=r'.length
  obtain⟨o,ho,hc,n,hd⟩:=pl
  exact call_list_seq p (.inr rfl) ho hc hd (fun h' c' kp e=>fin its r' hz h' c' kp e) (by simp only[JB]<;>omega)
def tyV(K:IT)(T:String)(x:V)(H:Hp):Prop:=match x with
 |.str _=>T = "str"
 |.int _=>T = "int"
 |.ref p=>(T = "list"/\∃ xs,SqL K H p xs)∨(T = "tuple"/\∃ o,K.lookup p=some o/\o.cls=.type "tuple"/\o.dict=none) ∨
   (T = "dict"/\((∃ kvs,H p=some (.dK kvs))∨∃ kvs,H p=some (.dT kvs)))∨(T = "set"/\∃ S n,H p=some (.set S n))
 |_=>False
theorem Gi{pins:List (Addr×Obj)}{σ:St}{H:Hp}{s:Shared}{T:String}{x:V}{v:Value}(I:Inv X pins σ H s)(r:RelV x v)(ty:tyV X.K T x H) :
  s.TypeIs v T/\∀ a,v=.ref a->∃ ob,s.heap.get? a=some ob/\ob.dict=none:=by
 cases x with
 |str z =>
  obtain⟨t,rfl⟩:=r
  cases (show T = "str" from ty)
  exact⟨typeIs_str s z t,fun _ e=>nomatch e⟩
 |int i =>
  obtain⟨t,rfl⟩:=r
  cases (show T = "int" from ty)
  exact⟨typeIs_int s i t,fun _ e=>nomatch e⟩
 |ref p =>
  cases r
  rcases ty with⟨rfl,xs,hq⟩ | ⟨rfl,o,hk,hc,hd⟩ | ⟨rfl,hk⟩ | ⟨rfl,S,n,hk⟩
  ·obtain⟨its,_,pl,_⟩:=I.list hq
   refine⟨pl.isList.typeIs,fun a e=>?_⟩
   cases e
   obtain⟨o,n,e,c,hd,_⟩:=pl
   exact⟨o,e,hd⟩
  ·refine⟨⟨o,I.kIn p o hk,hc⟩,fun a e=>?_⟩
   cases e
   exact⟨o,I.kIn _ o hk,hd⟩
  ·have z:∃ o,s.heap.get? p=some o/\o.ExactDict:=by
    rcases hk with⟨kvs,hk⟩ | ⟨kvs,hk⟩
    ·obtain⟨_,_,_,_,o,_,_,e,ex,_⟩:=I.hok p _ hk
     exact⟨o,e,ex⟩
    ·obtain⟨_,_,_,_,o,_,_,e,ex,_⟩:=I.hok p _ hk
     exact⟨o,e,ex⟩
   obtain⟨o,e,ex⟩:=z
   refine⟨⟨o,e,ex.1⟩,fun a e2=>?_⟩
   cases e2
   exact⟨o,e,ex.2.1⟩
  ·obtain⟨o,_,_,_,e,ex,_⟩:=I.hok p _ hk
   refine⟨⟨o,e,ex.1⟩,fun a e2=>?_⟩
   cases e2
   exact⟨o,e,ex.2.1⟩
 |_=>exact False.elim ty
def tBM0(K:IT)(T:String)(r:V->List V->Hp->VK->Prop)(to:TE):TE:=fun σ H Q=>to σ H fun x H1=>tyV K T x H1/\r x [] H1 Q
def tBM(K:IT)(T:String)(r:V->List V->Hp->VK->Prop)(to:TE)(t:TA):TE:=fun σ H Q=>to σ H fun x H1=>tyV K T x H1/\t σ H1 fun xs H2=>r x xs H2 Q
variable{o e:Expr}{es:List Expr}{to:TE}{t:TA}{name:Str}{apos cpos:Pos}{T id:String}{r:V->List V->Hp->VK->Prop}
theorem pe_bm0(pa:PlainAttrs T)(slot:Slot T name id) (hty:typeOf (.builtin id)=pure (.type "method_descriptor")) (hm:MtR X id r) (ho:PE X o to)
  (hbase:attributeBase o name X.env (eval o X.env)=eval o X.env:=by rfl) (hline:(apos.endLine == cpos.line)=true:=by rfl):PE X (.Call (.Attribute o name apos) [] [] cpos) (tBM0 X.K T r to):=by
 intro pins s σ H Q I h
 refine wpAny_Call_method0_late hbase hline (thn (ho pins s σ H _ I h) fun v s1 ⟨x,H1,I1,r1,ty,q1⟩=>?_)
 obtain⟨h1,h2⟩:=Gi I1 r1 ty
 exact⟨T,id,pa,slot,hty,h1,h2,Calls.callWith_builtin rfl (PySem.evalArgs_none (hm pins s1 σ H1 x [] v [] Q I1 r1 .nil q1))⟩
theorem nA(pa:PlainAttrs T)(slot:Slot T name id) (hty:typeOf (.builtin id)=pure (.type "method_descriptor")) (hm:MtR X id r) (ho:PE X o to) (ha:PA X (e::es) t)
  (hbase:attributeBase o name X.env (eval o X.env)=eval o X.env:=by rfl)
  (hfew:((backTo cpos (starEach (e::es) X.env)).all (fun x=>!x.1)&&(backToKw cpos (keywordEach [] X.env)).all (fun x=>x.1.isSome)
   && decide ((e::es).length+([]:List Keyword).length+(if([]:List Keyword).isEmpty then 0 else 1)<30))=true:=by rfl)
  (hline:(apos.endLine == cpos.line)=true:=by rfl) (hs:starEach (e::es) X.env=(false,eval e X.env)::starEach es X.env:=by rfl) (hplain:(backTo cpos (starEach es X.env)).any (·.1)=false:=by rfl) :
  PE X (.Call (.Attribute o name apos) (e::es) [] cpos) (tBM X.K T r to t):=by
 intro pins s σ H Q I h
 refine wpAny_Call_method_late hbase hfew hline rfl (thn (ho pins s σ H _ I h) fun v s1 ⟨x,H1,I1,r1,ty,q1⟩=>?_)
 obtain⟨h1,h2⟩:=Gi I1 r1 ty
 refine⟨T,id,pa,slot,hty,h1,h2,?_⟩
 have hA:=ha cpos pins s1 σ H1 _ I1 q1
 rw[hs]at hA ⊢
 refine Calls.callWith_builtin (by show(false||(backTo cpos (starEach es X.env)).any (·.1))=false;rw[hplain]<;>rfl) (Calls.evalArgs_plain ?_)
 exact thn hA fun us s2 ⟨vs,H2,I2,r2,q2⟩=>hm pins s2 σ H2 x vs v us Q I2 r1 r2 q2
end
end L2
namespace L2
open PySem PySem.Spec PyProof.Rows
def MtM(X:Cx)(id:String)(r:V->List V->Hp->VK->Prop):Prop :=
 ∀(pins:List (Addr×Obj))(s:Shared)(σ:St)(H:Hp)(x:V)(xs:List V)(v:Value)(us:List Value)(Q:VK),Inv X pins σ H s->RelV x v->Vals xs us->r x xs H Q ->
  wpAny (model X.prog X.w) X.A (call (.builtin id) (v::us)) (EP X pins σ Q) X.xe s
theorem Vals.one:∀{x:V}{us:List Value},Vals [x] us->∃ u,us = [u]/\RelV x u
 |_,_,.cons r .nil=>⟨_,rfl,r⟩
theorem Vals.zero:∀{us:List Value},Vals [] us->us = []
 |_,.nil=>rfl
section
variable{X:Cx}{pins:List (Addr×Obj)}{σ:St}{H:Hp}{s:Shared}{l b:Addr}{xs ys zs:List V}
theorem Inv.lset{its its':List Value}{n:Nat}{f:Array Value->Array Value}{t':Nat}(I:Inv X pins σ H s)(hH:H l=some (.lst xs))
  (e:s.heap.get? l=some { cls:=.type "list",data:=.seq its.toArray n }) (hf:f its.toArray=its'.toArray) (hv:Vals ys its') (hz:ys.length<=sizeLine) :
  Inv X pins σ (upd H l (.lst ys)) { s with heap:=s.heap.update l (Obj.mapSeq f),toks:=t' }:=by
 have q:=PySem.IsL.update e f
 rw[hf]at q
 refine I.write (x:=l) (e:=l) (by rw[hH];exact trivial) (.inl rfl) (fun b' u hb hu=>(Heap.get?_update_other s.heap (Obj.mapSeq f) (Ne.symm hb)).trans hu) ⟨_,q⟩ ?_
 exact⟨hz,its',_,hv,q⟩
theorem Inv.lnew{its:List Value}{t':Nat}(I:Inv X pins σ H s)(hv:Vals ys its)(hz:ys.length<=sizeLine) :
  Inv X pins σ (upd H s.heap.objs.size (.lst ys)) { s with heap:=s.heap.push { cls:=.type "list",data:=.seq its.toArray },toks:=t' } :=
 I.laid (fun _ _ q=>Heap.get?_push_of_some _ q) (IY _) ⟨hz,its,0,hv,Heap.get?_push_size _ rfl⟩
theorem Inv.fresh(I:Inv X pins σ H s):H s.heap.objs.size=none:=I.hok.fresh (IY _)
theorem Inv.lstM(I:Inv X pins σ H s)(hH:H l=some (.lst xs)):xs.length<=sizeLine/\∃(its:List Value)(n:Nat),Vals xs its/\xs.length=its.length/\s.heap.get? l=some { cls:=.type "list",data:=.seq its.toArray n }:=by
 obtain⟨z,its,n,r,e⟩:=I.hok l _ hH
 exact⟨z,its,n,r,r.length,e⟩
end
section
variable{X:Cx}
def Hq:V->List V->Hp->VK->Prop:=fun x vs H Q=>∃ l xs y,x=.ref l/\vs = [y]/\H l=some (.lst xs)/\xs.length<sizeLine/\Q .non (upd H l (.lst (xs++[y])))
theorem bD:MtM X "list.append" Hq:=by
 intro pins s σ H x vs v us Q I rx rv h
 obtain⟨l,xs,y,rfl,rfl,hH,hz,q⟩:=h
 cases rx
 obtain⟨u,rfl,ru⟩:=rv.one
 obtain⟨z,its,n,r,hl,e⟩:=I.lstM hH
 refine call_meets F.slot_list_append ⟨_,e,rfl⟩ F.entry_list_append (F.args_list_append_2 _ _) (PySem.list_append l its.toArray n u (by rw[JB];omega)) ⟨e,?_⟩
 refine⟨.non,_,I.lset (its':=its++[u]) hH e (by simp) (r.append (.cons ru .nil)) ?_,rfl,q⟩
 rw[IX,Jg]
 omega
end
section
variable{prog:Program}{w:World}{A:Around}{E:Value->Shared->Prop}{s:Shared}
end
section
variable{X:Cx}
end
end L2
namespace Att
open PySem PySem.W PySem.Calls PyProof.Rows
theorem o7{P:Params}{h:Heap}:∀(ns:List Int)(vs:List Value),WellAll P h vs (ns.map WData.int)->IntsAre vs ns:=by
 intro ns
 induction ns with
 |nil =>
  intro vs w
  rw[LO]at w
  cases w
  exact .nil
 |cons n ns ih =>
  intro vs w
  rw[JJ]at w
  cases w with
  |cons a b =>
   cases a
   exact .cons _ _ (ih _ b)
theorem CN{l:OpenLaw}{n:Nat}(hn:l.most=some n){P:Params}{h:Heap}{args:List WData}{vals:List Value}
  (hpre:l.row.toRowW.claim.pre args=true) (hwl:WellAll P h vals args) :
  ∃ a vs ns,vals = [Value.ref a]/\args = [WData.list (ns.map WData.int)]/\h.get? a=some { cls:=.type "list",data:=.seq vs.toArray }/\IntsAre vs ns/\ns.length<=n:=by
 have hsh:WShape.hasAll [] args [.list .int]=true:=(pre_splitW hpre).1
 have hc:l.pre.holds [] { args:=args }=true:=(pre_splitW hpre).2
 obtain⟨d,r,rfl,h1,h2⟩:=hasAllW_cons hsh
 obtain rfl:=hasAllW_nil h2
 obtain⟨xs,rfl,h3⟩:=hasW_list h1
 obtain⟨ns,rfl⟩:=items_int h3
 have hlen:ns.length<=n:=by
  unfold OpenLaw.pre at hc
  have h4:(WTm.not (.lt (.lit (.int (n:Int))) (.len (.arg 0)))).holds [] { args:=[.list (ns.map .int)] }=true:=by
   have h4:=(holds_andW hc).1
   rw[hn]at h4
   exact h4
  have h5:=condW_of h4 (w_not (w_lt w_lit (w_len_list (w_arg rfl))))
  rw[IV]at h5
  refine Nat.le_of_not_lt fun q=>?_
  have q':(n:Int)<((ns.length:Nat):Int):=by omega
  first
   | (rw[decide_eq_true q']at h5;exact absurd h5 (by decide))
   | (simp at h5;omega)
 cases hwl with
 |cons w1 w2 =>
  cases w2
  cases w1 with
  |list ho hall=>exact⟨_,_,ns,rfl,rfl,ho,o7 ns _ hall,hlen⟩
theorem CZ(l:OpenLaw)(args:List WData):l.row.toRowW.claim.post args (.bool true) args=true :=
 postW_of (r:=l.row.toRowW) (X:=(true == true))
  (show WShape.has [] (.bool true) .bool=true by first | rfl | decide | simp[WShape.has,WShape.arms,WShape.armsAll])
  (show(WTm.eq .res (.lit (.bool true))).value [] { args:=args,res:=some (.bool true),after:=args }=some (.bool (true == true)) from w_eq_bool (w_res rfl) w_lit) rfl
theorem attach_call{l:OpenLaw}{n:Nat}{q:Program}{loose:List Str}{XP:(Str->Option Value)->Heap->Prop}{YP:World->Heap->Prop}{d:DefRec}
  (hn:l.most=some n) (hdf:d.params.defaults = [])
  (call:∀(w:World)(s₀ s₁:Shared)(mg mb:Str->Option Value)(fa:Addr)(o:Obj)(pm cd doc:Value)(a:Addr)(vs:List Value)(ns:List Int),
   Ground q loose [] XP w s₀ mg mb s₁.heap->YP w s₁.heap ->
   s₁.heap.get? fa=some o->o.data=.func (docDef d.name d.params d.body d.scope pm cd doc)->s₁.heap.CodeRec cd d.name->mg d.name=some (.ref fa) ->
   s₁.heap.get? a=some { cls:=.type "list",data:=.seq vs.toArray }->IntsAre vs ns->ns.length<=n->s₁.gens=#[] ->
   codeAny (model l.prog w) callerA (.call (.ref fa) ⟨[.ref a],[]⟩) (fun r s'=>r=.ok (.ret (.bool true))/\OldK s₁.heap s'.heap/\s'.os=s₁.os/\AllBare s'.gens) s₁) :
  WalkO q loose XP YP l.row.toRowW d [] (fun f vs=>PySem.call f vs):=by
 intro w s₀ s₁ mg mb G Y fa o pm cd doc dV kV ho hd hcd hD hmg hg args vals as hpre hlay hrd hwl hlo
 obtain rfl:dV=.none:=Dflts.none hD hdf
 obtain rfl:kV=.none:=Dflts.noKw hD
 obtain⟨a,vs,ns,rfl,rfl,hobj,hints,hlen⟩:=CN hn hpre hwl
 refine enter_call (codeAny_mono (call w s₀ s₁ mg mb fa o pm cd doc a vs ns G Y ho (fd_plain hd) hcd hmg hobj hints hlen hg) fun r s' hq=>?_)
 obtain⟨rfl,h2,h3,h4⟩:=hq
 exact⟨.inl ⟨.bool true,.bool true,[],rfl,fun _=>rfl,.bool true,CZ l _,fun _=>⟨LC,fun _ hm=>(nomatch hm)⟩⟩,h2,h3,h4⟩
section
variable{prog:Program}{w:World}{A:Around}{E:Value->Shared->Prop}{s:Shared}{K:Frag}
end
end Att
namespace L2
open PySem PySem.Spec PyProof.Rows
theorem va:∀{vs:List Value}{ns:List Int},IntsAre vs ns->Vals (ns.map V.int) vs
 |_,_,.nil=>.nil
 |_,_,.cons n t h=>.cons ⟨t,rfl⟩ (va h)
def Only(H:Hp):Prop:=∀ b,H b=none∨∃ o xs,H b=some (.frz o (.lst xs))
theorem FL{P:Program}{w:World}{K:IT}{mg mb:Str->Option Value}{CX:CXT}{k:Nat}{fa a:Addr}{fd:FuncData}{x:Str}{sp:Sp}{s₁:Shared}{vs:List Value}{ns:List Int}
  (KX:K.In s₁.heap) (hns:s₁.heap.Ns mainGlobals mg) (hb:s₁.heap.Ns builtinsNs mb) (hbb:∀ x:Str,x≠"__name__"->mb x=bootBuiltins x) (hlim:s₁.heap.NoLimit) (hg:s₁.gens=#[])
  (ha:s₁.heap.get? a=some { cls:=.type "list",data:=.seq vs.toArray }) (hi:IntsAre vs ns) (hl:ns.length<=sizeLine) (hr:Room k callerA)
  (F:∀ base:Heap,K.In base->base.Ns mainGlobals mg->FnOk P w K mg base CX k fa fd [x] sp) (hbind:∀(s:Shared)(u:Value),BindsTo s fd ⟨[u],[]⟩ [(x,u)])
  (hsp:∀ H:Hp,Only H->SqL K H a (ns.map V.int)->sp [.ref a] H (fun v _=>v=.bl true) fun _ _ _=>False)
  (hCX:∀ H e s',CX [] H s₁ (fun _ _ _=>False) e s'->False) :
  codeAny (model P w) callerA (.call (.ref fa) ⟨[.ref a],[]⟩) (fun r s'=>r=.ok (.ret (.bool true))/\OldK s₁.heap s'.heap/\s'.os=s₁.os/\AllBare s'.gens) s₁:=by
 have rv:=va hi
 have lenV:=hi.length
 have core:∀ H:Hp,Only H->SqL K H a (ns.map V.int)->HOk P w H s₁.heap->(∀ b,H b≠none->b=a)->(H a≠none->K.lookup a=none) ->
   codeAny (model P w) callerA (.call (.ref fa) ⟨[.ref a],[]⟩) (fun r s'=>r=.ok (.ret (.bool true))/\OldK s₁.heap s'.heap/\s'.os=s₁.os/\AllBare s'.gens) s₁:=by
  intro H hO hS hok hA hK
  have base_of:∀{b:Addr}{o:Obj},s₁.heap.get? b=some o->H b=none->(hidT s₁.heap H).get? b=some o:=fun e n=>FW e n
  have noA:∀{b:Addr}{o:Obj}{es:Array DictEntry}{ep:Nat},s₁.heap.get? b=some o->o.data=.dict es ep->H b=none:=fun{b o es ep} e d=>by
   cases q:H b with
   |none=>rfl
   |some u =>
    have e':b=a:=hA b (by rw[q];simp)
    subst e'
    rw[ha]at e;cases e
    have d':Data.seq vs.toArray _=Data.dict es ep:=d
    cases d'
  have nsK:∀{b:Addr}{m:Str->Option Value},s₁.heap.Ns b m->(hidT s₁.heap H).Ns b m:=fun{b m} ⟨o,es,ep,e,d,r⟩=>⟨o,es,ep,base_of e (noA e d),d,r⟩
  have hKb:K.In (hidT s₁.heap H):=fun b o e=>base_of (KX b o e) (by
   cases q:H b with
   |none=>rfl
   |some u =>
    have e':b=a:=hA b (by rw[q];simp)
    subst e'
    rw[hK (by rw[q];simp)]at e;cases e)
  have hM:Mod K mg (hidT s₁.heap H):=⟨hKb,nsK hns,⟨mb,nsK hb,hbb⟩,let ⟨mc,h1,h2⟩:=hlim;⟨mc,nsK h1,h2⟩⟩
  have e0:Env0 P w K mg (hidT s₁.heap H) callerA [] s₁ H:=⟨rfl,hM,fun b o e=>HY e,Nat.le_of_eq (DT _ _),trivial,fun b hb=>absurd (show b∈([]:List Addr) from hb) (by simp),hok,.of_eq hg⟩
  refine codeAny_mono ((F _ hKb (nsK hns)).run callerA [] s₁ H ⟨[.ref a],[]⟩ [.ref a] [.ref a] _ _ hr e0 (hbind s₁ (.ref a)) (.cons rfl .nil) (hsp H hO hS)) fun r s' h=>?_
  cases r with
  |error e=>exact(hCX H e s' h).elim
  |ok fl =>
   cases fl with
   |next=>exact False.elim h
   |brk=>exact False.elim h
   |cont=>exact False.elim h
   |ret u =>
    obtain⟨v,H',os,bare,un,hok',r',q⟩:=h
    have q':v=.bl true:=q
    subst q'
    obtain rfl:u=Value.bool true:=r'
    refine⟨rfl,OldK.of_keep fun b o e=>?_,os,bare⟩
    cases q:H b with
    |none=>exact un.keep b o e q (by intro z;exact absurd (show b∈([]:List Addr) from z) (by simp)) (by simp)
    |some u =>
     rcases hO b with z | ⟨ob,xs,z⟩
     ·rw[q]at z;cases z
     ·have z2:=un.frzs b ob _ z
      obtain⟨e1,_⟩:=hok b _ z
      obtain⟨e2,_⟩:=hok' b _ z2
      rw[e]at e1;cases e1
      exact e2
 cases hk:K.lookup a with
 |some o =>
  have e:=KX a o hk
  rw[ha]at e
  cases e
  refine core (fun _=>none) (fun _=>.inl rfl) (.inr ⟨_,vs.toArray,_,hk,rfl,rfl,rfl,by rw[JB,lenV];exact hl,by simpa using rv⟩) (fun b u z=>by have z':(none:Option HO)=some u:=z;cases z') (fun b z=>absurd rfl z) fun z=>absurd rfl z
 |none =>
  refine core (fun b=>if b=a then some (.frz { cls:=.type "list",data:=.seq vs.toArray } (.lst (ns.map V.int))) else none) (fun b=>?_) (.inl (.inr ⟨{ cls:=.type "list",data:=.seq vs.toArray },if_pos rfl⟩)) (fun b u z=>?_) (fun b z=>?_) fun _=>hk
  ·by_cases hb:b=a
   ·exact .inr ⟨_,_,if_pos hb⟩
   ·exact .inl (if_neg hb)
  ·by_cases hb:b=a
   ·have z':=(if_pos hb).symm.trans z
    cases z'
    subst hb
    exact⟨ha,by rw[IV];exact hl,vs,_,rv,ha⟩
   ·have z':=(if_neg hb).symm.trans z
    cases z'
  ·by_cases hb:b=a
   ·exact hb
   ·exact absurd (if_neg hb) z
end L2
namespace L2
open PySem PySem.Spec PyProof.Rows
theorem walk_of{l:Mj}{n k:Nat}{q:Program}{loose:List Str}{XP:(Str->Option Value)->Heap->Prop}{YP:World->Heap->Prop}{d:DefRec}{K:Params->IT}{CX:World->CXT}{sp:World->Sp}{x:Str}
  (hn:l.most=some n) (hn2:n<=sizeLine) (hdf:d.params.defaults = []) (hr:Room k callerA)
  (hY:∀(w:World)(h:Heap),YP w h->(K w.params).In h)
  (F:∀(w:World)(mg:Str->Option Value)(fa:Addr)(h:Heap),(K w.params).In h->h.Ns mainGlobals mg->mg d.name=some (.ref fa) ->
   ∃ fd:FuncData,(∀(s:Shared)(u:Value),BindsTo s fd ⟨[u],[]⟩ [(x,u)]) /\
    ∀ base:Heap,(K w.params).In base->base.Ns mainGlobals mg->FnOk l.prog w (K w.params) mg base (CX w) k fa fd [x] (sp w))
  (hsp:∀(w:World)(H:Hp)(a:Addr)(ns:List Int),ns.length<=n->Only H->SqL (K w.params) H a (ns.map V.int)->sp w [.ref a] H (fun v _=>v=.bl true) fun _ _ _=>False)
  (hCX:∀(w:World)(H:Hp)(s:Shared)(e:Value)(s':Shared),CX w [] H s (fun _ _ _=>False) e s'->False) :
  PySem.W.WalkO q loose XP YP l.row.toRowW d [] (fun f vs=>PySem.call f vs):=by
 refine Att.attach_call hn hdf fun w s₀ s₁ mg mb fa o pm cd doc a vs ns G Y ho hd hcd hmg hobj hints hlen hg=>?_
 have KX:=hY w _ Y
 obtain⟨fd,hb,hF⟩:=F w mg fa _ KX G.T.g hmg
 exact FL KX G.T.g G.T.b G.T.builtins G.T.nolimit hg hobj hints (JS hlen hn2) hr hF hb (fun H hO hS=>hsp w H a ns hlen hO hS) fun H e s'=>hCX w H s₁ e s'
end L2
namespace L2
open PySem PySem.Spec PyProof.Rows
def lV(s:Stmt)(j:Nat):Stmt:=match s with
 |.ClassDef _ _ _ body _ _ _ _ _ _ _=>body.getD j (.Pass ⟨0,0,0,0⟩)
 |_=>.Pass ⟨0,0,0,0⟩
def ay(s:Stmt):Arguments:=match s with
 |.FunctionDef _ a _ _ _ _ _ _ _ _=>a
 |_=>{ posonlyargs:=[],args:=[],vararg:=none,kwonlyargs:=[],kw_defaults:=[],kwarg:=none,defaults:=[] }
def au(s:Stmt):List Stmt:=match s with
 |.FunctionDef _ _ b _ _ _ _ _ _ _=>b
 |_=>[]
def ag(s:Stmt):Scope:=match s with
 |.FunctionDef _ _ _ _ _ _ sc _ _ _=>sc
 |_=>{ kind:=.function,names:=[],isGenerator:=false,isCoroutine:=false }
abbrev CX0:CXT:=fun _ _ _ _ _ _=>False
abbrev E0:XK:=fun _ _ _=>False
theorem aZ{X:Cx}:m6 CX0 X E0:=fun _ _ _ _ _ _ _ h=>h.elim
structure Fun(K:IT)(x qual:Str)(st:Stmt)(f:Addr)(fd:FuncData):Prop where
 ex:∃(oc:Value)(od:Option Addr)(kV doc pm:Value)(an:Option Addr)(cdv ct:Value)(osl:Array (Option Value)),
  fd=Ji x qual (ay st) (au st) (ag st) .none kV doc pm an cdv ct/\K.lookup f=some ⟨oc,od,.func fd,osl⟩/\Jh K cdv qual=true
 kp:Jd K (.ref f)=true
section
variable{P:Program}{w:World}{K:IT}{mg:Str->Option Value}{base:Heap}
theorem Fun.ok{x qual:Str}{st:Stmt}{f:Addr}{fd:FuncData}{N ps:List Str}{k:Nat}{sp:Sp}(F:Fun K x qual st f fd)(S:aB N ps (ag st))(len:∀ vs H Q E,sp vs H Q E->vs.length=ps.length)
  (hbody:∀(cdv:Value)(A:Around)(outer:List Env)(s:Shared)(H:Hp)(vs:List V)(Q:VK)(E:XK),Room k (A.deeper (envOfC qual (ag st) s.heap.objs.size f cdv))->sp vs H Q E ->
   ∃ t,PSs (cxOf CX0 P w K mg base N qual (ag st) f cdv A outer s H E).nox (au st) t/\t { nx:=fun _ H'=>Q .non H',rt:=Q } (qj N vs) H):FnOk P w K mg base CX0 (k+1) f fd ps sp:=by
 obtain⟨oc,od,kV,doc,pm,an,cdv,ct,osl,rfl,lk,hcd⟩:=F.ex
 refine Iu lk hcd S len fun A outer s H vs Q E hr hsp=>?_
 obtain⟨t,h,q⟩:=hbody cdv A outer s H vs Q E hr hsp
 exact⟨t,h.nox,q⟩
theorem Fun.binds{x qual:Str}{st:Stmt}{f:Addr}{fd:FuncData}{ps:List Str}(F:Fun K x qual st f fd)
  (h:∀(kV doc pm:Value)(an:Option Addr)(cdv ct:Value)(us:List Value),us.length=ps.length->bindArgs (Ji x qual (ay st) (au st) (ag st) .none kV doc pm an cdv ct) ⟨us,[]⟩=pure (ps.zip us)):iR K fd ps []:=by
 obtain⟨oc,od,kV,doc,pm,an,cdv,ct,osl,rfl,lk,hcd⟩:=F.ex
 exact .all (h kV doc pm an cdv ct)
theorem aP{x qual:Str}{st:Stmt}{f:Addr}{oc:Value}{od an:Option Addr}{osl:Array (Option Value)}{kV doc pm cdv ct:Value}(l:K.lookup f=some ⟨oc,od,.func (Ji x qual (ay st) (au st) (ag st) .none kV doc pm an cdv ct),osl⟩)
  (c:Jh K cdv qual=true) (k:Jd K (.ref f)=true):Fun K x qual st f (Ji x qual (ay st) (au st) (ag st) .none kV doc pm an cdv ct):=⟨⟨oc,od,kV,doc,pm,an,cdv,ct,osl,rfl,l,c⟩,k⟩
end
theorem FU{A:Around}{k:Nat}(hr:Room k A):A.units+1<cLine:=Nat.lt_of_le_of_lt (Nat.add_le_add_left (by decide:1<=64) _) hr.units
theorem aw{n:Nat}(h:n<=1000):n<sizeLine:=Nat.lt_of_le_of_lt h (by decide)
section
variable{X:Cx}
theorem pv(i:Nat){x:Str}{pos:Pos}(hN:X.N[i]?=some x:=by rfl)(hv:Vis X.env.scope x:=by first | exact Or.inl rfl | exact Or.inr (Or.inl rfl) | exact Or.inr (Or.inr rfl)) (hd:(x == ("__debug__" : Str))=false:=by decide)
  (hcd:(x == ("__classdict__" : Str))=false:=by decide):PE X (.Name x pos) (tVar i):=pe_var hN hv hd hcd
end
theorem iteF{A B:Prop}(h:B):if false=true then A else B:=by
 rw[if_neg Jo]
 exact h
theorem iteT{A B:Prop}(h:A):if true=true then A else B:=by
 rw[if_pos rfl]
 exact h
theorem ite2{c A B:Prop} [Decidable c] (h1:c->A) (h2:¬ c->B):if c then A else B:=by
 by_cases h:c
 ·rw[if_pos h]
  exact h1 h
 ·rw[if_neg h]
  exact h2 h
theorem qS{c A B:Prop} [Decidable c] (hc:c) (h:B):if(!decide c)=true then A else B:=by
 rw[decide_eq_true hc]
 exact iteF h
def Same(H H':Hp):Prop:=∀ b o,H b=some o->H' b=some o
theorem Same.trans{H H1 H2:Hp}(a:Same H H1)(b:Same H1 H2):Same H H2:=fun c o h=>b c o (a c o h)
theorem Same.seq{K:IT}{H H':Hp}{a:Addr}{xs:List V}(e:Same H H')(h:SqL K H a xs):SqL K H' a xs:=by
 rcases h with(h | ⟨o,h⟩) | h
 ·exact .inl (.inl (e _ _ h))
 ·exact .inl (.inr ⟨o,e _ _ h⟩)
 ·exact .inr h
end L2
set_option maxRecDepth 100000
set_option maxHeartbeats 4000000
namespace L2
open PySem PySem.Spec PyProof.Rows
end L2
namespace L2
open PySem PySem.Spec PyProof.Rows
section
variable(P:Program)(w:World)
end
section
variable{P:Program}{w:World}{H H':Hp}{h h':Heap}{a:Addr}{o:HO}
end
section
variable{P:Program}{w:World}{H:Hp}{h h':Heap}{x e:Addr}{o':HO}
end
section
variable{fs fs' ex ex':List Addr}{H H1 H2:Hp}{h h1 h2 h':Heap}{a x e:Addr}{o:HO}
end
end L2
namespace L2
open PySem PySem.Spec PyProof.Rows
section
variable{X:Cx}{pins:List (Addr×Obj)}{σ:List (Option V)}{H H':Hp}{s:Shared}{h':Heap}
end
end L2
namespace L2
open PySem PySem.Spec PyProof.Rows
section
variable{X:Cx}
variable{a b:Expr}{ta tb:TE}{pos:Pos}
variable{tA tB':TT}{rest:List Expr}
end
end L2
namespace L2
open PySem PySem.Spec PyProof.Rows
section
variable{X:Cx}{pins:List (Addr×Obj)}{σ:St}{H:Hp}{s:Shared}{a:Addr}{xs ys:List V}
end
section
variable{X:Cx}{pins:List (Addr×Obj)}{σ:St}{H:Hp}{s:Shared}{E:Value->Shared->Prop}
end
section
variable{X:Cx}{st:Stmt}{rest:List Stmt}{t u:TS}{e:Expr}{te:TE}{pos:Pos}
end
section
variable{X:Cx}{pos:Pos}
end
section
variable{X:Cx}{pos:Pos}
end
end L2
namespace L2
open PySem PySem.Spec PyProof.Rows
section
variable{X:Cx}{tg:Expr}
end
end L2
namespace L2
open PySem PySem.Spec PyProof.Rows
section
variable{X:Cx}{a b c:Expr}{ta tb tc:TE}{pos:Pos}
end
section
variable{X:Cx}{a b c:Expr}{ta tb tc:TE}{pos:Pos}
end
end L2
namespace L2
open PySem PySem.Spec PyProof.Rows
section
variable{prog:Program}{w:World}{A:Around}{E:Value->Shared->Prop}{s:Shared}{K:IT}{x dx C f:Addr}{mA:Str->Option Value}{name:Str}{v:Value}
end
section
variable{P:Program}{w:World}{H H':Hp}{h h':Heap}{a C dx:Addr}{fs fs':List (Str×V)}
end
section
variable{X:Cx}{pins:List (Addr×Obj)}{σ:St}{H:Hp}{s:Shared}{a C dx:Addr}{fs:List (Str×V)}{f:Str}{v:V}{A:Around}{E:Value->Shared->Prop}
end
section
variable{X:Cx}{o e value:Expr}{f:Str}{pos pos' tpos:Pos}{ta tv:TE}
end
section
variable{X:Cx}{pins:List (Addr×Obj)}{σ:St}{H:Hp}{s:Shared}{A:Around}{E:Value->Shared->Prop}{Q:Value->Shared->Prop}{c:Value}{b:Bool}
end
end L2
namespace L2
open PySem PySem.Spec PyProof.Rows
section
variable{X:Cx}{e:Expr}{es:List Expr}{te:TE}{t:TA}{pos:Pos}
end
section
variable{X:Cx}{pins:List (Addr×Obj)}{σ:St}{H:Hp}{s s':Shared}
end
section
variable{X:Cx}{CX:CXT}{k:Nat}{f C:Addr}{fd:FuncData}{ps:List Str}{sp:Sp}{dvs:List V}{ds:List Value}{E:XK}{x m:Str}{p pos apos:Pos}{e o:Expr}{es:List Expr}{ta:TE}{t:TA}
end
section
variable{X:Cx}{CX:CXT}{k:Nat}{f C:Addr}{fd:FuncData}{ps ks:List Str}{sp:Sp}{E:XK}{x m:Str}{p pos apos kpos:Pos}{e o:Expr}{es:List Expr}{kws:List Keyword}{te ta:TE}{t tk:TA}{nm:Option Str}
variable{g:List Value->List Value->List Value}{gV:List V->List V->List V}
end
end L2
namespace L2
open PySem PySem.Spec PyProof.Rows
section
variable{X:Cx}{x:Str}{p pos:Pos}{e:Expr}{es:List Expr}{t:TA}{id T:String}{r:List V->Hp->VK->Prop}
end
end L2
namespace L2
open PySem PySem.Spec PyProof.Rows
section
variable{κ:Type} [DecidableEq κ]
def valV(kvs:List (κ×V))(k:κ):Option V:=(kvs.find? fun kv=>decide (kv.1=k)).map (·.2)
def putK(kvs:List (κ×V))(k:κ)(v:V):List (κ×V) :=
 if(kvs.any fun kv=>decide (kv.1=k))=true then kvs.map (fun kv=>if kv.1=k then(kv.1,v) else kv) else kvs++[(k,v)]
theorem bJ{p:κ×V}{r:List (κ×V)}{k:κ}(e:p.1=k):valV (p::r) k=some p.2:=by simp[valV,La,e]
theorem bK{p:κ×V}{r:List (κ×V)}{k:κ}(e:¬ p.1=k):valV (p::r) k=valV r k:=by simp[valV,La,e]
theorem iS(k:κ):∀ kvs:List (κ×V),(kvs.any fun kv=>decide (kv.1=k))=(valV kvs k).isSome
 |[]=>rfl
 |p::r=>by
  rw[LJ]
  by_cases e:p.1=k
  ·simp only[bJ e,decide_eq_true e,Bool.true_or,Option.isSome_some]
  ·rw[bK e,decide_eq_false e,Bool.false_or];exact iS k r
theorem Ad(k j:κ)(y:V):∀ kvs:List (κ×V),valV (kvs.map fun kv=>if kv.1=k then(kv.1,y) else kv) j=(valV kvs j).map fun x=>if j=k then y else x
 |[]=>rfl
 |p::r=>by
  have ih:=Ad k j y r
  rw[JJ]
  by_cases h:p.1=k
  ·rw[if_pos h]
   by_cases e:p.1=j
   ·rw[bJ (p:=(p.1,y)) e,bJ e,LL,if_pos (e.symm.trans h)]
   ·rw[bK (p:=(p.1,y)) e,bK e,ih]
  ·rw[if_neg h]
   by_cases e:p.1=j
   ·rw[bJ (p:=p) e,bJ e,LL,if_neg (fun z=>h (e.trans z))]
   ·rw[bK (p:=p) e,bK e,ih]
theorem vc(k j:κ)(y:V):∀ kvs:List (κ×V),valV kvs k=none->valV (kvs++[(k,y)]) j=if j=k then some y else valV kvs j
 |[],_=>by
  by_cases e:k=j
  ·rw[if_pos e.symm];exact bJ (p:=(k,y)) e
  ·rw[if_neg (fun z=>e z.symm)];exact bK (p:=(k,y)) e
 |p::r,hn=>by
  rw[List.cons_append]
  have hk:¬ p.1=k:=fun z=>by rw[bJ z]at hn;cases hn
  rw[bK hk]at hn
  have ih:=vc k j y r hn
  by_cases e:p.1=j
  ·rw[bJ e,bJ e,if_neg (fun z=>hk (e.trans z))]
  ·rw[bK e,bK e,ih]
theorem sG(kvs:List (κ×V))(k j:κ)(y:V):valV (putK kvs k y) j=if j=k then some y else valV kvs j:=by
 unfold putK
 by_cases a:(kvs.any fun kv=>decide (kv.1=k))=true
 ·rw[if_pos a,Ad]
  rw[iS]at a
  by_cases e:j=k
  ·obtain⟨x,hx⟩:=Ms.mp a
   rw[if_pos e,e,hx,LL,if_pos rfl]
  ·rw[if_neg e]
   cases valV kvs j with
   |none=>rfl
   |some x=>rw[LL,if_neg e]
 ·rw[if_neg a]
  refine vc k j y kvs ?_
  rw[iS]at a
  cases q:valV kvs k with
  |none=>rfl
  |some x=>rw[q]at a;exact(a rfl).elim
theorem cW(kvs:List (κ×V))(k:κ)(v:V):(putK kvs k v).length<=kvs.length+1:=by
 unfold putK
 split
 ·rw[IV];omega
 ·rw[IX,JL,K9];omega
theorem sV{kvs:List (κ×V)}{k:κ}(v:V)(h:valV kvs k=none):putK kvs k v=kvs++[(k,v)]:=by
 unfold putK
 rw[iS,h]
 exact if_neg (by decide)
theorem RelO.isSome_eq{o:Option V}{u:Option Value}(r:RelO o u):o.isSome=u.isSome:=by
 cases o with
 |none=>cases u with
  |none=>rfl
  |some _=>exact(show False from r).elim
 |some _=>cases u with
  |none=>exact(show False from r).elim
  |some _=>rfl
theorem KV.val{kvs:List (κ×V)}{vs:List (κ×Value)}(r:KV kvs vs)(k:κ):RelO (valV kvs k) (valueAt vs k):=by
 unfold KV at r
 induction r with
 |nil=>exact True.intro
 | @cons p q ps qs h t ih =>
  obtain⟨h1,h2⟩:=h
  by_cases e:p.1=k
  ·have e':q.1=k:=h1.symm.trans e
   have b:valueAt (q::qs) k=some q.2:=by simp[valueAt,La,e']
   rw[bJ e,b];exact h2
  ·have e':¬ q.1=k:=fun z=>e (h1.trans z)
   have b:valueAt (q::qs) k=valueAt qs k:=by simp[valueAt,La,e']
   rw[bK e,b];exact ih
theorem KV.any{kvs:List (κ×V)}{vs:List (κ×Value)}(r:KV kvs vs)(k:κ):(kvs.any fun kv=>decide (kv.1=k))=vs.any fun kv=>decide (kv.1=k):=by
 unfold KV at r
 induction r with
 |nil=>rfl
 |cons h t ih=>rw[LJ,LJ,ih,h.1]
theorem KV.repl{kvs:List (κ×V)}{vs:List (κ×Value)}(r:KV kvs vs)(k:κ){y:V}{u:Value}(ry:RelV y u) :
  KV (kvs.map fun kv=>if kv.1=k then(kv.1,y) else kv) (vs.map fun kv=>if kv.1=k then(kv.1,u) else kv):=by
 unfold KV at r ⊢
 induction r with
 |nil=>exact .nil
 | @cons p q ps qs h t ih =>
  rw[JJ,JJ]
  refine .cons ?_ ih
  obtain⟨h1,h2⟩:=h
  by_cases e:p.1=k
  ·rw[if_pos e,if_pos (h1.symm.trans e)];exact⟨h1,ry⟩
  ·rw[if_neg e,if_neg (fun z=>e (h1.trans z))];exact⟨h1,h2⟩
theorem KV.put{kvs:List (κ×V)}{vs:List (κ×Value)}(r:KV kvs vs)(k:κ){y:V}{u:Value}(ry:RelV y u):KV (putK kvs k y) (stored vs k u):=by
 unfold putK stored
 rw[r.any k]
 by_cases e:(vs.any fun kv=>decide (kv.1=k))=true
 ·rw[if_pos e,if_pos e];exact r.repl k ry
 ·rw[if_neg e,if_neg e];exact Paired.snoc r ⟨rfl,ry⟩
theorem KV.length{kvs:List (κ×V)}{vs:List (κ×Value)}(r:KV kvs vs):kvs.length=vs.length:=Paired.length r
end
theorem BI{P:Program}{w:World}{k:Key}{u:Value}(r:RelV (kV k) u):(bA P w).is k u=true:=by
 cases k with
 |inl i=>obtain⟨t,e⟩:=(show ∃ t,u=Value.int i t from r);subst e;exact yO P w i t
 |inr x=>obtain⟨t,e⟩:=(show ∃ t,u=Value.str x t from r);subst e;exact yN P w x t
theorem wg{P:Program}{w:World}:∀{ks:List Key}{us:List Value},Vals (ks.map kV) us->ItemsAre (bA P w) ks us
 |[],_,r=>by rw[LO]at r;cases r;exact .nil
 |k::ks,_,r=>by
  rw[JJ]at r
  cases r with
  |cons h t=>exact .cons (BI h) (wg t)
abbrev KT(H:Hp):List (List Key×V)->List (List Key×Addr×Value)->Prop:=Paired fun p q=>p.1=q.1/\H q.2.1=some (.tup (p.1.map kV))/\RelV p.2 q.2.2
theorem KT.val{H:Hp}{kvs:List (List Key×V)}{xs:List (List Key×Addr×Value)}(r:KT H kvs xs)(k:List Key):RelO (valV kvs k) ((atKey xs k).map (·.2)):=by
 induction r with
 |nil=>exact True.intro
 | @cons p q ps qs h t ih =>
  obtain⟨h1,_,h2⟩:=h
  by_cases e:p.1=k
  ·have e':q.1=k:=h1.symm.trans e
   have b:atKey (q::qs) k=some q.2:=by simp[atKey,La,e']
   rw[bJ e,b];exact h2
  ·have e':¬ q.1=k:=fun z=>e (h1.trans z)
   have b:atKey (q::qs) k=atKey qs k:=by simp[atKey,La,e']
   rw[bK e,b];exact ih
theorem KT.repl{H:Hp}{kvs:List (List Key×V)}{xs:List (List Key×Addr×Value)}(r:KT H kvs xs)(k:List Key){y:V}{u:Value}(ry:RelV y u) :
  KT H (kvs.map fun kv=>if kv.1=k then(kv.1,y) else kv) (xs.map (putAt k u)):=by
 induction r with
 |nil=>exact .nil
 | @cons p q ps qs h t ih =>
  rw[JJ,JJ]
  refine .cons ?_ ih
  obtain⟨h1,h2,h3⟩:=h
  unfold putAt
  by_cases e:p.1=k
  ·rw[if_pos e,if_pos (h1.symm.trans e)];exact⟨h1,h2,ry⟩
  ·rw[if_neg e,if_neg (fun z=>e (h1.trans z))];exact⟨h1,h2,h3⟩
theorem KT.put{H:Hp}{kvs:List (List Key×V)}{xs:List (List Key×Addr×Value)}(r:KT H kvs xs)(k:List Key){b:Addr}{y:V}{u:Value}(hb:H b=some (.tup (k.map kV)))(ry:RelV y u) :
  KT H (putK kvs k y) (storedH xs k b u):=by
 have e:(kvs.any fun kv=>decide (kv.1=k))=(atKey xs k).isSome:=by
  rw[iS,(r.val k).isSome_eq,Option.isSome_map]
 unfold putK storedH
 rw[e]
 by_cases q:(atKey xs k).isSome=true
 ·rw[if_pos q,if_pos q];exact r.repl k ry
 ·rw[if_neg q,if_neg q];exact Paired.snoc r ⟨rfl,hb,ry⟩
theorem KT.keeps{H H':Hp}{kvs:List (List Key×V)}{xs:List (List Key×Addr×Value)}(r:KT H kvs xs)(ht:∀ b ys,H b=some (.tup ys)->H' b=some (.tup ys)):KT H' kvs xs :=
 Paired.mapP r fun _ _ z=>⟨z.1,ht _ _ z.2.1,z.2.2⟩
section
variable{P:Program}{w:World}{H:Hp}{h:Heap}{a:Addr}
theorem rd_of{u:HO}(ok:HOk P w H h)(e:Rd H a u):br P w H h a u:=e.ok ok
theorem BK{kvs:List (Key×V)}(ok:HOk P w H h)(e:Rd H a (.dK kvs)):kvs.length<=sizeLine/\(a == sysModules)=false/\∃ vs,KV kvs vs/\h.DictOf (bA P w) a vs :=
 show br P w H h a (.dK kvs) from rd_of ok e
theorem Iz{kvs:List (Key×V)}(ok:HOk P w H h)(e:H a=some (.dK kvs)):kvs.length<=sizeLine/\(a == sysModules)=false/\∃ vs,KV kvs vs/\h.DictOf (bA P w) a vs:=BK ok (.inl e)
theorem AB{ks:List Key}(ok:HOk P w H h)(e:H a=some (.tup (ks.map kV))):(tupleKind (bA P w)).is h ks a:=by
 obtain⟨_,its,r,o,h1,h2,n,h3⟩:=(show br P w H h a (.tup (ks.map kV)) from ok a _ e)
 exact⟨o,its.toArray,n,h1,h2,h3,by simpa using wg r⟩
theorem D8{kvs:List (List Key×V)}(ok:HOk P w H h)(e:Rd H a (.dT kvs)):kvs.length<=sizeLine/\(a == sysModules)=false /\
  ∃ xs,KT H kvs xs/\h.DictOfH (tupleKind (bA P w)) a xs:=by
 obtain⟨z,y,xs,r,o,es,ep,h1,h2,h3,h4,h5⟩:=(show br P w H h a (.dT kvs) from rd_of ok e)
 refine⟨z,y,xs,r,o,es,ep,h1,h2,h3,h4,fun x hx=>?_,h5⟩
 have all:∀{l:List (List Key×V)}{m:List (List Key×Addr×Value)},KT H l m->∀ x∈m,(tupleKind (bA P w)).is h x.1 x.2.1:=by
  intro l m q
  induction q with
  |nil=>intro x hx;exact nomatch hx
  | @cons p q ps qs hq t ih =>
   intro x hx
   rcases Ja.mp hx with e | hx
   ·subst e
    exact AB ok (by rw[← hq.1];exact hq.2.1)
   ·exact ih x hx
 exact all r x hx
theorem dt_of{kvs:List (List Key×V)}(ok:HOk P w H h)(e:H a=some (.dT kvs)):kvs.length<=sizeLine/\(a == sysModules)=false /\
  ∃ xs,KT H kvs xs/\h.DictOfH (tupleKind (bA P w)) a xs:=D8 ok (.inl e)
end
def DGet(H:Hp)(a:Addr)(y:V)(r:Option V):Prop :=
 (∃ kvs k,Rd H a (.dK kvs)/\y=kV k/\r=valV kvs k)∨∃ kvs k b,Rd H a (.dT kvs)/\y=.ref b/\H b=some (.tup (k.map kV))/\r=valV kvs k
def DPut(H:Hp)(a:Addr)(y v:V)(H':Hp):Prop :=
 (∃ kvs k,H a=some (.dK kvs)/\y=kV k/\kvs.length<sizeLine/\H'=upd H a (.dK (putK kvs k v))) ∨
 ∃ kvs k b,H a=some (.dT kvs)/\y=.ref b/\H b=some (.tup (k.map kV))/\kvs.length<sizeLine/\H'=upd H a (.dT (putK kvs k v))
theorem DGet.k{H:Hp}{a:Addr}{kvs:List (Key×V)}{k:Key}(e:H a=some (.dK kvs)):DGet H a (kV k) (valV kvs k):=.inl ⟨kvs,k,.inl e,rfl,rfl⟩
theorem DPut.k{H:Hp}{a:Addr}{kvs:List (Key×V)}{k:Key}{v:V}(e:H a=some (.dK kvs))(hl:kvs.length<sizeLine):DPut H a (kV k) v (upd H a (.dK (putK kvs k v))):=.inl ⟨kvs,k,e,rfl,hl,rfl⟩
section
variable{X:Cx}{pins:List (Addr×Obj)}{σ:St}{H:Hp}{s:Shared}{a:Addr}{y v:V}{u r:Value}{o:Option V}{A:Around}{E:Value->Shared->Prop}
theorem Inv.big(I:Inv X pins σ H s):sysModules<s.heap.objs.size:=by
 have h:mainGlobals<s.heap.objs.size:=(I.mod.glob.keeps I.bk).lt
 exact Nat.lt_trans (by decide) h
theorem Eh{Q:Value->Shared->Prop}(hu:A.units+1<cLine)(I:Inv X pins σ H s)(g:DGet H a y (some v))(ry:RelV y u)(h:∀ w' s',Inv X pins σ H s'->RelV v w'->Q w' s') :
  wpAny (model X.prog X.w) A (getItem (.ref a) u) Q E s:=by
 rcases g with⟨kvs,k,e,ey,l⟩ | ⟨kvs,k,b,e,ey,eb,l⟩
 ·subst ey
  obtain⟨z,hd,vs,rel,dd⟩:=BK I.hok e
  obtain⟨w',hw,rw'⟩:=RelO.some_of (v:=v) (o:=valueAt vs k) (by rw[l];exact rel.val k)
  exact wpAny_getItem_of (BI ry) dd.mapOf hw (h w' _ (I.tok _) rw')
 ·subst ey
  cases (show u=Value.ref b from ry)
  obtain⟨z,hd,xs,rel,dd⟩:=D8 I.hok e
  obtain⟨w',hw,rw'⟩:=RelO.some_of (v:=v) (o:=(atKey xs k).map (·.2)) (by rw[l];exact rel.val k)
  obtain⟨p,hp,hp2⟩:=Jv.mp hw
  refine wpAny_getItem_heap (tupleKind_room_in1 hu) (AB I.hok eb) dd hp ?_
  rw[hp2]
  exact h w' _ (I.tok _) rw'
theorem ID{Q:Value->Shared->Prop}(hu:A.units+1<cLine)(I:Inv X pins σ H s)(g:DGet H a y o)(ry:RelV y u)(h:∀ s',Inv X pins σ H s'->Q (.bool (!o.isSome)) s') :
  wpAny (model X.prog X.w) A (compareOp .NotIn u (.ref a)) Q E s:=by
 rcases g with⟨kvs,k,e,ey,l⟩ | ⟨kvs,k,b,e,ey,eb,l⟩
 ·subst ey
  obtain⟨z,hd,vs,rel,dd⟩:=BK I.hok e
  refine wpAny_notIn_of (BI ry) hd dd.mapOf ?_
  rw[← (rel.val k).isSome_eq,← l]
  exact h _ (I.tok _)
 ·subst ey
  cases (show u=Value.ref b from ry)
  obtain⟨z,hd,xs,rel,dd⟩:=D8 I.hok e
  refine wpAny_notIn_heap (tupleKind_room_in1 hu) (AB I.hok eb) hd dd ?_
  have q:=(rel.val k).isSome_eq
  rw[Option.isSome_map]at q
  rw[← q,← l]
  exact h _ (I.tok _)
theorem ux{h':Heap}{t':Nat}{ob:HO}(I:Inv X pins σ H s)(mu:Mut (H a))(hs:Heap.SameBut a s.heap h')(he:∃ q,h'.get? a=some q)(new:br X.prog X.w (upd H a ob) h' a ob) :
  Inv X pins σ (upd H a ob) { s with heap:=h',toks:=t' } :=
 I.write (x:=a) (e:=a) mu (.inl rfl) (fun b q hb z=>(hs.2 b hb).trans z) he new
theorem D9{P:Program}{w:World}{H':Hp}{h':Heap}{kvs:List (Key×V)}{vs:List (Key×Value)}(z:kvs.length<=sizeLine)(hd:(a == sysModules)=false)(rel:KV kvs vs)(dd:h'.DictOf (bA P w) a vs) :
  br P w H' h' a (.dK kvs):=⟨z,hd,vs,rel,dd⟩
theorem Eg{H':Hp}{Q:Unit->Shared->Prop}(hu:A.units+1<cLine)(I:Inv X pins σ H s)(g:DPut H a y v H')(ry:RelV y u)(rv:RelV v r)(h:∀ s',Inv X pins σ H' s'->Q () s') :
  wpAny (model X.prog X.w) A (setItem (.ref a) u r) Q E s:=by
 rcases g with⟨kvs,k,e,ey,l,eH⟩ | ⟨kvs,k,b,e,ey,eb,l,eH⟩
 ·subst ey eH
  obtain⟨z,hd,vs,rel,dd⟩:=Iz I.hok e
  have hz:vs.length<=sizeLine:=by rw[← rel.length];exact z
  have hl:(putK kvs k v).length<=sizeLine:=by have:=cW kvs k v;omega
  refine wpAny_setItem_pairs (hsz:=hz) (BI ry) dd fun h' dd' hs=>h _ ?_
  have he:∃ q,h'.get? a=some q:=let ⟨q,_,_,hq,_⟩:=dd';⟨q,hq⟩
  exact ux I (by rw[e];exact True.intro) hs he (D9 hl hd (rel.put k rv) dd')
 ·subst ey eH
  cases (show u=Value.ref b from ry)
  obtain⟨z,hd,xs,rel,dd⟩:=dt_of I.hok e
  have hz:xs.length<=sizeLine:=by rw[← Paired.length rel];exact z
  have hl:(putK kvs k v).length<=sizeLine:=by have:=cW kvs k v;omega
  refine wpAny_setItem_heap (hsz:=hz) (tupleKind_room_in1 hu) (AB I.hok eb) dd fun h' dd' hs=>h _ ?_
  obtain⟨q,es,ep,hq,h2,h3,h4,_,h5⟩:=dd'
  refine ux I (by rw[e];exact True.intro) hs ⟨q,hq⟩ ⟨hl,hd,_,(rel.put k eb rv).keeps fun c ys ec=>?_,q,es,ep,hq,h2,h3,h4,h5⟩
  rw[ao (Bp ec e (fun z=>nomatch z))]
  exact ec
end
section
variable{X:Cx}{pins:List (Addr×Obj)}{σ:St}{H:Hp}{s:Shared}{a:Addr}{kvs:List (Key×V)}{k:Key}{u:Value}{A:Around}{E:Value->Shared->Prop}
end
def NoSl(i:Expr):Prop:=∀ ov iv,subscripted i false ov iv=operate [ov,iv] (getItem ov iv)
theorem Hc{prog:Program}{w:World}{A:Around}{E:Value->Shared->Prop}{s:Shared}{env:Env}{value slice:Expr}{pos:Pos}{T id:String}{Q:Value->Shared->Prop}
  (hl:typeLookup (.type T) "__getitem__" = pure (some (.builtin id))) (hs:NoSl slice)
  (h:wpAny (model prog w) A (eval value env) (fun o s₁=>wpAny (model prog w) A (eval slice env) (fun i s₂=>s₂.TypeIs o T/\wpAny (model prog w) A (getItem o i) Q E s₂) E s₁) E s) :
  wpAny (model prog w) A (eval (.Subscript value slice pos) env) Q E s:=by
 refine Subscript_ (wpAny_mono h (fun o s₁ h₁=>wpAny_mono h₁ (fun i s₂ h₂=>?_) fun _ _ x=>x) fun _ _ x=>x)
 obtain⟨hT,h₂⟩:=h₂
 unfold subscriptTail
 refine wpAny_bind ?_
 rw[getitemInPython_of_ne hT.not_modules]
 refine wpAny_bind (wpAny_specialOf hT hl ?_)
 have fin:wpAny (model prog w) A (subscripted slice false o i) (fun r s₃=>wpAny (model prog w) A (letTemporaryGo value o r >>= fun _=>pure r) Q E s₃) E s₂:=by
  rw[hs o i]
  exact wpAny_operating (wpAny_mono h₂ (fun r s₃ h₃=>wpAny_bind (wpAny_letTemporaryGo (wpAny_pure h₃))) fun _ _ x=>x)
 first
  |exact wpAny_pure (wpAny_bind fin)
  |exact wpAny_bind (wpAny_pure (wpAny_bind fin))
  |exact wpAny_bind fin
theorem zi{X:Cx}{pins:List (Addr×Obj)}{σ:St}{H:Hp}{s:Shared}{a:Addr}{y:V}{o:Option V}(I:Inv X pins σ H s)(g:DGet H a y o):s.TypeIs (.ref a) "dict":=by
 rcases g with⟨kvs,k,e,_,_⟩ | ⟨kvs,k,b,e,_,_,_⟩
 ·obtain⟨_,_,vs,_,dd⟩:=BK I.hok e
  exact dd.typeIs
 ·obtain⟨_,_,xs,_,dd⟩:=D8 I.hok e
  exact dd.typeIs
def tDGet(td ty:TE):TE:=fun σ H Q=>td σ H fun x H1=>ty σ H1 fun y H2=>∃ a v,x=.ref a/\DGet H2 a y (some v)/\Q v H2
def G9(ty td:TE):TE:=fun σ H Q=>ty σ H fun y H1=>td σ H1 fun x H2=>∃ a o,x=.ref a/\DGet H2 a y o/\Q (.bl (!o.isSome)) H2
def sDPut(td ty tv:TE):TS:=fun D σ H=>tv σ H fun v H1=>td σ H1 fun x H2=>ty σ H2 fun y H3=>∃ a H4,x=.ref a/\DPut H3 a y v H4/\D.nx σ H4
section
variable{X:Cx}{o i e value:Expr}{pos pos' tpos:Pos}{td ty tv:TE}
theorem oA(hu:X.A.units+1<cLine)(ho:PE X o td)(hi:PE X i ty)(hs:NoSl i):PE X (.Subscript o i pos) (tDGet td ty):=by
 intro pins s σ H Q I h
 refine Hc PySem.F.slot_dict_getitem.lookup hs (thn (ho pins s σ H _ I h) fun u s1 ⟨x,H1,I1,rx,q1⟩=>thn (hi pins s1 σ H1 _ I1 q1) fun iv s2 ⟨y,H2,I2,ry,a,v,ex,g,q2⟩=>?_)
 subst ex
 obtain rfl:u=Value.ref a:=rx
 exact⟨zi I2 g,Eh hu I2 g ry fun w' s3 I3 rw'=>⟨v,H2,I3,rw',q2⟩⟩
theorem C6(hu:X.A.units+1<cLine)(hi:PE X i ty)(ho:PE X o td):PC X .NotIn i o (G9 ty td):=by
 intro pins s σ H Q I h
 refine thn (hi pins s σ H _ I h) fun iv s1 ⟨y,H1,I1,ry,q1⟩=>thn (ho pins s1 σ H1 _ I1 q1) fun u s2 ⟨x,H2,I2,rx,a,ov,ex,g,q2⟩=>?_
 subst ex
 obtain rfl:u=Value.ref a:=rx
 exact ID hu I2 g ry fun s3 I3=>⟨.bl (!ov.isSome),H2,I3,rfl,q2⟩
theorem xY(hu:X.A.units+1<cLine)(ho:PE X o td)(hi:PE X i ty)(hv:PE X value tv)(hs:swapsWith value (some (.Subscript o i pos')) pos.line X.env=pure false) :
  PS X (.Assign [.Subscript o i pos'] value pos) (sDPut td ty tv):=by
 intro pins s σ H D I h
 refine wpAny_Assign_Subscript (thn (hv pins s σ H _ I h) fun r s1 ⟨v,H1,I1,rv,q1⟩=>thn (ho pins s1 σ H1 _ I1 q1) fun u s2 ⟨x,H2,I2,rx,q2⟩=>thn (hi pins s2 σ H2 _ I2 q2) fun iv s3 ⟨y,H3,I3,ry,a,H4,ex,g,q3⟩=>?_) hs
 subst ex
 obtain rfl:u=Value.ref a:=rx
 exact Eg hu I3 g ry rv fun s4 I4=>⟨σ,H4,I4,q3⟩
end
theorem AM{P:Program}{w:World}{H:Hp}(h:Heap)(hb:sysModules<h.objs.size):br P w H (h.push { cls:=.type "dict",data:=.dict #[] }) h.objs.size (.dK []) :=
 ⟨Kc _,beq_eq_false_iff_ne.mpr (Ne.symm (Jw hb)),[],.nil,Heap.DictOf.new h⟩
def tDNewK:TE:=fun _ H Q=>∀ p,H p=none->Q (.ref p) (upd H p (.dK []))
section
variable{X:Cx}{pos:Pos}
theorem nV:PE X (.Dict [] [] pos) tDNewK:=fun pins s σ H Q I h =>
 wpAny_Dict_empty ⟨.ref s.heap.objs.size,_,I.laid (a:=s.heap.objs.size) (o:=.dK []) (t':=s.toks) (fun _ _ q=>Heap.get?_push_of_some _ q) (IY _) (AM s.heap I.big),rfl,h _ (I.hok.fresh (IY _))⟩
end
def Ck:List (TE×TE)->St->Hp->(List (V×V)->Hp->Prop)->Prop
 |[],_,H,Q=>Q [] H
 | (tk,tv)::r,σ,H,Q=>tk σ H fun x H1=>tv σ H1 fun y H2=>Ck r σ H2 fun ps H3=>Q ((x,y)::ps) H3
abbrev VV:List (V×V)->List (Value×Value)->Prop:=Paired fun p q=>RelV p.1 q.1/\RelV p.2 q.2
def PPs(X:Cx)(pos:Pos)(keys:List (Option Expr))(values:List Expr)(trs:List (TE×TE)):Prop :=
 ∀(pins:List (Addr×Obj))(s:Shared)(σ:St)(H:Hp)(Q:List (V×V)->Hp->Prop),Inv X pins σ H s->Ck trs σ H Q ->
  wpAny (model X.prog X.w) X.A (evalPairs (pairTrees keys values X.env pos)) (fun vs s'=>∃ ps H',Inv X pins σ H' s'/\VV ps vs/\Q ps H') X.xe s
theorem Ht{X:Cx}{pos:Pos}:PPs X pos [] [] []:=fun pins s σ H Q I h=>pairTrees_nil_walk ⟨[],H,I,.nil,h⟩
theorem Fl{X:Cx}{pos:Pos}{k v:Expr}{ks:List (Option Expr)}{vs:List Expr}{tk tv:TE}{trs:List (TE×TE)}(hk:PE X k tk)(hv:PE X v tv)(hr:PPs X pos ks vs trs) :
  PPs X pos (some k::ks) (v::vs) ((tk,tv)::trs):=fun pins s σ H Q I h =>
 pairTrees_cons_walk (thn (hk pins s σ H _ I h) fun u s1 ⟨x,H1,I1,rx,q1⟩=>thn (hv pins s1 σ H1 _ I1 q1) fun w2 s2 ⟨y,H2,I2,ry,q2⟩ =>
  thn (hr pins s2 σ H2 _ I2 q2) fun ws s3 ⟨ps,H3,I3,rel,q3⟩=>⟨(x,y)::ps,H3,I3,.cons ⟨rx,ry⟩ rel,q3⟩)
def rN(kvs more:List (Key×V)):List (Key×V):=more.foldl (fun acc kv=>putK acc kv.1 kv.2) kvs
theorem KV.merge:∀{more:List (Key×V)}{rs:List (Key×Value)}{kvs:List (Key×V)}{vs:List (Key×Value)},KV more rs->KV kvs vs->KV (rN kvs more) (merged vs rs):=by
 intro more rs kvs vs r
 unfold KV at r
 induction r generalizing kvs vs with
 |nil=>intro q;exact q
 | @cons p q ps qs h t ih =>
  intro r0
  have e:KV (putK kvs p.1 p.2) (stored vs q.1 q.2):=by
   have:=r0.put p.1 h.2
   rw[← h.1];exact this
  exact ih e
theorem kN:∀(more kvs:List (Key×V)),(rN kvs more).length<=kvs.length+more.length
 |[],kvs=>by show kvs.length<=kvs.length+0;omega
 |p::r,kvs=>by
  have h1:=kN r (putK kvs p.1 p.2)
  have h2:=cW kvs p.1 p.2
  show(rN (putK kvs p.1 p.2) r).length<=_
  rw[JL];omega
theorem rY{P:Program}{w:World}:∀{kvs:List (Key×V)}{ws:List (Value×Value)},VV (kvs.map fun kv=>(kV kv.1,kv.2)) ws->∃ rs,Carries (bA P w) ws rs/\KV kvs rs
 |[],_,r=>by rw[LO]at r;cases r;exact⟨[],True.intro,.nil⟩
 |p::kvs,_,r=>by
  rw[JJ]at r
  cases r with
  | @cons a b as bs h t =>
   obtain⟨rs,c,q⟩:=rY (P:=P) (w:=w) t
   obtain⟨b1,b2⟩:=b
   exact⟨(p.1,b2)::rs,⟨BI h.1,rfl,c⟩,.cons ⟨rfl,h.2⟩ q⟩
def tDisp(trs:List (TE×TE)):TE:=fun σ H Q=>∀ p,H p=none->Ck trs σ (upd H p (.dK [])) fun ps H2=>H2 p=some (.dK [])/\∃ kvs:List (Key×V),ps=kvs.map (fun kv=>(kV kv.1,kv.2))/\kvs.length<=15/\Q (.ref p) (upd H2 p (.dK (rN [] kvs)))
theorem HD{X:Cx}{pos:Pos}{keys:List (Option Expr)}{values:List Expr}{trs:List (TE×TE)}(h:PPs X pos keys values trs)(hall:keys.all (·.isSome)=true)(hl:keys.length=values.length)(h0:keys≠[])
  (h15:keys.length<=15):PE X (.Dict keys values pos) (tDisp trs):=by
 intro pins s σ H Q I q
 have hn:=I.hok.fresh (IY s.heap.objs.size)
 have I1:=I.laid (a:=s.heap.objs.size) (o:=.dK []) (h':=s.heap.push { cls:=.type "dict",data:=.dict #[] }) (t':=s.toks) (fun _ _ q=>Heap.get?_push_of_some _ q) (IY _) (AM s.heap I.big)
 refine wpAny_Dict_walk (knd:=bA X.prog X.w) hall hl h0 h15 (thn (h pins _ σ _ _ I1 (q _ hn)) fun ws s2 ⟨ps,H2,I2,rel,e,kvs,ep,lk,q2⟩=>?_)
 subst ep
 obtain⟨rs,c,rk⟩:=rY (P:=X.prog) (w:=X.w) rel
 obtain⟨z,hd,vs0,r0,dd⟩:=Iz I2.hok e
 cases r0
 refine⟨rs,c,dd,fun h' dd' hs=>⟨.ref s.heap.objs.size,_,?_,rfl,q2⟩⟩
 have hz:(rN [] kvs).length<=sizeLine:=by
  have h1:=kN kvs []
  rw[K9]at h1
  rw[sizeLine_eq];omega
 have he:∃ q,h'.get? s.heap.objs.size=some q:=let ⟨q,_,_,hq,_⟩:=dd';⟨q,hq⟩
 exact ux I2 (by rw[e];exact True.intro) hs he (D9 hz hd (rk.merge .nil) dd')
structure M2(X:Cx)(o:Expr)(m:Str)(apos:Pos)(e f:Expr)(cpos:Pos):Prop where
 base:attributeBase o m X.env (eval o X.env)=eval o X.env
 few:((backTo cpos (starEach [e,f] X.env)).all (fun x=>!x.1)&&(backToKw cpos (keywordEach [] X.env)).all (fun x=>x.1.isSome)
  && decide (([e,f]:List Expr).length+([]:List Keyword).length+(if([]:List Keyword).isEmpty then 0 else 1)<30))=true
 line:(apos.endLine == cpos.line)=true
 trees:backTo cpos (starEach [e,f] X.env) = [(false,eval e X.env),(false,eval f X.env)]
def IsD(H:Hp)(a:Addr):Prop:=(∃ kvs,Rd H a (.dK kvs))∨∃ kvs,Rd H a (.dT kvs)
theorem isD_at{X:Cx}{pins:List (Addr×Obj)}{σ:St}{H:Hp}{s:Shared}{a:Addr}(I:Inv X pins σ H s)(d:IsD H a) :
  s.TypeIs (.ref a) "dict"/\(∀ b,Value.ref a=.ref b->∃ ob,s.heap.get? b=some ob/\ob.dict=none)/\(a == sysModules)=false:=by
 rcases d with⟨kvs,e⟩ | ⟨kvs,e⟩
 ·obtain⟨_,hd,vs,_,dd⟩:=BK I.hok e
  refine⟨dd.typeIs,fun b q=>?_,hd⟩
  cases q
  obtain⟨ob,_,_,h1,h2,_⟩:=dd
  exact⟨ob,h1,h2.2.1⟩
 ·obtain⟨_,hd,xs,_,dd⟩:=D8 I.hok e
  refine⟨dd.typeIs,fun b q=>?_,hd⟩
  cases q
  obtain⟨ob,_,_,h1,h2,_⟩:=dd
  exact⟨ob,h1,h2.2.1⟩
section
variable{X:Cx}{pins:List (Addr×Obj)}{σ:St}{H:Hp}{s:Shared}{a:Addr}{y d:V}{u r:Value}{o:Option V}{A:Around}{E:Value->Shared->Prop}
end
section
variable{X:Cx}{o e f:Expr}{apos cpos:Pos}{td ty tx:TE}
end
section
variable{X:Cx}{pins:List (Addr×Obj)}{σ:St}{H:Hp}{s:Shared}{a:Addr}{kvs:List (Key×V)}{A:Around}{E:Value->Shared->Prop}
end
section
variable{X:Cx}{pins:List (Addr×Obj)}{σ:St}{H:Hp}{s:Shared}{a:Addr}{y:V}{u:Value}{A:Around}{E:Value->Shared->Prop}
end
end L2
namespace Att
open PySem PySem.W PySem.Calls PyProof.Rows
section
variable{prog:Program}{w:World}{A:Around}{E:Value->Shared->Prop}{s:Shared}{K:Frag}
end
end Att
namespace L2
open PySem PySem.Spec PyProof.Rows
end L2
namespace L2
open PySem PySem.Spec PyProof.Rows
end L2
namespace L2
open PySem PySem.Spec PyProof.Rows
section
variable{P:Program}{w:World}{K:IT}{mg:Str->Option Value}{base:Heap}
end
section
variable{X:Cx}
end
section
variable{κ:Type} [DecidableEq κ]
theorem E1{kvs:List (κ×V)}{k:κ}(h:valV kvs k=none):¬ k∈kvs.map (·.1):=by
 intro m
 obtain⟨p,hp,e⟩:=Jj.mp m
 have q:(kvs.any fun kv=>decide (kv.1=k))=true:=KI.mpr ⟨p,hp,decide_eq_true e⟩
 rw[iS,h]at q
 exact absurd q (by simp)
end
end L2
namespace L2
open PySem PySem.Spec PyProof.Rows
def clOf(env:Env)(fr:List (Str×Nat)):List (Str×Addr):=fr.map fun p=>(p.1,(env.cells.lookup p.1).getD 0)
def frOf(fr:List (Str×Nat))(σ:St):St:=fr.map fun p=>(σ[p.2]?).join
def dw(X:Cx)(scope:Scope)(fr:List (Str×Nat))(x:Str)(C:Addr)(ex:List Addr)(s:Shared)(H:Hp):Cx where
 prog:=X.prog
 w:=X.w
 K:=X.K
 mg:=X.mg
 base:=X.base
 A:=X.A
 N:=x::fr.map (·.1)
 s₀:=s
 H₀:=H
 env:=compEnvC scope (clOf X.env fr) C X.env
 outer:=X.stack
 stack:=X.stack
 ex:=ex
 fn:=fun _=>false
 calm:=X.calm
 pn:=[]
 xe:=fun _ _=>False
structure bI(X:Cx)(scope:Scope)(fr:List (Str×Nat))(x:Str):Prop where
 clos:closureFor scope X.env=pure (clOf X.env fr)
 cell:∀ y∈scope.names,y.2≠.cell
 kind:scope.kind=.function
 names:∀ y∈scope.names,y.2=.local->scope.names.lookup y.1=some .local
 xl:scope.names.lookup x=some .local
 nd:(x::fr.map (·.1)).Nodup
 slot:∀ p∈fr,X.N[p.2]?=some p.1/\X.env.kindOf p.1=some .cell
 has:∀ y∈(relabel scope X.env).names,(y.2=.cell∨y.2=.free)->y.1∈fr.map (·.1)
 frk:∀ p∈fr,(relabel scope X.env).names.lookup p.1=some .cell
theorem bI.plain{X:Cx}{scope:Scope}{x:Str}(clos:closureFor scope X.env=pure [])(cell:∀ y∈scope.names,y.2≠.cell)(kind:scope.kind=.function)(names:∀ y∈scope.names,y.2=.local->scope.names.lookup y.1=some .local)
  (hx:scope.names.lookup x=some .local) (nf:∀ y∈scope.names,y.2≠.free):bI X scope [] x where
 clos:=clos
 cell:=cell
 kind:=kind
 names:=names
 xl:=hx
 nd:=by simp
 slot:=fun p hp=>nomatch hp
 has:=fun y hy hk=>by
  obtain⟨⟨n,k⟩,hz,e⟩:=Jj.mp (show y∈scope.names.map _ from hy)
  have h1:=nf _ hz
  have h2:=cell _ hz
  dsimp only at e h1 h2
  have hf:(k == NameKind.free)=false:=by simpa using h1
  rw[hf]at e
  simp only[Lg,L5,if_false]at e
  subst e
  exact(hk.elim h2 h1).elim
 frk:=fun p hp=>nomatch hp
theorem bI.one{X:Cx}{scope:Scope}{x y:Str}{j:Nat}(clos:closureFor scope X.env=pure (clOf X.env [(y,j)]))(cell:∀ y∈scope.names,y.2≠.cell)(kind:scope.kind=.function)(names:∀ y∈scope.names,y.2=.local->scope.names.lookup y.1=some .local)
  (hx:scope.names.lookup x=some .local) (nd:([x,y]:List Str).Nodup) (hN:X.N[j]?=some y) (hk:X.env.kindOf y=some .cell) (nf:∀ z∈scope.names,z.2=.free->z.1=y) (hr:(relabel scope X.env).names.lookup y=some .cell):bI X scope [(y,j)] x where
 clos:=clos
 cell:=cell
 kind:=kind
 names:=names
 xl:=hx
 nd:=nd
 slot:=fun p hp=>by
  have e:p=(y,j):=by simpa using hp
  subst e
  exact⟨hN,hk⟩
 has:=fun z hz hk=>by
  obtain⟨⟨n,k⟩,hm,e⟩:=Jj.mp (show z∈scope.names.map _ from hz)
  have h2:=cell _ hm
  dsimp only at e h2
  have hn:z.1=n:=by rw[← e];split<;>rfl
  have hf:k=.free:=by
   by_cases q:k=.free
   ·exact q
   ·have hb:(k == NameKind.free)=false:=by simpa using q
    rw[hb]at e
    simp only[Lg,L5,if_false]at e
    subst e
    exact(hk.elim h2 q).elim
  have:=nf _ hm hf
  rw[hn]
  simp[← this]
 frk:=fun p hp=>by
  have e:p=(y,j):=by simpa using hp
  subst e
  exact hr
theorem ft{env:Env}:∀{fr:List (Str×Nat)}{y:Str}{c:Addr},(clOf env fr).lookup y=some c->y∈fr.map (·.1)/\c=(env.cells.lookup y).getD 0
 |[],_,_,h=>by cases h
 |p::r,y,c,h=>by
  unfold clOf at h
  rw[JJ,List.lookup_cons]at h
  cases e:y == p.1 with
  |true =>
   rw[e]at h
   have ey:y=p.1:=eq_of_beq e
   cases h
   exact⟨by rw[ey];exact Jn,by rw[ey]⟩
  |false =>
   rw[e]at h
   obtain⟨a,b⟩:=ft (env:=env) (fr:=r) h
   exact⟨Jk _ a,b⟩
theorem bF{env:Env}:∀{fr:List (Str×Nat)}{y:Str},y∈fr.map (·.1)->(clOf env fr).lookup y=some ((env.cells.lookup y).getD 0)
 |[],_,h=>by cases h
 |p::r,y,h=>by
  unfold clOf
  rw[JJ,List.lookup_cons]
  cases e:y == p.1 with
  |true =>
   have ey:y=p.1:=eq_of_beq e
   rw[ey]
  |false =>
   have ny:y≠p.1:=fun z=>by rw[z]at e;simp at e
   rcases Ja.mp h with z | z
   ·exact absurd z ny
   ·exact bF (env:=env) (fr:=r) z
section
variable{X:Cx}{pins:List (Addr×Obj)}{σ:St}{H:Hp}{s:Shared}{scope:Scope}{fr:List (Str×Nat)}{x:Str}
theorem bI.cells(O:bI X scope fr x)(I:Inv X pins σ H s){y:Str}{c:Addr}(h:(clOf X.env fr).lookup y=some c):X.env.cells.lookup y=some c:=by
 obtain⟨hm,e⟩:=ft h
 obtain⟨p,hp,ep⟩:=Jj.mp hm
 have k:=(O.slot p hp).2
 rw[ep]at k
 obtain⟨c',e'⟩:=I.ok.has y (.inl k)
 rw[e']at e
 rw[e',e]
 rfl
theorem FR{fp:List Addr}(O:bI X scope fr x)(I:Inv X pins σ H s)(hf:∀ b∈fp,FpOk X pins H b)(hfs:∀ b∈fp,b<s.heap.objs.size){g h':Heap}{tk:Nat}(hg:g=s.heap.push (LCg.lst []))
  (hk:∀ b o,g.get? b=some o->h'.get? b=some o) (hC:h'.Ns g.objs.size fun _=>none) :
  Inv (dw X scope fr x g.objs.size (s.heap.objs.size::fp) { s with heap:=g } H) (X.pn++pins++[(s.heap.objs.size,LCg.lst [])]) (none::frOf fr σ) H { s with heap:=h',toks:=tk }:=by
 have hsz:g.objs.size=s.heap.objs.size+1:=by rw[hg,Heap.size_push]
 have kp:∀ b o,s.heap.get? b=some o->g.get? b=some o:=fun b o e=>by rw[hg];exact Heap.get?_push_of_some _ e
 have hk0:∀ b o,s.heap.get? b=some o->h'.get? b=some o:=fun b o e=>hk b o (kp b o e)
 have hDo:h'.get? s.heap.objs.size=some (LCg.lst []):=hk _ _ (by rw[hg];exact Heap.get?_push_size _ rfl)
 have neC:∀ b,b<s.heap.objs.size->b≠g.objs.size:=fun b e=>by rw[hsz];exact Jw (K0 e)
 have hDC:s.heap.objs.size≠g.objs.size:=by rw[hsz];exact Jw (KQ _)
 have hfr:H g.objs.size=none:=I.hok.fresh (by rw[hsz];exact Ld _)
 have hfD:H s.heap.objs.size=none:=I.hok.fresh (IY _)
 have cne:∀ y c,X.env.cells.lookup y=some c->c<s.heap.objs.size:=fun y c e=>by
  obtain⟨v,q⟩:=I.cell y c e
  exact q.lt
 have nst:∀ b,b≠X.env.locals->b∉X.fs->b∉frs X.stack:=fun b h1 h2 z=>(Ja.mp (I.stkSub b z)).elim h1 h2
 have nstD:s.heap.objs.size∉frs X.stack:=nst _ (Kz I.lt) (I.nofs (IY _))
 refine⟨⟨I.ok.mod,O.kind,I.ok.glob,I.ok.blt,IY _,?_,?_,fun _ _ z _=>(by cases z),I.ok.hd,I.ok.frames,.inl rfl,?_,?_,?_,?_,?_,?_,I.stkFree⟩,rfl,I.bare,Un.kept hk,?_,?_,hfr,?_,?_,I.hok.kept hk0,?_⟩
 ·intro y z c h1 h2
  exact I.ok.inj y z c (O.cells I h1) (O.cells I h2)
 ·intro y hy
  have hm:y∈fr.map (·.1):=by
   rcases hy with hy | hy
   ·exact O.has (y,_) (Kl hy) (.inl rfl)
   ·exact O.has (y,_) (Kl hy) (.inr rfl)
  exact⟨_,bF hm⟩
 ·intro b hb
  rcases Ja.mp hb with rfl | hb
  ·exact⟨hDC,fun y c e=>Jw (cne y c (O.cells I e))⟩
  ·exact⟨neC b (hfs b hb),fun y c e=>(hf b hb).2.2.2.2.1 y c (O.cells I e)⟩
 ·intro b o e
  exact⟨kp b o (I.bs b o e).1,(I.bs b o e).2⟩
 ·show X.base.objs.size<=g.objs.size
  rw[hsz]
  exact Nat.le_succ_of_le (JS I.ok.bsz I.sz)
 ·intro b o e hb
  rcases Ja.mp hb with z | hb
  ·have:=Heap.lt_size (I.bs b o e).1
   rw[z]at this
   exact Ke _ this
  ·rcases(hf b hb).2.2.2.1 with z | z
   ·exact I.ok.noex b o e z
   ·exact absurd (Jz (Heap.lt_size (I.ok.bs b o e).1) z) (Ke _)
 ·intro b hb
  rcases Ja.mp hb with z | hb
  ·rw[z];exact nstD
  ·exact nst b (hf b hb).2.1 (hf b hb).2.2.1
 ·exact(I.kept (h':=g) (t':=s.toks) kp).stack
 ·refine⟨_,hC,fun i y v e1 e2 e3=>?_⟩
  cases i with
  |zero=>cases e2
  |succ k =>
   have e1':(fr.map (·.1))[k]?=some y:=e1
   have e2':(frOf fr σ)[k]?=some (some v):=e2
   unfold frOf at e2'
   rw[Je]at e1' e2'
   cases q:fr[k]? with
   |none=>rw[q]at e1';cases e1'
   |some p =>
    rw[q]at e1' e2'
    have ey:p.1=y:=Js e1'
    have ev:(σ[p.2]?).join=some v:=Js e2'
    have hp:p∈fr:=IW q
    obtain⟨hN,hK⟩:=O.slot p hp
    have hkk:=O.frk p hp
    rw[ey]at hN hK hkk
    have ev':σ[p.2]?=some (some v):=by
     cases q2:σ[p.2]? with
     |none=>rw[q2]at ev;cases ev
     |some w=>rw[q2]at ev;exact congrArg some ev
    obtain⟨m,hn,hl⟩:=I.loc
    obtain⟨u,r,l⟩:=hl p.2 y v hN ev' (.inr (.inl hK))
    refine⟨u,r,?_⟩
    rcases l with⟨k1,_⟩ | ⟨_,c,ec,z⟩
    ·rw[hK]at k1;cases k1
    ·have hm:y∈fr.map (·.1):=by rw[← ey];exact Jj.mpr ⟨p,hp,rfl⟩
     have el:=bF (env:=X.env) hm
     rw[ec]at el
     exact .inr ⟨.inl hkk,c,el,by obtain⟨o,ho,hd⟩:=z;exact⟨o,hk0 _ _ ho,hd⟩⟩
 ·intro y c e
  obtain⟨v,o,ho,hd⟩:=I.cell y c (O.cells I e)
  exact⟨v,o,hk0 _ _ ho,hd⟩
 ·intro y c e
  exact I.freeC y c (O.cells I e)
 ·intro p hp
  rcases Jl.mp hp with hp | hp
  ·cases hp
  ·rcases Jl.mp hp with hp | hp
   ·obtain⟨e,n,ne,nf,d⟩:=I.pin p hp
    exact⟨hk0 _ _ e,n,neC _ (Heap.lt_size e),nst _ ne nf,d⟩
   ·have ep:p=(s.heap.objs.size,LCg.lst []):=by simpa using hp
    subst ep
    exact⟨hDo,hfD,hDC,nstD,fun v z=>by cases z⟩
 ·show(none::frOf fr σ).length=(x::fr.map (·.1)).length
  unfold frOf
  simp
theorem wk{fp:List Addr}{g:Heap}{s':Shared}{H':Hp}{σ':St}{ys:List V}{us:List Value}(I:Inv X pins σ H s)(hf:∀ b∈fp,FpOk X pins H b)(hg:g=s.heap.push (LCg.lst []))
  (J:Inv (dw X scope fr x g.objs.size (s.heap.objs.size::fp) { s with heap:=g } H) (X.pn++pins++[(s.heap.objs.size,LCg.lst us)]) σ' H' s') (hv:Vals ys us) (hl:ys.length<=sizeLine) :
  Inv X pins σ (upd H' s.heap.objs.size (.lst ys)) s'/\H' s.heap.objs.size=none/\FpOk X pins (upd H' s.heap.objs.size (.lst ys)) g.objs.size/\∃ m,s'.heap.Ns g.objs.size m:=by
 have hsz:g.objs.size=s.heap.objs.size+1:=by rw[hg,Heap.size_push]
 have kp:∀ b o,s.heap.get? b=some o->g.get? b=some o:=fun b o e=>by rw[hg];exact Heap.get?_push_of_some _ e
 obtain⟨eD,nD,_,_,_⟩:=J.pin (s.heap.objs.size,LCg.lst us) (by simp)
 have hDC:g.objs.size≠s.heap.objs.size:=by rw[hsz];exact Kz (KQ _)
 have nD':∀ b u,H' b=some u->b≠s.heap.objs.size:=fun b u e z=>by rw[z]at e;rw[e]at nD;cases nD
 have hx:∀ b o,s.heap.get? b=some o->b∉fp->b∉s.heap.objs.size::fp:=fun b o e hb z=>by
  rcases Ja.mp z with z | z
  ·have:=Heap.lt_size e
   rw[z]at this
   exact Ke _ this
  ·exact hb z
 have bU:Un (frs X.stack) (s.heap.objs.size::fp) H H' g s'.heap:=J.base
 have ltD:∀ b o,s.heap.get? b=some o->b≠s.heap.objs.size:=fun b o e=>Jw (Heap.lt_size e)
 have un:Un (frs X.stack) fp H (upd H' s.heap.objs.size (.lst ys)) s.heap s'.heap:=by
  refine⟨fun b o e n hb he=>bU.keep b o (kp b o e) n hb (hx b o e he),fun b o e n hb he=>bU.slot b o (kp b o e) n hb (hx b o e he),fun b o e n he=>?_,fun b o e he=>bU.there b o (kp b o e) (hx b o e he),fun b xs e=>?_,fun b o u e=>?_,fun b ps e=>?_⟩
  ·rw[ao (ltD b o e)];exact bU.free b o (kp b o e) n (hx b o e he)
  ·have q:=bU.tups b xs e
   rw[ao (nD' b _ q)];exact q
  ·have q:=bU.frzs b o u e
   rw[ao (nD' b _ q)];exact q
  ·obtain⟨more,q⟩:=bU.tbls b ps e
   exact⟨more,by rw[ao (nD' b _ q)];exact q⟩
 have hok:HOk X.prog X.w (upd H' s.heap.objs.size (.lst ys)) s'.heap:=fun b u e=>by
  by_cases hb:b=s.heap.objs.size
  ·rw[hb,ae]at e
   cases e
   rw[hb]
   exact⟨hl,us,us.length,hv,eD⟩
  ·rw[ao hb]at e
   exact(J.hok b u e).stay (fun c v _ q=>q) (fun c q=>by rw[ao (nD' c _ q)];exact q) fun c xs q=>by rw[ao (nD' c _ q)];exact q
 have os:s'.os=s.os:=J.os
 refine⟨I.call' os un hok J.bare fun b hb=>⟨(hf b hb).2.2.2.1,(hf b hb).2.1,(hf b hb).2.2.2.2⟩,nD,?_,?_⟩
 ·refine I.fpOk (H':=upd H' s.heap.objs.size (.lst ys)) (b:=g.objs.size) (by rw[hsz];exact Ld _) ?_
  rw[ao hDC]
  exact J.free
 ·obtain⟨m,hn,_⟩:=J.loc
  exact⟨m,hn⟩
end
def rD(te:TE)(fv:St)(J:It)(H1:Hp)(QQ:List V->Hp->Prop):Prop :=
 ∃ W:Nat->Nat->List V->Hp->Prop,(∃ m,W 0 m [] H1)/\∀ i m ys H,W i m ys H->ys.length<=sizeLine /\
  ((J.stop i H/\QQ ys H)∨(J.go i H/\∃ N:V->Hp->Prop,(∀ y H2,N y H2->∃ m',m'<m/\W (i+1) m' (ys++[y]) H2)/\∀ x H',J.yld i H x H'->te (some x::fv) H' N))
section
variable{X:Cx}{scope:Scope}{fr:List (Str×Nat)}{x:Str}{elt iter:Expr}{px pos:Pos}{te:TE}{wi:TI}
theorem wI{pins:List (Addr×Obj)}{σ:St}{H:Hp}{s:Shared}{E:Value->Shared->Prop}{it:Addr}{fp:List Addr}{tn:Nat->Heap->Prop}{J:It}{RR:Value->Addr->Result->Shared->Prop}{QQ:List V->Hp->Prop}(hc:X.calm=true)(O:bI X scope fr x)
  (he:∀ C ex s H,PE (dw X scope fr x C ex s H) elt te) (I:Inv X pins σ H s) (T:Turn X.prog X.w X.K (.Name x px) J fp it tn) (st:tn 0 s.heap) (hf:∀ b∈fp,FpOk X pins H b) (hq:rD te (frOf fr σ) J H QQ)
  (fin:∀ D C H4 ys s4 m,Inv X pins σ (upd H4 D (.lst ys)) s4->H4 D=none->FpOk X pins (upd H4 D (.lst ys)) C->s4.heap.Ns C m->QQ ys H4->RR (.ref D) C (.ok .next) s4) :
  wpAny (model X.prog X.w) X.A (newList []) (fun acc s₃=>wpAny (model X.prog X.w) X.A (newFunctionEnv scope X.env.globals (clOf X.env fr) [] X.env.qual none .none (some X.env)) (fun cenv s₄ =>
   codeAny (model X.prog X.w) X.A (.compStart (.ListComp elt [⟨.Name x px,iter,[],0⟩] scope pos) 0 (.ref it) acc { cenv with scope:=relabel scope X.env }) (RR acc cenv.locals) s₄) E s₃) E s:=by
 obtain⟨W,⟨m0,w0⟩,turn⟩:=hq
 have hfs:∀ b∈fp,b<s.heap.objs.size:=fun b hb=>by
  obtain⟨o,e,_⟩:=T.obj 0 s.heap st b hb
  exact Heap.lt_size e
 refine wpAny_newObj_type (wpAny_newFunctionEnv O.cell (by intro y hy;simp at hy) (fun h₁ hns₁ hsb₁=>?_) O.kind)
 dsimp only at hns₁ hsb₁ ⊢
 generalize hH2:s.heap.push { cls:=.type "list",dict:=none,data:=.seq ([]:List Value).toArray }=g at hns₁ hsb₁ ⊢
 have hg:g=s.heap.push (LCg.lst []):=hH2.symm
 have hsz:g.objs.size=s.heap.objs.size+1:=by rw[hg,Heap.size_push]
 have hk:∀ b o,g.get? b=some o->h₁.get? b=some o:=fun b o e=>hsb₁.extBut b o (Jw (Heap.lt_size e)) (Heap.get?_push_of_some _ e)
 have kp:∀ b o,s.heap.get? b=some o->h₁.get? b=some o:=fun b o e=>hk b o (by rw[hg];exact Heap.get?_push_of_some _ e)
 have J0:=FR (h':=h₁) (tk:=s.toks+([]:List (Str×Value)).length) O I hf hfs hg hk hns₁
 have stat:∀{H':Hp}{us:List Value},(∀ b∈fp,H' b=none)->∀ b∈fp,FpOk (dw X scope fr x g.objs.size (s.heap.objs.size::fp) { s with heap:=g } H) (X.pn++pins++[(s.heap.objs.size,LCg.lst us)]) H' b:=fun{H' us} hn b hb=>by
  obtain⟨_,f1,f2,f3,f4,f5⟩:=hf b hb
  refine⟨hn b hb,?_,fun z=>(Ja.mp (I.stkSub b z)).elim f1 f2,.inl (Jk _ hb),fun y c e=>f4 y c (O.cells I e),fun p hp=>?_⟩
  ·show b≠g.objs.size
   rw[hsz];exact Jw (K0 (hfs b hb))
  ·rcases Jl.mp hp with hp | hp
   ·cases hp
   ·rcases Jl.mp hp with hp | hp
    ·exact f5 p hp
    ·have ep:p=(s.heap.objs.size,LCg.lst us):=by simpa using hp
     rw[ep]
     exact Kz (hfs b hb)
 have loop:codeAny (model X.prog X.w) X.A (.compLoop (.ListComp elt [⟨.Name x px,iter,[],0⟩] scope pos) 0 (.ref it) (.ref s.heap.objs.size) (compEnvC scope (clOf X.env fr) g.objs.size X.env))
   (RR (.ref s.heap.objs.size) g.objs.size) { s with heap:=h₁,toks:=s.toks+([]:List (Str×Value)).length }:=by
  refine codeAny_compLoop_tests (fun n s'=>∃ i ys us H',Inv (dw X scope fr x g.objs.size (s.heap.objs.size::fp) { s with heap:=g } H) (X.pn++pins++[(s.heap.objs.size,LCg.lst us)]) (none::frOf fr σ) H' s'/\Vals ys us/\tn i s'.heap/\(∀ b∈fp,H' b=none)/\W i n ys H') ?_ m0
   ⟨0,[],[],H,J0,.nil,T.keep 0 s.heap h₁ st fun b _ o e=>kp b o e,fun b hb=>(hf b hb).1,w0⟩
  rintro n s3 ⟨i,ys,us,H3,J3,hv,st3,fr3,w3⟩
  obtain⟨hlen,hh⟩:=turn i n ys H3 w3
  have none_err:∀{α:Type}{t:Sem α}{Q:α->Shared->Prop}{E':Value->Shared->Prop}{s:Shared},wpAny (model X.prog X.w) X.A t Q (fun _ _=>False) s->wpAny (model X.prog X.w) X.A t Q E' s:=fun h=>wpAny_mono h (fun _ _ q=>q) fun _ _ z=>z.elim
  rcases hh with⟨stop,qn⟩ | ⟨go,N,hN,step⟩
  ·refine none_err (thn (T.done (dw X scope fr x g.objs.size (s.heap.objs.size::fp) { s with heap:=g } H) rfl rfl rfl hc i _ s3 _ H3 _ J3 (stat fr3) st3 stop) fun r s4 ⟨hr,J4⟩=>?_)
   subst hr
   obtain⟨I4,nD,fC,m,hn⟩:=wk I hf hg J4 hv hlen
   exact fin _ _ H3 ys s4 m I4 nD fC hn qn
  ·refine none_err (thn (T.item (dw X scope fr x g.objs.size (s.heap.objs.size::fp) { s with heap:=g } H) rfl rfl rfl hc i _ s3 _ H3 _ J3 (stat fr3) st3 go) fun r s4 ⟨u,hr,h4⟩=>?_)
   subst hr
   have h4':=wpAny_bind (f:=fun _=>assign (.Name x px) (compEnvC scope (clOf X.env fr) g.objs.size X.env) u) (thn h4 (Q':=fun _ s5=>wpAny (model X.prog X.w) X.A (assign (.Name x px) (compEnvC scope (clOf X.env fr) g.objs.size X.env) u) (fun _ s6=>∃(σ6:St)(H6:Hp)(v:V)(s5':Shared)(H5:Hp),Inv (dw X scope fr x g.objs.size (s.heap.objs.size::fp) { s with heap:=g } H) (X.pn++pins++[(s.heap.objs.size,LCg.lst us)]++rK fp s5'.heap) σ6 H6 s6/\σ6=some v::frOf fr σ/\H6=H5/\J.yld i H3 v H5/\tn (i+1) s5'.heap) (fun _ _=>False) s5) fun _ s5 ⟨v,H5,J5,r5,y5,st5,fr5⟩=>by
    have J5':=J5.pinned (stat fr5) (T.obj _ _ st5)
    have hNd:(dw X scope fr x g.objs.size (s.heap.objs.size::fp) { s with heap:=g } H).N.Nodup:=O.nd
    have hxl:(dw X scope fr x g.objs.size (s.heap.objs.size::fp) { s with heap:=g } H).env.scope.names.lookup x=some .local:=lookup_relabel_local O.xl
    exact thn (aM (X:=dw X scope fr x g.objs.size (s.heap.objs.size::fp) { s with heap:=g } H) (i:=0) hNd rfl (.inl hxl) (.inr hxl) _ s5 _ H5 v u (fun σ6 H6=>σ6=some v::frOf fr σ/\H6=H5) J5' r5 ⟨rfl,rfl⟩) fun _ s6 ⟨σ6,H6,J6,e6,e7⟩=>⟨σ6,H6,v,s5,H5,J6,e6,e7,y5,st5⟩)
   refine none_err (thn h4' fun _ s6 ⟨σ6,H6,v,s5,H5,J6,e6,e7,y5,st5⟩=>?_)
   subst e6 e7
   refine wpAny_tests_nil ?_
   rw[if_pos rfl]
   refine none_err (thn (he _ _ _ _ _ s6 _ H6 _ J6 (step v H6 y5)) fun u7 s7 ⟨v7,H7,J7,r7,q7⟩=>?_)
   obtain⟨m',hm,w7⟩:=hN v7 H7 q7
   obtain⟨eD,nD,dC,dF,dd⟩:=J7.pin (s.heap.objs.size,LCg.lst us) (Jc _ (JG _ (Jc _ (by simp))))
   have hvl:=hv.length
   refine append_at (hsz:=by show us.toArray.size<=sizeLine;rw[JB,← hvl];exact hlen) eD fun h8 hs8 hD8=>?_
   have pinD:∀ p∈X.pn++pins,p.1≠s.heap.objs.size:=fun p hp z=>by
    have:=Heap.lt_size (I.pin p hp).1
    rw[z]at this
    exact Ke _ this
   have J7a:Inv (dw X scope fr x g.objs.size (s.heap.objs.size::fp) { s with heap:=g } H) (X.pn++pins) _ H7 s7:=J7.pins_of fun p hp=>J7.pin p (Jc _ (JG _ (JG _ hp)))
   have J8:Inv (dw X scope fr x g.objs.size (s.heap.objs.size::fp) { s with heap:=g } H) (X.pn++pins) _ H7 { s7 with heap:=h8 }:=J7a.turned (t':=s7.toks) (fun b o hb e=>(hs8.2 b hb).trans e) nD dC (.inl Jn) (fun y c e z=>by
    obtain⟨w',q⟩:=I.cell y c (O.cells I e)
    have:=q.lt
    rw[z]at this
    exact Ke _ this) (fun p hp=>(Jl.mp hp).elim (fun z=>by cases z) (pinD p))
   have J9:Inv (dw X scope fr x g.objs.size (s.heap.objs.size::fp) { s with heap:=g } H) (X.pn++pins++[(s.heap.objs.size,LCg.lst (us++[u7]))]) _ H7 { s7 with heap:=h8 }:=J8.pins_of fun p hp=>by
    rcases Jl.mp hp with hp | hp
    ·exact J8.pin p (Jc _ hp)
    ·have ep:p=(s.heap.objs.size,LCg.lst (us++[u7])):=by simpa using hp
     subst ep
     exact⟨hD8.trans (congrArg some (LCg.lst_snoc us u7)),nD,dC,dF,fun v z=>by cases z⟩
   have J10:=J9.weak (σ':=none::frOf fr σ) rfl fun i v e=>by
    cases i with
    |zero=>cases e
    |succ k=>exact e
   have pinF:∀ b∈fp,∀ o,s5.heap.get? b=some o->s7.heap.get? b=some o/\H7 b=none:=fun b hb o e=>by
    obtain⟨q1,q2,_⟩:=J7.pin (b,o) (Jc _ (Jc _ (cT hb e)))
    exact⟨q1,q2⟩
   refine⟨m',hm,i+1,ys++[v7],us++[u7],H7,J10,hv.append (.cons r7 .nil),T.keep _ _ _ st5 fun b hb o e=>(hs8.2 b (Jw (hfs b hb))).trans (pinF b hb o e).1,fun b hb=>?_,w7⟩
   obtain⟨o,e,_⟩:=T.obj _ _ st5 b hb
   exact(pinF b hb o e).2
 exact codeAny_compStart_list loop (T.self X.A 0 _ _ _ (T.keep 0 s.heap h₁ st fun b _ o e=>kp b o e) loop)
def tComp(wi:TI)(te:TE)(fr:List (Str×Nat)):TE:=fun σ H Q=>wi σ H fun J H1=>rD te (frOf fr σ) J H1 fun ys H2=>∀ D,H2 D=none->Q (.ref D) (upd H2 D (.lst ys))
theorem eA(hc:X.calm=true)(O:bI X scope fr x)(hi:PI X (.Name x px) iter wi)(he:∀ C ex s H,PE (dw X scope fr x C ex s H) elt te)(hs:∀ x,foldedSetIterable iter X.env x=pure x:=by intro _;rfl) :
  PE X (.ListComp elt [⟨.Name x px,iter,[],0⟩] scope pos) (tComp wi te fr):=by
 intro pins s σ H Q I h
 rw[eval_ListComp]
 refine wpAny_comprehension_free (use:=none) rfl hs O.clos O.kind O.names (thn (hi pins s σ H _ I h) fun xv s1 h1=>thn h1 fun itv s2 h2=>?_)
 obtain⟨it,fp,tn,J,H2,e,I2,T,st2,f2,q2⟩:=h2
 subst e
 refine wI (RR:=fun acc C=>compPost (model X.prog X.w) X.A X.xe none (EP X pins σ Q) acc C) hc O he I2 T st2 f2 q2 ?_
 intro D C H4 ys s4 m I4 nD fC hn q4
 refine⟨m,hn,fun h' hs'=>?_⟩
 obtain⟨g0,g1,g2,g3,g4,g5⟩:=fC
 exact⟨.ref D,_,I4.turned (t':=s4.toks) (fun b o hb e=>(hs'.2 b hb).trans e) g0 g1 g3 g4 g5,rfl,q4 D nD⟩
def E7(i:Nat)(wi:TI)(te:TE)(fr:List (Str×Nat)):TS:=fun D σ H=>wi σ H fun J H1=>rD te (frOf fr σ) J H1 fun ys H2=>∀ a,H2 a=none->D.nx (σ.set i (some (.ref a))) (upd H2 a (.lst ys))
theorem rJ{i:Nat}{y:Str}{py spos:Pos}(hc:X.calm=true)(hN:X.N.Nodup)(hi':X.N[i]?=some y)(hy:X.env.scope.names.lookup y=some .local)(O:bI X scope fr x)(hi:PI X (.Name x px) iter wi)(he:∀ C ex s H,PE (dw X scope fr x C ex s H) elt te)
  (hsw:swapsWith (.ListComp elt [⟨.Name x px,iter,[],0⟩] scope pos) (some (.Name y py)) spos.line X.env=pure true:=by rfl) (hs:∀ x,foldedSetIterable iter X.env x=pure x:=by intro _;rfl) :
  PS X (.Assign [.Name y py] (.ListComp elt [⟨.Name x px,iter,[],0⟩] scope pos) spos) (E7 i wi te fr):=by
 intro pins s σ H D I h
 rw[exec_Assign_Name_used _ _ _ _ hsw]
 refine wpAny_bind (wpAny_standAt (wpAny_bind ?_))
 show wpAny _ X.A (do let _ ← comprehension (.ListComp elt [⟨.Name x px,iter,[],0⟩] scope pos) scope X.env _ (newList []) false (eval iter X.env) (some (assign (.Name y py) X.env))) _ _ s
 refine wpAny_bind (thn (wpAny_comprehension_free (use:=some (assign (.Name y py) X.env)) (Q:=fun _ s'=>SP X pins D .next s') rfl hs O.clos O.kind O.names (thn (hi pins s σ H _ I h) fun xv s1 h1=>thn h1 fun itv s2 h2=>?_)) fun _ s' hq=>wpAny_pure (wpAny_pure hq))
 obtain⟨it,fp,tn,J,H2,e,I2,T,st2,f2,q2⟩:=h2
 subst e
 refine wI (RR:=fun acc C=>compPost (model X.prog X.w) X.A X.xe (some (assign (.Name y py) X.env)) (fun _ s'=>SP X pins D .next s') acc C) hc O he I2 T st2 f2 q2 ?_
 intro a C H4 ys s4 m I4 nD fC hn q4
 obtain⟨g0,g1,g2,g3,g4,g5⟩:=fC
 obtain⟨oC,eC,hoC⟩:=LCg.ns_obj hn
 have I5:Inv X (pins++[(C,oC)]) σ (upd H4 a (.lst ys)) s4:=I4.pins_of fun p hp=>by
  rcases Jl.mp hp with hp | hp
  ·exact I4.pin p (Jc _ hp)
  ·have ep:p=(C,oC):=by simpa using hp
   subst ep
   obtain⟨es,epp,hd,_⟩:=hoC
   exact⟨eC,g0,g1,g2,fun v z=>by rw[hd]at z;cases z⟩
 show wpAny _ X.A (assign (.Name y py) X.env (.ref a)) _ _ _
 refine wpAny_assign_Name (kE I5 hN hi' (.inl hy) (v:=.ref a) rfl (fun s6 I6=>?_) (.inr hy))
 obtain⟨e6,_⟩:=I6.pin (C,oC) (Jc _ (Jc _ (by simp)))
 refine⟨m,hoC.ns e6,fun h' hs'=>?_⟩
 exact⟨_,_,I6.unpinned.turned (t':=s6.toks) (fun b o hb e=>(hs'.2 b hb).trans e) g0 g1 g3 g4 g5,q4 a nD⟩
end
theorem dg{K:IT}{a:Addr}{xs:List V}{te:TE}{fv:St}{H1:Hp}{QQ:List V->Hp->Prop}(Pv:Nat->List V->Hp->Prop)(hz:xs.length<=sizeLine)(h0:Pv 0 [] H1)(hl:∀ i ys H,i<=xs.length->Pv i ys H->SqL K H a xs)
  (hs:∀ i x ys H,xs[i]?=some x->Pv i ys H->te (some x::fv) H fun y H2=>Pv (i+1) (ys++[y]) H2) (hd:∀ ys H,ys.length=xs.length->Pv xs.length ys H->QQ ys H)
  : rD te fv (Itl K a) H1 QQ:=by
 refine⟨fun i m ys H=>m=xs.length-i/\i<=xs.length/\ys.length=i/\Pv i ys H,⟨xs.length,by simp,Kc _,rfl,h0⟩,?_⟩
 rintro i m ys H ⟨rfl,hi,hy,p⟩
 have q:=hl i ys H hi p
 refine⟨by omega,?_⟩
 by_cases hlt:i<xs.length
 ·refine .inr ⟨⟨xs,xs[i],q,by simp[hlt]⟩,fun y H2=>Pv (i+1) (ys++[y]) H2,fun y H2 p2=>⟨xs.length-(i+1),by omega,rfl,hlt,by rw[IX,hy];rfl,p2⟩,fun x H' y=>?_⟩
  obtain⟨e,y⟩:=y
  subst e
  exact hs i x ys _ (y xs q) p
 ·have e:i=xs.length:=by omega
  subst e
  exact .inl ⟨⟨xs,q,IY _⟩,hd ys H hy p⟩
theorem l7{lo:Int}{n:Nat}{te:TE}{fv:St}{H1:Hp}{QQ:List V->Hp->Prop}(Pv:Nat->List V->Hp->Prop)(hz:n<=sizeLine)(h0:Pv 0 [] H1)
  (hs:∀ i ys H,i<n->Pv i ys H->te (some (.int (lo+i))::fv) H fun y H2=>Pv (i+1) (ys++[y]) H2) (hd:∀ ys H,ys.length=n->Pv n ys H->QQ ys H)
  : rD te fv (Itr lo n) H1 QQ:=by
 refine⟨fun i m ys H=>m=n-i/\i<=n/\ys.length=i/\Pv i ys H,⟨n,by simp,Kc _,rfl,h0⟩,?_⟩
 rintro i m ys H ⟨rfl,hi,hy,p⟩
 refine⟨by omega,?_⟩
 by_cases hlt:i<n
 ·refine .inr ⟨hlt,fun y H2=>Pv (i+1) (ys++[y]) H2,fun y H2 p2=>⟨n-(i+1),by omega,rfl,hlt,by rw[IX,hy];rfl,p2⟩,fun x H' y=>?_⟩
  obtain⟨e,y⟩:=y
  subst e y
  exact hs i ys _ hlt p
 ·have e:i=n:=by omega
  subst e
  exact .inl ⟨IY _,hd ys H hy p⟩
end L2
namespace L2
open PySem PySem.Spec PyProof.Rows
theorem bt_int:bootBuiltins "int" = some (.type "int"):=by decide +kernel
theorem IJ:bootBuiltins "bool" = some (.type "bool"):=by decide +kernel
theorem mB:bootBuiltins "list" = some (.type "list"):=by decide +kernel
theorem uK:bootBuiltins "tuple" = some (.type "tuple"):=by decide +kernel
theorem cu:bootBuiltins "len" = some (.builtin "len"):=by decide +kernel
theorem aO:bootBuiltins "isinstance" = some (.builtin "isinstance"):=by decide +kernel
theorem pP:bootBuiltins "sorted" = some (.builtin "sorted"):=by decide +kernel
theorem wV:bootBuiltins "enumerate" = some (.type "enumerate"):=by decide +kernel
structure Cal(P:Program)(w:World)(K:IT)(mg:Str->Option Value)(base:Heap)(k:Nat)(x:Str)(ps:List Str)(sp:Sp)(f:Addr)(fd:FuncData):Prop where
 ok:FnOk P w K mg base CX0 k f fd ps sp
 bn:iR K fd ps []
 mg:mg x=some (.ref f)
 kp:Jd K (.ref f)=true
structure Mak(P:Program)(w:World)(K:IT)(mg:Str->Option Value)(base:Heap)(k:Nat)(x:Str)(ps:List Str)(sp:Sp)(C f:Addr)(fd:FuncData):Prop where
 mkc:Mk K C f
 ok:FnOk P w K mg base CX0 k f fd ps sp
 bn:iR K fd ps []
 mg:mg x=some (.ref C)
structure Met(P:Program)(w:World)(K:IT)(mg:Str->Option Value)(base:Heap)(k:Nat)(C:Addr)(m:Str)(ps:List Str)(sp:Sp)(f:Addr)(fd:FuncData):Prop where
 me:Meth K C m f
 ok:FnOk P w K mg base CX0 k f fd ps sp
 bn:iR K fd ps []
theorem gY{X:Cx}{sts:List Stmt}{t t2:TS}(h:PSs X sts t)(i:∀ D σ H,t2 D σ H->t D σ H):PSs X sts t2:=fun pins s σ H D I q=>h pins s σ H D I (i D σ H q)
section
variable{X:Cx}
def rIsi(K:IT):List V->Hp->VK->Prop:=fun xs H Q=>∃ x c t b u,xs = [x,c]/\TyOf K H x t/\((∃ n,c=.ty n/\u=Value.type n)∨∃ a,c=.ref a/\u=Value.ref a)/\Ks K t u=some b/\Q (.bl b) H
theorem gz:ku X (.builtin "isinstance") (rIsi X.K):=by
 intro pins s σ H xs us Q I r h
 obtain⟨x,c,t,b,u,rfl,ty,hu,e,q⟩:=h
 obtain⟨v1,v2,rfl,r1,r2⟩:=EZ r
 have e2:v2=u:=by
  rcases hu with⟨n,rfl,rfl⟩ | ⟨a,rfl,rfl⟩
  ·exact r2
  ·exact r2
 subst e2
 exact DJ I r1 ty e fun tk=>⟨.bl b,H,I.tok tk,rfl,q⟩
theorem kit_ii(K:IT):Ks K (.type "int") (.type "int")=some true:=by with_unfolding_all rfl
theorem kit_ib(K:IT):Ks K (.type "int") (.type "bool")=some false:=by with_unfolding_all rfl
theorem Gz(K:IT):Ks K (.type "list") (.type "list")=some true:=by with_unfolding_all rfl
theorem DB(K:IT):Ks K (.type "tuple") (.type "tuple")=some true:=by with_unfolding_all rfl
end
inductive RdD(K:IT)(H:Hp):V->PyData->Prop where
 |non:RdD K H .non .none
 |bl (b:Bool):RdD K H (.bl b) (.bool b)
 |int (i:Int):RdD K H (.int i) (.int i)
 |lst {a:Addr} {xs:List V} {ds:List PyData} (h:SqL K H a xs) (hl:xs.length=ds.length) (r:∀(i:Nat)(x:V)(d:PyData),xs[i]?=some x->ds[i]?=some d->RdD K H x d):RdD K H (.ref a) (.list ds)
 |tup {a:Addr} {xs:List V} {ds:List PyData} (h:SqT K H a xs) (hl:xs.length=ds.length) (r:∀(i:Nat)(x:V)(d:PyData),xs[i]?=some x->ds[i]?=some d->RdD K H x d):RdD K H (.ref a) (.tuple ds)
theorem jC{h:Heap}:∀{xs:List V}{us:List Value}{ds:List PyData},Vals xs us->xs.length=ds.length->(∀(i:Nat) x d,xs[i]?=some x->ds[i]?=some d->∀ u,RelV x u->∃ as,Reads h u d as)->∃ as,ReadsAll h us ds as
 |_,_,[],.nil,_,_=>⟨_,.nil⟩
 |_,_,_::_,.nil,e,_=>by cases e
 |_,_,[],.cons _ _,e,_=>by cases e
 |_,_,d::ds,.cons r rr,e,k=>by
  obtain⟨a1,q1⟩:=k 0 _ d rfl rfl _ r
  obtain⟨a2,q2⟩:=jC rr (Mc e) fun i x d' e1 e2=>k (i+1) x d' e1 e2
  exact⟨_,.cons q1 q2⟩
section
variable{X:Cx}
theorem RdD.reads{pins:List (Addr×Obj)}{σ:St}{H:Hp}{s:Shared}(I:Inv X pins σ H s){x:V}{d:PyData}(r:RdD X.K H x d):∀ u,RelV x u->∃ as,Reads s.heap u d as:=by
 induction r with
 |non=>intro u hu;cases hu;exact⟨_,.none⟩
 |bl b=>intro u hu;cases hu;exact⟨_,.bool b⟩
 |int i=>intro u hu;obtain⟨t,rfl⟩:=hu;exact⟨_,.int i t⟩
 |lst h hl r ih =>
  intro u hu
  cases hu
  obtain⟨its,rv,p,_⟩:=I.list h
  obtain⟨as,q⟩:=jC (h:=s.heap) rv hl ih
  obtain⟨o,n,e,c,_,d⟩:=p
  exact⟨_,.list e c d (by simpa using q)⟩
 |tup h hl r ih =>
  intro u hu
  cases hu
  obtain⟨its,rv,p,_⟩:=I.tuple h
  obtain⟨as,q⟩:=jC (h:=s.heap) rv hl ih
  obtain⟨o,e,c,n,d⟩:=p
  exact⟨_,.tuple e c d (by simpa using q)⟩
def rSame(b:Bool)(K:IT):R2:=fun x y H Q=>∃ d,RdD K H x d/\RdD K H y d/\SeqAt.shaped d=true/\Q (.bl b) H
theorem op_eqD(hu:X.A.units+64<cLine):OpR X (compareOp .Eq) (rSame true X.K):=by
 intro pins s σ H x y v u Q I rx ry h
 obtain⟨d,r1,r2,hs,q⟩:=h
 obtain⟨as,q1⟩:=r1.reads I v rx
 obtain⟨bs,q2⟩:=r2.reads I u ry
 refine eq_dataH q1 q2 hs hs hu ?_
 rw[SeqAt.eqv_refl d (SeqAt.canLay_of_shaped hs)]
 exact⟨.bl true,H,I,rfl,q⟩
theorem Gw(hu:X.A.units+64<cLine):OpR X (compareOp .NotEq) (rSame false X.K):=by
 intro pins s σ H x y v u Q I rx ry h
 obtain⟨d,r1,r2,hs,q⟩:=h
 obtain⟨as,q1⟩:=r1.reads I v rx
 obtain⟨bs,q2⟩:=r2.reads I u ry
 refine ne_dataH q1 q2 hs hs hu ?_
 rw[SeqAt.eqv_refl d (SeqAt.canLay_of_shaped hs)]
 exact⟨.bl false,H,I,rfl,q⟩
end
section
variable{X:Cx}{tg:Expr}
end
end L2
namespace L2
open PySem PySem.Spec PyProof.Rows
section
variable{P:Program}{w:World}{H:Hp}{h:Heap}{a:Addr}{o:HO}
theorem br.get(x:br P w H h a o):∃ ob,h.get? a=some ob:=by
 cases o with
 |lst xs=>obtain⟨_,_,_,_,e⟩:=x;exact⟨_,e⟩
 |tup xs=>obtain⟨_,_,_,ob,e,_⟩:=x;exact⟨_,e⟩
 |dK kvs=>obtain⟨_,_,_,_,o,_,_,e,_⟩:=x;exact⟨_,e⟩
 |dT kvs=>obtain⟨_,_,_,_,o,_,_,e,_⟩:=x;exact⟨_,e⟩
 |set S n=>obtain⟨o,_,_,_,e,_⟩:=x;exact⟨_,e⟩
 |ins C dx fs=>obtain⟨_,_,_,e,_⟩:=x;exact⟨_,e⟩
 |own y=>exact x
 |xd fs=>obtain⟨_,⟨_,_,_,e,_⟩,_⟩:=x;exact⟨_,e⟩
 |rng lo hi=>obtain⟨_,_,_,e⟩:=x;exact⟨_,e⟩
 |frz ob u=>exact⟨_,x.1⟩
 |tbl ps=>exact⟨_,(show h.get? a=some _ from x)⟩
 |met f y=>exact⟨_,(show h.get? a=some _ from x)⟩
 |ext φ=>exact x.2.1
theorem HOk.none_of(x:HOk P w H h)(e:h.get? a=none):H a=none:=by
 cases q:H a with
 |none=>rfl
 |some u =>
  obtain⟨ob,z⟩:=(x a u q).get
  rw[e]at z
  cases z
end
structure XOk(X:Cx)(pins:List (Addr×Obj))(H:Hp)(b:Addr):Prop where
 old:X.s₀.heap.get? b=none
 trk:H b=none
 nl:b≠X.env.locals
 nc:∀ x c,X.env.cells.lookup x=some c->c≠b
 np:∀ p∈X.pn++pins,p.1≠b
section
variable{X:Cx}{pins:List (Addr×Obj)}{σ:St}{H H':Hp}{s s':Shared}{b:Addr}
theorem Inv.xok(I:Inv X pins σ H s)(hx:X.ex = [])(e:s.heap.get? b=none)(n:H' b=none):XOk X pins H' b:=by
 refine⟨?_,n,fun z=>?_,fun x c q z=>?_,fun p hp z=>?_⟩
 ·cases q:X.s₀.heap.get? b with
  |none=>rfl
  |some o =>
   obtain⟨o',e'⟩:=I.base.there b o q (by rw[hx];simp)
   rw[e]at e'
   cases e'
 ·obtain⟨m,⟨o,_,_,ho,_⟩,_⟩:=I.loc
  rw[z,ho]at e
  cases e
 ·obtain⟨v,o,ho,_⟩:=I.cell x c q
  rw[z,e]at ho
  cases ho
 ·have:=(I.pin p hp).1
  rw[z,e]at this
  cases this
theorem Inv.xstep{h':Heap}{ch:List Addr}(I:Inv X pins σ H s)(hch:∀ b∈ch,XOk X pins H b)
  (keep:∀ b o,s.heap.get? b=some o->b∉ch->b∉frs X.stack->h'.get? b=some o)
  (slot:∀ b o,s.heap.get? b=some o->b∉ch->b∈frs X.stack->∃ sl,h'.get? b=some { o with slots:=sl }):Inv X pins σ H { s with heap:=h' }:=by
 have any:∀ b o,s.heap.get? b=some o->b∉ch->∃ sl,h'.get? b=some { o with slots:=sl }:=fun b o e hc=>by
  by_cases hb:b∈frs X.stack
  ·exact slot b o e hc hb
  ·exact⟨o.slots,keep b o e hc hb⟩
 have fsub:∀ b,b∈frs X.stack->b≠X.env.locals->b∈X.fs:=fun b hb n=>(Ja.mp (I.stkSub b hb)).elim (fun z=>absurd z n) fun z=>z
 have neL:∀ b o,X.s₀.heap.get? b=some o->b≠X.env.locals:=fun b o e=>Jw (Jz (Heap.lt_size e) I.ok.above)
 have neC:∀ b o,X.s₀.heap.get? b=some o->b∉ch:=fun b o e hb=>by
  have:=(hch b hb).old
  rw[e]at this
  cases this
 have cellK:∀ x c,X.env.cells.lookup x=some c->∀ v,s.heap.IsCell c v->h'.IsCell c v:=fun x c e v ⟨o,ho,hd⟩=>by
  obtain⟨sl,q⟩:=any c o ho fun z=>(hch c z).nc x c e rfl
  exact⟨_,q,hd⟩
 refine⟨I.ok,I.os,I.bare,⟨fun b o e n hb hx=>?_,fun b o e n hb hx=>?_,I.base.free,fun b o e hx=>?_,I.base.tups,I.base.frzs,I.base.tbls⟩,?_,fun x c e=>?_,I.free,I.freeC,fun p hp=>?_,fun b u e=>?_,I.len⟩
 ·exact keep b o (I.base.keep b o e n hb hx) (neC b o e) fun z=>hb (fsub b z (neL b o e))
 ·obtain⟨sl,e1⟩:=I.base.slot b o e n hb hx
  obtain⟨sl',e2⟩:=any b _ e1 (neC b o e)
  exact⟨sl',e2⟩
 ·obtain⟨o',e1⟩:=I.base.there b o e hx
  obtain⟨sl,e2⟩:=any b _ e1 (neC b o e)
  exact⟨_,e2⟩
 ·obtain⟨m,⟨o,es,ep,ho,r⟩,hl⟩:=I.loc
  obtain⟨sl,e2⟩:=any _ o ho fun z=>(hch _ z).nl rfl
  refine⟨m,⟨_,es,ep,e2,r⟩,fun i x v e1 e2 e3=>?_⟩
  obtain⟨u,r,l⟩:=hl i x v e1 e2 e3
  refine⟨u,r,?_⟩
  rcases l with l | ⟨k,c,e,z⟩
  ·exact .inl l
  ·exact .inr ⟨k,c,e,cellK x c e _ z⟩
 ·obtain⟨v,z⟩:=I.cell x c e
  exact⟨v,cellK x c e v z⟩
 ·obtain⟨e,n,ne,nf,d⟩:=I.pin p hp
  exact⟨keep p.1 p.2 e (fun z=>(hch p.1 z).np p hp rfl) fun z=>nf (fsub p.1 z ne),n,ne,nf,d⟩
 ·have nof:∀ c u',H c=some u'->c∉ch/\c∉frs X.stack:=fun c u' q=>⟨fun z=>(by rw[(hch c z).trk]at q;exact nomatch q),fun z=>(by rw[I.stkFree c z]at q;exact nomatch q)⟩
  refine(I.hok b u e).stay (fun c v hc q=>?_) (fun _ q=>q) fun _ _ q=>q
  rcases hc with z | z
  ·rw[z]at q ⊢
   exact keep b v q (nof b u e).1 (nof b u e).2
  ·exact keep c v q (nof c _ z).1 (nof c _ z).2
theorem Inv.xtrack{a:Addr}{o:HO}(I:Inv X pins σ H s)(f:XOk X pins H a)(new:br X.prog X.w (upd H a o) s.heap a o):Inv X pins σ (upd H a o) s:=by
 have ne:∀ b u,H b=some u->b≠a:=fun b u e=>az e f.trk
 have nb:∀ b u,s.heap.get? b=some u->b≠a->H b=none->upd H a o b=none:=fun b u _ n q=>by rw[ao n];exact q
 refine⟨I.ok,I.os,I.bare,⟨I.base.keep,I.base.slot,fun b ob e n hx=>?_,I.base.there,fun b xs e=>?_,fun b ob xs e=>?_,fun b ps e=>?_⟩,I.loc,I.cell,?_,fun x c e=>?_,fun p hp=>?_,fun b u e=>?_,I.len⟩
 ·rw[ao (fun z=>by rw[z,f.old]at e;cases e)]
  exact I.base.free b ob e n hx
 ·have:=I.base.tups b xs e
  rw[ao (ne _ _ this)]
  exact this
 ·have:=I.base.frzs b ob xs e
  rw[ao (ne _ _ this)]
  exact this
 ·obtain⟨m,q⟩:=I.base.tbls b ps e
  exact⟨m,by rw[ao (ne _ _ q)];exact q⟩
 ·rw[ao (Ne.symm f.nl)]
  exact I.free
 ·rw[ao (f.nc x c e)]
  exact I.freeC x c e
 ·obtain⟨e,n,r⟩:=I.pin p hp
  exact⟨e,by rw[ao (f.np p hp)];exact n,r⟩
 ·by_cases hb:b=a
  ·rw[hb,ae]at e
   cases e
   rw[hb]
   exact new
  ·rw[ao hb]at e
   exact(I.hok b u e).stay (fun c v _ q=>q) (fun c q=>by rw[ao (ne c _ q)];exact q) fun c xs q=>by rw[ao (ne c _ q)];exact q
end
def Trc(h:Heap)(x:Addr)(C:Value)(T:Addr):Prop :=
 ∃ oe vs a0 oT ts,h.get? x=some oe/\oe.cls=C/\vs[0]?=some a0/\oe.data=.fields vs/\vs[1]?=some (.ref T)/\T≠x/\h.get? T=some oT/\oT.data=.fields ts/\ts[3]?=some .none
def Xnw(h:Heap)(x:Addr)(C:Value):Prop:=∃ oe vs a0,h.get? x=some oe/\oe.cls=C/\oe.data=.fields vs/\vs[0]?=some a0/\vs[1]?=some .none
def XA(X:Cx)(pins:List (Addr×Obj))(H:Hp)(s:Shared)(x:Addr)(C:Value):Prop:=XOk X pins H x/\(Xnw s.heap x C∨∃ T,XOk X pins H T/\Trc s.heap x C T)
def CXr(P:Program)(w:World):CXT:=fun outer H s E e s'=>∃(x:Addr)(C:Value)(T:Addr)(H':Hp),e=.ref x/\s'.os=s.os/\AllBare s'.gens/\Un (frs outer) [] H H' s.heap s'.heap/\HOk P w H' s'.heap /\
 s.heap.get? x=none/\s.heap.get? T=none/\H' x=none/\H' T=none/\Trc s'.heap x C T/\E C none H'
section
variable{X:Cx}{pins:List (Addr×Obj)}{σ:St}{H:Hp}{s:Shared}{x:Addr}{C:Value}{E:Value->Shared->Prop}
abbrev hidX(X:Cx)(h:Heap)(ch:List Addr):Heap:=PySem.W.hideAll h (ch++frs X.stack)
theorem Inv.hidF(I:Inv X pins σ H s)(ch:List Addr):s.heap.FunFrames (hidX X s.heap ch) X.stack :=
 PySem.W.funFrames_hide I.stack fun env he a hf=>Jc _ (LX.mpr ⟨env,he,hf⟩)
theorem DS(ch:List Addr)(h:Heap):(hidX X h ch).StaysIn h:=fun _ _ e=>PySem.W.of_hideAll _ e
theorem kT{ch:List Addr}{h:Heap}{b:Addr}(hb:b∈ch):(hidX X h ch).get? b=none:=PySem.W.hideAll_none _ (JG _ hb)
theorem Inv.left{h':Heap}{ch:List Addr}{a0:Value}(I:Inv X pins σ H s)(hx:X.ex = [])(hch:∀ b∈ch,XOk X pins H b)(k:(hidX X s.heap ch).StaysIn h')(t:h'.TracedW (hidX X s.heap ch) x C a0)(u:s.heap.UpToSlots h') :
  Inv X pins σ H { s with heap:=h' }/\∃ T,XOk X pins H T/\Trc h' x C T:=by
 have fr:∀ b o,s.heap.get? b=some o->b∈frs X.stack->∃ sl,h'.get? b=some { o with slots:=sl }:=fun b o e hb=>by
  obtain⟨_,o',ho,hd⟩:=I.stack.mem hb
  rw[e]at ho
  cases ho
  exact u b o e hd
 refine⟨I.xstep hch (fun b o e n1 n2=>k b o (LU _ e fun z=>(Jl.mp z).elim n1 n2)) fun b o e _ hb=>fr b o e hb,?_⟩
 obtain⟨oe,vs,T,oT,ts,he,⟨hcls,h0⟩,hd,h1,hnT,hTe,hT,hdT,h3⟩:=t
 refine⟨T,?_,oe,vs,a0,oT,ts,he,hcls,h0,hd,h1,hTe,hT,hdT,h3⟩
 cases q:s.heap.get? T with
 |none=>exact I.xok hx q (I.hok.none_of q)
 |some o =>
  by_cases z:T∈ch
  ·exact hch T z
  ·by_cases z2:T∈frs X.stack
   ·obtain⟨_,o',ho,hd'⟩:=I.stack.mem z2
    obtain⟨sl,e⟩:=fr T o q z2
    rw[hT]at e
    cases e
    rw[q]at ho
    cases ho
    exact absurd hdT (hd' ts)
   ·have:=LU (ch++frs X.stack) q fun z3=>(Jl.mp z3).elim z z2
    rw[hnT]at this
    cases this
theorem Inv.leave{Q:Unit->Shared->Prop}(I:Inv X pins σ H s)(hx:X.ex = [])(hst:X.stack=X.env::X.outer)(hfr:X.env.frame=some X.env.locals)(xa:XA X pins H s x C)
  (h:∀ h' T,Inv X pins σ H { s with heap:=h' }->XOk X pins H x->XOk X pins H T->Trc h' x C T->Q () { s with heap:=h' }):wpAny (model X.prog X.w) X.A (leaving X.env (.ref x)) Q E s:=by
 obtain⟨x1,x2⟩:=xa
 have frm:X.A.frames=some (X.env::X.outer):=by rw[← hst];exact I.ok.frames
 rcases x2 with⟨oe,vs,a0,he,hc,hd,h0,h1⟩ | ⟨T,xT,oe,vs,a0,oT,ts,he,hc,h0,hd,h1,hTe,hT,hdT,h3⟩
 ·have hch:∀ b∈[x],XOk X pins H b:=fun b hb=>by
   have e:b=x:=by simpa using hb
   rw[e]
   exact x1
  refine wpAny_leaving_firstW (base:=hidX X s.heap [x]) frm (hst▸I.hidF [x]) hfr he (DS _ _) (kT (by simp)) hd h1 h0 fun h' L=>?_
  obtain⟨k1,_,k3,k4⟩:=L
  obtain⟨I',T,xT,tr⟩:=I.left hx hch k1 k3 k4
  rw[hc]at tr
  exact h h' T I' x1 xT tr
 ·have hch:∀ b∈[x,T],XOk X pins H b:=fun b hb=>by
   rcases Ja.mp hb with e | hb
   ·rw[e]
    exact x1
   ·have e:b=T:=by simpa using hb
    rw[e]
    exact xT
  refine wpAny_leaving_nextW (base:=hidX X s.heap [x,T]) frm (hst▸I.hidF [x,T]) hfr ⟨oe,vs,T,oT,ts,he,⟨hc,h0⟩,hd,h1,kT (by simp),hTe,hT,hdT,h3⟩ (DS _ _) (kT (by simp)) fun h' L=>?_
  obtain⟨k1,_,k3,k4⟩:=L
  obtain⟨I',T',xT',tr⟩:=I.left hx hch k1 k3 k4
  exact h h' T' I' x1 xT' tr
end
abbrev WK:=Value->St->Hp->Prop
def Wsh(X:Cx)(W:WK):Prop:=∀(pins:List (Addr×Obj))(σ:St)(H:Hp)(s:Shared)(x:Addr)(C:Value),Inv X pins σ H s->XA X pins H s x C->W C σ H->X.xe (.ref x) s
theorem gL{P:Program}{w:World}{K:IT}{mg:Str->Option Value}{base:Heap}{N:List Str}{qual:Str}{scope:Scope}{f:Addr}{cd:Value}{A:Around}{outer:List Env}{s₀:Shared}{H₀:Hp}{E:XK} :
  Wsh (cxOf (CXr P w) P w K mg base N qual scope f cd A outer s₀ H₀ E) (fun C _ H=>E C none H):=fun pins σ H s x C I xa hE=>by
 show wpAny (model P w) (A.deeper (envOfC qual scope s₀.heap.objs.size f cd)) (leaving (envOfC qual scope s₀.heap.objs.size f cd) (.ref x)) _ _ s
 refine Inv.leave I rfl rfl rfl xa fun h' T I' x1 xT tr=>?_
 exact⟨x,C,T,H,rfl,I'.os,I'.bare,I'.base,I'.hok,x1.old,xT.old,x1.trk,xT.trk,tr,hE⟩
theorem C7{P:Program}{w:World}{X:Cx}:m6 (CXr P w) X E0:=fun _ _ _ _ _ _ _ ⟨_,_,_,_,_,_,_,_,_,_,_,_,_,_,z⟩=>z.elim
section
variable{X:Cx}{k:Nat}{f C:Addr}{fd:FuncData}{ps:List Str}{sp:Sp}{dvs:List V}{ds:List Value}{W:WK}{x m:Str}{p pos apos:Pos}{e o:Expr}{es:List Expr}{ta:TE}{t:TA}
theorem Wsh.of{pins:List (Addr×Obj)}{σ:St}{H:Hp}{s s':Shared}{v:Value}(ws:Wsh X W)(hx:X.ex = [])(I:Inv X pins σ H s)(h:CXr X.prog X.w X.stack H s (fun C _ H'=>W C σ H') v s'):X.xe v s':=by
 obtain⟨x,C,T,H',rfl,os,bare,un,hok,nx,nT,tx,tT,tr,q⟩:=h
 have I':Inv X pins σ H' s':=I.call' os un hok bare fun b z=>absurd z (by simp)
 exact ws pins σ H' s' x C I' ⟨I.xok hx nx tx,.inr ⟨T,I.xok hx nT tT,tr⟩⟩ q
theorem Ho{pins:List (Addr×Obj)}{σ:St}{H:Hp}{s:Shared}{Q:VK}{us:List Value}{vs:List V}(F:FnOk X.prog X.w X.K X.mg X.base (CXr X.prog X.w) k f fd ps sp)(hr:Room k X.A)(hb:iR X.K fd ps ds)(hd:Vals dvs ds)(ws:Wsh X W)(hx:X.ex = [])
  (I:Inv X pins σ H s) (r:Vals vs us) (h:sp (vs++dvs) H Q (fun C _ H'=>W C σ H')):wpAny (model X.prog X.w) X.A (call (.ref f) us) (EP X pins σ Q) X.xe s:=by
 have r2:Vals (vs++dvs) (us++ds):=r.append hd
 have hl:(us++ds).length=ps.length:=by rw[← r2.length];exact F.len _ _ _ _ h
 refine wpAny_call (codeAny_mono (F.run X.A X.stack s H ⟨us,[]⟩ (us++ds) (vs++dvs) Q _ hr I.env0 (hb s us I.kIn hl) r2 h) fun r s' hq=>?_)
 cases r with
 |error e=>exact ws.of hx I hq
 |ok fl =>
  cases fl with
  |ret u=>exact I.after hq
  |next=>exact False.elim hq
  |brk=>exact False.elim hq
  |cont=>exact False.elim hq
def Gk(sp:Sp)(dvs:List V)(W:WK)(t:TA):TE:=fun σ H Q=>t σ H fun vs H1=>sp (vs++dvs) H1 Q fun C _ H'=>W C σ H'
theorem dA(F:FnOk X.prog X.w X.K X.mg X.base (CXr X.prog X.w) k f fd ps sp)(hr:Room k X.A)(hg:Gl X x)(hm:X.mg x=some (.ref f))(hk:Jd X.K (.ref f)=true)(hb:iR X.K fd ps ds)(hd:Vals dvs ds)(ws:Wsh X W)(hx:X.ex = [])
  (ha:PA X (e::es) t) (hdb:(x == ("__debug__" : Str))=false:=by decide) (he:starEach (e::es) X.env=(false,eval e X.env)::starEach es X.env:=by rfl) (hpl:(backTo pos (starEach es X.env)).any (·.1)=false:=by rfl) :
  PE X (.Call (.Name x p) (e::es) [] pos) (Gk sp dvs W t):=by
 intro pins s σ H Q I h
 refine wpAny_Call_Name_kw (lJ I hg hm ?_ hdb)
 refine K6 (h₀:=X.base) I.ok.mod.kin hk (thn (ha pos pins s σ H _ I h) fun us s1 ⟨vs,H1,I1,r,q⟩=>⟨I1.kIn,?_⟩) he hpl
 exact Ho F hr hb hd ws hx I1 r q
end
end L2
namespace L2
open PySem PySem.Spec PyProof.Rows
structure CalX(P:Program)(w:World)(K:IT)(mg:Str->Option Value)(base:Heap)(k:Nat)(x:Str)(ps:List Str)(sp:Sp)(f:Addr)(fd:FuncData):Prop where
 ok:FnOk P w K mg base (CXr P w) k f fd ps sp
 bn:iR K fd ps []
 mg:mg x=some (.ref f)
 kp:Jd K (.ref f)=true
theorem Fun.okX{P:Program}{w:World}{K:IT}{mg:Str->Option Value}{base:Heap}{x qual:Str}{st:Stmt}{f:Addr}{fd:FuncData}{N ps:List Str}{k:Nat}{sp:Sp}(F:Fun K x qual st f fd)(S:aB N ps (ag st))(len:∀ vs H Q E,sp vs H Q E->vs.length=ps.length)
  (hbody:∀(cdv:Value)(A:Around)(outer:List Env)(s:Shared)(H:Hp)(vs:List V)(Q:VK)(E:XK),Room k (A.deeper (envOfC qual (ag st) s.heap.objs.size f cdv))->sp vs H Q E ->
   ∃ t,PSs (cxOf (CXr P w) P w K mg base N qual (ag st) f cdv A outer s H E) (au st) t/\t { nx:=fun _ H'=>Q .non H',rt:=Q } (qj N vs) H):FnOk P w K mg base (CXr P w) (k+1) f fd ps sp:=by
 obtain⟨oc,od,kV,doc,pm,an,cdv,ct,osl,rfl,lk,hcd⟩:=F.ex
 exact Iu lk hcd S len fun A outer s H vs Q E hr hsp=>hbody cdv A outer s H vs Q E hr hsp
abbrev veM:List Value:=[.type "ValueError",.type "Exception",.type "BaseException",.type "object"]
abbrev ExC(K:IT)(C:Addr):Prop:=LD K C veM "ValueError.__new__" = true
theorem zh{K:IT}{C:Addr}{h:Heap}(e:ExC K C)(X:K.In h):∃ bm N nm qn bs hdct sn sub ab col dd k0 k1 k2 k3 k5 mN,h.get? C=some (excClassObj nm qn C N bs bm hdct sn sub ab col dd k0 k1 k2 k3 k5 "ValueError.__new__")/\h.Ns N mN/\mN "__init__" = none/\OwnTail h veM bm/\∀ B b,Kd K C B=some b->(Value.ref C::bm).contains B=b:=by
 have z:=e
 unfold ExC LD at z
 split at z
 ·rename_i ddx cdx slx hobj
  split at z
  ·rename_i Cx bmx y0 y1 y2 y3 nx y5 hmro hslots
   have zz:=z
   simp only[Bool.and_eq_true,beq_iff_eq,Bool.not_eq_true']at zz
   obtain⟨⟨⟨⟨⟨eC,eN⟩,edel⟩,etail⟩,ens⟩,einit⟩:=zz
   subst eC
   subst eN
   obtain⟨l⟩:=slx
   have hl:l = [y0,y1,y2,y3,some (.builtin "ValueError.__new__"),y5]:=hslots
   subst hl
   obtain⟨nm,bs,mro,ns,qn,hd,sn,sub,ab,col,del⟩:=cdx
   have hmro':mro=.ref Cx::bmx:=hmro
   have hdel':del=false:=edel
   subst hmro' hdel'
   refine⟨bmx,ns,nm,qn,bs,hd,sn,sub,ab,col,ddx,y0,y1,y2,y3,y5,_,X _ _ hobj,.of_isNs (PySem.W.isNs_of_in X ens),PySem.W.nsMap_none_of_in X ens einit,PySem.W.tail_of_in X etail,fun B b hB=>?_⟩
   unfold Kd Mu at hB
   rw[hobj]at hB
   simpa using hB
  ·cases z
 ·cases z
def tRaise(C:Addr)(W:WK)(t:TA):TS:=fun _ σ H=>t σ H fun vs H1=>vs.length<=sizeLine/\W (.ref C) σ H1
theorem oq{X:Cx}{x:Str}{C:Addr}{e:Expr}{es:List Expr}{t:TA}{W:WK}{np cpos pos:Pos}(ec:ExC X.K C)(hm:X.mg x=some (.ref C))(hg:Gl X x)(ws:Wsh X W)(hx:X.ex = [])(hc:X.calm=true)(ha:PA X (e::es) t)
  (he:starEach (e::es) X.env=(false,eval e X.env)::starEach es X.env:=by rfl) (hpl:(backTo cpos (starEach es X.env)).any (·.1)=false:=by rfl) (hdb:(x == ("__debug__" : Str))=false:=by decide) :
  PS X (.Raise (some (.Call (.Name x np) (e::es) [] cpos)) none pos) (tRaise C W t):=by
 intro pins s σ H D I h
 obtain⟨tl,N,nm,qn,bs,hdct,sn,sub,ab,col,dd,k0,k1,k2,k3,k5,mN,hC,hN,hni,T,_⟩:=zh ec I.ok.mod.kin
 have hpl2:(backTo cpos (starEach (e::es) X.env)).any (·.1)=false:=by
  rw[he]
  show(false||(backTo cpos (starEach es X.env)).any (·.1))=false
  rw[hpl];rfl
 refine wpAny_Raise_call_subT (C:=C) (nm:=nm) (q:=qn) (N:=N) (bs:=bs) (bm:=tl) (hdct:=hdct) (sn:=sn) (sub:=sub) (ab:=ab) (col:=col) (dd:=dd) (k0:=k0) (k1:=k1) (k2:=k2) (k3:=k3) (k5:=k5) PySem.F.excBase_ValueError (mN:=mN) (T.hasType PySem.F.excBase_ValueError.hasBase) (I.ok.hd hc) hpl2 hni (lJ I hg hm ⟨rfl,?_⟩ hdb)
 have z:=ha cpos pins s σ H _ I h
 rw[he]at z ⊢
 refine Calls.evalArgs_plain (wpAny_mono z (fun us s2 zz=>?_) fun _ _ y=>y)
 obtain⟨vs,H1,I2,r,hz,q⟩:=zz
 refine⟨rfl,by rw[← r.length];exact hz,I2.bk _ _ hC,hN.keeps I2.bk,T.keeps I2.bk,fun h' e' hme=>?_⟩
 obtain⟨t0,ht0,_,_⟩:=hme.there
 have I3:Inv X pins σ H1 { s2 with heap:=h' }:=I2.kept (t':=s2.toks) hme.keeps
 exact ws pins σ H1 _ e' (.ref C) I3 ⟨I2.xok hx hme.new (I2.hok.none_of hme.new),.inl ⟨_,_,_,ht0,rfl,rfl,rfl,rfl⟩⟩ q
def excO(x C:Addr):HO:=.ext fun h=>∃ o,h.get? x=some o/\o.cls=.ref C
section
variable{X:Cx}{pins:List (Addr×Obj)}{σ:St}{H:Hp}{s:Shared}{x:Addr}{C:Value}
def Cx.marked(X:Cx)(v:Value):Cx:={ X with A:=X.A.mark (some v),calm:=false,xe:=fun _ _=>False }
theorem Inv.marked(I:Inv X pins σ H s)(v:Value):Inv (X.marked v) pins σ H s :=
 ⟨⟨I.ok.mod,I.ok.kind,I.ok.glob,I.ok.blt,I.ok.above,I.ok.inj,I.ok.has,I.ok.cab,fun z=>(by cases z),I.ok.frames,I.ok.stk,I.ok.exf,I.ok.bs,I.ok.bsz,I.ok.noex,I.ok.exfs,I.ok.funs,I.ok.frf⟩,I.os,I.bare,I.base,I.loc,I.cell,I.free,I.freeC,I.pin,I.hok,I.len⟩
theorem Inv.unmarked{hd:X.calm=true->X.A.handled=none}{fr:X.A.frames=some X.stack}{v:Value}(I:Inv (X.marked v) pins σ H s):Inv X pins σ H s :=
 ⟨⟨I.ok.mod,I.ok.kind,I.ok.glob,I.ok.blt,I.ok.above,I.ok.inj,I.ok.has,I.ok.cab,hd,fr,I.ok.stk,I.ok.exf,I.ok.bs,I.ok.bsz,I.ok.noex,I.ok.exfs,I.ok.funs,I.ok.frf⟩,I.os,I.bare,I.base,I.loc,I.cell,I.free,I.freeC,I.pin,I.hok,I.len⟩
theorem Inv.gone{i:Nat}{n:Str}{h':Heap}{tk:Nat}{m:Str->Option Value}{v:Option Value}(I:Inv X pins σ H s)(hN:X.N.Nodup)(hi:X.N[i]?=some n)(hm:s.heap.Ns X.env.locals m/\∀ (i:Nat) (x:Str) (v:V),X.N[i]?=some x->σ[i]?=some (some v)->Vis X.env.scope x->∃ u,RelV v u/\Look X.env s.heap m x u)
  (hn:h'.Ns X.env.locals (fun y=>if y=n then v else m y)) (hs:Heap.SameBut X.env.locals s.heap h'):Inv X pins (σ.set i none) H { s with heap:=h',toks:=tk }:=by
 have lo:∀ b o,X.s₀.heap.get? b=some o->b≠X.env.locals:=fun b o e=>Jw (Jz (Heap.lt_size e) I.ok.above)
 obtain⟨oL,_,_,hoL,_⟩:=id hm.1
 refine⟨I.ok,I.os,I.bare,⟨fun b o e n1 hb hx=>(hs.2 b (lo b o e)).trans (I.base.keep b o e n1 hb hx),fun b o e n1 hb hx=>?_,I.base.free,fun b o e hx=>?_,I.base.tups,I.base.frzs,I.base.tbls⟩,⟨_,hn,fun j y w' e1 e2 e3=>?_⟩,fun y c e=>?_,I.free,I.freeC,fun p hp=>?_,fun b u e=>?_,by simpa using I.len⟩
 ·obtain⟨sl,q⟩:=I.base.slot b o e n1 hb hx
  exact⟨sl,(hs.2 b (lo b o e)).trans q⟩
 ·obtain⟨o',q⟩:=I.base.there b o e hx
  exact⟨o',(hs.2 b (lo b o e)).trans q⟩
 ·by_cases hj:j=i
  ·subst hj
   rw[KC]at e2
   split at e2
   ·split at e2<;>cases e2
   ·rename_i z;exact absurd rfl z
  ·rw[K1 (Ne.symm hj)]at e2
   obtain⟨u',r',l'⟩:=hm.2 j y w' e1 e2 e3
   refine⟨u',r',?_⟩
   rcases l' with⟨kk,e⟩ | ⟨kk,c,e,z⟩
   ·refine .inl ⟨kk,?_⟩
    have ny:y≠n:=fun q=>hj (tU hN e1 (q▸hi))
    show(if y=n then v else m y)=some u'
    rw[if_neg ny];exact e
   ·exact .inr ⟨kk,c,e,z.sameBut hs (I.cne y c e)⟩
 ·obtain⟨w2,z⟩:=I.cell y c e
  exact⟨w2,z.sameBut hs (I.cne y c e)⟩
 ·obtain⟨e,n1,ne,nf,d⟩:=I.pin p hp
  exact⟨(hs.2 p.1 ne).trans e,n1,ne,nf,d⟩
 ·refine(I.hok b u e).stay (fun c v2 hc q=>(hs.2 c fun z=>?_).trans q) (fun _ q=>q) fun _ _ q=>q
  have fr:=I.free
  rcases hc with y | y
  ·rw[← y,z,fr]at e;cases e
  ·rw[z,fr]at y;cases y
end
section
variable{M:Model}{A:Around}{E:Value->Shared->Prop}{h:Heap}{g:Array GenState}{d:Drawn}{t:Nat}{os:OsState}
theorem exc_up{C D:Addr}{nm qn nm2 qn2:Str}{N N2:Addr}{bs bm bs2 bm2:List Value}{hdct hdct2:Bool}{sn sn2:List Str}{sub sub2:List Value}{ab ab2:Bool}{col col2:Option Bool}{dd dd2:Option Addr}{k0 k1 k2 k3 k5 j0 j1 j2 j3 j5:Option Value}{id1 id2:String}{x:Addr}{ob:Obj}{Q:Bool->Shared->Prop}
  (hC:h.get? C=some (excClassObj nm qn C N bs bm hdct sn sub ab col dd k0 k1 k2 k3 k5 id1)) (hD:h.get? D=some (excClassObj nm2 qn2 D N2 bs2 bm2 hdct2 sn2 sub2 ab2 col2 dd2 j0 j1 j2 j3 j5 id2)) (hob:h.get? x=some ob) (hcl:ob.cls=.ref C)
  (hDB:(Value.ref D::bm2).contains (.type "BaseException")=true) (hCD:(Value.ref C::bm).contains (.ref D)=true) (hq:Q true ⟨h,g,d,t,os⟩):wpAny M A (excMatches (.ref x) (.ref D)) Q E ⟨h,g,d,t,os⟩:=by
 have ntup:=tc_notTuple
 unfold excMatches
 repeat (first | (with_reducible refine wpAny_loadPart_at hob ?_;rw[hcl]) | with_reducible refine wpAny_loadPart_at hD ?_ | (with_reducible refine wpAny_isSubtype_exc hD ?_;rw[hDB]) | (with_reducible refine wpAny_isSubtype_exc hC ?_;rw[hCD]) | wp_step)
 exact hq
end
def Cx.tried(X:Cx)(pins:List (Addr×Obj))(E:Value->Shared->Prop):Cx:={ X with pn:=X.pn++pins,xe:=E }
section
variable{X:Cx}{pins pins':List (Addr×Obj)}{σ:St}{H:Hp}{s:Shared}{E:Value->Shared->Prop}{b:Addr}
theorem Inv.tried(I:Inv X pins σ H s):Inv (X.tried pins E) [] σ H s :=
 ⟨⟨I.ok.mod,I.ok.kind,I.ok.glob,I.ok.blt,I.ok.above,I.ok.inj,I.ok.has,I.ok.cab,I.ok.hd,I.ok.frames,I.ok.stk,I.ok.exf,I.ok.bs,I.ok.bsz,I.ok.noex,I.ok.exfs,I.ok.funs,I.ok.frf⟩,I.os,I.bare,I.base,I.loc,I.cell,I.free,I.freeC,fun p hp=>I.pin p (by rw[Kv]at hp;exact hp),I.hok,I.len⟩
theorem Inv.untried(I:Inv (X.tried pins E) pins' σ H s):Inv X pins σ H s :=
 ⟨⟨I.ok.mod,I.ok.kind,I.ok.glob,I.ok.blt,I.ok.above,I.ok.inj,I.ok.has,I.ok.cab,I.ok.hd,I.ok.frames,I.ok.stk,I.ok.exf,I.ok.bs,I.ok.bsz,I.ok.noex,I.ok.exfs,I.ok.funs,I.ok.frf⟩,I.os,I.bare,I.base,I.loc,I.cell,I.free,I.freeC,fun p hp=>I.pin p (JG _ hp),I.hok,I.len⟩
theorem XOk.untried(x:XOk (X.tried pins E) pins' H b):XOk X pins H b:=⟨x.old,x.trk,x.nl,x.nc,fun p hp=>x.np p (JG _ hp)⟩
theorem SP.untried{D:Ends}{f:Flow}(h:SP (X.tried pins E) [] D f s):SP X pins D f s:=by
 cases f with
 |next=>obtain⟨σ',H',I,q⟩:=h;exact⟨σ',H',I.untried,q⟩
 |brk=>obtain⟨σ',H',I,q⟩:=h;exact⟨σ',H',I.untried,q⟩
 |cont=>obtain⟨σ',H',I,q⟩:=h;exact⟨σ',H',I.untried,q⟩
 |ret u=>obtain⟨v,σ',H',I,r,q⟩:=h;exact⟨v,σ',H',I.untried,r,q⟩
end
def WshT(X:Cx)(W:WK):Prop:=∀(pins:List (Addr×Obj))(σ:St)(H:Hp)(s:Shared)(x T:Addr)(C:Value),Inv X pins σ H s->XOk X pins H x->XOk X pins H T->Trc s.heap x C T->W C σ H->X.xe (.ref x) s
section
variable{X:Cx}{k:Nat}{f:Addr}{fd:FuncData}{ps:List Str}{sp:Sp}{dvs:List V}{ds:List Value}{W:WK}{x:Str}{p pos:Pos}{e:Expr}{es:List Expr}{t:TA}
theorem Fp(F:FnOk X.prog X.w X.K X.mg X.base (CXr X.prog X.w) k f fd ps sp)(hr:Room k X.A)(hg:Gl X x)(hm:X.mg x=some (.ref f))(hk:Jd X.K (.ref f)=true)(hb:iR X.K fd ps ds)(hd:Vals dvs ds)(ws:WshT X W)(hx:X.ex = [])
  (ha:PA X (e::es) t) (hdb:(x == ("__debug__" : Str))=false:=by decide) (he:starEach (e::es) X.env=(false,eval e X.env)::starEach es X.env:=by rfl) (hpl:(backTo pos (starEach es X.env)).any (·.1)=false:=by rfl) :
  PE X (.Call (.Name x p) (e::es) [] pos) (Gk sp dvs W t):=by
 intro pins s σ H Q I h
 refine wpAny_Call_Name_kw (lJ I hg hm ?_ hdb)
 refine K6 (h₀:=X.base) I.ok.mod.kin hk (thn (ha pos pins s σ H _ I h) fun us s1 ⟨vs,H1,I1,r,q⟩=>⟨I1.kIn,?_⟩) he hpl
 have r2:Vals (vs++dvs) (us++ds):=r.append hd
 have hl:(us++ds).length=ps.length:=by rw[← r2.length];exact F.len _ _ _ _ q
 refine wpAny_call (codeAny_mono (F.run X.A X.stack s1 H1 ⟨us,[]⟩ (us++ds) (vs++dvs) Q _ hr I1.env0 (hb s1 us I1.kIn hl) r2 q) fun r s' hq=>?_)
 cases r with
 |error e =>
  obtain⟨x,C,T,H',rfl,os,bare,un,hok,nx,nT,tx,tT,tr,q'⟩:=hq
  have I':Inv X pins σ H' s':=I1.call' os un hok bare fun b z=>absurd z (by simp)
  exact ws pins σ H' s' x T C I' (I1.xok hx nx tx) (I1.xok hx nT tT) tr q'
 |ok fl =>
  cases fl with
  |ret u=>exact I1.after hq
  |next=>exact False.elim hq
  |brk=>exact False.elim hq
  |cont=>exact False.elim hq
end
def tTryAs(ie:Nat)(Cs:Addr->Prop)(tb:WK->TS)(ts:TS):TS:=fun Ds σ H=>tb (fun C σ1 H1=>∃ c,C=.ref c/\Cs c/\∀ x,H1 x=none->ts { nx:=fun σ2 H2=>Ds.nx (σ2.set ie none) H2,rt:=fun _ _=>False } (σ1.set ie (some (.ref x))) (upd H1 x (excO x c))) Ds σ H
theorem Fj{X:Cx}{body:List Stmt}{b0:Stmt}{suite:List Stmt}{dn en:Str}{np hpos pos:Pos}{D:Addr}{ie:Nat}{Cs:Addr->Prop}{tb:WK->TS}{ts:TS}(hx:X.ex = [])(hst:X.stack=X.env::X.outer)(hfr:X.env.frame=some X.env.locals)(hN:X.N.Nodup)(hi:X.N[ie]?=some en)(hl:X.env.kindOf en=some .local)
  (hgD:Gl X dn) (hmD:X.mg dn=some (.ref D)) (eD:ExC X.K D) (hCs:∀ c,Cs c->ExC X.K c/\Kd X.K c (.ref D)=some true)
  (hb:∀ pins XE W,WshT (X.tried pins XE) W->PSs (X.tried pins XE) body (tb W)) (hs:∀ v,PSs (X.marked v) (b0::suite) ts) (hdb:(dn == ("__debug__" : Str))=false:=by decide) :
  PS X (.Try body [.ExceptHandler (some (.Name dn np)) (some en) (b0::suite) hpos] [] [] pos) (tTryAs ie Cs tb ts):=by
 intro pins s σ H Ds I h
 refine wpAny_Try_except ?_
 refine wpAny_mono (hb pins (fun e s₁=>wpAny (model X.prog X.w) X.A (noteFrame e X.env) (fun _ s₂=>wpAny (model X.prog X.w) X.A (setFlight e none) (fun _ s₃=>wpAny (model X.prog X.w) X.A (handleBy e X.env [.ExceptHandler (some (.Name dn np)) (some en) (b0::suite) hpos]) (SP X pins Ds) X.xe s₃) X.xe s₂) X.xe s₁) _ ?_ [] s σ H Ds I.tried h) (fun f s1 q=>?_) fun _ _ z=>z
 ·intro pins' σ1 H1 s1 x T C I1 xx xT tr hw
  obtain⟨c,rfl,hc,hts⟩:=hw
  have I2:Inv X pins σ1 H1 s1:=I1.untried
  have x2:XOk X pins H1 x:=xx.untried
  have T2:XOk X pins H1 T:=xT.untried
  have frm:X.A.frames=some (X.env::X.outer):=by rw[← hst];exact I2.ok.frames
  have fly:∀{h:Heap}{T:Addr},Inv X pins σ1 H1 { s1 with heap:=h }->Trc h x (.ref c) T->∃ a0,Heap.FlyingW (hidX X h [x,T]) (X.env::X.outer) x (.ref c) a0 h:=fun{h T} J tr=>by
   obtain⟨oe,vs,a0,oT,ts,he,hcl,h0,hd,h1,hTe,hT,hdT,h3⟩:=tr
   exact⟨a0,DS _ _,kT (by simp),hst▸J.hidF [x,T],⟨oe,vs,T,oT,ts,he,⟨hcl,h0⟩,hd,h1,kT (by simp),hTe,hT,hdT,h3⟩⟩
  have two:∀{T:Addr},XOk X pins H1 T->∀ b∈[x,T],XOk X pins H1 b:=fun{T} hT b hb=>by
   rcases Ja.mp hb with e | hb
   ·rw[e];exact x2
   ·have e:b=T:=by simpa using hb
    rw[e];exact hT
  obtain⟨a0,fl⟩:=fly (h:=s1.heap) I2 tr
  refine wpAny_looks_onW frm hfr fl fun h4 held4 up4=>?_
  refine wpAny_landsW held4 fun h5 fl5 up5=>?_
  obtain⟨I5,T5,xT5,tr5⟩:=I2.left hx (two T2) fl5.1 fl5.2.2.2 (up4.trans up5)
  refine wpAny_handleBy_cons (codeAny_handlers_test (Calls.Name_function_global I5.ok.kind hgD (Calls.loadGlobal_global (by rw[I5.ok.glob];exact I5.mod.glob.keeps I5.bk) hmD ?_) hdb)) (by intro q;cases q)
  obtain⟨e1,e2⟩:=hCs c hc
  obtain⟨_,_,_,_,_,_,_,_,_,_,_,_,_,_,_,_,_,hC,_,_,_,mC⟩:=zh e1 I5.kIn
  obtain⟨_,_,_,_,_,_,_,_,_,_,_,_,_,_,_,_,_,hD,_,_,TD,_⟩:=zh eD I5.kIn
  have hDB:=TD.hasType (X:="BaseException") (b:=true) rfl
  obtain⟨ob,_,_,_,_,hob,hcl,_⟩:=id tr5
  refine exc_up hC hD hob hcl (by rw[List.contains_cons,hDB,Bool.or_true]) (mC _ _ e2) ?_
  refine codeAny_handlers_suite_as ?_
  obtain⟨a5,fl5'⟩:=fly I5 tr5
  refine lands_againW (s:={ s1 with heap:=h5 }) fl5' fun h6 fl6 up6=>?_
  obtain⟨I6,T6,xT6,tr6⟩:=I5.left hx (two xT5) fl6.1 fl6.2.2.2 up6
  obtain⟨oe,_,_,_,_,he,hcl6,_⟩:=id tr6
  have I7:=I6.xtrack (o:=excO x c) x2 ⟨⟨oe,he,hcl6⟩,⟨oe,he⟩,fun h1 h2 ⟨o,z1,z2⟩ kk=>⟨o,kk o z1,z2⟩⟩
  refine kE I7 hN hi (.inl hl) (v:=.ref x) rfl (fun s8 I8=>?_) (.inr hl)
  refine wpAny_mono (hs (.ref x) pins s8 _ _ _ (I8.marked _) (hts x x2.trk)) (fun f s9 q9=>?_) fun _ _ z=>z.elim
  cases f with
  |next =>
   obtain⟨σ9,H9,I9,q9⟩:=q9
   have I9':Inv X pins σ9 H9 s9:=Inv.unmarked (hd:=I2.ok.hd) (fr:=I2.ok.frames) I9
   obtain⟨m,hm⟩:=I9'.loc
   refine wpAny_nameGoes_keeps hl hm.1 (by rw[I9'.ok.kind];rfl) fun h' v hn hss=>?_
   exact⟨_,_,I9'.gone hN hi hm hn hss,q9⟩
  |brk=>obtain⟨_,_,_,z⟩:=q9;exact z.elim
  |cont=>obtain⟨_,_,_,z⟩:=q9;exact z.elim
  |ret u=>obtain⟨_,_,_,_,_,z⟩:=q9;exact z.elim
 ·have q':=SP.untried q
  cases f with
  |next=>exact wpAny_execs_nil q'
  |brk=>exact q'
  |cont=>exact q'
  |ret u=>exact q'
theorem DK{K:IT}{x c:Value}{Hh:Heap->Prop}(ty:∀ (M:Model) (h:Heap),Hh h->LF M h (typeOf x) c):Answers (fun s=>Hh s.heap) x c true:=by
 intro dep tk prog w A R s hs
 obtain⟨h0,g,d,tt,os⟩:=s
 obtain⟨p,hq⟩:=hs
 have LT:=ty (model prog w) h0 p
 unfold Builtin.«isinstance.nested»
 refine wpAny_bind (LT.at ?_)
 rw[if_pos (by simp)]
 first
  |exact wpAny_bind (wpAny_rule (hq tt))
  |exact wpAny_bind (wpAny_rule (wpAny_pure (hq tt)))
  | ((repeat lk);exact hq tt)
end L2
namespace L2
open PySem PySem.Spec PyProof.Rows
theorem wN{X:Cx}:ku X (.builtin "isinstance") (fun xs H Q=>∃ x c,xs = [.ref x,.ref c]/\H x=some (excO x c)/\Q (.bl true) H):=by
 intro pins s σ H xs us Q I r h
 obtain⟨x,c,rfl,hx,q⟩:=h
 obtain⟨v1,v2,rfl,r1,r2⟩:=EZ r
 cases r1
 cases r2
 obtain⟨⟨o,e,hc⟩,_,_⟩:=(show br X.prog X.w H s.heap x (excO x c) from I.hok x _ hx)
 have an:=DK (K:=X.K) (x:=.ref x) (c:=.ref c) (Hh:=fun h=>∃ o,h.get? x=some o/\o.cls=.ref c) fun M h ⟨o,z1,z2⟩=>z2▸(PySem.W.Looks.ld z1).andThen .now
 exact call_isinstance (S:=fun _ R s=>(∃ o,s.heap.get? x=some o/\o.cls=.ref c)/\∀ tk,R (.ok (.ret (.bool true))) { s with toks:=tk }) (fun prog w A R s hs=>isinstance_outer (an 0 _ prog w A R s hs) (by intro z;cases z)) ⟨⟨o,e,hc⟩,fun tk=>⟨.bl true,H,I.tok tk,rfl,q⟩⟩
end L2
namespace L2
open PySem PySem.Spec PyProof.Rows
section
variable{prog:Program}{w:World}{A:Around}{E:Value->Shared->Prop}{s:Shared}
end
end L2
namespace L2
open PySem PySem.Spec PyProof.Rows
section
variable{prog:Program}{w:World}{A:Around}{E:Value->Shared->Prop}{s:Shared}
end
section
variable{X:Cx}
theorem Inv.track{pins:List (Addr×Obj)}{σ:St}{H:Hp}{s:Shared}{a:Addr}{o:HO}(I:Inv X pins σ H s)(f:FpOk X pins H a)(new:br X.prog X.w (upd H a o) s.heap a o):Inv X pins σ (upd H a o) s:=by
 obtain⟨f0,f1,f2,f3,f4,f5⟩:=f
 have ne:∀ b u,H b=some u->b≠a:=fun b u e=>az e f0
 refine I.step (g':=s.gens) (t':=s.toks) (d':=s.drawn) (h':=s.heap) (ch:=[a]) (fun b hb=>?_) (fun b o _ _ _ e _=>e) (fun b o _ _ _ e _=>⟨o.slots,e⟩) (fun b o hc e n=>?_) (fun b o _ e=>⟨o,e⟩) (fun b xs e=>by rw[ao (ne b _ e)];exact e) (fun b o u e=>by rw[ao (ne b _ e)];exact e)
  (fun b ps e=>⟨#[],by rw[ao (ne b _ e),e];simp⟩) (fun m hm=>hm) (fun b u e=>?_) I.bare
 ·have eb:b=a:=by simpa using hb
  rw[eb]
  exact⟨f3,f1,f4,f5⟩
 ·rw[ao (fun z=>hc (by simp[z]))]
  exact n
 ·by_cases hb:b=a
  ·rw[hb,ae]at e
   cases e
   rw[hb]
   exact new
  ·rw[ao hb]at e
   exact(I.hok b u e).stay (fun c v _ q=>q) (fun c q=>by rw[ao (ne c _ q)];exact q) fun c xs q=>by rw[ao (ne c _ q)];exact q
end
end L2
namespace L2
open PySem PySem.Spec PyProof.Rows
section
variable{X:Cx}
theorem vY{P:Program}{w:World}:∀{kvs:List (Key×V)}{vs:List (Key×Value)}{us:List Value},KV kvs vs->us.length=vs.length->(∀(j:Nat)(v:Value),us[j]?=some v->∃ k x,vs[j]?=some (k,x)/\(bA P w).is k v=true)->Vals (kvs.map fun q=>kV q.1) us
 |_,_,[],.nil,_,_=>.nil
 |_,_,_::_,.nil,e,_=>by cases e
 |_,_,[],.cons _ _,e,_=>by cases e
 |_,_,u::us,.cons (a:=p) (b:=q) r rr,e,k=>by
  obtain⟨kk,x,e1,e2⟩:=k 0 u rfl
  have eq:q=(kk,x):=Js e1
  have hk:p.1=kk:=by rw[r.1,eq]
  refine .cons ?_ (vY rr (Mc e) fun j v ej=>k (j+1) v ej)
  show RelV (kV p.1) u
  rw[hk]
  rcases aR (show ud kk u=true from e2) with⟨i,t,rfl,rfl⟩ | ⟨z,t,rfl,rfl⟩
  ·exact⟨t,rfl⟩
  ·exact⟨t,rfl⟩
end
end L2
namespace L2
open PySem PySem.Spec PyProof.Rows
theorem Inv.turnedL{X:Cx}{pins:List (Addr×Obj)}{σ:St}{H:Hp}{s:Shared}{h':Heap}{t':Nat}{fp:List Addr}(I:Inv X pins σ H s)(k:∀ b o,b∉fp->s.heap.get? b=some o->h'.get? b=some o)(hf:∀ b∈fp,FpOk X pins H b):Inv X pins σ H { s with heap:=h',toks:=t' }:=by
 have nit:∀ b u,H b=some u->b∉fp:=fun b u e z=>by rw[(hf b z).1]at e;cases e
 refine I.step (g':=s.gens) (d':=s.drawn) (ch:=fp) (fun b hb=>?_) (fun b o _ _ hc e _=>k b o hc e) (fun b o _ _ hc e _=>⟨o.slots,k b o hc e⟩) (fun _ _ _ _ n=>n)
  (fun b o hc e=>⟨o,k b o hc e⟩) (fun _ _ e=>e) (fun _ _ _ e=>e) (fun b ps e=>⟨#[],by rw[e];simp⟩) (fun m hm=>?_) (fun b u e=>?_) I.bare
 ·obtain⟨f0,f1,f2,f3,f4,f5⟩:=hf b hb
  exact⟨f3,f1,f4,f5⟩
 ·obtain⟨o,es,ep,ho,r⟩:=hm
  exact⟨o,es,ep,k _ o (fun z=>(hf _ z).2.1 rfl) ho,r⟩
 ·refine(I.hok b u e).stay (fun c v hc q=>k c v ?_ q) (fun _ q=>q) fun _ _ q=>q
  rcases hc with z | z
  ·rw[z];exact nit b u e
  ·exact nit c _ z
def Ite(K:IT)(a:Addr):It :=
 ⟨fun i H=>∃ xs x,SqL K H a xs/\xs[i]?=some x,fun i H v H'=>∃ T x,H T=none/\v=.ref T/\H'=upd H T (.tup [.int (i:Int),x])/\∀ xs,SqL K H a xs->xs[i]?=some x,fun i H=>∃ xs,SqL K H a xs/\xs.length<=i⟩
theorem Cj{P:Program}{w:World}{K:IT}{es:List Expr}{k:Nat}{pos:Pos}(a e it:Addr)(hei:e≠it):Turn P w K (.Tuple es k pos) (Ite K a) [e,it] e (fun i h=>(∃ old,IsEnum h e it ((i:Nat):Int) old)/\h.IsListIter it a i) where
 mem:=by simp
 obj:=fun i h st b hb=>by
  obtain⟨⟨old,he⟩,o,e2,c,d⟩:=st
  rcases Ja.mp hb with rfl | hb
  ·exact⟨_,he,fun v z=>by
    have z':Data.fields _=Data.cell v:=z
    cases z'⟩
  ·have e3:b=it:=by simpa using hb
   subst e3
   exact⟨o,e2,fun v z=>by rw[d]at z;cases z⟩
 keep:=fun i h h' st kk=>by
  obtain⟨⟨old,he⟩,hit⟩:=st
  exact⟨⟨old,kk e (by simp) _ he⟩,hit.at fun o q=>kk it (by simp) o q⟩
 item:=by
  intro X hP hw hK hc i pins s σ H E I hf st hg
  subst hP hw hK
  obtain⟨xs,x,hq,hx⟩:=hg
  obtain⟨its,rv,p,hz⟩:=I.list hq
  obtain⟨u,hu,ru⟩:=rv.get hx
  obtain⟨⟨old,he⟩,hit⟩:=st
  refine wpAny_pyNext_enum_item he hit p.isList (x:=u) (by simpa using hu) hei fun h' ho hit' hT hsz hk=>?_
  refine⟨_,rfl,?_⟩
  refine wpAny_letOwnedTupleGo_enum ho fun h2 he2 hs2=>?_
  have hs2':Heap.SameBut e h' h2:=hs2
  have hel:e<s.heap.objs.size:=Heap.lt_size he
  have hil:it<s.heap.objs.size:=by obtain⟨_,q,_⟩:=hit;exact Heap.lt_size q
  have hfr:H s.heap.objs.size=none:=I.hok.fresh (IY _)
  have I0:Inv X pins σ (upd H s.heap.objs.size (.tup [.int (i:Int),x])) { s with heap:=s.heap.push { cls:=.type "tuple",data:=.seq #[.int (i:Int) s.toks,u] },toks:=s.toks+1 } :=
   I.laid (t':=s.toks+1) (fun b u e=>Heap.get?_push_of_some _ e) (IY _) ⟨by show 2<=sizeLine;decide,[.int (i:Int) s.toks,u],.cons ⟨_,rfl⟩ (.cons ru .nil),⟨_,Heap.get?_push_size _ rfl,rfl,_,rfl⟩⟩
  have hfb:∀ b∈[e,it],b<s.heap.objs.size:=fun b hb=>by
   rcases Ja.mp hb with rfl | hb
   ·exact hel
   ·have e3:b=it:=by simpa using hb
    rw[e3];exact hil
  have hn:∀ b∈[e,it],upd H s.heap.objs.size (.tup [.int (i:Int),x]) b=none:=fun b hb=>by
   rw[ao (Jw (hfb b hb))]
   exact(hf b hb).1
  have I2:Inv X pins σ (upd H s.heap.objs.size (.tup [.int (i:Int),x])) { s with heap:=h2,toks:=s.toks+1 }:=Inv.turnedL (s:={ s with heap:=s.heap.push { cls:=.type "tuple",data:=.seq #[.int (i:Int) s.toks,u] },toks:=s.toks+1 }) (h':=h2) I0 (t':=s.toks+1) (fp:=[e,it]) (fun b o hb q=>by
   have nb:b≠e:=fun z=>hb (by simp[z])
   have nb2:b≠it:=fun z=>hb (by simp[z])
   refine(hs2'.2 b nb).trans ?_
   rcases Heap.get?_push_cases q with⟨z1,z2⟩ | q
   ·rw[z1,z2];exact hT
   ·exact hk b o nb nb2 q) fun b hb=>⟨hn b hb,(hf b hb).2⟩
  refine⟨.ref s.heap.objs.size,_,I2,rfl,⟨s.heap.objs.size,x,hfr,rfl,rfl,fun ys hy=>by rw[I.list_inj hy hq];exact hx⟩,?_,hn⟩
  refine⟨⟨u,?_⟩,hit'.at fun o q=>(hs2'.2 it (Ne.symm hei)).trans q⟩
  have e4:(((i+1:Nat):Nat):Int)=(i:Int)+1:=by omega
  rw[e4]
  exact he2
 done:=by
  intro X hP hw hK hc i pins s σ H E I hf st hg
  subst hP hw hK
  obtain⟨xs,hq,hx⟩:=hg
  obtain⟨its,rv,p,hz⟩:=I.list hq
  obtain⟨⟨old,he⟩,hit⟩:=st
  have hl:=rv.length
  obtain⟨f0,f1,f2,f3,f4,f5⟩:=hf it (by simp)
  exact wpAny_pyNext_enum_end (I.ok.hd hc) he hit p.isList (by simp;omega) fun h' eb=>⟨rfl,I.turned (t':=s.toks) (fun b o hb e=>eb b o hb e) f0 f1 f3 f4 f5⟩
 self:=fun _ _ _ _ _ st h=>by
  obtain⟨⟨old,he⟩,_⟩:=st
  exact wpAny_pyIter_enum he h
section
variable{X:Cx}
def iEnum(K:IT)(ta:TA):TI:=fun σ H R=>ta σ H fun vs H1=>∃ a,vs = [.ref a]/\(∃ xs,SqL K H1 a xs)/\R (Ite K a) H1
theorem C3{l:Expr}{ta:TA}{es:List Expr}{k:Nat}{tp p pos:Pos} (hg:Gl X "enumerate") (hm:X.mg "enumerate" = none) (ha:PA X [l] ta) (hs:starEach [l] X.env = [(false,eval l X.env)]:=by rfl) :
  PI X (.Tuple es k tp) (.Call (.Name "enumerate" p) [l] [] pos) (iEnum X.K ta):=by
 intro pins s σ H R I h
 refine Call_ (mS I hg hm wV (PyProof.Rows.callWith_type1 (thn (ha pos pins s σ H _ I h) fun us s1 ⟨vs,H1,I1,r1,q1⟩=>?_) hs rfl))
 obtain⟨a,e,⟨xs,hq⟩,q⟩:=q1
 subst e
 obtain⟨u,rfl,ru⟩:=vb r1
 cases ru
 obtain⟨its,rv,p,hz⟩:=I1.list hq
 refine call_enumerate_list p.isList fun h' he hit hsz hk=>?_
 refine wpAny_pyIter_enum he ?_
 refine⟨s1.heap.objs.size+1,[s1.heap.objs.size+1,s1.heap.objs.size],_,_,H1,rfl,I1.kept (t':=s1.toks) hk,Cj a _ _ (Nat.succ_ne_self _),⟨⟨_,he⟩,hit⟩,fun b hb=>?_,q⟩
 have hb':s1.heap.objs.size<=b:=by
  rcases Ja.mp hb with rfl | hb
  ·exact Ld _
  ·have e3:b=s1.heap.objs.size:=by simpa using hb
   rw[e3];exact IY _
 exact I1.fpOk hb' (I1.hok.fresh hb')
end
theorem AH{K:IT}{a:Addr}{xs:List V}{g:TG}{tb:TS}{D:Ends}{σ:St}{H:Hp}(Pv:Nat->St->Hp->Prop)(h0:Pv 0 σ H)(hl:∀ i σ H,i<=xs.length->Pv i σ H->SqL K H a xs)
  (hs:∀ i x σ H T,xs[i]?=some x->Pv i σ H->H T=none->g (.ref T) σ (upd H T (.tup [.int (i:Int),x])) fun σ2 H2=>tb { D with nx:=Pv (i+1),ct:=Pv (i+1),bk:=D.nx } σ2 H2) (hd:∀ σ H,Pv xs.length σ H->D.nx σ H) :
  ∃ W:Nat->Nat->St->Hp->Prop,(∃ m,W 0 m σ H)/\∀ i m σ H,W i m σ H ->
   ((Ite K a).stop i H/\D.nx σ H)∨((Ite K a).go i H/\∃ N:St->Hp->Prop,(∀ σ' H',N σ' H'->∃ m',m'<m/\W (i+1) m' σ' H')/\∀ x H',(Ite K a).yld i H x H'->g x σ H' fun σ2 H2=>tb { D with nx:=N,ct:=N,bk:=D.nx } σ2 H2):=by
 refine⟨fun i m σ H=>m=xs.length-i/\i<=xs.length/\Pv i σ H,⟨xs.length,by simp,Kc _,h0⟩,?_⟩
 rintro i m σ H ⟨rfl,hi,p⟩
 have q:=hl i σ H hi p
 by_cases hlt:i<xs.length
 ·refine .inr ⟨⟨xs,xs[i],q,by simp[hlt]⟩,Pv (i+1),fun σ' H' p'=>⟨xs.length-(i+1),by omega,rfl,hlt,p'⟩,fun v H' y=>?_⟩
  obtain⟨T,x,hT,rfl,rfl,y⟩:=y
  exact hs i x σ _ T (y xs q) p hT
 ·have e:i=xs.length:=by omega
  subst e
  exact .inl ⟨⟨xs,q,IY _⟩,hd σ H p⟩
end L2
namespace L2
open PySem PySem.Spec PyProof.Rows
section
variable{X:Cx}
end
theorem DI{n j:Nat}(h:j<n):ixN n (j:Int)=some j:=by
 unfold ixN
 rw[if_pos (by omega),if_pos (by omega)]
 rfl
end L2
namespace L2
open PySem PySem.Spec PyProof.Rows
theorem iC:∀{ds:List PyData},(∀ d∈ds,d.canLay0=true)->PyData.canLayAll0 ds=true
 |[],_=>by simp[PyData.canLayAll0]
 |d::ds,h=>by
  rw[PyData.canLayAll0,h d (by simp),iC fun x hx=>h x (by simp[hx])]
  rfl
theorem j4{n:Nat}:∀{ds:List PyData},(∀ d∈ds,d.depth<=n)->PyData.depthAll ds<=n
 |[],_=>by simp[PyData.depthAll]
 |d::ds,h=>by
  have h1:=h d (by simp)
  have h2:=j4 (ds:=ds) fun x hx=>h x (Jk _ hx)
  rw[PyData.depthAll]
  omega
theorem oj{ds:List PyData}(h:∀ d∈ds,d.canLay0=true/\d.depth<=10):SeqAt.shaped (.list ds)=true:=by
 have h1:=iC fun d hd=>(h d hd).1
 have h2:=j4 fun d hd=>(h d hd).2
 have h3:PyData.depth (.list ds)<=64:=by simp only[PyData.depth];omega
 show(PyData.canLay0 (.list ds)&&decide (PyData.depth (.list ds)<=64))=true
 rw[Bool.and_eq_true]
 exact⟨by simp only[PyData.canLay0];exact h1,decide_eq_true h3⟩
end L2
namespace L2
open PySem PySem.Spec PyProof.Rows
def cxG(X:Cx)(scope:Scope)(fr:List (Str×Nat))(xs:List Str)(C:Addr)(ex:List Addr)(s:Shared)(H:Hp):Cx where
 prog:=X.prog
 w:=X.w
 K:=X.K
 mg:=X.mg
 base:=X.base
 A:=X.A
 N:=xs++fr.map (·.1)
 s₀:=s
 H₀:=H
 env:=compEnvC scope (clOf X.env fr) C X.env
 outer:=X.stack
 stack:=X.stack
 ex:=ex
 fn:=fun _=>false
 calm:=X.calm
 pn:=[]
 xe:=fun _ _=>False
structure qg(X:Cx)(scope:Scope)(fr:List (Str×Nat))(xs:List Str):Prop where
 clos:closureFor scope X.env=pure (clOf X.env fr)
 cell:∀ y∈scope.names,y.2≠.cell
 kind:scope.kind=.function
 names:∀ y∈scope.names,y.2=.local->scope.names.lookup y.1=some .local
 slot:∀ p∈fr,X.N[p.2]?=some p.1/\X.env.kindOf p.1=some .cell
 has:∀ y∈(relabel scope X.env).names,(y.2=.cell∨y.2=.free)->y.1∈fr.map (·.1)
 frk:∀ p∈fr,(relabel scope X.env).names.lookup p.1=some .cell
theorem qg.of{X:Cx}{scope:Scope}{fr:List (Str×Nat)}{xs:List Str}(clos:closureFor scope X.env=pure (clOf X.env fr))(cell:∀ y∈scope.names,y.2≠.cell)(kind:scope.kind=.function)(names:∀ y∈scope.names,y.2=.local->scope.names.lookup y.1=some .local)
  (slot:∀ p∈fr,X.N[p.2]?=some p.1/\X.env.kindOf p.1=some .cell) (nf:∀ z∈scope.names,z.2=.free->z.1∈fr.map (·.1)) (frk:∀ p∈fr,(relabel scope X.env).names.lookup p.1=some .cell):qg X scope fr xs where
 clos:=clos
 cell:=cell
 kind:=kind
 names:=names
 slot:=slot
 has:=fun z hz hk=>by
  obtain⟨⟨n,k⟩,hm,e⟩:=Jj.mp (show z∈scope.names.map _ from hz)
  have h2:=cell _ hm
  dsimp only at e h2
  have hn:z.1=n:=by rw[← e];split<;>rfl
  have hf:k=.free:=by
   by_cases q:k=.free
   ·exact q
   ·have hb:(k == NameKind.free)=false:=by simpa using q
    rw[hb]at e
    simp only[Lg,L5,if_false]at e
    subst e
    exact(hk.elim h2 q).elim
  have:=nf _ hm hf
  rw[hn]
  exact this
 frk:=frk
abbrev nons(xs:List Str):St:=JW xs.length none
section
variable{X:Cx}{pins:List (Addr×Obj)}{σ:St}{H:Hp}{s:Shared}{scope:Scope}{fr:List (Str×Nat)}{xs:List Str}
theorem qg.cells(O:qg X scope fr xs)(I:Inv X pins σ H s){y:Str}{c:Addr}(h:(clOf X.env fr).lookup y=some c):X.env.cells.lookup y=some c:=by
 obtain⟨hm,e⟩:=ft h
 obtain⟨p,hp,ep⟩:=Jj.mp hm
 have k:=(O.slot p hp).2
 rw[ep]at k
 obtain⟨c',e'⟩:=I.ok.has y (.inl k)
 rw[e']at e
 rw[e',e]
 rfl
theorem DM{fp:List Addr}(O:qg X scope fr xs)(I:Inv X pins σ H s)(hf:∀ b∈fp,FpOk X pins H b)(hfs:∀ b∈fp,b<s.heap.objs.size){g h':Heap}{tk:Nat}(hg:g=s.heap.push (LCg.lst []))
  (hk:∀ b o,g.get? b=some o->h'.get? b=some o) (hC:h'.Ns g.objs.size fun _=>none) :
  Inv (cxG X scope fr xs g.objs.size (s.heap.objs.size::fp) { s with heap:=g } H) (X.pn++pins++[(s.heap.objs.size,LCg.lst [])]) (nons xs++frOf fr σ) H { s with heap:=h',toks:=tk }:=by
 have hsz:g.objs.size=s.heap.objs.size+1:=by rw[hg,Heap.size_push]
 have kp:∀ b o,s.heap.get? b=some o->g.get? b=some o:=fun b o e=>by rw[hg];exact Heap.get?_push_of_some _ e
 have hk0:∀ b o,s.heap.get? b=some o->h'.get? b=some o:=fun b o e=>hk b o (kp b o e)
 have hDo:h'.get? s.heap.objs.size=some (LCg.lst []):=hk _ _ (by rw[hg];exact Heap.get?_push_size _ rfl)
 have neC:∀ b,b<s.heap.objs.size->b≠g.objs.size:=fun b e=>by rw[hsz];exact Jw (K0 e)
 have hDC:s.heap.objs.size≠g.objs.size:=by rw[hsz];exact Jw (KQ _)
 have hfr:H g.objs.size=none:=I.hok.fresh (by rw[hsz];exact Ld _)
 have hfD:H s.heap.objs.size=none:=I.hok.fresh (IY _)
 have cne:∀ y c,X.env.cells.lookup y=some c->c<s.heap.objs.size:=fun y c e=>by
  obtain⟨v,q⟩:=I.cell y c e
  exact q.lt
 have nst:∀ b,b≠X.env.locals->b∉X.fs->b∉frs X.stack:=fun b h1 h2 z=>(Ja.mp (I.stkSub b z)).elim h1 h2
 have nstD:s.heap.objs.size∉frs X.stack:=nst _ (Kz I.lt) (I.nofs (IY _))
 refine⟨⟨I.ok.mod,O.kind,I.ok.glob,I.ok.blt,IY _,?_,?_,fun _ _ z _=>(by cases z),I.ok.hd,I.ok.frames,.inl rfl,?_,?_,?_,?_,?_,?_,I.stkFree⟩,rfl,I.bare,Un.kept hk,?_,?_,hfr,?_,?_,I.hok.kept hk0,?_⟩
 ·intro y z c h1 h2
  exact I.ok.inj y z c (O.cells I h1) (O.cells I h2)
 ·intro y hy
  have hm:y∈fr.map (·.1):=by
   rcases hy with hy | hy
   ·exact O.has (y,_) (Kl hy) (.inl rfl)
   ·exact O.has (y,_) (Kl hy) (.inr rfl)
  exact⟨_,bF hm⟩
 ·intro b hb
  rcases Ja.mp hb with rfl | hb
  ·exact⟨hDC,fun y c e=>Jw (cne y c (O.cells I e))⟩
  ·exact⟨neC b (hfs b hb),fun y c e=>(hf b hb).2.2.2.2.1 y c (O.cells I e)⟩
 ·intro b o e
  exact⟨kp b o (I.bs b o e).1,(I.bs b o e).2⟩
 ·show X.base.objs.size<=g.objs.size
  rw[hsz]
  exact Nat.le_succ_of_le (JS I.ok.bsz I.sz)
 ·intro b o e hb
  rcases Ja.mp hb with z | hb
  ·have:=Heap.lt_size (I.bs b o e).1
   rw[z]at this
   exact Ke _ this
  ·rcases(hf b hb).2.2.2.1 with z | z
   ·exact I.ok.noex b o e z
   ·exact absurd (Jz (Heap.lt_size (I.ok.bs b o e).1) z) (Ke _)
 ·intro b hb
  rcases Ja.mp hb with z | hb
  ·rw[z];exact nstD
  ·exact nst b (hf b hb).2.1 (hf b hb).2.2.1
 ·exact(I.kept (h':=g) (t':=s.toks) kp).stack
 ·refine⟨_,hC,fun i y v e1 e2 e3=>?_⟩
  have e1a:(xs++fr.map (·.1))[i]?=some y:=e1
  by_cases hi:i<xs.length
  ·rw[Jb (by simpa using hi)]at e2
   rw[Ky,if_pos hi]at e2
   cases e2
  ·have e1':(fr.map (·.1))[i-xs.length]?=some y:=by
    rw[IZ (by omega)]at e1a
    exact e1a
   have e2':(frOf fr σ)[i-xs.length]?=some (some v):=by
    rw[IZ (by simp;omega)]at e2
    simpa using e2
   generalize i-xs.length=k at e1' e2'
   unfold frOf at e2'
   rw[Je]at e1' e2'
   cases q:fr[k]? with
   |none=>rw[q]at e1';cases e1'
   |some p =>
    rw[q]at e1' e2'
    have ey:p.1=y:=Js e1'
    have ev:(σ[p.2]?).join=some v:=Js e2'
    have hp:p∈fr:=IW q
    obtain⟨hN,hK⟩:=O.slot p hp
    have hkk:=O.frk p hp
    rw[ey]at hN hK hkk
    have ev':σ[p.2]?=some (some v):=by
     cases q2:σ[p.2]? with
     |none=>rw[q2]at ev;cases ev
     |some w=>rw[q2]at ev;exact congrArg some ev
    obtain⟨m,hn,hl⟩:=I.loc
    obtain⟨u,r,l⟩:=hl p.2 y v hN ev' (.inr (.inl hK))
    refine⟨u,r,?_⟩
    rcases l with⟨k1,_⟩ | ⟨_,c,ec,z⟩
    ·rw[hK]at k1;cases k1
    ·have hm:y∈fr.map (·.1):=by rw[← ey];exact Jj.mpr ⟨p,hp,rfl⟩
     have el:=bF (env:=X.env) hm
     rw[ec]at el
     exact .inr ⟨.inl hkk,c,el,by obtain⟨o,ho,hd⟩:=z;exact⟨o,hk0 _ _ ho,hd⟩⟩
 ·intro y c e
  obtain⟨v,o,ho,hd⟩:=I.cell y c (O.cells I e)
  exact⟨v,o,hk0 _ _ ho,hd⟩
 ·intro y c e
  exact I.freeC y c (O.cells I e)
 ·intro p hp
  rcases Jl.mp hp with hp | hp
  ·cases hp
  ·rcases Jl.mp hp with hp | hp
   ·obtain⟨e,n,ne,nf,d⟩:=I.pin p hp
    exact⟨hk0 _ _ e,n,neC _ (Heap.lt_size e),nst _ ne nf,d⟩
   ·have ep:p=(s.heap.objs.size,LCg.lst []):=by simpa using hp
    subst ep
    exact⟨hDo,hfD,hDC,nstD,fun v z=>by cases z⟩
 ·show(nons xs++frOf fr σ).length=(xs++fr.map (·.1)).length
  unfold frOf
  simp
theorem uj{fp:List Addr}{g:Heap}{s':Shared}{H':Hp}{σ':St}{ys:List V}{us:List Value}(I:Inv X pins σ H s)(hf:∀ b∈fp,FpOk X pins H b)(hg:g=s.heap.push (LCg.lst []))
  (J:Inv (cxG X scope fr xs g.objs.size (s.heap.objs.size::fp) { s with heap:=g } H) (X.pn++pins++[(s.heap.objs.size,LCg.lst us)]) σ' H' s') (hv:Vals ys us) (hl:ys.length<=sizeLine) :
  Inv X pins σ (upd H' s.heap.objs.size (.lst ys)) s'/\H' s.heap.objs.size=none/\FpOk X pins (upd H' s.heap.objs.size (.lst ys)) g.objs.size/\∃ m,s'.heap.Ns g.objs.size m:=by
 have hsz:g.objs.size=s.heap.objs.size+1:=by rw[hg,Heap.size_push]
 have kp:∀ b o,s.heap.get? b=some o->g.get? b=some o:=fun b o e=>by rw[hg];exact Heap.get?_push_of_some _ e
 obtain⟨eD,nD,_,_,_⟩:=J.pin (s.heap.objs.size,LCg.lst us) (by simp)
 have hDC:g.objs.size≠s.heap.objs.size:=by rw[hsz];exact Kz (KQ _)
 have nD':∀ b u,H' b=some u->b≠s.heap.objs.size:=fun b u e z=>by rw[z]at e;rw[e]at nD;cases nD
 have hx:∀ b o,s.heap.get? b=some o->b∉fp->b∉s.heap.objs.size::fp:=fun b o e hb z=>by
  rcases Ja.mp z with z | z
  ·have:=Heap.lt_size e
   rw[z]at this
   exact Ke _ this
  ·exact hb z
 have bU:Un (frs X.stack) (s.heap.objs.size::fp) H H' g s'.heap:=J.base
 have ltD:∀ b o,s.heap.get? b=some o->b≠s.heap.objs.size:=fun b o e=>Jw (Heap.lt_size e)
 have un:Un (frs X.stack) fp H (upd H' s.heap.objs.size (.lst ys)) s.heap s'.heap:=by
  refine⟨fun b o e n hb he=>bU.keep b o (kp b o e) n hb (hx b o e he),fun b o e n hb he=>bU.slot b o (kp b o e) n hb (hx b o e he),fun b o e n he=>?_,fun b o e he=>bU.there b o (kp b o e) (hx b o e he),fun b xs e=>?_,fun b o u e=>?_,fun b ps e=>?_⟩
  ·rw[ao (ltD b o e)];exact bU.free b o (kp b o e) n (hx b o e he)
  ·have q:=bU.tups b xs e
   rw[ao (nD' b _ q)];exact q
  ·have q:=bU.frzs b o u e
   rw[ao (nD' b _ q)];exact q
  ·obtain⟨more,q⟩:=bU.tbls b ps e
   exact⟨more,by rw[ao (nD' b _ q)];exact q⟩
 have hok:HOk X.prog X.w (upd H' s.heap.objs.size (.lst ys)) s'.heap:=fun b u e=>by
  by_cases hb:b=s.heap.objs.size
  ·rw[hb,ae]at e
   cases e
   rw[hb]
   exact⟨hl,us,us.length,hv,eD⟩
  ·rw[ao hb]at e
   exact(J.hok b u e).stay (fun c v _ q=>q) (fun c q=>by rw[ao (nD' c _ q)];exact q) fun c xs q=>by rw[ao (nD' c _ q)];exact q
 have os:s'.os=s.os:=J.os
 refine⟨I.call' os un hok J.bare fun b hb=>⟨(hf b hb).2.2.2.1,(hf b hb).2.1,(hf b hb).2.2.2.2⟩,nD,?_,?_⟩
 ·refine I.fpOk (H':=upd H' s.heap.objs.size (.lst ys)) (b:=g.objs.size) (by rw[hsz];exact Ld _) ?_
  rw[ao hDC]
  exact J.free
 ·obtain⟨m,hn,_⟩:=J.loc
  exact⟨m,hn⟩
end
def PTs(X:Cx)(ifs:List Expr)(t:TT):Prop :=
 ∀(pins:List (Addr×Obj))(s:Shared)(σ:St)(H:Hp)(Q:Bool->Hp->Prop),Inv X pins σ H s->t σ H Q ->
  wpAny (model X.prog X.w) X.A (forIn ifs true fun c r=>if r=true then do let ok ← isTrue c X.env (eval c X.env);pure (ForInStep.yield ok) else pure (ForInStep.yield r)) (fun b s'=>∃ H',Inv X pins σ H' s'/\Q b H') X.xe s
theorem xW{X:Cx}{c:Expr}{t:TT}(h:PT X c t):PTs X [c] t:=fun pins s σ H Q I q=>wpAny_tests_one (h pins s σ H Q I q)
section
variable{prog:Program}{w:World}{A:Around}{s:Shared}
theorem Ex{elt target iter:Expr}{ifs:List Expr}{scope:Scope}{pos:Pos}{it acc:Value}{env:Env}{R:Result->Shared->Prop}(I:Nat->Shared->Prop)
  (turn:∀ n s,I n s->wpAny (model prog w) A (pyNext it) (fun r s₁=>match r with
   |none=>R (.ok .next) s₁
   |some v=>wpAny (model prog w) A (letOwnedTupleGo target it v) (fun _ s₀=>wpAny (model prog w) A (assign target env v) (fun _ s₂ =>
     wpAny (model prog w) A (forIn ifs true fun c r=>if r=true then do let ok ← isTrue c env (eval c env);pure (ForInStep.yield ok) else pure (ForInStep.yield r)) (fun ok s₃=>if ok=true then wpAny (model prog w) A (eval elt env) (fun x s₄ =>
      wpAny (model prog w) A (call (.builtin "list.append") [acc,x]) (fun _ s₅=>∃ m,m<n/\I m s₅) (notedBy (model prog w) A env fun e s'=>R (.error e) s') s₄) (notedBy (model prog w) A env fun e s'=>R (.error e) s') s₃
      else ∃ m,m<n/\I m s₃) (notedBy (model prog w) A env fun e s'=>R (.error e) s') s₂)
     (notedBy (model prog w) A env fun e s'=>R (.error e) s') s₀) (notedBy (model prog w) A env fun e s'=>R (.error e) s') s₁) (notedBy (model prog w) A env fun e s'=>R (.error e) s') s)
  (n:Nat) (h:I n s):codeAny (model prog w) A (.compLoop (.ListComp elt [⟨target,iter,ifs,0⟩] scope pos) 0 it acc env) R s:=by
 refine codeAny_loop rfl I (fun n s hI=>?_) n h
 show wpAny _ A ((compTurn (.ListComp elt [⟨target,iter,ifs,0⟩] scope pos) 0 it acc env).onRaise (fun x=>do noteFrame x env;theTreesLotGoes x)) _ _ s
 refine wpAny_noted ?_
 rw[compTurn_list]
 refine wpAny_bind (wpAny_standAt (wpAny_bind (wpAny_mono (turn n s hI) (fun r s₁ h₁=>?_) fun _ _ h'=>h')))
 cases r with
 |none=>exact wpAny_pure h₁
 |some v =>
  refine wpAny_bind (wpAny_mono h₁ (fun _ s₀ h₀'=>?_) fun _ _ h'=>h')
  refine wpAny_bind (wpAny_mono h₀' (fun _ s₂ h₂=>?_) fun _ _ h'=>h')
  refine wpAny_bind (wpAny_mono h₂ (fun okb s₃ h₃=>?_) fun _ _ h'=>h')
  cases okb with
  |false=>exact wpAny_pure ⟨rfl,h₃⟩
  |true=>exact wpAny_bind (wpAny_bind (wpAny_mono h₃ (fun x s₄ h₄=>wpAny_bind (wpAny_mono h₄ (fun _ s₅ h₅=>wpAny_pure (wpAny_pure ⟨rfl,h₅⟩)) fun _ _ h'=>h')) fun _ _ h'=>h'))
end
def ve(g:TG)(tt:TT)(te:TE)(n:Nat)(fv:St)(J:It)(H1:Hp)(QQ:List V->Hp->Prop):Prop :=
 ∃ W:Nat->Nat->List V->Hp->Prop,(∃ m,W 0 m [] H1)/\∀ i m ys H,W i m ys H->ys.length<=sizeLine /\
  ((J.stop i H/\QQ ys H)∨(J.go i H/\∃ N:List V->Hp->Prop,(∀ zs H2,N zs H2->∃ m',m'<m/\W (i+1) m' zs H2) /\
   ∀ x H',J.yld i H x H'->g x (JW n none++fv) H' fun σ2 H2=>σ2.drop n=fv/\tt σ2 H2 fun b H3=>if b=true then te σ2 H3 (fun y H4=>N (ys++[y]) H4) else N ys H3))
section
variable{X:Cx}{scope:Scope}{fr:List (Str×Nat)}{xs:List Str}{elt iter tg:Expr}{ifs:List Expr}{pos:Pos}{te:TE}{tt:TT}{tgt:TG}{wi:TI}
theorem rQ{pins:List (Addr×Obj)}{σ:St}{H:Hp}{s:Shared}{E:Value->Shared->Prop}{it:Addr}{fp:List Addr}{tn:Nat->Heap->Prop}{J:It}{RR:Value->Addr->Result->Shared->Prop}{QQ:List V->Hp->Prop}(hc:X.calm=true)(O:qg X scope fr xs)
  (hg0:∀ C ex s H,PG (cxG X scope fr xs C ex s H) tg tgt) (ht:∀ C ex s H,PTs (cxG X scope fr xs C ex s H) ifs tt) (he:∀ C ex s H,PE (cxG X scope fr xs C ex s H) elt te) (I:Inv X pins σ H s) (T:Turn X.prog X.w X.K tg J fp it tn) (st:tn 0 s.heap) (hf:∀ b∈fp,FpOk X pins H b) (hq:ve tgt tt te xs.length (frOf fr σ) J H QQ)
  (fin:∀ D C H4 ys s4 m,Inv X pins σ (upd H4 D (.lst ys)) s4->H4 D=none->FpOk X pins (upd H4 D (.lst ys)) C->s4.heap.Ns C m->QQ ys H4->RR (.ref D) C (.ok .next) s4) :
  wpAny (model X.prog X.w) X.A (newList []) (fun acc s₃=>wpAny (model X.prog X.w) X.A (newFunctionEnv scope X.env.globals (clOf X.env fr) [] X.env.qual none .none (some X.env)) (fun cenv s₄ =>
   codeAny (model X.prog X.w) X.A (.compStart (.ListComp elt [⟨tg,iter,ifs,0⟩] scope pos) 0 (.ref it) acc { cenv with scope:=relabel scope X.env }) (RR acc cenv.locals) s₄) E s₃) E s:=by
 obtain⟨W,⟨m0,w0⟩,turn⟩:=hq
 have hfs:∀ b∈fp,b<s.heap.objs.size:=fun b hb=>by
  obtain⟨o,e,_⟩:=T.obj 0 s.heap st b hb
  exact Heap.lt_size e
 refine wpAny_newObj_type (wpAny_newFunctionEnv O.cell (by intro y hy;simp at hy) (fun h₁ hns₁ hsb₁=>?_) O.kind)
 dsimp only at hns₁ hsb₁ ⊢
 generalize hH2:s.heap.push { cls:=.type "list",dict:=none,data:=.seq ([]:List Value).toArray }=g at hns₁ hsb₁ ⊢
 have hg:g=s.heap.push (LCg.lst []):=hH2.symm
 have hsz:g.objs.size=s.heap.objs.size+1:=by rw[hg,Heap.size_push]
 have hk:∀ b o,g.get? b=some o->h₁.get? b=some o:=fun b o e=>hsb₁.extBut b o (Jw (Heap.lt_size e)) (Heap.get?_push_of_some _ e)
 have kp:∀ b o,s.heap.get? b=some o->h₁.get? b=some o:=fun b o e=>hk b o (by rw[hg];exact Heap.get?_push_of_some _ e)
 have J0:=DM (h':=h₁) (tk:=s.toks+([]:List (Str×Value)).length) O I hf hfs hg hk hns₁
 have stat:∀{H':Hp}{us:List Value},(∀ b∈fp,H' b=none)->∀ b∈fp,FpOk (cxG X scope fr xs g.objs.size (s.heap.objs.size::fp) { s with heap:=g } H) (X.pn++pins++[(s.heap.objs.size,LCg.lst us)]) H' b:=fun{H' us} hn b hb=>by
  obtain⟨_,f1,f2,f3,f4,f5⟩:=hf b hb
  refine⟨hn b hb,?_,fun z=>(Ja.mp (I.stkSub b z)).elim f1 f2,.inl (Jk _ hb),fun y c e=>f4 y c (O.cells I e),fun p hp=>?_⟩
  ·show b≠g.objs.size
   rw[hsz];exact Jw (K0 (hfs b hb))
  ·rcases Jl.mp hp with hp | hp
   ·cases hp
   ·rcases Jl.mp hp with hp | hp
    ·exact f5 p hp
    ·have ep:p=(s.heap.objs.size,LCg.lst us):=by simpa using hp
     rw[ep]
     exact Kz (hfs b hb)
 have loop:codeAny (model X.prog X.w) X.A (.compLoop (.ListComp elt [⟨tg,iter,ifs,0⟩] scope pos) 0 (.ref it) (.ref s.heap.objs.size) (compEnvC scope (clOf X.env fr) g.objs.size X.env))
   (RR (.ref s.heap.objs.size) g.objs.size) { s with heap:=h₁,toks:=s.toks+([]:List (Str×Value)).length }:=by
  refine Ex (fun n s'=>∃ i ys us H',Inv (cxG X scope fr xs g.objs.size (s.heap.objs.size::fp) { s with heap:=g } H) (X.pn++pins++[(s.heap.objs.size,LCg.lst us)]) (nons xs++frOf fr σ) H' s'/\Vals ys us/\tn i s'.heap/\(∀ b∈fp,H' b=none)/\W i n ys H') ?_ m0
   ⟨0,[],[],H,J0,.nil,T.keep 0 s.heap h₁ st fun b _ o e=>kp b o e,fun b hb=>(hf b hb).1,w0⟩
  rintro n s3 ⟨i,ys,us,H3,J3,hv,st3,fr3,w3⟩
  obtain⟨hlen,hh⟩:=turn i n ys H3 w3
  have none_err:∀{α:Type}{t:Sem α}{Q:α->Shared->Prop}{E':Value->Shared->Prop}{s:Shared},wpAny (model X.prog X.w) X.A t Q (fun _ _=>False) s->wpAny (model X.prog X.w) X.A t Q E' s:=fun h=>wpAny_mono h (fun _ _ q=>q) fun _ _ z=>z.elim
  have weakN:∀{σ6:St},σ6.length=(nons xs++frOf fr σ).length->σ6.drop xs.length=frOf fr σ->∀(i:Nat) v,(nons xs++frOf fr σ)[i]?=some (some v)->σ6[i]?=some (some v):=fun{σ6} hl6 e6 i v e=>by
   by_cases hi:i<xs.length
   ·rw[Jb (by simpa using hi),Ky,if_pos hi]at e
    cases e
   ·rw[IZ (by simp;omega),← e6,LY]at e
    have:xs.length+(i-(nons xs).length)=i:=by simp;omega
    rw[this]at e
    exact e
  rcases hh with⟨stop,qn⟩ | ⟨go,N,hN,step⟩
  ·refine none_err (thn (T.done (cxG X scope fr xs g.objs.size (s.heap.objs.size::fp) { s with heap:=g } H) rfl rfl rfl hc i _ s3 _ H3 _ J3 (stat fr3) st3 stop) fun r s4 ⟨hr,J4⟩=>?_)
   subst hr
   obtain⟨I4,nD,fC,m,hn⟩:=uj I hf hg J4 hv hlen
   exact fin _ _ H3 ys s4 m I4 nD fC hn qn
  ·refine none_err (thn (T.item (cxG X scope fr xs g.objs.size (s.heap.objs.size::fp) { s with heap:=g } H) rfl rfl rfl hc i _ s3 _ H3 _ J3 (stat fr3) st3 go) fun r s4 ⟨u,hr,h4⟩=>?_)
   subst hr
   refine none_err (thn h4 fun _ s5 ⟨v,H5,J5,r5,y5,st5,fr5⟩=>?_)
   have J5':=J5.pinned (stat fr5) (T.obj _ _ st5)
   refine none_err (thn (hg0 _ _ _ _ _ s5 _ H5 v u _ J5' r5 (step v H5 y5)) fun _ s6 ⟨σ6,H6,J6,e6,q6⟩=>?_)
   refine none_err (thn (ht _ _ _ _ _ s6 σ6 H6 _ J6 q6) fun b s6' ⟨H6',J6',q6'⟩=>?_)
   have hl6:σ6.length=(nons xs++frOf fr σ).length:=J6.len.trans J3.len.symm
   cases b with
   |false =>
    rw[if_neg Jo]at q6' ⊢
    obtain⟨m',hm,w7⟩:=hN ys H6' q6'
    have pinF:∀ b∈fp,∀ o,s5.heap.get? b=some o->s6'.heap.get? b=some o/\H6' b=none:=fun b hb o e=>by
     obtain⟨q1,q2,_⟩:=J6'.pin (b,o) (Jc _ (Jc _ (cT hb e)))
     exact⟨q1,q2⟩
    refine⟨m',hm,i+1,ys,us,H6',J6'.unpinned.weak (σ':=nons xs++frOf fr σ) hl6.symm (weakN hl6 e6),hv,T.keep _ _ _ st5 fun b hb o e=>(pinF b hb o e).1,fun b hb=>?_,w7⟩
    obtain⟨o,e,_⟩:=T.obj _ _ st5 b hb
    exact(pinF b hb o e).2
   |true =>
    rw[if_pos rfl]at q6' ⊢
    refine none_err (thn (he _ _ _ _ _ s6' _ H6' _ J6' q6') fun u7 s7 ⟨v7,H7,J7,r7,q7⟩=>?_)
    obtain⟨m',hm,w7⟩:=hN _ H7 q7
    obtain⟨eD,nD,dC,dF,dd⟩:=J7.pin (s.heap.objs.size,LCg.lst us) (Jc _ (JG _ (Jc _ (by simp))))
    have hvl:=hv.length
    refine append_at (hsz:=by show us.toArray.size<=sizeLine;rw[JB,← hvl];exact hlen) eD fun h8 hs8 hD8=>?_
    have pinD:∀ p∈X.pn++pins,p.1≠s.heap.objs.size:=fun p hp z=>by
     have:=Heap.lt_size (I.pin p hp).1
     rw[z]at this
     exact Ke _ this
    have J7a:Inv (cxG X scope fr xs g.objs.size (s.heap.objs.size::fp) { s with heap:=g } H) (X.pn++pins) _ H7 s7:=J7.pins_of fun p hp=>J7.pin p (Jc _ (JG _ (JG _ hp)))
    have J8:Inv (cxG X scope fr xs g.objs.size (s.heap.objs.size::fp) { s with heap:=g } H) (X.pn++pins) _ H7 { s7 with heap:=h8 }:=J7a.turned (t':=s7.toks) (fun b o hb e=>(hs8.2 b hb).trans e) nD dC (.inl Jn) (fun y c e z=>by
     obtain⟨w',q⟩:=I.cell y c (O.cells I e)
     have:=q.lt
     rw[z]at this
     exact Ke _ this) (fun p hp=>(Jl.mp hp).elim (fun z=>by cases z) (pinD p))
    have J9:Inv (cxG X scope fr xs g.objs.size (s.heap.objs.size::fp) { s with heap:=g } H) (X.pn++pins++[(s.heap.objs.size,LCg.lst (us++[u7]))]) _ H7 { s7 with heap:=h8 }:=J8.pins_of fun p hp=>by
     rcases Jl.mp hp with hp | hp
     ·exact J8.pin p (Jc _ hp)
     ·have ep:p=(s.heap.objs.size,LCg.lst (us++[u7])):=by simpa using hp
      subst ep
      exact⟨hD8.trans (congrArg some (LCg.lst_snoc us u7)),nD,dC,dF,fun v z=>by cases z⟩
    have J10:=J9.weak (σ':=nons xs++frOf fr σ) hl6.symm (weakN hl6 e6)
    have pinF:∀ b∈fp,∀ o,s5.heap.get? b=some o->s7.heap.get? b=some o/\H7 b=none:=fun b hb o e=>by
     obtain⟨q1,q2,_⟩:=J7.pin (b,o) (Jc _ (Jc _ (cT hb e)))
     exact⟨q1,q2⟩
    refine⟨m',hm,i+1,ys++[v7],us++[u7],H7,J10,hv.append (.cons r7 .nil),T.keep _ _ _ st5 fun b hb o e=>(hs8.2 b (Jw (hfs b hb))).trans (pinF b hb o e).1,fun b hb=>?_,w7⟩
    obtain⟨o,e,_⟩:=T.obj _ _ st5 b hb
    exact(pinF b hb o e).2
 exact codeAny_compStart_list loop (T.self X.A 0 _ _ _ (T.keep 0 s.heap h₁ st fun b _ o e=>kp b o e) loop)
def tCompE(wi:TI)(g:TG)(tt:TT)(te:TE)(n:Nat)(fr:List (Str×Nat)):TE:=fun σ H Q=>wi σ H fun J H1=>ve g tt te n (frOf fr σ) J H1 fun ys H2=>∀ D,H2 D=none->Q (.ref D) (upd H2 D (.lst ys))
theorem Ap(hc:X.calm=true)(O:qg X scope fr xs)(hi:PI X tg iter wi)(hg0:∀ C ex s H,PG (cxG X scope fr xs C ex s H) tg tgt)(ht:∀ C ex s H,PTs (cxG X scope fr xs C ex s H) ifs tt)(he:∀ C ex s H,PE (cxG X scope fr xs C ex s H) elt te)(hs:∀ x,foldedSetIterable iter X.env x=pure x:=by intro _;rfl) :
  PE X (.ListComp elt [⟨tg,iter,ifs,0⟩] scope pos) (tCompE wi tgt tt te xs.length fr):=by
 intro pins s σ H Q I h
 rw[eval_ListComp]
 refine wpAny_comprehension_free (use:=none) rfl hs O.clos O.kind O.names (thn (hi pins s σ H _ I h) fun xv s1 h1=>thn h1 fun itv s2 h2=>?_)
 obtain⟨it,fp,tn,J,H2,e,I2,T,st2,f2,q2⟩:=h2
 subst e
 refine rQ (RR:=fun acc C=>compPost (model X.prog X.w) X.A X.xe none (EP X pins σ Q) acc C) hc O hg0 ht he I2 T st2 f2 q2 ?_
 intro D C H4 ys s4 m I4 nD fC hn q4
 refine⟨m,hn,fun h' hs'=>?_⟩
 obtain⟨g0,g1,g2,g3,g4,g5⟩:=fC
 exact⟨.ref D,_,I4.turned (t':=s4.toks) (fun b o hb e=>(hs'.2 b hb).trans e) g0 g1 g3 g4 g5,rfl,q4 D nD⟩
def Cm(i:Nat)(wi:TI)(g:TG)(tt:TT)(te:TE)(n:Nat)(fr:List (Str×Nat)):TS:=fun D σ H=>wi σ H fun J H1=>ve g tt te n (frOf fr σ) J H1 fun ys H2=>∀ a,H2 a=none->D.nx (σ.set i (some (.ref a))) (upd H2 a (.lst ys))
theorem xX{i:Nat}{y:Str}{py spos:Pos}(hc:X.calm=true)(hN:X.N.Nodup)(hi':X.N[i]?=some y)(hy:X.env.scope.names.lookup y=some .local)(O:qg X scope fr xs)(hi:PI X tg iter wi)(hg0:∀ C ex s H,PG (cxG X scope fr xs C ex s H) tg tgt)(ht:∀ C ex s H,PTs (cxG X scope fr xs C ex s H) ifs tt)(he:∀ C ex s H,PE (cxG X scope fr xs C ex s H) elt te)
  (hsw:swapsWith (.ListComp elt [⟨tg,iter,ifs,0⟩] scope pos) (some (.Name y py)) spos.line X.env=pure true:=by rfl) (hs:∀ x,foldedSetIterable iter X.env x=pure x:=by intro _;rfl) :
  PS X (.Assign [.Name y py] (.ListComp elt [⟨tg,iter,ifs,0⟩] scope pos) spos) (Cm i wi tgt tt te xs.length fr):=by
 intro pins s σ H D I h
 rw[exec_Assign_Name_used _ _ _ _ hsw]
 refine wpAny_bind (wpAny_standAt (wpAny_bind ?_))
 show wpAny _ X.A (do let _ ← comprehension (.ListComp elt [⟨tg,iter,ifs,0⟩] scope pos) scope X.env _ (newList []) false (eval iter X.env) (some (assign (.Name y py) X.env))) _ _ s
 refine wpAny_bind (thn (wpAny_comprehension_free (use:=some (assign (.Name y py) X.env)) (Q:=fun _ s'=>SP X pins D .next s') rfl hs O.clos O.kind O.names (thn (hi pins s σ H _ I h) fun xv s1 h1=>thn h1 fun itv s2 h2=>?_)) fun _ s' hq=>wpAny_pure (wpAny_pure hq))
 obtain⟨it,fp,tn,J,H2,e,I2,T,st2,f2,q2⟩:=h2
 subst e
 refine rQ (RR:=fun acc C=>compPost (model X.prog X.w) X.A X.xe (some (assign (.Name y py) X.env)) (fun _ s'=>SP X pins D .next s') acc C) hc O hg0 ht he I2 T st2 f2 q2 ?_
 intro a C H4 ys s4 m I4 nD fC hn q4
 obtain⟨g0,g1,g2,g3,g4,g5⟩:=fC
 obtain⟨oC,eC,hoC⟩:=LCg.ns_obj hn
 have I5:Inv X (pins++[(C,oC)]) σ (upd H4 a (.lst ys)) s4:=I4.pins_of fun p hp=>by
  rcases Jl.mp hp with hp | hp
  ·exact I4.pin p (Jc _ hp)
  ·have ep:p=(C,oC):=by simpa using hp
   subst ep
   obtain⟨es,epp,hd,_⟩:=hoC
   exact⟨eC,g0,g1,g2,fun v z=>by rw[hd]at z;cases z⟩
 show wpAny _ X.A (assign (.Name y py) X.env (.ref a)) _ _ _
 refine wpAny_assign_Name (kE I5 hN hi' (.inl hy) (v:=.ref a) rfl (fun s6 I6=>?_) (.inr hy))
 obtain⟨e6,_⟩:=I6.pin (C,oC) (Jc _ (Jc _ (by simp)))
 refine⟨m,hoC.ns e6,fun h' hs'=>?_⟩
 exact⟨_,_,I6.unpinned.turned (t':=s6.toks) (fun b o hb e=>(hs'.2 b hb).trans e) g0 g1 g3 g4 g5,q4 a nD⟩
end
theorem rR{K:IT}{a:Addr}{xs:List V}{g:TG}{tt:TT}{te:TE}{n:Nat}{fv:St}{H1:Hp}{QQ:List V->Hp->Prop}(Pv:Nat->List V->Hp->Prop)(hz:xs.length<=sizeLine)(h0:Pv 0 [] H1)(hl:∀ i ys H,i<=xs.length->Pv i ys H->SqL K H a xs)
  (hs:∀ i x ys H,xs[i]?=some x->Pv i ys H->g x (JW n none++fv) H fun σ2 H2=>σ2.drop n=fv/\tt σ2 H2 fun b H3=>if b=true then te σ2 H3 (fun y H4=>Pv (i+1) (ys++[y]) H4) else Pv (i+1) ys H3) (hd:∀ ys H,Pv xs.length ys H->QQ ys H) (hy:∀ i ys H,Pv i ys H->ys.length<=i)
  : ve g tt te n fv (Itl K a) H1 QQ:=by
 refine⟨fun i m ys H=>m=xs.length-i/\i<=xs.length/\Pv i ys H,⟨xs.length,by simp,Kc _,h0⟩,?_⟩
 rintro i m ys H ⟨rfl,hi,p⟩
 have q:=hl i ys H hi p
 have hyl:=hy i ys H p
 refine⟨by omega,?_⟩
 by_cases hlt:i<xs.length
 ·refine .inr ⟨⟨xs,xs[i],q,by simp[hlt]⟩,fun zs H2=>Pv (i+1) zs H2,fun zs H2 p2=>⟨xs.length-(i+1),by omega,rfl,hlt,p2⟩,fun x H' y=>?_⟩
  obtain⟨e,y⟩:=y
  subst e
  exact hs i x ys _ (y xs q) p
 ·have e:i=xs.length:=by omega
  subst e
  exact .inl ⟨⟨xs,q,IY _⟩,hd ys H p⟩
theorem zK{lo:Int}{k:Nat}{g:TG}{tt:TT}{te:TE}{n:Nat}{fv:St}{H1:Hp}{QQ:List V->Hp->Prop}(Pv:Nat->List V->Hp->Prop)(hz:k<=sizeLine)(h0:Pv 0 [] H1)
  (hs:∀ i ys H,i<k->Pv i ys H->g (.int (lo+i)) (JW n none++fv) H fun σ2 H2=>σ2.drop n=fv/\tt σ2 H2 fun b H3=>if b=true then te σ2 H3 (fun y H4=>Pv (i+1) (ys++[y]) H4) else Pv (i+1) ys H3) (hd:∀ ys H,Pv k ys H->QQ ys H) (hy:∀ i ys H,Pv i ys H->ys.length<=i)
  : ve g tt te n fv (Itr lo k) H1 QQ:=by
 refine⟨fun i m ys H=>m=k-i/\i<=k/\Pv i ys H,⟨k,by simp,Kc _,h0⟩,?_⟩
 rintro i m ys H ⟨rfl,hi,p⟩
 have hyl:=hy i ys H p
 refine⟨by omega,?_⟩
 by_cases hlt:i<k
 ·refine .inr ⟨hlt,fun zs H2=>Pv (i+1) zs H2,fun zs H2 p2=>⟨k-(i+1),by omega,rfl,hlt,p2⟩,fun x H' y=>?_⟩
  obtain⟨e,y⟩:=y
  subst e y
  exact hs i ys _ hlt p
 ·have e:i=k:=by omega
  subst e
  exact .inl ⟨IY _,hd ys H p⟩
end L2
namespace L2
open PySem PySem.Spec PyProof.Rows
section
variable{X:Cx}{K:IT}{pos:Pos}
theorem AF(h:X.K=K):IxR X (rIxL K):=h▸a9
theorem o5(h:X.K=K):IxR X (rIxT K):=h▸bT
theorem BU(h:X.K=K):ku X (.type "list") (fun xs H Q=>∃ p ys,xs = [.ref p]/\(SqL K H p ys∨SqT K H p ys)/\∀ l,H l=none->Q (.ref l) (upd H l (.lst ys))):=h▸iD
theorem tE{e:Expr}{f:Str}{ta:TE}(h:X.K=K)(he:PE X e ta)(hb:attributeBase e f X.env (eval e X.env)=eval e X.env):PE X (.Attribute e f pos) (tFld K ta f):=h▸cp he hb
end
end L2
namespace L2
open PySem PySem.Spec PyProof.Rows
section
variable{X:Cx}
theorem kS:∀{ns:List Int}{us:List Value},Vals (ns.map V.int) us->IntsAre us ns
 |[],_,.nil=>.nil
 |n::ns,_,.cons r rr=>by
  obtain⟨t,rfl⟩:=r
  exact .cons n t (kS rr)
theorem lp(hc:X.calm=true):ku X (.builtin "sum") (fun xs H Q=>∃(p:Addr)(ns:List Int),xs = [.ref p]/\SqL X.K H p (ns.map V.int)/\Q (.int ns.sum) H):=by
 intro pins s σ H xs us Q I r h
 obtain⟨p,ns,rfl,hq,q⟩:=h
 obtain⟨u,rfl,ru⟩:=vb r
 cases ru
 obtain⟨its,rv,pl,hz⟩:=I.list hq
 have hi:=kS rv
 obtain⟨zs,e⟩:=hi.allInts.items
 have hns:(numsOf its)=ns:=hi.numsOf
 have hl:s.heap.IsList p (intItems zs):=by rw[← e];exact pl.isList
 refine sum_intListG (I.ok.hd hc) hl fun h' tk t' hk=>⟨.int ns.sum,H,I.kept (t':=tk) hk,⟨t',?_⟩,q⟩
 have h2:numsOf (intItems zs).toList=ns:=by rw[← e];exact hns
 rw[nums_intItems]at h2
 rw[preSum_eq,JQ (by simp),← h2]
end
end L2
namespace L2
open PySem PySem.Spec PyProof.Rows
theorem n8:∀{ps:List Nat},(∀ p∈ps,p<1000)->PyData.weightAll ((ps.map fun(p:Nat)=>((p:Nat):Int)).map PyData.int)<=12*ps.length
 |[],_=>by simp[PyData.weightAll]
 |p::ps,h=>by
  have ih:=n8 (ps:=ps) fun x hx=>h x (Jk _ hx)
  have hp:=h p (by simp)
  have hw:PyData.weight (.int (p:Int))<=11:=by
   rw[PyData.weight]
   split
   ·exact Kc _
   ·rename_i z
    have z':p≠0:=fun e=>z (by rw[e];rfl)
    have e:((p:Int)).natAbs=p:=rfl
    rw[e]
    have:=(Nat.log2_lt z').mpr (show p<2^10 by omega)
    omega
  rw[JJ,JJ,PyData.weightAll,JL]
  omega
theorem FJ{ps:List Nat}(h:∀ p∈ps,p<1000)(hl:ps.length<=1000):PyData.layable0 (.list ((ps.map fun(p:Nat)=>((p:Nat):Int)).map PyData.int))=true:=by
 have h1:=PySem.W.shaped_ints (ps.map fun(p:Nat)=>((p:Nat):Int))
 have h2:=n8 h
 have h3:PyData.weight (.list ((ps.map fun(p:Nat)=>((p:Nat):Int)).map PyData.int))<=2^20:=by
  rw[PyData.weight];omega +splitDisjunctions
 unfold PyData.layable0
 unfold SeqAt.shaped at h1
 rw[h1,decide_eq_true h3]
 rfl
section
variable{X:Cx}
def rIndex(K:IT):V->List V->Hp->VK->Prop:=fun x vs H Q=>∃(l:Addr)(ps:List Nat)(k:Nat),x=.ref l/\vs = [.int (k:Int)]/\SqL K H l (ps.map fun(p:Nat)=>V.int (p:Int))/\(∀ p∈ps,p<1000)/\ps.length<=1000/\k∈ps/\Q (.int ((ps.idxOf k:Nat):Int)) H
theorem FT{ps:List Nat}{k:Nat}:(ps.map fun(p:Nat)=>((p:Nat):Int)).idxOf (k:Int)=ps.idxOf k:=by
 induction ps with
 |nil=>rfl
 |cons p ps ih =>
  rw[JJ,List.idxOf_cons,List.idxOf_cons,ih]
  have e:(((p:Nat):Int) == (k:Int))=(p == k):=by
   by_cases h:p=k
   ·subst h;simp
   ·have h2:¬ (p:Int)=(k:Int):=fun z=>h (by omega)
    rw[beq_eq_false_iff_ne.mpr h,beq_eq_false_iff_ne.mpr h2]
  rw[e]
theorem FF:MtM X "list.index" (rIndex X.K):=by
 intro pins s σ H x vs v us Q I rx rv h
 obtain⟨l,ps,k,rfl,rfl,hq,hs,hl,hk,q⟩:=h
 cases rx
 obtain⟨u,rfl,ru⟩:=rv.one
 obtain⟨t,rfl⟩:=ru
 have e:(ps.map fun(p:Nat)=>V.int (p:Int))=(ps.map fun(p:Nat)=>((p:Nat):Int)).map V.int:=by rw[Km];rfl
 rw[e]at hq
 obtain⟨its,r,pl,hz⟩:=I.list hq
 refine index_list_ints pl.isList (kS r) (FJ hs hl) (Jj.mpr ⟨k,hk,rfl⟩) ?_
 rw[FT]
 exact⟨.int _,H,I.tok _,⟨_,rfl⟩,q⟩
end
end L2
namespace L2
open PySem PySem.Spec PyProof.Rows
theorem xu:∀{us:List Value}{ns:List Int},IntsAre us ns->Vals (ns.map V.int) us
 |_,_,.nil=>.nil
 |_,_,.cons _ t r=>.cons ⟨t,rfl⟩ (xu r)
section
variable{X:Cx}
def CU(K:IT):List V->Hp->VK->Prop:=fun xs H Q=>∃(p:Addr)(ns:List Int),xs = [.ref p]/\SqL K H p (ns.map V.int)/\ns.length<64/\∀(l:Addr)(out:List Int),H l=none->out.Perm ns->out.Pairwise (·<=·)->Q (.ref l) (upd H l (.lst (out.map V.int)))
theorem pL:ku X (.builtin "sorted") (CU X.K):=by
 intro pins s σ H xs us Q I r h
 obtain⟨p,ns,rfl,hq,h64,q⟩:=h
 obtain⟨u,rfl,ru⟩:=vb r
 cases ru
 obtain⟨its,rv,pl,hz⟩:=I.list hq
 have hi:=kS rv
 have hl:=rv.length
 rw[IV]at hl
 refine sorted_ints pl.isList hi (by omega) fun out ns' a1 a2 a3=>?_
 obtain⟨e,he⟩:=sortedAll_at s.heap its out
 refine⟨.ref (s.heap.objs.size+1),_,I.laid (t':=s.toks) (fun _ _=>sortedAll_old) (Ld _) (show br X.prog X.w _ _ _ (.lst (ns'.map V.int)) from⟨?_,out.toList,e,xu a1,?_⟩),rfl,q _ ns' (I.hok.fresh (Ld _)) a2 a3⟩
 ·rw[IV,a2.length_eq]
  exact JT (aw (by omega))
 ·exact he
theorem wR{K:IT}(h:X.K=K):ku X (.builtin "sorted") (CU K):=h▸pL
end
end L2
namespace L2
open PySem PySem.Spec PyProof.Rows
section
variable{X:Cx}{tg:Expr}
end
end L2
namespace L2
open PySem PySem.Spec PyProof.Rows
theorem bt_max:bootBuiltins "max" = some (.builtin "max"):=by decide +kernel
section
variable{X:Cx}
def rCatS(K:IT):R2:=fun x y H Q=>∃ l b xs zs,x=.ref l/\y=.ref b/\SqL K H l xs/\SqL K H b zs/\xs.length+zs.length<=sizeLine/\∀ p,H p=none->Q (.ref p) (upd H p (.lst (xs++zs)))
theorem tG:OpR X (binaryOp .Add) (rCatS X.K):=by
 intro pins s σ H x y v u Q I rx ry h
 obtain⟨l,b,xs,zs,rfl,rfl,hH,hB,hz,q⟩:=h
 cases rx
 cases ry
 obtain⟨its,r,pl,_⟩:=I.list hH
 obtain⟨its2,r2,pl2,_⟩:=I.list hB
 obtain⟨⟨cls,dd,data,sl⟩,ho,hc,n,hd⟩:=pl.isList
 obtain⟨⟨cls2,dd2,data2,sl2⟩,ho2,hc2,n2,hd2⟩:=pl2.isList
 simp only at hc hd hc2 hd2
 subst hc hd hc2 hd2
 have ea:its.toArray++its2.toArray=(its++its2).toArray:=by simp
 have e1:=r.length
 have e2:=r2.length
 refine concat_meets ⟨_,ho,rfl⟩ ⟨_,ho2,rfl⟩ noFill_list_add seq_list_add PySem.F.slot_list_add PySem.F.entry_list_add (PySem.F.args_list_add_2 _ _) (list_addW l b its.toArray its2.toArray n n2 dd dd2 sl sl2 (by rw[JB,JB];omega)) ⟨ho,ho2,?_⟩
 rw[ea]
 exact⟨.ref _,_,I.lnew (t':=s.toks) (r.append r2) (by rw[IX];omega),rfl,q _ I.fresh⟩
theorem Ax:∀{ns:List Int}{us:List Value},Vals (ns.map V.int) us->IntsAre us ns
 |[],_,.nil=>.nil
 |n::ns,_,.cons r rr=>by
  obtain⟨t,rfl⟩:=r
  exact .cons n t (Ax rr)
end
end L2
namespace L2
open PySem PySem.Spec PyProof.Rows
theorem wU:bootBuiltins "sum" = some (.builtin "sum"):=by decide +kernel
theorem bt_zip:bootBuiltins "zip" = some (.type "zip"):=by decide +kernel
theorem aS(x y:Nat)(h:¬ x=y):@Ne Addr x y:=h
section
variable{X:Cx}
end
section
variable{X:Cx}
def rMinL(K:IT):List V->Hp->VK->Prop:=fun xs H Q=>∃(p:Addr)(ns:List Int),xs = [.ref p]/\SqL K H p (ns.map V.int)/\0<ns.length/\∀ m:Int,m∈ns->(∀ x∈ns,m<=x)->Q (.int m) H
theorem ED(hc:X.calm=true):ku X (.builtin "min") (rMinL X.K):=by
 intro pins s σ H xs us Q I r h
 obtain⟨p,ns,rfl,hq,hne,q⟩:=h
 obtain⟨u,rfl,ru⟩:=vb r
 cases ru
 obtain⟨its,rv,pl,hz⟩:=I.list hq
 have hi:=Ax rv
 obtain⟨zs,e⟩:=hi.allInts.items
 have hl:s.heap.IsList p (intItems zs):=by rw[← e];exact pl.isList
 have e1:ns=zs.toList.map (·.1):=by
  rw[← nums_intItems,← e]
  exact(show numsOf its.toArray.toList=ns from hi.numsOf).symm
 subst e1
 rw[IV,Kf]at hne
 refine min_intList (I.ok.hd hc) hl hne fun v h' tk hv hk=>?_
 obtain⟨t,rfl⟩:=intItems_at hv
 obtain⟨h1,h2⟩:=argBest_lt (numAt zs) (zs.size-1)
 refine⟨.int _,H,I.kept (t':=tk) hk,⟨t,rfl⟩,q _ ?_ fun a ha=>?_⟩
 ·rw[numAt_eq];exact PySem.getD_mem (by rw[IV,Kf];omega)
 ·obtain⟨j,hj,rfl⟩:=PySem.mem_getD ha
  rw[IV,Kf]at hj
  rw[← numAt_eq];exact h2 j (by omega)
end
end L2
namespace L2
open PySem PySem.Spec PyProof.Rows
def LsAt{α:Type}(R:Hp->V->α->Prop)(H:Hp)(ys:List V)(xs:List α):Prop:=ys.length=xs.length/\∀(i:Nat)(x:α),xs[i]?=some x->∃ y,ys[i]?=some y/\R H y x
theorem LsAt.nil{α:Type}{R:Hp->V->α->Prop}{H:Hp}:LsAt R H [] []:=⟨rfl,fun i x e=>by simp at e⟩
theorem LsAt.imp{α:Type}{R R':Hp->V->α->Prop}{H H':Hp}{ys:List V}{xs:List α}(h:LsAt R H ys xs)(m:∀ y x,R H y x->R' H' y x):LsAt R' H' ys xs:=⟨h.1,fun i x e=>by
 obtain⟨y,a,b⟩:=h.2 i x e
 exact⟨y,a,m y x b⟩⟩
theorem LsAt.snoc{α:Type}{R:Hp->V->α->Prop}{H:Hp}{ys:List V}{xs:List α}{y:V}{x:α}(h:LsAt R H ys xs)(r:R H y x):LsAt R H (ys++[y]) (xs++[x]):=by
 refine⟨by rw[IX,IX,h.1];rfl,fun j k e=>?_⟩
 by_cases hj:j<xs.length
 ·rw[Jb hj]at e
  obtain⟨p,a1,a2⟩:=h.2 j k e
  exact⟨p,by rw[Jb (by rw[h.1];exact hj)];exact a1,a2⟩
 ·rw[IZ (by omega)]at e
  have hj2:j=xs.length:=by
   have:=(IS.mp e).1
   rw[Jg]at this
   omega
  subst hj2
  rw[JC]at e
  cases e
  exact⟨y,by rw[← h.1,IZ (IY _),JC];rfl,r⟩
theorem LsAt.get{α:Type}{R:Hp->V->α->Prop}{H:Hp}{ys:List V}{xs:List α}{i:Nat}{y:V}(h:LsAt R H ys xs)(e:ys[i]?=some y):∃ x,xs[i]?=some x/\R H y x:=by
 have hi:i<xs.length:=by rw[← h.1];exact(IS.mp e).1
 obtain⟨z,a,b⟩:=h.2 i _ (IU hi)
 rw[e]at a
 cases a
 exact⟨_,IU hi,b⟩
end L2
namespace L2
open PySem PySem.Spec PyProof.Rows
theorem Cb:∀{ys:List V}{us:List Value},ys.length=us.length->(∀(i:Nat)(y:V)(u:Value),ys[i]?=some y->us[i]?=some u->RelV y u)->Vals ys us
 |[],[],_,_=>.nil
 |[],_::_,e,_=>by cases e
 |_::_,[],e,_=>by cases e
 |y::ys,u::us,e,h=>.cons (h 0 y u rfl rfl) (Cb (Mc e) fun i y u a b=>h (i+1) y u a b)
section
variable{X:Cx}
theorem mR{e:Expr}{te:TE}{p p2 pos pos2:Pos}(hc:X.calm=true) (hg:Gl X "list") (hm:X.mg "list" = none) (hg2:Gl X "range") (hm2:X.mg "range" = none) (he:PE X e te)
  (h1:starEach [.Call (.Name "range" p2) [e] [] pos2] X.env = [(false,eval (.Call (.Name "range" p2) [e] [] pos2) X.env)]:=by rfl) (h2:starEach [e] X.env=(false,eval e X.env)::starEach [] X.env:=by rfl) :
  PE X (.Call (.Name "list" p) [.Call (.Name "range" p2) [e] [] pos2] [] pos) (fun σ H Q=>te σ H fun x H1=>∃ n:Nat,x=.int (n:Int)/\n<=1000/\∀ q,H1 q=none->Q (.ref q) (upd H1 q (.lst ((Ju n).map fun(i:Nat)=>V.int ((i:Nat):Int))))):=by
 intro pins s σ H Q I h
 refine wpAny_Call_Name_kw (mS I hg hm mB ?_)
 refine PyProof.Rows.callWith_type1 ?_ h1 rfl
 rw[h1]
 refine Calls.spliced_cons ?_
 refine wpAny_Call_Name_kw (mS I hg2 hm2 boot_range ?_)
 refine PyProof.Rows.callWith_type1 ?_ h2 rfl
 rw[h2]
 refine Calls.spliced_cons (thn (he pins s σ H _ I h) fun u s1 ⟨x,H1,I1,r1,q1⟩=>?_)
 obtain⟨n,rfl,hn,q⟩:=q1
 obtain⟨t,rfl⟩:=r1
 refine Calls.spliced_nil ?_
 refine call_range_1 ?_
 refine Calls.spliced_nil ?_
 have I2:Inv X pins σ H1 { s1 with heap:=s1.heap.push { cls:=.type "range",data:=.fields #[.int 0 s1.toks,.int (n:Int) t,.int 1 (s1.toks+1)] },toks:=s1.toks+1+1 }:=I1.kept fun b o e=>Heap.get?_push_of_some _ e
 refine call_list_range (n:=n) (I.ok.hd hc) (IsRange.new ..) (small_one (by omega) (by omega) (by omega) (by omega)) (by rw[rangeSize_one];split<;>omega) (by omega) fun h' tk acc' c' hk hS hacc=>?_
 have I3:Inv X pins σ H1 { s1 with heap:=h',toks:=tk }:=I2.kept (t':=tk) fun b o e=>hk b o e
 have fS:=I2.fpOk (H':=H1) (IY _) (I2.hok.fresh (IY _))
 have hz:((Ju n).map fun(i:Nat)=>V.int ((i:Nat):Int)).length<=sizeLine:=by
  rw[IV,JH]
  exact JS hn (by decide)
 have hv:Vals ((Ju n).map fun(i:Nat)=>V.int ((i:Nat):Int)) acc'.toList:=by
  refine Cb (by rw[IV,JH,Kf,hacc.1]) fun i y u a b=>?_
  rw[Lk]at b
  obtain⟨tk',e⟩:=hacc.2 i u b
  rw[Je]at a
  obtain⟨j,a1,a2⟩:=Jv.mp a
  have hi:i<n:=by
   have:=(IS.mp a1).1
   rwa[JH]at this
  rw[Ls hi]at a1
  cases a1
  subst a2
  subst e
  exact⟨tk',by rw[KA,Int.mul_one]⟩
 have I4:=I3.track (o:=.lst ((Ju n).map fun(i:Nat)=>V.int ((i:Nat):Int))) fS ⟨hz,acc'.toList,c',hv,by rw[Array.toArray_toList];exact hS⟩
 exact⟨.ref _,_,I4,rfl,q _ fS.1⟩
theorem op_neG(hu:X.A.units+64<cLine):OpR X (compareOp .NotEq) (fun x y H Q=>∃ d1 d2,RdD X.K H x d1/\RdD X.K H y d2/\SeqAt.shaped d1=true/\SeqAt.shaped d2=true/\Q (.bl (!PyData.eqv d1 d2)) H):=by
 intro pins s σ H x y v u Q I rx ry h
 obtain⟨d1,d2,r1,r2,h1,h2,q⟩:=h
 obtain⟨as,q1⟩:=r1.reads I v rx
 obtain⟨bs,q2⟩:=r2.reads I u ry
 exact ne_dataH q1 q2 h1 h2 hu ⟨.bl _,H,I,rfl,q⟩
theorem o8:∀(a b:List Int),PyData.eqvAll (a.map PyData.int) (b.map PyData.int)=decide (a=b)
 |[],[]=>by simp[PyData.eqvAll]
 |[],y::b=>by simp[PyData.eqvAll]
 |x::a,[]=>by simp[PyData.eqvAll]
 |x::a,y::b=>by
  rw[JJ,JJ]
  simp only[PyData.eqvAll,PyData.eqv,o8 a b]
  by_cases h:x=y
  ·by_cases h2:a=b
   ·simp[h,h2]
   ·simp[h,h2]
  ·simp[h]
theorem F3(a b:List Int):PyData.eqv (.list (a.map PyData.int)) (.list (b.map PyData.int))=decide (a=b):=by
 rw[← o8]
 simp only[PyData.eqv]
end
theorem ky{α:Type}{M:Model}{A:Around}{s:Shared}{t:Sem α}{Q:α->Shared->Prop}{E:Value->Shared->Prop}(h:wpAny M A t Q (fun _ _=>False) s):wpAny M A t Q E s:=wpAny_mono h (fun _ _ q=>q) fun _ _ z=>False.elim z
section
variable{X:Cx}{tg:Expr}
theorem Hs{iter:Expr}{body:List Stmt}{wi:TI}{g:TG}{tb:TS}{pos:Pos}(hc:X.calm=true)(hi:PI X tg iter wi)(hg:PG X.nox tg g)(hb:PSs X.nox body tb)
  (hs:∀ x,foldedSetIterable iter X.env x=pure x:=by intro _;rfl):PS X (.For tg iter body [] pos) (tFor wi g tb):=by
 intro pins s σ H D I h
 refine wpAny_For (thn (hi pins s σ H _ I h) fun v s1 h1=>thn h1 fun itv s2 h2=>?_) hs
 obtain⟨it,fp,tn,J,H2,e,I2,T,st2,f2,W,⟨m0,w0⟩,turn⟩:=h2
 subst e
 have stat:∀{H':Hp},(∀ b∈fp,H' b=none)->∀ b∈fp,FpOk X pins H' b:=fun hn b hb=>⟨hn b hb,(f2 b hb).2⟩
 refine codeAny_forLoop_any (fun n s'=>∃ i σ' H',Inv X pins σ' H' s'/\tn i s'.heap/\(∀ b∈fp,H' b=none)/\W i n σ' H') ?_ m0 ⟨0,σ,H2,I2,st2,fun b hb=>(f2 b hb).1,w0⟩
 rintro n s3 ⟨i,σ3,H3,I3,st3,fr3,w3⟩
 rcases turn i n σ3 H3 w3 with⟨stop,qn⟩ | ⟨go,N,hN,step⟩
 ·refine ky (thn (T.done X rfl rfl rfl hc i pins s3 σ3 H3 (fun _ _=>False) I3 (stat fr3) st3 stop) fun r s4 ⟨hr,I4⟩=>?_)
  subst hr
  exact wpAny_execs_nil ⟨σ3,H3,I4,qn⟩
 ·refine ky (thn (T.item X rfl rfl rfl hc i pins s3 σ3 H3 (fun _ _=>False) I3 (stat fr3) st3 go) fun r s4 ⟨u,hr,h4⟩=>?_)
  subst hr
  refine ky (thn h4 fun _ s5 ⟨x,H5,I5,r5,y5,st5,fr5⟩=>?_)
  have I5':=I5.pinned (stat fr5) (T.obj _ _ st5)
  refine ky (thn (hg _ s5 σ3 H5 x u _ (I5'.wish _) r5 (step x H5 y5)) fun _ s6 ⟨σ6,H6,I6,q6⟩=>?_)
  refine ky (thn (hb _ s6 σ6 H6 _ I6 q6) fun f s7 q7=>?_)
  replace q7:=SP.unwish q7
  have again:∀{σ7:St}{H7:Hp},Inv X (pins++rK fp s5.heap) σ7 H7 s7->N σ7 H7->∃ m,m<n/\∃ i σ' H',Inv X pins σ' H' s7/\tn i s7.heap/\(∀ b∈fp,H' b=none)/\W i m σ' H':=fun{σ7 H7} I7 n7=>by
   obtain⟨m',hm,w7⟩:=hN σ7 H7 n7
   refine⟨m',hm,i+1,σ7,H7,I7.unpinned,T.keep _ _ _ st5 fun b hb o e=>(I7.pin (b,o) (Jc _ (Jc _ (cT hb e)))).1,fun b hb=>?_,w7⟩
   obtain⟨o,e,d⟩:=T.obj _ _ st5 b hb
   exact(I7.pin (b,o) (Jc _ (Jc _ (cT hb e)))).2.1
  cases f with
  |next=>obtain⟨σ7,H7,I7,n7⟩:=q7;exact again I7 n7
  |cont=>obtain⟨σ7,H7,I7,n7⟩:=q7;exact again I7 n7
  |brk=>obtain⟨σ7,H7,I7,q7⟩:=q7;exact⟨σ7,H7,I7.unpinned,q7⟩
  |ret v=>obtain⟨x7,σ7,H7,I7,r7,q7⟩:=q7;exact⟨x7,σ7,H7,I7.unpinned,r7,q7⟩
end
structure FunD(K:IT)(x qual:Str)(st:Stmt)(f:Addr)(fd:FuncData)(items:Array Value):Prop where
 ex:∃(oc:Value)(od:Option Addr)(d:Addr)(kV doc pm:Value)(an:Option Addr)(cdv ct:Value)(osl:Array (Option Value)),
  fd=Ji x qual (ay st) (au st) (ag st) (.ref d) kV doc pm an cdv ct/\K.lookup f=some ⟨oc,od,.func fd,osl⟩/\Jh K cdv qual=true/\∃ o n,K.lookup d=some o/\o.data=.seq items n
 kp:Jd K (.ref f)=true
section
variable{P:Program}{w:World}{K:IT}{mg:Str->Option Value}{base:Heap}
theorem FunD.okX{x qual:Str}{st:Stmt}{f:Addr}{fd:FuncData}{items:Array Value}{N ps:List Str}{k:Nat}{sp:Sp}(F:FunD K x qual st f fd items)(S:aB N ps (ag st))(len:∀ vs H Q E,sp vs H Q E->vs.length=ps.length)
  (hbody:∀(cdv:Value)(A:Around)(outer:List Env)(s:Shared)(H:Hp)(vs:List V)(Q:VK)(E:XK),Room k (A.deeper (envOfC qual (ag st) s.heap.objs.size f cdv))->sp vs H Q E ->
   ∃ t,PSs (cxOf (CXr P w) P w K mg base N qual (ag st) f cdv A outer s H E) (au st) t/\t { nx:=fun _ H'=>Q .non H',rt:=Q } (qj N vs) H):FnOk P w K mg base (CXr P w) (k+1) f fd ps sp:=by
 obtain⟨oc,od,d,kV,doc,pm,an,cdv,ct,osl,rfl,lk,hcd,_⟩:=F.ex
 exact Iu lk hcd S len fun A outer s H vs Q E hr hsp=>hbody cdv A outer s H vs Q E hr hsp
theorem FunD.binds{x qual:Str}{st:Stmt}{f:Addr}{fd:FuncData}{items:Array Value}{ps:List Str}{ds:List Value}(F:FunD K x qual st f fd items)
  (h:∀(dV kV doc pm:Value)(an:Option Addr)(cdv ct:Value)(us:List Value),(us++ds).length=ps.length->∃ k,bindArgs (Ji x qual (ay st) (au st) (ag st) dV kV doc pm an cdv ct) ⟨us,[]⟩=seqItems? dV >>= k/\k (some items)=pure (ps.zip (us++ds))):iR K fd ps ds:=by
 obtain⟨oc,od,d,kV,doc,pm,an,cdv,ct,osl,rfl,lk,hcd,o,n,ho,hs⟩:=F.ex
 intro s us X hl
 obtain⟨k,h1,h2⟩:=h (.ref d) kV doc pm an cdv ct us hl
 exact BindsTo.of_defaults rfl (X _ _ ho) hs h1 h2
theorem zg{x qual:Str}{st:Stmt}{f d:Addr}{oc:Value}{od an:Option Addr}{osl:Array (Option Value)}{kV doc pm cdv ct:Value}{items:Array Value}{o:Obj}{n:Nat}(l:K.lookup f=some ⟨oc,od,.func (Ji x qual (ay st) (au st) (ag st) (.ref d) kV doc pm an cdv ct),osl⟩)
  (c:Jh K cdv qual=true) (k:Jd K (.ref f)=true) (ld:K.lookup d=some o) (hs:o.data=.seq items n):FunD K x qual st f (Ji x qual (ay st) (au st) (ag st) (.ref d) kV doc pm an cdv ct) items:=⟨⟨oc,od,d,kV,doc,pm,an,cdv,ct,osl,rfl,l,c,o,n,ld,hs⟩,k⟩
end
end L2
namespace PyProof.Rows
open PySem
local macro_rules | `(tactic| walk_at "gallop") => do
 let n:=Lean.mkIdent (Lean.mkPrivateNameCore `PySem.Builtin.List.W1All `PySem.Builtin.gallop)
 `(tactic| delta $n)
local macro_rules | `(tactic| walk_at "st") => `(tactic| try dsimp -zeta -zetaHave only)
local macro_rules | `(tactic| walk_at "l4") => `(tactic| (extract_lets -underBinder +onlyGivenNames a b; subst a b))
variable{prog:Program}{w:World}{A:Around}{E:Value->Shared->Prop}{s:Shared}
end PyProof.Rows
namespace PyProof.Rows
open PySem
local macro_rules | `(tactic| walk_at "setG") => do
 let n:=Lean.mkIdent (Lean.mkPrivateNameCore `PySem.Builtin.List.W1All `PySem.Builtin.setMinGallop)
 `(tactic| delta $n)
local macro_rules | `(tactic| walk_at "mergeLo") => do
 let n:=Lean.mkIdent (Lean.mkPrivateNameCore `PySem.Builtin.List.W1All `PySem.Builtin.mergeLo)
 `(tactic| delta $n)
local macro_rules | `(tactic| walk_at "st") => `(tactic| try dsimp -zeta -zetaHave only)
local macro_rules | `(tactic| walk_at "l3") => `(tactic| (extract_lets -underBinder +onlyGivenNames a b c; subst a b c))
local macro_rules | `(tactic| walk_at "l11") => `(tactic| (extract_lets -underBinder +onlyGivenNames a b c d e f g h i j k; subst a b c d e f g h i j k; dsimp -zeta -zetaHave only))
variable{prog:Program}{w:World}{A:Around}{E:Value->Shared->Prop}{s:Shared}
end PyProof.Rows
namespace PyProof.Rows
open PySem
local macro_rules | `(tactic| walk_at "mergeHi") => do
 let n:=Lean.mkIdent (Lean.mkPrivateNameCore `PySem.Builtin.List.W1All `PySem.Builtin.mergeHi)
 `(tactic| delta $n)
local macro_rules | `(tactic| walk_at "st") => `(tactic| try dsimp -zeta -zetaHave only)
local macro_rules | `(tactic| walk_at "l3") => `(tactic| (extract_lets -underBinder +onlyGivenNames a b c; subst a b c))
local macro_rules | `(tactic| walk_at "l11") => `(tactic| (extract_lets -underBinder +onlyGivenNames a b c d e f g h i j k; subst a b c d e f g h i j k; dsimp -zeta -zetaHave only))
variable{prog:Program}{w:World}{A:Around}{E:Value->Shared->Prop}{s:Shared}
end PyProof.Rows
namespace PyProof.Rows
open PySem
local macro_rules | `(tactic| walk_at "countRun") => do
 let n:=Lean.mkIdent (Lean.mkPrivateNameCore `PySem.Builtin.List.W1All `PySem.Builtin.countRun)
 `(tactic| delta $n)
local macro_rules | `(tactic| walk_at "binarySort") => do
 let n:=Lean.mkIdent (Lean.mkPrivateNameCore `PySem.Builtin.List.W1All `PySem.Builtin.binarySort)
 `(tactic| delta $n)
local macro_rules | `(tactic| walk_at "st") => `(tactic| try dsimp -zeta -zetaHave only)
local macro_rules | `(tactic| walk_at "l3") => `(tactic| (extract_lets -underBinder +onlyGivenNames a b c; subst a b c))
local macro_rules | `(tactic| walk_at "l11") => `(tactic| (extract_lets -underBinder +onlyGivenNames a b c d e f g h i j k; subst a b c d e f g h i j k; dsimp -zeta -zetaHave only))
local macro_rules | `(tactic| walk_at "l1") => `(tactic| (extract_lets -underBinder +onlyGivenNames a; subst a; try dsimp -zeta -zetaHave only))
local macro_rules | `(tactic| walk_at "l2") => `(tactic| (extract_lets -underBinder +onlyGivenNames a b; subst a b; try dsimp -zeta -zetaHave only))
local macro_rules | `(tactic| walk_at "l4") => `(tactic| (extract_lets -underBinder +onlyGivenNames a b c d; subst a b c d; try dsimp -zeta -zetaHave only))
variable{prog:Program}{w:World}{A:Around}{E:Value->Shared->Prop}{s:Shared}
end PyProof.Rows
namespace PyProof.Rows
open PySem
local macro_rules | `(tactic| walk_at "mergeAt") => do
 let n:=Lean.mkIdent (Lean.mkPrivateNameCore `PySem.Builtin.List.W1All `PySem.Builtin.mergeAt)
 `(tactic| delta $n)
local macro_rules | `(tactic| walk_at "st") => `(tactic| try dsimp -zeta -zetaHave only)
local macro_rules | `(tactic| walk_at "l3") => `(tactic| (extract_lets -underBinder +onlyGivenNames a b c; subst a b c))
local macro_rules | `(tactic| walk_at "l11") => `(tactic| (extract_lets -underBinder +onlyGivenNames a b c d e f g h i j k; subst a b c d e f g h i j k; dsimp -zeta -zetaHave only))
local macro_rules | `(tactic| walk_at "l1") => `(tactic| (extract_lets -underBinder +onlyGivenNames a; subst a; try dsimp -zeta -zetaHave only))
local macro_rules | `(tactic| walk_at "l2") => `(tactic| (extract_lets -underBinder +onlyGivenNames a b; subst a b; try dsimp -zeta -zetaHave only))
local macro_rules | `(tactic| walk_at "l4") => `(tactic| (extract_lets -underBinder +onlyGivenNames a b c d; subst a b c d; try dsimp -zeta -zetaHave only))
variable{prog:Program}{w:World}{A:Around}{E:Value->Shared->Prop}{s:Shared}
end PyProof.Rows
namespace PyProof.Rows
open PySem
local macro_rules | `(tactic| walk_at "sortRuns") => do
 let n:=Lean.mkIdent (Lean.mkPrivateNameCore `PySem.Builtin.List.W1All `PySem.Builtin.sortRuns)
 `(tactic| delta $n)
local macro_rules | `(tactic| walk_at "st") => `(tactic| try dsimp -zeta -zetaHave only)
local macro_rules | `(tactic| walk_at "l3") => `(tactic| (extract_lets -underBinder +onlyGivenNames a b c; subst a b c))
local macro_rules | `(tactic| walk_at "l11") => `(tactic| (extract_lets -underBinder +onlyGivenNames a b c d e f g h i j k; subst a b c d e f g h i j k; dsimp -zeta -zetaHave only))
local macro_rules | `(tactic| walk_at "l1") => `(tactic| (extract_lets -underBinder +onlyGivenNames a; subst a; try dsimp -zeta -zetaHave only))
local macro_rules | `(tactic| walk_at "l2") => `(tactic| (extract_lets -underBinder +onlyGivenNames a b; subst a b; try dsimp -zeta -zetaHave only))
local macro_rules | `(tactic| walk_at "l4") => `(tactic| (extract_lets -underBinder +onlyGivenNames a b c d; subst a b c d; try dsimp -zeta -zetaHave only))
variable{prog:Program}{w:World}{A:Around}{E:Value->Shared->Prop}{s:Shared}
end PyProof.Rows
namespace PyProof.Rows
open PySem
variable{prog:Program}{w:World}{A:Around}{E:Value->Shared->Prop}{s:Shared}
end PyProof.Rows
namespace L2
open PySem PySem.Spec PyProof.Rows
section
variable{X:Cx}
end
end L2
namespace L2
open PySem PySem.Spec PyProof.Rows
section
variable{X:Cx}
end
end L2
namespace L2
open PySem PySem.Spec PyProof.Rows
section
variable{prog:Program}{w:World}{A:Around}{E:Value->Shared->Prop}{s:Shared}{z TI TO i1 i2 l1 l2:Addr}{f0:Value}{f1:Bool}
end
section
variable{X:Cx}
end
end L2
namespace L2
open PySem PySem.Spec PyProof.Rows
section
variable{X:Cx}
theorem GJ:bootBuiltins "all" = some (.builtin "all"):=by decide +kernel
def rAllT(K:IT):List V->Hp->VK->Prop:=fun xs H Q=>∃(p:Addr)(n:Nat),xs = [.ref p]/\SqL K H p ((JW n true).map V.bl)/\Q (.bl true) H
theorem wQ(hc:X.calm=true):ku X (.builtin "all") (rAllT X.K):=by
 intro pins s σ H xs us Q I r h
 obtain⟨p,n,rfl,hq,q⟩:=h
 obtain⟨u,rfl,ru⟩:=vb r
 cases ru
 obtain⟨its,rv,pl,hz⟩:=I.list hq
 have hln:=rv.length
 rw[IV,KY]at hln
 have hlt:p<s.heap.objs.size:=by obtain⟨_,_,q,_⟩:=pl;exact Heap.lt_size q
 refine call_all_walk (wpAny_pyIter_list pl.isList ?_)
 refine⟨s.heap.objs.size,[s.heap.objs.size,p],[s.heap.objs.size],its.toArray.size,_,_,fun _=>true,rfl,Walks.list (A:=X.A.in1) (I.ok.hd hc) _ p (Jw hlt) its.toArray,⟨⟨_,Heap.get?_push_size _ rfl,rfl,rfl⟩,pl.isList.push _⟩,fun i v s' Q' E' hP hQ=>?_,fun h' tk hk=>?_⟩
 ·have hv:its[i]?=some v:=by simpa using hP
  have hi:i<n:=by have:=(IS.mp hv).1;omega
  obtain⟨w,hw,rw'⟩:=rv.get (i:=i) (x:=.bl true) (by rw[Je,Ky,if_pos hi];rfl)
  rw[hv]at hw
  cases hw
  cases rw'
  exact wpAny_truthy_bool hQ
 ·have ea:((Ju its.toArray.size).all fun _=>true)=true:=by rw[List.all_eq_true];intro _ _;rfl
  rw[ea]
  refine⟨.bl _,H,I.kept (t':=tk) (fun b o e=>hk b o (fun hm=>?_) (Heap.get?_push_of_some _ e)),rfl,q⟩
  rw[Jq.mp hm]at e
  exact Ke _ (Heap.lt_size e)
end
end L2
namespace L2
open PySem PySem.Spec PyProof.Rows
section
variable{prog:Program}{w:World}{A:Around}{E:Value->Shared->Prop}{s:Shared}{d:Addr}
def Ent(h:Heap)(d:Addr)(es:Array DictEntry)(ep:Nat):Prop:=∃ o,h.get? d=some o/\o.ExactDict/\o.data=.dict es ep
theorem Ent.ty{es:Array DictEntry}{ep:Nat}(x:Ent s.heap d es ep):s.TypeIs (.ref d) "dict":=by
 obtain⟨o,h1,h2,_⟩:=x
 exact⟨o,h1,h2.1⟩
theorem F4(hd:(d == sysModules)=false):MeetsIn prog w (Builtin.«dict.items» ⟨[.ref d],[]⟩) (fun _ R s=>(∃ es ep,Ent s.heap d es ep)/\R (.ok (.ret (.ref s.heap.objs.size))) { s with heap:=s.heap.push { cls:=.type "dict_items",data:=.fields #[.ref d] } }) :=
 .of_wp fun A R s ⟨⟨es,ep,hm⟩,h⟩=>by
  unfold Builtin.«dict.items» Builtin.Dict.noArgs
  refine wpAny_bind (wpAny_bind (wpAny_notOrdered_dict hm.ty ?_))
  show wpAny _ _ (pure d) _ _ s
  refine wpAny_pure ?_
  show wpAny _ _ (Builtin.Dict.showsAll d >>= _) _ _ s
  unfold Builtin.Dict.showsAll
  rw[if_neg (by simp[hd])]
  exact wpAny_bind (wpAny_pure (wpAny_bind (wpAny_newObj_type (wpAny_pure ⟨_,rfl,h⟩))))
theorem F5{v:Addr}{es:Array DictEntry}{ep:Nat}{Q:Value->Shared->Prop}(hv:s.heap.IsItemsView v d)(hm:Ent s.heap d es ep)
  (hQ:Q (.ref s.heap.objs.size) { s with heap:=s.heap.push { cls:=.type "dict_itemiterator",data:=.fields #[.none,.bool false,.ref d,.int 0 0,.int es.size 0,.int ep 0,.none,.none] } }) :
  wpAny (model prog w) A (pyIter (.ref v)) Q E s:=by
 obtain⟨ov,h1,h2,h3⟩:=id hv
 obtain⟨o,e1,e2,e3⟩:=hm
 refine wpAny_pyIter_slot hv.typeIs F.slot_dict_items_iter (wpAny_call_entry F.slot_dict_items_iter hv.typeIs F.entry_dict_items_iter ?_ (F.args_dict_items_iter_1 _))
 show wpAny _ _ (Builtin.«dict_items.__iter__» _) _ _ s
 unfold Builtin.«dict_items.__iter__» Builtin.Dict_items.dictOf Builtin.Dict_items.newIterator
 refine wpAny_bind (wpAny_pure (wpAny_bind (wpAny_bind (wpAny_field h1 h3 (x:=.ref d) rfl (wpAny_pure (wpAny_bind (wpAny_bind (wpAny_dictEntries e1 e3 (wpAny_bind (wpAny_dictEpoch e1 e3 ?_))))))))))
 simp only[show Builtin.Dict_items.ownsTuple "dict_itemiterator" = true by decide,if_true]
 refine wpAny_newObj_type (wpAny_pure ⟨_,rfl,"dict_itemiterator",_,⟨_,Heap.get?_push_size _ rfl,rfl⟩,F.slot_dict_itemiterator_next.lookup,?_⟩)
  (by simp only[sizeOk,Builtin.Dict_items.ownedTupleFields,JB,IX,JL,K9,sizeLine_eq];omega)
 simpa[rawInt,Builtin.Dict_items.ownedTupleFields] using hQ
theorem wq{it:Addr}{i ep:Nat}{es:Array DictEntry}{ok ov:Value}{Q:Option Value->Shared->Prop}(hit:IsItemIter s.heap it d i es.size ep ok ov)(hm:Ent s.heap d es ep)(hh:A.handled=none)
  (hI:∀ e,es[i]?=some e->∀ h',IsItemIterOut h' it d (i+1) es.size ep e.key e.val s.heap.objs.size->h'.get? s.heap.objs.size=some { cls:=.type "tuple",data:=.seq #[e.key,e.val] }->(∀ b o,b≠it->s.heap.get? b=some o->h'.get? b=some o)->Q (some (.ref s.heap.objs.size)) { s with heap:=h' })
  (hE:es[i]?=none->∀ h',Heap.ExtBut it s.heap h'->Q none { s with heap:=h' }):wpAny (model prog w) A (pyNext (.ref it)) Q E s:=by
 obtain⟨o,e1,e2,e3⟩:=hm
 have hT:s.TypeIs (.ref it) "dict_itemiterator":=⟨_,hit,rfl⟩
 have own:Builtin.Dict_items.ownsTuple "dict_itemiterator" = true:=by decide
 unfold pyNext
 refine wpAny_bind (wpAny_attempt (wpAny_callSpecial?_slot (name:=Str.ofString "__next__") hT F.slot_dict_itemiterator_next (wpAny_call_entry F.slot_dict_itemiterator_next hT F.entry_dict_itemiterator_next ?_ (F.args_dict_itemiterator_next_1 _))))
 refine wpAny_bind (wpAny_pure (wpAny_bind (wpAny_bind (wpAny_bind (wpAny_typeNameOfWhole_itemiter hT (wpAny_pure ?_))))))
 refine wpAny_bind (wpAny_fieldsOf hit rfl ?_)
 simp only[own,if_true]
 show wpAny _ _ (if(Value.ref d == Value.none)=true then _ else _) _ _ _
 rw[if_neg (show ¬ ((Value.ref d == Value.none)=true) from Jo)]
 refine wpAny_bind (wpAny_pure (wpAny_bind (wpAny_dictEntries e1 e3 ?_)))
 rw[if_neg (by simp)]
 refine wpAny_bind (wpAny_pure (wpAny_bind (wpAny_dictEpoch e1 e3 ?_)))
 rw[if_neg (by simp)]
 refine wpAny_pure ?_
 have n0:¬ ((i:Int)<0):=by omega
 simp only[n0,if_false,JI]
 cases he:es[i]? with
 |none =>
  refine wpAny_bind (wpAny_bind (wpAny_typeNameOfWhole_itemiter hT (wpAny_pure ?_)))
  show wpAny _ _ (setField (.ref it) 2 .none >>= _) _ _ s
  refine wpAny_bind (wpAny_setField hit rfl (by simp) ?_)
  show wpAny _ _ (newExc (.type "StopIteration") [] >>= _) _ _ _
  refine wpAny_bind ?_
  simp only[newExc,newTuple]
  refine wpAny_bind (wpAny_newObj_type (wpAny_bind (m:=firstArgMember _ _) (wpAny_of_eq (a:=Value.none) (by first | rfl | (simp only[firstArgMember];rfl)) (wpAny_newObj_type ?_ (by size_fits)))) (by size_fits))
  simp only[raiseNew]
  refine wpAny_bind (wpAny_handled ?_)
  rw[show A.in1.handled=none from hh]
  refine wpAny_bind (wpAny_pure (wpAny_throw ?_))
  refine wpAny_bind (wpAny_isInstance (T:="StopIteration") (b:=true) ⟨_,Heap.get?_push_size _ rfl,rfl⟩ isSubtype_stop (wpAny_pure ?_))
  exact hE he _ (((Heap.SameBut.update ..).extBut.push _).push _)
 |some e =>
  refine wpAny_bind (wpAny_bind (wpAny_typeNameOfWhole_itemiter hT (wpAny_pure ?_)))
  refine wpAny_bind (wpAny_isOneOf_itemiter hT ?_)
  show wpAny _ _ (setField (.ref it) 3 (rawInt ((i:Int)+1)) >>= _) _ _ s
  refine wpAny_bind (wpAny_setField_rec hit (by simp) fun g1 q1 k1=>?_)
  have c1:((i+1:Nat):Int)=(i:Int)+1:=by omega
  have q1':IsItemIter g1 it d (i+1) es.size ep ok ov:=by
   unfold IsItemIter
   rw[c1]
   simpa[rawInt] using q1
  have lt:it<s.heap.objs.size:=Heap.lt_size hit
  have z1:g1.objs.size=s.heap.objs.size:=k1.1
  have hT1:Shared.TypeIs { s with heap:=g1 } (.ref it) "dict_itemiterator":=⟨_,q1',rfl⟩
  refine wpAny_bind (wpAny_holding (wpAny_bind (wpAny_isOneOf_itemiter hT1 (wpAny_bind (wpAny_isOneOf_itemiter hT1 ?_)))))
  show wpAny _ _ (Builtin.Dict_items.pairFromOwner (.ref it) 6 e.key e.val) _ _ { s with heap:=g1 }
  unfold Builtin.Dict_items.pairFromOwner Builtin.Dict_items.ownedTupleIsFree
  refine wpAny_bind (wpAny_newTuple ?_)
  have q2:IsItemIter (g1.push { cls:=.type "tuple",data:=.seq #[e.key,e.val] }) it d (i+1) es.size ep ok ov:=Heap.get?_push_of_some _ q1'
  have t2:(g1.push { cls:=.type "tuple",data:=.seq #[e.key,e.val] }).get? s.heap.objs.size=some { cls:=.type "tuple",data:=.seq #[e.key,e.val] }:=by rw[← z1];exact Heap.get?_push_size _ rfl
  have k2:∀ b o,b≠it->s.heap.get? b=some o->(g1.push { cls:=.type "tuple",data:=.seq #[e.key,e.val] }).get? b=some o:=fun b o hb q=>Heap.get?_push_of_some _ (k1.extBut b o hb q)
  rw[z1]
  generalize g1.push { cls:=.type "tuple",data:=.seq #[e.key,e.val] }=g2 at q2 t2 k2
  show wpAny _ _ (_ >>= _) _ _ { s with heap:=g2 }
  refine wpAny_bind (wpAny_bind (wpAny_field q2 rfl (x:=.none) rfl (wpAny_pure ?_)))
  simp only[if_true]
  refine wpAny_bind (wpAny_field q2 rfl (x:=ok) rfl (wpAny_bind (wpAny_field q2 rfl (x:=ov) rfl ?_)))
  refine wpAny_bind (wpAny_setField_rec q2 (by simp) fun g3 q3 k3=>?_)
  replace q3:IsItemIter g3 it d (i+1) es.size ep e.key ov:=q3
  refine wpAny_bind (wpAny_setField_rec q3 (by simp) fun g4 q4 k4=>?_)
  replace q4:IsItemIter g4 it d (i+1) es.size ep e.key e.val:=q4
  refine wpAny_bind (wpAny_setField_rec q4 (by simp) fun g5 q5 k5=>?_)
  replace q5:IsItemIterOut g5 it d (i+1) es.size ep e.key e.val s.heap.objs.size:=q5
  refine wpAny_bind (wpAny_setField_rec q5 (by simp) fun g6 q6 k6=>?_)
  replace q6:IsItemIterOut g6 it d (i+1) es.size ep e.key e.val s.heap.objs.size:=q6
  have up:∀ b o,b≠it->g2.get? b=some o->g6.get? b=some o:=fun b o hb q=>k6.extBut b o hb (k5.extBut b o hb (k4.extBut b o hb (k3.extBut b o hb q)))
  exact wpAny_bind (wpAny_letGo (wpAny_pure (wpAny_pure ⟨_,rfl,wpAny_pure (hI e he g6 q6 (up _ _ (Kz lt) t2) fun b o hb q=>up b o hb (k2 b o hb q))⟩)))
end
def mT(v d:Addr):HO:=.ext fun h=>h.IsItemsView v d
def KvA(H:Hp)(u:HO)(i:Nat)(x y:V):Prop:=(∃ kvs k,u=.dK kvs/\kvs[i]?=some (k,y)/\x=kV k)∨∃ kvs k t,u=.dT kvs/\kvs[i]?=some (k,y)/\x=.ref t/\H t=some (.tup (k.map kV))
def dlen:HO->Nat
 |.dK kvs=>kvs.length
 |.dT kvs=>kvs.length
 |_=>0
def wj:HO->Prop
 |.dK _=>True
 |.dT _=>True
 |_=>False
theorem nW{α β:Type}{F:α->β->Prop}:∀{l₁:List α}{l₂:List β},Paired F l₁ l₂->∀{i:Nat}{b:β},l₂[i]?=some b->∃ a,l₁[i]?=some a/\F a b
 |_,_,.nil,i,b,e=>by simp at e
 |_,_,.cons r t,0,b,e=>⟨_,rfl,by cases e;exact r⟩
 |_,_,.cons r t,i+1,b,e=>nW t (i:=i) e
theorem wu{P:Program}{w:World}{H:Hp}{h:Heap}{d:Addr}{u:HO}(hd:wj u)(x:br P w H h d u):(d == sysModules)=false/\∃ es ep,Ent h d es ep/\es.size=dlen u/\∀ i e,es[i]?=some e->∃ x y,KvA H u i x y/\RelV x e.key/\RelV y e.val:=by
 cases u with
 |dK kvs =>
  obtain⟨hz,lo,vs,rk,o,es,ep,h1,h2,h3,h4,h5,h6⟩:=x
  have l1:kvs.length=vs.length:=Paired.length rk
  have sz:es.size=vs.length:=by rw[← h5.length,Kf]
  refine⟨lo,es,ep,⟨o,h1,h2,h3⟩,by rw[sz];exact l1.symm,fun i e he=>?_⟩
  have hi:i<vs.length:=by
   have:i<es.size:=(Mo.mp he).1
   omega
  obtain⟨⟨k,v⟩,hv⟩:∃ q,vs[i]?=some q:=⟨_,IU hi⟩
  obtain⟨hk,hval⟩:=h5.get? (e:=e) (by rw[Lk];exact he) hv
  obtain⟨⟨k',y⟩,hy,ek,ry⟩:=nW rk hv
  have ek':k'=k:=ek
  subst ek'
  refine⟨kV k',y,.inl ⟨kvs,k',rfl,hy,rfl⟩,?_,by rw[hval];exact ry⟩
  rcases aR (show ud k' e.key=true from hk) with⟨j,t,e1,e2⟩ | ⟨z,t,e1,e2⟩
  ·rw[e1,e2];exact⟨t,rfl⟩
  ·rw[e1,e2];exact⟨t,rfl⟩
 |dT kvs =>
  obtain⟨hz,lo,xs,r,o,es,ep,h1,h2,h3,h4,h5⟩:=x
  have sz:es.size=xs.length:=by rw[← Kf,h4,IV]
  refine⟨lo,es,ep,⟨o,h1,h2,h3⟩,by rw[sz];exact r.length.symm,fun i e he=>?_⟩
  have e1:es.toList[i]?=some e:=by rw[Lk];exact he
  rw[h4,Je]at e1
  cases hx:xs[i]? with
  |none=>rw[hx]at e1;cases e1
  |some q =>
   rw[hx]at e1
   cases e1
   obtain⟨⟨k,y⟩,hy,ek,ht,ry⟩:=nW r hx
   exact⟨.ref q.2.1,y,.inr ⟨kvs,k,q.2.1,rfl,hy,rfl,ht⟩,rfl,ry⟩
 |_=>exact hd.elim
section
variable{X:Cx}{pins:List (Addr×Obj)}{σ:St}{H:Hp}{s:Shared}{d:Addr}{u:HO}{o:Obj}
theorem wj.notT(h:wj u):(∀ xs,u≠.tup xs)/\(∀ o v,u≠.frz o v)/\(∀ ps,u≠.tbl ps)/\∀ a,u≠.own a:=by
 cases u<;>first | exact h.elim | exact⟨fun _=>by simp,fun _ _=>by simp,fun _=>by simp,fun _=>by simp⟩
theorem HOk.frz{P:Program}{w:World}{h:Heap}(x:HOk P w H h)(hd:H d=some u)(hu:wj u)(e:h.get? d=some o):HOk P w (upd H d (.frz o u)) h:=fun b v q=>by
 obtain⟨n1,n2,n3,n4⟩:=hu.notT
 have ow:∀ c y,H c=some (.own y)->upd H d (.frz o u) c=some (.own y):=fun c y r=>by rw[ao (Bp r hd fun z=>n4 y z.symm)];exact r
 have tp:∀ c xs,H c=some (.tup xs)->upd H d (.frz o u) c=some (.tup xs):=fun c xs r=>by rw[ao (Bp r hd fun z=>n1 xs z.symm)];exact r
 by_cases hb:b=d
 ·subst hb
  rw[ae]at q
  cases q
  exact⟨e,(x b u hd).stay (fun _ _ _ r=>r) (fun c r=>ow c b r) tp⟩
 ·rw[ao hb]at q
  exact(x b v q).stay (fun _ _ _ r=>r) (fun c r=>ow c b r) tp
theorem Inv.freeze(I:Inv X pins σ H s)(hd:H d=some u)(hu:wj u)(e:s.heap.get? d=some o):Inv X pins σ (upd H d (.frz o u)) s:=by
 obtain⟨n1,n2,n3,n4⟩:=hu.notT
 exact I.step (H':=upd H d (.frz o u)) (h':=s.heap) (g':=s.gens) (d':=s.drawn) (t':=s.toks) (ch:=[]) (fun _ z=>nomatch z) (fun b _ _ _ _ q _=>q) (fun b ob _ _ _ q _=>⟨ob.slots,q⟩)
  (fun b _ _ _ n=>by rw[ao (az hd n).symm];exact n) (fun b ob _ q=>⟨ob,q⟩) (fun b xs r=>by rw[ao (Bp r hd fun z=>n1 xs z.symm)];exact r)
  (fun b ob v r=>by rw[ao (Bp r hd fun z=>n2 ob v z.symm)];exact r) (fun b ps r=>⟨#[],by rw[ao (Bp r hd fun z=>n3 ps z.symm),r];simp⟩) (fun _ q=>q) (I.hok.frz hd hu e) I.bare
theorem FD:MtR X "dict.items" (fun x xs H Q=>∃ d u,x=.ref d/\xs = []/\H d=some u/\wj u/\∀ v,H v=none->Q (.ref v) (upd H v (mT v d))):=by
 intro pins s σ H x xs v us Q I rx rv h
 obtain⟨d,u,rfl,rfl,hd,hu,q⟩:=h
 cases rx
 have hus:=rv.zero
 subst hus
 obtain⟨lo,es,ep,hm,_⟩:=wu hu (I.hok d _ hd)
 refine call_meetsIn Mv hm.ty PySem.F.entry_dict_items (PySem.F.args_dict_items_1 _) (F4 lo) ⟨⟨es,ep,hm⟩,?_⟩
 have hv:(s.heap.push { cls:=.type "dict_items",data:=.fields #[.ref d] }).IsItemsView s.heap.objs.size d:=⟨_,Heap.get?_push_size _ rfl,rfl,rfl⟩
 refine⟨.ref s.heap.objs.size,_,I.laid (t':=s.toks) (fun b o e=>Heap.get?_push_of_some _ e) (IY _) ?_,rfl,q _ (I.hok.fresh (IY _))⟩
 exact⟨hv,⟨_,Heap.get?_push_size _ rfl⟩,fun h1 h2 x k=>let ⟨o,ho,r⟩:=x;⟨o,k _ ho,r⟩⟩
end
def Itd(o:Obj)(u:HO)(d:Addr):It :=
 ⟨fun i H=>H d=some (.frz o u)/\i<dlen u,
  fun i H v H'=>∃ T x y,H T=none/\v=.ref T/\H'=upd H T (.tup [x,y])/\KvA H u i x y,
  fun i H=>H d=some (.frz o u)/\dlen u<=i⟩
theorem AZ{P:Program}{w:World}{K:IT}{el:List Expr}{kk:Nat}{pos:Pos}(o:Obj)(u:HO)(d I:Addr)(hu:wj u)(es:Array DictEntry)(ep:Nat)(hx:o.ExactDict)(ho:o.data=.dict es ep):Turn P w K (.Tuple el kk pos) (Itd o u d) [I] I
  (fun i h=>∃ ok ov,IsItemIter h I d i es.size ep ok ov) where
 mem:=by simp
 obj:=fun i h st b hb=>by
  obtain⟨ok,ov,he⟩:=st
  rw[Jq.mp hb]
  exact⟨_,he,fun v z=>by have z':Data.fields _=Data.cell v:=z;cases z'⟩
 keep:=fun i h h' st kk=>by
  obtain⟨ok,ov,he⟩:=st
  exact⟨ok,ov,kk I (by simp) _ he⟩
 item:=by
  intro X hP hw hK hc i pins s σ H E Iv hf st hg
  subst hP hw hK
  obtain⟨hd,hi⟩:=hg
  obtain⟨ok,ov,he⟩:=st
  obtain⟨g1,g2⟩:=(show br X.prog X.w H s.heap d (.frz o u) from Iv.hok d _ hd)
  obtain⟨_,es',ep',⟨o',q1,q2,q3⟩,sz,al⟩:=wu hu g2
  rw[g1]at q1
  cases q1
  rw[ho]at q3
  cases q3
  have lt:I<s.heap.objs.size:=Heap.lt_size he
  refine wq he ⟨o,g1,hx,ho⟩ (Iv.ok.hd hc) (fun e hee h' hit hT hk=>?_) (fun z=>by rw[Array.getElem?_eq_none_iff]at z;omega)
  refine⟨_,rfl,?_⟩
  refine wpAny_letOwnedTupleGo_items hit fun h2 he2 hs2=>?_
  obtain⟨x,y,kv,rx,ry⟩:=al i e hee
  have hfr:H s.heap.objs.size=none:=Iv.hok.fresh (IY _)
  have I0:Inv X pins σ (upd H s.heap.objs.size (.tup [x,y])) { s with heap:=s.heap.push { cls:=.type "tuple",data:=.seq #[e.key,e.val] },toks:=s.toks } :=
   Iv.laid (t':=s.toks) (fun b u e=>Heap.get?_push_of_some _ e) (IY _) ⟨by show 2<=sizeLine;decide,[e.key,e.val],.cons rx (.cons ry .nil),⟨_,Heap.get?_push_size _ rfl,rfl,_,rfl⟩⟩
  have hn:∀ b∈[I],upd H s.heap.objs.size (.tup [x,y]) b=none:=fun b hb=>by
   rw[ao (by rw[Jq.mp hb];exact Jw lt)]
   exact(hf b hb).1
  have I2:Inv X pins σ (upd H s.heap.objs.size (.tup [x,y])) { s with heap:=h2,toks:=s.toks }:=Inv.turnedL (s:={ s with heap:=s.heap.push { cls:=.type "tuple",data:=.seq #[e.key,e.val] },toks:=s.toks }) (h':=h2) I0 (t':=s.toks) (fp:=[I]) (fun b ob hb q=>by
   have nb:b≠I:=fun z=>hb (by simp[z])
   refine(hs2.2 b nb).trans ?_
   rcases Heap.get?_push_cases q with⟨z1,z2⟩ | q
   ·rw[z1,z2];exact hT
   ·exact hk b ob nb q) fun b hb=>⟨hn b hb,(hf b hb).2⟩
  exact⟨.ref s.heap.objs.size,_,I2,rfl,⟨s.heap.objs.size,x,y,hfr,rfl,rfl,kv⟩,⟨_,_,he2⟩,hn⟩
 done:=by
  intro X hP hw hK hc i pins s σ H E Iv hf st hg
  subst hP hw hK
  obtain⟨hd,hi⟩:=hg
  obtain⟨ok,ov,he⟩:=st
  obtain⟨g1,g2⟩:=(show br X.prog X.w H s.heap d (.frz o u) from Iv.hok d _ hd)
  obtain⟨_,es',ep',⟨o',q1,q2,q3⟩,sz,al⟩:=wu hu g2
  rw[g1]at q1
  cases q1
  rw[ho]at q3
  cases q3
  obtain⟨f0,f1,f2,f3,f4,f5⟩:=hf I (by simp)
  refine wq he ⟨o,g1,hx,ho⟩ (Iv.ok.hd hc) (fun e hee=>by have:=(Mo.mp hee).1;omega) (fun _ h' hk=>⟨rfl,Iv.turned (t':=s.toks) (fun b o hb e=>hk b o hb e) f0 f1 f3 f4 f5⟩)
 self:=fun _ _ _ _ _ st h=>by
  obtain⟨ok,ov,he⟩:=st
  exact PySem.W.kcp_self he h
section
variable{X:Cx}
def iItems(te:TE):TI:=fun σ H R=>te σ H fun x H1=>∃ vw d u,x=.ref vw/\H1 vw=some (mT vw d)/\H1 d=some u/\wj u/\∀ o,R (Itd o u d) (upd H1 d (.frz o u))
theorem Fm{e:Expr}{te:TE}{es:List Expr}{k:Nat}{tp:Pos}(he:PE X e te):PI X (.Tuple es k tp) e (iItems te):=by
 intro pins s σ H R I h
 refine thn (he pins s σ H _ I h) fun v s1 ⟨x,H1,I1,r1,q1⟩=>?_
 obtain⟨vw,d,u,rfl,hv,hd,hu,q⟩:=q1
 cases r1
 obtain⟨hview,_,_⟩:=(show br X.prog X.w H1 s1.heap vw (mT vw d) from I1.hok vw _ hv)
 obtain⟨_,ents,ep,hm,sz,_⟩:=wu hu (I1.hok d _ hd)
 obtain⟨o,q1,q2,q3⟩:=id hm
 refine F5 hview hm ?_
 have I2:=I1.freeze hd hu q1
 have ne:d≠s1.heap.objs.size:=Jw (Heap.lt_size q1)
 refine⟨s1.heap.objs.size,[s1.heap.objs.size],_,_,upd H1 d (.frz o u),rfl,I2.kept (t':=s1.toks) fun b u e=>Heap.get?_push_of_some _ e,AZ o u d _ hu ents ep q2 q3,⟨_,_,Heap.get?_push_size _ rfl⟩,fun b hb=>?_,q o⟩
 rw[Jq.mp hb]
 exact I2.fpOk (IY _) (I2.hok.fresh (IY _))
end
theorem D6{o:Obj}{u:HO}{d:Addr}{g:TG}{tb:TS}{D:Ends}{σ:St}{H:Hp}(Pv:Nat->St->Hp->Prop)(h0:Pv 0 σ H)(hl:∀ i σ H,i<=dlen u->Pv i σ H->H d=some (.frz o u))
  (hs:∀ i x y σ H T,i<dlen u->KvA H u i x y->Pv i σ H->H T=none->g (.ref T) σ (upd H T (.tup [x,y])) fun σ2 H2=>tb { D with nx:=Pv (i+1),ct:=Pv (i+1),bk:=D.nx } σ2 H2) (hd:∀ σ H,Pv (dlen u) σ H->D.nx σ H) :
  ∃ W:Nat->Nat->St->Hp->Prop,(∃ m,W 0 m σ H)/\∀ i m σ H,W i m σ H ->
   ((Itd o u d).stop i H/\D.nx σ H)∨((Itd o u d).go i H/\∃ N:St->Hp->Prop,(∀ σ' H',N σ' H'->∃ m',m'<m/\W (i+1) m' σ' H')/\∀ x H',(Itd o u d).yld i H x H'->g x σ H' fun σ2 H2=>tb { D with nx:=N,ct:=N,bk:=D.nx } σ2 H2):=by
 refine⟨fun i m σ H=>m=dlen u-i/\i<=dlen u/\Pv i σ H,⟨dlen u,by simp,Kc _,h0⟩,?_⟩
 rintro i m σ H ⟨rfl,hi,p⟩
 have q:=hl i σ H hi p
 by_cases hlt:i<dlen u
 ·refine .inr ⟨⟨q,hlt⟩,Pv (i+1),fun σ' H' p'=>⟨dlen u-(i+1),by omega,rfl,hlt,p'⟩,fun v H' y=>?_⟩
  obtain⟨T,x,z,hT,rfl,rfl,kv⟩:=y
  exact hs i x z σ _ T hlt kv p hT
 ·have e:i=dlen u:=by omega
  subst e
  exact .inl ⟨⟨q,IY _⟩,hd σ H p⟩
end L2
namespace L2
open PySem PySem.Spec PyProof.Rows
section
open PySem.W
end
section
open PySem.W
variable{prog:Program}{w:World}{A:Around}{E:Value->Shared->Prop}{s:Shared}
end
section
variable{X:Cx}
end
section
variable{X:Cx}
end
end L2
namespace L2
open PySem PySem.Spec PyProof.Rows
section
variable{prog:Program}{w:World}{K:Type} [DecidableEq K] {knd:KeyKind prog w K} {A:Around} {E:Value->Shared->Prop} {s:Shared}
theorem A4{d:Addr}{kvs:List (K×Value)}{k:K}{key dflt:Value}{Q:Value->Shared->Prop}(hkey:knd.is k key=true)(hm:s.heap.DictOf knd d kvs)
  (hthere:∀ v,valueAt kvs k=some v->Q v { s with toks:=s.toks+1 })
  (hnew:valueAt kvs k=none->∀ h',h'.DictOf knd d (stored kvs k dflt)->Heap.SameBut d s.heap h'->Q dflt { s with heap:=h',toks:=s.toks+1 }) (hsz:kvs.length<=sizeLine) :
  wpAny (model prog w) A (dictSetDefault d key dflt) Q E s:=by
 have hmap:=hm.mapOf
 obtain⟨o,es,ep,ho,hc,hd,hk,hp,hn⟩:=hm
 obtain⟨o',es',ep',ho',_,hd',_,hf⟩:=hmap
 rw[ho]at ho'
 cases ho'
 rw[hd]at hd'
 cases hd'
 have hes:es.size<=sizeLine:=by have e1:=hp.length;have e2:es.toList.length=es.size:=by simp
                                omega
 unfold dictSetDefault
 try with_reducible refine wpAny_holding ?_
 refine wpAny_bind (knd.pyHash hkey ?_)
 refine wpAny_bind (wpAny_dictFind_of (s:={ s with toks:=s.toks+1 }) hkey ho hd hk ?_)
 have hidx:(es.findIdx? fun e=>knd.is k e.key)=kvs.findIdx? fun kv=>decide (kv.1=k):=by
  rw[← hp.findIdx k];obtain⟨l⟩:=es;simp
 cases hi:es.findIdx? fun e=>knd.is k e.key with
 |some i =>
  have hfk:valueAt kvs k=(es[i]?).map (·.val):=by rw[← hf k,findBy_of_findIdx?,hi]
  refine wpAny_bind (wpAny_dictEntries (s:={ s with toks:=s.toks+1 }) ho hd ?_)
  cases he:es[i]? with
  |none =>
   exfalso
   have:=Array.findIdx?_eq_some_iff_findIdx_eq.mp hi
   have hlt:i<es.size:=this.1
   rw[Array.getElem?_eq_getElem hlt]at he
   exact nomatch he
  |some e =>
   rw[he]at hfk
   exact wpAny_bind (wpAny_rule (wpAny_pure (hthere e.val hfk)))
 |none =>
  have hfk:valueAt kvs k=none:=by rw[← hf k,findBy_of_findIdx?,hi]
  have hnot:k∉kvs.map (·.1):=not_mem_of_findIdx_none (hidx▸hi)
  have hany:¬ (kvs.any fun kv=>decide (kv.1=k))=true:=by
   rw[KI];rintro⟨kv,hkv,he⟩
   exact hnot (Jj.mpr ⟨kv,hkv,of_decide_eq_true he⟩)
  refine wpAny_bind (wpAny_rule (wpAny_bind (wpAny_updateDictKeys (hz:=hes) (s:={ s with toks:=s.toks+1 }) ho hd (wpAny_pure (hnew hfk _ ⟨_,_,ep+1,Heap.get?_update_self _ ho (Obj.isFreed_of_dict (Obj.data_mapDictKeys hd _)),
   hc.mapDictKeys _,Obj.data_mapDictKeys hd _,hk.push hkey _,?_,?_⟩ (Heap.SameBut.update ..))))))
  ·rw[stored,if_neg hany]
   have:=hp.append hkey (knd.hash k) dflt
   obtain⟨l⟩:=es
   simpa using this
  ·rw[stored,if_neg hany,Jy,Ka]
   refine⟨hn,by simp,?_⟩
   intro a ha b hb
   simp only[JJ,LO,Jq]at hb
   subst hb
   exact fun e=>hnot (e▸ha)
theorem Bs{d:Addr}{k:K}{key:Value}(hkey:knd.is k key=true)(hd:(d == sysModules)=false)(dflt:Value) :
  MeetsIn prog w (Builtin.«dict.setdefault» ⟨[.ref d,key,dflt],[]⟩) (fun _ R s=>∃ kvs,s.heap.DictOf knd d kvs/\kvs.length<=sizeLine /\
   (∀ v,valueAt kvs k=some v->R (.ok (.ret v)) { s with toks:=s.toks+1 }) /\
   (valueAt kvs k=none->∀ h',h'.DictOf knd d (stored kvs k dflt)->Heap.SameBut d s.heap h'->R (.ok (.ret dflt)) { s with heap:=h',toks:=s.toks+1 })) :=
 .of_wp fun A R s ⟨kvs,hm,hz,h1,h2⟩=>by
  unfold Builtin.«dict.setdefault»
  refine wpAny_bind ?_
  unfold Builtin.Dict.keyAndDefault
  refine wpAny_bind (wpAny_notOrdered_dict hm.typeIs ?_)
  show wpAny _ _ (pure (d,key,some dflt)) _ _ s
  refine wpAny_pure ?_
  show wpAny _ _ (if(d == sysModules)=true then _ else(dictSetDefault d key dflt >>= _)) _ _ s
  rw[if_neg (by rw[hd];exact Jo)]
  exact wpAny_bind (A4 hkey hm (fun v hv=>wpAny_pure ⟨v,rfl,h1 v hv⟩) (fun hn h' hm' hs'=>wpAny_pure ⟨dflt,rfl,h2 hn h' hm' hs'⟩) hz)
end
def tSetD(td ty tx:TE):TE:=fun σ H Q=>td σ H fun x H1=>∃ a,x=.ref a/\IsD H1 a/\ty σ H1 fun y H2=>tx σ H2 fun z H3=>∃ kvs k,H3 a=some (.dK kvs)/\y=kV k/\kvs.length<sizeLine /\
 (∀ v,valV kvs k=some v->Q v H3)/\(valV kvs k=none->Q z (upd H3 a (.dK (putK kvs k z))))
section
variable{X:Cx}{o e f:Expr}{apos cpos:Pos}{td ty tx:TE}
theorem Hz(ho:PE X o td)(he:PE X e ty)(hf:PE X f tx) (m:M2 X o "setdefault" apos e f cpos):PE X (.Call (.Attribute o "setdefault" apos) [e,f] [] cpos) (tSetD td ty tx):=by
 intro pins s σ H Q I h
 refine wpAny_Call_method m.base m.few m.line Mw Mg PySem.F.type_dict_setdefault (thn (ho pins s σ H _ I h) fun u s1 ⟨x,H1,I1,rx,a,ex,d,q1⟩=>?_)
 subst ex
 obtain rfl:u=Value.ref a:=rx
 obtain⟨t1,t2,_⟩:=isD_at I1 d
 refine⟨t1,t2,?_⟩
 rw[m.trees]
 refine Calls.callWith_builtin rfl (Calls.evalArgs_plain (Calls.spliced_cons (thn (he pins s1 σ H1 _ I1 q1) fun iv s2 ⟨y,H2,I2,ry,q2⟩ =>
  Calls.spliced_cons (thn (hf pins s2 σ H2 _ I2 q2) fun fv s3 ⟨z,H3,I3,rz,kvs,k,ea,ey,hl,q3,q4⟩=>Calls.spliced_nil ?_))))
 subst ey
 obtain⟨hz,hd,vs,rel,dd⟩:=Iz I3.hok ea
 have hzv:vs.length<=sizeLine:=by rw[← rel.length];exact hz
 refine call_meetsIn Mg dd.typeIs PySem.F.entry_dict_setdefault (PySem.F.args_dict_setdefault_3 _ _ _) (Bs (BI ry) hd fv) ⟨vs,dd,hzv,fun v hv=>?_,fun hn h' dd' hs=>?_⟩
 ·have r:=rel.val k
  rw[hv]at r
  cases l:valV kvs k with
  |none=>rw[l]at r;exact r.elim
  |some v'=>rw[l]at r;exact⟨v',H3,I3.tok _,r,q3 v' l⟩
 ·have r:=rel.val k
  rw[hn]at r
  cases l:valV kvs k with
  |some v'=>rw[l]at r;exact r.elim
  |none =>
   have hl2:(putK kvs k z).length<=sizeLine:=by have:=cW kvs k z;omega
   have hE:∃ q,h'.get? a=some q:=let ⟨q,_,_,hq,_⟩:=dd';⟨q,hq⟩
   exact⟨z,_,ux I3 (by rw[ea];exact True.intro) hs hE (D9 hl2 hd (rel.put k rz) dd'),rz,q4 l⟩
end
def Itk(o:Obj)(kvs:List (Key×V))(d:Addr):It :=
 ⟨fun i H=>H d=some (.frz o (.dK kvs))/\i<kvs.length,fun i H v H'=>∃ k y,kvs[i]?=some (k,y)/\v=kV k/\H'=H,fun i H=>H d=some (.frz o (.dK kvs))/\kvs.length<=i⟩
theorem DY{P:Program}{w:World}{H:Hp}{h:Heap}{o:Obj}{kvs:List (Key×V)}{d:Addr}{es:Array DictEntry}{ep:Nat}(x:br P w H h d (.frz o (.dK kvs)))(he:o.data=.dict es ep):(d == sysModules)=false/\∃ vs,KV kvs vs/\h.DictAt (bA P w) d vs ep:=by
 obtain⟨g1,hz,lo,vs,rk,o',es',ep',h1,h2,h3,r⟩:=x
 rw[g1]at h1
 cases h1
 rw[he]at h3
 cases h3
 exact⟨lo,vs,rk,o,es,g1,h2,he,r⟩
theorem Ci{P:Program}{w:World}{K:IT}{tg:Expr}(o:Obj)(kvs:List (Key×V))(d it:Addr)(es:Array DictEntry)(ep:Nat)(he:o.data=.dict es ep):Turn P w K tg (Itk o kvs d) [it] it (fun i h=>h.IsKeyIter it d i kvs.length ep) where
 mem:=by simp
 obj:=fun i h st b hb=>by
  have e:b=it:=by simpa using hb
  subst e
  obtain⟨o,e,c,d⟩:=st
  exact⟨o,e,fun v z=>by rw[d]at z;cases z⟩
 keep:=fun i h h' st k=>by
  obtain⟨o,e,r⟩:=st
  exact⟨o,k it (by simp) o e,r⟩
 item:=by
  intro X hP hw hK hc i pins s σ H E I hf st hg
  subst hP hw hK
  obtain⟨hd,hi⟩:=hg
  obtain⟨lo,vs,rk,hat⟩:=DY (I.hok d _ hd) he
  have hl:kvs.length=vs.length:=Paired.length rk
  obtain⟨f0,f1,f2,f3,f4,f5⟩:=hf it (by simp)
  obtain⟨⟨k,v⟩,hv⟩:∃ q,vs[i]?=some q:=⟨_,IU (by omega)⟩
  obtain⟨⟨k',y⟩,hy,ek,ry⟩:=nW rk hv
  have ek':k'=k:=ek
  subst ek'
  refine wpAny_pyNext_dict_item (hl▸st) hat hv fun key h' hk st' sb=>?_
  have I1:Inv X pins σ H { s with heap:=h' }:=I.turned (t':=s.toks) (fun b o hb e=>(sb.2 b hb).trans e) f0 f1 f3 f4 f5
  obtain⟨o2,e,c,dd⟩:=id st'
  refine⟨key,rfl,FX (s:={ s with heap:=h' }) e c dd (by decide) ⟨kV k',H,I1,?_,⟨k',y,hy,rfl,rfl⟩,hl.symm▸st',fun b hb=>(hf b hb).1⟩⟩
  rcases aR (show ud k' key=true from hk) with⟨j,t,rfl,rfl⟩ | ⟨z,t,rfl,rfl⟩
  ·exact⟨t,rfl⟩
  ·exact⟨t,rfl⟩
 done:=by
  intro X hP hw hK hc i pins s σ H E I hf st hg
  subst hP hw hK
  obtain⟨hd,hi⟩:=hg
  obtain⟨lo,vs,rk,hat⟩:=DY (I.hok d _ hd) he
  have hl:kvs.length=vs.length:=Paired.length rk
  obtain⟨f0,f1,f2,f3,f4,f5⟩:=hf it (by simp)
  exact wpAny_pyNext_dict_end (I.ok.hd hc) (hl▸st) hat (KJ (by omega)) fun h' eb=>⟨rfl,I.turned (t':=s.toks) (fun b o hb e=>eb b o hb e) f0 f1 f3 f4 f5⟩
 self:=fun _ _ s Q _ st h=>by
  have hT:s.TypeIs (.ref it) "dict_keyiterator":=st.typeIs
  refine wpAny_pyIter_slot hT F.slot_dict_keyiterator_iter (wpAny_call_entry F.slot_dict_keyiterator_iter hT F.entry_dict_keyiterator_iter ?_ (F.args_dict_keyiterator_iter_1 _))
  show wpAny _ _ (ret (.ref it)) _ _ s
  exact wpAny_pure ⟨_,rfl,"dict_keyiterator",_,hT,F.slot_dict_keyiterator_next.lookup,h⟩
section
variable{X:Cx}
def iKeys(te:TE):TI:=fun σ H R=>te σ H fun x H1=>∃ d kvs,x=.ref d/\H1 d=some (.dK kvs)/\∀ o,R (Itk o kvs d) (upd H1 d (.frz o (.dK kvs)))
theorem Hy{e:Expr}{te:TE}{tg:Expr}(he:PE X e te):PI X tg e (iKeys te):=by
 intro pins s σ H R I h
 refine thn (he pins s σ H _ I h) fun v s1 ⟨x,H1,I1,r1,q1⟩=>?_
 obtain⟨d,kvs,rfl,hd,q⟩:=q1
 cases r1
 obtain⟨_,ents,ep,hm,sz,_⟩:=wu (u:=.dK kvs) True.intro (I1.hok d _ hd)
 obtain⟨o,q1,q2,q3⟩:=id hm
 have I2:=I1.freeze hd True.intro q1
 obtain⟨lo,vs,rk,hat⟩:=DY (I2.hok d _ ae) q3
 have hl:kvs.length=vs.length:=Paired.length rk
 refine wpAny_pyIter_dict lo hat ?_
 refine⟨s1.heap.objs.size,[s1.heap.objs.size],_,_,upd H1 d (.frz o (.dK kvs)),rfl,I2.kept (t':=s1.toks) fun b u e=>Heap.get?_push_of_some _ e,Ci o kvs d _ ents ep q3,⟨_,Heap.get?_push_size _ rfl,rfl,by rw[hl];rfl⟩,fun b hb=>?_,q o⟩
 rw[Jq.mp hb]
 exact I2.fpOk (IY _) (I2.hok.fresh (IY _))
end
theorem F2{o:Obj}{kvs:List (Key×V)}{d:Addr}{g:TG}{tb:TS}{D:Ends}{σ:St}{H:Hp}(Pv:Nat->St->Hp->Prop)(h0:Pv 0 σ H)(hl:∀ i σ H,i<=kvs.length->Pv i σ H->H d=some (.frz o (.dK kvs)))
  (hs:∀ i k y σ H,kvs[i]?=some (k,y)->Pv i σ H->g (kV k) σ H fun σ2 H2=>tb { D with nx:=Pv (i+1),ct:=Pv (i+1),bk:=D.nx } σ2 H2) (hd:∀ σ H,Pv kvs.length σ H->D.nx σ H) :
  ∃ W:Nat->Nat->St->Hp->Prop,(∃ m,W 0 m σ H)/\∀ i m σ H,W i m σ H ->
   ((Itk o kvs d).stop i H/\D.nx σ H)∨((Itk o kvs d).go i H/\∃ N:St->Hp->Prop,(∀ σ' H',N σ' H'->∃ m',m'<m/\W (i+1) m' σ' H')/\∀ x H',(Itk o kvs d).yld i H x H'->g x σ H' fun σ2 H2=>tb { D with nx:=N,ct:=N,bk:=D.nx } σ2 H2):=by
 refine⟨fun i m σ H=>m=kvs.length-i/\i<=kvs.length/\Pv i σ H,⟨kvs.length,by simp,Kc _,h0⟩,?_⟩
 rintro i m σ H ⟨rfl,hi,p⟩
 have q:=hl i σ H hi p
 by_cases hlt:i<kvs.length
 ·refine .inr ⟨⟨q,hlt⟩,Pv (i+1),fun σ' H' p'=>⟨kvs.length-(i+1),by omega,rfl,hlt,p'⟩,fun v H' y=>?_⟩
  obtain⟨k,y,hy,rfl,rfl⟩:=y
  exact hs i k y σ _ hy p
 ·have e:i=kvs.length:=by omega
  subst e
  exact .inl ⟨⟨q,IY _⟩,hd σ H p⟩
section
variable{prog:Program}{w:World}{A:Around}{E:Value->Shared->Prop}{s:Shared}{T:String}{r d:Addr}{n:Nat}{P:Nat->Value->Prop}{OK:Heap->Prop}
theorem zL{Q:List Value->Shared->Prop}(K:PySem.W.KdlSrc prog w T r d n P OK)(hh:A.handled=none)(hok:OK s.heap)(hn:n<=sizeLine)
  (h:∀ h' tk acc',(∀ b o,s.heap.get? b=some o->h'.get? b=some o)->s.heap.objs.size<h'.objs.size->ItemsOf P acc' n->Q acc'.toList { s with heap:=h',toks:=tk }):wpAny (model prog w) A (collect (.ref r)) Q E s:=by
 unfold collect
 refine wpAny_bind (wpAny_runValue (codeAny_builtin entry_proto_collect' ?_))
 show wpAny _ _ (do again (.builtin "list.__iadd__" ⟨[← newList [],.ref r],[]⟩)) _ _ s
 refine wpAny_bind (wpAny_newList (wpAny_pure ⟨Code.quiet_builtin _ (by decide +kernel),codeAny_builtin entry_list_iadd' ?_⟩))
 rw[Around.under_plainId PySem.F.plain_list_iadd _]
 show wpAny _ A.in1 (Builtin.List.listExtendWith (.ref s.heap.objs.size) (.ref r) (.ref s.heap.objs.size)) _ _ { s with heap:=s.heap.push (seqObj "list" #[] 0) }
 have hlt:=K.there _ hok
 have G:=PySem.W.kdl_extend (A:=A) (R:=fun r s'=>∃ h' tk acc' c',r=.ok (.ret (.ref s.heap.objs.size))/\s'={ s with heap:=h',toks:=tk }/\(∀ b o,b≠s.heap.objs.size->(s.heap.push (seqObj "list" #[] 0)).get? b=some o->h'.get? b=some o)/\h'.get? s.heap.objs.size=some { cls:=.type "list",dict:=none,data:=.seq acc' c',slots:=#[] }/\ItemsOf P acc' n)
  (s:={ s with heap:=s.heap.push (seqObj "list" #[] 0) }) K hh (K.keep _ _ hok fun b _ o e=>Heap.get?_push_of_some _ e) _ (Kz hlt.1) (Kz hlt.2) (.ref s.heap.objs.size) 0 (Heap.get?_push_size _ rfl) (fun h' tk acc' c' hk hS hacc=>⟨h',tk,acc',c',rfl,rfl,hk,hS,hacc⟩) hn
 have fin:∀(r:Result)(s':Shared),(∃ h' tk acc' c',r=.ok (.ret (.ref s.heap.objs.size))/\s'={ s with heap:=h',toks:=tk }/\(∀ b o,b≠s.heap.objs.size->(s.heap.push (seqObj "list" #[] 0)).get? b=some o->h'.get? b=some o)/\h'.get? s.heap.objs.size=some { cls:=.type "list",dict:=none,data:=.seq acc' c',slots:=#[] }/\ItemsOf P acc' n)->∃ v,r=.ok (.ret v)/\v=.ref s.heap.objs.size/\wpAny (model prog w) A (do
   let o ← load s.heap.objs.size
   match o.data with
   |.seq xs _=>pure xs.toList
   |_=>unsupported "internal:collect") Q E s':=fun r s' ⟨h',tk,acc',c',e1,e2,hk,hS,hacc⟩=>⟨_,e1,rfl,by
  subst e2
  refine wpAny_bind (wpAny_load hS ?_)
  exact wpAny_pure (h h' tk acc' (fun b o e=>hk b o (Jw (Heap.lt_size e)) (Heap.get?_push_of_some _ e)) (Heap.lt_size hS) hacc)⟩
 refine wpAny_mono G (fun fn s' q=>?_) (fun e s' q=>?_)
 ·cases fn with
  |done f =>
   obtain⟨v,e1,e2,z⟩:=fin _ _ q
   cases e1
   cases e2
   exact z
  |again c =>
   refine⟨q.1,codeAny_mono q.2 fun r s'' q'=>?_⟩
   obtain⟨v,e1,e2,z⟩:=fin _ _ q'
   cases e1
   cases e2
   exact z
 ·obtain⟨v,e1,_⟩:=fin _ _ q
  cases e1
end
section
variable{X:Cx}
def rSortE:List V->Hp->VK->Prop:=fun xs H Q=>∃(d:Addr)(kvs:List (Key×V))(ns:List Int),xs = [.ref d]/\Rd H d (.dK kvs)/\kvs.map (·.1)=ns.map Sum.inl/\ns.length<64/\∀(l:Addr)(out:List Int),H l=none->out.Perm ns->out.Pairwise (·<=·)->Q (.ref l) (upd H l (.lst (out.map V.int)))
theorem BS(hc:X.calm=true):ku X (.builtin "sorted") rSortE:=by
 intro pins s σ H xs us Q I r h
 obtain⟨d,kvs,ns,rfl,hd,ek,h64,q⟩:=h
 obtain⟨u,rfl,ru⟩:=vb r
 cases ru
 obtain⟨hz,lo,vs,rk,hm⟩:=BK I.hok hd
 obtain⟨ep,hat⟩:=hm.dictAt
 have hl:kvs.length=vs.length:=Paired.length rk
 refine Calls.call_function_entry kind_sorted plain_sorted entry_sorted (args_sorted1 _) ?_
 unfold Builtin.«sorted»
 refine wpAny_bind (m:=checkCount "sorted" 1 1 _) (wpAny_pure ?_)
 refine wpAny_bind (zL (PySem.W.kdl_dict (knd:=bA X.prog X.w) (kvs:=vs) (ep:=ep) lo) (I.ok.hd hc) hat (by rw[← hl];exact hz) fun h' tk acc' hk hlt hacc=>?_)
 have hvs:Vals (kvs.map fun q=>kV q.1) acc'.toList:=vY (P:=X.prog) (w:=X.w) rk (by rw[Kf];exact hacc.1) fun j v ej=>hacc.2 j v (by rw[← Lk];exact ej)
 have eks:(kvs.map fun q=>kV q.1)=ns.map V.int:=by
  have:(kvs.map fun q=>kV q.1)=(kvs.map (·.1)).map kV:=by rw[Km];rfl
  rw[this,ek,Km]
  rfl
 rw[eks]at hvs
 have hi:=kS hvs
 have hlen:acc'.toList.length<=sizeLine:=by
  rw[Kf,hacc.1,← hl];exact hz
 have h64':acc'.toList.length<64:=by
  have:=hvs.length
  rw[IV]at this
  omega
 refine wpAny_bind (wpAny_newList ?_ hlen)
 have hoL:(h'.push (seqObj "list" acc'.toList.toArray 0)).get? h'.objs.size=some (seqObj "list" acc'.toList.toArray 0):=Heap.get?_push_size _ rfl
 show wpAny _ _ _ _ _ { s with heap:=h'.push (seqObj "list" acc'.toList.toArray 0),toks:=tk }
 have keepH:∀(out:Array Value)(b:Addr)(o:Obj),s.heap.get? b=some o->(sortedHeap (h'.push (seqObj "list" acc'.toList.toArray 0)) h'.objs.size acc'.toList out).get? b=some o:=fun out b o e=>by
  have e2:=hk b o e
  rw[sortedHeap_old (Jw (Heap.lt_size e2)) (by rw[Heap.size_push];exact K0 (Heap.lt_size e2))]
  exact Heap.get?_push_of_some _ e2
 have hsz:s.heap.objs.size<=h'.objs.size:=JT hlt
 refine wpAny_bind (wpAny_holding (wpAny_call_entry slot_list_sort ⟨_,hoL,rfl⟩ entry_list_sort (list_sort_tree hoL hi h64' fun out ns' a1 a2 a3=>⟨_,rfl,?_⟩) (args_list_sort _)))
 obtain⟨e,he⟩:=sortedHeap_at (out:=out) hoL
 refine wpAny_pure ⟨_,rfl,?_⟩
 refine⟨.ref h'.objs.size,_,I.laid (t':=tk) (keepH out) hsz (show br X.prog X.w _ _ _ (.lst (ns'.map V.int)) from⟨?_,out.toList,e,xu a1,?_⟩),rfl,q _ ns' (I.hok.fresh hsz) a2 a3⟩
 ·have e1:kvs.length=ns.length:=by
   have:=congrArg List.length ek
   rwa[IV,IV]at this
  rw[IV,a2.length_eq,← e1]
  exact hz
 ·exact he
end
abbrev bf(h:Heap)(T:Addr)(a b c:Value):Prop:=h.get? T=some { cls:=.type "tuple",data:=.seq #[a,b,c] }
section
variable{prog:Program}{w:World}{A:Around}{E:Value->Shared->Prop}{s:Shared}
theorem bS{T:Addr}{a b c x:Value}{k:Nat}{Q:Unit->Shared->Prop}(hT:bf s.heap T a b c)
  (h:∀ h',h'.get? T=some { cls:=.type "tuple",data:=.seq ((#[a,b,c]:Array Value).setIfInBounds k x) }->Heap.SameBut T s.heap h'->Q () { s with heap:=h' }) :
  wpAny (model prog w) A (updateSeq T (·.setIfInBounds k x)) Q E s:=by
 refine wpAny_updateSeq hT rfl (h _ ?_ (Heap.SameBut.update ..))
 rw[Heap.get?_update_self _ hT rfl]
 simp[Obj.mapSeq]
structure Z3(z TI TO i1 i2 i3 l1 l2 l3:Addr):Prop where
 zs:∀ x∈[TI,TO,i1,i2,i3,l1,l2,l3],x≠z
 ts:∀ x∈[TI,i1,i2,i3,l1,l2,l3],x≠TO
 is1:∀ x∈[TI,i2,i3,l1,l2,l3],x≠i1
 is2:∀ x∈[TI,i1,i3,l1,l2,l3],x≠i2
 is3:∀ x∈[TI,i1,i2,l1,l2,l3],x≠i3
theorem G2{z TI TO i1 i2 i3 l1 l2 l3:Addr}{k:Nat}{xs ys zs:Array Value}{x y v a b c:Value}{Q:Value->Shared->Prop}(D:Z3 z TI TO i1 i2 i3 l1 l2 l3)
  (hz:IsZip s.heap z TI TO .none) (hTI:bf s.heap TI (.ref i1) (.ref i2) (.ref i3)) (hTO:bf s.heap TO a b c)
  (h1:s.heap.IsListIter i1 l1 k) (h2:s.heap.IsListIter i2 l2 k) (h3:s.heap.IsListIter i3 l3 k) (hl1:s.heap.IsList l1 xs) (hl2:s.heap.IsList l2 ys) (hl3:s.heap.IsList l3 zs) (hx:xs[k]?=some x) (hy:ys[k]?=some y) (hv:zs[k]?=some v)
  (hQ:∀ h',IsZip h' z TI TO (rawInt s.heap.objs.size)->bf h' TO x y v->h'.IsListIter i1 l1 (k+1)->h'.IsListIter i2 l2 (k+1)->h'.IsListIter i3 l3 (k+1)->bf h' s.heap.objs.size x y v->h'.objs.size=s.heap.objs.size+1 ->
   (∀ c o,c∉[z,TO,i1,i2,i3]->s.heap.get? c=some o->h'.get? c=some o)->Q (.ref s.heap.objs.size) { s with heap:=h' }) :
  wpAny (model prog w) A (Builtin.«zip.__next__» ⟨[.ref z],[]⟩) (fun fin s'=>∃ v,fin=.done (.ret v)/\Q v s') E s:=by
 obtain⟨zs',ts',s1',s2',s3'⟩:=D
 simp only[Ja,JK,or_false,forall_eq_or_imp,forall_eq]at zs' ts' s1' s2' s3'
 obtain⟨TIz,TOz,i1z,i2z,i3z,l1z,l2z,l3z⟩:=zs'
 obtain⟨TITO,i1TO,i2TO,i3TO,l1TO,l2TO,l3TO⟩:=ts'
 obtain⟨TIi1,i21,i31,l1i1,l2i1,l3i1⟩:=s1'
 obtain⟨TIi2,i12,i32,l1i2,l2i2,l3i2⟩:=s2'
 obtain⟨TIi3,i13,i23,l1i3,l2i3,l3i3⟩:=s3'
 show wpAny _ _ (field (.ref z) 2 >>= _) _ _ _
 refine wpAny_bind (wpAny_field hz rfl (x:=.bool false) rfl ?_)
 show wpAny _ _ (field (.ref z) 3 >>= _) _ _ _
 refine wpAny_bind (wpAny_field hz rfl (x:=.ref TI) rfl ?_)
 refine wpAny_bind (wpAny_seqItems hTI rfl ?_)
 show wpAny _ _ (Builtin.SmallTypes.ownedTupleIsFree (.ref z) >>= _) _ _ _
 refine wpAny_bind ?_
 unfold Builtin.SmallTypes.ownedTupleIsFree
 refine wpAny_bind (wpAny_field hz rfl (x:=.none) rfl (wpAny_pure ?_))
 simp only[if_true]
 refine wpAny_bind (wpAny_rule ?_)
 refine wpAny_bind (wpAny_field hz rfl (x:=.ref TO) rfl ?_)
 refine wpAny_bind (wpAny_setField_rec hz (by simp) fun h₁ hz₁ hs₁=>?_)
 replace hz₁:IsZip h₁ z TI TO .ellipsis:=hz₁
 refine wpAny_bind ?_
 simp only[List.zipIdx_cons,List.zipIdx_nil,List.forIn_cons,List.forIn_nil]
 refine wpAny_bind (wpAny_bind (wpAny_onRaise ?_))
 show wpAny _ _ (Builtin.SmallTypes.nextOf (.ref i1) >>= _) _ _ _
 refine wpAny_bind (wpAny_nextOf_list_item (h1.extBut hs₁.extBut i1z) (hl1.extBut hs₁.extBut l1z) hx fun h₂ h1₂ hs₂=>wpAny_pure ?_)
 have hTO₂:bf h₂ TO a b c:=hs₂.extBut _ _ i1TO.symm (hs₁.extBut _ _ TOz hTO)
 refine wpAny_bind (wpAny_seqItems hTO₂ rfl ?_)
 refine wpAny_bind (bS hTO₂ fun h₃ hTO₃ hs₃=>?_)
 replace hTO₃:bf h₃ TO x b c:=hTO₃
 refine wpAny_bind (wpAny_letGo (wpAny_pure ?_))
 refine wpAny_bind (wpAny_bind (wpAny_onRaise ?_))
 show wpAny _ _ (Builtin.SmallTypes.nextOf (.ref i2) >>= _) _ _ _
 refine wpAny_bind (wpAny_nextOf_list_item (((h2.extBut hs₁.extBut i2z).extBut hs₂.extBut i21).extBut hs₃.extBut i2TO)
  (((hl2.extBut hs₁.extBut l2z).extBut hs₂.extBut l2i1).extBut hs₃.extBut l2TO) hy fun h₄ h2₄ hs₄=>wpAny_pure ?_)
 have hTO₄:bf h₄ TO x b c:=hs₄.extBut _ _ i2TO.symm hTO₃
 refine wpAny_bind (wpAny_seqItems hTO₄ rfl ?_)
 refine wpAny_bind (bS hTO₄ fun h₅ hTO₅ hs₅=>?_)
 replace hTO₅:bf h₅ TO x y c:=hTO₅
 refine wpAny_bind (wpAny_letGo (wpAny_pure ?_))
 refine wpAny_bind (wpAny_bind (wpAny_onRaise ?_))
 show wpAny _ _ (Builtin.SmallTypes.nextOf (.ref i3) >>= _) _ _ _
 refine wpAny_bind (wpAny_nextOf_list_item (((((h3.extBut hs₁.extBut i3z).extBut hs₂.extBut i31).extBut hs₃.extBut i3TO).extBut hs₄.extBut i32).extBut hs₅.extBut i3TO)
  (((((hl3.extBut hs₁.extBut l3z).extBut hs₂.extBut l3i1).extBut hs₃.extBut l3TO).extBut hs₄.extBut l3i2).extBut hs₅.extBut l3TO) hv fun h₆ h3₆ hs₆=>wpAny_pure ?_)
 have hTO₆:bf h₆ TO x y c:=hs₆.extBut _ _ i3TO.symm hTO₅
 refine wpAny_bind (wpAny_seqItems hTO₆ rfl ?_)
 refine wpAny_bind (bS hTO₆ fun h₇ hTO₇ hs₇=>?_)
 replace hTO₇:bf h₇ TO x y v:=hTO₇
 refine wpAny_bind (wpAny_letGo (wpAny_pure (wpAny_pure ?_)))
 refine wpAny_bind (wpAny_seqItems hTO₇ rfl ?_)
 refine wpAny_bind (wpAny_newTuple ?_)
 have hsz:h₇.objs.size=s.heap.objs.size:=by rw[hs₇.1,hs₆.1,hs₅.1,hs₄.1,hs₃.1,hs₂.1,hs₁.1]
 have hz₇:IsZip h₇ z TI TO .ellipsis:=hs₇.extBut _ _ TOz.symm (hs₆.extBut _ _ i3z.symm (hs₅.extBut _ _ TOz.symm (hs₄.extBut _ _ i2z.symm (hs₃.extBut _ _ TOz.symm (hs₂.extBut _ _ i1z.symm hz₁)))))
 have hk₇:∀ c o,c∉[z,TO,i1,i2,i3]->s.heap.get? c=some o->h₇.get? c=some o:=fun c o hc e=>by
  simp only[Ja,JK,or_false,not_or]at hc
  obtain⟨c1,c2,c3,c4,c5⟩:=hc
  exact hs₇.extBut _ _ c2 (hs₆.extBut _ _ c5 (hs₅.extBut _ _ c2 (hs₄.extBut _ _ c4 (hs₃.extBut _ _ c2 (hs₂.extBut _ _ c3 (hs₁.extBut _ _ c1 e))))))
 have h1₇:h₇.IsListIter i1 l1 (k+1):=((((h1₂.extBut hs₃.extBut i1TO).extBut hs₄.extBut i12).extBut hs₅.extBut i1TO).extBut hs₆.extBut i13).extBut hs₇.extBut i1TO
 have h2₇:h₇.IsListIter i2 l2 (k+1):=((h2₄.extBut hs₅.extBut i2TO).extBut hs₆.extBut i23).extBut hs₇.extBut i2TO
 have h3₇:h₇.IsListIter i3 l3 (k+1):=h3₆.extBut hs₇.extBut i3TO
 have hzlt:z<h₇.objs.size:=Heap.lt_size hz₇
 show wpAny _ _ (Builtin.SmallTypes.ownedTupleHandOut (.ref z) (.ref h₇.objs.size) >>= _) _ _ _
 refine wpAny_bind ?_
 unfold Builtin.SmallTypes.ownedTupleHandOut
 have hz₈:IsZip (h₇.push { cls:=.type "tuple",data:=.seq #[x,y,v] }) z TI TO .ellipsis:=Heap.get?_push_of_some _ hz₇
 refine wpAny_bind (wpAny_setField_rec hz₈ (by simp) fun h₉ hz₉ hs₉=>?_)
 replace hz₉:IsZip h₉ z TI TO (rawInt h₇.objs.size):=hz₉
 refine wpAny_setField_rec hz₉ (by simp) fun hA hzA hsA=>?_
 replace hzA:IsZip hA z TI TO (rawInt h₇.objs.size):=hzA
 have up:∀ c o,c≠z->h₇.get? c=some o->hA.get? c=some o:=fun c o c1 e=>hsA.extBut _ _ c1 (hs₉.extBut _ _ c1 (Heap.get?_push_of_some _ e))
 have hTA:bf hA h₇.objs.size x y v:=hsA.extBut _ _ (Kz hzlt) (hs₉.extBut _ _ (Kz hzlt) (Heap.get?_push_size _ rfl))
 have hzA2:hA.objs.size=h₇.objs.size+1:=by rw[hsA.1,hs₉.1,Heap.size_push]
 rw[hsz]at hzA hTA hzA2
 refine wpAny_pure ⟨_,rfl,?_⟩
 show Q (.ref h₇.objs.size) _
 rw[hsz]
 exact hQ hA hzA (up _ _ TOz hTO₇) (h1₇.at fun o e=>up _ o i1z e) (h2₇.at fun o e=>up _ o i2z e) (h3₇.at fun o e=>up _ o i3z e) hTA hzA2 fun c o hc e=>up c o (fun z=>hc (by simp[z])) (hk₇ c o hc e)
theorem z3_end{z TI TO i1 i2 i3 l1 l2 l3:Addr}{k:Nat}{xs ys zs:Array Value}{a b c:Value}{Q:Fin->Shared->Prop}(hh:A.handled=none)(D:Z3 z TI TO i1 i2 i3 l1 l2 l3)
  (hz:IsZip s.heap z TI TO .none) (hTI:bf s.heap TI (.ref i1) (.ref i2) (.ref i3)) (hTO:bf s.heap TO a b c)
  (h1:s.heap.IsListIter i1 l1 k) (h2:s.heap.IsListIter i2 l2 k) (h3:s.heap.IsListIter i3 l3 k) (hl1:s.heap.IsList l1 xs) (hl2:s.heap.IsList l2 ys) (hl3:s.heap.IsList l3 zs) (hend:xs[k]?=none∨ys[k]?=none∨zs[k]?=none)
  (hE:∀ h' e,(∀ c o,c∉[z,TO,i1,i2,i3]->s.heap.get? c=some o->h'.get? c=some o)->(∃ o,h'.get? e=some o/\o.cls=.type "StopIteration")->E (.ref e) { s with heap:=h' }) :
  wpAny (model prog w) A (Builtin.«zip.__next__» ⟨[.ref z],[]⟩) Q E s:=by
 obtain⟨zs',ts',s1',s2',s3'⟩:=D
 simp only[Ja,JK,or_false,forall_eq_or_imp,forall_eq]at zs' ts' s1' s2' s3'
 obtain⟨TIz,TOz,i1z,i2z,i3z,l1z,l2z,l3z⟩:=zs'
 obtain⟨TITO,i1TO,i2TO,i3TO,l1TO,l2TO,l3TO⟩:=ts'
 obtain⟨TIi1,i21,i31,l1i1,l2i1,l3i1⟩:=s1'
 obtain⟨TIi2,i12,i32,l1i2,l2i2,l3i2⟩:=s2'
 obtain⟨TIi3,i13,i23,l1i3,l2i3,l3i3⟩:=s3'
 have nin:∀ c,c∉[z,TO,i1,i2,i3]->c≠z/\c≠TO/\c≠i1/\c≠i2/\c≠i3:=fun c hc=>by
  simp only[Ja,JK,or_false,not_or]at hc
  exact hc
 show wpAny _ _ (field (.ref z) 2 >>= _) _ _ _
 refine wpAny_bind (wpAny_field hz rfl (x:=.bool false) rfl ?_)
 show wpAny _ _ (field (.ref z) 3 >>= _) _ _ _
 refine wpAny_bind (wpAny_field hz rfl (x:=.ref TI) rfl ?_)
 refine wpAny_bind (wpAny_seqItems hTI rfl ?_)
 show wpAny _ _ (Builtin.SmallTypes.ownedTupleIsFree (.ref z) >>= _) _ _ _
 refine wpAny_bind ?_
 unfold Builtin.SmallTypes.ownedTupleIsFree
 refine wpAny_bind (wpAny_field hz rfl (x:=.none) rfl (wpAny_pure ?_))
 simp only[if_true]
 refine wpAny_bind (wpAny_rule ?_)
 refine wpAny_bind (wpAny_field hz rfl (x:=.ref TO) rfl ?_)
 refine wpAny_bind (wpAny_setField_rec hz (by simp) fun h₁ hz₁ hs₁=>?_)
 replace hz₁:IsZip h₁ z TI TO .ellipsis:=hz₁
 refine wpAny_bind ?_
 simp only[List.zipIdx_cons,List.zipIdx_nil,List.forIn_cons,List.forIn_nil]
 refine wpAny_bind (wpAny_bind (wpAny_onRaise ?_))
 show wpAny _ _ (Builtin.SmallTypes.nextOf (.ref i1) >>= _) _ _ _
 cases hx:xs[k]? with
 |none =>
  refine wpAny_bind (wpAny_nextOf_list_end hh (h1.extBut hs₁.extBut i1z) (hl1.extBut hs₁.extBut l1z) hx fun h₂ e hs₂ he=>?_)
  obtain⟨oe,hoe,hce⟩:=he
  have hz₂:IsZip h₂ z TI TO .ellipsis:=hs₂ _ _ i1z.symm hz₁
  have hez:e≠z:=fun x=>by subst x;rw[hz₂]at hoe;cases hoe;simp at hce
  exact wpAny_setField_rec hz₂ (by simp) fun h₃ _ hs₃=>hE h₃ e (fun c o hc x=>have q:=nin c hc;hs₃.extBut _ _ q.1 (hs₂ _ _ q.2.2.1 (hs₁.extBut _ _ q.1 x))) ⟨oe,hs₃.extBut _ _ hez hoe,hce⟩
 |some x =>
  refine wpAny_bind (wpAny_nextOf_list_item (h1.extBut hs₁.extBut i1z) (hl1.extBut hs₁.extBut l1z) hx fun h₂ h1₂ hs₂=>wpAny_pure ?_)
  have hTO₂:bf h₂ TO a b c:=hs₂.extBut _ _ i1TO.symm (hs₁.extBut _ _ TOz hTO)
  refine wpAny_bind (wpAny_seqItems hTO₂ rfl ?_)
  refine wpAny_bind (bS hTO₂ fun h₃ hTO₃ hs₃=>?_)
  replace hTO₃:bf h₃ TO x b c:=hTO₃
  refine wpAny_bind (wpAny_letGo (wpAny_pure ?_))
  refine wpAny_bind (wpAny_bind (wpAny_onRaise ?_))
  show wpAny _ _ (Builtin.SmallTypes.nextOf (.ref i2) >>= _) _ _ _
  cases hy:ys[k]? with
  |none =>
   refine wpAny_bind (wpAny_nextOf_list_end hh (((h2.extBut hs₁.extBut i2z).extBut hs₂.extBut i21).extBut hs₃.extBut i2TO)
    (((hl2.extBut hs₁.extBut l2z).extBut hs₂.extBut l2i1).extBut hs₃.extBut l2TO) hy fun h₄ e hs₄ he=>?_)
   obtain⟨oe,hoe,hce⟩:=he
   have hz₄:IsZip h₄ z TI TO .ellipsis:=hs₄ _ _ i2z.symm (hs₃.extBut _ _ TOz.symm (hs₂.extBut _ _ i1z.symm hz₁))
   have hez:e≠z:=fun x=>by subst x;rw[hz₄]at hoe;cases hoe;simp at hce
   exact wpAny_setField_rec hz₄ (by simp) fun h₅ _ hs₅=>hE h₅ e (fun c o hc x=>have q:=nin c hc;hs₅.extBut _ _ q.1 (hs₄ _ _ q.2.2.2.1 (hs₃.extBut _ _ q.2.1 (hs₂.extBut _ _ q.2.2.1 (hs₁.extBut _ _ q.1 x))))) ⟨oe,hs₅.extBut _ _ hez hoe,hce⟩
  |some y =>
   have hv:zs[k]?=none:=by
    rcases hend with h | h | h
    ·rw[hx]at h;cases h
    ·rw[hy]at h;cases h
    ·exact h
   refine wpAny_bind (wpAny_nextOf_list_item (((h2.extBut hs₁.extBut i2z).extBut hs₂.extBut i21).extBut hs₃.extBut i2TO)
    (((hl2.extBut hs₁.extBut l2z).extBut hs₂.extBut l2i1).extBut hs₃.extBut l2TO) hy fun h₄ h2₄ hs₄=>wpAny_pure ?_)
   have hTO₄:bf h₄ TO x b c:=hs₄.extBut _ _ i2TO.symm hTO₃
   refine wpAny_bind (wpAny_seqItems hTO₄ rfl ?_)
   refine wpAny_bind (bS hTO₄ fun h₅ hTO₅ hs₅=>?_)
   replace hTO₅:bf h₅ TO x y c:=hTO₅
   refine wpAny_bind (wpAny_letGo (wpAny_pure ?_))
   refine wpAny_bind (wpAny_bind (wpAny_onRaise ?_))
   show wpAny _ _ (Builtin.SmallTypes.nextOf (.ref i3) >>= _) _ _ _
   refine wpAny_bind (wpAny_nextOf_list_end hh (((((h3.extBut hs₁.extBut i3z).extBut hs₂.extBut i31).extBut hs₃.extBut i3TO).extBut hs₄.extBut i32).extBut hs₅.extBut i3TO)
    (((((hl3.extBut hs₁.extBut l3z).extBut hs₂.extBut l3i1).extBut hs₃.extBut l3TO).extBut hs₄.extBut l3i2).extBut hs₅.extBut l3TO) hv fun h₆ e hs₆ he=>?_)
   obtain⟨oe,hoe,hce⟩:=he
   have hz₆:IsZip h₆ z TI TO .ellipsis:=hs₆ _ _ i3z.symm (hs₅.extBut _ _ TOz.symm (hs₄.extBut _ _ i2z.symm (hs₃.extBut _ _ TOz.symm (hs₂.extBut _ _ i1z.symm hz₁))))
   have hez:e≠z:=fun x=>by subst x;rw[hz₆]at hoe;cases hoe;simp at hce
   exact wpAny_setField_rec hz₆ (by simp) fun h₇ _ hs₇=>hE h₇ e (fun c o hc x=>have q:=nin c hc;hs₇.extBut _ _ q.1 (hs₆ _ _ q.2.2.2.2 (hs₅.extBut _ _ q.2.1 (hs₄.extBut _ _ q.2.2.2.1 (hs₃.extBut _ _ q.2.1 (hs₂.extBut _ _ q.2.2.1 (hs₁.extBut _ _ q.1 x))))))) ⟨oe,hs₇.extBut _ _ hez hoe,hce⟩
theorem G1{z TI TO i1 i2 i3 l1 l2 l3:Addr}{k:Nat}{xs ys zs:Array Value}{x y v a b c:Value}{Q:Option Value->Shared->Prop}(D:Z3 z TI TO i1 i2 i3 l1 l2 l3)
  (hz:IsZip s.heap z TI TO .none) (hTI:bf s.heap TI (.ref i1) (.ref i2) (.ref i3)) (hTO:bf s.heap TO a b c)
  (h1:s.heap.IsListIter i1 l1 k) (h2:s.heap.IsListIter i2 l2 k) (h3:s.heap.IsListIter i3 l3 k) (hl1:s.heap.IsList l1 xs) (hl2:s.heap.IsList l2 ys) (hl3:s.heap.IsList l3 zs) (hx:xs[k]?=some x) (hy:ys[k]?=some y) (hv:zs[k]?=some v)
  (hQ:∀ h',IsZip h' z TI TO (rawInt s.heap.objs.size)->bf h' TO x y v->h'.IsListIter i1 l1 (k+1)->h'.IsListIter i2 l2 (k+1)->h'.IsListIter i3 l3 (k+1)->bf h' s.heap.objs.size x y v->h'.objs.size=s.heap.objs.size+1 ->
   (∀ c o,c∉[z,TO,i1,i2,i3]->s.heap.get? c=some o->h'.get? c=some o)->Q (some (.ref s.heap.objs.size)) { s with heap:=h' }) :
  wpAny (model prog w) A (pyNext (.ref z)) Q E s:=by
 have hT:s.TypeIs (.ref z) "zip":=⟨_,hz,rfl⟩
 unfold pyNext
 exact wpAny_bind (wpAny_attempt (wpAny_callSpecial?_slot (name:=Str.ofString "__next__") hT F.slot_zip_next
  (wpAny_call_entry F.slot_zip_next hT F.entry_zip_next
   (G2 D hz hTI hTO h1 h2 h3 hl1 hl2 hl3 hx hy hv fun h' a1 a2 a3 a4 a5 a6 a7 a8=>wpAny_pure (hQ h' a1 a2 a3 a4 a5 a6 a7 a8)) (F.args_zip_next_1 _))))
theorem G3{z TI TO i1 i2 i3 l1 l2 l3:Addr}{k:Nat}{xs ys zs:Array Value}{a b c:Value}{Q:Option Value->Shared->Prop}(hh:A.handled=none)(D:Z3 z TI TO i1 i2 i3 l1 l2 l3)
  (hz:IsZip s.heap z TI TO .none) (hTI:bf s.heap TI (.ref i1) (.ref i2) (.ref i3)) (hTO:bf s.heap TO a b c)
  (h1:s.heap.IsListIter i1 l1 k) (h2:s.heap.IsListIter i2 l2 k) (h3:s.heap.IsListIter i3 l3 k) (hl1:s.heap.IsList l1 xs) (hl2:s.heap.IsList l2 ys) (hl3:s.heap.IsList l3 zs) (hend:xs[k]?=none∨ys[k]?=none∨zs[k]?=none)
  (hQ:∀ h',(∀ c o,c∉[z,TO,i1,i2,i3]->s.heap.get? c=some o->h'.get? c=some o)->Q none { s with heap:=h' }):wpAny (model prog w) A (pyNext (.ref z)) Q E s:=by
 have hT:s.TypeIs (.ref z) "zip":=⟨_,hz,rfl⟩
 unfold pyNext
 refine wpAny_bind (wpAny_attempt (wpAny_callSpecial?_slot (name:=Str.ofString "__next__") hT F.slot_zip_next
  (wpAny_call_entry F.slot_zip_next hT F.entry_zip_next (z3_end hh D hz hTI hTO h1 h2 h3 hl1 hl2 hl3 hend fun h' e hk he=>?_) (F.args_zip_next_1 _))))
 obtain⟨o,ho,hc⟩:=he
 refine wpAny_bind (wpAny_isInstance (T:="StopIteration") (b:=true) ⟨o,ho,hc⟩ isSubtype_stop ?_)
 exact wpAny_pure (hQ _ hk)
end
theorem qi(a b c:Value):checkTypeCall "zip" ⟨[a,b,c],[]⟩=pure ():=by kernel_rfl
theorem tV(a b c:Value):checkBuiltinCall "zip.__new__" ⟨[.type "zip",a,b,c],[]⟩=pure ():=by kernel_rfl
theorem zR(a b c d:Value):argsOk "object.__init__" ⟨[a,b,c,d],[]⟩:=by
 unfold argsOk;rw[signature?_of (id:="object.__init__") (n:=['_','_','t','i','n','i','_','_']) (o:=['t','c','e','j','b','o']) (by kernel_rfl) PySem.F.owner_object];kernel_rfl
abbrev li3(l:Addr):Obj:={ cls:=.type "list_iterator",data:=.fields #[.ref l,.int 0 0] }
abbrev z3H3(h:Heap)(l1 l2 l3:Addr):Heap:=((h.push (li3 l1)).push (li3 l2)).push (li3 l3)
abbrev z3H4(h:Heap)(l1 l2 l3:Addr):Heap:=(z3H3 h l1 l2 l3).push { cls:=.type "tuple",data:=.seq #[.ref h.objs.size,.ref (h.push (li3 l1)).objs.size,.ref ((h.push (li3 l1)).push (li3 l2)).objs.size] }
abbrev z3H5(h:Heap)(l1 l2 l3:Addr):Heap:=(z3H4 h l1 l2 l3).push { cls:=.type "tuple",data:=.seq #[.none,.none,.none] }
abbrev z3H6(h:Heap)(l1 l2 l3:Addr):Heap:=(z3H5 h l1 l2 l3).push { cls:=.type "zip",data:=.fields #[.none,.bool false,.bool false,.ref (z3H3 h l1 l2 l3).objs.size,.ref (z3H4 h l1 l2 l3).objs.size] }
theorem Br(l1 l2 l3:Addr)(xs ys zs:Array Value) :
  Meets (Builtin.«zip.__new__» ⟨[.type "zip",.ref l1,.ref l2,.ref l3],[]⟩) (fun _ R s=>s.heap.IsList l1 xs/\s.heap.IsList l2 ys/\s.heap.IsList l3 zs /\
   R (.ok (.ret (.ref (z3H5 s.heap l1 l2 l3).objs.size))) { s with heap:=z3H6 s.heap l1 l2 l3 }) :=
 .of_wp fun prog w A R s h=>by
  obtain⟨hp,g,d,tk,os⟩:=s;obtain⟨hl1,hl2,hl3,h⟩:=h
  have hsub:=sub_zip
  have hL1:Heap.IsList (Shared.heap ⟨hp,g,d,tk,os⟩) l1 xs:=hl1
  have hL2:Heap.IsList (Shared.heap ⟨hp.push { cls:=.type "list_iterator",data:=.fields #[.ref l1,.int 0 0] },g,d,tk,os⟩) l2 ys:=Heap.IsList.push hl2 _
  have hL3:Heap.IsList (Shared.heap ⟨(hp.push { cls:=.type "list_iterator",data:=.fields #[.ref l1,.int 0 0] }).push { cls:=.type "list_iterator",data:=.fields #[.ref l2,.int 0 0] },g,d,tk,os⟩) l3 zs:=Heap.IsList.push (Heap.IsList.push hl3 _) _
  wp_walk using wpAny_pyIter_list hL1,wpAny_pyIter_list hL2,wpAny_pyIter_list hL3
  exact⟨_,rfl,h⟩
theorem EC{prog:Program}{w:World}{A:Around}{E:Value->Shared->Prop}{s:Shared}{l1 l2 l3:Addr}{xs ys zs:Array Value}{Q:Value->Shared->Prop}(hl1:s.heap.IsList l1 xs)(hl2:s.heap.IsList l2 ys)(hl3:s.heap.IsList l3 zs)
  (h:∀ h',IsZip h' (s.heap.objs.size+5) (s.heap.objs.size+3) (s.heap.objs.size+4) .none->bf h' (s.heap.objs.size+3) (.ref s.heap.objs.size) (.ref (s.heap.objs.size+1)) (.ref (s.heap.objs.size+2)) ->
   bf h' (s.heap.objs.size+4) .none .none .none->h'.IsListIter s.heap.objs.size l1 0->h'.IsListIter (s.heap.objs.size+1) l2 0->h'.IsListIter (s.heap.objs.size+2) l3 0 ->
   (∀ c o,s.heap.get? c=some o->h'.get? c=some o)->Q (.ref (s.heap.objs.size+5)) { s with heap:=h' }) :
  wpAny (model prog w) A (call (.type "zip") [.ref l1,.ref l2,.ref l3]) Q E s:=by
 refine callType_new PySem.F.called_zip (by decide) (qi _ _ _) (tV _ _ _) (fun obj=>zR obj _ _ _) PySem.F.entry_zip_new
  (Br l1 l2 l3 xs ys zs) ⟨hl1,hl2,hl3,?_⟩
 have z1:(s.heap.push (li3 l1)).objs.size=s.heap.objs.size+1:=Heap.size_push ..
 have z2:((s.heap.push (li3 l1)).push (li3 l2)).objs.size=s.heap.objs.size+2:=by rw[Heap.size_push,z1]
 have z3:(z3H3 s.heap l1 l2 l3).objs.size=s.heap.objs.size+3:=by rw[Heap.size_push,z2]
 have z4:(z3H4 s.heap l1 l2 l3).objs.size=s.heap.objs.size+4:=by rw[Heap.size_push,z3]
 have z5:(z3H5 s.heap l1 l2 l3).objs.size=s.heap.objs.size+5:=by rw[Heap.size_push,z4]
 have g6:(z3H6 s.heap l1 l2 l3).get? (z3H5 s.heap l1 l2 l3).objs.size=some _:=Heap.get?_push_size _ rfl
 have g5:(z3H6 s.heap l1 l2 l3).get? (z3H4 s.heap l1 l2 l3).objs.size=some _:=Heap.get?_push_of_some _ (Heap.get?_push_size _ rfl)
 have g4:(z3H6 s.heap l1 l2 l3).get? (z3H3 s.heap l1 l2 l3).objs.size=some _:=Heap.get?_push_of_some _ (Heap.get?_push_of_some _ (Heap.get?_push_size _ rfl))
 have g3:(z3H6 s.heap l1 l2 l3).get? ((s.heap.push (li3 l1)).push (li3 l2)).objs.size=some _:=Heap.get?_push_of_some _ (Heap.get?_push_of_some _ (Heap.get?_push_of_some _ (Heap.get?_push_size _ rfl)))
 have g2:(z3H6 s.heap l1 l2 l3).get? (s.heap.push (li3 l1)).objs.size=some _:=Heap.get?_push_of_some _ (Heap.get?_push_of_some _ (Heap.get?_push_of_some _ (Heap.get?_push_of_some _ (Heap.get?_push_size _ rfl))))
 have g1:(z3H6 s.heap l1 l2 l3).get? s.heap.objs.size=some _:=Heap.get?_push_of_some _ (Heap.get?_push_of_some _ (Heap.get?_push_of_some _ (Heap.get?_push_of_some _ (Heap.get?_push_of_some _ (Heap.get?_push_size _ rfl)))))
 show _/\_
 rw[z3,z4,z5]at g6
 rw[z4]at g5
 rw[z3,z1,z2]at g4
 rw[z2]at g3
 rw[z1]at g2
 rw[z5]
 exact⟨⟨_,g6,rfl⟩,h _ g6 g4 g5 ⟨_,g1,rfl,rfl⟩ ⟨_,g2,rfl,rfl⟩ ⟨_,g3,rfl,rfl⟩ fun c o x =>
  Heap.get?_push_of_some _ (Heap.get?_push_of_some _ (Heap.get?_push_of_some _ (Heap.get?_push_of_some _ (Heap.get?_push_of_some _ (Heap.get?_push_of_some _ x)))))⟩
def Itz3(K:IT)(a b c:Addr):It :=
 ⟨fun i H=>∃ xs ys zs x y z,SqL K H a xs/\SqL K H b ys/\SqL K H c zs/\xs[i]?=some x/\ys[i]?=some y/\zs[i]?=some z,
  fun i H v H'=>∃ T x y z,H T=none/\v=.ref T/\H'=upd H T (.tup [x,y,z])/\(∀ xs,SqL K H a xs->xs[i]?=some x)/\(∀ ys,SqL K H b ys->ys[i]?=some y)/\∀ zs,SqL K H c zs->zs[i]?=some z,
  fun i H=>∃ xs ys zs,SqL K H a xs/\SqL K H b ys/\SqL K H c zs/\(xs.length<=i∨ys.length<=i∨zs.length<=i)⟩
theorem Cc{P:Program}{w:World}{K:IT}{es:List Expr}{k:Nat}{pos:Pos}(a b c z TI TO i1 i2 i3:Addr)(D:Z3 z TI TO i1 i2 i3 a b c):Turn P w K (.Tuple es k pos) (Itz3 K a b c) [z,TI,TO,i1,i2,i3] z
  (fun i h=>IsZip h z TI TO .none/\bf h TI (.ref i1) (.ref i2) (.ref i3)/\(∃ u v w,bf h TO u v w)/\h.IsListIter i1 a i/\h.IsListIter i2 b i/\h.IsListIter i3 c i) where
 mem:=by simp
 obj:=fun i h st d hd=>by
  obtain⟨kz,kI,⟨u,v,w,kO⟩,⟨o1,q1,c1,d1⟩,⟨o2,q2,c2,d2⟩,⟨o3,q3,c3,d3⟩⟩:=st
  simp only[Ja,JK,or_false]at hd
  rcases hd with rfl | rfl | rfl | rfl | rfl | rfl
  ·exact⟨_,kz,fun v z=>by have z':Data.fields _=Data.cell v:=z;cases z'⟩
  ·exact⟨_,kI,fun v z=>by have z':Data.seq _ _=Data.cell v:=z;cases z'⟩
  ·exact⟨_,kO,fun v z=>by have z':Data.seq _ _=Data.cell v:=z;cases z'⟩
  ·exact⟨o1,q1,fun v z=>by rw[d1]at z;cases z⟩
  ·exact⟨o2,q2,fun v z=>by rw[d2]at z;cases z⟩
  ·exact⟨o3,q3,fun v z=>by rw[d3]at z;cases z⟩
 keep:=fun i h h' st kk=>by
  obtain⟨kz,kI,⟨u,v,w,kO⟩,k1,k2,k3⟩:=st
  exact⟨kk _ (by simp) _ kz,kk _ (by simp) _ kI,⟨u,v,w,kk _ (by simp) _ kO⟩,k1.at fun o q=>kk i1 (by simp) o q,k2.at fun o q=>kk i2 (by simp) o q,k3.at fun o q=>kk i3 (by simp) o q⟩
 item:=by
  intro X hP hw hK hc i pins s σ H E I hf st hg
  subst hP hw hK
  obtain⟨xs,ys,zs,x,y,t,hq,hr,ht,hx,hy,hv⟩:=hg
  obtain⟨its,rv,p,hz⟩:=I.list hq
  obtain⟨its2,rv2,p2,hz2⟩:=I.list hr
  obtain⟨its3,rv3,p3,hz3⟩:=I.list ht
  obtain⟨u,hu,ru⟩:=rv.get hx
  obtain⟨u2,hu2,ru2⟩:=rv2.get hy
  obtain⟨u3,hu3,ru3⟩:=rv3.get hv
  obtain⟨kz,kI,⟨o1,o2,o3,kO⟩,k1,k2,k3⟩:=st
  refine G1 D kz kI kO k1 k2 k3 p.isList p2.isList p3.isList (x:=u) (y:=u2) (v:=u3) (by simpa using hu) (by simpa using hu2) (by simpa using hu3) fun h' a1 a2 a3 a4 a5 a6 a7 hk=>?_
  refine⟨_,rfl,?_⟩
  refine wpAny_letOwnedTupleGo_zip a1 fun h2 g1 hs2=>?_
  have hs2':Heap.SameBut z h' h2:=hs2
  have hfb:∀ d∈[z,TI,TO,i1,i2,i3],d<s.heap.objs.size:=fun d hd=>by
   simp only[Ja,JK,or_false]at hd
   rcases hd with rfl | rfl | rfl | rfl | rfl | rfl
   ·exact Heap.lt_size kz
   ·exact Heap.lt_size kI
   ·exact Heap.lt_size kO
   ·obtain⟨_,q,_⟩:=k1;exact Heap.lt_size q
   ·obtain⟨_,q,_⟩:=k2;exact Heap.lt_size q
   ·obtain⟨_,q,_⟩:=k3;exact Heap.lt_size q
  have hfr:H s.heap.objs.size=none:=I.hok.fresh (IY _)
  have I0:Inv X pins σ (upd H s.heap.objs.size (.tup [x,y,t])) { s with heap:=s.heap.push { cls:=.type "tuple",data:=.seq #[u,u2,u3] },toks:=s.toks } :=
   I.laid (t':=s.toks) (fun b u e=>Heap.get?_push_of_some _ e) (IY _) ⟨by show 3<=sizeLine;decide,[u,u2,u3],.cons ru (.cons ru2 (.cons ru3 .nil)),⟨_,Heap.get?_push_size _ rfl,rfl,_,rfl⟩⟩
  have hn:∀ d∈[z,TI,TO,i1,i2,i3],upd H s.heap.objs.size (.tup [x,y,t]) d=none:=fun d hd=>by
   rw[ao (Jw (hfb d hd))]
   exact(hf d hd).1
  have sub5:∀ d,d∉[z,TI,TO,i1,i2,i3]->d∉[z,TO,i1,i2,i3]:=fun d hd q=>hd (by
   simp only[Ja,JK,or_false]at q ⊢
   rcases q with q | q | q | q | q<;>simp[q])
  have I2:Inv X pins σ (upd H s.heap.objs.size (.tup [x,y,t])) { s with heap:=h2,toks:=s.toks }:=Inv.turnedL (s:={ s with heap:=s.heap.push { cls:=.type "tuple",data:=.seq #[u,u2,u3] },toks:=s.toks }) (h':=h2) I0 (t':=s.toks) (fp:=[z,TI,TO,i1,i2,i3]) (fun d o hd q=>by
   have n1:d≠z:=fun e=>hd (by simp[e])
   refine(hs2'.2 d n1).trans ?_
   rcases Heap.get?_push_cases q with⟨z1,z2⟩ | q
   ·rw[z1,z2];exact a6
   ·exact hk d o (sub5 d hd) q) fun d hd=>⟨hn d hd,(hf d hd).2⟩
  have TIn:TI∉[z,TO,i1,i2,i3]:=by
   simp only[Ja,JK,or_false,not_or]
   exact⟨D.zs _ (by simp),D.ts _ (by simp),D.is1 _ (by simp),D.is2 _ (by simp),D.is3 _ (by simp)⟩
  refine⟨.ref s.heap.objs.size,_,I2,rfl,⟨s.heap.objs.size,x,y,t,hfr,rfl,rfl,fun zs h=>by rw[I.list_inj h hq];exact hx,fun zs h=>by rw[I.list_inj h hr];exact hy,fun zs h=>by rw[I.list_inj h ht];exact hv⟩,?_,hn⟩
  refine⟨g1,(hs2'.2 TI (D.zs _ (by simp))).trans (hk _ _ TIn kI),⟨_,_,_,(hs2'.2 TO (D.zs _ (by simp))).trans a2⟩,a3.at fun o q=>(hs2'.2 i1 (D.zs _ (by simp))).trans q,a4.at fun o q=>(hs2'.2 i2 (D.zs _ (by simp))).trans q,a5.at fun o q=>(hs2'.2 i3 (D.zs _ (by simp))).trans q⟩
 done:=by
  intro X hP hw hK hc i pins s σ H E I hf st hg
  subst hP hw hK
  obtain⟨xs,ys,zs,hq,hr,ht,hx⟩:=hg
  obtain⟨its,rv,p,hz⟩:=I.list hq
  obtain⟨its2,rv2,p2,hz2⟩:=I.list hr
  obtain⟨its3,rv3,p3,hz3⟩:=I.list ht
  obtain⟨kz,kI,⟨o1,o2,o3,kO⟩,k1,k2,k3⟩:=st
  have hl:=rv.length
  have hl2:=rv2.length
  have hl3:=rv3.length
  refine G3 (I.ok.hd hc) D kz kI kO k1 k2 k3 p.isList p2.isList p3.isList ?_ fun h' eb=>⟨rfl,Inv.turnedL I (t':=s.toks) (fun d o hd e=>eb d o (fun q=>hd (by
   simp only[Ja,JK,or_false]at q ⊢
   rcases q with q | q | q | q | q<;>simp[q])) e) hf⟩
  rcases hx with hx | hx | hx
  ·exact .inl (by simp;omega)
  ·exact .inr (.inl (by simp;omega))
  ·exact .inr (.inr (by simp;omega))
 self:=fun _ _ _ _ _ st h=>wpAny_pyIter_zip st.1 h
theorem EY(n a b c:Nat)(ha:a<n)(hb:b<n)(hc:c<n):Z3 (n+5) (n+3) (n+4) n (n+1) (n+2) a b c:=by
 refine⟨?_,?_,?_,?_,?_⟩<;>(simp only[Ja,JK,or_false,forall_eq_or_imp,forall_eq])
 ·exact⟨aS _ _ (by omega),aS _ _ (by omega),aS _ _ (by omega),aS _ _ (by omega),aS _ _ (by omega),aS _ _ (by omega),aS _ _ (by omega),aS _ _ (by omega)⟩
 ·exact⟨aS _ _ (by omega),aS _ _ (by omega),aS _ _ (by omega),aS _ _ (by omega),aS _ _ (by omega),aS _ _ (by omega),aS _ _ (by omega)⟩
 ·exact⟨aS _ _ (by omega),aS _ _ (by omega),aS _ _ (by omega),aS _ _ (by omega),aS _ _ (by omega),aS _ _ (by omega)⟩
 ·exact⟨aS _ _ (by omega),aS _ _ (by omega),aS _ _ (by omega),aS _ _ (by omega),aS _ _ (by omega),aS _ _ (by omega)⟩
 ·exact⟨aS _ _ (by omega),aS _ _ (by omega),aS _ _ (by omega),aS _ _ (by omega),aS _ _ (by omega),aS _ _ (by omega)⟩
theorem vals3{a b c:V}{us:List Value}(h:Vals [a,b,c] us):∃ u v w,us = [u,v,w]/\RelV a u/\RelV b v/\RelV c w:=by
 cases h with
 |cons r1 t=>cases t with
  |cons r2 t=>cases t with
   |cons r3 t=>cases t;exact⟨_,_,_,rfl,r1,r2,r3⟩
section
variable{X:Cx}
def iZip3(K:IT)(ta:TA):TI:=fun σ H R=>ta σ H fun vs H1=>∃ a b c,vs = [.ref a,.ref b,.ref c]/\(∃ xs,SqL K H1 a xs)/\(∃ ys,SqL K H1 b ys)/\(∃ zs,SqL K H1 c zs)/\R (Itz3 K a b c) H1
theorem Hx{l1 l2 l3:Expr}{ta:TA}{es:List Expr}{k:Nat}{tp p pos:Pos} (hg:Gl X "zip") (hm:X.mg "zip" = none) (ha:PA X [l1,l2,l3] ta) (hs:starEach [l1,l2,l3] X.env=(false,eval l1 X.env)::starEach [l2,l3] X.env:=by rfl) (hs2:(backTo pos (starEach [l2,l3] X.env)).any (·.1)=false:=by rfl) :
  PI X (.Tuple es k tp) (.Call (.Name "zip" p) [l1,l2,l3] [] pos) (iZip3 X.K ta):=by
 intro pins s σ H R I h
 refine Call_ (mS I hg hm bt_zip (PyProof.Rows.callWith_type1 (thn (ha pos pins s σ H _ I h) fun us s1 ⟨vs,H1,I1,r1,q1⟩=>?_) hs hs2))
 obtain⟨a,b,c,e,⟨xs,hq⟩,⟨ys,hr⟩,⟨zs,ht⟩,q⟩:=q1
 subst e
 obtain⟨u,u2,u3,rfl,ru,ru2,ru3⟩:=vals3 r1
 cases ru
 cases ru2
 cases ru3
 obtain⟨its,rv,p,hz⟩:=I1.list hq
 obtain⟨its2,rv2,p2,hz2⟩:=I1.list hr
 obtain⟨its3,rv3,p3,hz3⟩:=I1.list ht
 have la:a<s1.heap.objs.size:=by obtain⟨_,_,q,_⟩:=p;exact Heap.lt_size q
 have lb:b<s1.heap.objs.size:=by obtain⟨_,_,q,_⟩:=p2;exact Heap.lt_size q
 have lc:c<s1.heap.objs.size:=by obtain⟨_,_,q,_⟩:=p3;exact Heap.lt_size q
 refine EC p.isList p2.isList p3.isList fun h' kz kI kO k1 k2 k3 hk=>?_
 refine wpAny_pyIter_zip kz ?_
 refine⟨s1.heap.objs.size+5,[s1.heap.objs.size+5,s1.heap.objs.size+3,s1.heap.objs.size+4,s1.heap.objs.size,s1.heap.objs.size+1,s1.heap.objs.size+2],_,_,H1,rfl,I1.kept (t':=s1.toks) hk,
  Cc a b c (s1.heap.objs.size+5) (s1.heap.objs.size+3) (s1.heap.objs.size+4) s1.heap.objs.size (s1.heap.objs.size+1) (s1.heap.objs.size+2) (EY _ a b c la lb lc),⟨kz,kI,⟨_,_,_,kO⟩,k1,k2,k3⟩,fun d hd=>?_,q⟩
 have hb':s1.heap.objs.size<=d:=by
  simp only[Ja,JK,or_false]at hd
  rcases hd with rfl | rfl | rfl | rfl | rfl | rfl
  ·exact Ll _ _
  ·exact Ll _ _
  ·exact Ll _ _
  ·exact IY _
  ·exact Ll _ _
  ·exact Ll _ _
 exact I1.fpOk hb' (I1.hok.fresh hb')
end
theorem F1{K:IT}{a b c:Addr}{xs ys zs:List V}{g:TG}{tb:TS}{D:Ends}{σ:St}{H:Hp}(n:Nat)(Pv:Nat->St->Hp->Prop)(h0:Pv 0 σ H)(h1:n<=xs.length)(h2:n<=ys.length)(h3:zs.length=n)(hl:∀ i σ H,i<=n->Pv i σ H->SqL K H a xs/\SqL K H b ys/\SqL K H c zs)
  (hs:∀ i x y z σ H T,xs[i]?=some x->ys[i]?=some y->zs[i]?=some z->Pv i σ H->H T=none->g (.ref T) σ (upd H T (.tup [x,y,z])) fun σ2 H2=>tb { D with nx:=Pv (i+1),ct:=Pv (i+1),bk:=D.nx } σ2 H2) (hd:∀ σ H,Pv n σ H->D.nx σ H) :
  ∃ W:Nat->Nat->St->Hp->Prop,(∃ m,W 0 m σ H)/\∀ i m σ H,W i m σ H ->
   ((Itz3 K a b c).stop i H/\D.nx σ H)∨((Itz3 K a b c).go i H/\∃ N:St->Hp->Prop,(∀ σ' H',N σ' H'->∃ m',m'<m/\W (i+1) m' σ' H')/\∀ x H',(Itz3 K a b c).yld i H x H'->g x σ H' fun σ2 H2=>tb { D with nx:=N,ct:=N,bk:=D.nx } σ2 H2):=by
 refine⟨fun i m σ H=>m=n-i/\i<=n/\Pv i σ H,⟨n,by simp,Kc _,h0⟩,?_⟩
 rintro i m σ H ⟨rfl,hi,p⟩
 obtain⟨q1,q2,q3⟩:=hl i σ H hi p
 by_cases hlt:i<n
 ·have l1:i<xs.length:=by omega
  have l2:i<ys.length:=by omega
  have l3:i<zs.length:=by omega
  refine .inr ⟨⟨xs,ys,zs,xs[i],ys[i],zs[i],q1,q2,q3,by simp[l1],by simp[l2],by simp[l3]⟩,Pv (i+1),fun σ' H' p'=>⟨n-(i+1),by omega,rfl,hlt,p'⟩,fun v H' y=>?_⟩
  obtain⟨T,x,y,z,hT,rfl,rfl,y1,y2,y3⟩:=y
  exact hs i x y z σ _ T (y1 xs q1) (y2 ys q2) (y3 zs q3) p hT
 ·have e:i=n:=by omega
  subst e
  exact .inl ⟨⟨xs,ys,zs,q1,q2,q3,.inr (.inr (by omega))⟩,hd σ H p⟩
theorem AR{K:IT}{a:Addr}{xs:List V}{te:TE}{fv:St}{H1:Hp}{QQ:List V->Hp->Prop}(Pv:Nat->List V->Hp->Prop)(hz:xs.length<=sizeLine)(h0:Pv 0 [] H1)(hl:∀ i ys H,i<=xs.length->Pv i ys H->SqT K H a xs)
  (hs:∀ i x ys H,xs[i]?=some x->Pv i ys H->te (some x::fv) H fun y H2=>Pv (i+1) (ys++[y]) H2) (hd:∀ ys H,ys.length=xs.length->Pv xs.length ys H->QQ ys H)
  : rD te fv (Itt K a) H1 QQ:=by
 refine⟨fun i m ys H=>m=xs.length-i/\i<=xs.length/\ys.length=i/\Pv i ys H,⟨xs.length,by simp,Kc _,rfl,h0⟩,?_⟩
 rintro i m ys H ⟨rfl,hi,hy,p⟩
 have q:=hl i ys H hi p
 refine⟨by omega,?_⟩
 by_cases hlt:i<xs.length
 ·refine .inr ⟨⟨xs,xs[i],q,by simp[hlt]⟩,fun y H2=>Pv (i+1) (ys++[y]) H2,fun y H2 p2=>⟨xs.length-(i+1),by omega,rfl,hlt,by rw[IX,hy];rfl,p2⟩,fun x H' y=>?_⟩
  obtain⟨e,y⟩:=y
  subst e
  exact hs i x ys _ (y xs q) p
 ·have e:i=xs.length:=by omega
  subst e
  exact .inl ⟨⟨xs,q,IY _⟩,hd ys H hy p⟩
end L2
namespace L2
open PySem PySem.Spec PyProof.Rows PySem.Calls Builtin Builtin.ObjectAttr Builtin.Getset_descriptor
def qa(x D:Addr)(h:Heap):Prop:=∃ o,h.get? x=some o/\o.cls=.ref D
theorem qa.type{x D:Addr}{h:Heap}(M:Model)(I:qa x D h):LF M h (typeOf (.ref x)) (.ref D):=by
 obtain⟨o,a,b⟩:=I
 exact b▸(PySem.W.Looks.ld a).andThen .now
structure ErC(K:IT)(D:Addr):Prop where
 ga:Jm K (.ref D) "__getattribute__" = some (some (.builtin "BaseException.__getattribute__"))
 gt:Jm K (.ref D) "__getattr__" = some none
 hb:Kd K D (.type "BaseException")=some true
 hd:Kq K D=true
 ha:Jm K (.ref D) "__class__" = some (some (.builtin "object.__class__"))
 hn:L6 K (.builtin "object.__class__") "__get__" = some (some (.builtin "getset_descriptor.__get__"))
 tk:Mh K (.builtin "object.__class__")=some true
 hm:Kd K D (.type "object")=some true
section
variable{prog:Program}{w:World}{A:Around}{E:Value->Shared->Prop}{s:Shared}{K:IT}{x D:Addr}
theorem Il{M:Model}{h:Heap}(X:K.In h)(e:ErC K D):LF M h (find (.ref x) (.ref D) "__class__") (.bind (.builtin "getset_descriptor.__get__") (.builtin "object.__class__")):=by
 have L1:=Lm (M:=M) X e.ha
 have L2:=PySem.W.looks_specialIn (M:=M) X e.hn
 have L3:=PySem.W.looks_takesIn (M:=M) X e.tk
 refine L1.andThen (L2.andThen ?_)
 exact(show LF M h (dataDescriptor? (some (.builtin "object.__class__")) (some (.builtin "getset_descriptor.__get__"))) (some (.builtin "getset_descriptor.__get__",.builtin "object.__class__")) from L3.andThen .now).andThen (PySem.W.Looks.tag .now)
theorem kd_get{R:Except Value Flow->Shared->Prop}{tp:Value}(X:K.In s.heap)(I:qa x D s.heap)(e:ErC K D)
  (h:R (.ok (.ret (.ref D))) s):codeAny (model prog w) A (.call (.builtin "getset_descriptor.__get__") ⟨[.builtin "object.__class__",.ref x,tp],[]⟩) R s:=by
 obtain⟨hh,g,dr,t,os⟩:=s
 have L0:=I.type (model prog w)
 have L1:=PySem.W.looks_mroIn (M:=model prog w) X e.hm
 refine codeAny_call_builtin PySem.W.KF.slot_gs.plain PySem.W.KF.entry_gs (PySem.W.KF.slot_gs.check _ _ _ _ _ _ _ _ PySem.W.KF.type_class (PySem.W.KF.args_gs _ _ _) ?_)
 unfold Builtin.«getset_descriptor.__get__» descrGet
 rw[PySem.W.dga_obj]
 refine wpAny_bind (wpAny_pure ?_)
 unfold descrGetter descrCheckInstance descrNameAndClass isInstance
 simp only[PySem.W.KF.owner_class]
 repeat lk
 refine⟨Code.quiet_builtin _ (by decide +kernel),codeAny_builtin PySem.W.KF.entry_class ?_⟩
 unfold Builtin.«object.__class__» shownTypeOf
 repeat lk
 exact h
theorem FQ{M:Model}{nameV:Value}{Q:Unit->Shared->Prop}(X:K.In s.heap)(I:qa x D s.heap)(e:ErC K D)(hq:Q () s):wpAny M A (checkBuiltinCall "BaseException.__getattribute__" ⟨[.ref x,nameV],[]⟩) Q E s:=by
 obtain⟨hh,g,d,t,os⟩:=s
 have hk:builtinKind "BaseException.__getattribute__" = some .slot:=by decide +kernel
 have hsplit:splitId "BaseException.__getattribute__" = some ("BaseException","__getattribute__"):=by decide +kernel
 have ha:=F.args_bexc_ga (.ref x) nameV
 have L0:=I.type M
 have L1:=PySem.W.looks_mroIn (M:=M) X e.hb
 have LI:LF M hh (isInstance (.ref x) (.type "BaseException")) true:=L0.andThen L1
 simp only[checkBuiltinCall,hk,hsplit]
 refine wpAny_bind (LI.at ?_)
 repeat (first | assumption | wp_step)
theorem FO{tk:Tok}{Q:Fin->Shared->Prop}(X:K.In s.heap)(I:qa x D s.heap)(e:ErC K D)(h:Q (.done (.ret (.ref D))) s):wpAny (model prog w) A (Builtin.«object.__getattribute__» ⟨[.ref x,.str "__class__" tk],[]⟩) Q E s:=by
 obtain⟨hh,g,d,t,os⟩:=s
 have L0:=I.type (model prog w)
 have L2:=Il (x:=x) (M:=model prog w) X e
 unfold Builtin.«object.__getattribute__»
 repeat (first | assumption | with_reducible refine L0.at ?_ | with_reducible refine L2.at ?_ | with_reducible refine wpAny_call (kd_get (K:=K) X I e ?_) | wp_step)
theorem FP{Q:Option Value->Shared->Prop}(X:K.In s.heap)(I:qa x D s.heap)(e:ErC K D)(h:Q (some (.ref D)) { s with toks:=s.toks+1 }):wpAny (model prog w) A (getAttr? (.ref x) "__class__") Q E s:=by
 obtain⟨hh,g,d,t,os⟩:=s
 have L0:=I.type (model prog w)
 have L1:=Lm (M:=model prog w) X e.ga
 have L3:=Lm (M:=model prog w) X e.gt
 have f3:=F.excAttr_ValueError.ga.bind (.ref x)
 unfold getAttr? getAttrBy? getAttrBy
 refine wpAny_bind (wpAny_mkText (wpAny_bind (wpAny_attempt (wpAny_holding (wpAny_bind (L0.at (wpAny_bind (L1.at ?_))))))))
 show wpAny _ _ (getAttrByItsOwn _ _ _ _ _ _) _ _ _
 unfold getAttrByItsOwn
 refine wpAny_bind (show wpAny _ _ (typeLookup _ _) _ _ _ from L3.at ?_)
 refine wpAny_bind (wpAny_attempt (wpAny_holding ?_))
 show wpAny _ _ (boundAndCalled _ _ _) _ _ _
 unfold boundAndCalled
 rw[f3]
 refine wpAny_bind (wpAny_pure ?_)
 refine wpAny_call (codeAny_call_builtin F.excAttr_ValueError.ga.plain F.entry_bexc_ga (FQ (s:=⟨hh,g,d,t+1,os⟩) X I e (FO (s:=⟨hh,g,d,t+1,os⟩) X I e ?_)))
 exact wpAny_mono (PySem.W.handed_on rfl (Q:=fun v s'=>v=.ref D/\s'=⟨hh,g,d,t+1,os⟩) ⟨rfl,rfl⟩) (fun v s'' hv=>by obtain⟨rfl,rfl⟩:=hv;exact wpAny_pure h) (fun _ _ z=>z)
theorem FN(e:ErC K D):PySem.W.KitX K (.ref x) (.ref D) (qa x D) where
 ty:=fun M _ _ I=>I.type M
 it:=fun _ _ X _=>by
  obtain⟨cdD,hcD,_⟩:=Me e.hd
  unfold Mu at hcD
  split at hcD
  ·rename_i c' d' cd' sl' ho
   intro A' Q' E' s' k q
   unfold isType loadHead
   exact wpAny_bind (wpAny_loadPart (k _ _ (X _ _ ho)) (wpAny_pure q))
  ·cases hcD
 ne:=fun h tp dd its n sl X htp=>by
  obtain⟨cdD,hcD,_⟩:=Me e.hd
  refine Bool.eq_false_iff.mpr fun q=>?_
  have e:D=tp:=Value.ref.inj (beq_iff_eq.mp q)
  subst e
  unfold Mu at hcD
  split at hcD
  ·rename_i c' d' cd' sl' ho
   have z:=(X _ _ ho).symm.trans htp
   cases z
  ·cases hcD
 ca:=fun X I k=>FP X I e k
end
theorem wO{X:Cx}:ku X (.builtin "isinstance") (fun xs H Q=>∃ x c d b,xs = [.ref x,.ref d]/\H x=some (excO x c)/\ErC X.K c/\Ks X.K (.ref c) (.ref d)=some b/\Q (.bl b) H):=by
 intro pins s σ H xs us Q I r h
 obtain⟨x,c,d,b,rfl,hx,ec,ek,q⟩:=h
 obtain⟨v1,v2,rfl,r1,r2⟩:=EZ r
 cases r1
 cases r2
 obtain⟨p,_,_⟩:=(show br X.prog X.w H s.heap x (excO x c) from I.hok x _ hx)
 exact Ki (FN ec) I.kIn p ek (fun z=>nomatch z) fun tk=>⟨.bl b,H,I.tok tk,rfl,q⟩
end L2
namespace L2
theorem len_0{α:Type}{l:List α}(h:l.length=0):l = []:=Kx.mp h
theorem Dw{α:Type}{l:List α}{n:Nat}(h:l.length=n+1):∃ x r,l=x::r/\r.length=n:=by
 cases l with
 |nil=>cases h
 |cons x r=>exact⟨x,r,rfl,Mc h⟩
theorem t9{α:Type}{l:List α}(h:l.length=1):∃ a,l = [a]:=by
 obtain⟨a,r,rfl,e⟩:=Dw h
 exact⟨a,by rw[len_0 e]⟩
theorem ig{α:Type}{l:List α}(h:l.length=2):∃ a b,l = [a,b]:=by
 obtain⟨a,r,rfl,e⟩:=Dw h
 obtain⟨b,rfl⟩:=t9 e
 exact⟨a,b,rfl⟩
theorem yS{α:Type}{l:List α}(h:l.length=3):∃ a b c,l = [a,b,c]:=by
 obtain⟨a,r,rfl,e⟩:=Dw h
 obtain⟨b,c,rfl⟩:=ig e
 exact⟨a,b,c,rfl⟩
theorem vW{α:Type}{l:List α}(h:l.length=4):∃ a b c d,l = [a,b,c,d]:=by
 obtain⟨a,r,rfl,e⟩:=Dw h
 obtain⟨b,c,d,rfl⟩:=yS e
 exact⟨a,b,c,d,rfl⟩
theorem len_5{α:Type}{l:List α}(h:l.length=5):∃ a b c d e,l = [a,b,c,d,e]:=by
 obtain⟨a,r,rfl,z⟩:=Dw h
 obtain⟨b,c,d,e,rfl⟩:=vW z
 exact⟨a,b,c,d,e,rfl⟩
end L2
namespace K8
theorem Gm:∀{a b:List Nat},a.Nodup->(∀ x∈a,x∈b)->a.length<=b.length
 |[],_,_,_=>Kc _
 |x::a,b,nd,h=>by
  obtain⟨n1,n2⟩:=JD.mp nd
  have hx:=h x (by simp)
  have ih:=Gm (a:=a) (b:=b.erase x) n2 fun y hy=>(List.mem_erase_of_ne (fun e:y=x=>n1 (e▸hy))).mpr (h y (Jk _ hy))
  rw[Mt hx]at ih
  have:0<b.length:=KG hx
  rw[JL]
  omega
theorem ic{a:List Nat}{N:Nat}(nd:a.Nodup)(h:∀ x∈a,x<N):a.length<=N:=by
 have:=Gm (b:=Ju N) nd fun x hx=>Jx.mpr (h x hx)
 rwa[JH]at this
theorem Gx{l:List Nat}(nd:l.Nodup){i j x:Nat}(hi:l[i]?=some x)(hj:l[j]?=some x):i=j:=by
 have p:=JX.mp nd
 obtain⟨h1,e1⟩:=IS.mp hi
 obtain⟨h2,e2⟩:=IS.mp hj
 rcases L8 i j with z | z | z
 ·exact absurd (e1.trans e2.symm) (p i j h1 h2 z)
 ·exact z
 ·exact absurd (e2.trans e1.symm) (p j i h2 h1 z)
abbrev En:=List (Nat×Nat)
structure cX(m:Nat)(es:En)(ts:List (List Nat)):Prop where
 len:ts.length=m
 ends:∀ e∈es,e.1<m/\e.2<m/\e.1≠e.2
 nd:∀(p:Nat)(l:List Nat),ts[p]?=some l->l.Nodup
 mem:∀(p:Nat)(l:List Nat),ts[p]?=some l->∀ t,t∈l↔∃ e,es[t]?=some e/\(e.1=p∨e.2=p)
theorem E4(m:Nat):cX m [] (JW m []) where
 len:=by simp
 ends:=fun e h=>by cases h
 nd:=fun p l h=>by
  rw[Ky]at h
  split at h
  ·cases h;exact Mp
  ·cases h
 mem:=fun p l h t=>by
  rw[Ky]at h
  split at h
  ·cases h;simp
  ·cases h
def ins(l:List Nat)(k x:Nat):List Nat:=l.take k++x::l.drop k
theorem DP{l:List Nat}{k x y:Nat}:y∈ins l k x↔y=x∨y∈l:=by
 unfold ins
 rw[Jl,Ja]
 have:=Lj k l
 constructor
 ·rintro(h | h | h)
  ·exact .inr (Kb h)
  ·exact .inl h
  ·exact .inr (List.mem_of_mem_drop h)
 ·rintro(h | h)
  ·exact .inr (.inl h)
  ·rw[← this]at h
   rcases Jl.mp h with z | z
   ·exact .inl z
   ·exact .inr (.inr z)
theorem GB{l:List Nat}{k x:Nat}(nd:l.Nodup)(h:x∉l):(ins l k x).Nodup:=by
 unfold ins
 have e:=Lj k l
 rw[← e]at nd
 obtain⟨a,b,c⟩:=Ka.mp nd
 refine Ka.mpr ⟨a,JD.mpr ⟨fun z=>h (List.mem_of_mem_drop z),b⟩,fun y hy z hz=>?_⟩
 rcases Ja.mp hz with q | q
 ·intro w
  exact h (by rw[← q,← w];exact Kb hy)
 ·exact c y hy z q
theorem cX.put{m:Nat}{es:En}{ts:List (List Nat)}{one two k j:Nat}{l l':List Nat}(w:cX m es ts)(h1:one<m)(h2:two<m)(hn:one≠two)(e1:ts[one]?=some l)(e2:ts[two]?=some l') :
  cX m (es++[(one,two)]) ((ts.set one (ins l k es.length)).set two (ins l' j es.length)):=by
 have old:∀{p l},ts[p]?=some l->es.length∉l:=fun{p l} e z=>by
  obtain⟨x,hx,_⟩:=(w.mem p l e es.length).mp z
  have:=(IS.mp hx).1
  omega
 have get:∀ p q,((ts.set one (ins l k es.length)).set two (ins l' j es.length))[p]?=some q->(p=two/\q=ins l' j es.length)∨(p=one/\p≠two/\q=ins l k es.length)∨(p≠one/\p≠two/\ts[p]?=some q):=fun p q e=>by
  have L:two<(ts.set one (ins l k es.length)).length:=by rw[Ku,w.len];exact h2
  have L1:one<ts.length:=by rw[w.len];exact h1
  rw[KC]at e
  by_cases z:two=p
  ·rw[if_pos z,if_pos L]at e
   exact .inl ⟨z.symm,(Js e).symm⟩
  ·rw[if_neg z,KC]at e
   by_cases y:one=p
   ·rw[if_pos y,if_pos L1]at e
    exact .inr (.inl ⟨y.symm,Ne.symm z,(Js e).symm⟩)
   ·rw[if_neg y]at e
    exact .inr (.inr ⟨Ne.symm y,Ne.symm z,e⟩)
 have esg:∀ t x,(es++[(one,two)])[t]?=some x↔(es[t]?=some x)∨(t=es.length/\x=(one,two)):=fun t x=>by
  by_cases z:t<es.length
  ·rw[Jb z]
   constructor
   ·exact .inl
   ·rintro(y | y)
    ·exact y
    ·omega
  ·rw[IZ (by omega)]
   constructor
   ·intro y
    have hl:=(IS.mp y).1
    rw[Jg]at hl
    have ht:t=es.length:=by omega
    subst ht
    rw[JC]at y
    cases y
    exact .inr ⟨rfl,rfl⟩
   ·rintro(y | ⟨y,rfl⟩)
    ·have:=(IS.mp y).1;omega
    ·rw[y,JC];rfl
 refine⟨by rw[Ku,Ku];exact w.len,fun e he=>?_,fun p q e=>?_,fun p q e t=>?_⟩
 ·rcases Jl.mp he with z | z
  ·exact w.ends e z
  ·have:e=(one,two):=by simpa using z
   subst this
   exact⟨h1,h2,hn⟩
 ·rcases get p q e with⟨_,rfl⟩ | ⟨_,_,rfl⟩ | ⟨_,_,y⟩
  ·exact GB (w.nd two l' e2) (old e2)
  ·exact GB (w.nd one l e1) (old e1)
  ·exact w.nd p q y
 ·rcases get p q e with⟨rfl,rfl⟩ | ⟨rfl,np,rfl⟩ | ⟨n1,n2,y⟩
  ·rw[DP,w.mem p l' e2 t]
   constructor
   ·rintro(z | ⟨x,hx,hp⟩)
    ·exact⟨(one,p),(esg _ _).mpr (.inr ⟨z,rfl⟩),.inr rfl⟩
    ·exact⟨x,(esg _ _).mpr (.inl hx),hp⟩
   ·rintro⟨x,hx,hp⟩
    rcases(esg _ _).mp hx with z | ⟨z,_⟩
    ·exact .inr ⟨x,z,hp⟩
    ·exact .inl z
  ·rw[DP,w.mem p l e1 t]
   constructor
   ·rintro(z | ⟨x,hx,hp⟩)
    ·exact⟨(p,two),(esg _ _).mpr (.inr ⟨z,rfl⟩),.inl rfl⟩
    ·exact⟨x,(esg _ _).mpr (.inl hx),hp⟩
   ·rintro⟨x,hx,hp⟩
    rcases(esg _ _).mp hx with z | ⟨z,_⟩
    ·exact .inr ⟨x,z,hp⟩
    ·exact .inl z
  ·rw[w.mem p q y t]
   constructor
   ·rintro⟨x,hx,hp⟩
    exact⟨x,(esg _ _).mpr (.inl hx),hp⟩
   ·rintro⟨x,hx,hp⟩
    rcases(esg _ _).mp hx with z | ⟨z,rfl⟩
    ·exact⟨x,z,hp⟩
    ·rcases hp with hp | hp
     ·exact absurd hp.symm n1
     ·exact absurd hp.symm n2
def hd(es:En)(d:Nat):Nat:=match es[d/2]? with | some e=>if d%2=0 then e.2 else e.1 | none=>0
def tl(es:En)(d:Nat):Nat:=match es[d/2]? with | some e=>if d%2=0 then e.1 else e.2 | none=>0
def leave(es:En)(t p:Nat):Nat:=match es[t]? with | some e=>if e.1=p then 2*t else 2*t+1 | none=>0
def nxt(l:List Nat)(t:Nat):Nat:=(l[(l.idxOf t+1)%l.length]?).getD 0
def fol(es:En)(ts:List (List Nat))(d:Nat):Nat:=leave es (nxt ((ts[hd es d]?).getD []) (d/2)) (hd es d)
section
variable{m:Nat}{es:En}{ts:List (List Nat)}
theorem zd{l:List Nat}{t:Nat}(h:t∈l):l[l.idxOf t]?=some t:=by
 have hl:=K5.mpr h
 rw[IU hl,List.getElem_idxOf]
theorem tS{l:List Nat}{t:Nat}(h:t∈l):l[(l.idxOf t+1)%l.length]?=some (nxt l t):=by
 have hl:0<l.length:=KG h
 have:=Nat.mod_lt (l.idxOf t+1) hl
 unfold nxt
 rw[IU this]
 rfl
theorem cX.at(w:cX m es ts){d:Nat}(h:d<2*es.length):∃ e l,es[d/2]?=some e/\hd es d=(if d%2=0 then e.2 else e.1)/\tl es d=(if d%2=0 then e.1 else e.2)/\hd es d<m/\ts[hd es d]?=some l/\d/2∈l:=by
 have hl:d/2<es.length:=by omega
 have e1:es[d/2]?=some es[d/2]:=IU hl
 have q:=w.ends _ (IW e1)
 generalize es[d/2]=e at e1 q
 have h1:hd es d=(if d%2=0 then e.2 else e.1):=by unfold hd;rw[e1]
 have h2:tl es d=(if d%2=0 then e.1 else e.2):=by unfold tl;rw[e1]
 have h3:hd es d<m:=by rw[h1];split<;>omega
 have h4:ts[hd es d]?=some (ts[hd es d]'(by rw[w.len];exact h3)):=IU _
 refine⟨e,_,e1,h1,h2,h3,h4,(w.mem _ _ h4 _).mpr ⟨e,e1,?_⟩⟩
 rw[h1]
 split
 ·exact .inr rfl
 ·exact .inl rfl
theorem cX.foll(w:cX m es ts){d:Nat}(h:d<2*es.length):∃ l e,ts[hd es d]?=some l/\d/2∈l/\es[nxt l (d/2)]?=some e/\(e.1=hd es d∨e.2=hd es d)/\e.1≠e.2/\fol es ts d=(if e.1=hd es d then 2*nxt l (d/2) else 2*nxt l (d/2)+1)/\fol es ts d<2*es.length/\fol es ts d/2=nxt l (d/2)/\tl es (fol es ts d)=hd es d:=by
 obtain⟨e0,l,h1,h2,h3,h4,h5,h6⟩:=w.at h
 have hn:=tS h6
 obtain⟨e,he,hp⟩:=(w.mem _ _ h5 _).mp (IW hn)
 have hlt:=(IS.mp he).1
 have hne:=(w.ends e (IW he)).2.2
 have hf:fol es ts d=(if e.1=hd es d then 2*nxt l (d/2) else 2*nxt l (d/2)+1):=by
  unfold fol
  rw[h5]
  show leave es (nxt l (d/2)) (hd es d)=_
  unfold leave
  rw[he]
 refine⟨l,e,h5,h6,he,hp,hne,hf,?_,?_,?_⟩
 ·rw[hf];split<;>omega
 ·rw[hf];split<;>omega
 ·rw[hf]
  by_cases z:e.1=hd es d
  ·have a1:2*nxt l (d/2)/2=nxt l (d/2):=by omega
   have a2:2*nxt l (d/2)%2=0:=by omega
   rw[if_pos z]
   unfold tl
   rw[a1,he]
   show(if 2*nxt l (d/2)%2=0 then e.1 else e.2)=_
   rw[if_pos a2,z]
  ·have a1:(2*nxt l (d/2)+1)/2=nxt l (d/2):=by omega
   have a2:¬ (2*nxt l (d/2)+1)%2=0:=by omega
   rw[if_neg z]
   unfold tl
   rw[a1,he]
   show(if(2*nxt l (d/2)+1)%2=0 then e.1 else e.2)=_
   rw[if_neg a2]
   exact hp.elim (fun y=>absurd y z) id
theorem cX.inj(w:cX m es ts){a b:Nat}(ha:a<2*es.length)(hb:b<2*es.length)(h:fol es ts a=fol es ts b):a=b:=by
 obtain⟨l,e,p1,p2,_,_,_,_,_,p3,p4⟩:=w.foll ha
 obtain⟨l',e',q1,q2,_,_,_,_,_,q3,q4⟩:=w.foll hb
 have hh:hd es a=hd es b:=by rw[← p4,← q4,h]
 rw[hh,q1]at p1
 cases p1
 have hx:nxt l (a/2)=nxt l (b/2):=by rw[← p3,← q3,h]
 have g1:=tS p2
 have g2:=tS q2
 rw[hx]at g1
 have ii:=Gx (w.nd _ _ q1) g1 g2
 have i1:=K5.mpr p2
 have i2:=K5.mpr q2
 have ix:l.idxOf (a/2)=l.idxOf (b/2):=by
  generalize l.idxOf (a/2)=x at *
  generalize l.idxOf (b/2)=y at *
  by_cases z1:x+1=l.length
  ·by_cases z2:y+1=l.length
   ·omega
   ·rw[z1,Lh,Kk (by omega)]at ii;omega
  ·by_cases z2:y+1=l.length
   ·rw[z2,Lh,Kk (by omega)]at ii;omega
   ·rw[Kk (by omega),Kk (by omega)]at ii;omega
 have ht:a/2=b/2:=by
  have g3:=zd p2
  have g4:=zd q2
  rw[ix,g4]at g3
  exact(Js g3).symm
 obtain⟨e1,_,r1,r2,_,_,_,_⟩:=w.at ha
 obtain⟨e2,_,s1,s2,_,_,_,_⟩:=w.at hb
 rw[ht,s1]at r1
 have ee:e2=e1:=Js r1
 rw[ee]at s1 s2
 have hne:=(w.ends e1 (IW s1)).2.2
 rw[r2,s2]at hh
 have:a%2=b%2:=by
  by_cases z1:a%2=0<;>by_cases z2:b%2=0
  ·omega
  ·rw[if_pos z1,if_neg z2]at hh;exact absurd hh.symm hne
  ·rw[if_neg z1,if_pos z2]at hh;exact absurd hh hne
  ·omega
 omega
end
structure EX(f:Nat->Nat)(N:Nat):Prop where
 lt:∀ d,d<N->f d<N
 inj:∀ a b,a<N->b<N->f a=f b->a=b
structure Path(f:Nat->Nat)(N first:Nat)(r:List Nat):Prop where
 hd:r[0]?=some first
 lt:∀ d∈r,d<N
 nd:r.Nodup
 nx:∀ i x y,r[i]?=some x->r[i+1]?=some y->y=f x
theorem Fq{f:Nat->Nat}{N d:Nat}(h:d<N):Path f N d [d] where
 hd:=rfl
 lt:=fun x hx=>by have:x=d:=by simpa using hx
                  rw[this];exact h
 nd:=by simp
 nx:=fun i x y h1 h2=>by
  have:=(IS.mp h2).1
  rw[Jg]at this
  omega
theorem Path.snoc{f:Nat->Nat}{N d x:Nat}{r:List Nat}(p:EX f N)(h:Path f N d (r++[x]))(hn:f x≠d):Path f N d (r++[x]++[f x]) where
 hd:=by rw[Jb (by rw[IX,Jg];omega)];exact h.hd
 lt:=fun y hy=>by
  rcases Jl.mp hy with z | z
  ·exact h.lt y z
  ·have:y=f x:=by simpa using z
   rw[this];exact p.lt x (h.lt x (by simp))
 nd:=by
  refine Ka.mpr ⟨h.nd,by simp,fun a ha b hb e=>?_⟩
  have eb:b=f x:=by simpa using hb
  subst eb
  obtain⟨i,hi⟩:=Kt.mp ha
  rw[e]at hi
  have hil:=(IS.mp hi).1
  rw[IX,Jg]at hil
  cases i with
  |zero =>
   rw[h.hd]at hi
   exact hn (Js hi).symm
  |succ i =>
   have gi:(r++[x])[i]?=some ((r++[x])[i]'(by rw[IX,Jg];omega)):=IU _
   have:=h.nx i _ _ gi hi
   have mi:=h.lt _ (IW gi)
   have mx:=h.lt x (by simp)
   have e2:=p.inj _ _ mx mi this
   rw[← e2]at gi
   have gx:(r++[x])[r.length]?=some x:=by rw[IZ (IY _),JC];rfl
   have:=Gx h.nd gi gx
   omega
 nx:=fun i a b h1 h2=>by
  have h2l:=(IS.mp h2).1
  rw[IX,IX,Jg,Jg]at h2l
  rw[Jb (by rw[IX,Jg];omega)]at h1
  by_cases z:i+1<(r++[x]).length
  ·rw[Jb z]at h2
   exact h.nx i a b h1 h2
  ·rw[IX,Jg]at z
   have ei:i=r.length:=by omega
   subst ei
   rw[IZ (by rw[IX,Jg];omega)]at h2
   have:r.length+1-(r++[x]).length=0:=by rw[IX,Jg];omega
   rw[this]at h2
   rw[IZ (IY _),JC]at h1
   have e1:x=a:=Js h1
   have e2:f x=b:=Js h2
   rw[← e2,e1]
structure Ring(f:Nat->Nat)(N:Nat)(r:List Nat):Prop where
 lt:∀ d∈r,d<N
 nd:r.Nodup
 ne:0<r.length
 nx:∀ i x,r[i]?=some x->r[(i+1)%r.length]?=some (f x)
theorem Path.ring{f:Nat->Nat}{N d x:Nat}{r:List Nat}(p:EX f N)(h:Path f N d (r++[x]))(he:f x=d):Ring f N (r++[x]) where
 lt:=h.lt
 nd:=h.nd
 ne:=by rw[IX,Jg];omega
 nx:=fun i y hy=>by
  have hl:=(IS.mp hy).1
  by_cases z:i+1=(r++[x]).length
  ·rw[z,Lh]
   have:i=r.length:=by rw[IX,Jg]at z;omega
   subst this
   rw[IZ (IY _),JC]at hy
   have:x=y:=Js hy
   subst this
   rw[he];exact h.hd
  ·have l2:i+1<(r++[x]).length:=by omega
   rw[Kk l2]
   have g:=IU l2
   rw[g,h.nx i _ _ hy g]
theorem Ring.back{f:Nat->Nat}{N a:Nat}{r:List Nat}(p:EX f N)(h:Ring f N r)(ha:a<N)(hf:f a∈r):a∈r:=by
 obtain⟨i,hi⟩:=Kt.mp hf
 have hl:=(IS.mp hi).1
 have key:∃ j,j<r.length/\(j+1)%r.length=i:=by
  cases i with
  |zero=>exact⟨r.length-1,by have:=h.ne;omega,by have:=h.ne;rw[show r.length-1+1=r.length by omega,Lh]⟩
  |succ i=>exact⟨i,by omega,Kk hl⟩
 obtain⟨j,hj,ej⟩:=key
 have g:=IU hj
 have q:=h.nx j _ g
 rw[ej,hi]at q
 have mj:=h.lt _ (IW g)
 have:=p.inj _ _ ha mj (Js q)
 rw[this]
 exact IW g
structure eQ(f:Nat->Nat)(N i:Nat)(rs:List (List Nat)):Prop where
 ring:∀ r∈rs,Ring f N r
 hdl:∀ r∈rs,∀ h,r[0]?=some h->h<i/\∀ d∈r,h<=d
 asc:∀(a b:Nat)(r r':List Nat)(h h':Nat),a<b->rs[a]?=some r->rs[b]?=some r'->r[0]?=some h->r'[0]?=some h'->h<h'
 nd:rs.flatten.Nodup
 all:∀ d,d<i->d∈rs.flatten
theorem A9(f:Nat->Nat)(N:Nat):eQ f N 0 [] where
 ring:=fun r h=>by cases h
 hdl:=fun r h=>by cases h
 asc:=fun a b r r' h h' _ e=>by cases e
 nd:=by simp
 all:=fun d h=>by omega
theorem eQ.skip{f:Nat->Nat}{N i:Nat}{rs:List (List Nat)}(w:eQ f N i rs)(h:i∈rs.flatten):eQ f N (i+1) rs where
 ring:=w.ring
 hdl:=fun r hr x hx=>⟨by have:=(w.hdl r hr x hx).1;omega,(w.hdl r hr x hx).2⟩
 asc:=w.asc
 nd:=w.nd
 all:=fun d hd=>by
  by_cases z:d=i
  ·rw[z];exact h
  ·exact w.all d (by omega)
theorem eQ.put{f:Nat->Nat}{N i:Nat}{rs:List (List Nat)}{r:List Nat}(p:EX f N)(w:eQ f N i rs)(h:i∉rs.flatten)(hi:i<N)(hr:Ring f N r)(pa:Path f N i r):eQ f N (i+1) (rs++[r]):=by
 have apart:∀(k x:Nat),r[k]?=some x->x∉rs.flatten:=fun k=>by
  induction k with
  |zero =>
   intro x hx
   rw[pa.hd]at hx
   cases hx
   exact h
  |succ k ih =>
   intro x hx z
   have hl:=(IS.mp hx).1
   have g:=IU (show k<r.length by omega)
   have e:=pa.nx k _ _ g hx
   obtain⟨q,hq,zq⟩:=KH.mp z
   rw[e]at zq
   exact ih _ g (KH.mpr ⟨q,hq,(w.ring q hq).back p (hr.lt _ (IW g)) zq⟩)
 have least:∀ d∈r,i<=d:=fun d hd=>by
  obtain⟨k,hk⟩:=Kt.mp hd
  by_cases z:i<=d
  ·exact z
  ·exact absurd (w.all d (by omega)) (apart k d hk)
 refine⟨fun q hq=>?_,fun q hq x hx=>?_,fun a b q q' x x' hab ha hb hx hx'=>?_,?_,fun d hd=>?_⟩
 ·rcases Jl.mp hq with z | z
  ·exact w.ring q z
  ·have:q=r:=by simpa using z
   rw[this];exact hr
 ·rcases Jl.mp hq with z | z
  ·have:=w.hdl q z x hx
   exact⟨by omega,this.2⟩
  ·have e:q=r:=by simpa using z
   subst e
   rw[pa.hd]at hx
   cases hx
   exact⟨by omega,least⟩
 ·have bl:=(IS.mp hb).1
  rw[IX,Jg]at bl
  rw[Jb (by omega)]at ha
  by_cases z:b<rs.length
  ·rw[Jb z]at hb
   exact w.asc a b q q' x x' hab ha hb hx hx'
  ·have eb:b=rs.length:=by omega
   subst eb
   rw[IZ (IY _),JC]at hb
   have e:r=q':=Js hb
   subst e
   rw[pa.hd]at hx'
   cases hx'
   exact(w.hdl q (IW ha) x hx).1
 ·rw[K4]
  have e : [r].flatten=r:=by simp
  rw[e]
  refine Ka.mpr ⟨w.nd,hr.nd,fun a ha b hb e=>?_⟩
  obtain⟨k,hk⟩:=Kt.mp hb
  exact apart k b hk (e▸ha)
 ·rw[K4,Jl]
  by_cases z:d=i
  ·right
   rw[z]
   simp
   exact IW pa.hd
  ·exact .inl (w.all d (by omega))
theorem Iw{rs:List (List Nat)}(nd:rs.flatten.Nodup){a b:Nat}{r r':List Nat}{d:Nat}(ha:rs[a]?=some r)(hb:rs[b]?=some r')(h1:d∈r)(h2:d∈r'):a=b:=by
 induction rs generalizing a b with
 |nil=>cases ha
 |cons q rs ih =>
  rw[Lf]at nd
  obtain⟨_,n2,n3⟩:=Ka.mp nd
  cases a with
  |zero =>
   cases b with
   |zero=>rfl
   |succ b =>
    have e:q=r:=Js ha
    subst e
    exact absurd rfl (n3 d h1 d (KH.mpr ⟨r',IW hb,h2⟩))
  |succ a =>
   cases b with
   |zero =>
    have e:q=r':=Js hb
    subst e
    exact absurd rfl (n3 d h2 d (KH.mpr ⟨r,IW ha,h1⟩))
   |succ b=>exact congrArg Nat.succ (ih n2 ha hb)
end K8
namespace K8
def pA(f:Nat->Nat):Nat->List Nat->Nat->Prop
 |x,[],z=>f x=z
 |x,y::l,z=>f x=y/\pA f y l z
theorem j8{f:Nat->Nat}:∀{x:Nat}{l:List Nat}{y:Nat}{k:List Nat}{z:Nat},pA f x (l++y::k) z↔pA f x l y/\pA f y k z
 |x,[],y,k,z=>Iff.rfl
 |x,a::l,y,k,z=>by
  show(f x=a/\pA f a (l++y::k) z)↔(f x=a/\pA f a l y)/\pA f y k z
  rw[j8,and_assoc]
theorem pz{f:Nat->Nat}{S:Nat->Prop}:∀{x:Nat}{l:List Nat}{z:Nat},pA f x l z->(∀ t∈x::l,S t->S (f t))->S x->S z/\∀ t∈l,S t
 |x,[],z,h,k,s=>⟨by have:=k x (Jn ..) s;rwa[show f x=z from h]at this,fun t ht=>nomatch ht⟩
 |x,a::l,z,h,k,s=>by
  have s1:S a:=by have:=k x (Jn ..) s;rwa[h.1]at this
  obtain⟨h1,h2⟩:=pz h.2 (fun t ht=>k t (Jk _ ht)) s1
  refine⟨h1,fun t ht=>?_⟩
  rcases Ja.mp ht with y | y
  ·rw[y];exact s1
  ·exact h2 t y
structure CR(f:Nat->Nat)(N:Nat)(r:List Nat):Prop where
 ch:∃ x l,r=x::l/\pA f x l x
 lt:∀ d∈r,d<N
 nd:r.Nodup
theorem CR.closed{f:Nat->Nat}{N:Nat}{r:List Nat}(h:CR f N r):∀ d∈r,f d∈r:=by
 obtain⟨x,l,rfl,c⟩:=h.ch
 intro d hd
 rcases Ja.mp hd with y | y
 ·subst y
  cases l with
  |nil=>rw[show f d=d from c];exact Jn ..
  |cons a l=>rw[c.1];simp
 ·obtain⟨A,B,rfl⟩:=List.append_of_mem y
  have c2:=(j8.mp c).2
  cases B with
  |nil=>rw[show f d=x from c2];exact Jn ..
  |cons a B=>rw[c2.1];simp
theorem CR.sub{f:Nat->Nat}{N:Nat}{r:List Nat}{S:Nat->Prop}(h:CR f N r)(k:∀ t∈r,S t->S (f t)){d:Nat}(hd:d∈r)(s:S d):∀ t∈r,S t:=by
 obtain⟨x,l,rfl,c⟩:=h.ch
 have fromx:S x->∀ t∈x::l,S t:=fun sx t ht=>by
  rcases Ja.mp ht with y | y
  ·rw[y];exact sx
  ·exact(pz c k sx).2 t y
 rcases Ja.mp hd with y | y
 ·exact fromx (y▸s)
 ·obtain⟨A,B,rfl⟩:=List.append_of_mem y
  have c2:=(j8.mp c).2
  exact fromx (pz c2 (fun t ht=>k t (by simp only[Ja,Jl]at ht ⊢;rcases ht with z | z<;>simp[z])) s).1
theorem CR.same{f:Nat->Nat}{N:Nat}{r r':List Nat}(h:CR f N r)(h':CR f N r'){d:Nat}(h1:d∈r)(h2:d∈r'):∀ t∈r,t∈r':=h.sub (S:=fun t=>t∈r') (fun t _=>h'.closed t) h1 h2
theorem CR.ne{f:Nat->Nat}{N:Nat}{r:List Nat}(h:CR f N r):∃ d,d∈r:=by
 obtain⟨x,l,rfl,_⟩:=h.ch
 exact⟨x,Jn ..⟩
structure Part(f:Nat->Nat)(N:Nat)(rs:List (List Nat)):Prop where
 cr:∀ r∈rs,CR f N r
 nd:rs.flatten.Nodup
 all:∀ d,d<N->d∈rs.flatten
theorem Part.same:∀{rs qs:List (List Nat)}{f:Nat->Nat}{N:Nat},Part f N rs->Part f N qs->rs.length=qs.length:=by
 have le:∀(k:Nat){rs qs:List (List Nat)}{f:Nat->Nat}{N:Nat},Part f N rs->Part f N qs->rs.length<=qs.length:=by
  intro _ rs qs f N p q
  have g:∀ r∈rs,∃ i,i<qs.length/\∃ r',qs[i]?=some r'/\∀ t∈r',t∈r:=fun r hr=>by
   have c:=p.cr r hr
   obtain⟨d,hd⟩:=c.ne
   obtain⟨r',m1,m2⟩:=KH.mp (q.all d (c.lt d hd))
   obtain⟨i,hi⟩:=Kt.mp m1
   exact⟨i,(IS.mp hi).1,r',hi,(q.cr r' m1).same c m2 hd⟩
  have:∀(l:List (List Nat)),(∀ r∈l,r∈rs)->l.flatten.Nodup->∃ is:List Nat,is.length=l.length/\is.Nodup/\∀ i∈is,i<qs.length/\∃ r∈l,∃ r',qs[i]?=some r'/\∀ t∈r',t∈r:=fun l=>by
   induction l with
   |nil=>intro _ _;exact⟨[],rfl,Mp,fun i hi=>nomatch hi⟩
   |cons r l ih =>
    intro h nd
    rw[Lf]at nd
    obtain⟨n1,n2,n3⟩:=Ka.mp nd
    obtain⟨is,e1,e2,e3⟩:=ih (fun r hr=>h r (Jk _ hr)) n2
    obtain⟨i,h1,r',h2,h3⟩:=g r (h r (Jn ..))
    refine⟨i::is,by simp[e1],JD.mpr ⟨fun z=>?_,e2⟩,fun j hj=>?_⟩
    ·obtain⟨_,r2,m2,r3,m3,m4⟩:=e3 i z
     rw[h2]at m3
     cases m3
     obtain⟨d,hd⟩:=(q.cr r' (IW h2)).ne
     exact n3 d (h3 d hd) d (KH.mpr ⟨r2,m2,m4 d hd⟩) rfl
    ·rcases Ja.mp hj with z | z
     ·subst z;exact⟨h1,r,Jn ..,r',h2,h3⟩
     ·obtain⟨k1,r2,k2,k3⟩:=e3 j z
      exact⟨k1,r2,Jk _ k2,k3⟩
  obtain⟨is,e1,e2,e3⟩:=this rs (fun _ h=>h) p.nd
  rw[← e1]
  exact ic e2 fun i hi=>(e3 i hi).1
 intro rs qs f N p q
 exact Nat.le_antisymm (le 0 p q) (le 0 q p)
theorem Ring.cr{f:Nat->Nat}{N:Nat}{r:List Nat}(h:Ring f N r):CR f N r:=by
 refine⟨?_,h.lt,h.nd⟩
 have ne:=h.ne
 match r,h,ne with
 |x::l,h,_ =>
  refine⟨x,l,rfl,?_⟩
  have key:∀(k i:Nat)(y:Nat),i+k+1=(x::l).length->(x::l)[i]?=some y->pA f y ((x::l).drop (i+1)) x:=fun k=>by
   induction k with
   |zero =>
    intro i y hi hy
    have e:=h.nx i y hy
    rw[show(i+1)%(x::l).length=0 by rw[← hi];simp]at e
    rw[List.drop_of_length_le (by omega)]
    exact(Js e).symm
   |succ k ih =>
    intro i y hi hy
    have e:=h.nx i y hy
    rw[Kk (by omega)]at e
    obtain⟨hl,e2⟩:=IS.mp e
    rw[List.drop_eq_getElem_cons hl,e2]
    exact⟨rfl,ih (i+1) (f y) (by omega) e⟩
  exact key l.length 0 x (by simp) rfl
theorem eQ.part{f:Nat->Nat}{N:Nat}{rs:List (List Nat)}(w:eQ f N N rs):Part f N rs:=⟨fun r hr=>(w.ring r hr).cr,w.nd,w.all⟩
end K8
namespace K8
end K8
namespace K8
structure Gr(m:Nat)(es:En)(ts:List (List Nat)):Prop where
 w:cX m es ts
 part:∃ rs,Part (fol es ts) (2*es.length) rs/\m+rs.length=es.length+2
 conn:∀ S:Nat->Prop,(∀ e∈es,S e.1↔S e.2)->∀ p q,p<m->q<m->S p->S q
end K8
namespace K8
end K8
namespace K8
section
variable{m:Nat}{es es2:En}{ts ts2:List (List Nat)}{π σ:Nat->Nat}
theorem Gy(w:cX m es ts){p:Nat}{l:List Nat}(h:ts[p]?=some l){t:Nat}(ht:t∈l):t<es.length:=by
 obtain⟨x,hx,_⟩:=(w.mem p l h t).mp ht
 exact(IS.mp hx).1
end
end K8
namespace K8
open PySem L2
local macro_rules | `(tactic| walk_at "cc") => `(tactic| first | exact ⟨by decide, by decide⟩ | (show (0 : Int) < _; decide) | (show (0 : Int) < _; omega) | (show (0 : Int) ≤ _; omega) | exact ⟨by decide, by decide, by decide⟩ | exact ⟨by omega, by omega, by decide⟩ | exact Or.inl ⟨by decide, by decide⟩ | exact Or.inl ⟨by omega, by omega⟩)
local macro_rules | `(tactic| walk_at "rd") => `(tactic| repeat (first | refine ⟨_, rfl, ?_⟩ | refine ⟨_, _, rfl, rfl, ?_⟩ | refine ⟨rfl, ?_⟩ | (refine ⟨?cc, ?_⟩; (case cc => walk_at "cc"))))
def top(i:Nat):Stmt:=PySem.Challenge.pw_spinfloor_k44_stars.main.body.getD i (.Pass ⟨0,0,0,0⟩)
abbrev rH:Stmt:=top 10
abbrev rF:Stmt:=top 11
abbrev fG:Stmt:=top 13
abbrev bP:Stmt:=top 15
abbrev dR:Stmt:=top 17
abbrev dZ:Stmt:=top 18
abbrev iW:Stmt:=top 19
abbrev cO:Stmt:=top 20
abbrev aQ:Stmt:=top 23
abbrev bL:Stmt:=top 24
abbrev b8:Stmt:=top 25
abbrev ba:Stmt:=top 26
abbrev bO:Stmt:=top 27
abbrev cf:Stmt:=top 28
abbrev cj:Stmt:=lV (top 30) 0
abbrev ef:Stmt:=lV (top 30) 1
abbrev bj:Stmt:=lV (top 30) 2
abbrev cR:Stmt:=lV (top 30) 3
abbrev cS:Stmt:=lV (top 32) 0
abbrev rG:Stmt:=top 34
abbrev fH:Stmt:=top 35
abbrev d0:Stmt:=top 36
abbrev b9:Stmt:=top 37
abbrev cP:Stmt:=top 38
abbrev dQ:Stmt:=top 39
abbrev bM:Stmt:=top 41
abbrev bt:Stmt:=top 42
abbrev bh:Stmt:=top 43
abbrev cg:Stmt:=lV (top 44) 0
abbrev iU:Stmt:=top 49
abbrev dY:Stmt:=top 51
abbrev cQ:Stmt:=top 52
abbrev dW:Stmt:=top 53
abbrev fJ:Stmt:=top 54
abbrev bN:Stmt:=top 55
abbrev bu:Stmt:=top 56
abbrev bx:Stmt:=top 57
abbrev dS:Stmt:=top 58
abbrev dU:Stmt:=top 59
abbrev dX:Stmt:=top 60
abbrev sU:Stmt:=top 61
def tf(a b s:Int):List (Str×V):=putF "strength" (.int s) (putF "two" (.int b) (putF "one" (.int a) []))
theorem kA(a b s:Int):(tf a b s).lookup ("one" : Str)=some (.int a):=by
 unfold tf
 rw[ar,if_neg (by decide +kernel),ar,if_neg (by decide +kernel),ar,if_pos rfl]
theorem n9(a b s:Int):(tf a b s).lookup ("two" : Str)=some (.int b):=by
 unfold tf
 rw[ar,if_neg (by decide +kernel),ar,if_pos rfl]
theorem tf_str(a b s:Int):(tf a b s).lookup ("strength" : Str)=some (.int s):=by
 unfold tf
 rw[ar,if_pos rfl]
theorem E5(a b s:Int){m:Str} (h1:¬ m = "strength") (h2:¬ m = "two") (h3:¬ m = "one"):(tf a b s).lookup m=none:=by
 unfold tf
 rw[ar,if_neg h1,ar,if_neg h2,ar,if_neg h3]
 all_goals rfl
theorem f1_len(a:Int):(putF "one" (.int a) []).length<1000:=by show 1<1000;decide
theorem f2_len(a b:Int):(putF "two" (.int b) (putF "one" (.int a) [])).length<1000:=by
 have e:(putF "two" (.int b) (putF "one" (.int a) []):List (Str×V))=([("one",.int a),("two",.int b)]:List (Str×V)):=by
  show(if("one" : Str) = "two" then[(("one" : Str),V.int b)] else(("one" : Str),V.int a)::putF "two" (V.int b) [])=_
  rw[if_neg (by decide +kernel)]
  all_goals rfl
 rw[e]
 show 2<1000
 decide
structure CT(K:IT)(C:Addr):Prop where
 cl:Cls K C
 n1:fj K C "one"
 n2:fj K C "two"
 n3:fj K C "strength"
def rE(K:IT):Sp:=fun vs H Q _=>∃(p C dx:Addr)(a b s:Int),vs = [.ref p,.int a,.int b,.int s]/\H p=some (.ins C dx [])/\CT K C/\a≠b/\0<=a/\0<=b/\0<=s /\
 ∀ H',H' p=some (.ins C dx (tf a b s))->(∀ q o,H q=some o->q≠p->H' q=some o)->Q .non H'
theorem aj{H:Hp}{p:Addr}(h:H p=none)(o:HO):Same H (upd H p o):=fun b u q=>by rw[ao (az q h)];exact q
theorem bb{H H2:Hp}{l:Addr}(h:Same H H2)(hl:H l=none)(o:HO):Same H (upd H2 l o):=fun b u q=>by rw[ao (az q hl)];exact h b u q
def iV(p:Nat):V:=.int (p:Int)
theorem iV_at{hs:List Nat}{k x:Nat}(h:hs[k]?=some x):atI (hs.map iV) (k:Int)=some (iV x):=bH (by rw[Je,h];rfl)
def ni(H:Hp)(ys:List V)(es:En):Prop:=ys.length=es.length/\∀(i:Nat)(e:Nat×Nat),es[i]?=some e->∃ p,ys[i]?=some (.ref p)/\H p=some (.tup [iV e.1,iV e.2])
theorem ni.mono{H H':Hp}{ys:List V}{es:En}(h:ni H ys es)(s:Same H H'):ni H' ys es:=⟨h.1,fun i e q=>by
 obtain⟨p,a,b⟩:=h.2 i e q
 exact⟨p,a,s _ _ b⟩⟩
def dy(K:IT)(H:Hp)(xs:List V)(es:En):Prop:=xs.length=es.length/\∀(i:Nat)(e:Nat×Nat),es[i]?=some e->∃ p C dx s,xs[i]?=some (.ref p)/\H p=some (.ins C dx (tf (e.1:Int) (e.2:Int) s))/\CT K C
theorem dy.mono{K:IT}{H H':Hp}{xs:List V}{es:En}(t:dy K H xs es)(h:Same H H'):dy K H' xs es:=⟨t.1,fun i e q=>by
 obtain⟨p,C,dx,s,a,b,d⟩:=t.2 i e q
 exact⟨p,C,dx,s,a,h _ _ b,d⟩⟩
def bq(H:Hp)(xs:List V)(ts:List (List Nat)):Prop:=xs.length=ts.length/\∀(i:Nat)(l:List Nat),ts[i]?=some l->∃ p,xs[i]?=some (.ref p)/\H p=some (.lst (l.map iV))
theorem bq.mono{H H':Hp}{xs:List V}{ts:List (List Nat)}(h:bq H xs ts)(s:Same H H'):bq H' xs ts:=⟨h.1,fun i e q=>by
 obtain⟨p,a,b⟩:=h.2 i e q
 exact⟨p,a,s _ _ b⟩⟩
theorem bq.snoc{H:Hp}{xs:List V}{ts:List (List Nat)}{q:Addr}{l:List Nat}(h:bq H xs ts)(e:H q=some (.lst (l.map iV))):bq H (xs++[.ref q]) (ts++[l]):=by
 refine⟨by rw[IX,IX,h.1];rfl,fun j k ej=>?_⟩
 by_cases hj:j<ts.length
 ·rw[Jb hj]at ej
  obtain⟨p,a1,a2⟩:=h.2 j k ej
  exact⟨p,by rw[Jb (by rw[h.1];exact hj)];exact a1,a2⟩
 ·rw[IZ (by omega)]at ej
  have hj2:j=ts.length:=by
   have:=(IS.mp ej).1
   rw[Jg]at this
   omega
  subst hj2
  rw[JC]at ej
  cases ej
  exact⟨q,by rw[← h.1,IZ (IY _),JC];rfl,e⟩
def dP(S:Addr->Prop)(H:Hp)(xs:List V)(ts:List (List Nat)):Prop:=xs.length=ts.length/\∀(i:Nat)(l:List Nat),ts[i]?=some l->∃ p,xs[i]?=some (.ref p)/\¬ S p/\H p=some (.lst (l.map iV))
theorem dP.mono{S:Addr->Prop}{H H':Hp}{xs:List V}{ts:List (List Nat)}(h:dP S H xs ts)(s:∀ b u,¬ S b->H b=some u->H' b=some u):dP S H' xs ts:=⟨h.1,fun i e q=>by
 obtain⟨p,a,n,b⟩:=h.2 i e q
 exact⟨p,a,n,s _ _ n b⟩⟩
theorem dP.off{S:Addr->Prop}{H:Hp}{xs:List V}{ts:List (List Nat)}(h:dP S H xs ts):bq H xs ts:=⟨h.1,fun i e q=>by
 obtain⟨p,a,n,b⟩:=h.2 i e q
 exact⟨p,a,b⟩⟩
theorem dP.snoc{S:Addr->Prop}{H:Hp}{xs:List V}{ts:List (List Nat)}{q:Addr}{l:List Nat}(h:dP S H xs ts)(n:¬ S q)(e:H q=some (.lst (l.map iV))):dP S H (xs++[.ref q]) (ts++[l]):=by
 refine⟨by rw[IX,IX,h.1];rfl,fun j k ej=>?_⟩
 by_cases hj:j<ts.length
 ·rw[Jb hj]at ej
  obtain⟨p,a1,a2⟩:=h.2 j k ej
  exact⟨p,by rw[Jb (by rw[h.1];exact hj)];exact a1,a2⟩
 ·rw[IZ (by omega)]at ej
  have hj2:j=ts.length:=by
   have:=(IS.mp ej).1
   rw[Jg]at this
   omega
  subst hj2
  rw[JC]at ej
  cases ej
  exact⟨q,by rw[← h.1,IZ (IY _),JC];rfl,n,e⟩
theorem uo{f:Nat->Nat}{N i:Nat}{rs:List (List Nat)}(w:eQ f N i rs):rs.flatten.length<=N:=ic w.nd fun x hx=>by
 obtain⟨r,h1,h2⟩:=KH.mp hx
 exact(w.ring r h1).lt x h2
theorem Fg{f:Nat->Nat}{N i:Nat}{rs:List (List Nat)}(w:eQ f N i rs):rs.length<=N:=by
 have h:∀(l:List (List Nat)),(∀ r∈l,0<r.length)->l.length<=l.flatten.length:=fun l=>by
  induction l with
  |nil=>intro _;exact IY _
  |cons a l ih =>
   intro h
   rw[Lf,IX,JL]
   have h1:=h a (Jn ..)
   have h2:=ih fun r hr=>h r (Jk _ hr)
   omega
 exact JS (h rs fun r hr=>(w.ring r hr).ne) (uo w)
structure TT(K:IT)(H:Hp)(a b:Addr)(m:Nat)(es:En)(ts:List (List Nat)):Prop where
 xs:∃ xs,SqL K H a xs/\dy K H xs es
 ys:∃ ys,SqL K H b ys/\bq H ys ts
 w:cX m es ts
 few:es.length<=62
theorem TT.mono{K:IT}{H H':Hp}{a b:Addr}{m:Nat}{es:En}{ts:List (List Nat)}(t:TT K H a b m es ts)(s:Same H H'):TT K H' a b m es ts:=by
 obtain⟨⟨xs,h1,h2⟩,⟨ys,h3,h4⟩,w,f⟩:=t
 exact⟨⟨xs,s.seq h1,h2.mono s⟩,⟨ys,s.seq h3,h4.mono s⟩,w,f⟩
theorem AX{m:Nat}{es:En}{ts:List (List Nat)}(w:cX m es ts)(f:es.length<=62){p:Nat}{l:List Nat}(h:ts[p]?=some l):(∀ t∈l,t<62)/\l.length<=62:=by
 have a:∀ t∈l,t<es.length:=fun t ht=>by
  obtain⟨e,he,_⟩:=(w.mem p l h t).mp ht
  exact(IS.mp he).1
 exact⟨fun t ht=>by have:=a t ht;omega,JS (ic (w.nd p l h) a) f⟩
theorem perm{m:Nat}{es:En}{ts:List (List Nat)}(w:cX m es ts):EX (fol es ts) (2*es.length):=⟨fun d h=>by
 obtain⟨_,_,_,_,_,_,_,_,z,_⟩:=w.foll h
 exact z,fun a b ha hb h=>w.inj ha hb h⟩
def CD(K:IT):Sp:=fun vs H Q _=>∃(a:Addr)(xs:List V)(es:En)(d:Nat),vs = [.ref a,.int (d:Int)]/\SqL K H a xs/\dy K H xs es/\d<2*es.length/\Q (iV (hd es d)) H
def CC(K:IT):Sp:=fun vs H Q _=>∃(a:Addr)(xs:List V)(es:En)(t p:Nat)(e:Nat×Nat),vs = [.ref a,.int (t:Int),.int (p:Int)]/\SqL K H a xs/\dy K H xs es/\es[t]?=some e/\Q (iV (if e.1=p then 2*t else 2*t+1)) H
def He(K:IT):Sp:=fun vs H Q _=>∃(a b:Addr)(m:Nat)(es:En)(ts:List (List Nat))(d:Nat),vs = [.ref a,.ref b,.int (d:Int)]/\TT K H a b m es ts/\d<2*es.length/\Q (iV (fol es ts d)) H
def CF(K:IT):Sp:=fun vs H Q _=>∃(a b:Addr)(m:Nat)(es:En)(ts:List (List Nat))(d:Nat),vs = [.ref a,.ref b,.int (d:Int)]/\TT K H a b m es ts/\d<2*es.length /\
 ∀ q r H',Same H H'->H q=none->H' q=some (.lst (r.map iV))->Path (fol es ts) (2*es.length) d r->Ring (fol es ts) (2*es.length) r->Q (.ref q) H'
def sI(K:IT):Sp:=fun vs H Q _=>∃(a b:Addr)(m:Nat)(es:En)(ts:List (List Nat)),vs = [.ref a,.ref b]/\TT K H a b m es ts /\
 ∀ q ys rs H',Same H H'->H' q=some (.lst ys)->bq H' ys rs->eQ (fol es ts) (2*es.length) (2*es.length) rs->Q (.ref q) H'
def mP(H:Hp)(ys:List V)(n:Nat)(rs:List (List Nat)):Prop:=ys.length=n/\∀ i,i<n->∃ p a b r r',ys[i]?=some (.ref p)/\H p=some (.tup [iV a,iV b])/\rs[a]?=some r/\2*i∈r/\rs[b]?=some r'/\2*i+1∈r'
def xy(K:IT):Sp:=fun vs H Q _=>∃(a b:Addr)(xs ys:List V)(es:En)(f:Nat->Nat)(rs:List (List Nat)),vs = [.ref a,.ref b]/\SqL K H a xs/\dy K H xs es/\es.length<=62/\SqL K H b ys/\bq H ys rs/\eQ f (2*es.length) (2*es.length) rs /\
 ∀ q zs H',Same H H'->H' q=some (.lst zs)->mP H' zs es.length rs->Q (.ref q) H'
def zM(ns:List Int)(k:Nat):Int:=ns.getD k 0
def Ak(K:IT):Sp:=fun vs H Q _=>∃(a:Addr)(k:Nat)(ns:List Int),vs = [.ref a,.int (k:Int)]/\SqL K H a (ns.map V.int)/\Q (.int (zM ns k)) H
def CA:Sp:=fun vs H Q _=>∃ i:Int,vs = [.int i]/\Q (.bl true) H
def Fd(K:IT):Sp:=fun vs H Q _=>∃(a:Addr)(ns:List Int),vs = [.ref a]/\SqL K H a (ns.map V.int)/\ns.length<=63/\∀ H',Q (.bl true) H'
structure Txt(mg:Str->Option Value):Prop where
 n_max:mg "max" = none
 n_all:mg "all" = none
 n_zip:mg "zip" = none
 n_any:mg "any" = none
 n_len:mg "len" = none
 n_int:mg "int" = none
 n_bool:mg "bool" = none
 n_list:mg "list" = none
 n_tuple:mg "tuple" = none
 n_range:mg "range" = none
 n_enumerate:mg "enumerate" = none
 n_isinstance:mg "isinstance" = none
 n_min:mg "min" = none
 n_sum:mg "sum" = none
 n_sorted:mg "sorted" = none
section
variable{P:Program}{w:World}{K:IT}{mg:Str->Option Value}{base:Heap}
theorem CO:aB ["ties","dart","tie"] ["ties","dart"] (ag rG):=⟨rfl,rfl,rfl,by decide +kernel,rfl,by decide +kernel,by decide +kernel⟩
theorem HQ{f:Addr}{fd:FuncData} (F:Fun K "head" "head" rG f fd):FnOk P w K mg base CX0 1 f fd ["ties","dart"] (CD K):=by
 refine F.ok CO (fun vs H Q E h=>?_) (fun cdv A outer s H vs Q E hr h=>?_)
 ·obtain⟨a,xs,es,d,rfl,_⟩:=h
  rfl
 obtain⟨a,xs,es,d,rfl,hS,hT,hdl,k⟩:=h
 have hl:d/2<es.length:=by omega
 have e1:es[d/2]?=some es[d/2]:=IU hl
 obtain⟨p,C,dx,s',x1,x2,x3⟩:=hT.2 _ _ e1
 have hh:hd es d=if d%2=0 then es[d/2].2 else es[d/2].1:=by unfold hd;rw[e1]
 have ed:(d:Int)/2=((d/2:Nat):Int):=by omega
 refine⟨_,(af (ax (i:=2) CO.nd rfl (Or.inl rfl) (aW a9 (pv 0) (aC fq (pv 1) ai) (fun _ _=>rfl)))
   (ak (aI (tD (aE lG (aC eW (pv 1) ai) ai (aJ _)) (cp (pv 2) rfl) (cp (pv 2) rfl))))),?_⟩
 refine⟨_,rfl,_,rfl,_,_,rfl,rfl,⟨by decide,by decide⟩,a,xs,_,_,rfl,rfl,hS,(by rw[ed];exact bH x1),?_⟩
 refine⟨_,rfl,_,_,rfl,rfl,(by show(0:Int)<2;decide),rfl,_,rfl,?_⟩
 refine ite2 (fun q=>?_) (fun q=>?_)
 ·have q':(d:Int)%2=0:=V.int.inj (of_decide_eq_true q)
  refine⟨_,rfl,p,C,dx,_,_,rfl,x2,x3.cl,x3.n2,n9 _ _ _,?_⟩
  rw[hh,if_pos (by omega)]at k
  exact k
 ·have q':¬ (d:Int)%2=0:=fun z=>q (decide_eq_true (congrArg V.int z))
  refine⟨_,rfl,p,C,dx,_,_,rfl,x2,x3.cl,x3.n1,kA _ _ _,?_⟩
  rw[hh,if_neg (by omega)]at k
  exact k
theorem A6:aB ["ties","number","place"] ["ties","number","place"] (ag fH):=⟨rfl,rfl,rfl,by decide +kernel,rfl,by decide +kernel,by decide +kernel⟩
theorem Bh{f:Addr}{fd:FuncData} (F:Fun K "leaving" "leaving" fH f fd):FnOk P w K mg base CX0 1 f fd ["ties","number","place"] (CC K):=by
 refine F.ok A6 (fun vs H Q E h=>?_) (fun cdv A outer s H vs Q E hr h=>?_)
 ·obtain⟨a,xs,es,t,p,e,rfl,_⟩:=h
  rfl
 obtain⟨a,xs,es,t,pl,e,rfl,hS,hT,he,k⟩:=h
 obtain⟨p,C,dx,s',x1,x2,x3⟩:=hT.2 _ _ he
 have m2:CMul 2 (t:Int):=.inl ⟨by decide,by decide⟩
 refine⟨_,(ak (aI (tD (aE lG (cp (aW a9 (pv 0) (pv 1) (fun _ _=>rfl)) rfl) (pv 2) (aJ _)) (aC rM ai (pv 1)) (aC cL (aC rM ai (pv 1)) ai)))),?_⟩
 refine⟨_,rfl,_,rfl,a,xs,_,_,rfl,rfl,hS,bH x1,p,C,dx,_,_,rfl,x2,x3.cl,x3.n1,kA _ _ _,_,rfl,rfl,_,rfl,?_⟩
 refine ite2 (fun q=>?_) (fun q=>?_)
 ·have q':(e.1:Int)=(pl:Int):=V.int.inj (of_decide_eq_true q)
  refine⟨_,rfl,_,_,rfl,rfl,m2,?_⟩
  rw[if_pos (by omega)]at k
  exact k
 ·have q':¬ (e.1:Int)=(pl:Int):=fun z=>q (decide_eq_true (congrArg V.int z))
  refine⟨_,rfl,_,_,rfl,rfl,m2,_,_,rfl,rfl,?_⟩
  rw[if_neg (by omega)]at k
  exact k
theorem fR:aB ["ties","turns","dart","place","about","behind"] ["ties","turns","dart"] (ag d0):=⟨rfl,rfl,rfl,by decide +kernel,rfl,by decide +kernel,by decide +kernel⟩
theorem yo{f fh fl:Addr}{fd fdh fdl:FuncData} (F:Fun K "follower" "follower" d0 f fd) (T:Txt mg) (G_head:Cal P w K mg base 1 "head" ["ties","dart"] (CD K) fh fdh) (G_leaving:Cal P w K mg base 1 "leaving" ["ties","number","place"] (CC K) fl fdl):FnOk P w K mg base CX0 2 f fd ["ties","turns","dart"] (He K):=by
 refine F.ok fR (fun vs H Q E h=>?_) (fun cdv A outer s H vs Q E hr h=>?_)
 ·obtain⟨a,b,m,es,ts,d,rfl,_⟩:=h
  rfl
 obtain⟨a,b,m,es,ts,d,rfl,tt,hdl,k⟩:=h
 obtain⟨⟨xs,h1,h2⟩,⟨ys,h3,h4⟩,w',few⟩:=tt
 obtain⟨l,e,p1,p2,p3,p4,p5,p6,p7,p8,p9⟩:=w'.foll hdl
 obtain⟨small,len⟩:=AX w' few p1
 obtain⟨q,y1,y2⟩:=h4.2 _ _ p1
 have ed:(d:Int)/2=((d/2:Nat):Int):=by omega
 refine⟨_,(af (ax (i:=3) fR.nd rfl (Or.inl rfl) (aG G_head.ok (hr.mono (by decide)) rfl G_head.mg G_head.kp G_head.bn .nil aZ (aa (pv 0) (aa (pv 2) ah))))
   (af (ax (i:=4) fR.nd rfl (Or.inl rfl) (aW a9 (pv 1) (pv 3) (fun _ _=>rfl)))
   (af (ax (i:=5) fR.nd rfl (Or.inl rfl) (aC eW (aC cL (nA JM PySem.F.slot_list_index PySem.F.type_list_index FF (pv 4) (aa (aC fq (pv 2) ai) ah)) ai) (aq aA (by rfl) T.n_len cu (aa (pv 4) ah))))
   (ak (aI (aG G_leaving.ok (hr.mono (by decide)) rfl G_leaving.mg G_leaving.kp G_leaving.bn .nil aZ (aa (pv 0) (aa (aW a9 (pv 4) (pv 5) (fun _ _=>rfl)) (aa (pv 3) ah))))))))),?_⟩
 refine⟨_,rfl,_,rfl,a,xs,es,d,rfl,h1,h2,hdl,?_⟩
 refine⟨_,rfl,_,rfl,b,ys,_,_,rfl,rfl,h3,bH y1,?_⟩
 have hlen:(l.map iV).length=l.length:=IV _
 have hl0:0<l.length:=KG p2
 have hmod:(((l.idxOf (d/2):Nat):Int)+1)%((l.map iV).length:Int)=(((l.idxOf (d/2)+1)%l.length:Nat):Int):=by rw[hlen];rfl
 refine⟨_,rfl,.inl ⟨rfl,_,SqL.of y2⟩,_,rfl,_,_,rfl,rfl,⟨by decide,by decide⟩,q,l,d/2,rfl,congrArg (fun z=>[V.int z]) ed,SqL.of y2,fun p hp=>by have:=small p hp;omega,by omega,p2,_,_,rfl,rfl,_,rfl,q,_,rfl,.inl (SqL.of y2),_,_,rfl,rfl,(by show(0:Int)<((l.map iV).length:Int);rw[hlen];omega),?_⟩
 refine⟨_,rfl,_,rfl,_,rfl,q,_,_,_,rfl,rfl,SqL.of y2,(by rw[hmod];exact iV_at (tS p2)),_,rfl,a,xs,es,nxt l (d/2),hd es d,e,rfl,h1,h2,p3,?_⟩
 rw[p6]at k
 exact k
theorem dz:aB ["ties","turns","first","row","dart"] ["ties","turns","first"] (ag b9):=⟨rfl,rfl,rfl,by decide +kernel,rfl,by decide +kernel,by decide +kernel⟩
theorem HR{f ff:Addr}{fd fdf:FuncData} (F:Fun K "round_from" "round_from" b9 f fd) (G_follower:Cal P w K mg base 2 "follower" ["ties","turns","dart"] (He K) ff fdf):FnOk P w K mg base CX0 3 f fd ["ties","turns","first"] (CF K):=by
 refine F.ok dz (fun vs H Q E h=>?_) (fun cdv A outer s H vs Q E hr h=>?_)
 ·obtain⟨a,b,m,es,ts,d,rfl,_⟩:=h
  rfl
 obtain⟨a,b,m,es,ts,d,rfl,tt,hdl,k⟩:=h
 have pm:=perm tt.w
 refine⟨_,(af (ax (i:=3) dz.nd rfl (Or.inl rfl) (dv (aa (pv 2) ah)))
   (af (ax (i:=4) dz.nd rfl (Or.inl rfl) (aG G_follower.ok (hr.mono (by decide)) rfl G_follower.mg G_follower.kp G_follower.bn .nil aZ (aa (pv 0) (aa (pv 1) (aa (pv 2) ah)))))
   (af (sW PassesOwn.never (aE jF (pv 4) (pv 2) (aJ _)) (af (bR (nA JM JP JO bD (pv 3) (aa (pv 4) ah)))
   (ak (ax (i:=4) dz.nd rfl (Or.inl rfl) (aG G_follower.ok (hr.mono (by decide)) rfl G_follower.mg G_follower.kp G_follower.bn .nil aZ (aa (pv 0) (aa (pv 1) (aa (pv 4) ah))))))))
   (ak (aI (pv 3)))))),?_⟩
 refine⟨_,rfl,(by show 1<=sizeLine;decide),fun q hq=>?_⟩
 have s1:=aj hq (.lst [.int (d:Int)])
 refine⟨_,rfl,_,rfl,_,rfl,a,b,m,es,ts,d,rfl,tt.mono s1,hdl,?_⟩
 refine sF (fun σ H2=>∃(r:List Nat)(x:Nat),σ = [some (.ref a),some (.ref b),some (.int (d:Int)),some (.ref q),some (iV (fol es ts x))]/\Same H H2/\H2 q=some (.lst ((r++[x]).map iV))/\Path (fol es ts) (2*es.length) d (r++[x]))
  (fun σ H2=>match H2 q with | some (.lst xs)=>200-xs.length | _=>0) ⟨[],d,rfl,s1,ae,Fq hdl⟩ ?_ ?_
 ·rintro σ H2 ⟨r,x,rfl,s2,hq2,pa⟩
  refine⟨_,rfl,_,rfl,rfl,_,rfl,?_⟩
  have few:=tt.few
  have hlen:=ic pa.nd pa.lt
  refine ite2 (fun c=>?_) (fun c=>?_)
  ·have c':fol es ts x≠d:=fun z=>by
    rw[decide_eq_true (show iV (fol es ts x)=V.int (d:Int) by rw[z];rfl)]at c
    cases c
   have pa2:=pa.snoc pm c'
   have hlen2:=ic pa2.nd pa2.lt
   have lt2:fol es ts x<2*es.length:=pa2.lt _ (by simp)
   refine⟨_,rfl,.inl ⟨rfl,_,SqL.of hq2⟩,_,rfl,q,_,_,rfl,rfl,hq2,aw (by rw[IV];omega),?_⟩
   have s3:=bb s2 hq (.lst ((r++[x]).map iV++[iV (fol es ts x)]))
   refine⟨_,rfl,_,rfl,_,rfl,a,b,m,es,ts,fol es ts x,rfl,tt.mono s3,lt2,?_⟩
   refine⟨⟨r++[x],fol es ts x,rfl,s3,?_,pa2⟩,?_⟩
   ·rw[ae,show((r++[x]++[fol es ts x]).map iV)=(r++[x]).map iV++[iV (fol es ts x)] from by rw[Jy];rfl]
   ·show(match(upd H2 q (.lst ((r++[x]).map iV++[iV (fol es ts x)]))) q with | some (.lst xs)=>200-xs.length | _=>0)<(match H2 q with | some (.lst xs)=>200-xs.length | _=>0)
    rw[ae,hq2]
    show 200-((r++[x]).map iV++[iV (fol es ts x)]).length<200-((r++[x]).map iV).length
    rw[IX,IV,Jg]
    omega
  ·have c':fol es ts x=d:=by
    by_cases z:fol es ts x=d
    ·exact z
    ·exact absurd (by rw[decide_eq_false (fun y=>z (by have:=V.int.inj y;omega))];rfl) c
   refine⟨_,rfl,?_⟩
   exact k q _ H2 s2 hq hq2 pa (pa.ring pm c')
 ·rintro σ H2 Q1 Q2 hi ⟨v',e,b',e2,z1,c',e3,q'⟩
  exact⟨v',e,b',e2,z1,c',e3,hi _ _ q'⟩
theorem b6:aB ["ties","turns","rounds","seen","dart","row","gone"] ["ties","turns"] (ag cP):=⟨rfl,rfl,rfl,by decide +kernel,rfl,by decide +kernel,by decide +kernel⟩
theorem Dg{f ff:Addr}{fd fdf:FuncData} (F:Fun K "rounds_of" "rounds_of" cP f fd) (T:Txt mg) (G_round_from:Cal P w K mg base 3 "round_from" ["ties","turns","first"] (CF K) ff fdf):FnOk P w K mg base CX0 4 f fd ["ties","turns"] (sI K):=by
 refine F.ok b6 (fun vs H Q E h=>?_) (fun cdv A outer s H vs Q E hr h=>?_)
 ·obtain⟨a,b,m,es,ts,rfl,_⟩:=h
  rfl
 obtain⟨a,b,m,es,ts,rfl,tt,k⟩:=h
 have hu:=FU hr
 have pm:=perm tt.w
 have few:=tt.few
 obtain⟨xs,h1,h2⟩:=tt.xs
 refine⟨_,(af (ax (i:=2) b6.nd rfl (Or.inl rfl) (dv ah))
   (af (ax (i:=3) b6.nd rfl (Or.inl rfl) nV)
   (af (ck PassesOwn.never rfl (cA rfl T.n_range (aa (aC rM ai (aq aA (by rfl) T.n_len cu (aa (pv 0) ah))) ah)) (aM (i:=4) b6.nd rfl (Or.inl rfl)) (ak (bQ (pt_cmp (C6 hu (pv 4) (pv 3))) (af (ax (i:=5) b6.nd rfl (Or.inl rfl) (aG G_round_from.ok (hr.mono (by decide)) rfl G_round_from.mg G_round_from.kp G_round_from.bn .nil aZ (aa (pv 0) (aa (pv 1) (aa (pv 4) ah)))))
   (af (bR (nA JM JP JO bD (pv 2) (aa (pv 5) ah)))
   (ak (ck PassesOwn.never rfl (bc (pv 5)) (aM (i:=6) b6.nd rfl (Or.inl rfl)) (ak (xY hu (pv 3) (pv 6) kK rfl)))))) aK)))
   (ak (aI (pv 2)))))),?_⟩
 refine⟨(by show 0<=sizeLine;decide),fun qr hqr=>fun qs hqs=>?_⟩
 have s1:=(aj hqr (.lst [])).trans (aj hqs (.dK []))
 have hqs0:H qs=none:=by
  cases z:H qs with
  |none=>rfl
  |some o=>rw[aj hqr (.lst []) qs o z]at hqs;cases hqs
 have hne:qr≠qs:=fun z=>by rw[← z,ae]at hqs;cases hqs
 have hxl:xs.length=es.length:=h2.1
 have hN:(2*(xs.length:Int)).toNat=2*es.length:=by omega
 refine⟨_,rfl,a,xs,rfl,.inl (s1.seq h1),_,_,rfl,rfl,.inl ⟨by decide,by decide⟩,_,rfl,by omega,by omega,iy (n:=(2*(xs.length:Int)).toNat) (fun i σ H2=>∃ v4 v5 v6 ys rs kvs,σ = [some (.ref a),some (.ref b),some (.ref qr),some (.ref qs),v4,v5,v6]/\Same H H2/\H2 qr=some (.lst ys)/\dP (fun p=>p=qr∨p=qs) H2 ys rs/\H2 qs=some (.dK kvs)/\kvs.length<=rs.flatten.length/\(∀ d:Nat,(valV kvs (Sum.inl (d:Int))).isSome=true↔d∈rs.flatten)/\eQ (fol es ts) (2*es.length) i rs)
  ⟨_,_,_,[],[],[],rfl,s1,by rw[ao hne,ae],⟨rfl,fun i l e=>by simp at e⟩,ae,IY _,fun d=>by simp[valV],A9 _ _⟩ ?_ ?_⟩
 ·rintro i σ H2 hi ⟨v4,v5,v6,ys,rs,kvs,rfl,s2,e1,rx,e2,kl,km,ro⟩
  rw[hN]at hi
  have e0:(0:Int)+(i:Int)=(i:Int):=KA _
  rw[e0]
  have fl:=uo ro
  have rl:=Fg ro
  refine⟨_,rfl,_,rfl,_,_,rfl,DGet.k (k:=Sum.inl (i:Int)) e2,_,rfl,?_⟩
  refine ite2 (fun c=>?_) (fun c=>?_)
  ·have hni:i∉rs.flatten:=fun z=>by
    rw[(km i).mpr z]at c
    cases c
   refine⟨_,rfl,_,rfl,_,rfl,a,b,m,es,ts,i,rfl,tt.mono s2,hi,fun q r H3 s3 hq hq3 pa ri=>?_⟩
   have s23:=s2.trans s3
   have nq:¬ (q=qr∨q=qs):=by
    rintro(z | z)
    ·rw[z,e1]at hq;cases hq
    ·rw[z,e2]at hq;cases hq
   refine⟨_,rfl,.inl ⟨rfl,_,SqL.of (s3 _ _ e1)⟩,_,rfl,qr,_,_,rfl,rfl,s3 _ _ e1,aw (by rw[rx.1];omega),?_⟩
   have s4:=bb s23 hqr (.lst (ys++[.ref q]))
   have hrq:∀{H5:Hp},dP (fun p=>p=qr∨p=qs) H5 (ys++[.ref q]) (rs++[r])->H5 q=some (.lst (r.map iV)):=fun h=>by
    obtain⟨p,z1,_,z2⟩:=h.2 rs.length r (by rw[IZ (IY _),JC];rfl)
    rw[← rx.1,IZ (IY _),JC]at z1
    cases z1
    exact z2
   have rx4:dP (fun p=>p=qr∨p=qs) (upd H3 qr (.lst (ys++[.ref q]))) (ys++[.ref q]) (rs++[r]):=by
    refine(rx.mono fun p o n z=>?_).snoc nq ?_
    ·rw[ao (fun z=>n (.inl z))];exact s3 _ _ z
    ·rw[ao (fun z=>nq (.inl z))];exact hq3
   have rl:r.length<=2*es.length:=ic ri.nd ri.lt
   refine⟨_,rfl,q,rfl,⟨_,SqL.of (hrq rx4)⟩,cF (xs:=r.map iV) (fun j σ H5=>∃ v6 kvs',σ = [some (.ref a),some (.ref b),some (.ref qr),some (.ref qs),some (.int (i:Int)),some (.ref q),v6]/\Same H H5/\H5 qr=some (.lst (ys++[.ref q]))/\dP (fun p=>p=qr∨p=qs) H5 (ys++[.ref q]) (rs++[r])/\H5 qs=some (.dK kvs')/\kvs'.length<=rs.flatten.length+j/\∀ d:Nat,(valV kvs' (Sum.inl (d:Int))).isSome=true↔d∈rs.flatten∨d∈r.take j)
    ⟨_,kvs,rfl,s4,ae,rx4,by rw[ao hne.symm];exact s3 _ _ e2,kl,fun d=>by rw[km d];simp⟩ (fun j σ H5 _ p=>?_) ?_ ?_⟩
   ·obtain⟨_,_,_,_,_,z,_⟩:=p
    exact SqL.of (hrq z)
   ·rintro j x σ H5 hx ⟨v6,kvs',rfl,s5,f1,rx5,f2,kl5,km5⟩
    rw[Je]at hx
    obtain⟨g,hg,rfl⟩:=Jv.mp hx
    have hjl:j<r.length:=(IS.mp hg).1
    refine⟨_,rfl,_,rfl,qs,_,rfl,DPut.k (k:=Sum.inl (g:Int)) f2 (aw (by omega)),?_⟩
    refine⟨_,_,rfl,bb s5 hqs0 _,by rw[ao hne];exact f1,rx5.mono fun p o n z=>by rw[ao (fun z=>n (.inr z))];exact z,ae,by have:=cW kvs' (Sum.inl (g:Int)) (V.bl true);omega,fun d=>?_⟩
    rw[sG]
    have tk:r.take (j+1)=r.take j++[g]:=by rw[Jt,hg];rfl
    rw[tk]
    by_cases z:d=g
    ·subst z
     simp
    ·rw[if_neg (fun y=>z (by have:=Sum.inl.inj y;omega)),km5 d]
     simp[z]
   ·rintro σ H5 ⟨v6,kvs',rfl,s5,f1,rx5,f2,kl5,km5⟩
    rw[IV]at kl5 km5
    refine⟨_,_,_,_,rs++[r],kvs',rfl,s5,f1,rx5,f2,by rw[K4,IX];simpa using kl5,fun d=>?_,ro.put pm hni hi ri pa⟩
    rw[km5 d,JA,K4,Jl]
    simp
  ·have hii:i∈rs.flatten:=(km i).mp (by
    cases z:(valV kvs (Sum.inl (i:Int))).isSome with
    |true=>rfl
    |false=>exact absurd (by rw[z];rfl) c)
   exact⟨_,_,_,ys,rs,kvs,rfl,s2,e1,rx,e2,kl,km,ro.skip hii⟩
 ·rintro σ H2 ⟨v4,v5,v6,ys,rs,kvs,rfl,s2,e1,rx,e2,kl,km,ro⟩
  rw[hN]at ro
  exact⟨_,rfl,k qr ys rs H2 s2 e1 rx.off ro⟩
theorem eg:aB ["ties","rounds","number_at","number","row","dart"] ["ties","rounds"] (ag dQ):=⟨rfl,rfl,rfl,by decide +kernel,rfl,by decide +kernel,by decide +kernel⟩
theorem Fy{f:Addr}{fd:FuncData} (F:Fun K "sides_of" "sides_of" dQ f fd) (T:Txt mg):FnOk P w K mg base CX0 1 f fd ["ties","rounds"] (xy K):=by
 refine F.ok eg (fun vs H Q E h=>?_) (fun cdv A outer s H vs Q E hr h=>?_)
 ·obtain⟨a,b,xs,ys,es,g,rs,rfl,_⟩:=h
  rfl
 obtain⟨a,b,xs,ys,es,g,rs,rfl,hS,hT,few,hB,hR,ro,k⟩:=h
 have hu:=FU hr
 have fl:=uo ro
 refine⟨_,(af (ax (i:=2) eg.nd rfl (Or.inr rfl) nV)
   (af (ck PassesOwn.never rfl (C3 rfl T.n_enumerate (aa (pv 1) ah)) (vF rfl (cB (aM (i:=3) eg.nd rfl (Or.inl rfl)) (cB (aM (i:=4) eg.nd rfl (Or.inl rfl)) oy))) (ak (ck PassesOwn.never rfl (bc (pv 4)) (aM (i:=5) eg.nd rfl (Or.inl rfl)) (ak (xY hu (pv 2) (pv 5) (pv 3) rfl)))))
   (ak (aI (eA rfl (fr:=[("number_at",2)]) (by exact bI.one (by rfl) (by decide +kernel) (by rfl) (by decide +kernel) (by rfl) (by decide +kernel) (by rfl) (by rfl) (by decide +kernel) (by rfl)) (cA rfl T.n_range (aa (aq aA (by rfl) T.n_len cu (aa (pv 0) ah)) ah)) (fun C ex s H=>(gN (aa (oA hu (pv 1) (aC rM ai (pv 0)) (fun _ _=>rfl)) (aa (oA hu (pv 1) (aC cL (aC rM ai (pv 0)) ai) (fun _ _=>rfl)) ah))))))))),?_⟩
 intro q hq
 have s1:=aj hq (.dK [])
 have kF:∀ i,(rs.take i).flatten.length<=rs.flatten.length:=fun i=>by
  have:=congrArg (fun z=>z.flatten.length) (Lj i rs)
  simp only[K4,IX]at this
  omega
 refine⟨_,rfl,b,rfl,⟨_,s1.seq hB⟩,AH (K:=K) (xs:=ys) (fun i σ H2=>∃ v3 v4 v5 kvs,σ = [some (.ref a),some (.ref b),some (.ref q),v3,v4,v5]/\Same H H2/\H2 q=some (.dK kvs)/\kvs.length<=(rs.take i).flatten.length/\∀(d c:Nat)(r:List Nat),c<i->rs[c]?=some r->d∈r->valV kvs (Sum.inl (d:Int))=some (iV c))
  ⟨_,_,_,[],rfl,s1,ae,Kc _,fun d c r z=>absurd z (LM _)⟩ (fun i σ H2 _ ⟨_,_,_,_,_,s2,_⟩=>s2.seq hB) ?_ ?_⟩
 ·rintro i x σ H2 T2 hx ⟨v3,v4,v5,kvs,rfl,s2,e1,kl,km⟩ hT2
  have hil:i<rs.length:=by
   have:=(IS.mp hx).1
   rw[hR.1]at this
   exact this
  have hr':rs[i]?=some rs[i]:=IU hil
  obtain⟨p,x1,x2⟩:=hR.2 i _ hr'
  rw[hx]at x1
  cases x1
  generalize rs[i]=r at hr' x2
  have s3:Same H (upd H2 T2 (.tup [.int (i:Int),.ref p])):=s2.trans (aj hT2 _)
  have f1:(rs.take (i+1)).flatten=(rs.take i).flatten++r:=by rw[Jt,hr'];simp
  have f2:=kF (i+1)
  rw[f1,IX]at f2
  refine⟨T2,_,rfl,SqT.of ae,rfl,_,_,rfl,_,_,rfl,rfl,?_⟩
  refine⟨_,rfl,p,rfl,⟨_,SqL.of (s3 _ _ x2)⟩,cF (xs:=r.map iV) (fun j σ H5=>∃ v5 kvs',σ = [some (.ref a),some (.ref b),some (.ref q),some (.int (i:Int)),some (.ref p),v5]/\Same H H5/\H5 q=some (.dK kvs')/\kvs'.length<=(rs.take i).flatten.length+j/\(∀(d c:Nat)(r:List Nat),c<i->rs[c]?=some r->d∈r->valV kvs' (Sum.inl (d:Int))=some (iV c))/\∀ d∈r.take j,valV kvs' (Sum.inl (d:Int))=some (iV i))
   ⟨_,kvs,rfl,s3,aj hT2 _ _ _ e1,kl,km,fun d hd=>by simp at hd⟩ (fun j σ H5 _ ⟨_,_,_,z,_⟩=>SqL.of (z _ _ x2)) ?_ ?_⟩
  ·rintro j x σ H5 hx2 ⟨v5,kvs',rfl,s5,g1,kl5,km5,kn5⟩
   rw[Je]at hx2
   obtain⟨g,hg,rfl⟩:=Jv.mp hx2
   have hjl:j<r.length:=(IS.mp hg).1
   refine⟨_,rfl,_,rfl,_,rfl,q,_,rfl,DPut.k (k:=Sum.inl (g:Int)) g1 (aw (by omega)),?_⟩
   refine⟨_,_,rfl,bb s5 hq _,ae,by have:=cW kvs' (Sum.inl (g:Int)) (V.int (i:Int));omega,fun d c r' hc hrc hd=>?_,fun d hd=>?_⟩
   ·rw[sG,if_neg (fun z=>?_)]
    ·exact km5 d c r' hc hrc hd
    ·have z':d=g:=by have:=Sum.inl.inj z;omega
     subst z'
     have:=Iw ro.nd hrc hr' hd (IW hg)
     omega
   ·rw[sG]
    by_cases z:d=g
    ·subst z
     rw[if_pos rfl]
     rfl
    ·rw[if_neg (fun y=>z (by have:=Sum.inl.inj y;omega))]
     refine kn5 d ?_
     rw[Jt,hg]at hd
     simpa[z] using hd
  ·rintro σ H5 ⟨v5,kvs',rfl,s5,g1,kl5,km5,kn5⟩
   rw[IV]at kl5 kn5
   rw[JA]at kn5
   refine⟨_,_,_,kvs',rfl,s5,g1,by rw[f1,IX];exact kl5,fun d c r' hc hrc hd=>?_⟩
   by_cases z:c=i
   ·subst z
    rw[hr']at hrc
    cases hrc
    exact kn5 d hd
   ·exact km5 d c r' (by omega) hrc hd
 ·rintro σ H2 ⟨v3,v4,v5,kvs,rfl,s2,e1,kl,km⟩
  rw[hR.1]at km
  have get:∀ d,d<2*es.length->∃ c r,rs[c]?=some r/\d∈r/\valV kvs (Sum.inl (d:Int))=some (iV c):=fun d hd=>by
   obtain⟨r,z1,z2⟩:=KH.mp (ro.all d hd)
   obtain⟨c,z3⟩:=Kt.mp z1
   exact⟨c,r,z3,z2,km d c r (IS.mp z3).1 z3 z2⟩
  have hxl:xs.length=es.length:=hT.1
  refine⟨_,rfl,a,xs,rfl,.inl (s2.seq hS),_,rfl,by omega,by omega,l7 (fun i zs H3=>Same H2 H3/\mP H3 zs i rs) (by rw[JI,hxl];exact JT (aw (by omega))) ⟨fun _ _ e=>e,rfl,fun i hi=>absurd hi (LM _)⟩ ?_ ?_⟩
  ·rintro i zs H3 hi ⟨s3,sd⟩
   have e0:(0:Int)+(i:Int)=(i:Int):=KA _
   rw[e0]
   rw[JI,hxl]at hi
   obtain⟨c1,r1,z1,z2,z3⟩:=get (2*i) (by omega)
   obtain⟨c2,r2,y1,y2,y3⟩:=get (2*i+1) (by omega)
   have m2:CMul 2 (i:Int):=.inl ⟨by decide,by decide⟩
   have d1:DGet H3 q (V.int (2*(i:Int))) (some (iV c1)):=by
    rw[← z3,show((2*i:Nat):Int)=2*(i:Int) by omega]
    exact DGet.k (k:=Sum.inl (2*(i:Int))) (s3 _ _ e1)
   have d2:DGet H3 q (V.int (2*(i:Int)+1)) (some (iV c2)):=by
    rw[← y3,show((2*i+1:Nat):Int)=2*(i:Int)+1 by omega]
    exact DGet.k (k:=Sum.inl (2*(i:Int)+1)) (s3 _ _ e1)
   refine⟨_,rfl,_,rfl,_,_,rfl,rfl,m2,q,_,rfl,d1,_,rfl,_,rfl,_,_,rfl,rfl,m2,_,_,rfl,rfl,q,_,rfl,d2,(by show 2<=sizeLine;decide),fun t ht=>?_⟩
   have s4:=aj ht (.tup [iV c1,iV c2])
   refine⟨s3.trans s4,by rw[IX,sd.1];rfl,fun j hj=>?_⟩
   by_cases z:j=i
   ·subst z
    exact⟨t,c1,c2,r1,r2,by rw[← sd.1,IZ (IY _),JC];rfl,ae,z1,z2,y1,y2⟩
   ·obtain⟨p,a',b',r,r',w1,w2,w3⟩:=sd.2 j (by omega)
    exact⟨p,a',b',r,r',by rw[Jb (by rw[sd.1];omega)];exact w1,s4 _ _ w2,w3⟩
  ·rintro zs H3 hzl ⟨s3,sd⟩ D hD
   rw[JI,hxl]at sd
   exact k D zs _ ((s2.trans s3).trans (aj hD _)) ae ⟨sd.1,fun i hi=>by
    obtain⟨p,a',b',r,r',w1,w2,w3⟩:=sd.2 i hi
    exact⟨p,a',b',r,r',w1,aj hD _ _ _ w2,w3⟩⟩
theorem sS:aB ["self","one","two","strength"] ["self","one","two","strength"] (ag cj):=⟨rfl,rfl,rfl,by decide +kernel,rfl,by decide +kernel,by decide +kernel⟩
theorem HP{f:Addr}{fd:FuncData} (F:Fun K "__init__" "Tie.__init__" cj f fd):FnOk P w K mg base CX0 1 f fd ["self","one","two","strength"] (rE K):=by
 refine F.ok sS (fun vs H Q E h=>?_) (fun cdv A outer s H vs Q E hr h=>?_)
 ·obtain⟨p,C,dx,a,b,s,rfl,_⟩:=h
  rfl
 obtain⟨p,C,dx,a,b,st,rfl,hp,T,hne,ha,hb,hs,k⟩:=h
 refine⟨_,(af (bQ (aE lG (pv 1) (pv 2) (aJ _)) (ak fT) aK)
   (af (bQ (PW.pt (jm (aE Fs (pv 1) ai (aJ _)) (gX (aE Fs (pv 2) ai (aJ _))))) (ak fT) aK)
   (af (bQ (aE Fs (pv 3) ai (aJ _)) (ak fT) aK)
   (af (mQ (pv 0) (pv 1) rfl)
   (af (mQ (pv 0) (pv 2) rfl)
   (ak (mQ (pv 0) (pv 3) rfl))))))),?_⟩
 walk_at "rd"
 refine ite2 (fun c=>absurd (V.int.inj (of_decide_eq_true c)) hne) (fun _=>?_)
 walk_at "rd"
 refine ite2 (fun c=>absurd (of_decide_eq_true c) (by omega)) (fun _=>?_)
 walk_at "rd"
 refine ite2 (fun c=>absurd (of_decide_eq_true c) (by omega)) (fun _=>?_)
 walk_at "rd"
 refine ite2 (fun c=>absurd (of_decide_eq_true c) (by omega)) (fun _=>?_)
 refine⟨_,rfl,_,rfl,p,C,dx,[],rfl,hp,T.cl,T.n1,(by show 0<1000;decide),?_⟩
 refine⟨_,rfl,_,rfl,p,C,dx,_,rfl,ae,T.cl,T.n2,f1_len a,?_⟩
 refine⟨_,rfl,_,rfl,p,C,dx,_,rfl,ae,T.cl,T.n3,f2_len a b,?_⟩
 exact k _ ae fun q o e hq=>by rw[ao hq,ao hq,ao hq];exact e
theorem xQ:aB ["script","k"] ["script","k"] (ag dY):=⟨rfl,rfl,rfl,by decide +kernel,rfl,by decide +kernel,by decide +kernel⟩
theorem HU{f:Addr}{fd:FuncData} (F:Fun K "_law_cell" "_law_cell" dY f fd) (T:Txt mg):FnOk P w K mg base CX0 1 f fd ["script","k"] (Ak K):=by
 refine F.ok xQ (fun vs H Q E h=>?_) (fun cdv A outer s H vs Q E hr h=>?_)
 ·obtain⟨a,k,ns,rfl,_⟩:=h
  rfl
 obtain⟨a,k,ns,rfl,hS,q⟩:=h
 refine⟨_,(af (bQ (aE Fs (pv 1) (aq aA (by rfl) T.n_len cu (aa (pv 0) ah)) (aJ _)) (ak (aI (aW a9 (pv 0) (pv 1) (fun _ _=>rfl)))) aK)
   (ak (aI ai))),?_⟩
 refine⟨_,rfl,_,rfl,a,_,rfl,.inl hS,_,_,rfl,rfl,_,rfl,?_⟩
 refine ite2 (fun c=>?_) (fun c=>?_)
 ·have c':(k:Int)<((ns.map V.int).length:Int):=of_decide_eq_true c
  rw[IV]at c'
  have hk:k<ns.length:=by omega
  have hat:atI (ns.map V.int) (k:Int)=some (.int (zM ns k)):=bH (by rw[Je,IU hk];unfold zM;rw[J1,IU hk];rfl)
  exact⟨_,rfl,_,rfl,a,_,_,_,rfl,rfl,hS,hat,q⟩
 ·have c':¬ (k:Int)<((ns.map V.int).length:Int):=fun z=>c (decide_eq_true z)
  rw[IV]at c'
  have e:zM ns k=0:=by unfold zM;rw[J1,KJ (by omega)];rfl
  rw[e]at q
  exact q
theorem at0{u v:V}:atI [u,v] 0=some u:=rfl
theorem at1{u v:V}:atI [u,v] 1=some v:=rfl
theorem Ih{H:Hp}{a:Addr}{ps:List Nat}(h:SqL K H a (ps.map iV)):RdD K H (.ref a) (.list ((ps.map fun(p:Nat)=>((p:Nat):Int)).map PyData.int)):=by
 refine RdD.lst h (by simp) fun i x d e1 e2=>?_
 rw[Je]at e1
 rw[Je,Je]at e2
 cases z:ps[i]? with
 |none=>rw[z]at e1;cases e1
 |some n =>
  rw[z]at e1 e2
  cases e1
  cases e2
  exact .int _
theorem DO(l:List Int):(PyData.list (l.map PyData.int)).canLay0=true/\(PyData.list (l.map PyData.int)).depth<=10:=by
 have h1:∀ d∈l.map PyData.int,d.canLay0=true/\d.depth<=1:=fun d hd=>by
  obtain⟨x,_,rfl⟩:=Jj.mp hd
  exact⟨by simp[PyData.canLay0],by simp[PyData.depth]⟩
 have h2:=iC fun d hd=>(h1 d hd).1
 have h3:=j4 fun d hd=>(h1 d hd).2
 exact⟨by simp only[PyData.canLay0];exact h2,by simp only[PyData.depth];omega⟩
theorem o6(l:List Int):SeqAt.shaped (.list (l.map PyData.int))=true:=oj fun d hd=>by
 obtain⟨x,_,rfl⟩:=Jj.mp hd
 exact⟨by simp[PyData.canLay0],by simp[PyData.depth]⟩
theorem ni.snoc{H:Hp}{xs:List V}{es:En}{e:Nat×Nat}{p:Addr}(t:ni H xs es)(h:H p=some (.tup [iV e.1,iV e.2])):ni H (xs++[.ref p]) (es++[e]):=by
 refine⟨by rw[IX,IX,t.1];rfl,fun j k ej=>?_⟩
 by_cases hj:j<es.length
 ·rw[Jb hj]at ej
  obtain⟨p,a1,a2⟩:=t.2 j k ej
  exact⟨p,by rw[Jb (by rw[t.1];exact hj)];exact a1,a2⟩
 ·rw[IZ (by omega)]at ej
  have hj2:j=es.length:=by
   have:=(IS.mp ej).1
   rw[Jg]at this
   omega
  subst hj2
  rw[JC]at ej
  cases ej
  exact⟨p,by rw[← t.1,IZ (IY _),JC];rfl,h⟩
def Dist(xs:List V):Prop:=∀(i j:Nat)(p:Addr),xs[i]?=some (.ref p)->xs[j]?=some (.ref p)->i=j
theorem dP.set{S:Addr->Prop}{H:Hp}{xs:List V}{ts:List (List Nat)}{i:Nat}{p:Addr}{l':List Nat}(h:dP S H xs ts)(D:Dist xs)(e:xs[i]?=some (.ref p)):dP S (upd H p (.lst (l'.map iV))) xs (ts.set i l'):=by
 refine⟨by rw[Ku];exact h.1,fun j l z=>?_⟩
 have hi:i<ts.length:=by rw[← h.1];exact(IS.mp e).1
 rw[KC]at z
 by_cases hj:i=j
 ·subst hj
  rw[if_pos rfl,if_pos hi]at z
  cases z
  obtain⟨p',a1,a2,a3⟩:=h.2 i _ (IU hi)
  rw[e]at a1
  cases a1
  exact⟨p,e,a2,ae⟩
 ·rw[if_neg hj]at z
  obtain⟨p',a1,a2,a3⟩:=h.2 j l z
  exact⟨p',a1,a2,by rw[ao (fun y=>by rw[y]at a1;exact hj (D i j p e a1))];exact a3⟩
theorem CS{H:Hp}{a:Addr}{xs:List V}{ts:List (List Nat)}(h:SqL K H a xs)(hR:bq H xs ts):RdD K H (.ref a) (.list (ts.map fun l=>PyData.list ((l.map fun(p:Nat)=>((p:Nat):Int)).map PyData.int))):=by
 refine RdD.lst h (by rw[IV];exact hR.1) fun i x d e1 e2=>?_
 rw[Je]at e2
 obtain⟨l,hl,rfl⟩:=Jv.mp e2
 obtain⟨p,a1,a2⟩:=hR.2 i l hl
 rw[e1]at a1
 cases a1
 exact Ih (SqL.of a2)
theorem xV(ts:List (List Nat)):SeqAt.shaped (.list (ts.map fun l=>PyData.list ((l.map fun(p:Nat)=>((p:Nat):Int)).map PyData.int)))=true:=oj fun d hd=>by
 obtain⟨l,_,rfl⟩:=Jj.mp hd
 exact DO _
end
end K8
namespace K8
open PySem L2
local macro_rules | `(tactic| walk_at "cc") => `(tactic| first | exact ⟨by decide, by decide⟩ | (show (0 : Int) < _; decide) | (show (0 : Int) < _; omega) | (show (0 : Int) ≤ _; omega) | exact ⟨by decide, by decide, by decide⟩ | exact ⟨by omega, by omega, by decide⟩ | exact Or.inl ⟨by decide, by decide⟩ | exact Or.inl ⟨by omega, by omega⟩)
local macro_rules | `(tactic| walk_at "rd") => `(tactic| repeat (first | refine ⟨_, rfl, ?_⟩ | refine ⟨_, _, rfl, rfl, ?_⟩ | refine ⟨rfl, ?_⟩ | (refine ⟨?cc, ?_⟩; (case cc => walk_at "cc"))))
section
variable{P:Program}{w:World}{K:IT}{mg:Str->Option Value}{base:Heap}
end
end K8
namespace K8
open PySem L2
local macro_rules | `(tactic| walk_at "cc") => `(tactic| first | exact ⟨by decide, by decide⟩ | (show (0 : Int) < _; decide) | (show (0 : Int) < _; omega) | (show (0 : Int) ≤ _; omega) | exact ⟨by decide, by decide, by decide⟩ | exact ⟨by omega, by omega, by decide⟩ | exact Or.inl ⟨by decide, by decide⟩ | exact Or.inl ⟨by omega, by omega⟩)
local macro_rules | `(tactic| walk_at "rd") => `(tactic| repeat (first | refine ⟨_, rfl, ?_⟩ | refine ⟨_, _, rfl, rfl, ?_⟩ | refine ⟨rfl, ?_⟩ | (refine ⟨?cc, ?_⟩; (case cc => walk_at "cc"))))
theorem Ea{S:Addr->Prop}{H:Hp}{xs:List V}{ts:List (List Nat)}{q:Addr}(h:dP S H xs ts)(D:Dist xs)(hq:H q=none):Dist (xs++[.ref q]):=by
 have old:∀(j:Nat)(p:Addr),j<xs.length->(xs++[V.ref q])[j]?=some (.ref p)->xs[j]?=some (.ref p)/\p≠q:=fun j p hj e=>by
  rw[Jb hj]at e
  obtain⟨p',a1,_,a3⟩:=h.2 j _ (IU (by rw[← h.1];exact hj))
  rw[e]at a1
  cases a1
  exact⟨e,az a3 hq⟩
 have new:∀(j:Nat)(p:Addr),¬ j<xs.length->(xs++[V.ref q])[j]?=some (.ref p)->j=xs.length/\p=q:=fun j p hj e=>by
  have:=(IS.mp e).1
  rw[IX,Jg]at this
  have hj2:j=xs.length:=by omega
  subst hj2
  rw[IZ (IY _),JC]at e
  cases e
  exact⟨rfl,rfl⟩
 intro j k p e1 e2
 by_cases hj:j<xs.length
 ·obtain⟨u1,u2⟩:=old j p hj e1
  by_cases hk:k<xs.length
  ·exact D j k p u1 (old k p hk e2).1
  ·exact absurd (new k p hk e2).2 u2
 ·obtain⟨u1,u2⟩:=new j p hj e1
  by_cases hk:k<xs.length
  ·exact absurd u2 (old k p hk e2).2
  ·rw[u1,(new k p hk e2).1]
theorem gr_few{m:Nat}{es:En}{ts:List (List Nat)}(g:Gr m es ts):m<=es.length+2:=by
 obtain⟨rs,_,c⟩:=g.part
 omega
section
variable{P:Program}{w:World}{K:IT}{mg:Str->Option Value}{base:Heap}
end
end K8
namespace K8
open PySem L2
local macro_rules | `(tactic| walk_at "cc") => `(tactic| first | exact ⟨by decide, by decide⟩ | (show (0 : Int) < _; decide) | (show (0 : Int) < _; omega) | (show (0 : Int) ≤ _; omega) | exact ⟨by decide, by decide, by decide⟩ | exact ⟨by omega, by omega, by decide⟩ | exact Or.inl ⟨by decide, by decide⟩ | exact Or.inl ⟨by omega, by omega⟩)
local macro_rules | `(tactic| walk_at "rd") => `(tactic| repeat (first | refine ⟨_, rfl, ?_⟩ | refine ⟨_, _, rfl, rfl, ?_⟩ | refine ⟨rfl, ?_⟩ | (refine ⟨?cc, ?_⟩; (case cc => walk_at "cc"))))
theorem cut_hi{xs:List V}{c:Nat}(h:c<=xs.length):cutV xs (some (c:Int)) none=xs.drop c:=by
 unfold cutV
 rw[HT.sIx_nat,K7 h]
 show(xs.drop c).take (xs.length-c)=_
 exact JQ (by rw[Ko];exact IY _)
section
variable{P:Program}{w:World}{K:IT}{mg:Str->Option Value}{base:Heap}
end
end K8
namespace K8
open PySem L2
local macro_rules | `(tactic| walk_at "cc") => `(tactic| first | exact ⟨by decide, by decide⟩ | (show (0 : Int) < _; decide) | (show (0 : Int) < _; omega) | (show (0 : Int) ≤ _; omega) | exact ⟨by decide, by decide, by decide⟩ | exact ⟨by omega, by omega, by decide⟩ | exact Or.inl ⟨by decide, by decide⟩ | exact Or.inl ⟨by omega, by omega⟩)
local macro_rules | `(tactic| walk_at "rd") => `(tactic| repeat (first | refine ⟨_, rfl, ?_⟩ | refine ⟨_, _, rfl, rfl, ?_⟩ | refine ⟨rfl, ?_⟩ | (refine ⟨?cc, ?_⟩; (case cc => walk_at "cc"))))
theorem bt_min:bootBuiltins "min" = some (.builtin "min"):=by decide +kernel
abbrev Kn:=List (Int×Int)
def fi(H:Hp)(ws:List V)(ks:Kn):Prop:=ws.length=ks.length/\∀(i:Nat)(k:Int×Int),ks[i]?=some k->(k.1=0∨k.1=1)/\0<=k.2/\∃ p,ws[i]?=some (.ref p)/\H p=some (.tup [.int k.1,.int k.2])
theorem fi.mono{H H':Hp}{ws:List V}{ks:Kn}(h:fi H ws ks)(s:Same H H'):fi H' ws ks:=⟨h.1,fun i k z=>by
 obtain⟨a,b,p,c,d⟩:=h.2 i k z
 exact⟨a,b,p,c,s _ _ d⟩⟩
theorem fi.put{H:Hp}{ws:List V}{ks:Kn}{q:Addr}{zs:List V}{o:HO}(t:fi H ws ks)(h:H q=some (.lst zs)):fi (upd H q o) ws ks:=⟨t.1,fun i e z=>by
 obtain⟨u,v,p,a,b⟩:=t.2 i e z
 refine⟨u,v,p,a,?_⟩
 rw[ao (fun z=>by rw[z,h]at b;cases b)]
 exact b⟩
theorem fi.snoc{H:Hp}{ws:List V}{ks:Kn}{k:Int×Int}{p:Addr}(t:fi H ws ks)(h:H p=some (.tup [.int k.1,.int k.2]))(h1:k.1=0∨k.1=1)(h2:0<=k.2):fi H (ws++[.ref p]) (ks++[k]):=by
 refine⟨by rw[IX,IX,t.1];rfl,fun j x ej=>?_⟩
 by_cases hj:j<ks.length
 ·rw[Jb hj]at ej
  obtain⟨u,v,p,a1,a2⟩:=t.2 j x ej
  exact⟨u,v,p,by rw[Jb (by rw[t.1];exact hj)];exact a1,a2⟩
 ·rw[IZ (by omega)]at ej
  have hj2:j=ks.length:=by
   have:=(IS.mp ej).1
   rw[Jg]at this
   omega
  subst hj2
  rw[JC]at ej
  cases ej
  exact⟨h1,h2,p,by rw[← t.1,IZ (IY _),JC];rfl,h⟩
theorem Gr.two{m:Nat}{es:En}{ts:List (List Nat)}(g:Gr m es ts)(h:0<es.length):2<=m:=by
 obtain⟨a,b,c⟩:=g.w.ends _ (IW (IU h))
 omega
section
variable{P:Program}{w:World}{K:IT}{mg:Str->Option Value}{base:Heap}
end
end K8
namespace K8
open PySem L2
local macro_rules | `(tactic| walk_at "cc") => `(tactic| first | exact ⟨by decide, by decide⟩ | (show (0 : Int) < _; decide) | (show (0 : Int) < _; omega) | (show (0 : Int) ≤ _; omega) | exact ⟨by decide, by decide, by decide⟩ | exact ⟨by omega, by omega, by decide⟩ | exact Or.inl ⟨by decide, by decide⟩ | exact Or.inl ⟨by omega, by omega⟩)
local macro_rules | `(tactic| walk_at "rd") => `(tactic| repeat (first | refine ⟨_, rfl, ?_⟩ | refine ⟨_, _, rfl, rfl, ?_⟩ | refine ⟨rfl, ?_⟩ | (refine ⟨?cc, ?_⟩; (case cc => walk_at "cc"))))
theorem andN(a b:Nat):Builtin.bitAnd (a:Int) (b:Int)=((a&&&b:Nat):Int):=by
 rw[PyProof.Rows.bitAnd_pp (LZ _) (LZ _),JI,JI]
theorem orN(a b:Nat):Builtin.bitOr (a:Int) (b:Int)=((a|||b:Nat):Int):=by
 rw[PyProof.Rows.bitOr_and,andN]
 have q:=PyProof.Rows.nat_or_add_and a b
 omega
theorem shlN(p:Nat):(1:Int)*2^((p:Nat):Int).toNat=((2^p:Nat):Int):=by
 rw[Int.one_mul,JI,Int.natCast_pow]
 rfl
theorem E3{M p q:Nat}:(M&&&(2^p|||2^q)=0↔M.testBit p=false/\M.testBit q=false)/\(M|||(2^p|||2^q)=M->M.testBit p=true/\M.testBit q=true):=by
 have b1:∀ i,(2^p|||2^q).testBit i=(decide (p=i)||decide (q=i)):=fun i=>by rw[J2,JF,JF]
 refine⟨⟨fun h=>?_,fun⟨h1,h2⟩=>?_⟩,fun h=>?_⟩
 ·have h1:=congrArg (fun z=>Ml z p) h
  have h2:=congrArg (fun z=>Ml z q) h
  simp only[Kj,b1,Kg]at h1 h2
  constructor
  ·simpa using h1
  ·simpa using h2
 ·refine JV fun i=>?_
  rw[Kj,b1,Kg]
  by_cases z1:p=i
  ·subst z1;rw[h1];rfl
  ·by_cases z2:q=i
   ·subst z2;rw[h2];rfl
   ·simp[z1,z2]
 ·have h1:=congrArg (fun z=>Ml z p) h
  have h2:=congrArg (fun z=>Ml z q) h
  simp only[J2 (x:=M),b1]at h1 h2
  constructor
  ·simpa using h1.symm
  ·simpa using h2.symm
theorem DX{M m:Nat}(h:M<2^m)(k:∀ p,p<m->M.testBit p=true):M=2^m-1:=by
 refine JV fun i=>?_
 rw[Nat.testBit_two_pow_sub_one]
 by_cases z:i<m
 ·rw[k i z,decide_eq_true z]
 ·rw[decide_eq_false z]
  exact KR (Jz h (Kw (by decide) (by omega)))
def xA(K:IT):Sp:=fun vs H Q _=>∃(a:Addr)(ys:List V)(m:Nat)(es:En)(ts:List (List Nat)),vs = [.int 0,.ref a]/\SqL K H a ys/\ni H ys es/\Gr m es ts/\2<=m/\m<=40/\Q (.int ((2^m-1:Nat):Int)) H
section
variable{P:Program}{w:World}{K:IT}{mg:Str->Option Value}{base:Heap}
theorem b7:aB ["start","pairs","mask","ahead","one","two","ends"] ["start","pairs"] (ag fG):=⟨rfl,rfl,rfl,by decide +kernel,rfl,by decide +kernel,by decide +kernel⟩
theorem Bg{f:Addr}{fd:FuncData} (F:Fun K "reached" "reached" fG f fd):FnOk P w K mg base CX0 1 f fd ["start","pairs"] (xA K):=by
 refine F.ok b7 (fun vs H Q E h=>?_) (fun cdv A outer s H vs Q E hr h=>?_)
 ·obtain⟨a,ys,m,es,ts,rfl,_⟩:=h
  rfl
 obtain⟨a,ys,m,es,ts,rfl,hS,hE,g,m2,m40,kk⟩:=h
 refine⟨_,(af (ax (i:=2) b7.nd rfl (Or.inl rfl) (aC g9 ai (pv 0)))
   (af (ax (i:=3) b7.nd rfl (Or.inl rfl) ai)
   (af (sW PassesOwn.never (aE jF (pv 2) (pv 3) (aJ _)) (af (ax (i:=3) b7.nd rfl (Or.inl rfl) (pv 2))
   (ak (ck PassesOwn.never rfl (bc (pv 1)) (vF rfl (cB (aM (i:=4) b7.nd rfl (Or.inl rfl)) (cB (aM (i:=5) b7.nd rfl (Or.inl rfl)) oy))) (af (ax (i:=6) b7.nd rfl (Or.inl rfl) (aC yn (aC g9 ai (pv 4)) (aC g9 ai (pv 5))))
   (ak (bQ (aE jF (aC oE (pv 2) (pv 6)) ai (aJ _)) (ak (ax (i:=2) b7.nd rfl (Or.inl rfl) (aC yn (pv 2) (pv 6)))) aK)))))))
   (ak (aI (pv 2)))))),?_⟩
 refine⟨_,rfl,_,_,rfl,rfl,⟨by decide,by decide,by decide⟩,?_⟩
 have p2:∀ p,p<m->2^p<2^m:=fun p hp=>Nat.pow_lt_pow_right (by decide) hp
 refine sF (fun σ H2=>∃(M Ah:Nat),∃ v4 v5 v6,H2=H/\σ = [some (.int 0),some (.ref a),some (.int (M:Int)),some (.int (Ah:Int)),v4,v5,v6]/\M.testBit 0=true/\M<2^m/\(M=Ah->∀ e∈es,M.testBit e.1=M.testBit e.2))
  (fun σ _=>match σ with | [_,_,some (.int M),some (.int Ah),_,_,_]=>2*((2^m:Nat)-M).toNat+(if M=Ah then 0 else 1) | _=>0) ⟨1,0,_,_,_,rfl,rfl,by decide,Nat.one_lt_two_pow (by omega),fun z=>absurd z (by decide)⟩ ?_ ?_
 ·rintro σ H2 ⟨M,Ah,v4,v5,v6,rfl,rfl,b0,hM,cl⟩
  refine⟨_,rfl,_,rfl,rfl,_,rfl,?_⟩
  refine ite2 (fun c=>?_) (fun c=>?_)
  ·have c':M≠Ah:=fun z=>by
    rw[decide_eq_true (show V.int (M:Int)=V.int (Ah:Int) by rw[z])]at c
    cases c
   refine⟨_,rfl,?_⟩
   refine⟨_,rfl,a,rfl,⟨_,hS⟩,cF (K:=K) (xs:=ys) (fun i σ H3=>∃(M':Nat),∃ v4 v5 v6,H3=H2/\σ = [some (.int 0),some (.ref a),some (.int (M':Int)),some (.int (M:Int)),v4,v5,v6]/\M'.testBit 0=true/\M'<2^m/\M<=M'/\(M'=M->∀(j:Nat)(e:Nat×Nat),j<i->es[j]?=some e->M.testBit e.1=M.testBit e.2)) ⟨M,_,_,_,rfl,rfl,b0,hM,IY _,fun _ j e z=>absurd z (LM _)⟩ (fun i σ H3 _ ⟨_,_,_,_,z,_⟩=>z▸hS) ?_ ?_⟩
   ·rintro i x σ H3 hx ⟨M',v4,v5,v6,rfl,rfl,b0',hM',hle,cl'⟩
    have hi:i<es.length:=by rw[← hE.1];exact(IS.mp hx).1
    obtain⟨e,he⟩:∃ e,es[i]?=some e:=⟨_,IU hi⟩
    obtain⟨p,x1,x2⟩:=hE.2 i e he
    rw[hx]at x1
    cases x1
    obtain⟨e1,e2,_⟩:=g.w.ends e (IW he)
    obtain⟨t1,t2⟩:=E3 (M:=M') (p:=e.1) (q:=e.2)
    refine⟨p,_,rfl,SqT.of x2,rfl,_,_,rfl,_,_,rfl,rfl,?_⟩
    refine⟨_,rfl,_,_,rfl,rfl,⟨by omega,by omega,by decide⟩,_,rfl,_,_,rfl,rfl,⟨by omega,by omega,by decide⟩,_,_,rfl,rfl,?_⟩
    have eo:Builtin.bitOr (1*2^((e.1:Nat):Int).toNat) (1*2^((e.2:Nat):Int).toNat)=((2^e.1|||2^e.2:Nat):Int):=by rw[shlN,shlN,orN]
    refine⟨_,rfl,_,rfl,_,_,rfl,rfl,rfl,_,rfl,?_⟩
    have step:∀ M'':Nat,M'<=M''->(M''=M'->M'.testBit e.1=M'.testBit e.2)->M''=M->∀(j:Nat)(x:Nat×Nat),j<i+1->es[j]?=some x->M.testBit x.1=M.testBit x.2:=fun M'' h1 h2 h3 j x hj hx'=>by
     have e3:M'=M:=by omega
     by_cases z:j=i
     ·subst z
      rw[he]at hx'
      cases hx'
      have:=h2 (by omega)
      rwa[e3]at this
     ·exact cl' e3 j x (by omega) hx'
    refine ite2 (fun c=>?_) (fun c=>?_)
    ·refine⟨_,rfl,_,rfl,_,_,rfl,rfl,?_⟩
     refine⟨M'|||(2^e.1|||2^e.2),some (iV e.1),some (iV e.2),some (V.int (Builtin.bitOr (1*2^((e.1:Nat):Int).toNat) (1*2^((e.2:Nat):Int).toNat))),rfl,?_,?_,Nat.or_lt_two_pow hM' (Nat.or_lt_two_pow (p2 _ e1) (p2 _ e2)),JS hle Nat.left_le_or,step _ Nat.left_le_or fun z=>?_⟩
     ·show[some (V.int 0),some (V.ref a),some (V.int (Builtin.bitOr (M':Int) (Builtin.bitOr (1*2^((e.1:Nat):Int).toNat) (1*2^((e.2:Nat):Int).toNat)))),some (V.int (M:Int)),some (iV e.1),some (iV e.2),some (V.int (Builtin.bitOr (1*2^((e.1:Nat):Int).toNat) (1*2^((e.2:Nat):Int).toNat)))]=_
      rw[eo,orN]
     ·rw[J2,b0'];rfl
     ·obtain⟨u1,u2⟩:=t2 z
      rw[u1,u2]
    ·refine⟨M',_,_,_,rfl,rfl,b0',hM',hle,step M' (IY _) fun _=>?_⟩
     have c3:M'&&&(2^e.1|||2^e.2)=0:=by
      by_cases z:M'&&&(2^e.1|||2^e.2)=0
      ·exact z
      ·refine absurd ?_ c
       rw[decide_eq_false (fun y=>z ?_)]
       ·rfl
       ·have y':=V.int.inj y
        rw[eo,andN]at y'
        omega
     obtain⟨u1,u2⟩:=t1.mp c3
     rw[u1,u2]
   ·rintro σ H3 ⟨M',v4,v5,v6,rfl,rfl,b0',hM',hle,cl'⟩
    rw[hE.1]at cl'
    refine⟨⟨M',M,_,_,_,rfl,rfl,b0',hM',fun z e he=>?_⟩,?_⟩
    ·obtain⟨j,hj⟩:=Kt.mp he
     have:=cl' z j e (IS.mp hj).1 hj
     rw[z]
     exact this
    ·show 2*(((2^m:Nat):Int)-(M':Int)).toNat+(if(M':Int)=(M:Int) then 0 else 1)<2*(((2^m:Nat):Int)-(M:Int)).toNat+(if(M:Int)=(Ah:Int) then 0 else 1)
     rw[if_neg (show ¬ (M:Int)=(Ah:Int) from fun z=>c' (by omega))]
     have hMi:(M':Int)<((2^m:Nat):Int):=by exact_mod_cast hM'
     have hMj:(M:Int)<=(M':Int):=by omega
     generalize ((2^m:Nat):Int)=Z at hMi ⊢
     split<;>omega
  ·have c':M=Ah:=by
    by_cases z:M=Ah
    ·exact z
    ·exact absurd (by rw[decide_eq_false (fun y=>z (by have:=V.int.inj y;omega))];rfl) c
   have full:=DX hM fun p hp=>by
    have:=g.conn (fun x=>M.testBit x=true) (fun e he=>by rw[cl c' e he]) 0 p (by omega) hp b0
    exact this
   refine⟨_,rfl,?_⟩
   rw[full]
   exact kk
 ·rintro σ H2 Q1 Q2 hi ⟨v',e,b',e2,z1,c',e3,q'⟩
  exact⟨v',e,b',e2,z1,c',e3,hi _ _ q'⟩
end
end K8
namespace K8
open PySem L2
local macro_rules | `(tactic| walk_at "cc") => `(tactic| first | exact ⟨by decide, by decide⟩ | (show (0 : Int) < _; decide) | (show (0 : Int) < _; omega) | (show (0 : Int) ≤ _; omega) | exact ⟨by decide, by decide, by decide⟩ | exact ⟨by omega, by omega, by decide⟩ | exact Or.inl ⟨by decide, by decide⟩ | exact Or.inl ⟨by omega, by omega⟩)
local macro_rules | `(tactic| walk_at "rd") => `(tactic| repeat (first | refine ⟨_, rfl, ?_⟩ | refine ⟨_, _, rfl, rfl, ?_⟩ | refine ⟨rfl, ?_⟩ | (refine ⟨?cc, ?_⟩; (case cc => walk_at "cc"))))
theorem lC:∀{a b:List Int},a.Perm b->a.Pairwise (·<=·)->b.Pairwise (·<=·)->a=b
 |[],b,h,_,_=>(List.nil_perm.mp h).symm▸rfl
 |x::a,[],h,_,_=>absurd h.length_eq (by simp)
 |x::a,y::b,h,pa,pb=>by
  obtain⟨a1,a2⟩:=Lx.mp pa
  obtain⟨b1,b2⟩:=Lx.mp pb
  have h1:x<=y:=by
   rcases Ja.mp (h.mem_iff.mpr (Jn ..):y∈x::a)with z | z
   ·rw[z];exact KD _
   ·exact a1 y z
  have h2:y<=x:=by
   rcases Ja.mp (h.mem_iff.mp (Jn ..):x∈y::b)with z | z
   ·rw[z];exact KD _
   ·exact b1 x z
  have e:x=y:=Int.le_antisymm h1 h2
  subst e
  rw[lC (List.Perm.cons_inv h) a2 b2]
def cI(l:List Nat):List Int:=l.map fun(p:Nat)=>((p:Nat):Int)
theorem cI_V(l:List Nat):(cI l).map V.int=l.map iV:=by unfold cI;rw[Km];rfl
theorem Hi{l r:List Nat}{out:List Int}(hp:out.Perm (cI l))(hs:out.Pairwise (·<=·))(nl:l.Nodup)(pr:r.Pairwise (· < ·))(hm:∀ t,t∈l↔t∈r):out=cI r:=by
 have nr:r.Nodup:=pr.imp fun h=>Jw h
 have q:(cI l).Perm (cI r):=((Kp nl nr).mpr hm).map _
 refine lC (hp.trans q) hs ?_
 unfold cI
 exact KO.map _ (fun a b h=>by omega) pr
theorem DQ{l:List Nat}{n:Nat}:ins l l.length n=l++[n]:=by
 unfold ins
 rw[JA,List.drop_length]
def xC(K:IT):Sp:=fun vs H Q _=>∃(a:Addr)(xs:List V)(m:Nat)(es:En),vs = [.int (m:Int),.ref a]/\SqL K H a xs/\dy K H xs es/\(∀ e∈es,e.1<m/\e.2<m)/\Q .non H
def sJ(K:IT):Sp:=fun vs H Q _=>∃(a b:Addr)(xs zs:List V)(m:Nat)(es:En)(ts:List (List Nat)),vs = [.int (m:Int),.ref a,.ref b]/\SqL K H a xs/\dy K H xs es/\SqL K H b zs/\bq H zs ts/\cX m es ts/\es.length<=39/\m<=40/\∀ H',Same H H'->Q .non H'
def xB(K:IT):Sp:=fun vs H Q _=>∃(a:Addr)(xs:List V)(m:Nat)(es:En)(ts:List (List Nat)),vs = [.int (m:Int),.ref a]/\SqL K H a xs/\dy K H xs es/\Gr m es ts/\2<=m/\m<=40/\es.length<=39/\∀ H',Same H H'->Q .non H'
section
variable{P:Program}{w:World}{K:IT}{mg:Str->Option Value}{base:Heap}
theorem jq:aB ["many","ties","tie"] ["many","ties"] (ag bM):=⟨rfl,rfl,rfl,by decide +kernel,rfl,by decide +kernel,by decide +kernel⟩
theorem FA{f:Addr}{fd:FuncData} (F:Fun K "refuse_ends" "refuse_ends" bM f fd):FnOk P w K mg base CX0 1 f fd ["many","ties"] (xC K):=by
 refine F.ok jq (fun vs H Q E h=>?_) (fun cdv A outer s H vs Q E hr h=>?_)
 ·obtain⟨a,xs,m,es,rfl,_⟩:=h
  rfl
 obtain⟨a,xs,m,es,rfl,hS,hT,hm,k⟩:=h
 refine⟨_,(ak (ck PassesOwn.never rfl (bc (pv 1)) (aM (i:=2) jq.nd rfl (Or.inl rfl)) (ak (bQ (PW.pt (jm (aE op_ge (cp (pv 2) rfl) (pv 0) (aJ _)) (gX (aE op_ge (cp (pv 2) rfl) (pv 0) (aJ _))))) (ak fT) aK)))),?_⟩
 refine⟨_,rfl,a,rfl,⟨_,hS⟩,cF (K:=K) (xs:=xs) (fun i σ H2=>∃ v2,σ = [some (.int (m:Int)),some (.ref a),v2]/\H2=H) ⟨_,rfl,rfl⟩ (fun i σ H2 _ ⟨_,_,z⟩=>z▸hS) ?_ ?_⟩
 ·rintro i x σ H2 hx ⟨v2,rfl,rfl⟩
  have hi:i<es.length:=by rw[← hT.1];exact(IS.mp hx).1
  obtain⟨e,he⟩:∃ e,es[i]?=some e:=⟨_,IU hi⟩
  obtain⟨p,C,dx,st,x1,x2,x3⟩:=hT.2 i e he
  rw[hx]at x1
  cases x1
  obtain⟨e1,e2⟩:=hm e (IW he)
  refine⟨_,rfl,p,C,dx,_,_,rfl,x2,x3.cl,x3.n1,kA _ _ _,_,rfl,_,_,rfl,rfl,_,rfl,?_⟩
  refine ite2 (fun c=>absurd (of_decide_eq_true c) (by omega)) (fun _=>?_)
  refine⟨_,rfl,p,C,dx,_,_,rfl,x2,x3.cl,x3.n2,n9 _ _ _,_,rfl,_,_,rfl,rfl,_,rfl,?_⟩
  refine ite2 (fun c=>absurd (of_decide_eq_true c) (by omega)) (fun _=>?_)
  exact⟨_,rfl,rfl⟩
 ·rintro σ H2 ⟨v2,rfl,rfl⟩
  exact k
theorem cy:aB ["many","ties","turns","ending","number","tie"] ["many","ties","turns"] (ag bt):=⟨rfl,rfl,rfl,by decide +kernel,rfl,by decide +kernel,by decide +kernel⟩
theorem Df{f:Addr}{fd:FuncData} (F:Fun K "refuse_turns" "refuse_turns" bt f fd) (T:Txt mg):FnOk P w K mg base CX0 1 f fd ["many","ties","turns"] (sJ K):=by
 refine F.ok cy (fun vs H Q E h=>?_) (fun cdv A outer s H vs Q E hr h=>?_)
 ·obtain⟨a,b,xs,zs,m,es,ts,rfl,_⟩:=h
  rfl
 obtain⟨a,b,xs,zs,m,es,ts,rfl,hS,hT,hB,hR,w',few,m40,kk⟩:=h
 have hu64:=hr.units
 refine⟨_,(af (rJ (i:=3) rfl cy.nd rfl rfl (fr:=[]) (by exact bI.plain (by rfl) (by decide +kernel) (by rfl) (by decide +kernel) (by rfl) (by decide +kernel)) (cA rfl T.n_range (aa (pv 0) ah)) (fun C ex s H=>(dv ah)))
   (af (ck PassesOwn.never rfl (C3 rfl T.n_enumerate (aa (pv 1) ah)) (vF rfl (cB (aM (i:=4) cy.nd rfl (Or.inl rfl)) (cB (aM (i:=5) cy.nd rfl (Or.inl rfl)) oy))) (af (bR (nA JM JP JO bD (aW a9 (pv 3) (cp (pv 5) rfl) (fun _ _=>rfl)) (aa (pv 4) ah)))
   (ak (bR (nA JM JP JO bD (aW a9 (pv 3) (cp (pv 5) rfl) (fun _ _=>rfl)) (aa (pv 4) ah))))))
   (ak (bQ (aE (Gw hu64) (eA rfl (fr:=[]) (by exact bI.plain (by rfl) (by decide +kernel) (by rfl) (by decide +kernel) (by rfl) (by decide +kernel)) (bc (pv 2)) (fun C ex s H=>(aq (wR (K:=K) rfl) (by rfl) T.n_sorted pP (aa (pv 0) ah)))) (pv 3) (aJ _)) (ak fT) aK)))),?_⟩
 refine⟨_,rfl,_,rfl,by omega,by omega,l7 (n:=(m:Int).toNat) (fun i ys H2=>Same H H2/\dP (fun p=>H p≠none) H2 ys (JW i [])/\Dist ys) (by rw[JI];exact JT (aw (by omega))) ⟨fun _ _ e=>e,⟨rfl,fun i l e=>by simp at e⟩,fun i j p e=>by simp at e⟩ ?_ ?_⟩
 ·rintro i ys H2 hi ⟨s2,rx,D⟩
  refine⟨(by show 0<=sizeLine;decide),fun l hl=>?_⟩
  have s3:=aj hl (.lst [])
  refine⟨s2.trans s3,?_,Ea rx D hl⟩
  rw[Ln]
  refine(rx.mono fun b u _ z=>s3 _ _ z).snoc (fun z=>z ?_) ae
  cases y:H l with
  |none=>rfl
  |some o=>rw[s2 _ _ y]at hl;cases hl
 rintro ys H2 hyl ⟨s2,rx,D⟩ pn hpn
 rw[JI]at rx
 have s3:=aj hpn (.lst ys)
 have hpn0:H pn=none:=by
  cases y:H pn with
  |none=>rfl
  |some o=>rw[s2 _ _ y]at hpn;cases hpn
 have rx3:dP (fun p=>p=pn∨H p≠none) (upd H2 pn (.lst ys)) ys (JW m []):=⟨rx.1,fun i l z=>by
  obtain⟨p,a1,a2,a3⟩:=rx.2 i l z
  have n2:p≠pn:=az a3 hpn
  exact⟨p,a1,by rintro(y | y);exact n2 y;exact a2 y,s3 _ _ a3⟩⟩
 refine⟨_,rfl,a,rfl,⟨_,(s2.trans s3).seq hS⟩,AH (K:=K) (xs:=xs) (fun i σ H5=>∃ v4 v5 rows,σ = [some (.int (m:Int)),some (.ref a),some (.ref b),some (.ref pn),v4,v5]/\Same H H5/\H5 pn=some (.lst ys)/\dP (fun p=>p=pn∨H p≠none) H5 ys rows/\cX m (es.take i) rows/\∀ r∈rows,r.Pairwise (· < ·))
  ⟨_,_,_,rfl,s2.trans s3,ae,rx3,E4 m,fun r hr=>by rw[(List.mem_replicate.mp hr).2];exact LC⟩ (fun i σ H5 _ ⟨_,_,_,_,z,_⟩=>z.seq hS) ?_ ?_⟩
 ·rintro i x σ H5 T2 hx ⟨v4,v5,rows,rfl,s5,hpn5,rx5,w5,pw⟩ hT2
  have hi:i<es.length:=by rw[← hT.1];exact(IS.mp hx).1
  obtain⟨e,he⟩:∃ e,es[i]?=some e:=⟨_,IU hi⟩
  obtain⟨p,C,dx,st,x1,x2,x3⟩:=hT.2 i e he
  rw[hx]at x1
  cases x1
  have sT:=aj hT2 (.tup [.int (i:Int),.ref p])
  have s6:=s5.trans sT
  have x6:=s6 _ _ x2
  obtain⟨e1,e2,e3⟩:=w'.ends e (IW he)
  have til:(es.take i).length=i:=by rw[JE];omega
  have rlen:=w5.len
  obtain⟨l,hl⟩:∃ l,rows[e.1]?=some l:=⟨_,IU (by omega)⟩
  obtain⟨l',hl'⟩:∃ l,rows[e.2]?=some l:=⟨_,IU (by omega)⟩
  have rx6:dP (fun p=>p=pn∨H p≠none) (upd H5 T2 (.tup [.int (i:Int),.ref p])) ys rows:=rx5.mono fun b u _ z=>sT _ _ z
  obtain⟨p1,y1,y2,y3⟩:=rx6.2 _ _ hl
  obtain⟨p2,z1,z2,z3⟩:=rx6.2 _ _ hl'
  have no_S:∀{p:Addr},¬ (p=pn∨H p≠none)->H p=none/\p≠pn:=fun{p} n=>by
   refine⟨?_,fun z=>n (.inl z)⟩
   cases y:H p with
   |none=>rfl
   |some o=>exact absurd (.inr (by rw[y];exact fun z=>nomatch z)) n
  obtain⟨hp1,np1⟩:=no_S y2
  obtain⟨hp2,np2⟩:=no_S z2
  have n12:p2≠p1:=fun y=>by rw[y]at z1;exact e3 (D _ _ p1 y1 z1)
  have ll:∀{q:Nat}{r:List Nat},rows[q]?=some r->∀ t∈r,t<i:=fun{q r} h t ht=>by
   have:=Gy w5 h ht
   omega
  have lle:∀{q:Nat}{r:List Nat},rows[q]?=some r->r.length<=39:=fun{q r} h=>by
   have:=ic (w5.nd _ _ h) (ll h)
   omega
  have f1:=lle hl
  have f2:=lle hl'
  have hpn6:=sT _ _ hpn5
  refine⟨T2,_,rfl,SqT.of ae,rfl,_,_,rfl,_,_,rfl,rfl,?_⟩
  refine⟨_,rfl,_,rfl,p,C,dx,_,_,rfl,x6,x3.cl,x3.n1,kA _ _ _,pn,ys,_,_,rfl,rfl,SqL.of hpn6,bH y1,.inl ⟨rfl,_,SqL.of y3⟩,_,rfl,p1,_,_,rfl,rfl,y3,aw (by rw[IV];omega),?_⟩
  have e1':(l.map iV)++[V.int (i:Int)]=(l++[i]).map iV:=by rw[Jy];rfl
  rw[e1']
  have x7:(upd (upd H5 T2 (.tup [.int (i:Int),.ref p])) p1 (.lst ((l++[i]).map iV))) p=some (.ins C dx (tf (e.1:Int) (e.2:Int) st)):=by rw[ao (fun z=>by rw[z]at x2;rw[x2]at hp1;cases hp1)];exact x6
  have hpn7:(upd (upd H5 T2 (.tup [.int (i:Int),.ref p])) p1 (.lst ((l++[i]).map iV))) pn=some (.lst ys):=by rw[ao np1.symm];exact hpn6
  have z7:(upd (upd H5 T2 (.tup [.int (i:Int),.ref p])) p1 (.lst ((l++[i]).map iV))) p2=some (.lst (l'.map iV)):=by rw[ao n12];exact z3
  refine⟨_,rfl,_,rfl,p,C,dx,_,_,rfl,x7,x3.cl,x3.n2,n9 _ _ _,pn,ys,_,_,rfl,rfl,SqL.of hpn7,bH z1,.inl ⟨rfl,_,SqL.of z7⟩,_,rfl,p2,_,_,rfl,rfl,z7,aw (by rw[IV];omega),?_⟩
  have e2':(l'.map iV)++[V.int (i:Int)]=(l'++[i]).map iV:=by rw[Jy];rfl
  rw[e2']
  refine⟨_,_,(rows.set e.1 (l++[i])).set e.2 (l'++[i]),rfl,bb (bb s6 hp1 _) hp2 _,by rw[ao np2.symm];exact hpn7,(rx6.set D y1).set D z1,?_,fun r hr=>?_⟩
  ·have q:=w5.put (k:=l.length) (j:=l'.length) e1 e2 e3 hl hl'
   rw[DQ,DQ,til]at q
   rw[Jt,he]
   exact q
  ·have app:∀{q:Nat}{r:List Nat},rows[q]?=some r->(r++[i]).Pairwise (· < ·):=fun{q r} h=>List.pairwise_append.mpr ⟨pw r (IW h),List.pairwise_singleton _ _,fun x hx y hy=>by
    have:=ll h x hx
    have:y=i:=by simpa using hy
    omega⟩
   rcases Mq hr with z | z
   ·rcases Mq z with z | z
    ·exact pw r z
    ·rw[z];exact app hl
   ·rw[z];exact app hl'
 rintro σ H5 ⟨v4,v5,rows,rfl,s5,hpn5,rx5,w5,pw⟩
 rw[hT.1,JA]at w5
 have hzl:zs.length=m:=by rw[hR.1,w'.len]
 refine⟨_,rfl,b,rfl,⟨_,s5.seq hB⟩,dg (K:=K) (xs:=zs) (fun i vs H6=>Same H5 H6/\bq H6 vs (rows.take i)) (JT (aw (by omega))) ⟨fun _ _ e=>e,rfl,fun i l e=>by simp at e⟩ (fun i vs H6 _ z=>(s5.trans z.1).seq hB) ?_ ?_⟩
 ·rintro i x vs H6 hx ⟨s6,rz⟩
  have hi:i<ts.length:=by rw[← hR.1];exact(IS.mp hx).1
  obtain⟨l,hl⟩:∃ l,ts[i]?=some l:=⟨_,IU hi⟩
  obtain⟨r,hr'⟩:∃ r,rows[i]?=some r:=⟨_,IU (by rw[w5.len,← w'.len];exact hi)⟩
  obtain⟨p,a1,a2⟩:=(hR.mono (s5.trans s6)).2 i l hl
  rw[hx]at a1
  cases a1
  have hll:l.length<=39:=JS (ic (w'.nd _ _ hl) fun t ht=>Gy w' hl ht) few
  refine⟨_,rfl,p,cI l,rfl,(by rw[cI_V];exact SqL.of a2),(by unfold cI;rw[IV];omega),fun q out hq hp hs=>?_⟩
  have eo:=Hi hp hs (w'.nd _ _ hl) (pw r (IW hr')) fun t=>(w'.mem i l hl t).trans (w5.mem i r hr' t).symm
  subst eo
  have s7:=aj hq (.lst ((cI r).map V.int))
  refine⟨s6.trans s7,?_⟩
  rw[show rows.take (i+1)=rows.take i++[r] by rw[Jt,hr'];rfl]
  exact(rz.mono s7).snoc (by rw[ae,cI_V])
 rintro vs H6 _ ⟨s6,rz⟩ D' hD'
 rw[hzl,← w5.len,JA]at rz
 have s7:=aj hD' (.lst vs)
 have s67:=s6.trans s7
 refine⟨_,rfl,_,CS (SqL.of ae) (rz.mono s7),CS (SqL.of (s67 _ _ hpn5)) (rx5.off.mono s67),xV rows,_,rfl,iteF ?_⟩
 exact kk _ (s5.trans s67)
theorem nu:aB ["many","ties"] ["many","ties"] (ag bh):=⟨rfl,rfl,rfl,by decide +kernel,rfl,by decide +kernel,by decide +kernel⟩
theorem Fz{f fr:Addr}{fd fdr:FuncData} (F:Fun K "refuse_parted" "refuse_parted" bh f fd) (G_reached:Cal P w K mg base 1 "reached" ["start","pairs"] (xA K) fr fdr):FnOk P w K mg base CX0 2 f fd ["many","ties"] (xB K):=by
 refine F.ok nu (fun vs H Q E h=>?_) (fun cdv A outer s H vs Q E hr h=>?_)
 ·obtain⟨a,xs,m,es,ts,rfl,_⟩:=h
  rfl
 obtain⟨a,xs,m,es,ts,rfl,hS,hT,g,m2,m40,few,kk⟩:=h
 have hul:xs.length=es.length:=hT.1
 refine⟨_,(ak (bQ (aE jF (aG G_reached.ok (hr.mono (by decide)) rfl G_reached.mg G_reached.kp G_reached.bn .nil aZ (aa ai (aa (eA rfl (fr:=[]) (by exact bI.plain (by rfl) (by decide +kernel) (by rfl) (by decide +kernel) (by rfl) (by decide +kernel)) (bc (pv 1)) (fun C ex s H=>(gN (aa (tE (K:=K) rfl (pv 0) rfl) (aa (tE (K:=K) rfl (pv 0) rfl) ah))))) ah))) (aC As (aC g9 ai (pv 0)) ai) (aJ _)) (ak fT) aK)),?_⟩
 refine⟨_,rfl,a,rfl,⟨_,hS⟩,dg (K:=K) (xs:=xs) (fun i zs H11=>Same H H11/\ni H11 zs (es.take i)) (JT (aw (by omega))) ⟨fun _ _ e=>e,rfl,fun i l e=>by simp at e⟩ (fun i zs H11 _ z=>z.1.seq hS) ?_ ?_⟩
 ·rintro i x zs H11 hx ⟨s11,ez⟩
  have hi:i<es.length:=by rw[← hT.1];exact(IS.mp hx).1
  obtain⟨e,he⟩:∃ e,es[i]?=some e:=⟨_,IU hi⟩
  obtain⟨p,C,dx,st,a1,a2,a3⟩:=(hT.mono s11).2 i e he
  rw[hx]at a1
  cases a1
  refine⟨_,rfl,p,C,dx,_,_,rfl,a2,a3.cl,a3.n1,kA _ _ _,_,rfl,p,C,dx,_,_,rfl,a2,a3.cl,a3.n2,n9 _ _ _,(by show 2<=sizeLine;decide),fun g hg=>?_⟩
  have s12:=aj hg (.tup [iV e.1,iV e.2])
  refine⟨s11.trans s12,?_⟩
  rw[show es.take (i+1)=es.take i++[e] by rw[Jt,he];rfl]
  exact(ez.mono s12).snoc ae
 rintro zs H11 _ ⟨s11,ez⟩ D hD
 rw[hT.1,JA]at ez
 have s12:=aj hD (.lst zs)
 refine⟨D,zs,m,es,ts,rfl,SqL.of ae,ez.mono s12,g,m2,m40,_,rfl,_,_,rfl,rfl,⟨by omega,by omega,by decide⟩,_,_,rfl,rfl,rfl,_,rfl,?_⟩
 refine qS ?_ (kk _ (s11.trans s12))
 show V.int _=V.int _
 rw[shlN]
 have:=Nat.two_pow_pos m
 congr 1
 omega
end
end K8
namespace K8
open PySem L2
local macro_rules | `(tactic| walk_at "cc") => `(tactic| first | exact ⟨by decide, by decide⟩ | (show (0 : Int) < _; decide) | (show (0 : Int) < _; omega) | (show (0 : Int) ≤ _; omega) | exact ⟨by decide, by decide, by decide⟩ | exact ⟨by omega, by omega, by decide⟩ | exact Or.inl ⟨by decide, by decide⟩ | exact Or.inl ⟨by omega, by omega⟩)
local macro_rules | `(tactic| walk_at "rd") => `(tactic| repeat (first | refine ⟨_, rfl, ?_⟩ | refine ⟨_, _, rfl, rfl, ?_⟩ | refine ⟨rfl, ?_⟩ | (refine ⟨?cc, ?_⟩; (case cc => walk_at "cc"))))
def cls(PL PS:Addr)(push:Bool):Addr:=if push=true then PS else PL
def u0(PL PS:Addr)(H:Hp)(xs:List V)(es:En)(ks:Kn):Prop:=xs.length=es.length/\∀(i:Nat)(e:Nat×Nat)(k:Int×Int),es[i]?=some e->ks[i]?=some k->∃ p dx,xs[i]?=some (.ref p)/\H p=some (.ins (cls PL PS (decide (k.1=1))) dx (tf (e.1:Int) (e.2:Int) k.2))
theorem u0.mono{PL PS:Addr}{H H':Hp}{xs:List V}{es:En}{ks:Kn}(t:u0 PL PS H xs es ks)(h:Same H H'):u0 PL PS H' xs es ks:=⟨t.1,fun i e k q r=>by
 obtain⟨p,dx,a,b⟩:=t.2 i e k q r
 exact⟨p,dx,a,h _ _ b⟩⟩
structure CW(K:IT)(C:Addr):Prop where
 cl:Cls K C
 n1:fj K C "many"
 n2:fj K C "ties"
 n3:fj K C "turns"
 n4:fj K C "rounds"
 n5:fj K C "sides"
theorem iX(k:Str)(v:V):∀ fs:List (Str×V),(putF k v fs).length<=fs.length+1
 |[]=>IY _
 | (a,b)::r=>by
  show(if a=k then(a,v)::r else(a,b)::putF k v r).length<=_
  have:=iX k v r
  split<;>simp only[JL]<;>omega
theorem none_of{H H':Hp}{b:Addr}(s:Same H H')(z:H' b=none):H b=none:=by
 cases y:H b with
 |none=>rfl
 |some o=>rw[s _ _ y]at z;cases z
structure WebG(S:Addr->Prop)(H:Hp)(fs:List (Str×V))(m:Nat)(es:En)(ts rs:List (List Nat)):Prop where
 many:fs.lookup ("many" : Str)=some (.int (m:Int))
 turns:∃ q z,fs.lookup ("turns" : Str)=some (.ref q)/\¬ S q/\H q=some (.lst z)/\dP S H z ts
 rounds:∃ q z,fs.lookup ("rounds" : Str)=some (.ref q)/\H q=some (.lst z)/\bq H z rs
 sides:∃ q z,fs.lookup ("sides" : Str)=some (.ref q)/\H q=some (.lst z)/\mP H z es.length rs
 part:eQ (fol es ts) (2*es.length) (2*es.length) rs
theorem mP.mono{H H':Hp}{z:List V}{n:Nat}{rs:List (List Nat)}(h:mP H z n rs)(s:Same H H'):mP H' z n rs:=⟨h.1,fun i hi=>by
 obtain⟨t,a,b,r,r',y1,y2,y3⟩:=h.2 i hi
 exact⟨t,a,b,r,r',y1,s _ _ y2,y3⟩⟩
theorem WebG.mono{S S':Addr->Prop}{H H':Hp}{fs:List (Str×V)}{m:Nat}{es:En}{ts rs:List (List Nat)}(h:WebG S H fs m es ts rs)(s:Same H H')(i:∀ a,S' a->S a):WebG S' H' fs m es ts rs:=by
 obtain⟨a,⟨q,z,b1,b0,b2,b3⟩,⟨q',z',c1,c2,c3⟩,⟨q2,z2,d1,d2,d3⟩,e⟩:=h
 refine⟨a,⟨q,z,b1,fun y=>b0 (i _ y),s _ _ b2,b3.1,fun j l y=>?_⟩,⟨q',z',c1,s _ _ c2,c3.mono s⟩,⟨q2,z2,d1,s _ _ d2,d3.mono s⟩,e⟩
 obtain⟨r,y1,y2,y3⟩:=b3.2 j l y
 exact⟨r,y1,fun x=>y2 (i _ x),s _ _ y3⟩
def sH(K:IT):Sp:=fun vs H Q _=>∃(p C dx qt qh:Addr)(m:Nat)(xs zs:List V)(es:En)(ts:List (List Nat)),vs = [.ref p,.int (m:Int),.ref qt,.ref qh]/\H p=some (.ins C dx [])/\CW K C/\H qt=some (.lst xs)/\dy K H xs es/\H qh=some (.lst zs)/\bq H zs ts/\Gr m es ts/\0<es.length/\es.length<=39/\m<=40 /\
 ∀(fs:List (Str×V))(q1:Addr)(rs:List (List Nat))(H':Hp),H' p=some (.ins C dx fs)->WebG (fun a=>H a≠none) H' fs m es ts rs->H q1=none->fs.lookup ("ties" : Str)=some (.ref q1)->H' q1=some (.lst xs)->(∀ q o,H q=some o->q≠p->H' q=some o)->Q .non H'
theorem dy.keep{K:IT}{H G:Hp}{xs:List V}{es:En}{p C dx:Addr}(t:dy K H xs es)(hp:H p=some (.ins C dx []))(k:∀ q u,q≠p->H q=some u->G q=some u):dy K G xs es:=⟨t.1,fun i e z=>by
 obtain⟨q,C',dx',s,a,b,d⟩:=t.2 i e z
 refine⟨q,C',dx',s,a,k _ _ (fun z=>?_) b,d⟩
 rw[z,hp]at b
 have e1:([]:List (Str×V))=tf (e.1:Int) (e.2:Int) s:=by
  injection b with b
  injection b
 have e2:=kA (e.1:Int) (e.2:Int) s
 rw[← e1]at e2
 cases e2⟩
section
variable{P:Program}{w:World}{K:IT}{mg:Str->Option Value}{base:Heap}
theorem kJ:aB ["self","many","ties","turns","rounds"] ["self","many","ties","turns"] (ag cg):=⟨rfl,rfl,rfl,by decide +kernel,rfl,by decide +kernel,by decide +kernel⟩
theorem Fv{f f1 f2 f3 f4 f5:Addr}{fd d1 d2 d3 d4 d5:FuncData} (F:Fun K "__init__" "Web.__init__" cg f fd) (T:Txt mg) (G_refuse_ends:Cal P w K mg base 1 "refuse_ends" ["many","ties"] (xC K) f1 d1) (G_refuse_turns:Cal P w K mg base 1 "refuse_turns" ["many","ties","turns"] (sJ K) f2 d2) (G_refuse_parted:Cal P w K mg base 2 "refuse_parted" ["many","ties"] (xB K) f3 d3) (G_rounds_of:Cal P w K mg base 4 "rounds_of" ["ties","turns"] (sI K) f4 d4) (G_sides_of:Cal P w K mg base 1 "sides_of" ["ties","rounds"] (xy K) f5 d5) :
  FnOk P w K mg base CX0 5 f fd ["self","many","ties","turns"] (sH K):=by
 refine F.ok kJ (fun vs H Q E h=>?_) (fun cdv A outer s H vs Q E hr h=>?_)
 ·obtain⟨p,C,dx,qt,qh,m,xs,zs,es,ts,rfl,_⟩:=h
  rfl
 obtain⟨p,C,dx,qt,qh,m,xs,zs,es,ts,rfl,hp,cw,hqt,hT,hqh,hR,g,e0,few,m40,kk⟩:=h
 have w':=g.w
 have m2:=g.two e0
 have mf:=gr_few g
 have hul:xs.length=es.length:=hT.1
 have hzl:zs.length=m:=by rw[hR.1,w'.len]
 have pl:∀{q:Addr}{ys:List V},H q=some (.lst ys)->q≠p:=fun{q ys} h z=>by rw[z,hp]at h;cases h
 refine⟨_,(af (bR (aG G_refuse_ends.ok (hr.mono (by decide)) rfl G_refuse_ends.mg G_refuse_ends.kp G_refuse_ends.bn .nil aZ (aa (pv 1) (aa (pv 2) ah))))
   (af (bR (aG G_refuse_turns.ok (hr.mono (by decide)) rfl G_refuse_turns.mg G_refuse_turns.kp G_refuse_turns.bn .nil aZ (aa (pv 1) (aa (pv 2) (aa (pv 3) ah)))))
   (af (bR (aG G_refuse_parted.ok (hr.mono (by decide)) rfl G_refuse_parted.mg G_refuse_parted.kp G_refuse_parted.bn .nil aZ (aa (pv 1) (aa (pv 2) ah))))
   (af (ax (i:=4) kJ.nd rfl (Or.inl rfl) (aG G_rounds_of.ok (hr.mono (by decide)) rfl G_rounds_of.mg G_rounds_of.kp G_rounds_of.bn .nil aZ (aa (pv 2) (aa (pv 3) ah))))
   (af (bQ (aE jF (aC cL (aC As (pv 1) (aq aA (by rfl) T.n_len cu (aa (pv 2) ah))) (aq aA (by rfl) T.n_len cu (aa (pv 4) ah))) ai (aJ _)) (ak fT) aK)
   (af (mQ (pv 0) (pv 1) rfl)
   (af (mQ (pv 0) (oB iD (by rfl) T.n_list mB (aa (pv 2) ah)) rfl)
   (af (mQ (pv 0) (eA rfl (fr:=[]) (by exact bI.plain (by rfl) (by decide +kernel) (by rfl) (by decide +kernel) (by rfl) (by decide +kernel)) (bc (pv 3)) (fun C ex s H=>(oB (BU (K:=K) rfl) (by rfl) T.n_list mB (aa (pv 0) ah)))) rfl)
   (af (mQ (pv 0) (pv 4) rfl)
   (ak (mQ (pv 0) (aG G_sides_of.ok (hr.mono (by decide)) rfl G_sides_of.mg G_sides_of.kp G_sides_of.bn .nil aZ (aa (pv 2) (aa (pv 4) ah))) rfl))))))))))),?_⟩
 refine⟨_,rfl,_,rfl,qt,xs,m,es,rfl,SqL.of hqt,hT,fun e he=>⟨(w'.ends e he).1,(w'.ends e he).2.1⟩,?_⟩
 refine⟨_,rfl,_,rfl,_,rfl,qt,qh,xs,zs,m,es,ts,rfl,SqL.of hqt,hT,SqL.of hqh,hR,w',few,by omega,fun H1 s1=>?_⟩
 refine⟨_,rfl,_,rfl,qt,xs,m,es,ts,rfl,SqL.of (s1 _ _ hqt),hT.mono s1,g,m2,by omega,few,fun H2 s2=>?_⟩
 have s12:=s1.trans s2
 refine⟨_,rfl,_,rfl,qt,qh,m,es,ts,rfl,⟨⟨xs,SqL.of (s12 _ _ hqt),hT.mono s12⟩,⟨zs,SqL.of (s12 _ _ hqh),hR.mono s12⟩,w',by omega⟩,fun qr vs rs H3 s3 hqr hrs ro=>?_⟩
 have s13:=s12.trans s3
 have cnt:m+rs.length=es.length+2:=by
  obtain⟨rs',p',c⟩:=g.part
  rw[← p'.same ro.part]
  exact c
 have hvl:vs.length=rs.length:=hrs.1
 refine⟨_,rfl,_,rfl,qt,xs,rfl,.inl (SqL.of (s13 _ _ hqt)),_,_,rfl,rfl,_,rfl,qr,vs,rfl,.inl (SqL.of hqr),_,_,rfl,rfl,rfl,_,rfl,?_⟩
 refine qS (congrArg V.int (by omega)) ?_
 have hp3:=s13 _ _ hp
 refine⟨_,rfl,_,rfl,p,C,dx,[],rfl,hp3,cw.cl,cw.n1,(by show 0<1000;decide),?_⟩
 have keep:∀{G:Hp}{o:HO}{q:Addr}{u:HO},q≠p->G q=some u->(upd G p o) q=some u:=fun n z=>by rw[ao n];exact z
 refine⟨_,rfl,qt,xs,rfl,.inl (SqL.of (keep (pl hqt) (s13 _ _ hqt))),fun q1 hq1=>?_⟩
 have n1p:q1≠p:=fun z=>by rw[z,ae]at hq1;cases hq1
 have t4:=aj hq1 (.lst xs)
 refine⟨_,rfl,p,C,dx,_,rfl,t4 _ _ ae,cw.cl,cw.n2,?_,?_⟩
 ·have:=iX "many" (.int (m:Int)) ([]:List (Str×V));simp only[K9]at this;omega
 have t1:∀ q u,q≠p->H3 q=some u->(upd (upd (upd H3 p (.ins C dx (putF "many" (.int (m:Int)) []))) q1 (.lst xs)) p (.ins C dx (putF "ties" (.ref q1) (putF "many" (.int (m:Int)) [])))) q=some u:=fun q u n z=>keep n (t4 _ _ (keep n z))
 have q1a:(upd (upd (upd H3 p (.ins C dx (putF "many" (.int (m:Int)) []))) q1 (.lst xs)) p (.ins C dx (putF "ties" (.ref q1) (putF "many" (.int (m:Int)) [])))) q1=some (.lst xs):=keep n1p ae
 have pa:(upd (upd (upd H3 p (.ins C dx (putF "many" (.int (m:Int)) []))) q1 (.lst xs)) p (.ins C dx (putF "ties" (.ref q1) (putF "many" (.int (m:Int)) [])))) p=some (.ins C dx (putF "ties" (.ref q1) (putF "many" (.int (m:Int)) []))):=ae
 generalize upd (upd (upd H3 p (.ins C dx (putF "many" (.int (m:Int)) []))) q1 (.lst xs)) p (.ins C dx (putF "ties" (.ref q1) (putF "many" (.int (m:Int)) [])))=H4 at t1 q1a pa
 have lk:(putF "ties" (.ref q1) (putF "many" (.int (m:Int)) []):List (Str×V)).lookup ("ties" : Str)=some (.ref q1):=by rw[ar,if_pos rfl]
 have ln:(putF "ties" (.ref q1) (putF "many" (.int (m:Int)) []):List (Str×V)).length<=2:=by
  have a1:=iX "many" (.int (m:Int)) ([]:List (Str×V))
  have a2:=iX "ties" (.ref q1) (putF "many" (.int (m:Int)) ([]:List (Str×V)))
  simp only[K9]at a1
  omega
 have lkm:(putF "ties" (.ref q1) (putF "many" (.int (m:Int)) []):List (Str×V)).lookup ("many" : Str)=some (.int (m:Int)):=by rw[ar,if_neg (by decide +kernel),ar,if_pos rfl]
 generalize (putF "ties" (.ref q1) (putF "many" (.int (m:Int)) []):List (Str×V))=fs at pa lk ln lkm
 have hqh4:=t1 _ _ (pl hqh) (s13 _ _ hqh)
 have new4:∀{b:Addr},H4 b=none->H b=none:=fun{b} z=>by
  cases y:H b with
  |none=>rfl
  |some o =>
   by_cases n:b=p
   ·rw[n,pa]at z;cases z
   ·rw[t1 _ _ n (s13 _ _ y)]at z;cases z
 have new1:H q1=none:=by
  cases y:H q1 with
  |none=>rfl
  |some o=>rw[keep n1p (s13 _ _ y)]at hq1;cases hq1
 refine⟨_,rfl,qh,rfl,⟨_,SqL.of hqh4⟩,dg (K:=K) (xs:=zs) (fun i ys H5=>Same H4 H5/\dP (fun a=>H a≠none) H5 ys (ts.take i)) (JT (aw (by omega))) ⟨fun _ _ e=>e,rfl,fun i l e=>by simp at e⟩ (fun i _ H5 _ z=>SqL.of (z.1 _ _ hqh4)) ?_ ?_⟩
 ·rintro i x ys H5 hx ⟨s5,rz⟩
  have hi:i<ts.length:=by rw[← hR.1];exact(IS.mp hx).1
  obtain⟨l,hl⟩:∃ l,ts[i]?=some l:=⟨_,IU hi⟩
  obtain⟨r,a1,a2⟩:=hR.2 i l hl
  rw[hx]at a1
  cases a1
  refine⟨_,rfl,r,_,rfl,.inl (SqL.of (s5 _ _ (t1 _ _ (pl a2) (s13 _ _ a2)))),fun g hg=>⟨s5.trans (aj hg _),?_⟩⟩
  rw[show ts.take (i+1)=ts.take i++[l] by rw[Jt,hl];rfl]
  exact(rz.mono fun b u _ z=>aj hg _ _ _ z).snoc (fun z=>z (new4 (none_of s5 hg))) ae
 rintro ys H5 _ ⟨s5,rz⟩ D hD
 rw[hR.1,JA]at rz
 have hDp:D≠p:=fun z=>by rw[z,s5 _ _ pa]at hD;cases hD
 have s6:=s5.trans (aj hD (.lst ys))
 refine⟨_,rfl,p,C,dx,fs,rfl,s6 _ _ pa,cw.cl,cw.n3,by omega,?_⟩
 have ln1:=iX "turns" (.ref D) fs
 have lk1:(putF "turns" (.ref D) fs).lookup ("ties" : Str)=some (.ref q1):=by rw[ar,if_neg (by decide +kernel)];exact lk
 refine⟨_,rfl,_,rfl,p,C,dx,_,rfl,ae,cw.cl,cw.n4,by omega,?_⟩
 have ln2:=iX "rounds" (.ref qr) (putF "turns" (.ref D) fs)
 have lk2:(putF "rounds" (.ref qr) (putF "turns" (.ref D) fs)).lookup ("ties" : Str)=some (.ref q1):=by rw[ar,if_neg (by decide +kernel)];exact lk1
 have t7:∀ q u,q≠p->H3 q=some u->(upd (upd (upd H5 D (.lst ys)) p (.ins C dx (putF "turns" (.ref D) fs))) p (.ins C dx (putF "rounds" (.ref qr) (putF "turns" (.ref D) fs)))) q=some u:=fun q u n z=>keep n (keep n (s6 _ _ (t1 q u n z)))
 have q17:(upd (upd (upd H5 D (.lst ys)) p (.ins C dx (putF "turns" (.ref D) fs))) p (.ins C dx (putF "rounds" (.ref qr) (putF "turns" (.ref D) fs)))) q1=some (.lst xs):=keep n1p (keep n1p (s6 _ _ q1a))
 have p7:(upd (upd (upd H5 D (.lst ys)) p (.ins C dx (putF "turns" (.ref D) fs))) p (.ins C dx (putF "rounds" (.ref qr) (putF "turns" (.ref D) fs)))) p=some (.ins C dx (putF "rounds" (.ref qr) (putF "turns" (.ref D) fs))):=ae
 have D7:(upd (upd (upd H5 D (.lst ys)) p (.ins C dx (putF "turns" (.ref D) fs))) p (.ins C dx (putF "rounds" (.ref qr) (putF "turns" (.ref D) fs)))) D=some (.lst ys):=keep hDp (keep hDp ae)
 have u7:∀ q u,q≠p->H5 q=some u->(upd (upd (upd H5 D (.lst ys)) p (.ins C dx (putF "turns" (.ref D) fs))) p (.ins C dx (putF "rounds" (.ref qr) (putF "turns" (.ref D) fs)))) q=some u:=fun q u n z=>keep n (keep n (aj hD _ _ _ z))
 generalize upd (upd (upd H5 D (.lst ys)) p (.ins C dx (putF "turns" (.ref D) fs))) p (.ins C dx (putF "rounds" (.ref qr) (putF "turns" (.ref D) fs)))=H7 at t7 q17 p7 D7 u7
 have pl3:∀{q:Addr}{ys:List V},H3 q=some (.lst ys)->q≠p:=fun{q ys} h z=>by rw[z,hp3]at h;cases h
 have rs7:bq H7 vs rs:=⟨hrs.1,fun i l z=>by
  obtain⟨r,a1,a2⟩:=hrs.2 i l z
  exact⟨r,a1,t7 _ _ (pl3 a2) a2⟩⟩
 have T7:dy K H7 xs es:=(hT.mono s13).keep hp3 t7
 refine⟨_,rfl,_,rfl,qt,qr,xs,vs,es,_,rs,rfl,SqL.of (t7 _ _ (pl hqt) (s13 _ _ hqt)),T7,by omega,SqL.of (t7 _ _ (pl3 hqr) hqr),rs7,ro,fun q5 z5 H8 s8 hq5 hs5=>?_⟩
 refine⟨_,rfl,p,C,dx,_,rfl,s8 _ _ p7,cw.cl,cw.n5,by omega,?_⟩
 have n5p:q5≠p:=fun z=>by rw[z,s8 _ _ p7]at hq5;cases hq5
 have hqr7:=t7 _ _ (pl3 hqr) hqr
 refine kk _ q1 rs _ ae ⟨?_,⟨D,ys,?_,fun z=>z (new4 (none_of s5 hD)),keep hDp (s8 _ _ D7),rz.1,fun i l z=>?_⟩,⟨qr,vs,?_,keep (pl3 hqr) (s8 _ _ hqr7),hrs.1,fun i l z=>?_⟩,⟨q5,z5,?_,keep n5p hq5,hs5.1,fun i hi=>?_⟩,ro⟩ new1 (by rw[ar,if_neg (by decide +kernel)];exact lk2) (keep n1p (s8 _ _ q17)) fun q o z n=>keep n (s8 _ _ (t7 q o n (s13 _ _ z)))
 ·rw[ar,if_neg (by decide +kernel),ar,if_neg (by decide +kernel),ar,if_neg (by decide +kernel)]
  exact lkm
 ·rw[ar,if_neg (by decide +kernel),ar,if_neg (by decide +kernel),ar,if_pos rfl]
 ·obtain⟨r,a1,a0,a2⟩:=rz.2 i l z
  have nr:r≠p:=fun z=>by rw[z,s5 _ _ pa]at a2;cases a2
  exact⟨r,a1,a0,keep nr (s8 _ _ (u7 r _ nr a2))⟩
 ·rw[ar,if_neg (by decide +kernel),ar,if_pos rfl]
 ·obtain⟨r,a1,a2⟩:=hrs.2 i l z
  exact⟨r,a1,keep (pl3 a2) (s8 _ _ (t7 _ _ (pl3 a2) a2))⟩
 ·rw[ar,if_pos rfl]
 ·obtain⟨t,a,b,r,r',y1,y2,y3⟩:=hs5.2 i hi
  exact⟨t,a,b,r,r',y1,keep (fun z=>by rw[z,s8 _ _ p7]at y2;cases y2) y2,y3⟩
theorem u0.at{PL PS:Addr}{H:Hp}{xs:List V}{es:En}{ks:Kn}(t:u0 PL PS H xs es ks)(kl:ks.length=es.length)(TL:CT K PL)(TS:CT K PS):dy K H xs es:=⟨t.1,fun i e z=>by
 have hi:=(IS.mp z).1
 obtain⟨k,hk⟩:∃ k,ks[i]?=some k:=⟨_,IU (by omega)⟩
 obtain⟨p,dx,a,b⟩:=t.2 i e k z hk
 refine⟨p,_,dx,k.2,a,b,?_⟩
 unfold cls
 split
 ·exact TS
 ·exact TL⟩
def WebF(S:Addr->Prop)(PL PS WC:Addr)(H:Hp)(p:Addr)(m:Nat)(es:En)(ts rs:List (List Nat))(ks:Kn):Prop:=∃ dx fs q1 xs,H p=some (.ins WC dx fs)/\WebG S H fs m es ts rs/\¬ S q1/\fs.lookup ("ties" : Str)=some (.ref q1)/\H q1=some (.lst xs)/\u0 PL PS H xs es ks
end
end K8
namespace K8
open PySem L2
local macro_rules | `(tactic| walk_at "cc") => `(tactic| first | exact ⟨by decide, by decide⟩ | (show (0 : Int) < _; decide) | (show (0 : Int) < _; omega) | (show (0 : Int) ≤ _; omega) | exact ⟨by decide, by decide, by decide⟩ | exact ⟨by omega, by omega, by decide⟩ | exact Or.inl ⟨by decide, by decide⟩ | exact Or.inl ⟨by omega, by omega⟩)
local macro_rules | `(tactic| walk_at "rd") => `(tactic| repeat (first | refine ⟨_, rfl, ?_⟩ | refine ⟨_, _, rfl, rfl, ?_⟩ | refine ⟨rfl, ?_⟩ | (refine ⟨?cc, ?_⟩; (case cc => walk_at "cc"))))
def bit(l a:Int):Int:=l/2^a.toNat%2
theorem bitN(N a:Nat):bit (N:Int) (a:Int)=if N.testBit a=true then 1 else 0:=by
 unfold bit
 rw[JI,Nat.testBit_eq_decide_div_mod_eq]
 have e:((N:Int)/2^a%2)=((N/2^a%2:Nat):Int):=by
  rw[Int.natCast_emod,Int.natCast_ediv,Int.natCast_pow]
  rfl
 rw[e]
 by_cases z:N/2^a%2=1
 ·rw[z,decide_eq_true rfl];rfl
 ·rw[decide_eq_false z]
  have:N/2^a%2=0:=by omega
  rw[this]
  rfl
def WebT(PL PS WC:Addr)(H:Hp)(p:Addr)(m:Nat)(es:En)(ts:List (List Nat))(ks:Kn):Prop:=∃ dx fs q1 xs q3 z3,H p=some (.ins WC dx fs)/\fs.lookup ("many" : Str)=some (.int (m:Int))/\fs.lookup ("ties" : Str)=some (.ref q1)/\H q1=some (.lst xs)/\u0 PL PS H xs es ks/\fs.lookup ("turns" : Str)=some (.ref q3)/\H q3=some (.lst z3)/\bq H z3 ts
theorem WebT.mono{PL PS WC p:Addr}{H H':Hp}{m:Nat}{es:En}{ts:List (List Nat)}{ks:Kn}(h:WebT PL PS WC H p m es ts ks)(s:Same H H'):WebT PL PS WC H' p m es ts ks:=by
 obtain⟨dx,fs,q1,xs,q3,z3,a,b,c,d,e,f,g,i⟩:=h
 exact⟨dx,fs,q1,xs,q3,z3,s _ _ a,b,c,s _ _ d,e.mono s,f,s _ _ g,i.mono s⟩
theorem WebF.t{S:Addr->Prop}{PL PS WC p:Addr}{H:Hp}{m:Nat}{es:En}{ts rs:List (List Nat)}{ks:Kn}(h:WebF S PL PS WC H p m es ts rs ks):WebT PL PS WC H p m es ts ks:=by
 obtain⟨dx,fs,q1,xs,a,b,_,c,d,e⟩:=h
 obtain⟨q3,z3,b1,_,b2,b3⟩:=b.turns
 exact⟨dx,fs,q1,xs,q3,z3,a,b.many,c,d,e,b1,b2,b3.off⟩
theorem and1(x:Int):Builtin.bitAnd x 1=x%2:=PySem.W.kbt_mask x 1
def nU(K:IT):Sp:=fun vs H Q _=>∃(p C dx:Addr)(a b s l:Int),vs = [.ref p,.int l]/\H p=some (.ins C dx (tf a b s))/\CT K C/\0<=a/\0<=b/\Q (.int (bit l a+bit l b)) H
def atF(N x:Nat)(e:Nat×Nat):Bool:=(e.1 == x&&!N.testBit e.2)||(e.2 == x&&!N.testBit e.1)
def bg(es:En)(N M:Nat):Prop:=∀ x,M.testBit x=(N.testBit x&&es.any (atF N x))
theorem bg.z(N:Nat):bg [] N 0:=fun x=>by rw[Kg,List.any_nil,LR]
theorem G5(a b x:Nat):(2^a|||2^b).testBit x=(a == x||b == x):=by
 rw[J2,JF,JF]
 cases h:a == x<;>cases h':b == x<;>simp_all
theorem bg.put{es:En}{N M:Nat}{e:Nat×Nat}(h:bg es N M)(one:N.testBit e.1≠N.testBit e.2):bg (es++[e]) N (M|||(N&&&(2^e.1|||2^e.2))):=fun x=>by
 rw[J2,h x,Kj,G5,List.any_append,LJ,List.any_nil,Lo]
 unfold atF
 by_cases h1:e.1=x
 ·by_cases h2:e.2=x
  ·rw[h1,h2]at one
   exact absurd rfl one
  ·rw[h1]at one
   have e1:(e.1 == x)=true:=by simpa using h1
   have e2:(e.2 == x)=false:=by simpa using h2
   rw[e1,e2]
   cases z:N.testBit x
   ·simp
   ·rw[z]at one
    have:N.testBit e.2=false:=by cases y:N.testBit e.2 with | false=>rfl | true=>rw[y]at one;exact absurd rfl one
    rw[this]
    simp
 ·have e1:(e.1 == x)=false:=by simpa using h1
  by_cases h2:e.2=x
  ·rw[h2]at one
   have e2:(e.2 == x)=true:=by simpa using h2
   rw[e1,e2]
   cases z:N.testBit x
   ·simp
   ·rw[z]at one
    have:N.testBit e.1=false:=by cases y:N.testBit e.1 with | false=>rfl | true=>rw[y]at one;exact absurd rfl one
    rw[this]
    simp
  ·have e2:(e.2 == x)=false:=by simpa using h2
   rw[e1,e2]
   simp
theorem bg.skip{es:En}{N M:Nat}{e:Nat×Nat}(h:bg es N M)(one:N.testBit e.1=N.testBit e.2):bg (es++[e]) N M:=fun x=>by
 rw[h x,List.any_append,LJ,List.any_nil,Lo]
 unfold atF
 cases z:N.testBit x
 ·simp
 ·by_cases h1:e.1=x
  ·rw[h1,z]at one
   have:(e.2 == x&&!N.testBit e.1)=false:=by rw[h1,z];simp
   rw[this,← one]
   simp
  ·have e1:(e.1 == x)=false:=by simpa using h1
   by_cases h2:e.2=x
   ·rw[h2,z]at one
    rw[e1,one]
    simp
   ·have e2:(e.2 == x)=false:=by simpa using h2
    rw[e1,e2]
    simp
theorem bg.one{es:En}{N M M':Nat}(h:bg es N M)(h':bg es N M'):M=M':=JV fun x=>by rw[h x,h' x]
def xD(PL PS WC:Addr):Sp:=fun vs H Q _=>∃(p:Addr)(N m m0:Nat)(es:En)(ts:List (List Nat))(ks:Kn),vs = [.ref p,.int (N:Int)]/\WebT PL PS WC H p m0 es ts ks/\ks.length=es.length/\m<=40/\(∀ e∈es,e.1<m/\e.2<m)/\∀ M:Nat,bg es N M->Q (.int (M:Int)) H
section
variable{P:Program}{w:World}{K:IT}{mg:Str->Option Value}{base:Heap}
theorem qu:aB ["tie","patch"] ["tie","patch"] (ag bP):=⟨rfl,rfl,rfl,by decide +kernel,rfl,by decide +kernel,by decide +kernel⟩
theorem Dd{f:Addr}{fd:FuncData} (F:Fun K "ends_within" "ends_within" bP f fd):FnOk P w K mg base CX0 1 f fd ["tie","patch"] (nU K):=by
 refine F.ok qu (fun vs H Q E h=>?_) (fun cdv A outer s H vs Q E hr h=>?_)
 ·obtain⟨p,C,dx,a,b,s,l,rfl,_⟩:=h
  rfl
 obtain⟨p,C,dx,a,b,st,l,rfl,hp,T,ha,hb,kk⟩:=h
 refine⟨_,(ak (aI (aC cL (aC oE (aC Au (pv 1) (cp (pv 0) rfl)) ai) (aC oE (aC Au (pv 1) (cp (pv 0) rfl)) ai)))),?_⟩
 refine⟨_,rfl,_,rfl,p,C,dx,_,_,rfl,hp,T.cl,T.n1,kA _ _ _,_,_,rfl,rfl,ha,_,_,rfl,rfl,_,rfl,_,rfl,p,C,dx,_,_,rfl,hp,T.cl,T.n2,n9 _ _ _,_,_,rfl,rfl,hb,_,_,rfl,rfl,_,_,rfl,rfl,?_⟩
 show Q (V.int (Builtin.bitAnd (l/2^a.toNat) 1+Builtin.bitAnd (l/2^b.toNat) 1)) H
 rw[and1,and1]
 exact kk
theorem vx:aB ["found"] ["found"] (ag cQ):=⟨rfl,rfl,rfl,by decide +kernel,rfl,by decide +kernel,by decide +kernel⟩
theorem Fw{f:Addr}{fd:FuncData} (F:Fun K "_law_whole" "_law_whole" cQ f fd) (T:Txt mg):FnOk P w K mg base CX0 1 f fd ["found"] CA:=by
 refine F.ok vx (fun vs H Q E h=>?_) (fun cdv A outer s H vs Q E hr h=>?_)
 ·obtain⟨i,rfl,_⟩:=h
  rfl
 obtain⟨i,rfl,k⟩:=h
 refine⟨_,(ak (aI (Aq (aq gz (by rfl) T.n_isinstance aO (aa (pv 0) (aa (jE (v:=.ty "int") rfl T.n_int bt_int rfl) ah))) (An (Gu (aq gz (by rfl) T.n_isinstance aO (aa (pv 0) (aa (jE (v:=.ty "bool") rfl T.n_bool IJ rfl) ah)))))))),?_⟩
 refine⟨_,rfl,_,_,_,_,_,rfl,TyOf.int i,Or.inl ⟨_,rfl,rfl⟩,kit_ii K,_,rfl,iteT ?_⟩
 exact⟨_,rfl,_,_,_,_,_,rfl,TyOf.int i,Or.inl ⟨_,rfl,rfl⟩,kit_ib K,_,rfl,k⟩
theorem fQ:aB ["web","behind","front","tie"] ["web","behind"] (ag dZ):=⟨rfl,rfl,rfl,by decide +kernel,rfl,by decide +kernel,by decide +kernel⟩
theorem FC{f fw PL PS WC:Addr}{fd fdw:FuncData} (F:Fun K "front_of" "front_of" dZ f fd) (cw:CW K WC) (TL:CT K PL) (TS:CT K PS) (G_ends_within:Cal P w K mg base 1 "ends_within" ["tie","patch"] (nU K) fw fdw):FnOk P w K mg base CX0 2 f fd ["web","behind"] (xD PL PS WC):=by
 refine F.ok fQ (fun vs H Q E h=>?_) (fun cdv A outer s H vs Q E hr h=>?_)
 ·obtain⟨p,N,m,m0,es,ts,ks,rfl,_⟩:=h
  rfl
 obtain⟨p,N,m,m0,es,ts,ks,rfl,⟨dx,fs,q1,xs,q3,z3,hp,_,hlk,hq1,tk,_⟩,kl,m40,hbd,kk⟩:=h
 have hxl:xs.length=es.length:=tk.1
 have ct:∀ b,CT K (cls PL PS b):=fun b=>by
  unfold cls
  split
  ·exact TS
  ·exact TL
 refine⟨_,(af (ax (i:=2) fQ.nd rfl (Or.inl rfl) ai)
   (af (ck PassesOwn.never rfl (bc (cp (pv 0) rfl)) (aM (i:=3) fQ.nd rfl (Or.inl rfl)) (ak (bQ (aE lG (aG G_ends_within.ok (hr.mono (by decide)) rfl G_ends_within.mg G_ends_within.kp G_ends_within.bn .nil aZ (aa (pv 3) (aa (pv 1) ah))) ai (aJ _)) (ak (ax (i:=2) fQ.nd rfl (Or.inl rfl) (aC yn (pv 2) (aC oE (pv 1) (aC yn (aC g9 ai (cp (pv 3) rfl)) (aC g9 ai (cp (pv 3) rfl))))))) aK)))
   (ak (aI (pv 2))))),?_⟩
 refine⟨_,rfl,p,WC,dx,fs,_,rfl,hp,cw.cl,cw.n2,hlk,q1,rfl,⟨_,SqL.of hq1⟩,cF (K:=K) (xs:=xs) (fun i σ H2=>∃ v3 M,σ = [some (.ref p),some (.int (N:Int)),some (.int ((M:Nat):Int)),v3]/\H2=H/\bg (es.take i) N M) ⟨_,0,rfl,rfl,bg.z N⟩ (fun i σ H2 _ ⟨_,_,_,z,_⟩=>by rw[z];exact SqL.of hq1) ?_ ?_⟩
 ·rintro i x σ H2 hx ⟨v3,M,rfl,rfl,fr⟩
  have hi:i<es.length:=by rw[← tk.1];exact(IS.mp hx).1
  obtain⟨e,he⟩:∃ e,es[i]?=some e:=⟨_,IU hi⟩
  obtain⟨k,hk⟩:∃ k,ks[i]?=some k:=⟨_,IU (by omega)⟩
  obtain⟨p',dx',x1,x2⟩:=tk.2 i e k he hk
  rw[hx]at x1
  cases x1
  obtain⟨b1,b2⟩:=hbd e (IW he)
  have et:es.take (i+1)=es.take i++[e]:=by rw[Jt,he];rfl
  have hin:(bit (N:Int) (e.1:Int)+bit (N:Int) (e.2:Int)=1)↔N.testBit e.1≠N.testBit e.2:=by
   rw[bitN,bitN]
   cases N.testBit e.1<;>cases N.testBit e.2<;>decide
  refine⟨_,rfl,_,rfl,p',_,dx',_,_,_,_,rfl,x2,ct _,by omega,by omega,rfl,_,rfl,?_⟩
  refine ite2 (fun c=>?_) (fun c=>?_)
  ·have c':=hin.mp (V.int.inj (of_decide_eq_true c))
   refine⟨_,rfl,_,rfl,_,rfl,p',_,dx',_,_,rfl,x2,(ct _).cl,(ct _).n1,kA _ _ _,_,_,rfl,rfl,⟨by omega,by omega,by decide⟩,_,rfl,p',_,dx',_,_,rfl,x2,(ct _).cl,(ct _).n2,n9 _ _ _,_,_,rfl,rfl,⟨by omega,by omega,by decide⟩,_,_,rfl,rfl,_,_,rfl,rfl,_,_,rfl,rfl,?_⟩
   refine⟨some (.ref p'),M|||(N&&&(2^e.1|||2^e.2)),?_,rfl,by rw[et];exact fr.put c'⟩
   have eo:Builtin.bitOr (M:Int) (Builtin.bitAnd (N:Int) (Builtin.bitOr (1*2^((e.1:Nat):Int).toNat) (1*2^((e.2:Nat):Int).toNat)))=((M|||(N&&&(2^e.1|||2^e.2)):Nat):Int):=by rw[shlN,shlN,orN,andN,orN]
   show[some (V.ref p),some (V.int (N:Int)),some (V.int (Builtin.bitOr (M:Int) (Builtin.bitAnd (N:Int) (Builtin.bitOr (1*2^((e.1:Nat):Int).toNat) (1*2^((e.2:Nat):Int).toNat))))),some (V.ref p')]=_
   rw[eo]
  ·have c':N.testBit e.1=N.testBit e.2:=by
    cases h1:N.testBit e.1<;>cases h2:N.testBit e.2
    ·rfl
    ·exact absurd (decide_eq_true (congrArg V.int (hin.mpr (by rw[h1,h2];decide)))) c
    ·exact absurd (decide_eq_true (congrArg V.int (hin.mpr (by rw[h1,h2];decide)))) c
    ·rfl
   exact⟨some (.ref p'),M,rfl,rfl,by rw[et];exact fr.skip c'⟩
 rintro σ H2 ⟨v3,M,rfl,rfl,fr⟩
 rw[hxl,JA]at fr
 exact⟨_,rfl,kk M fr⟩
end
end K8
namespace K8
open PySem L2
local macro_rules | `(tactic| walk_at "cc") => `(tactic| first | exact ⟨by decide, by decide⟩ | (show (0 : Int) < _; decide) | (show (0 : Int) < _; omega) | (show (0 : Int) ≤ _; omega) | exact ⟨by decide, by decide, by decide⟩ | exact ⟨by omega, by omega, by decide⟩ | exact Or.inl ⟨by decide, by decide⟩ | exact Or.inl ⟨by omega, by omega⟩)
local macro_rules | `(tactic| walk_at "rd") => `(tactic| repeat (first | refine ⟨_, rfl, ?_⟩ | refine ⟨_, _, rfl, rfl, ?_⟩ | refine ⟨rfl, ?_⟩ | (refine ⟨?cc, ?_⟩; (case cc => walk_at "cc"))))
def rI(m:Nat):List Int:=(Ju m).map fun(i:Nat)=>((i:Nat):Int)
theorem rI_V(m:Nat):((Ju m).map fun(i:Nat)=>V.int ((i:Nat):Int))=(rI m).map V.int:=by unfold rI;rw[Km];rfl
theorem rI_pw(m:Nat):(rI m).Pairwise (·<=·):=by
 unfold rI
 refine KO.map _ (fun a b h=>?_) List.pairwise_lt_range
 omega
theorem DN{K:IT}{H:Hp}{a:Addr}{ns:List Int}(h:SqL K H a (ns.map V.int)):RdD K H (.ref a) (.list (ns.map PyData.int)):=by
 refine RdD.lst h (by rw[IV,IV]) fun i x d e1 e2=>?_
 rw[Je]at e1 e2
 cases q:ns[i]? with
 |none=>rw[q]at e1;cases e1
 |some z=>rw[q]at e1 e2;cases e1;cases e2;exact .int _
structure ErrC(K:IT)(mg:Str->Option Value)(x:Str)(C:Addr):Prop where
 mg:mg x=some (.ref C)
 ec:ExC K C
def Told(m:Nat)(v:V)(H:Hp)(ns:List Int):Prop:=(v=.non/\ns=rI m)∨∃ o,v=.ref o/\H o=some (.lst (ns.map V.int))/\ns.length<=50
theorem Told.mono{m:Nat}{v:V}{H H':Hp}{ns:List Int}(h:Told m v H ns)(s:Same H H'):Told m v H' ns:=by
 rcases h with h | ⟨o,a,b,c⟩
 ·exact .inl h
 ·exact .inr ⟨o,a,s _ _ b,c⟩
def vj(BO WC:Addr):Sp:=fun vs H Q E=>∃(p dx:Addr)(fs:List (Str×V))(m:Nat)(v:V)(ns:List Int),vs = [.ref p,v]/\H p=some (.ins WC dx fs)/\fs.lookup ("many" : Str)=some (.int (m:Int))/\m<=40/\Told m v H ns /\
 (¬ ns.Perm (rI m)->∀ H',Same H H'->E (.ref BO) none H')/\(ns.Perm (rI m)->∀ q H',Same H H'->H q=none->H' q=some (.lst (ns.map V.int))->Q (.ref q) H')
def mk(l:List Nat):Nat:=l.foldl (fun a x=>a|||2^x) 0
theorem yK(l:List Nat)(x:Nat):mk (l++[x])=mk l|||2^x:=by unfold mk;rw[List.foldl_append];rfl
def dh(es:En)(od ms:List Nat):Prop:=ms.length=od.length+1/\∀ k M,ms[k]?=some M->bg es (mk (od.take k)) M
theorem D5(es:En):bg es 0 0:=fun x=>by rw[Kg];rfl
theorem dh.snoc{es:En}{od ms:List Nat}{x M:Nat}(h:dh es od ms)(hM:bg es (mk (od++[x])) M):dh es (od++[x]) (ms++[M]):=by
 refine⟨by rw[IX,IX,h.1];rfl,fun k N e=>?_⟩
 by_cases hk:k<ms.length
 ·rw[Jb hk]at e
  have hk2:k<=od.length:=by have:=h.1;omega
  rw[Mf hk2]
  exact h.2 k N e
 ·rw[IZ (by omega)]at e
  have hk2:k=ms.length:=by
   have:=(IS.mp e).1
   rw[Jg]at this
   omega
  subst hk2
  rw[JC]at e
  cases e
  rw[JQ (by rw[IX,Jg,h.1];exact IY _)]
  exact hM
theorem Am{ns:List Int}{m:Nat}(h:ns.Perm (rI m)):∃ od:List Nat,ns=cI od/\∀ x∈od,x<m:=by
 have hb:∀ x∈ns,0<=x/\x<(m:Int):=fun x hx=>by
  have:=h.mem_iff.mp hx
  unfold rI at this
  obtain⟨i,hi,rfl⟩:=Jj.mp this
  have:=Jx.mp hi
  omega
 refine⟨ns.map Int.toNat,?_,fun x hx=>?_⟩
 ·unfold cI
  rw[Km]
  symm
  refine(Lq fun x hx=>?_).trans (List.map_id _)
  have:=hb x hx
  show((x.toNat:Nat):Int)=x
  omega
 ·obtain⟨y,hy,rfl⟩:=Jj.mp hx
  have:=hb y hy
  omega
def Hd(BO PL PS WC:Addr):Sp:=fun vs H Q E=>∃(p:Addr)(m:Nat)(es:En)(ts:List (List Nat))(ks:Kn)(v:V)(ns:List Int),vs = [.ref p,v]/\WebT PL PS WC H p m es ts ks/\ks.length=es.length/\(∀ e∈es,e.1<m/\e.2<m)/\m<=40/\Told m v H ns /\
 (¬ ns.Perm (rI m)->∀ H',Same H H'->E (.ref BO) none H')/\(∀ od:List Nat,ns=cI od->ns.Perm (rI m)->∀ q ms H',Same H H'->H' q=some (.lst (ms.map iV))->dh es od ms->Q (.ref q) H')
section
variable{P:Program}{w:World}{K:IT}{mg:Str->Option Value}{base:Heap}
theorem oo:aB ["web","order","places"] ["web","order"] (ag dR):=⟨rfl,rfl,rfl,by decide +kernel,rfl,by decide +kernel,by decide +kernel⟩
theorem ok_ord{f BO WC:Addr}{fd:FuncData} (F:Fun K "order_of" "order_of" dR f fd) (T:Txt mg) (cw:CW K WC) (X_BadOrder:ErrC K mg "BadOrder" BO):FnOk P w K mg base (CXr P w) 1 f fd ["web","order"] (vj BO WC):=by
 refine F.okX oo (fun vs H Q E h=>?_) (fun cdv A outer s H vs Q E hr h=>?_)
 ·obtain⟨p,dx,fs,m,v,ns,rfl,_⟩:=h
  rfl
 obtain⟨p,dx,fs,m,v,ns,rfl,hp,lk,m40,td,kb,k⟩:=h
 have hu64:=hr.units
 refine⟨_,(af (ax (i:=2) oo.nd rfl (Or.inl rfl) (mR rfl rfl T.n_list rfl T.n_range (cp (pv 0) rfl)))
   (af (bQ (aE op_isN (pv 1) Gv (aJ _)) (ak (aI (pv 2))) aK)
   (af (bQ (aE (op_neG hu64) (aq pL (by rfl) T.n_sorted pP (aa (pv 1) ah)) (pv 2) (aJ _)) (ak (oq X_BadOrder.ec X_BadOrder.mg rfl gL rfl rfl (aa C5 ah))) aK)
   (ak (aI (oB iD (by rfl) T.n_list mB (aa (pv 1) ah))))))),?_⟩
 refine⟨_,rfl,p,WC,dx,fs,_,rfl,hp,cw.cl,cw.n1,lk,m,rfl,by omega,fun q hq=>?_⟩
 rw[rI_V]
 have s1:=aj hq (.lst ((rI m).map V.int))
 rcases td with⟨rfl,rfl⟩ | ⟨o,rfl,ho,hl⟩
 ·refine⟨_,rfl,rfl,_,rfl,iteT ?_⟩
  exact⟨_,rfl,k (List.Perm.refl _) q _ s1 hq ae⟩
 refine⟨_,rfl,rfl,_,rfl,iteF ?_⟩
 refine⟨_,rfl,o,ns,rfl,SqL.of (s1 _ _ ho),by omega,fun l out hl' hp' hs=>?_⟩
 have s2:=aj hl' (.lst (out.map V.int))
 have s12:=s1.trans s2
 refine⟨_,rfl,_,_,DN (SqL.of ae),DN (SqL.of (s2 _ _ ae)),o6 _,o6 _,_,rfl,?_⟩
 rw[F3]
 refine ite2 (fun c=>?_) (fun c=>?_)
 ·have c':out≠rI m:=fun z=>by rw[decide_eq_true z]at c;cases c
  refine⟨(by decide:(1:Nat)<=sizeLine),kb (fun z=>c' (lC (hp'.trans z) hs (rI_pw m))) _ s12⟩
 ·have c':out=rI m:=by
   by_cases z:out=rI m
   ·exact z
   ·exact absurd (by rw[decide_eq_false z];rfl) c
  refine⟨_,rfl,o,_,rfl,.inl (SqL.of (s12 _ _ ho)),fun r hr'=>?_⟩
  exact k (c'▸hp'.symm) r _ (s12.trans (aj hr' _)) (by
   cases y:H r with
   |none=>rfl
   |some u=>rw[s12 _ _ y]at hr';cases hr') ae
theorem gW:aB ["web","order","found","behind","place"] ["web","order"] (ag iW):=⟨rfl,rfl,rfl,by decide +kernel,rfl,by decide +kernel,by decide +kernel⟩
theorem Dh{f fo ff BO PL PS WC:Addr}{fd fdo fdf:FuncData} (F:FunD K "fronts" "fronts" iW f fd #[.none]) (G_order_of:CalX P w K mg base 1 "order_of" ["web","order"] (vj BO WC) fo fdo) (G_front_of:Cal P w K mg base 2 "front_of" ["web","behind"] (xD PL PS WC) ff fdf):FnOk P w K mg base (CXr P w) 3 f fd ["web","order"] (Hd BO PL PS WC):=by
 refine F.okX gW (fun vs H Q E h=>?_) (fun cdv A outer s H vs Q E hr h=>?_)
 ·obtain⟨p,m,es,ts,ks,v,ns,rfl,_⟩:=h
  rfl
 obtain⟨p,m,es,ts,ks,v,ns,rfl,wm,kl,hbd,m40,td,kb,kk⟩:=h
 refine⟨_,(af (ax (i:=2) gW.nd rfl (Or.inl rfl) (dv (aa ai ah)))
   (af (ax (i:=3) gW.nd rfl (Or.inl rfl) ai)
   (af (Hs rfl (bc (dA G_order_of.ok (hr.mono (by decide)) rfl G_order_of.mg G_order_of.kp G_order_of.bn .nil gL rfl (aa (pv 0) (aa (pv 1) ah)))) (aM (i:=4) gW.nd rfl (Or.inl rfl)) (af (ax (i:=3) gW.nd rfl (Or.inl rfl) (aC yn (pv 3) (aC g9 ai (pv 4))))
   (ak (bR (nA JM JP JO bD (pv 2) (aa (aG G_front_of.ok (hr.mono (by decide)) rfl G_front_of.mg G_front_of.kp G_front_of.bn .nil aZ (aa (pv 0) (aa (pv 3) ah))) ah))))))
   (ak (aI (pv 2)))))),?_⟩
 refine⟨(by show 1<=sizeLine;decide),fun qf hqf=>?_⟩
 have s1:=aj hqf (.lst [.int 0])
 obtain⟨dx,fs,_,_,_,_,hp,lk,_⟩:=id wm
 refine⟨_,rfl,_,rfl,p,dx,fs,m,v,ns,rfl,s1 _ _ hp,lk,m40,td.mono s1,fun z H' s'=>kb z _ (s1.trans s'),fun pm q H2 s2 nq hq=>?_⟩
 obtain⟨od,rfl,ob⟩:=Am pm
 have nqf:q≠qf:=fun z=>by rw[z,ae]at nq;cases nq
 have ol:(cI od).length=od.length:=by unfold cI;rw[IV]
 have s12:=s1.trans s2
 have ol40:od.length<=40:=by
  have:=pm.length_eq
  unfold rI at this
  rw[ol,IV,JH]at this
  omega
 refine⟨q,rfl,⟨_,SqL.of hq⟩,cF (K:=K) (xs:=(cI od).map V.int) (fun i σ H3=>∃ v4 ms,σ = [some (.ref p),some v,some (.ref qf),some (.int ((mk (od.take i):Nat):Int)),v4]/\Same H H3/\H3 q=some (.lst ((cI od).map V.int))/\H3 qf=some (.lst (ms.map iV))/\dh es (od.take i) ms) ⟨_,[0],rfl,s12,hq,s2 _ _ ae,rfl,fun k M e=>?_⟩ (fun i σ H3 _ ⟨_,_,_,_,z,_⟩=>SqL.of z) ?_ ?_⟩
 ·match k with
  |0=>cases e;exact D5 es
  |k+1=>cases e
 ·rintro i x σ H3 hx ⟨v4,ms,rfl,s3,hq3,hf3,fr⟩
  rw[Je]at hx
  obtain⟨y,hy,rfl⟩:=Jv.mp hx
  unfold cI at hy
  rw[Je]at hy
  obtain⟨pl,hpl,rfl⟩:=Jv.mp hy
  have hb:=ob pl (IW hpl)
  have et:od.take (i+1)=od.take i++[pl]:=by rw[Jt,hpl];rfl
  have ml:ms.length<=41:=by
   have:=fr.1
   rw[JE]at this
   omega
  refine⟨_,rfl,_,rfl,_,_,rfl,rfl,⟨by omega,by omega,by decide⟩,_,_,rfl,rfl,?_⟩
  have eo:Builtin.bitOr ((mk (od.take i):Nat):Int) (1*2^((pl:Nat):Int).toNat)=((mk (od.take (i+1)):Nat):Int):=by rw[et,yK,shlN,orN]
  refine⟨_,rfl,.inl ⟨rfl,_,SqL.of hf3⟩,_,rfl,_,rfl,p,mk (od.take (i+1)),m,m,es,ts,ks,congrArg (fun z=>[V.ref p,V.int z]) eo,wm.mono s3,kl,m40,hbd,fun M hM=>?_⟩
  refine⟨qf,_,_,rfl,rfl,hf3,aw (by rw[IV];omega),?_⟩
  refine⟨some (.int (pl:Int)),ms++[M],?_,bb s3 hqf _,by rw[ao nqf];exact hq3,by rw[ae,Jy];rfl,by rw[et]at hM ⊢;exact fr.snoc hM⟩
  show[some (V.ref p),some v,some (V.ref qf),some (V.int (Builtin.bitOr ((mk (od.take i):Nat):Int) (1*2^((pl:Nat):Int).toNat))),some (V.int (pl:Int))]=_
  rw[eo]
 ·rintro σ H3 ⟨v4,ms,rfl,s3,hq3,hf3,fr⟩
  rw[IV,ol,JA]at fr
  exact⟨_,rfl,kk od rfl pm qf ms H3 s3 hf3 fr⟩
end
end K8
namespace K8
open PySem L2
local macro_rules | `(tactic| walk_at "cc") => `(tactic| first | exact ⟨by decide, by decide⟩ | (show (0 : Int) < _; decide) | (show (0 : Int) < _; omega) | (show (0 : Int) ≤ _; omega) | exact ⟨by decide, by decide, by decide⟩ | exact ⟨by omega, by omega, by decide⟩ | exact Or.inl ⟨by decide, by decide⟩ | exact Or.inl ⟨by omega, by omega⟩)
local macro_rules | `(tactic| walk_at "rd") => `(tactic| repeat (first | refine ⟨_, rfl, ?_⟩ | refine ⟨_, _, rfl, rfl, ?_⟩ | refine ⟨rfl, ?_⟩ | (refine ⟨?cc, ?_⟩; (case cc => walk_at "cc"))))
theorem pe_or{X:Cx}{e:Expr}{t1 t2:TE}(h1:PE X e t1)(h2:PE X e t2):PE X e (fun σ H Q=>t1 σ H Q∨t2 σ H Q):=fun pins s σ H Q I h=>h.elim (h1 pins s σ H Q I) (h2 pins s σ H Q I)
theorem G4(x y:Int):Builtin.bitAnd (Builtin.bitXor x y) 1=(x%2+y%2)%2:=by
 have e:Builtin.bitAnd (Builtin.bitXor x y) 1=Builtin.bitXor x y%2:=PySem.W.kbt_mask _ 1
 rw[e,PyProof.Rows.bitXor_and]
 omega
def unp(push:Bool)(a b l:Int):Bool:=!decide (V.int ((bit l a+bit l b)%2)=V.int (if push=true then 1 else 0))
def vi(push:Bool):Sp:=fun vs H Q _=>∃ p,vs = [.ref p]/\Q (.int (if push=true then 1 else 0)) H
def TieAt(H:Hp)(p C:Addr)(a b s:Int):Prop:=∃ dx,H p=some (.ins C dx (tf a b s))
def Ai(C:Addr)(push:Bool):Sp:=fun vs H Q _=>∃ p a b s l,vs = [.ref p,.int l]/\TieAt H p C a b s/\0<=a/\0<=b/\Q (.bl (unp push a b l)) H
def oa(C:Addr)(push:Bool):Sp:=fun vs H Q _=>∃ p a b s l,vs = [.ref p,.int l]/\TieAt H p C a b s/\0<=a/\0<=b/\Q (.int (if unp push a b l=true then s else 0)) H
def U(es:En)(ks:Kn)(l:Int)(t:Nat):Bool:=match es[t]?,ks[t]? with | some e,some k=>unp (decide (k.1=1)) (e.1:Int) (e.2:Int) l | _,_=>false
theorem U_at{es:En}{ks:Kn}{l:Int}{t:Nat}{e:Nat×Nat}{k:Int×Int}(h1:es[t]?=some e)(h2:ks[t]?=some k):U es ks l t=unp (decide (k.1=1)) (e.1:Int) (e.2:Int) l:=by unfold U;rw[h1,h2]
def stg(ks:Kn)(t:Nat):Int:=match ks[t]? with | some k=>k.2 | none=>0
section
variable{P:Program}{w:World}{K:IT}{mg:Str->Option Value}{base:Heap}
theorem xR:aB ["self"] ["self"] (ag ef):=⟨rfl,rfl,rfl,by decide +kernel,rfl,by decide +kernel,by decide +kernel⟩
theorem Fu{f:Addr}{fd:FuncData} (F:Fun K "wish" "Tie.wish" ef f fd):FnOk P w K mg base CX0 1 f fd ["self"] (vi false):=by
 refine F.ok xR (fun vs H Q E h=>?_) (fun cdv A outer s H vs Q E hr h=>?_)
 ·obtain⟨p,rfl,_⟩:=h
  rfl
 obtain⟨p,rfl,k⟩:=h
 exact⟨_,(ak (aI ai)),k⟩
theorem vz:aB ["self"] ["self"] (ag cS):=⟨rfl,rfl,rfl,by decide +kernel,rfl,by decide +kernel,by decide +kernel⟩
theorem Ft{f:Addr}{fd:FuncData} (F:Fun K "wish" "Push.wish" cS f fd):FnOk P w K mg base CX0 1 f fd ["self"] (vi true):=by
 refine F.ok vz (fun vs H Q E h=>?_) (fun cdv A outer s H vs Q E hr h=>?_)
 ·obtain⟨p,rfl,_⟩:=h
  rfl
 obtain⟨p,rfl,k⟩:=h
 exact⟨_,(ak (aI ai)),k⟩
theorem gM:aB ["self","laying","unlike"] ["self","laying"] (ag bj):=⟨rfl,rfl,rfl,by decide +kernel,rfl,by decide +kernel,by decide +kernel⟩
theorem De{f C fw:Addr}{fd fdw:FuncData}{push:Bool} (F:Fun K "unpleased" "Tie.unpleased" bj f fd) (T:CT K C) (m_wish:Met P w K mg base 1 C "wish" ["self"] (vi push) fw fdw):FnOk P w K mg base CX0 2 f fd ["self","laying"] (Ai C push):=by
 refine F.ok gM (fun vs H Q E h=>?_) (fun cdv A outer s H vs Q E hr h=>?_)
 ·obtain⟨p,a,b,s,l,rfl,_⟩:=h
  rfl
 obtain⟨p,a,b,st,l,rfl,⟨dx,hp⟩,ha,hb,k⟩:=h
 have CL:=T.cl
 refine⟨_,(af (ax (i:=2) gM.nd rfl (Or.inl rfl) (aC oE (aC op_xor (aC Au (pv 1) (cp (pv 0) rfl)) (aC Au (pv 1) (cp (pv 0) rfl))) ai))
   (ak (aI (ym jF (pv 2) (Fo (pv 0) CL m_wish.me m_wish.ok (hr.mono (by decide)) m_wish.bn .nil aZ) (aJ _))))),?_⟩
 refine⟨_,rfl,_,rfl,p,C,dx,_,_,rfl,hp,T.cl,T.n1,kA _ _ _,_,_,rfl,rfl,ha,?_⟩
 refine⟨_,rfl,_,rfl,p,C,dx,_,_,rfl,hp,T.cl,T.n2,n9 _ _ _,_,_,rfl,rfl,hb,?_⟩
 refine⟨_,_,rfl,rfl,_,_,rfl,rfl,?_⟩
 refine⟨_,rfl,_,rfl,p,dx,_,rfl,hp,E5 _ _ _ (by decide +kernel) (by decide +kernel) (by decide +kernel),p,rfl,?_⟩
 refine⟨rfl,?_⟩
 have e:=G4 (l/2^a.toNat) (l/2^b.toNat)
 have k':Q (V.bl (unp push a b l)) H:=k
 unfold unp bit at k'
 rw[← e]at k'
 exact k'
theorem vy:aB ["self","laying"] ["self","laying"] (ag cR):=⟨rfl,rfl,rfl,by decide +kernel,rfl,by decide +kernel,by decide +kernel⟩
theorem Av{f C fw:Addr}{fd fdw:FuncData}{push:Bool} (F:Fun K "price" "Tie.price" cR f fd) (T:CT K C) (m_unpleased:Met P w K mg base 2 C "unpleased" ["self","laying"] (Ai C push) fw fdw):FnOk P w K mg base CX0 3 f fd ["self","laying"] (oa C push):=by
 refine F.ok vy (fun vs H Q E h=>?_) (fun cdv A outer s H vs Q E hr h=>?_)
 ·obtain⟨p,a,b,s,l,rfl,_⟩:=h
  rfl
 obtain⟨p,a,b,st,l,rfl,⟨dx,hp⟩,ha,hb,k⟩:=h
 have CL:=T.cl
 refine⟨_,(ak (aI (tD (df (yj (pv 0) CL m_unpleased.me m_unpleased.ok (hr.mono (by decide)) m_unpleased.bn .nil aZ (aa (pv 1) ah))) (cp (pv 0) rfl) ai))),?_⟩
 refine⟨_,rfl,p,dx,_,rfl,hp,E5 _ _ _ (by decide +kernel) (by decide +kernel) (by decide +kernel),_,rfl,p,a,b,st,l,rfl,⟨dx,hp⟩,ha,hb,_,rfl,?_⟩
 refine ite2 (fun c=>?_) (fun c=>?_)
 ·refine⟨_,rfl,p,C,dx,_,_,rfl,hp,T.cl,T.n3,tf_str _ _ _,?_⟩
  rw[if_pos c]at k
  exact k
 ·rw[if_neg c]at k
  exact k
end
end K8
namespace K8
open PySem L2
local macro_rules | `(tactic| walk_at "cc") => `(tactic| first | exact ⟨by decide, by decide⟩ | (show (0 : Int) < _; decide) | (show (0 : Int) < _; omega) | (show (0 : Int) ≤ _; omega) | exact ⟨by decide, by decide, by decide⟩ | exact ⟨by omega, by omega, by decide⟩ | exact Or.inl ⟨by decide, by decide⟩ | exact Or.inl ⟨by omega, by omega⟩)
local macro_rules | `(tactic| walk_at "rd") => `(tactic| repeat (first | refine ⟨_, rfl, ?_⟩ | refine ⟨_, _, rfl, rfl, ?_⟩ | refine ⟨rfl, ?_⟩ | (refine ⟨?cc, ?_⟩; (case cc => walk_at "cc"))))
def sumL{α:Type}(l:List α)(f:α->Int):Int:=(l.map f).sum
theorem fO{α:Type}(f:α->Int):sumL [] f=0:=rfl
theorem aD{α:Type}(x:α)(l:List α)(f:α->Int):sumL (x::l) f=f x+sumL l f:=by unfold sumL;rw[JJ,List.sum_cons]
theorem kD{α:Type}(l:List α)(f g:α->Int):sumL l (fun x=>f x+g x)=sumL l f+sumL l g:=by
 induction l with
 |nil=>rfl
 |cons x l ih=>rw[aD,aD,aD,ih];omega
theorem da{α:Type}(l:List α):sumL l (fun _=>0)=0:=by
 induction l with
 |nil=>rfl
 |cons x l ih=>rw[aD,ih];rfl
theorem aF{α:Type}{l:List α}{f g:α->Int}(h:∀ x∈l,f x=g x):sumL l f=sumL l g:=by
 induction l with
 |nil=>rfl
 |cons x l ih=>rw[aD,aD,h x (by simp),ih fun y hy=>h y (by simp[hy])]
theorem vg{α β:Type}(l:List α)(r:List β)(f:α->β->Int):sumL l (fun x=>sumL r (f x))=sumL r (fun y=>sumL l (fun x=>f x y)):=by
 induction l with
 |nil=>rw[fO];exact(da r).symm
 |cons x l ih =>
  rw[aD,ih,← kD]
  exact aF fun y _=>(aD x l fun x=>f x y).symm
def lowL:List Int->Int
 |[]=>0
 |[x]=>x
 |x::y::r=>if x<=lowL (y::r) then x else lowL (y::r)
theorem oO:∀ ns:List Int,ns≠[]->lowL ns∈ns/\∀ x∈ns,lowL ns<=x
 |[],h=>absurd rfl h
 |[x],_=>⟨by simp[lowL],fun y hy=>by rw[Jq.mp hy];exact KD _⟩
 |x::y::r,_=>by
  obtain⟨a,b⟩:=oO (y::r) (by simp)
  rw[lowL]
  by_cases c:x<=lowL (y::r)
  ·rw[if_pos c]
   refine⟨Jn ..,fun z hz=>?_⟩
   rcases Ja.mp hz with rfl | hz
   ·exact KD _
   ·exact Int.le_trans c (b z hz)
  ·rw[if_neg c]
   refine⟨Jk _ a,fun z hz=>?_⟩
   rcases Ja.mp hz with rfl | hz
   ·omega
   ·exact b z hz
theorem Ii{ns:List Int}{m:Int}(hm:m∈ns)(hl:∀ x∈ns,m<=x):m=lowL ns:=by
 obtain⟨a,b⟩:=oO ns (fun e=>by rw[e]at hm;cases hm)
 have h1:=hl _ a
 have h2:=b _ hm
 omega
abbrev Pr:=Int×Int
def tot(es:List Pr)(m:Int):Int:=((es.filter fun e=>decide (e.1=m)).map (·.2)).sum
def iK(es:List Pr):Pr:=(lowL (es.map (·.1)),tot es (lowL (es.map (·.1))))
def PrAt(H:Hp)(v:V)(p:Pr):Prop:=∃ t,v=.ref t/\H t=some (.tup [.int p.1,.int p.2])
def RwAt(H:Hp)(v:V)(r:List Pr):Prop:=∃ a ys,v=.ref a/\H a=some (.lst ys)/\LsAt PrAt H ys r
theorem PrAt.mono{H H':Hp}{v:V}{p:Pr}(h:PrAt H v p)(s:Same H H'):PrAt H' v p:=by
 obtain⟨t,e,z⟩:=h
 exact⟨t,e,s _ _ z⟩
theorem RwAt.mono{H H':Hp}{v:V}{r:List Pr}(h:RwAt H v r)(s:Same H H'):RwAt H' v r:=by
 obtain⟨a,ys,e,z,l⟩:=h
 exact⟨a,ys,e,s _ _ z,l.imp fun _ _ q=>q.mono s⟩
def spCT(K:IT):Sp:=fun vs H Q _=>∃(v:V)(es:List Pr),vs = [v]/\RwAt H v es/\es≠[]/\es.length<=900/\∀ u H',Same H H'->PrAt H' u (iK es)->Q u H'
theorem kC{α:Type}(l r:List α)(f:α->Int):sumL (l++r) f=sumL l f+sumL r f:=by
 induction l with
 |nil=>rw[List.nil_append,fO,KA]
 |cons x l ih=>rw[List.cons_append,aD,aD,ih];omega
theorem nR{α β:Type}(l:List α)(g:α->β)(f:β->Int):sumL (l.map g) f=sumL l fun x=>f (g x):=by
 unfold sumL
 rw[Km]
 rfl
theorem Co{α:Type}(l:List α)(p:α->Bool)(f:α->Int):sumL (l.filter p) f=sumL l fun x=>if p x=true then f x else 0:=by
 induction l with
 |nil=>rfl
 |cons x l ih =>
  by_cases h:p x=true
  ·rw[LG h,aD,aD,ih,if_pos h]
  ·rw[LH h,aD,ih,if_neg h,KA]
theorem kB{α β:Type} [DecidableEq β] (k:α->β):∀{l:List α}{x:α}(g:α->Int),(l.map k).Nodup->x∈l->sumL l (fun y=>if k x=k y then g y else 0)=g x
 |y::l,x,g,nd,h=>by
  rw[JJ,JD]at nd
  rw[aD]
  rcases Ja.mp h with rfl | h
  ·rw[if_pos rfl]
   have z:sumL l (fun y=>if k x=k y then g y else 0)=0:=by
    refine(aF fun y hy=>?_).trans (da l)
    rw[if_neg]
    intro e
    exact nd.1 (e▸Jj.mpr ⟨y,hy,rfl⟩)
   rw[z,Int.add_zero]
  ·have ne:¬ k x=k y:=fun e=>nd.1 (by rw[← e];exact Jj.mpr ⟨x,h,rfl⟩)
   rw[if_neg ne,KA]
   exact kB k g nd.2 h
theorem Hb{n:Nat}{l:List Nat}(nd:l.Nodup)(hl:∀ t∈l,t<n)(g:Nat->Int):sumL (Ju n) (fun t=>if t∈l then g t else 0)=sumL l g:=by
 have e:∀ t∈Ju n,(if t∈l then g t else 0)=sumL l fun u=>if t=u then g u else 0:=fun t _=>by
  by_cases h:t∈l
  ·rw[if_pos h]
   exact(kB (fun x=>x) g (by rw[List.map_id'];exact nd) h).symm
  ·rw[if_neg h]
   refine((aF fun u hu=>?_).trans (da l)).symm
   have ne:¬ t=u:=fun e=>h (by rw[e];exact hu)
   rw[if_neg ne]
 rw[aF e,vg]
 refine aF fun u hu=>?_
 have q:=kB (fun x:Nat=>x) (l:=Ju n) (x:=u) g (by rw[List.map_id'];exact JU) (Jx.mpr (hl u hu))
 refine(aF fun t _=>?_).trans q
 by_cases h:t=u
 ·rw[if_pos h,if_pos h.symm,h]
 ·have ne:¬ u=t:=fun e=>h e.symm
  rw[if_neg h,if_neg ne]
def layK(ps:List Nat)(w:Nat):Nat->Nat
 |0=>0
 |k+1=>if w.testBit k=true then layK ps w k|||2^(ps.getD k 0) else layK ps w k
def ua(ps:List Nat)(w:Nat):Nat:=layK ps w ps.length
def lays(ps:List Nat):List Nat:=(Ju (2^ps.length)).map (ua ps)
theorem yU{ps qs:List Nat}{w v:Nat}:∀{k:Nat},(∀ i,i<k->ps.getD i 0=qs.getD i 0/\w.testBit i=v.testBit i)->layK ps w k=layK qs v k
 |0,_=>rfl
 |k+1,h=>by
  obtain⟨a,b⟩:=h k (KQ k)
  rw[layK,layK,a,b,yU fun i hi=>h i (K0 hi)]
theorem AG{ps:List Nat}{p i:Nat}(h:i<ps.length):(ps++[p]).getD i 0=ps.getD i 0:=by
 rw[J1,J1,Jb h]
theorem Ij{ps:List Nat}{p w:Nat}(hw:w<2^ps.length):ua (ps++[p]) w=ua ps w:=by
 unfold ua
 rw[IX,Jg,layK,if_neg (by rw[KR hw];exact Jo)]
 exact yU fun i hi=>⟨AG hi,rfl⟩
theorem FK{ps:List Nat}{p w:Nat}(hw:w<2^ps.length):ua (ps++[p]) (2^ps.length+w)=ua ps w|||2^p:=by
 unfold ua
 rw[IX,Jg,layK]
 have tb:(2^ps.length+w).testBit ps.length=true:=by
  rw[Nat.testBit_two_pow_add_eq,KR hw];rfl
 have gp:(ps++[p]).getD ps.length 0=p:=by
  rw[J1,IZ (IY _),JC];rfl
 rw[if_pos tb,gp]
 congr 1
 refine yU fun i hi=>⟨AG hi,?_⟩
 exact Nat.testBit_two_pow_add_gt hi w
theorem fK(ps:List Nat)(p:Nat):lays (ps++[p])=lays ps++(lays ps).map (·|||2^p):=by
 unfold lays
 have e:2^(ps++[p]).length=2^ps.length+2^ps.length:=by rw[IX,Jg,Md];omega
 rw[e,List.range_add,Jy,Km,Km]
 congr 1
 ·exact Lq fun w hw=>Ij (Jx.mp hw)
 ·exact Lq fun w hw=>FK (Jx.mp hw)
theorem E8(ps:List Nat)(p:Nat)(f:Nat->Int):sumL (lays (ps++[p])) f=sumL (lays ps) (fun L=>f L+f (L|||2^p)):=by
 rw[fK,kC,nR,kD]
theorem bo(l:List Nat)(x:Nat):(mk l).testBit x=decide (x∈l):=by
 have go:∀(l:List Nat)(a:Nat),(l.foldl (fun a x=>a|||2^x) a).testBit x=(a.testBit x||decide (x∈l)):=by
  intro l
  induction l with
  |nil=>intro a;simp
  |cons y l ih =>
   intro a
   rw[List.foldl_cons,ih,J2,JF]
   by_cases h:y=x
   ·subst h;simp
   ·have h':¬ x=y:=fun e=>h e.symm
    simp[h,h',Ja]
 unfold mk
 rw[go,Kg,Bool.false_or]
theorem eX{ps:List Nat}{L:Nat}(h:L∈lays ps){x:Nat}(hx:L.testBit x=true):x∈ps:=by
 unfold lays at h
 obtain⟨w,_,rfl⟩:=Jj.mp h
 unfold ua at hx
 have go:∀ k,k<=ps.length->(layK ps w k).testBit x=true->x∈ps:=fun k=>by
  induction k with
  |zero=>intro _ h;rw[layK,Kg]at h;cases h
  |succ k ih =>
   intro hk h
   rw[layK]at h
   split at h
   ·rw[J2,JF]at h
    rcases Lv.mp h with h | h
    ·exact ih (by omega) h
    ·have e:ps.getD k 0=x:=of_decide_eq_true h
     rw[← e,J1,IU (by omega)]
     exact List.getElem_mem _
   ·exact ih (by omega) h
 exact go _ (IY _) hx
def insT(es:En)(B t:Nat):Bool:=match es[t]? with | some e=>B.testBit e.1&&B.testBit e.2 | none=>false
theorem jV{es:En}{B t:Nat}{e:Nat×Nat}(h:es[t]?=some e):insT es B t=(B.testBit e.1&&B.testBit e.2):=by unfold insT;rw[h]
def cstB(es:En)(pr:Nat->Nat->Int)(B L:Nat):Int:=sumL (Ju es.length) fun t=>if insT es B t=true then pr t L else 0
def Loc(es:En)(pr:Nat->Nat->Int):Prop:=∀(t:Nat)(e:Nat×Nat),es[t]?=some e->∀ L L':Nat,L.testBit e.1=L'.testBit e.1->L.testBit e.2=L'.testBit e.2->pr t L=pr t L'
def jn(es:En)(B:Nat)(row:List Nat):List Nat:=row.filter (insT es B)
theorem kL(L p x:Nat)(b:Bool):(L|||(if b=true then 2^p else 0)).testBit x=(L.testBit x||(b&&decide (p=x))):=by
 rw[J2]
 cases b
 ·simp
 ·simp[JF]
def hsg(s p:Nat)(b:Bool):Nat:=s|||(if b=true then 2^p else 0)
section
variable{m:Nat}{es:En}{ts:List (List Nat)}{pr:Nat->Nat->Int}{ps row:List Nat}{p F F' L:Nat}
theorem D1(h:bg es (mk ps) F)(h':bg es (mk (ps++[p])) F'){x:Nat}(hx:F'.testBit x=true):x=p∨F.testBit x=true:=by
 rw[h' x,bo]at hx
 rw[h x,bo]
 obtain⟨h1,h2⟩:=JR.mp hx
 by_cases e:x=p
 ·exact .inl e
 ·right
  have hm:x∈ps:=by
   rcases Jl.mp (of_decide_eq_true h1)with z | z
   ·exact z
   ·exact absurd (Jq.mp z) e
  rw[decide_eq_true hm,LK]
  obtain⟨t,ht,hat⟩:=KI.mp h2
  refine KI.mpr ⟨t,ht,?_⟩
  have dn:∀ y,(mk (ps++[p])).testBit y=false->(mk ps).testBit y=false:=fun y z=>by
   rw[bo]at z ⊢
   exact decide_eq_false fun q=>of_decide_eq_false z (JG _ q)
  unfold atF at hat ⊢
  rcases Lv.mp hat with z | z
  ·obtain⟨a,b⟩:=JR.mp z
   have b':=dn t.2 (by simpa using b)
   rw[a,b'];rfl
  ·obtain⟨a,b⟩:=JR.mp z
   have b':=dn t.1 (by simpa using b)
   rw[a,b'];simp
theorem D3(h:bg es (mk ps) F)(h':bg es (mk (ps++[p])) F')(hp:p∉ps)(hL:L∈lays ps)(b:Bool):hsg (L&&&F) p b&&&F'=hsg L p b&&&F':=by
 apply JV
 intro x
 unfold hsg
 rw[Kj,Kj,kL,kL,Kj]
 cases z:F'.testBit x
 ·simp
 ·rcases D1 h h' z with e | e
  ·subst e
   have:L.testBit x=false:=by
    cases q:L.testBit x with
    |false=>rfl
    |true=>exact absurd (eX hL q) hp
   rw[this];rfl
  ·rw[e];simp
theorem Ba(T:cX m es ts)(lc:Loc es pr)(h:bg es (mk ps) F)(hp:p∉ps)(hL:L∈lays ps)(b:Bool)(hrow:ts[p]?=some row){t:Nat}(ht:t∈jn es (mk (ps++[p])) row):pr t (hsg (L&&&F) p b)=pr t (hsg L p b):=by
 obtain⟨h1,h2⟩:=JZ.mp ht
 obtain⟨e,he,hep⟩:=(T.mem p row hrow t).mp h1
 obtain⟨_,_,hne⟩:=T.ends e (IW he)
 rw[jV he,bo,bo]at h2
 obtain⟨i1,i2⟩:=JR.mp h2
 have hpB:(mk ps).testBit p=false:=by rw[bo];exact decide_eq_false hp
 have inF:∀ y,y∈ps++[p]->y≠p->(e.1=y/\e.2=p∨e.1=p/\e.2=y)->F.testBit y=true:=fun y hy hn hc=>by
  have hy':y∈ps:=by
   rcases Jl.mp hy with z | z
   ·exact z
   ·exact absurd (Jq.mp z) hn
  rw[h y,bo,decide_eq_true hy',LK]
  refine KI.mpr ⟨e,IW he,?_⟩
  unfold atF
  rcases hc with⟨a,c⟩ | ⟨a,c⟩
  ·rw[a,c,hpB];simp
  ·rw[a,c,hpB];simp
 have pb:(L&&&F).testBit p=false/\L.testBit p=false:=by
  have:L.testBit p=false:=by
   cases q:L.testBit p with
   |false=>rfl
   |true=>exact absurd (eX hL q) hp
  exact⟨by rw[Kj,this];rfl,this⟩
 have atp:(hsg (L&&&F) p b).testBit p=(hsg L p b).testBit p:=by unfold hsg;rw[kL,kL,pb.1,pb.2]
 have aty:∀ y,F.testBit y=true->(hsg (L&&&F) p b).testBit y=(hsg L p b).testBit y:=fun y hy=>by unfold hsg;rw[kL,kL,Kj,hy,Bool.and_true]
 rcases hep with z | z
 ·refine lc t e he _ _ (by rw[z];exact atp) (aty _ (inF e.2 (of_decide_eq_true i2) (fun q=>hne (z.trans q.symm)) (.inr ⟨z,rfl⟩)))
 ·refine lc t e he _ _ (aty _ (inF e.1 (of_decide_eq_true i1) (fun q=>hne (q.trans z.symm)) (.inl ⟨rfl,z⟩))) (by rw[z];exact atp)
theorem Ew(T:cX m es ts)(lc:Loc es pr)(h:bg es (mk ps) F)(hp:p∉ps)(hL:L∈lays ps)(b:Bool)(hrow:ts[p]?=some row) :
  cstB es pr (mk (ps++[p])) (hsg L p b)=cstB es pr (mk ps) L+sumL (jn es (mk (ps++[p])) row) (fun t=>pr t (hsg (L&&&F) p b)):=by
 have hb:∀ t∈jn es (mk (ps++[p])) row,t<es.length:=fun t ht=>by
  obtain⟨e,he,_⟩:=(T.mem p row hrow t).mp (JZ.mp ht).1
  exact(IS.mp he).1
 rw[aF (fun t ht=>Ba T lc h hp hL b hrow ht),← Hb (show(jn es (mk (ps++[p])) row).Nodup from(T.nd p row hrow).filter _) hb]
 unfold cstB
 rw[← kD]
 refine aF fun t ht=>?_
 obtain⟨e,he⟩:∃ e,es[t]?=some e:=⟨_,IU (Jx.mp ht)⟩
 have mb:t∈jn es (mk (ps++[p])) row↔(e.1=p∨e.2=p)/\insT es (mk (ps++[p])) t=true:=by
  unfold jn
  rw[JZ,T.mem p row hrow t]
  constructor
  ·rintro⟨⟨e',he',q⟩,z⟩
   rw[he]at he'
   cases he'
   exact⟨q,z⟩
  ·rintro⟨q,z⟩
   exact⟨⟨e,he,q⟩,z⟩
 by_cases hin:insT es (mk ps) t=true
 ·rw[if_pos hin]
  have hin0:=hin
  rw[jV he,bo,bo]at hin
  obtain⟨i1,i2⟩:=JR.mp hin
  have m1:=of_decide_eq_true i1
  have m2:=of_decide_eq_true i2
  have n1:e.1≠p:=fun z=>hp (z▸m1)
  have n2:e.2≠p:=fun z=>hp (z▸m2)
  have hin':insT es (mk (ps++[p])) t=true:=by
   rw[jV he,bo,bo,decide_eq_true (JG _ m1),decide_eq_true (JG _ m2)];rfl
  rw[if_pos hin',if_neg (fun z=>(mb.mp z).1.elim n1 n2),Int.add_zero]
  refine lc t e he _ _ ?_ ?_
  ·unfold hsg;rw[kL,decide_eq_false (fun z=>n1 z.symm),LR,Lo]
  ·unfold hsg;rw[kL,decide_eq_false (fun z=>n2 z.symm),LR,Lo]
 ·rw[if_neg hin,KA]
  by_cases hin':insT es (mk (ps++[p])) t=true
  ·have hep:e.1=p∨e.2=p:=by
    rw[jV he,bo,bo]at hin hin'
    obtain⟨i1,i2⟩:=JR.mp hin'
    rcases Jl.mp (of_decide_eq_true i1)with z1 | z1
    ·rcases Jl.mp (of_decide_eq_true i2)with z2 | z2
     ·exact absurd (by rw[decide_eq_true z1,decide_eq_true z2];rfl) hin
     ·exact .inr (Jq.mp z2)
    ·exact .inl (Jq.mp z1)
   rw[if_pos hin',if_pos (mb.mpr ⟨hep,hin'⟩)]
  ·rw[if_neg hin',if_neg fun z=>hin' (mb.mp z).2]
end
structure Bst(l:List Nat)(q:Nat->Prop) [DecidablePred q] (f:Nat->Int) (v:Pr):Prop where
 ex:∃ L∈l,q L/\f L=v.1
 lo:∀ L∈l,q L->v.1<=f L
 ct:v.2=sumL l fun L=>if q L/\f L=v.1 then 1 else 0
structure Tbl(l:List Nat)(F:Nat)(f:Nat->Int)(T:List (Nat×Pr)):Prop where
 nd:(T.map (·.1)).Nodup
 has:∀ L∈l,∃ v,(L&&&F,v)∈T
 bst:∀ s v,(s,v)∈T->Bst l (fun L=>L&&&F=s) f v
def iJ(p:Nat)(prc:Nat->Int)(T:List (Nat×Pr)):List (Nat×Pr):=T.flatMap fun e=>[(hsg e.1 p false,(e.2.1+prc (hsg e.1 p false),e.2.2)),(hsg e.1 p true,(e.2.1+prc (hsg e.1 p true),e.2.2))]
theorem pQ{p:Nat}{prc:Nat->Int}{T:List (Nat×Pr)}{z:Nat×Pr}:z∈iJ p prc T↔∃ s v b,(s,v)∈T/\z=(hsg s p b,(v.1+prc (hsg s p b),v.2)):=by
 unfold iJ
 rw[List.mem_flatMap]
 constructor
 ·rintro⟨⟨s,v⟩,h,hz⟩
  rcases Ja.mp hz with e | hz
  ·exact⟨s,v,false,h,e⟩
  ·exact⟨s,v,true,h,Jq.mp hz⟩
 ·rintro⟨s,v,b,h,rfl⟩
  refine⟨(s,v),h,?_⟩
  cases b<;>simp
theorem vf{p:Nat}{prc:Nat->Int}(g:Nat×Pr->Int):∀ T:List (Nat×Pr),sumL (iJ p prc T) g=sumL T fun e=>g (hsg e.1 p false,(e.2.1+prc (hsg e.1 p false),e.2.2))+g (hsg e.1 p true,(e.2.1+prc (hsg e.1 p true),e.2.2))
 |[]=>rfl
 |e::T=>by
  have ih:=vf (p:=p) (prc:=prc) g T
  unfold iJ at ih ⊢
  rw[Ma,kC,ih,aD,aD,aD,fO]
  omega
structure Grp(F':Nat)(Z:List (Nat×Pr))(G:List (Nat×List Pr)):Prop where
 nd:(G.map (·.1)).Nodup
 has:∀ z∈Z,∃ w,(z.1&&&F',w)∈G
 grp:∀ s w,(s,w)∈G->w=(Z.filter fun z=>decide (z.1&&&F'=s)).map (·.2)/\w≠[]
theorem G6(w:List Pr)(m:Int):tot w m=sumL w fun e=>if e.1=m then e.2 else 0:=by
 unfold tot
 show sumL (w.filter fun e=>decide (e.1=m)) (·.2)=_
 rw[Co]
 refine aF fun e _=>?_
 by_cases h:e.1=m
 ·rw[if_pos h,if_pos (decide_eq_true h)]
 ·rw[if_neg h,if_neg (by rw[decide_eq_false h];exact Jo)]
theorem yT{ps:List Nat}{p L:Nat}(b:Bool)(h:L∈lays ps):hsg L p b∈lays (ps++[p]):=by
 rw[fK]
 unfold hsg
 cases b
 ·rw[if_neg Jo,LV];exact JG _ h
 ·rw[if_pos rfl];exact Jc _ (Jj.mpr ⟨L,h,rfl⟩)
theorem Dx{ps:List Nat}{p L':Nat}(h:L'∈lays (ps++[p])):∃ L b,L∈lays ps/\L'=hsg L p b:=by
 rw[fK]at h
 rcases Jl.mp h with h | h
 ·exact⟨L',false,h,by unfold hsg;rw[if_neg Jo,LV]⟩
 ·obtain⟨L,hL,rfl⟩:=Jj.mp h
  exact⟨L,true,hL,by unfold hsg;rw[if_pos rfl]⟩
theorem E6{ps:List Nat}{p F F':Nat}{f f' prc:Nat->Int}{T:List (Nat×Pr)}{G:List (Nat×List Pr)}(h:Tbl (lays ps) F f T)(hk:∀ L∈lays ps,∀ b,hsg (L&&&F) p b&&&F'=hsg L p b&&&F')
  (hc:∀ L∈lays ps,∀ b,f' (hsg L p b)=f L+prc (hsg (L&&&F) p b)) (g:Grp F' (iJ p prc T) G):Tbl (lays (ps++[p])) F' f' (G.map fun e=>(e.1,iK e.2)) where
 nd:=by
  rw[Km]
  exact g.nd
 has:=fun L' hL'=>by
  obtain⟨L,b,hL,rfl⟩:=Dx hL'
  obtain⟨v,hv⟩:=h.has L hL
  obtain⟨w,hw⟩:=g.has _ (pQ.mpr ⟨_,v,b,hv,rfl⟩)
  rw[← hk L hL b]
  exact⟨iK w,Jj.mpr ⟨_,hw,rfl⟩⟩
 bst:=fun s' v' hv'=>by
  obtain⟨⟨s0,w⟩,hw,e⟩:=Jj.mp hv'
  obtain⟨e1,e2⟩:=Prod.mk.inj e
  simp only at e1 e2
  subst e1
  subst e2
  obtain⟨ew,hne⟩:=g.grp _ _ hw
  obtain⟨lm,ll⟩:=oO (w.map (·.1)) (fun z=>hne (List.map_eq_nil_iff.mp z))
  have b1:(iK w).1=lowL (w.map (·.1)):=rfl
  have b2:(iK w).2=tot w (iK w).1:=rfl
  rw[← b1]at lm ll
  show Bst (lays (ps++[p])) (fun L=>L&&&F'=s0) f' (iK w)
  clear b1
  generalize iK w=bw at lm ll b2 ⊢
  obtain⟨mm,cc⟩:=bw
  simp only at lm ll b2
  have inw:∀ s v b,(s,v)∈T->hsg s p b&&&F'=s0->mm<=v.1+prc (hsg s p b):=fun s v b hv hs=>by
   refine ll _ ?_
   rw[ew,Km]
   exact Jj.mpr ⟨_,JZ.mpr ⟨pQ.mpr ⟨s,v,b,hv,rfl⟩,decide_eq_true hs⟩,rfl⟩
  refine⟨?_,fun L' hL' hq=>?_,?_⟩
  ·rw[ew,Km]at lm
   obtain⟨z,hz,ez⟩:=Jj.mp lm
   obtain⟨hz1,hz2⟩:=JZ.mp hz
   obtain⟨s,v,b,hv,rfl⟩:=pQ.mp hz1
   have hz2:=of_decide_eq_true hz2
   obtain⟨L,hL,hs,hf⟩:=(h.bst s v hv).ex
   refine⟨hsg L p b,yT b hL,?_,?_⟩
   ·rw[← hk L hL b,hs];exact hz2
   ·rw[hc L hL b,hs,hf];exact ez
  ·simp only
   obtain⟨L,b,hL,rfl⟩:=Dx hL'
   obtain⟨v,hv⟩:=h.has L hL
   have q1:=inw _ v b hv (by rw[hk L hL b];exact hq)
   have q2:=(h.bst _ v hv).lo L hL rfl
   rw[hc L hL b]
   show mm<=_
   omega
  ·show cc=_
   rw[b2,G6,ew,nR,Co,vf]
   have ph:∀(e:Nat×Pr)(b:Bool),e∈T->(if decide (hsg e.1 p b&&&F'=s0)=true then(if e.2.1+prc (hsg e.1 p b)=mm then e.2.2 else 0) else 0)=sumL (lays ps) fun L=>if L&&&F=e.1 then(if hsg e.1 p b&&&F'=s0/\f L+prc (hsg e.1 p b)=mm then(1:Int) else 0) else 0:=fun e b he=>by
    have B:=h.bst e.1 e.2 he
    by_cases c1:hsg e.1 p b&&&F'=s0
    ·rw[if_pos (decide_eq_true c1)]
     have q1:=inw e.1 e.2 b he c1
     by_cases c2:e.2.1+prc (hsg e.1 p b)=mm
     ·rw[if_pos c2,B.ct]
      refine aF fun L hL=>?_
      by_cases c3:L&&&F=e.1
      ·rw[if_pos c3]
       by_cases c4:f L=e.2.1
       ·rw[if_pos ⟨c3,c4⟩,if_pos ⟨c1,by rw[c4];exact c2⟩]
       ·rw[if_neg fun z=>c4 z.2,if_neg fun z=>c4 (by have:=z.2;omega)]
      ·rw[if_neg c3,if_neg fun z=>c3 z.1]
     ·rw[if_neg c2]
      refine((aF fun L hL=>?_).trans (da _)).symm
      by_cases c3:L&&&F=e.1
      ·rw[if_pos c3,if_neg]
       intro z
       have:=B.lo L hL c3
       have:=z.2
       omega
      ·rw[if_neg c3]
    ·rw[if_neg (by rw[decide_eq_false c1];exact Jo)]
     refine((aF fun L hL=>?_).trans (da _)).symm
     by_cases c3:L&&&F=e.1
     ·rw[if_pos c3,if_neg fun z=>c1 z.1]
     ·rw[if_neg c3]
   rw[aF fun e he=>by rw[ph e false he,ph e true he,← kD],vg,E8]
   refine aF fun L hL=>?_
   obtain⟨v,hv⟩:=h.has L hL
   have q:=kB (fun e:Nat×Pr=>e.1) (l:=T) (x:=(L&&&F,v)) (fun e=>(if hsg e.1 p false&&&F'=s0/\f L+prc (hsg e.1 p false)=mm then(1:Int) else 0)+(if hsg e.1 p true&&&F'=s0/\f L+prc (hsg e.1 p true)=mm then(1:Int) else 0)) h.nd hv
   have o0:L=hsg L p false:=by unfold hsg;rw[if_neg Jo,LV]
   have o1:L|||2^p=hsg L p true:=by unfold hsg;rw[if_pos rfl]
   have r:∀ b:Bool,(if hsg (L&&&F) p b&&&F'=s0/\f L+prc (hsg (L&&&F) p b)=mm then(1:Int) else 0)=if hsg L p b&&&F'=s0/\f' (hsg L p b)=mm then(1:Int) else 0:=fun b=>by rw[hk L hL b,hc L hL b]
   have lhs:(if L&&&F'=s0/\f' L=mm then(1:Int) else 0)+(if(L|||2^p)&&&F'=s0/\f' (L|||2^p)=mm then(1:Int) else 0)=(if hsg (L&&&F) p false&&&F'=s0/\f L+prc (hsg (L&&&F) p false)=mm then(1:Int) else 0)+(if hsg (L&&&F) p true&&&F'=s0/\f L+prc (hsg (L&&&F) p true)=mm then(1:Int) else 0):=by
    rw[r false,r true,← o0,← o1]
   show _=(if L&&&F'=s0/\f' L=mm then(1:Int) else 0)+(if(L|||2^p)&&&F'=s0/\f' (L|||2^p)=mm then(1:Int) else 0)
   rw[lhs,← q]
   refine aF fun e _=>?_
   show _=if L&&&F=e.1 then _ else _
   by_cases c3:L&&&F=e.1
   ·rw[if_pos c3,if_pos c3,if_pos c3]
   ·rw[if_neg c3,if_neg c3,if_neg c3];rfl
theorem Ac{kvs:List (Key×V)}(nd:(kvs.map (·.1)).Nodup){k:Key}{v:V}(h:(k,v)∈kvs):valV kvs k=some v:=by
 induction kvs with
 |nil=>cases h
 |cons p r ih =>
  rw[JJ,JD]at nd
  rcases Ja.mp h with e | h
  ·rw[← e];exact bJ rfl
  ·have ne:¬ p.1=k:=fun z=>nd.1 (by rw[z];exact Jj.mpr ⟨_,h,rfl⟩)
   rw[bK ne]
   exact ih nd.2 h
theorem E2{kvs:List (Key×V)}{k:Key}{v:V}(h:valV kvs k=some v):∃ j:Nat,kvs[j]?=some (k,v):=by
 induction kvs with
 |nil=>cases h
 |cons p r ih =>
  by_cases e:p.1=k
  ·rw[bJ e]at h
   cases h
   exact⟨0,by rw[← e];rfl⟩
  ·rw[bK e]at h
   obtain⟨j,hj⟩:=ih h
   exact⟨j+1,hj⟩
def DcAt{α:Type}(R:V->α->Prop)(kvs:List (Key×V))(T:List (Nat×α)):Prop:=kvs.length=T.length/\∀(i:Nat)(s:Nat)(a:α),T[i]?=some (s,a)->∃ v,kvs[i]?=some ((.inl (s:Int):Key),v)/\R v a
section
variable{α:Type}{R R':V->α->Prop}{kvs:List (Key×V)}{T:List (Nat×α)}{s:Nat}{a:α}{v:V}{i:Nat}
theorem DcAt.imp(h:DcAt R kvs T)(k:∀ v a,R v a->R' v a):DcAt R' kvs T:=⟨h.1,fun i s a e=>by
 obtain⟨v,e1,e2⟩:=h.2 i s a e
 exact⟨v,e1,k v a e2⟩⟩
theorem DcAt.nil:DcAt R [] ([]:List (Nat×α)):=⟨rfl,fun i s a e=>by simp at e⟩
theorem DcAt.keys(h:DcAt R kvs T):kvs.map (·.1)=(T.map (·.1)).map fun(x:Nat)=>(Sum.inl (x:Int):Key):=by
 apply Mb
 intro i
 rw[Je,Je,Je]
 by_cases hi:i<T.length
 ·obtain⟨⟨s,a⟩,e⟩:∃ e,T[i]?=some e:=⟨_,IU hi⟩
  obtain⟨v,e1,_⟩:=h.2 i s a e
  rw[e,e1]
  rfl
 ·rw[KJ (by have:=h.1;omega),KJ (by omega)]
  rfl
theorem DR{x y:Nat}(h:(Sum.inl (x:Int):Key)=Sum.inl (y:Int)):x=y:=by
 have:=Sum.inl.inj h
 omega
theorem DcAt.nd(h:DcAt R kvs T)(n:(T.map (·.1)).Nodup):(kvs.map (·.1)).Nodup:=by
 rw[h.keys]
 exact KO.map _ (fun x y hne e=>hne (DR e)) n
theorem DcAt.atK(h:DcAt R kvs T){k:Key}(e:kvs[i]?=some (k,v)):∃(s:Nat)(a:α),k=.inl (s:Int)/\T[i]?=some (s,a)/\R v a:=by
 have hi:i<T.length:=by rw[← h.1];exact(IS.mp e).1
 obtain⟨⟨s,a⟩,e2⟩:∃ e,T[i]?=some e:=⟨_,IU hi⟩
 obtain⟨v',e3,r⟩:=h.2 i s a e2
 rw[e]at e3
 obtain⟨e4,e5⟩:=Prod.mk.inj (Js e3)
 subst e5
 exact⟨s,a,e4,e2,r⟩
theorem DcAt.val(h:DcAt R kvs T)(e:valV kvs (.inl (s:Int))=some v):∃(i:Nat)(a:α),T[i]?=some (s,a)/\kvs[i]?=some ((.inl (s:Int):Key),v)/\R v a:=by
 obtain⟨i,hi⟩:=E2 e
 obtain⟨s',a,e1,e2,r⟩:=h.atK hi
 have:=DR e1
 subst this
 exact⟨i,a,e2,hi,r⟩
theorem DcAt.no(h:DcAt R kvs T)(e:valV kvs (.inl (s:Int))=none):s∉T.map (·.1):=fun hm=>by
 have:=E1 e
 rw[h.keys]at this
 exact this (Jj.mpr ⟨s,hm,rfl⟩)
theorem DcAt.get(h:DcAt R kvs T)(n:(T.map (·.1)).Nodup)(e:(s,a)∈T):∃ v,valV kvs (.inl (s:Int))=some v/\R v a:=by
 obtain⟨i,hi⟩:=JY e
 obtain⟨v,e1,r⟩:=h.2 i s a hi
 exact⟨v,Ac (h.nd n) (IW e1),r⟩
theorem DcAt.snoc(h:DcAt R kvs T)(r:R v a):DcAt R (kvs++[((.inl (s:Int):Key),v)]) (T++[(s,a)]):=by
 refine⟨by rw[IX,IX,h.1];rfl,fun j s' a' e=>?_⟩
 by_cases hj:j<T.length
 ·rw[Jb hj]at e
  obtain⟨v',e1,r'⟩:=h.2 j s' a' e
  exact⟨v',by rw[Jb (by rw[h.1];exact hj)];exact e1,r'⟩
 ·rw[IZ (by omega)]at e
  have hj2:j=T.length:=by
   have:=(IS.mp e).1
   rw[Jg]at this
   omega
  subst hj2
  rw[JC]at e
  cases e
  exact⟨v,by rw[← h.1,IZ (IY _),JC];rfl,r⟩
theorem DcAt.putN(h:DcAt R kvs T)(e:valV kvs (.inl (s:Int))=Option.none)(r:R v a):DcAt R (putK kvs (.inl (s:Int)) v) (T++[(s,a)]):=by
 rw[sV v e]
 exact h.snoc r
end
theorem Fe{α:Type}{T:List (Nat×α)}{i s:Nat}{a a':α}(e:T[i]?=some (s,a)):(T.set i (s,a')).map (·.1)=T.map (·.1):=by
 apply Mb
 intro j
 rw[Je,Je,KC]
 by_cases hj:i=j
 ·subst hj
  rw[if_pos rfl,if_pos (IS.mp e).1,e]
  rfl
 ·rw[if_neg hj]
structure kq(S:Addr->Prop)(H:Hp)(f:Addr)(kvs:List (Key×V))(G:List (Nat×List Pr)):Prop where
 d:H f=some (.dK kvs)
 w:DcAt (fun v w=>∃ a ys,v=.ref a/\¬ S a/\H a=some (.lst ys)/\LsAt PrAt H ys w) kvs G
 ds:∀(i j:Nat)(k l:Key)(a:Addr),kvs[i]?=some (k,.ref a)->kvs[j]?=some (l,.ref a)->i=j
theorem kq.mono{S:Addr->Prop}{H H':Hp}{f:Addr}{kvs:List (Key×V)}{G:List (Nat×List Pr)}(h:kq S H f kvs G)(s:Same H H'):kq S H' f kvs G :=
 ⟨s _ _ h.d,h.w.imp fun v w ⟨a,ys,e,n,z,l⟩=>⟨a,ys,e,n,s _ _ z,l.imp fun _ _ q=>q.mono s⟩,h.ds⟩
theorem kq.more{S S':Addr->Prop}{H:Hp}{f:Addr}{kvs:List (Key×V)}{G:List (Nat×List Pr)}(h:kq S H f kvs G)(k:∀ a,H a≠none->S' a->S a):kq S' H f kvs G :=
 ⟨h.d,h.w.imp fun v w ⟨a,ys,e,n,z,l⟩=>⟨a,ys,e,fun q=>n (k a (by rw[z];exact fun y=>by cases y) q),z,l⟩,h.ds⟩
theorem PrAt.put2{H:Hp}{v:V}{p:Pr}{q:Addr}{u o:HO}(h:PrAt H v p)(hq:H q=some u)(nt:∀ xs,u≠.tup xs):PrAt (upd H q o) v p:=by
 obtain⟨t,e,z⟩:=h
 exact⟨t,e,by rw[ao (fun y=>by rw[y,hq]at z;exact nt _ (Js z))];exact z⟩
theorem kq.app{S:Addr->Prop}{H:Hp}{f:Addr}{kvs:List (Key×V)}{G:List (Nat×List Pr)}{s i:Nat}{w:List Pr}{a:Addr}{ys:List V}{x:V}{e:Pr}(h:kq S H f kvs G)(hG:G[i]?=some (s,w))(hk:kvs[i]?=some ((.inl (s:Int):Key),.ref a))(hS:¬ S a)(ha:H a=some (.lst ys))(hw:LsAt PrAt H ys w)(hx:PrAt H x e) :
  kq S (upd H a (.lst (ys++[x]))) f kvs (G.set i (s,w++[e])):=by
 have fa:f≠a:=fun z=>by have:=h.d;rw[z,ha]at this;cases this
 have up:∀ v p,PrAt H v p->PrAt (upd H a (.lst (ys++[x]))) v p:=fun v p q=>q.put2 ha (fun _ z=>by cases z)
 refine⟨by rw[ao fa];exact h.d,⟨by rw[Ku];exact h.w.1,fun j s' w' e'=>?_⟩,h.ds⟩
 rw[KC]at e'
 by_cases hj:i=j
 ·subst hj
  rw[if_pos rfl,if_pos (IS.mp hG).1]at e'
  cases e'
  exact⟨.ref a,hk,a,_,rfl,hS,ae,(hw.imp up).snoc (up _ _ hx)⟩
 ·rw[if_neg hj]at e'
  obtain⟨v,e1,b,zs,rfl,n,z,l⟩:=h.w.2 j s' w' e'
  refine⟨.ref b,e1,b,zs,rfl,n,?_,l.imp up⟩
  rw[ao (fun q=>hj (h.ds i j _ _ a hk (q▸e1)))]
  exact z
theorem kq.key{S:Addr->Prop}{H:Hp}{f l:Addr}{kvs:List (Key×V)}{G:List (Nat×List Pr)}{s:Nat}(h:kq S H f kvs G)(hv:valV kvs (.inl (s:Int))=none)(hl:H l=some (.lst []))(hS:¬ S l)(nw:∀ (i:Nat) (k:Key),kvs[i]?≠some (k,.ref l)) :
  kq S (upd H f (.dK (putK kvs (.inl (s:Int)) (.ref l)))) f (putK kvs (.inl (s:Int)) (.ref l)) (G++[(s,[])]):=by
 have lf:l≠f:=fun z=>by have:=h.d;rw[← z,hl]at this;cases this
 have up:∀ v p,PrAt H v p->PrAt (upd H f (.dK (putK kvs (.inl (s:Int)) (.ref l)))) v p:=fun v p q=>q.put2 h.d (fun _ z=>by cases z)
 have keep:∀(a:Addr)(ys:List V),H a=some (.lst ys)->(upd H f (.dK (putK kvs (.inl (s:Int)) (.ref l)))) a=some (.lst ys):=fun a ys z=>by
  rw[ao (fun q=>by have:=h.d;rw[← q,z]at this;cases this)]
  exact z
 refine⟨ae,(h.w.imp fun v w ⟨a,ys,e,n,z,l⟩=>⟨a,ys,e,n,keep a ys z,l.imp up⟩).putN hv ⟨l,[],rfl,hS,by rw[ao lf];exact hl,rfl,fun i a e=>by simp at e⟩,?_⟩
 ·rw[sV _ hv]
  intro i j k k' a e1 e2
  have one:∀(i:Nat)(k:Key)(a:Addr),(kvs++[((.inl (s:Int):Key),V.ref l)])[i]?=some (k,.ref a)->(i<kvs.length/\kvs[i]?=some (k,.ref a))∨(i=kvs.length/\a=l):=fun i k a e=>by
   by_cases hi:i<kvs.length
   ·rw[Jb hi]at e
    exact .inl ⟨hi,e⟩
   ·rw[IZ (by omega)]at e
    have hi2:i=kvs.length:=by
     have:=(IS.mp e).1
     rw[Jg]at this
     omega
    subst hi2
    rw[JC]at e
    have:=(Prod.mk.inj (Js e)).2
    exact .inr ⟨rfl,(V.ref.inj this).symm⟩
  rcases one i k a e1 with⟨a1,a2⟩ | ⟨a1,a2⟩
  ·rcases one j k' a e2 with⟨b1,b2⟩ | ⟨b1,b2⟩
   ·exact h.ds i j _ _ a a2 b2
   ·exact absurd (b2▸a2) (nw i k)
  ·rcases one j k' a e2 with⟨b1,b2⟩ | ⟨b1,b2⟩
   ·exact absurd (a2▸b2) (nw j k')
   ·omega
theorem Grp.nil(F':Nat):Grp F' [] []:=⟨Mp,fun z hz=>(by cases hz),fun s w h=>(by cases h)⟩
theorem eI{F' s:Nat}{Z:List (Nat×Pr)}{z:Nat×Pr}:((Z++[z]).filter fun z=>decide (z.1&&&F'=s)).map (·.2)=if z.1&&&F'=s then(Z.filter fun z=>decide (z.1&&&F'=s)).map (·.2)++[z.2] else(Z.filter fun z=>decide (z.1&&&F'=s)).map (·.2):=by
 rw[KS,Jy]
 by_cases c:z.1&&&F'=s
 ·have e:([z].filter fun z=>decide (z.1&&&F'=s)) = [z]:=by simp[c]
  rw[if_pos c,e];rfl
 ·have e:([z].filter fun z=>decide (z.1&&&F'=s)) = []:=by simp[c]
  rw[if_neg c,e,LO,Kv]
theorem Grp.old{F':Nat}{Z:List (Nat×Pr)}{G:List (Nat×List Pr)}{z:Nat×Pr}{i:Nat}{w:List Pr}(h:Grp F' Z G)(e:G[i]?=some (z.1&&&F',w)):Grp F' (Z++[z]) (G.set i (z.1&&&F',w++[z.2])):=by
 have hk:=Fe (a':=w++[z.2]) e
 have mem:∀ s u,(s,u)∈G.set i (z.1&&&F',w++[z.2])->(s=z.1&&&F'/\u=w++[z.2])∨(s≠z.1&&&F'/\(s,u)∈G):=fun s u hm=>by
  obtain⟨j,hj⟩:=JY hm
  rw[KC]at hj
  by_cases c:i=j
  ·subst c
   rw[if_pos rfl,if_pos (IS.mp e).1]at hj
   cases hj
   exact .inl ⟨rfl,rfl⟩
  ·rw[if_neg c]at hj
   refine .inr ⟨fun q=>c ?_,IW hj⟩
   subst q
   have n1:(G.map (·.1))[i]?=some (z.1&&&F'):=by rw[Je,e];rfl
   have n2:(G.map (·.1))[j]?=some (z.1&&&F'):=by rw[Je,hj];rfl
   obtain⟨h1,e1⟩:=IS.mp n1
   obtain⟨h2,e2⟩:=IS.mp n2
   rcases L8 i j with y | y | y
   ·exact absurd (e1.trans e2.symm) (JX.mp h.nd i j h1 h2 y)
   ·exact y
   ·exact absurd (e2.trans e1.symm) (JX.mp h.nd j i h2 h1 y)
 refine⟨by rw[hk];exact h.nd,fun y hy=>?_,fun s u hm=>?_⟩
 ·have key:y.1&&&F'∈(G.set i (z.1&&&F',w++[z.2])).map (·.1):=by
   rw[hk]
   rcases Jl.mp hy with hy | hy
   ·obtain⟨u,hu⟩:=h.has y hy
    exact Jj.mpr ⟨_,hu,rfl⟩
   ·rw[Jq.mp hy]
    exact Jj.mpr ⟨_,IW e,rfl⟩
  obtain⟨⟨s,u⟩,hu,rfl⟩:=Jj.mp key
  exact⟨u,hu⟩
 ·rcases mem s u hm with⟨rfl,rfl⟩ | ⟨ne,hu⟩
  ·rw[eI,if_pos rfl]
   obtain⟨e1,_⟩:=h.grp _ _ (IW e)
   exact⟨by rw[← e1],by simp⟩
  ·rw[eI,if_neg fun q=>ne q.symm]
   exact h.grp _ _ hu
theorem Grp.new{F':Nat}{Z:List (Nat×Pr)}{G:List (Nat×List Pr)}{z:Nat×Pr}(h:Grp F' Z G)(n:z.1&&&F'∉G.map (·.1)):Grp F' (Z++[z]) ((G++[(z.1&&&F',[])]).set G.length (z.1&&&F',[]++[z.2])):=by
 have es:(G++[(z.1&&&F',([]:List Pr))]).set G.length (z.1&&&F',[]++[z.2])=G++[(z.1&&&F',[z.2])]:=by
  rw[List.set_append_right _ _ (IY _),JC];rfl
 rw[es]
 have nof:(Z.filter fun y=>decide (y.1&&&F'=z.1&&&F')).map (·.2) = []:=by
  rw[List.map_eq_nil_iff,List.filter_eq_nil_iff]
  intro y hy c
  obtain⟨u,hu⟩:=h.has y hy
  exact n (Jj.mpr ⟨_,hu,of_decide_eq_true c⟩)
 refine⟨?_,fun y hy=>?_,fun s u hm=>?_⟩
 ·rw[Jy,Ka]
  refine⟨h.nd,by simp,fun a ha b hb e=>?_⟩
  have hb':b=z.1&&&F':=by simpa using hb
  exact n (by rw[← hb',← e];exact ha)
 ·rcases Jl.mp hy with hy | hy
  ·obtain⟨u,hu⟩:=h.has y hy
   exact⟨u,JG _ hu⟩
  ·rw[Jq.mp hy]
   exact⟨_,Jc _ (Jq.mpr rfl)⟩
 ·rw[eI]
  rcases Jl.mp hm with hu | hu
  ·have ne:¬ z.1&&&F'=s:=fun q=>n (by rw[q];exact Jj.mpr ⟨_,hu,rfl⟩)
   rw[if_neg ne]
   exact h.grp _ _ hu
  ·have hu':=Jq.mp hu
   obtain⟨e1,e2⟩:=Prod.mk.inj hu'
   subst e1
   subst e2
   rw[if_pos rfl,nof]
   exact⟨rfl,by simp⟩
theorem hJ{α:Type} [DecidableEq α]:∀{a b:List α},a.Nodup->a ⊆ b->a.length<=b.length
 |[],b,_,_=>Kc _
 |x::a,b,nd,h=>by
  rw[JD]at nd
  have hx:x∈b:=h (Jn ..)
  have:=hJ (a:=a) (b:=b.erase x) nd.2 fun y hy=>by
   have ne:y≠x:=fun e=>nd.1 (e▸hy)
   exact(List.mem_erase_of_ne ne).mpr (h (Jk _ hy))
  rw[Mt hx]at this
  have:0<b.length:=KG hx
  rw[JL]
  omega
theorem Grp.len{F':Nat}{Z:List (Nat×Pr)}{G:List (Nat×List Pr)}(h:Grp F' Z G):G.length<=Z.length/\∀ s w,(s,w)∈G->w.length<=Z.length:=by
 refine⟨?_,fun s w hm=>?_⟩
 ·have sub:(G.map (·.1)) ⊆ Z.map fun z=>z.1&&&F':=fun s hs=>by
   obtain⟨⟨s',w⟩,hw,rfl⟩:=Jj.mp hs
   obtain⟨e,ne⟩:=h.grp _ _ hw
   cases hf:Z.filter fun z=>decide (z.1&&&F'=s') with
   |nil=>rw[hf]at e;exact absurd e ne
   |cons z r =>
    have hz:z∈Z.filter fun z=>decide (z.1&&&F'=s'):=by rw[hf];exact Jn ..
    obtain⟨z1,z2⟩:=JZ.mp hz
    exact Jj.mpr ⟨z,z1,of_decide_eq_true z2⟩
  have:=hJ h.nd sub
  rwa[IV,IV]at this
 ·obtain⟨e,_⟩:=h.grp _ _ hm
  rw[e,IV]
  exact KZ _ _
theorem AA(ps:List Nat):(lays ps).length=2^ps.length:=by unfold lays;rw[IV,JH]
theorem fP:∀(n:Nat)(qs:List Nat)(s:Nat),qs.length=n->(∀ x,s.testBit x=true->x∈qs)->s∈lays qs
 |0,qs,s,hn,h=>by
  have e:qs = []:=Kx.mp hn
  subst e
  have z:s=0:=JV fun x=>by
   rw[Kg]
   cases q:s.testBit x with
   |false=>rfl
   |true=>exact absurd (h x q) (JK)
  subst z
  exact Jj.mpr ⟨0,Jx.mpr (by decide),rfl⟩
 |n+1,qs,s,hn,h=>by
  have ne:qs≠[]:=fun e=>by rw[e]at hn;cases hn
  have eq:qs.dropLast++[qs.getLast ne]=qs:=KU ne
  generalize qs.getLast ne=q at eq
  have hl:qs.dropLast.length=n:=by rw[KL,hn];rfl
  generalize qs.dropLast=r at eq hl
  subst eq
  by_cases b:s.testBit q=true
  ·have hs:s^^^2^q∈lays r:=fP n r _ hl fun x hx=>by
    rw[Nat.testBit_xor,JF]at hx
    by_cases e:q=x
    ·subst e
     rw[b]at hx
     simp at hx
    ·rw[decide_eq_false e,Bool.xor_false]at hx
     rcases Jl.mp (h x hx)with z | z
     ·exact z
     ·exact absurd (Jq.mp z).symm e
   have e:s=hsg (s^^^2^q) q true:=JV fun x=>by
    unfold hsg
    rw[kL,Nat.testBit_xor,JF]
    by_cases e:q=x
    ·subst e;rw[b];simp
    ·rw[decide_eq_false e];simp
   rw[e]
   exact yT true hs
  ·have hs:s∈lays r:=fP n r _ hl fun x hx=>by
    rcases Jl.mp (h x hx)with z | z
    ·exact z
    ·exact absurd (by rw[← Jq.mp z];exact hx) b
   have:=yT (p:=q) false hs
   unfold hsg at this
   rw[if_neg Jo,LV]at this
   exact this
theorem Tbl.len{l:List Nat}{F:Nat}{f:Nat->Int}{T:List (Nat×Pr)}{qs:List Nat}(h:Tbl l F f T)(hq:∀ x,F.testBit x=true->x∈qs):T.length<=2^qs.length:=by
 have:=hJ (b:=lays qs) h.nd fun s hs=>by
  obtain⟨⟨s',v⟩,hv,rfl⟩:=Jj.mp hs
  obtain⟨L,_,e,_⟩:=(h.bst _ v hv).ex
  refine fP _ qs _ rfl fun x hx=>hq x ?_
  have e':L&&&F=s':=e
  rw[← e',Kj]at hx
  exact(JR.mp hx).2
 rwa[IV,AA]at this
theorem uH(es:En)(pr:Nat->Nat->Int)(L:Nat):cstB es pr 0 L=0:=by
 unfold cstB
 refine(aF fun t _=>?_).trans (da _)
 rw[if_neg]
 unfold insT
 split
 ·rw[Kg];exact Jo
 ·exact Jo
theorem G7(es:En)(pr:Nat->Nat->Int):Tbl (lays []) 0 (cstB es pr (mk [])) [(0,(0,1))] where
 nd:=by simp
 has:=fun L _=>⟨(0,1),by rw[Li];exact Jq.mpr rfl⟩
 bst:=fun s v h=>by
  obtain⟨rfl,rfl⟩:=Prod.mk.inj (Jq.mp h)
  refine⟨⟨0,Jj.mpr ⟨0,Jx.mpr (by decide),rfl⟩,Li _,uH es pr 0⟩,fun L _ _=>?_,?_⟩
  ·show(0:Int)<=cstB es pr 0 L
   rw[uH];exact KD _
  ·show(1:Int)=sumL [ua [] 0] _
   rw[aD,fO,if_pos ⟨Li _,uH es pr _⟩]
   rfl
theorem Tbl.perm{l:List Nat}{F:Nat}{f:Nat->Int}{T T':List (Nat×Pr)}(h:Tbl l F f T)(nd:(T'.map (·.1)).Nodup)(k:∀ s,s∈T.map (·.1)->s∈T'.map (·.1))(i:∀ e∈T',e∈T):Tbl l F f T' where
 nd:=nd
 has:=fun L hL=>by
  obtain⟨v,hv⟩:=h.has L hL
  obtain⟨⟨s,v'⟩,h1,h2⟩:=Jj.mp (k _ (Jj.mpr ⟨_,hv,rfl⟩))
  have h2':s=L&&&F:=h2
  subst h2'
  exact⟨v',h1⟩
 bst:=fun s v hv=>h.bst s v (i _ hv)
section
variable{l:List Nat}{q:Nat->Prop} [DecidablePred q] {f:Nat->Int} {L:Nat} {v:Pr}
end
def prT(es:En)(ks:Kn)(t L:Nat):Int:=if U es ks (L:Int) t=true then stg ks t else 0
theorem CY{es:En}{ks:Kn}(kl:ks.length=es.length):Loc es (prT es ks):=fun t e he L L' h1 h2=>by
 obtain⟨k,hk⟩:∃ k,ks[t]?=some k:=⟨_,IU (by have:=(IS.mp he).1;omega)⟩
 unfold prT
 rw[U_at he hk,U_at he hk]
 unfold unp
 rw[bitN,bitN,bitN,bitN,h1,h2]
def rZ(PL PS:Addr)(H:Hp)(es:En)(ks:Kn)(xs:List V)(bk:List Nat):Prop:=xs.length=bk.length/\∀(j t:Nat),bk[j]?=some t->∃ e k p dx,es[t]?=some e/\ks[t]?=some k/\xs[j]?=some (.ref p)/\H p=some (.ins (cls PL PS (decide (k.1=1))) dx (tf ((e.1:Nat):Int) ((e.2:Nat):Int) k.2))
theorem rZ.mono{PL PS:Addr}{H H':Hp}{es:En}{ks:Kn}{xs:List V}{bk:List Nat}(h:rZ PL PS H es ks xs bk)(s:Same H H'):rZ PL PS H' es ks xs bk:=⟨h.1,fun j t z=>by
 obtain⟨e,k,p,dx,a,b,c,d⟩:=h.2 j t z
 exact⟨e,k,p,dx,a,b,c,s _ _ d⟩⟩
def A8(ts:List (List Nat))(p:Nat):List Nat:=(ts[p]?).getD []
def dq(es:En)(ts:List (List Nat))(od:List Nat)(i:Nat):List (List Nat):=(Ju i).map fun j=>jn es (mk (od.take (j+1))) (A8 ts (od.getD j 0))
theorem BV(es:En)(ts:List (List Nat))(od:List Nat)(i:Nat):dq es ts od (i+1)=dq es ts od i++[jn es (mk (od.take (i+1))) (A8 ts (od.getD i 0))]:=by
 unfold dq
 rw[LN,Jy]
 rfl
def CJ(PL PS WC:Addr):Sp:=fun vs H Q _=>∃(p o:Addr)(m:Nat)(es:En)(ts:List (List Nat))(ks:Kn)(od:List Nat),vs = [.ref p,.ref o]/\WebT PL PS WC H p m es ts ks/\ks.length=es.length/\cX m es ts/\m<=40/\es.length<=100/\H o=some (.lst ((cI od).map V.int))/\(∀ x∈od,x<m)/\od.length<=40 /\
 ∀ q zs H',Same H H'->H' q=some (.lst zs)->bq H' zs (dq es ts od od.length)->Q (.ref q) H'
def xw:Sp:=fun vs H Q _=>∃ p s:Nat,vs = [.int (p:Int),.int (s:Int)]/\p<60/\∀ q,H q=none->Q (.ref q) (upd H q (.lst [.int (s:Int),.int ((s|||2^p:Nat):Int)]))
def prcB(es:En)(ks:Kn)(bk:List Nat)(h:Nat):Int:=sumL bk fun t=>prT es ks t h
def Hf(PL PS:Addr):Sp:=fun vs H Q _=>∃(d qt:Addr)(p F:Nat)(kvs:List (Key×V))(T:List (Nat×Pr))(xs:List V)(es:En)(ks:Kn)(bk:List Nat),vs = [.ref d,.int (p:Int),.ref qt,.int (F:Int)]/\H d=some (.dK kvs)/\DcAt (PrAt H) kvs T/\(T.map (·.1)).Nodup/\T.length<=256/\p<60/\H qt=some (.lst xs)/\rZ PL PS H es ks xs bk/\bk.length<=100 /\
 ∀(g:Addr)(kv2:List (Key×V))(G:List (Nat×List Pr))(H':Hp),(∀ b o,b≠d->H b=some o->H' b=some o)->H g=none->H' g=some (.dK kv2)->Grp F (iJ p (prcB es ks bk) T) G->DcAt (PrAt H') kv2 (G.map fun e=>(e.1,iK e.2))->Q (.ref g) H'
theorem EI(p:Nat)(prc:Nat->Int)(T:List (Nat×Pr))(e:Nat×Pr):iJ p prc (T++[e])=iJ p prc T++[(hsg e.1 p false,(e.2.1+prc (hsg e.1 p false),e.2.2)),(hsg e.1 p true,(e.2.1+prc (hsg e.1 p true),e.2.2))]:=by
 unfold iJ
 rw[List.flatMap_append,Ma,List.flatMap_nil,Kv]
theorem pR(p:Nat)(prc:Nat->Int):∀ T:List (Nat×Pr),(iJ p prc T).length=2*T.length
 |[]=>rfl
 |e::T=>by
  have ih:=pR p prc T
  unfold iJ at ih ⊢
  rw[Ma,IX,ih,JL,JL,JL,K9]
  omega
theorem oM{H H':Hp}{b:Addr}(s:Same H H')(z:H' b=none):H b=none:=by
 cases y:H b with
 |none=>rfl
 |some o=>rw[s _ _ y]at z;cases z
section
variable{P:Program}{w:World}{K:IT}{mg:Str->Option Value}{base:Heap}
theorem de:aB ["web","order","found","behind","place"] ["web","order"] (ag cO):=⟨rfl,rfl,rfl,by decide +kernel,rfl,by decide +kernel,by decide +kernel⟩
theorem HW{f fw PL PS WC:Addr}{fd fdw:FuncData} (F:Fun K "ties_back" "ties_back" cO f fd) (cw:CW K WC) (TL:CT K PL) (TS:CT K PS) (G_ends_within:Cal P w K mg base 1 "ends_within" ["tie","patch"] (nU K) fw fdw):FnOk P w K mg base CX0 2 f fd ["web","order"] (CJ PL PS WC):=by
 refine F.ok de (fun vs H Q E h=>?_) (fun cdv A outer s H vs Q E hr h=>?_)
 ·obtain⟨p,o,m,es,ts,ks,od,rfl,_⟩:=h
  rfl
 obtain⟨p,o,m,es,ts,ks,od,rfl,⟨dx,fs,q1,xs,q3,z3,hp,lm,l1,h1,tk,l3,h3,rw3⟩,kl,tn,m40,e100,ho,ob,o40,kk⟩:=h
 have hxl:xs.length=es.length:=tk.1
 have ct:∀ b,CT K (cls PL PS b):=fun b=>by
  unfold cls
  split
  ·exact TS
  ·exact TL
 have ol:(cI od).length=od.length:=by unfold cI;rw[IV]
 refine⟨_,(af (ax (i:=2) de.nd rfl (Or.inl rfl) (dv ah))
   (af (ax (i:=3) de.nd rfl (Or.inr rfl) ai)
   (af (ck PassesOwn.never rfl (bc (pv 1)) (aM (i:=4) de.nd rfl (Or.inl rfl)) (af (ax (i:=3) de.nd rfl (Or.inr rfl) (aC yn (pv 3) (aC g9 ai (pv 4))))
   (ak (bR (nA JM JP JO bD (pv 2) (aa (Ap rfl (fr:=[("web",0),("behind",3)]) (xs:=["number"]) (qg.of (by rfl) (by decide +kernel) (by rfl) (by decide +kernel) (by intro p hp;simp only[Ja,JK,or_false]at hp;rcases hp with rfl | rfl<;>exact⟨rfl,rfl⟩) (by decide +kernel) (by intro p hp;simp only[Ja,JK,or_false]at hp;rcases hp with rfl | rfl<;>rfl)) (bc (aW a9 (cp (pv 0) rfl) (pv 4) (fun _ _=>rfl))) (fun C ex s H=>(aM (i:=0) (show(["number","web","behind"]:List Str).Nodup from by decide +kernel) rfl (Or.inl rfl))) (fun C ex s H=>(xW (aE lG (aG G_ends_within.ok (hr.mono (by decide)) rfl G_ends_within.mg G_ends_within.kp G_ends_within.bn .nil aZ (aa (aW (AF (K:=K) rfl) (tE (K:=K) rfl (pv 1) rfl) (pv 0) (fun _ _=>rfl)) (aa (pv 2) ah))) ai (aJ _)))) (fun C ex s H=>(pv 0))) ah))))))
   (ak (aI (pv 2)))))),?_⟩
 refine⟨(by show 0<=sizeLine;decide),fun qf hqf=>?_⟩
 have s1:=aj hqf (.lst [])
 refine⟨_,rfl,o,rfl,⟨_,SqL.of (s1 _ _ ho)⟩,cF (K:=K) (xs:=(cI od).map V.int) (fun i σ H3=>∃ v4 zs,σ = [some (.ref p),some (.ref o),some (.ref qf),some (.int ((mk (od.take i):Nat):Int)),v4]/\Same H H3/\H3 qf=some (.lst zs)/\dP (fun a=>a=qf) H3 zs (dq es ts od i)) ⟨_,[],rfl,s1,ae,rfl,fun i l e=>by simp[dq]at e⟩ (fun i σ H3 _ ⟨_,_,_,z,_⟩=>SqL.of (z _ _ ho)) ?_ ?_⟩
 ·rintro i x σ H3 hx ⟨v4,zs,rfl,s3,hf3,rx⟩
  rw[Je]at hx
  obtain⟨y,hy,rfl⟩:=Jv.mp hx
  unfold cI at hy
  rw[Je]at hy
  obtain⟨pl,hpl,rfl⟩:=Jv.mp hy
  have hb:=ob pl (IW hpl)
  have hi:i<od.length:=(IS.mp hpl).1
  have et:od.take (i+1)=od.take i++[pl]:=by rw[Jt,hpl];rfl
  have gd:od.getD i 0=pl:=by rw[J1,hpl];rfl
  refine⟨_,rfl,_,rfl,_,_,rfl,rfl,⟨by omega,by omega,by decide⟩,_,_,rfl,rfl,?_⟩
  have eo:Builtin.bitOr ((mk (od.take i):Nat):Int) (1*2^((pl:Nat):Int).toNat)=((mk (od.take (i+1)):Nat):Int):=by rw[et,yK,shlN,orN]
  obtain⟨row,hrow⟩:∃ row,ts[pl]?=some row:=⟨_,IU (by rw[tn.len];exact hb)⟩
  obtain⟨r,r1,r2⟩:=rw3.2 pl row hrow
  have era:A8 ts (od.getD i 0)=row:=by unfold A8;rw[gd,hrow];rfl
  have zl:zs.length=i:=by rw[rx.1];unfold dq;rw[IV,JH]
  have rl:row.length<=es.length:=by
   refine ic (tn.nd pl row hrow) fun t ht=>?_
   obtain⟨e,he,_⟩:=(tn.mem pl row hrow t).mp ht
   exact(IS.mp he).1
  refine⟨_,rfl,.inl ⟨rfl,_,SqL.of hf3⟩,_,rfl,p,WC,dx,fs,_,rfl,s3 _ _ hp,cw.cl,cw.n3,l3,_,rfl,q3,z3,_,_,rfl,rfl,SqL.of (s3 _ _ h3),bH r1,r,rfl,⟨_,SqL.of (s3 _ _ r2)⟩,rR (K:=K) (xs:=row.map iV) (fun j ys H4=>H4=H3/\ys=(jn es (mk (od.take (i+1))) (row.take j)).map iV) (JT (aw (by rw[IV];omega))) ⟨rfl,rfl⟩ (fun j ys H4 _ z=>by rw[z.1];exact SqL.of (s3 _ _ r2)) ?_ ?_ ?_⟩
  ·rintro j x ys H4 hx ⟨rfl,rfl⟩
   rw[Je]at hx
   obtain⟨t,ht,rfl⟩:=Jv.mp hx
   obtain⟨e,he,_⟩:=(tn.mem pl row hrow t).mp (IW ht)
   obtain⟨k,hk⟩:∃ k,ks[t]?=some k:=⟨_,IU (by have:=(IS.mp he).1;omega)⟩
   obtain⟨p',dx',x1,x2⟩:=tk.2 t e k he hk
   have etk:row.take (j+1)=row.take j++[t]:=by rw[Jt,ht];rfl
   refine⟨rfl,_,rfl,p,WC,dx,fs,_,rfl,s3 _ _ hp,cw.cl,cw.n2,l1,_,rfl,q1,xs,_,_,rfl,rfl,SqL.of (s3 _ _ h1),bH x1,_,rfl,p',_,dx',_,_,_,_,rfl,s3 _ _ x2,ct _,by omega,by omega,rfl,_,rfl,?_⟩
   have hin:(bit (Builtin.bitOr ((mk (od.take i):Nat):Int) (1*2^((pl:Nat):Int).toNat)) (e.1:Int)+bit (Builtin.bitOr ((mk (od.take i):Nat):Int) (1*2^((pl:Nat):Int).toNat)) (e.2:Int)=2)↔insT es (mk (od.take (i+1))) t=true:=by
    rw[eo,bitN,bitN,jV he]
    cases (mk (od.take (i+1))).testBit e.1<;>cases (mk (od.take (i+1))).testBit e.2<;>decide
   refine ite2 (fun c=>?_) (fun c=>?_)
   ·have c':=hin.mp (V.int.inj (of_decide_eq_true c))
    refine⟨_,rfl,rfl,?_⟩
    unfold jn
    rw[etk,KS,LG c',Jy]
    rfl
   ·have c':¬ insT es (mk (od.take (i+1))) t=true:=fun z=>c (decide_eq_true (congrArg V.int (hin.mpr z)))
    refine⟨rfl,?_⟩
    unfold jn
    rw[etk,KS,LH c',List.filter_nil,Kv]
  ·rintro ys H4 ⟨rfl,rfl⟩ D hD
   rw[IV,JA]
   have Dq:D≠qf:=fun z=>by rw[z,hf3]at hD;cases hD
   have s4:=aj hD (.lst ((jn es (mk (od.take (i+1))) row).map iV))
   refine⟨qf,zs,_,rfl,rfl,s4 _ _ hf3,aw (by omega),?_⟩
   refine⟨some (.int (pl:Int)),zs++[.ref D],?_,bb (s3.trans s4) hqf _,ae,?_⟩
   ·show[some (V.ref p),some (V.ref o),some (V.ref qf),some (V.int (Builtin.bitOr ((mk (od.take i):Nat):Int) (1*2^((pl:Nat):Int).toNat))),some (V.int (pl:Int))]=_
    rw[eo]
   ·rw[BV,era]
    have r0:dP (fun a=>a=qf) (upd (upd H4 D (.lst ((jn es (mk (od.take (i+1))) row).map iV))) qf (.lst (zs++[.ref D]))) zs (dq es ts od i):=⟨rx.1,fun j l e=>by
     obtain⟨a,a1,a2,a3⟩:=rx.2 j l e
     exact⟨a,a1,a2,by rw[ao a2];exact s4 _ _ a3⟩⟩
    exact r0.snoc Dq (by rw[ao Dq];exact ae)
  ·rintro j ys H4 ⟨_,rfl⟩
   rw[IV]
   unfold jn
   exact JS (KZ _ _) (by rw[JE];exact Nat.min_le_left _ _)
 ·rintro σ H3 ⟨v4,zs,rfl,s3,hf3,rx⟩
  rw[IV,ol]at rx
  exact⟨_,rfl,kk qf zs H3 s3 hf3 rx.off⟩
theorem sR:aB ["place","signs"] ["place","signs"] (ag b8):=⟨rfl,rfl,rfl,by decide +kernel,rfl,by decide +kernel,by decide +kernel⟩
theorem Fx{f:Addr}{fd:FuncData} (F:Fun K "signs_with" "signs_with" b8 f fd):FnOk P w K mg base CX0 1 f fd ["place","signs"] xw:=by
 refine F.ok sR (fun vs H Q E h=>?_) (fun cdv A outer s H vs Q E hr h=>?_)
 ·obtain⟨p,sg,rfl,_⟩:=h
  rfl
 obtain⟨p,sg,rfl,hp,kk⟩:=h
 refine⟨_,(ak (aI (dv (aa (pv 1) (aa (aC yn (pv 1) (aC g9 ai (pv 0))) ah))))),?_⟩
 refine⟨_,rfl,_,rfl,_,rfl,_,_,rfl,rfl,⟨by omega,by omega,by decide⟩,_,_,rfl,rfl,(by show 2<=sizeLine;decide),fun q hq=>?_⟩
 have eo:Builtin.bitOr (sg:Int) (1*2^((p:Nat):Int).toNat)=((sg|||2^p:Nat):Int):=by rw[shlN,orN]
 have:=kk q hq
 rw[← eo]at this
 exact this
theorem er:aB ["entries","low"] ["entries"] (ag aQ):=⟨rfl,rfl,rfl,by decide +kernel,rfl,by decide +kernel,by decide +kernel⟩
theorem ok_ct{f:Addr}{fd:FuncData} (F:Fun K "counted_together" "counted_together" aQ f fd) (T:Txt mg):FnOk P w K mg base CX0 1 f fd ["entries"] (spCT K):=by
 refine F.ok er (fun vs H Q E h=>?_) (fun cdv A outer s H vs Q E hr h=>?_)
 ·obtain⟨v,es,rfl,_⟩:=h
  rfl
 obtain⟨v,es,rfl,⟨a,xs,rfl,hA,hL⟩,hne,hlen,kk⟩:=h
 refine⟨_,(af (ax (i:=1) er.nd rfl (Or.inr rfl) (aq (ED rfl) (by rfl) T.n_min bt_min (aa (eA rfl (fr:=[]) (by exact bI.plain (by rfl) (by decide +kernel) (by rfl) (by decide +kernel) (by rfl) (by decide +kernel)) (bc (pv 0)) (fun C ex s H=>(aW (o5 (K:=K) rfl) (pv 0) ai (fun _ _=>rfl)))) ah)))
   (ak (aI (gN (aa (pv 1) (aa (aq (lp rfl) (by rfl) T.n_sum wU (aa (Ap rfl (fr:=[("low",1)]) (xs:=["entry"]) (qg.of (by rfl) (by decide +kernel) (by rfl) (by decide +kernel) (by intro p hp;simp only[Ja,JK,or_false]at hp;rcases hp with rfl<;>exact⟨rfl,rfl⟩) (by decide +kernel) (by intro p hp;simp only[Ja,JK,or_false]at hp;rcases hp with rfl<;>rfl)) (bc (pv 0)) (fun C ex s H=>(aM (i:=0) (show(["entry","low"]:List Str).Nodup from by decide +kernel) rfl (Or.inl rfl))) (fun C ex s H=>(xW (aE lG (aW (o5 (K:=K) rfl) (pv 0) ai (fun _ _=>rfl)) (pv 1) (aJ _)))) (fun C ex s H=>(aW (o5 (K:=K) rfl) (pv 0) ai (fun _ _=>rfl)))) ah)) ah)))))),?_⟩
 have hxl:xs.length=es.length:=hL.1
 have hS:SqL K H a xs:=SqL.of hA
 refine⟨_,rfl,a,rfl,⟨_,hS⟩,dg (K:=K) (xs:=xs) (fun i zs H2=>Same H H2/\zs=((es.take i).map (·.1)).map V.int) (JT (aw (by omega))) ⟨fun _ _ e=>e,rfl⟩ (fun i zs H2 _ z=>z.1.seq hS) ?_ ?_⟩
 ·rintro i x zs H2 hx ⟨s2,rfl⟩
  obtain⟨p,hp,t,rfl,ht⟩:=hL.get hx
  refine⟨_,rfl,t,_,0,_,rfl,rfl,SqT.of (s2 _ _ ht),at0,s2,?_⟩
  rw[Jt,hp,Jy,Jy]
  rfl
 rintro zs H2 _ ⟨s2,rfl⟩ D hD
 rw[hxl,JA]
 have s3:=s2.trans (aj hD (.lst ((es.map (·.1)).map V.int)))
 refine⟨D,es.map (·.1),rfl,SqL.of ae,?_,fun m hm hl=>?_⟩
 ·rw[IV];exact List.length_pos_iff.mpr hne
 have em:=Ii hm hl
 subst em
 have hS3:=s3.seq hS
 have hL3:LsAt PrAt (upd H2 D (.lst ((es.map (·.1)).map V.int))) xs es:=hL.imp fun _ _ q=>q.mono s3
 generalize upd H2 D (.lst ((es.map (·.1)).map V.int))=H3 at s3 hS3 hL3
 generalize hlo:lowL (es.map (·.1))=lo
 refine⟨_,rfl,_,rfl,a,rfl,⟨_,hS3⟩,rR (K:=K) (xs:=xs) (fun i zs H4=>Same H3 H4/\zs=(((es.take i).filter fun e=>decide (e.1=lo)).map (·.2)).map V.int) (JT (aw (by omega))) ⟨fun _ _ e=>e,rfl⟩ (fun i zs H4 _ z=>z.1.seq hS3) ?_ ?_ ?_⟩
 ·rintro i x zs H4 hx ⟨s4,rfl⟩
  obtain⟨p,hp,t,rfl,ht⟩:=hL3.get hx
  have et:es.take (i+1)=es.take i++[p]:=by rw[Jt,hp];rfl
  refine⟨rfl,_,rfl,t,_,0,_,rfl,rfl,SqT.of (s4 _ _ ht),at0,_,rfl,rfl,_,rfl,?_⟩
  refine ite2 (fun c=>?_) (fun c=>?_)
  ·have c':p.1=lo:=V.int.inj (of_decide_eq_true c)
   refine⟨_,rfl,t,_,1,_,rfl,rfl,SqT.of (s4 _ _ ht),at1,s4,?_⟩
   rw[et,KS,LG (by exact decide_eq_true c'),Jy,Jy]
   rfl
  ·have c':¬ p.1=lo:=fun z=>c (decide_eq_true (congrArg V.int z))
   refine⟨s4,?_⟩
   rw[et,KS,LH (by simpa using c'),List.filter_nil,Kv]
 ·rintro zs H4 ⟨s4,rfl⟩ D2 hD2
  rw[hxl,JA]
  refine⟨D2,_,rfl,SqL.of ae,(by show 2<=sizeLine;decide),fun t ht=>?_⟩
  refine kk _ _ (s3.trans (s4.trans ((aj hD2 _).trans (aj ht _)))) ⟨t,rfl,?_⟩
  unfold iK tot
  rw[hlo]
  exact ae
 ·rintro i zs H4 ⟨_,rfl⟩
  rw[IV,IV]
  exact JS (KZ _ _) (by rw[JE];omega)
theorem aN:aB ["entries","place","ties","front","found","signs","entry","here","low","together"] ["entries","place","ties","front"] (ag ba):=⟨rfl,rfl,rfl,by decide +kernel,rfl,by decide +kernel,by decide +kernel⟩
theorem ok_ent{f f1 f2 f0' f1' PL PS:Addr}{fd d1 d2 d0' d1':FuncData} (F:Fun K "entries_behind" "entries_behind" ba f fd) (T:Txt mg) (TL:CT K PL) (TS:CT K PS) (r0:Met P w K mg base 3 PL "price" ["self","laying"] (oa PL false) f0' d0') (r1:Met P w K mg base 3 PS "price" ["self","laying"] (oa PS true) f1' d1')
  (G_signs_with:Cal P w K mg base 1 "signs_with" ["place","signs"] xw f1 d1) (G_counted_together:Cal P w K mg base 1 "counted_together" ["entries"] (spCT K) f2 d2):FnOk P w K mg base CX0 4 f fd ["entries","place","ties","front"] (Hf PL PS):=by
 refine F.ok aN (fun vs H Q E h=>?_) (fun cdv A outer s H vs Q E hr h=>?_)
 ·obtain⟨d,qt,p,Fr,kvs,T,xs,es,ks,bk,rfl,_⟩:=h
  rfl
 obtain⟨d,qt,p,Fr,kvs,Tt,xs,es,ks,bk,rfl,hd,dc,nd,l256,hp,hqt,tr,b100,kk⟩:=h
 have hu:=FU hr
 have CL0:=TL.cl
 have CL1:=TS.cl
 have kvl:kvs.length=Tt.length:=dc.1
 refine⟨_,(af (ax (i:=4) aN.nd rfl (Or.inl rfl) nV)
   (af (ck PassesOwn.never rfl (Fm (pe_bm0 Mw Mv PySem.F.type_dict_items FD (pv 0))) (vF rfl (cB (aM (i:=5) aN.nd rfl (Or.inl rfl)) (cB (aM (i:=6) aN.nd rfl (Or.inl rfl)) oy))) (ak (ck PassesOwn.never rfl (bc (aG G_signs_with.ok (hr.mono (by decide)) rfl G_signs_with.mg G_signs_with.kp G_signs_with.bn .nil aZ (aa (pv 1) (aa (pv 5) ah)))) (aM (i:=7) aN.nd rfl (Or.inr rfl)) (af (ax (i:=8) aN.nd rfl (Or.inl rfl) (aC cL (aW bT (pv 6) ai (fun _ _=>rfl)) (aq (lp rfl) (by rfl) T.n_sum wU (aa (eA rfl (fr:=[("here",7)]) (by exact bI.one (by rfl) (by decide +kernel) (by rfl) (by decide +kernel) (by rfl) (by decide +kernel) (by rfl) (by rfl) (by decide +kernel) (by rfl)) (bc (pv 2)) (fun C ex s H=>(pe_or (yj (pv 0) CL0 r0.me r0.ok (hr.mono (by decide)) r0.bn .nil aZ (aa (pv 1) ah)) (yj (pv 0) CL1 r1.me r1.ok (hr.mono (by decide)) r1.bn .nil aZ (aa (pv 1) ah))))) ah))))
   (ak (bR (nA JM JP JO bD (Hz (pv 4) (aC oE (pv 7) (pv 3)) (dv ah) ⟨rfl,rfl,rfl,rfl⟩) (aa (gN (aa (pv 8) (aa (aW bT (pv 6) ai (fun _ _=>rfl)) ah))) ah))))))))
   (af (ax (i:=9) aN.nd rfl (Or.inl rfl) nV)
   (af (ck PassesOwn.never rfl (Hy (pv 4)) (aM (i:=5) aN.nd rfl (Or.inl rfl)) (ak (xY hu (pv 9) (pv 5) (aG G_counted_together.ok (hr.mono (by decide)) rfl G_counted_together.mg G_counted_together.kp G_counted_together.bn .nil aZ (aa (oA hu (pv 4) (pv 5) (fun _ _=>rfl)) ah)) rfl)))
   (ak (aI (pv 9))))))),?_⟩
 intro f hf
 have sf:=aj hf (.dK [])
 refine⟨_,rfl,.inr (.inr (.inl ⟨rfl,.inl ⟨_,sf _ _ hd⟩⟩)),d,.dK kvs,rfl,rfl,sf _ _ hd,trivial,fun vw hvw=>?_⟩
 have sv:=aj hvw (mT vw d)
 refine⟨vw,d,.dK kvs,rfl,ae,sv _ _ (sf _ _ hd),trivial,fun o=>?_⟩
 have fd':f≠d:=fun z=>by rw[z,hd]at hf;cases hf
 have vwd:vw≠d:=fun z=>by rw[z,sf _ _ hd]at hvw;cases hvw
 have vwf:vw≠f:=fun z=>by rw[z,ae]at hvw;cases hvw
 have hvw0:H vw=none:=oM sf hvw
 obtain⟨B,hB⟩:∃ B:Hp,B=upd (upd H vw (mT vw d)) d (.frz o (.dK kvs)):=⟨_,rfl⟩
 have Bd:B d=some (.frz o (.dK kvs)):=by rw[hB];exact ae
 have Bf:B f=none:=by rw[hB,ao fd',ao (Ne.symm vwf)];exact hf
 have HB:∀ b u,b≠d->H b=some u->B b=some u:=fun b u n z=>by rw[hB,ao n,ao (az z hvw0)];exact z
 have sB:Same B (upd (upd (upd H f (.dK [])) vw (mT vw d)) d (.frz o (.dK kvs))):=fun b u z=>by
  rw[hB]at z
  by_cases n:b=d
  ·subst n;rw[ae]at z ⊢;exact z
  ·rw[ao n]at z ⊢
   by_cases n2:b=vw
   ·subst n2;rw[ae]at z ⊢;exact z
   ·rw[ao n2]at z ⊢
    rw[ao (az z hf)]
    exact z
 have hf3:(upd (upd (upd H f (.dK [])) vw (mT vw d)) d (.frz o (.dK kvs))) f=some (.dK []):=by rw[ao fd',ao (Ne.symm vwf)];exact ae
 generalize upd (upd (upd H f (.dK [])) vw (mT vw d)) d (.frz o (.dK kvs))=H3 at sB hf3
 have trB:rZ PL PS B es ks xs bk:=⟨tr.1,fun j t z=>by
  obtain⟨e,k,p',dx,a,b,c,q⟩:=tr.2 j t z
  exact⟨e,k,p',dx,a,b,c,HB _ _ (fun y=>by rw[y,hd]at q;cases q) q⟩⟩
 have qtB:B qt=some (.lst xs):=HB _ _ (fun y=>by rw[y,hd]at hqt;cases hqt) hqt
 have dcB:DcAt (PrAt B) kvs Tt:=dc.imp fun v e ⟨t,e1,e2⟩=>⟨t,e1,HB _ _ (fun y=>by rw[y,hd]at e2;cases e2) e2⟩
 clear hB
 have xsl:xs.length<=100:=by rw[tr.1];exact b100
 refine D6 (u:=.dK kvs) (d:=d) (o:=o) (fun i σ H4=>∃ v5 v6 v7 v8 v9 kv G,σ = [some (.ref d),some (.int (p:Int)),some (.ref qt),some (.int (Fr:Int)),some (.ref f),v5,v6,v7,v8,v9]/\Same B H4/\kq (fun a=>B a≠none) H4 f kv G/\Grp Fr (iJ p (prcB es ks bk) (Tt.take i)) G) ⟨_,_,_,_,_,[],[],rfl,sB,⟨hf3,DcAt.nil,fun i j k l a e=>by simp at e⟩,Grp.nil Fr⟩ (fun i σ H4 _ z=>?_) ?_ ?_
 ·obtain⟨_,_,_,_,_,_,_,_,z,_⟩:=z
  exact z _ _ Bd
 ·rintro i x y σ H4 T4 hi hkv ⟨v5,v6,v7,v8,v9,kv,G,rfl,s4,fn,gr⟩ hT4
  obtain⟨kvs',k,eu,hki,ex⟩:∃ kvs' k,HO.dK kvs=HO.dK kvs'/\kvs'[i]?=some (k,y)/\x=kV k:=by
   rcases hkv with z | ⟨_,_,_,z,_⟩
   ·exact z
   ·cases z
  obtain rfl:=HO.dK.inj eu
  obtain⟨sg,pv,rfl,hTi,t,rfl,htB⟩:=dcB.atK hki
  subst ex
  have eti:Tt.take (i+1)=Tt.take i++[(sg,pv)]:=by rw[Jt,hTi];rfl
  have s5:=aj hT4 (.tup [kV (.inl (sg:Int)),.ref t])
  refine⟨T4,_,rfl,SqT.of ae,rfl,_,_,rfl,_,_,rfl,rfl,?_⟩
  have fn5:=fn.mono s5
  have s45:=s4.trans s5
  generalize upd H4 T4 (.tup [kV (.inl (sg:Int)),.ref t])=H5 at s5 fn5 s45
  refine⟨_,rfl,_,rfl,p,sg,rfl,hp,fun q hq=>?_⟩
  have s6:=aj hq (.lst [.int (sg:Int),.int ((sg|||2^p:Nat):Int)])
  have Bq:B q=none:=oM s45 hq
  obtain⟨two,htwo⟩:∃ two:List (Nat×Pr),two = [(hsg sg p false,(pv.1+prcB es ks bk (hsg sg p false),pv.2)),(hsg sg p true,(pv.1+prcB es ks bk (hsg sg p true),pv.2))]:=⟨_,rfl⟩
  have ebr:iJ p (prcB es ks bk) (Tt.take (i+1))=iJ p (prcB es ks bk) (Tt.take i)++two:=by rw[eti,EI,htwo]
  have zlen:(iJ p (prcB es ks bk) (Tt.take i)).length<=512:=by rw[pR,JE];omega
  have fn6:kq (fun a=>B a≠none∨a=q) (upd H5 q (.lst [.int (sg:Int),.int ((sg|||2^p:Nat):Int)])) f kv G:=by
   have:=fn5.more (S':=fun a=>B a≠none∨a=q) fun a ha hz=>hz.elim id fun z=>absurd (z▸hq) ha
   exact this.mono s6
  refine⟨q,rfl,⟨_,SqL.of ae⟩,cF (K:=K) (xs:=[.int (sg:Int),.int ((sg|||2^p:Nat):Int)]) (fun j σ H6=>∃ v7 v8 kv G,σ = [some (.ref d),some (.int (p:Int)),some (.ref qt),some (.int (Fr:Int)),some (.ref f),some (.int (sg:Int)),some (.ref t),v7,v8,v9]/\Same B H6/\H6 q=some (.lst [.int (sg:Int),.int ((sg|||2^p:Nat):Int)])/\kq (fun a=>B a≠none∨a=q) H6 f kv G/\Grp Fr (iJ p (prcB es ks bk) (Tt.take i)++two.take j) G) ⟨_,_,kv,G,rfl,s45.trans s6,ae,fn6,by rw[Lz,Kv];exact gr⟩ (fun j σ H6 _ ⟨_,_,_,_,_,_,z,_⟩=>SqL.of z) ?_ ?_⟩
  ·rintro j x σ H6 hx ⟨w7,w8,kv',G',rfl,s6',hq6,fn',gr'⟩
   obtain⟨hv,e2,rfl⟩:∃ hv:Nat,two[j]?=some (hv,(pv.1+prcB es ks bk hv,pv.2))/\x=.int (hv:Int):=by
    match j,hx with
    |0,hx=>exact⟨hsg sg p false,by rw[htwo];rfl,by cases hx;unfold hsg;rw[if_neg Jo,LV]⟩
    |1,hx=>exact⟨hsg sg p true,by rw[htwo];rfl,by cases hx;unfold hsg;rw[if_pos rfl]⟩
    |j+2,hx=>cases hx
   have etw:two.take (j+1)=two.take j++[(hv,(pv.1+prcB es ks bk hv,pv.2))]:=by rw[Jt,e2];rfl
   have jl:j<2:=by
    have:=(IS.mp hx).1
    exact this
   have zl2:(iJ p (prcB es ks bk) (Tt.take i)++two.take j).length<=514:=by rw[IX,JE];omega
   have gl:=gr'.len
   have kvl':kv'.length=G'.length:=fn'.w.1
   refine⟨_,rfl,t,_,0,_,rfl,rfl,SqT.of (s6' _ _ htB),at0,_,rfl,qt,rfl,⟨_,SqL.of (s6' _ _ qtB)⟩,dg (K:=K) (xs:=xs) (fun i ys H7=>H7=H6/\ys=((bk.take i).map fun t=>prT es ks t hv).map V.int) (JT (aw (by omega))) ⟨rfl,rfl⟩ (fun i ys H7 _ z=>by rw[z.1];exact SqL.of (s6' _ _ qtB)) ?_ ?_⟩
   ·rintro n x ys H7 hx' ⟨rfl,rfl⟩
    obtain⟨tn,htn⟩:∃ tn,bk[n]?=some tn:=⟨_,IU (by rw[← tr.1];exact(IS.mp hx').1)⟩
    obtain⟨e,k,p',dx',he,hk,x1,x2⟩:=(trB.mono s6').2 n tn htn
    rw[hx']at x1
    cases x1
    have hU:=U_at (l:=(hv:Int)) he hk
    have hs:stg ks tn=k.2:=by unfold stg;rw[hk]
    have tail:∀ v:Int,v=prT es ks tn hv->H7=H7/\((bk.take n).map fun t=>prT es ks t hv).map V.int++[V.int v]=((bk.take (n+1)).map fun t=>prT es ks t hv).map V.int:=fun v hv'=>by
     rw[Jt,htn,hv',Jy,Jy]
     exact⟨rfl,rfl⟩
    by_cases c:k.1=1
    ·rw[decide_eq_true c]at x2 hU
     refine .inr ⟨_,rfl,p',dx',_,rfl,x2,E5 _ _ _ (by decide +kernel) (by decide +kernel) (by decide +kernel),_,rfl,p',_,_,_,(hv:Int),rfl,⟨dx',x2⟩,by omega,by omega,?_⟩
     exact tail _ (by unfold prT;rw[hU,hs])
    ·rw[decide_eq_false c]at x2 hU
     refine .inl ⟨_,rfl,p',dx',_,rfl,x2,E5 _ _ _ (by decide +kernel) (by decide +kernel) (by decide +kernel),_,rfl,p',_,_,_,(hv:Int),rfl,⟨dx',x2⟩,by omega,by omega,?_⟩
     exact tail _ (by unfold prT;rw[hU,hs])
   rintro ys H7 _ ⟨rfl,rfl⟩ D hD
   rw[tr.1,JA]
   have s7:=aj hD (.lst ((bk.map fun t=>prT es ks t hv).map V.int))
   refine⟨D,_,rfl,SqL.of ae,_,_,rfl,rfl,?_⟩
   have fn7:=fn'.mono s7
   have s67:=s6'.trans s7
   have hq7:=s7 _ _ hq6
   generalize upd H7 D (.lst ((bk.map fun t=>prT es ks t hv).map V.int))=H8 at s7 fn7 s67 hq7
   have ek:V.int (Builtin.bitAnd (hv:Int) (Fr:Int))=kV (.inl ((hv&&&Fr:Nat):Int)):=congrArg V.int (andN hv Fr)
   have elow:pv.1+(bk.map fun t=>prT es ks t hv).sum=pv.1+prcB es ks bk hv:=rfl
   refine⟨_,rfl,f,rfl,.inl ⟨_,.inl fn7.d⟩,_,rfl,_,rfl,_,_,rfl,rfl,(by show 0<=sizeLine;decide),fun l hl=>?_⟩
   have s8:=aj hl (.lst [])
   have fn8:=fn7.mono s8
   have Bl:B l=none:=oM s67 hl
   have nlq:l≠q:=fun z=>by rw[z,hq7]at hl;cases hl
   refine⟨kv',_,fn8.d,ek,aw (by omega),fun u hu'=>?_,fun hn=>?_⟩
   ·obtain⟨n,wr,hG,hk,a,ys,rfl,nS,ha,hw⟩:=fn8.w.val hu'
    refine⟨.inl ⟨rfl,_,SqL.of ha⟩,_,rfl,_,rfl,t,_,1,_,rfl,rfl,SqT.of ((s67.trans s8) _ _ htB),at1,(by show 2<=sizeLine;decide),fun tt htt=>?_⟩
    have s9:=aj htt (.tup [.int (pv.1+(bk.map fun t=>prT es ks t hv).sum),.int pv.2])
    have fn9:=fn8.mono s9
    have yl:ys.length<=514:=by
     rw[hw.1]
     exact JS (gl.2 _ _ (IW hG)) zl2
    refine⟨a,ys,_,rfl,rfl,s9 _ _ ha,aw (by omega),?_⟩
    refine⟨some (.int (hv:Int)),some (.int (pv.1+(bk.map fun t=>prT es ks t hv).sum)),kv',_,rfl,?_,?_,fn9.app hG hk nS (s9 _ _ ha) (hw.imp fun _ _ q=>q.mono s9) (e:=(pv.1+prcB es ks bk hv,pv.2)) ⟨tt,rfl,ae⟩,?_⟩
    ·exact fun b u z=>by
      rw[ao (fun y=>nS (.inl (by rw[← y,z];exact fun q=>by cases q)))]
      exact((s67.trans s8).trans s9) _ _ z
    ·rw[ao (fun y=>nS (.inr y.symm))]
     exact(s8.trans s9) _ _ hq7
    ·rw[etw,← LB]
     exact gr'.old hG
   ·have nw:∀(i:Nat)(k:Key),kv'[i]?≠some (k,.ref l):=fun n k z=>by
     obtain⟨_,_,_,_,a,ys,e,_,ha,_⟩:=fn7.w.atK z
     cases e
     rw[ha]at hl
     cases hl
    have fk:=fn8.key hn ae (fun z=>z.elim (fun y=>y Bl) nlq) nw
    have lf:l≠f:=fun z=>by rw[z,fn7.d]at hl;cases hl
    have hl9:(upd (upd H8 l (.lst [])) f (.dK (putK kv' (.inl ((hv&&&Fr:Nat):Int)) (.ref l)))) l=some (.lst []):=by rw[ao lf];exact ae
    have nG:hv&&&Fr∉G'.map (·.1):=fn8.w.no hn
    have hf8:=fn8.d
    have s9:Same B (upd (upd H8 l (.lst [])) f (.dK (putK kv' (.inl ((hv&&&Fr:Nat):Int)) (.ref l)))):=bb (s67.trans s8) Bf _
    have hq9:(upd (upd H8 l (.lst [])) f (.dK (putK kv' (.inl ((hv&&&Fr:Nat):Int)) (.ref l)))) q=some (.lst [.int (sg:Int),.int ((sg|||2^p:Nat):Int)]):=by
     rw[ao (fun y=>by rw[← y,s8 _ _ hq7]at hf8;cases hf8)]
     exact s8 _ _ hq7
    have kG:(putK kv' (.inl ((hv&&&Fr:Nat):Int)) (.ref l))[G'.length]?=some ((.inl ((hv&&&Fr:Nat):Int):Key),.ref l):=by
     rw[sV _ hn,← kvl',IZ (IY _),JC];rfl
    generalize upd (upd H8 l (.lst [])) f (.dK (putK kv' (.inl ((hv&&&Fr:Nat):Int)) (.ref l)))=H9 at fk hl9 s9 hq9
    refine⟨.inl ⟨rfl,_,SqL.of hl9⟩,_,rfl,_,rfl,t,_,1,_,rfl,rfl,SqT.of (s9 _ _ htB),at1,(by show 2<=sizeLine;decide),fun tt htt=>?_⟩
    have sA:=aj htt (.tup [.int (pv.1+(bk.map fun t=>prT es ks t hv).sum),.int pv.2])
    have fnA:=fk.mono sA
    refine⟨l,[],_,rfl,rfl,sA _ _ hl9,(by show 0<sizeLine;decide),?_⟩
    have hG:(G'++[(hv&&&Fr,([]:List Pr))])[G'.length]?=some (hv&&&Fr,[]):=by rw[IZ (IY _),JC];rfl
    refine⟨some (.int (hv:Int)),some (.int (pv.1+(bk.map fun t=>prT es ks t hv).sum)),_,_,rfl,?_,?_,fnA.app hG kG (fun z=>z.elim (fun y=>y Bl) nlq) (sA _ _ hl9) ⟨rfl,fun i x e=>by simp at e⟩ (e:=(pv.1+prcB es ks bk hv,pv.2)) ⟨tt,rfl,ae⟩,?_⟩
    ·exact bb (s9.trans sA) Bl _
    ·rw[ao (Ne.symm nlq)]
     exact sA _ _ hq9
    ·rw[etw,← LB]
     exact gr'.new (z:=(hv,(pv.1+prcB es ks bk hv,pv.2))) nG
  ·rintro σ H6 ⟨w7,w8,kv',G',rfl,s6',hq6,fn',gr'⟩
   refine⟨_,_,_,_,_,kv',G',rfl,s6',fn'.more fun a _ z=>.inl z,?_⟩
   rw[ebr]
   have e2:two.take [V.int (sg:Int),V.int ((sg|||2^p:Nat):Int)].length=two:=by rw[htwo];rfl
   rw[e2]at gr'
   exact gr'
 rintro σ H4 ⟨v5,v6,v7,v8,v9,kv,G,rfl,s4,fn,gr⟩
 have etk:Tt.take (dlen (.dK kvs))=Tt:=by
  show Tt.take kvs.length=Tt
  rw[kvl,JA]
 rw[etk]at gr
 have gl:=gr.len
 rw[pR]at gl
 have kvl':kv.length=G.length:=fn.w.1
 intro g hg
 have sg':=aj hg (.dK [])
 refine⟨_,rfl,f,kv,rfl,sg' _ _ fn.d,fun o2=>?_⟩
 have gf:g≠f:=fun z=>by rw[z,fn.d]at hg;cases hg
 obtain⟨C,hC⟩:∃ C:Hp,C=upd H4 f (.frz o2 (.dK kv)):=⟨_,rfl⟩
 have Cf:C f=some (.frz o2 (.dK kv)):=by rw[hC];exact ae
 have Cg:C g=none:=by rw[hC,ao gf];exact hg
 have HC:∀ b u,b≠f->H4 b=some u->C b=some u:=fun b u n z=>by rw[hC,ao n];exact z
 have sC:Same C (upd (upd H4 g (.dK [])) f (.frz o2 (.dK kv))):=fun b u z=>by
  rw[hC]at z
  by_cases n:b=f
  ·subst n;rw[ae]at z ⊢;exact z
  ·rw[ao n]at z ⊢
   rw[ao (az z hg)]
   exact z
 have g6:(upd (upd H4 g (.dK [])) f (.frz o2 (.dK kv))) g=some (.dK []):=by rw[ao gf];exact ae
 generalize upd (upd H4 g (.dK [])) f (.frz o2 (.dK kv))=H6 at sC g6
 have fnC:DcAt (fun v w=>RwAt C v w) kv G:=fn.w.imp fun v w ⟨a,ys,e,_,z,l⟩=>⟨a,ys,e,HC _ _ (fun y=>by have:=fn.d;rw[← y,z]at this;cases this) z,l.imp fun y x ⟨t,e1,e2⟩=>⟨t,e1,HC _ _ (fun y=>by have:=fn.d;rw[← y,e2]at this;cases this) e2⟩⟩
 have HH:∀ b u,b≠d->H b=some u->C b=some u:=fun b u n z=>HC b u (az z hf) (s4 _ _ (HB b u n z))
 have ndG:=gr.nd
 have ndk:=fn.w.nd ndG
 clear hC
 refine F2 (kvs:=kv) (d:=f) (o:=o2) (fun i σ H7=>∃ v5 v6 v7 v8 kv2,σ = [some (.ref d),some (.int (p:Int)),some (.ref qt),some (.int (Fr:Int)),some (.ref f),v5,v6,v7,v8,some (.ref g)]/\Same C H7/\H7 g=some (.dK kv2)/\DcAt (PrAt H7) kv2 ((G.take i).map fun e=>(e.1,iK e.2))) ⟨_,_,_,_,[],rfl,sC,g6,by rw[Lz];exact DcAt.nil⟩ (fun i σ H7 _ z=>?_) ?_ ?_
 ·obtain⟨_,_,_,_,_,_,z,_⟩:=z
  exact z _ _ Cf
 ·rintro i k y σ H7 hki ⟨u5,u6,u7,u8,kv2,rfl,s7,g7,dc2⟩
  obtain⟨sk,wr,rfl,hGi,rwC⟩:=fnC.atK hki
  have hv:valV kv (.inl (sk:Int))=some y:=Ac ndk (IW hki)
  obtain⟨_,wne⟩:=gr.grp sk wr (IW hGi)
  have wl:=gl.2 sk wr (IW hGi)
  have gti:G.take (i+1)=G.take i++[(sk,wr)]:=by rw[Jt,hGi];rfl
  refine⟨_,rfl,_,rfl,f,y,rfl,.inl ⟨kv,.inl (sk:Int),.inr ⟨o2,s7 _ _ Cf⟩,rfl,hv.symm⟩,y,wr,rfl,rwC.mono s7,wne,by omega,fun u H8 s8 pu=>?_⟩
  have l2:kv2.length<=512:=by rw[dc2.1,IV,JE];omega
  refine⟨_,rfl,_,rfl,g,_,rfl,DPut.k (k:=.inl (sk:Int)) (s8 _ _ g7) (aw (by omega)),?_⟩
  have vn:valV kv2 (.inl (sk:Int))=none:=by
   cases hq:valV kv2 (.inl (sk:Int)) with
   |none=>rfl
   |some z =>
    obtain⟨j,a,hj,_,_⟩:=dc2.val hq
    rw[Je]at hj
    obtain⟨⟨s',w'⟩,hj',ej⟩:=Jv.mp hj
    have es:s'=sk:=(Prod.mk.inj ej).1
    subst es
    have hji:j<i:=by
     have:=(IS.mp hj').1
     rw[JE]at this
     omega
    rw[Kh,if_pos hji]at hj'
    have n1:(G.map (·.1))[j]?=some s':=by rw[Je,hj'];rfl
    have n2:(G.map (·.1))[i]?=some s':=by rw[Je,hGi];rfl
    obtain⟨h1,e1⟩:=IS.mp n1
    obtain⟨h2,e2⟩:=IS.mp n2
    exact absurd (e1.trans e2.symm) (JX.mp ndG j i h1 h2 hji)
  refine⟨_,_,_,_,_,rfl,bb (s7.trans s8) Cg _,ae,?_⟩
  rw[gti,Jy]
  refine DcAt.putN (dc2.imp fun v a q=>(q.mono s8).put2 (s8 _ _ g7) (fun _ z=>by cases z)) vn ?_
  exact pu.put2 (s8 _ _ g7) (fun _ z=>by cases z)
 ·rintro σ H7 ⟨u5,u6,u7,u8,kv2,rfl,s7,g7,dc2⟩
  rw[kvl',JA]at dc2
  refine⟨_,rfl,kk g kv2 G H7 (fun b u n z=>s7 _ _ (HH b u n z)) ?_ g7 gr dc2⟩
  cases y:H g with
  |none=>rfl
  |some u =>
   by_cases n:g=d
   ·rw[n,s4 _ _ Bd]at hg;cases hg
   ·rw[s4 _ _ (HB g u n y)]at hg;cases hg
end
end K8
namespace K8
open PySem L2
local macro_rules | `(tactic| walk_at "cc") => `(tactic| first | exact ⟨by decide, by decide⟩ | (show (0 : Int) < _; decide) | (show (0 : Int) < _; omega) | (show (0 : Int) ≤ _; omega) | exact ⟨by decide, by decide, by decide⟩ | exact ⟨by omega, by omega, by decide⟩ | exact Or.inl ⟨by decide, by decide⟩ | exact Or.inl ⟨by omega, by omega⟩)
local macro_rules | `(tactic| walk_at "rd") => `(tactic| repeat (first | refine ⟨_, rfl, ?_⟩ | refine ⟨_, _, rfl, rfl, ?_⟩ | refine ⟨rfl, ?_⟩ | (refine ⟨?cc, ?_⟩; (case cc => walk_at "cc"))))
structure TxtW(mg:Str->Option Value):Prop extends Txt mg where
 wide:∃ t,mg "WIDEST" = some (.int 8 t)
namespace K2
def S:List Nat->Nat
 |[]=>0
 |p::r=>2^p+S r
theorem add_bit{n p:Nat}(h:n.testBit p=false)(i:Nat):(n+2^p).testBit i=(n.testBit i||decide (i=p)):=by
 have e:n+2^p=n|||2^p:=by
  have hz:n&&&2^p=0:=by
   apply JV
   intro j
   rw[Kj,JF,Kg]
   by_cases hj:p=j
   ·subst hj;simp[h]
   ·simp[hj]
  have q:∀ m k:Nat,(m|||k)+(m&&&k)=m+k:=by
   intro m
   induction m using Nat.strongRecOn with
   |ind m ih =>
    intro n
    by_cases h0:m=0
    ·subst h0;simp
    ·have ih':=ih (m/2) (by omega) (n/2)
     rw[← Nat.or_div_two,← Nat.and_div_two]at ih'
     have o1:=@Nat.or_mod_two_eq_one m n
     have a1:=@Nat.and_mod_two_eq_one m n
     omega
  have:=q n (2^p)
  rw[hz]at this
  omega
 rw[e,J2,JF]
 congr 1
 exact decide_eq_decide.mpr ⟨fun h=>h.symm,fun h=>h.symm⟩
theorem S_bit:∀{D:List Nat},D.Nodup->∀ i,(S D).testBit i=decide (i∈D)
 |[],_,i=>by simp[S]
 |p::r,nd,i=>by
  have ⟨h1,h2⟩:=JD.mp nd
  have hp:(S r).testBit p=false:=by rw[S_bit h2];exact decide_eq_false h1
  have e:S (p::r)=S r+2^p:=Nat.add_comm _ _
  rw[e,add_bit hp,S_bit h2]
  by_cases a:i=p<;>by_cases b:i∈r<;>simp[a,b]
def bitsF(k n:Nat):List Nat:=if h:n=0 then[] else(if n%2=1 then[k] else[])++bitsF (k+1) (n/2)
termination_by n
decreasing_by omega
theorem bitsF_zero(k:Nat):bitsF k 0 = []:=by rw[bitsF];simp
theorem bitsF_odd{k n:Nat}(h:n%2=1):bitsF k n=k::bitsF (k+1) (n/2):=by
 rw[bitsF,dif_neg (by omega),if_pos h];rfl
theorem bitsF_even{k n:Nat}(h0:n≠0)(h:¬ n%2=1):bitsF k n=bitsF (k+1) (n/2):=by
 rw[bitsF,dif_neg h0,if_neg h];rfl
theorem uM:∀(f n k:Nat),n<=f->∀ p∈bitsF k n,k<=p
 |0,n,k,h=>by
  have z:n=0:=by omega
  subst z;rw[bitsF_zero];intro p hp;cases hp
 |f+1,n,k,h=>by
  intro p hp
  by_cases z:n=0
  ·subst z;rw[bitsF_zero]at hp;cases hp
  ·by_cases o:n%2=1
   ·rw[bitsF_odd o]at hp
    rcases Ja.mp hp with e | hp
    ·omega
    ·have:=uM f (n/2) (k+1) (by omega) p hp;omega
   ·rw[bitsF_even z o]at hp
    have:=uM f (n/2) (k+1) (by omega) p hp;omega
theorem bitsF_sorted:∀(f n k:Nat),n<=f->(bitsF k n).Pairwise (· < ·)
 |0,n,k,h=>by
  have z:n=0:=by omega
  subst z;rw[bitsF_zero];exact LC
 |f+1,n,k,h=>by
  by_cases z:n=0
  ·subst z;rw[bitsF_zero];exact LC
  ·by_cases o:n%2=1
   ·rw[bitsF_odd o]
    exact List.Pairwise.cons (fun p hp=>uM f (n/2) (k+1) (by omega) p hp) (bitsF_sorted f (n/2) (k+1) (by omega))
   ·rw[bitsF_even z o];exact bitsF_sorted f (n/2) (k+1) (by omega)
theorem bitsF_sum:∀(f n k:Nat),n<=f->S (bitsF k n)=n*2^k
 |0,n,k,h=>by
  have z:n=0:=by omega
  subst z;rw[bitsF_zero];simp[S]
 |f+1,n,k,h=>by
  by_cases z:n=0
  ·subst z;rw[bitsF_zero];simp[S]
  ·have ih:=bitsF_sum f (n/2) (k+1) (by omega)
   have e:n/2*2^(k+1)=(2*(n/2))*2^k:=by rw[Md,Nat.mul_comm (2^k) 2,← Nat.mul_assoc,Nat.mul_comm (n/2) 2]
   by_cases o:n%2=1
   ·rw[bitsF_odd o]
    show 2^k+S (bitsF (k+1) (n/2))=_
    rw[ih,e]
    have:n=2*(n/2)+1:=by omega
    have e2:n*2^k=(2*(n/2)+1)*2^k:=by rw[← this]
    rw[e2,Nat.add_mul,Nat.one_mul];omega
   ·rw[bitsF_even z o,ih,e]
    have:n=2*(n/2):=by omega
    have e2:n*2^k=(2*(n/2))*2^k:=by rw[← this]
    rw[e2]
theorem bitsF_lt:∀(m n k:Nat),n<2^m->∀ p∈bitsF k n,p<k+m
 |0,n,k,h=>by
  have z:n=0:=by omega
  subst z;rw[bitsF_zero];intro p hp;cases hp
 |m+1,n,k,h=>by
  intro p hp
  have h2:n/2<2^m:=by rw[Md]at h;omega
  by_cases z:n=0
  ·subst z;rw[bitsF_zero]at hp;cases hp
  ·by_cases o:n%2=1
   ·rw[bitsF_odd o]at hp
    rcases Ja.mp hp with e | hp
    ·omega
    ·have:=bitsF_lt m (n/2) (k+1) h2 p hp;omega
   ·rw[bitsF_even z o]at hp
    have:=bitsF_lt m (n/2) (k+1) h2 p hp;omega
theorem bitsF_len:∀(m n k:Nat),n<2^m->(bitsF k n).length<=m
 |0,n,k,h=>by
  have z:n=0:=by omega
  subst z;rw[bitsF_zero];exact IY _
 |m+1,n,k,h=>by
  have h2:n/2<2^m:=by rw[Md]at h;omega
  by_cases z:n=0
  ·subst z;rw[bitsF_zero];exact Kc _
  ·by_cases o:n%2=1
   ·rw[bitsF_odd o]
    have:=bitsF_len m (n/2) (k+1) h2
    show _+1<=_
    omega
   ·rw[bitsF_even z o]
    have:=bitsF_len m (n/2) (k+1) h2
    omega
theorem nodup_of_lt{l:List Nat}(h:l.Pairwise (· < ·)):l.Nodup:=h.imp fun h=>Jw h
end K2
theorem EO:∀{a b:List Nat},a.Pairwise (· < ·)->b.Pairwise (· < ·)->(∀ x,x∈a↔x∈b)->a=b
 |[],[],_,_,_=>rfl
 |[],y::b,_,_,h=>absurd ((h y).mpr (by simp)) (by simp)
 |x::a,[],_,_,h=>absurd ((h x).mp (by simp)) (by simp)
 |x::a,y::b,ha,hb,h=>by
  obtain⟨a1,a2⟩:=Lx.mp ha
  obtain⟨b1,b2⟩:=Lx.mp hb
  have e:x=y:=by
   have h1:=(h x).mp (by simp)
   have h2:=(h y).mpr (by simp)
   rcases Ja.mp h1 with z | z
   ·exact z
   ·rcases Ja.mp h2 with z2 | z2
    ·exact z2.symm
    ·have:=b1 _ z
     have:=a1 _ z2
     omega
  subst e
  rw[EO a2 b2 fun z=>?_]
  constructor
  ·intro hz
   rcases Ja.mp ((h z).mp (Jk _ hz))with q | q
   ·have:=a1 _ hz;omega
   ·exact q
  ·intro hz
   rcases Ja.mp ((h z).mpr (Jk _ hz))with q | q
   ·have:=b1 _ hz;omega
   ·exact q
theorem F6{M m:Nat}(h:M<2^m):K2.bitsF 0 M=(Ju m).filter fun p=>M.testBit p:=by
 have s1:=K2.bitsF_sorted M M 0 (IY _)
 have e:K2.S (K2.bitsF 0 M)=M:=by
  have:=K2.bitsF_sum M M 0 (IY _)
  rw[this,Nat.pow_zero,Nat.mul_one]
 refine EO s1 (List.pairwise_lt_range.filter _) fun x=>?_
 have b:=K2.S_bit (K2.nodup_of_lt s1) x
 rw[e]at b
 rw[JZ,Jx,b,decide_eq_true_iff]
 constructor
 ·intro hx
  exact⟨by have:=K2.bitsF_lt m M 0 h x hx;omega,hx⟩
 ·exact fun hx=>hx.2
def CI:Sp:=fun vs H Q _=>∃ n:Int,vs = [.int n]/\0<=n/\n<1208925819614629174706176/\∀ r H',Same H H'->H r=none->H' r=some (.lst ((K2.bitsF 0 n.toNat).map iV))->Q (.ref r) H'
section
variable{P:Program}{w:World}{K:IT}{mg:Str->Option Value}{base:Heap}
theorem lE:aB ["mask","numbers","number","rest"] ["mask"] (ag rH):=⟨rfl,rfl,rfl,by decide +kernel,rfl,by decide +kernel,by decide +kernel⟩
theorem HV{f:Addr}{fd:FuncData} (F:Fun K "bits" "bits" rH f fd):FnOk P w K mg base CX0 1 f fd ["mask"] CI:=by
 refine F.ok lE (fun vs H Q E h=>?_) (fun cdv A outer s H vs Q E hr h=>?_)
 ·obtain⟨n,rfl,_⟩:=h
  rfl
 obtain⟨n,rfl,h0,h1,k⟩:=h
 refine⟨_,(af (ax (i:=1) lE.nd rfl (Or.inl rfl) (dv ah))
   (af (ax (i:=2) lE.nd rfl (Or.inl rfl) ai)
   (af (ax (i:=3) lE.nd rfl (Or.inl rfl) (pv 0))
   (af (sW PassesOwn.never (aE Dc (pv 3) ai (aJ _)) (af (bQ (aE lG (aC eW (pv 3) ai) ai (aJ _)) (ak (bR (nA JM JP JO bD (pv 1) (aa (pv 2) ah)))) aK)
   (af (ax (i:=3) lE.nd rfl (Or.inl rfl) (aC fq (pv 3) ai))
   (ak (ax (i:=2) lE.nd rfl (Or.inl rfl) (aC cL (pv 2) ai))))))
   (ak (aI (pv 1))))))),?_⟩
 refine⟨(by show 0<=sizeLine;decide),fun l hl=>?_⟩
 have z80:(2:Nat)^80=1208925819614629174706176:=by decide
 have hlen:(K2.bitsF 0 n.toNat).length<=80:=K2.bitsF_len 80 n.toNat 0 (by omega)
 refine⟨_,rfl,sF (fun σ H2=>∃(kn rn:Nat)(pre:List Nat),σ = [some (.int n),some (.ref l),some (.int (kn:Int)),some (.int (rn:Int))]/\H2 l=some (.lst (pre.map iV))/\pre++K2.bitsF kn rn=K2.bitsF 0 n.toNat/\Same H H2)
  (fun σ _=>match σ with | [_,_,_,some (.int r)]=>r.toNat | _=>0) ⟨0,n.toNat,[],?_,ae,rfl,aj hl _⟩ ?_ ?_⟩
 ·have e:((n.toNat:Nat):Int)=n:=by omega
  rw[e]
  rfl
 ·rintro σ H2 ⟨kn,rn,pre,rfl,hp,hb,hs⟩
  refine⟨_,rfl,_,_,rfl,rfl,_,rfl,?_⟩
  refine ite2 (fun c=>?_) (fun c=>?_)
  ·have c':(0:Int)<(rn:Int):=of_decide_eq_true c
   have d2:((rn:Int)/2)=((rn/2:Nat):Int):=by omega
   have hlp:pre.length<=80:=by
    have:=congrArg List.length hb
    rw[IX]at this
    omega
   walk_at "rd"
   refine ite2 (fun o=>?_) (fun o=>?_)
   ·have o':(rn:Int)%2=1:=V.int.inj (of_decide_eq_true o)
    refine⟨_,rfl,.inl ⟨rfl,_,SqL.of hp⟩,_,rfl,l,_,_,rfl,rfl,hp,aw (by rw[IV];omega),?_⟩
    walk_at "rd"
    refine⟨⟨kn+1,rn/2,pre++[kn],?_,?_,?_,?_⟩,?_⟩
    ·show[some (V.int n),some (V.ref l),some (V.int ((kn:Int)+1)),some (V.int ((rn:Int)/2))]=_
     rw[d2];rfl
    ·rw[ae,Jy];rfl
    ·rw[LB,← hb]
     have z:=K2.bitsF_odd (k:=kn) (n:=rn) (by omega)
     rw[z];rfl
    ·exact bb hs hl _
    ·show((rn:Int)/2).toNat<((rn:Nat):Int).toNat
     omega
   ·have o':¬ (rn:Int)%2=1:=fun z=>o (decide_eq_true (congrArg V.int z))
    walk_at "rd"
    refine⟨⟨kn+1,rn/2,pre,?_,hp,?_,hs⟩,?_⟩
    ·show[some (V.int n),some (V.ref l),some (V.int ((kn:Int)+1)),some (V.int ((rn:Int)/2))]=_
     rw[d2];rfl
    ·rw[← hb,K2.bitsF_even (k:=kn) (n:=rn) (by omega) (by omega)]
    ·show((rn:Int)/2).toNat<((rn:Nat):Int).toNat
     omega
  ·have c':¬ (0:Int)<(rn:Int):=fun z=>c (decide_eq_true z)
   have z:rn=0:=by omega
   subst z
   rw[K2.bitsF_zero,Kv]at hb
   refine⟨_,rfl,?_⟩
   exact k l H2 hs hl (by rw[hp,hb])
 ·rintro σ H2 Q1 Q2 hi ⟨v,e,i,j,a,b,kk,e2,q⟩
  exact⟨v,e,i,j,a,b,kk,e2,hi _ _ q⟩
end
theorem Ao{X:Cx}{x:Str}{n:Int}{pos:Pos}(hg:Gl X x)(hm:∃ t,X.mg x=some (.int n t)) (hd:(x == ("__debug__" : Str))=false:=by decide):PE X (.Name x pos) (tC (.int n)):=by
 obtain⟨t,h⟩:=hm
 exact oz hg h ⟨t,rfl⟩ hd
def bl(c:Nat):List Nat:=K2.bitsF 0 c
theorem AU{M m:Nat}(h:M<2^m):bl M=(Ju m).filter fun p=>M.testBit p:=F6 h
theorem EJ{M m x:Nat}(h:M<2^m)(hx:M.testBit x=true):x∈bl M:=by
 rw[AU h]
 refine JZ.mpr ⟨Jx.mpr ?_,hx⟩
 rcases Nat.lt_or_ge x m with z | z
 ·exact z
 ·rw[KR (Jz h (Kw (by decide) z))]at hx
  cases hx
def Cz:Sp:=fun vs H Q _=>∃ n:Nat,vs = [.int (n:Int)]/\n<2^40/\∀ H',Same H H'->Q (.int (((bl n).length:Nat):Int)) H'
def Ct(K:IT)(TW:Addr):Sp:=fun vs H Q E=>∃(a:Addr)(ms:List Nat),vs = [.ref a]/\SqL K H a (ms.map iV)/\(∀ M∈ms,M<2^40)/\((∃ M∈ms,8<(bl M).length)->∀ H',Same H H'->E (.ref TW) none H')/\((∀ M∈ms,(bl M).length<=8)->∀ H',Same H H'->Q .non H')
def R3At(H:Hp)(v:V)(e:Nat×Pr):Prop:=∃ t,v=.ref t/\H t=some (.tup [.int (e.1:Int),.int e.2.1,.int e.2.2])
theorem R3At.mono{H H':Hp}{v:V}{e:Nat×Pr}(h:R3At H v e)(s:Same H H'):R3At H' v e:=by
 obtain⟨t,a,b⟩:=h
 exact⟨t,a,s _ _ b⟩
structure xq(es:En)(ks:Kn)(od:List Nat)(cnt:Nat)(T:List (Nat×Pr)):Prop where
 up:(T.map (·.1)).Pairwise (· < ·)
 tb:∀ M,bg es (mk (od.take cnt)) M->Tbl (lays (od.take cnt)) M (cstB es (prT es ks) (mk (od.take cnt))) T
def spFT(BO TW PL PS WC:Addr):Sp:=fun vs H Q E=>∃(p:Addr)(m:Nat)(es:En)(ts:List (List Nat))(ks:Kn)(v:V)(ns:List Int)(cnt:Nat),vs = [.ref p,v,.int (cnt:Int)]/\WebT PL PS WC H p m es ts ks/\ks.length=es.length/\cX m es ts/\es.length<=100/\m<=40/\Told m v H ns/\cnt<=m /\
 (¬ ns.Perm (rI m)->∀ H',Same H H'->E (.ref BO) none H') /\
 (∀ od:List Nat,ns=cI od->ns.Perm (rI m)->∀ ms,dh es od ms->(∃ M∈ms.take (cnt+1),8<(bl M).length)->∀ H',Same H H'->E (.ref TW) none H') /\
 (∀ od:List Nat,ns=cI od->ns.Perm (rI m)->∀ ms,dh es od ms->(∀ M∈ms.take (cnt+1),(bl M).length<=8)->(∀ M,bg es (mk (od.take cnt)) M->(bl M).length<=5)/\∀ q rows T H',Same H H'->H' q=some (.lst rows)->LsAt R3At H' rows T->xq es ks od cnt T->Q (.ref q) H')
theorem AQ(xs:List V):cutV xs (some 1) none=xs.drop 1:=by
 unfold cutV
 have q:=HT.sIx_nat xs.length 0 1
 rw[show((1:Nat):Int)=(1:Int) from rfl]at q
 rw[q,HT.sIx_none]
 rw[JQ (by rw[Ko];omega)]
 by_cases h:1<=xs.length
 ·rw[K7 h]
 ·have e:xs = []:=Kx.mp (by omega)
  subst e
  rfl
theorem Es(xs:List V)(k:Nat):cutV xs none (some (k:Int))=xs.take k:=by
 unfold cutV
 rw[HT.sIx_nat,HT.sIx_none,List.drop_zero,Nat.sub_zero]
 by_cases h:k<=xs.length
 ·rw[K7 h]
 ·rw[Nat.min_eq_right (by omega),JA,JQ (by omega)]
theorem FZ{es:En}{l:List Nat}{M m:Nat}(h:bg es (mk l) M)(hl:∀ x∈l,x<m):M<2^m:=by
 refine K3 M fun x hx=>?_
 rw[h x,bo]
 have:¬ x∈l:=fun z=>by have:=hl x z;omega
 rw[decide_eq_false this]
 rfl
section
variable{P:Program}{w:World}{K:IT}{mg:Str->Option Value}{base:Heap}
theorem Hn:aB ["mask"] ["mask"] (ag rF):=⟨rfl,rfl,rfl,by decide +kernel,rfl,by decide +kernel,by decide +kernel⟩
theorem HM{f f1:Addr}{fd fd1:FuncData} (F:Fun K "ones" "ones" rF f fd) (T:Txt mg) (G_bits:Cal P w K mg base 1 "bits" ["mask"] CI f1 fd1):FnOk P w K mg base CX0 2 f fd ["mask"] Cz:=by
 refine F.ok Hn (fun vs H Q E h=>?_) (fun cdv A outer s H vs Q E hr h=>?_)
 ·obtain⟨n,rfl,_⟩:=h
  rfl
 obtain⟨n,rfl,hn,kk⟩:=h
 have e40:(2:Nat)^40=1099511627776:=by decide
 refine⟨_,(ak (aI (aq aA (by rfl) T.n_len cu (aa (aG G_bits.ok (hr.mono (by decide)) rfl G_bits.mg G_bits.kp G_bits.bn .nil aZ (aa (pv 0) ah)) ah)))),?_⟩
 refine⟨_,rfl,_,rfl,by omega,by omega,fun r H1 s1 _ hr1=>?_⟩
 refine⟨r,_,rfl,.inl (SqL.of hr1),?_⟩
 rw[IV,JI]
 exact kk _ s1
theorem jo:aB ["found","front"] ["found"] (ag bL):=⟨rfl,rfl,rfl,by decide +kernel,rfl,by decide +kernel,by decide +kernel⟩
theorem HF{f f1 TW:Addr}{fd fd1:FuncData} (F:Fun K "refuse_wide" "refuse_wide" bL f fd) (T:TxtW mg) (X_TooWide:ErrC K mg "TooWide" TW) (G_ones:Cal P w K mg base 2 "ones" ["mask"] Cz f1 fd1):FnOk P w K mg base (CXr P w) 3 f fd ["found"] (Ct K TW):=by
 refine F.okX jo (fun vs H Q E h=>?_) (fun cdv A outer s H vs Q E hr h=>?_)
 ·obtain⟨a,ms,rfl,_⟩:=h
  rfl
 obtain⟨a,ms,rfl,hS,h40,kb,kk⟩:=h
 refine⟨_,(ak (ck PassesOwn.leaving rfl (bc (pv 0)) (aM (i:=1) jo.nd rfl (Or.inl rfl)) (ak (bQ (aE Dc (aG G_ones.ok (hr.mono (by decide)) rfl G_ones.mg G_ones.kp G_ones.bn .nil aZ (aa (pv 1) ah)) (Ao rfl T.wide) (aJ _)) (ak (oq X_TooWide.ec X_TooWide.mg rfl gL rfl rfl (aa C5 ah))) aK)))),?_⟩
 refine⟨_,rfl,a,rfl,⟨_,hS⟩,cF (K:=K) (xs:=ms.map iV) (fun i σ H2=>∃ v1,σ = [some (.ref a),v1]/\Same H H2/\∀ M∈ms.take i,(bl M).length<=8) ⟨_,rfl,fun _ _ z=>z,fun M z=>by cases z⟩ (fun i σ H2 _ ⟨_,_,z,_⟩=>z.seq hS) ?_ ?_⟩
 ·rintro i x σ H2 hx ⟨v1,rfl,s2,al⟩
  rw[Je]at hx
  obtain⟨M,hM,rfl⟩:=Jv.mp hx
  have mm:=IW hM
  have et:ms.take (i+1)=ms.take i++[M]:=by rw[Jt,hM];rfl
  refine⟨_,rfl,M,rfl,h40 M mm,fun H3 s3=>⟨_,_,rfl,rfl,_,rfl,?_⟩⟩
  refine ite2 (fun c=>?_) (fun c=>?_)
  ·have c':(8:Int)<(((bl M).length:Nat):Int):=of_decide_eq_true c
   exact⟨(by decide:(1:Nat)<=sizeLine),kb ⟨M,mm,by omega⟩ _ (s2.trans s3)⟩
  ·have c':¬ (8:Int)<(((bl M).length:Nat):Int):=fun z=>c (decide_eq_true z)
   refine⟨_,rfl,s2.trans s3,fun N hN=>?_⟩
   rw[et]at hN
   rcases Jl.mp hN with z | z
   ·exact al N z
   ·rw[Jq.mp z];omega
 ·rintro σ H2 ⟨v1,rfl,s2,al⟩
  rw[IV,JA]at al
  exact kk al _ s2
theorem aV:aB ["web","order","count","places","found","entries","place","back","front"] ["web","order","count"] (ag bO):=⟨rfl,rfl,rfl,by decide +kernel,rfl,by decide +kernel,by decide +kernel⟩
theorem ok_ft{f f1 f2 f3 f4 f5 BO TW PL PS WC:Addr}{fd d1 d2 d3 d4 d5:FuncData} (F:Fun K "front_table" "front_table" bO f fd) (T:TxtW mg) (cw:CW K WC) (G_order_of:CalX P w K mg base 1 "order_of" ["web","order"] (vj BO WC) f1 d1) (G_fronts:CalX P w K mg base 3 "fronts" ["web","order"] (Hd BO PL PS WC) f2 d2)
  (G_refuse_wide:CalX P w K mg base 3 "refuse_wide" ["found"] (Ct K TW) f3 d3) (G_ties_back:Cal P w K mg base 2 "ties_back" ["web","order"] (CJ PL PS WC) f4 d4) (G_entries_behind:Cal P w K mg base 4 "entries_behind" ["entries","place","ties","front"] (Hf PL PS) f5 d5) :
  FnOk P w K mg base (CXr P w) 5 f fd ["web","order","count"] (spFT BO TW PL PS WC):=by
 refine F.okX aV (fun vs H Q E h=>?_) (fun cdv A outer s H vs Q E hr h=>?_)
 ·obtain⟨p,m,es,ts,ks,v,ns,cnt,rfl,_⟩:=h
  rfl
 obtain⟨p,m,es,ts,ks,v,ns,cnt,rfl,wt,kl,tn,e100,m40,td,cm,kb,kw,kk⟩:=h
 have hu:=FU hr
 obtain⟨dx,fs,q1,xs,q3,z3,hp,lm,l1,h1,tk,l3,h3,rw3⟩:=id wt
 have hbd:∀ e∈es,e.1<m/\e.2<m:=fun e he=>⟨(tn.ends e he).1,(tn.ends e he).2.1⟩
 have hxl:xs.length=es.length:=tk.1
 refine⟨_,(af (ax (i:=3) aV.nd rfl (Or.inl rfl) (dA G_order_of.ok (hr.mono (by decide)) rfl G_order_of.mg G_order_of.kp G_order_of.bn .nil gL rfl (aa (pv 0) (aa (pv 1) ah))))
   (af (ax (i:=4) aV.nd rfl (Or.inl rfl) (eV gT (dA G_fronts.ok (hr.mono (by decide)) rfl G_fronts.mg G_fronts.kp G_fronts.bn .nil gL rfl (aa (pv 0) (aa (pv 3) ah))) g8 (gZ (aC cL (pv 2) ai))))
   (af (bR (dA G_refuse_wide.ok (hr.mono (by decide)) rfl G_refuse_wide.mg G_refuse_wide.kp G_refuse_wide.bn .nil gL rfl (aa (pv 4) ah)))
   (af (ax (i:=5) aV.nd rfl (Or.inr rfl) (HD (Fl ai (gN (aa ai (aa ai ah))) Ht) rfl rfl (fun z=>by cases z) (by decide)))
   (af (ck PassesOwn.leaving rfl (Hx rfl T.n_zip (aa (pv 3) (aa (aG G_ties_back.ok (hr.mono (by decide)) rfl G_ties_back.mg G_ties_back.kp G_ties_back.bn .nil aZ (aa (pv 0) (aa (pv 3) ah))) (aa (eV gT (pv 4) (gZ ai) g8) ah)))) (vF rfl (cB (aM (i:=6) aV.nd rfl (Or.inl rfl)) (cB (aM (i:=7) aV.nd rfl (Or.inl rfl)) (cB (aM (i:=8) aV.nd rfl (Or.inl rfl)) oy)))) (ak (ax (i:=5) aV.nd rfl (Or.inr rfl) (aG G_entries_behind.ok (hr.mono (by decide)) rfl G_entries_behind.mg G_entries_behind.kp G_entries_behind.bn .nil aZ (aa (pv 5) (aa (pv 6) (aa (eA rfl (fr:=[("web",0)]) (by exact bI.one (by rfl) (by decide +kernel) (by rfl) (by decide +kernel) (by rfl) (by decide +kernel) (by rfl) (by rfl) (by decide +kernel) (by rfl)) (bc (pv 7)) (fun C ex s H=>(aW (AF (K:=K) rfl) (tE (K:=K) rfl (pv 1) rfl) (pv 0) (fun _ _=>rfl)))) (aa (pv 8) ah))))))))
   (ak (aI (eA rfl (fr:=[("entries",5)]) (by exact bI.one (by rfl) (by decide +kernel) (by rfl) (by decide +kernel) (by rfl) (by decide +kernel) (by rfl) (by rfl) (by decide +kernel) (by rfl)) (bc (aq (BS rfl) (by rfl) T.n_sorted pP (aa (pv 5) ah))) (fun C ex s H=>(gN (aa (pv 0) (aa (aW (o5 (K:=K) rfl) (oA hu (pv 1) (pv 0) (fun _ _=>rfl)) ai (fun _ _=>rfl)) (aa (aW (o5 (K:=K) rfl) (oA hu (pv 1) (pv 0) (fun _ _=>rfl)) ai (fun _ _=>rfl)) ah))))))))))))),?_⟩
 refine⟨_,rfl,_,rfl,p,dx,fs,m,v,ns,rfl,hp,lm,m40,td,fun z H' s'=>kb z _ s',fun pm q H1 s1 nq hq=>?_⟩
 obtain⟨od,rfl,ob⟩:=Am pm
 have ol:(cI od).length=od.length:=by unfold cI;rw[IV]
 have om:od.length=m:=by
  have:=pm.length_eq
  unfold rI at this
  rwa[ol,IV,JH]at this
 have ond:od.Nodup:=by
  have:(cI od).Nodup:=pm.nodup_iff.mpr (by
   unfold rI
   exact KO.map _ (fun a b h e=>h (by omega)) JU)
  unfold cI at this
  exact(Le.mp this).imp fun h e=>h (by rw[e])
 refine⟨_,rfl,_,rfl,p,m,es,ts,ks,.ref q,cI od,rfl,wt.mono s1,kl,hbd,m40,.inr ⟨q,rfl,hq,by omega⟩,fun z=>absurd pm z,fun od' eo _ q2 ms H2 s2 hq2 fr=>?_⟩
 have eod:od'=od:=by
  have:cI od'=cI od:=eo.symm
  unfold cI at this
  exact(Ly (fun a b e=>by omega)).mp this
 subst eod
 have s12:=s1.trans s2
 refine⟨_,rfl,_,_,rfl,rfl,_,rfl,q2,_,rfl,SqL.of hq2,fun q4 hq4=>?_⟩
 rw[show((cnt:Nat):Int)+1=((cnt+1:Nat):Int) by omega,Es,← Mx]
 have s4:=aj hq4 (.lst ((ms.take (cnt+1)).map iV))
 have s14:=s12.trans s4
 have mlt:∀ k M,ms[k]?=some M->M<2^40:=fun k M e=>Jz (FZ (fr.2 k M e) (m:=m) fun x hx=>ob x (Kb hx)) (Kw (by decide) m40)
 have h4:(upd H2 q4 (.lst ((ms.take (cnt+1)).map iV))) q4=some (.lst ((ms.take (cnt+1)).map iV)):=ae
 generalize upd H2 q4 (.lst ((ms.take (cnt+1)).map iV))=H4 at s4 s14 h4
 refine⟨_,rfl,q4,ms.take (cnt+1),rfl,SqL.of h4,fun M hM=>?_,fun z H' s'=>kw od' rfl pm ms fr z _ (s14.trans s'),fun nw H5 s5=>?_⟩
 ·obtain⟨k,hk⟩:=JY (Kb hM)
  exact mlt k M hk
 have s15:=s14.trans s5
 have h45:=s5 _ _ h4
 have hq5:H5 q=some (.lst ((cI od').map V.int)):=((s2.trans s4).trans s5) _ _ hq
 intro d hd
 refine⟨(by show 2<=sizeLine;decide),fun t ht=>?_⟩
 have z1:=aj hd (.dK [])
 have z2:=aj ht (.tup [.int 0,.int 1])
 have dt:d≠t:=fun z=>by rw[← z,ae]at ht;cases ht
 refine⟨by rw[ao dt];exact ae,[(.inl ((0:Nat):Int),.ref t)],rfl,(by show 1<=15;decide),?_⟩
 rw[show rN ([]:List (Key×V)) [(.inl ((0:Nat):Int),.ref t)] = [(.inl ((0:Nat):Int),.ref t)] from rfl]
 have s6:Same H5 (upd (upd (upd H5 d (.dK [])) t (.tup [.int 0,.int 1])) d (.dK [(.inl ((0:Nat):Int),.ref t)])):=bb (z1.trans z2) hd _
 have h6:(upd (upd (upd H5 d (.dK [])) t (.tup [.int 0,.int 1])) d (.dK [(.inl ((0:Nat):Int),.ref t)])) d=some (.dK [(.inl ((0:Nat):Int),.ref t)]):=ae
 have t6:(upd (upd (upd H5 d (.dK [])) t (.tup [.int 0,.int 1])) d (.dK [(.inl ((0:Nat):Int),.ref t)])) t=some (.tup [.int 0,.int 1]):=by rw[ao (Ne.symm dt)];exact ae
 have dc6:DcAt (PrAt (upd (upd (upd H5 d (.dK [])) t (.tup [.int 0,.int 1])) d (.dK [(.inl ((0:Nat):Int),.ref t)]))) [(.inl ((0:Nat):Int),.ref t)] [(0,((0:Int),(1:Int)))]:=⟨rfl,fun i s a e=>by
  match i,e with
  |0,e=>cases e;exact⟨.ref t,rfl,t,rfl,t6⟩
  |i+1,e=>cases e⟩
 generalize upd (upd (upd H5 d (.dK [])) t (.tup [.int 0,.int 1])) d (.dK [(.inl ((0:Nat):Int),.ref t)])=H6 at s6 h6 dc6
 clear t6 z1 z2
 have s16:=s15.trans s6
 refine⟨_,rfl,_,rfl,_,rfl,p,q,m,es,ts,ks,od',rfl,wt.mono s16,kl,tn,m40,e100,s6 _ _ hq5,ob,by omega,fun q7 zs H7 s7 hq7 rb=>?_⟩
 refine⟨_,rfl,_,rfl,q4,_,rfl,SqL.of ((s6.trans s7) _ _ h45),fun q8 hq8=>?_⟩
 rw[AQ,← My]
 have s8:=aj hq8 (.lst (((ms.take (cnt+1)).drop 1).map iV))
 have h8:(upd H7 q8 (.lst (((ms.take (cnt+1)).drop 1).map iV))) q8=some (.lst (((ms.take (cnt+1)).drop 1).map iV)):=ae
 have s68:=(s6.trans s7).trans s8
 have hd8:=(s7.trans s8) _ _ h6
 have dc8:DcAt (PrAt (upd H7 q8 (.lst (((ms.take (cnt+1)).drop 1).map iV)))) [(.inl ((0:Nat):Int),.ref t)] [(0,((0:Int),(1:Int)))]:=dc6.imp fun v a q=>q.mono (s7.trans s8)
 have hq8':=s8 _ _ hq7
 have rb8:=rb.mono s8
 generalize upd H7 q8 (.lst (((ms.take (cnt+1)).drop 1).map iV))=H8 at s8 h8 s68 hd8 dc8 hq8' rb8
 have msl:ms.length=m+1:=by rw[fr.1,om]
 have zl:(((ms.take (cnt+1)).drop 1).map iV).length=cnt:=by rw[IV,Ko,JE];omega
 have zsl:zs.length=m:=by rw[rb.1];unfold dq;rw[IV,JH,om]
 have F8:∀ M,M∈ms.take (cnt+1)->(bl M).length<=8:=nw
 obtain⟨C,hC⟩:∃ C:Hp,C=fun b=>if b=d then none else H8 b:=⟨_,rfl⟩
 have CH:∀ b u,b≠d->H8 b=some u->C b=some u:=fun b u n z=>by rw[hC];show(if b=d then none else H8 b)=_;rw[if_neg n];exact z
 have Cd:C d=none:=by rw[hC];show(if d=d then none else H8 d)=_;rw[if_pos rfl]
 have sC:Same C H8:=fun b u z=>by
  rw[hC]at z
  have z':(if b=d then none else H8 b)=some u:=z
  by_cases n:b=d
  ·rw[if_pos n]at z';cases z'
  ·rw[if_neg n]at z';exact z'
 have s5C:Same H5 C:=fun b u z=>CH b u (az z hd) (s68 _ _ z)
 have nl:∀{b:Addr}{ys:List V},H8 b=some (.lst ys)->b≠d:=fun{b ys} z y=>by rw[y,hd8]at z;cases z
 have C8:=CH _ _ (nl h8) h8
 have Cq7:=CH _ _ (nl hq8') hq8'
 have Cq:=s5C _ _ hq5
 have rbC:bq C zs (dq es ts od' od'.length):=⟨rb8.1,fun i l e=>by
  obtain⟨a,a1,a2⟩:=rb8.2 i l e
  exact⟨a,a1,CH _ _ (nl a2) a2⟩⟩
 have wtC:=wt.mono (s15.trans s5C)
 have tkC:=tk.mono (s15.trans s5C)
 have hpC:=(s15.trans s5C) _ _ hp
 have h1C:=(s15.trans s5C) _ _ h1
 refine⟨q,q7,q8,rfl,⟨_,SqL.of (s68 _ _ hq5)⟩,⟨_,SqL.of hq8'⟩,⟨_,SqL.of h8⟩,F1 (K:=K) (xs:=(cI od').map V.int) (ys:=zs) (zs:=((ms.take (cnt+1)).drop 1).map iV) cnt (fun i σ H9=>∃ v6 v7 v8 d9 kv T9,σ = [some (.ref p),some v,some (.int (cnt:Int)),some (.ref q),some (.ref q4),some (.ref d9),v6,v7,v8]/\Same C H9/\C d9=none/\H9 d9=some (.dK kv)/\DcAt (PrAt H9) kv T9/\(∀ M,bg es (mk (od'.take i)) M->Tbl (lays (od'.take i)) M (cstB es (prT es ks) (mk (od'.take i))) T9)) ⟨_,_,_,d,_,[(0,(0,1))],rfl,sC,Cd,hd8,dc8,fun M hM=>?_⟩ (by rw[IV];omega) (by omega) zl (fun i σ H9 _ ⟨_,_,_,_,_,_,_,z,_⟩=>⟨SqL.of (z _ _ Cq),SqL.of (z _ _ Cq7),SqL.of (z _ _ C8)⟩) ?_ ?_⟩
 ·have e0:M=0:=bg.one hM (D5 es)
  rw[e0,Lz]
  exact G7 es (prT es ks)
 ·rintro i x y z σ H9 T9' hx hy hz ⟨v6,v7,v8,d9,kv,T9,rfl,s9,nd9,hd9,dc9,tb9⟩ hT
  rw[Je]at hx hz
  obtain⟨x',hx',rfl⟩:=Jv.mp hx
  obtain⟨F',hF',rfl⟩:=Jv.mp hz
  unfold cI at hx'
  rw[Je]at hx'
  obtain⟨pl,hpl,rfl⟩:=Jv.mp hx'
  have hi:i<cnt:=by
   have:=(IS.mp hF').1
   rw[Ko,JE]at this
   omega
  rw[LY]at hF'
  have hFm:ms[i+1]?=some F':=by
   rw[Kh]at hF'
   rw[if_pos (by omega)]at hF'
   rw[Nat.add_comm]
   exact hF'
  have hb:=ob pl (IW hpl)
  have et:od'.take (i+1)=od'.take i++[pl]:=by rw[Jt,hpl];rfl
  have gd:od'.getD i 0=pl:=by rw[J1,hpl];rfl
  obtain⟨row,hrow⟩:∃ row,ts[pl]?=some row:=⟨_,IU (by rw[tn.len];exact hb)⟩
  have era:A8 ts (od'.getD i 0)=row:=by unfold A8;rw[gd,hrow];rfl
  obtain⟨bk,hbk⟩:∃ bk,bk=jn es (mk (od'.take (i+1))) row:=⟨_,rfl⟩
  have hbr:(dq es ts od' od'.length)[i]?=some bk:=by
   unfold dq
   rw[Je,Ls (by omega),hbk,← era]
   rfl
  obtain⟨r,r1,r2⟩:=rbC.2 i bk hbr
  rw[hy]at r1
  cases r1
  have fr':bg es (mk (od'.take (i+1))) F':=fr.2 (i+1) F' hFm
  obtain⟨F0,hF0⟩:∃ F0,ms[i]?=some F0:=⟨_,IU (by omega)⟩
  have fr0:bg es (mk (od'.take i)) F0:=fr.2 i F0 hF0
  have tb:=tb9 F0 fr0
  have hpn:pl∉od'.take i:=fun z=>by
   obtain⟨j,hj⟩:=JY z
   rw[Kh]at hj
   split at hj
   ·rename_i hji
    obtain⟨a1,a2⟩:=IS.mp hj
    obtain⟨b1,b2⟩:=IS.mp hpl
    exact absurd (a2.trans b2.symm) (JX.mp ond j i a1 b1 hji)
   ·cases hj
  have bl0:(bl F0).length<=8:=F8 F0 (IW (i:=i) (by rw[Kh,if_pos (by omega)];exact hF0))
  have T256:T9.length<=256:=by
   have:=tb.len (qs:=bl F0) fun x hx=>EJ (mlt i F0 hF0) hx
   exact JS this (JS (Kw (by decide) bl0) (by decide))
  have bkl:bk.length<=100:=by
   have h1:bk.length<=row.length:=by rw[hbk];unfold jn;exact KZ _ _
   have h2:row.length<=es.length:=by
    refine ic (tn.nd pl row hrow) fun t ht=>?_
    obtain⟨e,he,_⟩:=(tn.mem pl row hrow t).mp ht
    exact(IS.mp he).1
   omega
  have sT:=aj hT (.tup [.int ((pl:Nat):Int),.ref r,iV F'])
  have s9T:=s9.trans sT
  have hd9T:=sT _ _ hd9
  have dc9T:DcAt (PrAt (upd H9 T9' (.tup [.int ((pl:Nat):Int),.ref r,iV F']))) kv T9:=dc9.imp fun v a q=>q.mono sT
  refine⟨T9',_,rfl,SqT.of ae,rfl,_,_,rfl,_,_,rfl,_,_,rfl,rfl,?_⟩
  generalize upd H9 T9' (.tup [.int ((pl:Nat):Int),.ref r,iV F'])=HA at sT s9T hd9T dc9T
  refine⟨_,rfl,_,rfl,_,rfl,r,rfl,⟨_,SqL.of (s9T _ _ r2)⟩,dg (K:=K) (xs:=bk.map iV) (fun j ys HB=>HB=HA/\rZ PL PS HA es ks ys (bk.take j)) (JT (aw (by rw[IV];omega))) ⟨rfl,rfl,fun j t e=>by simp at e⟩ (fun j ys HB _ z=>by rw[z.1];exact SqL.of (s9T _ _ r2)) ?_ ?_⟩
  ·rintro j x ys HB hx ⟨rfl,tr⟩
   rw[Je]at hx
   obtain⟨t,ht,rfl⟩:=Jv.mp hx
   have htm:t∈row:=by
    have:=IW ht
    rw[hbk]at this
    exact(JZ.mp this).1
   obtain⟨e,he,_⟩:=(tn.mem pl row hrow t).mp htm
   obtain⟨k,hk⟩:∃ k,ks[t]?=some k:=⟨_,IU (by have:=(IS.mp he).1;omega)⟩
   obtain⟨p',dx',x1,x2⟩:=(tkC.mono s9T).2 t e k he hk
   refine⟨_,rfl,p,WC,dx,fs,_,rfl,s9T _ _ hpC,cw.cl,cw.n2,l1,_,rfl,q1,xs,_,_,rfl,rfl,SqL.of (s9T _ _ h1C),bH x1,rfl,?_⟩
   refine⟨by rw[IX,tr.1,Jt,ht,IX];rfl,fun n u e2=>?_⟩
   rw[Jt,ht]at e2
   have bl':(bk.take j).length=ys.length:=tr.1.symm
   by_cases hn:n<(bk.take j).length
   ·rw[Jb hn]at e2
    obtain⟨e',k',p2,dx2,y1,y2,y3,y4⟩:=tr.2 n u e2
    exact⟨e',k',p2,dx2,y1,y2,by rw[Jb (by omega)];exact y3,y4⟩
   ·rw[IZ (by omega)]at e2
    have e3:n=(bk.take j).length:=by
     have:=(IS.mp e2).1
     rw[show(Option.toList (some t)).length=1 from rfl]at this
     omega
    subst e3
    rw[JC]at e2
    cases e2
    exact⟨e,k,p',dx',he,hk,by rw[bl',IZ (IY _),JC];rfl,x2⟩
  rintro ys HB _ ⟨rfl,tr⟩ D hD
  rw[IV,JA]at tr
  have sD:=aj hD (.lst ys)
  have nD:D≠d9:=fun z=>by rw[z,hd9T]at hD;cases hD
  refine⟨_,rfl,d9,D,pl,F',kv,T9,ys,es,ks,bk,rfl,sD _ _ hd9T,dc9T.imp fun v a q=>q.mono sD,tb.nd,T256,by omega,ae,tr.mono sD,bkl,fun g kv2 G HC sX gn gh gr dcG=>?_⟩
  have sCC:Same C HC:=fun b u z=>sX b u (fun y=>by rw[y,nd9]at z;cases z) (sD _ _ (s9T _ _ z))
  refine⟨_,_,_,g,kv2,_,rfl,sCC,?_,gh,dcG,fun M hM=>?_⟩
  ·cases y:C g with
   |none=>rfl
   |some u=>rw[sD _ _ (s9T _ _ y)]at gn;cases gn
  ·have eM:M=F':=bg.one hM fr'
   subst eM
   rw[et]at hM hbk ⊢
   refine E6 (prc:=prcB es ks bk) tb (fun L hL b=>D3 fr0 hM hpn hL b) (fun L hL b=>?_) gr
   rw[Ew tn (CY kl) fr0 hpn hL b hrow,← hbk]
   rfl
 rintro σ H9 ⟨v6,v7,v8,d9,kv,T9,rfl,s9,nd9,hd9,dc9,tb9⟩
 obtain⟨Fc,hFc⟩:∃ Fc,ms[cnt]?=some Fc:=⟨_,IU (by omega)⟩
 have frc:bg es (mk (od'.take cnt)) Fc:=fr.2 cnt Fc hFc
 have tbc:=tb9 Fc frc
 have blc:(bl Fc).length<=8:=F8 Fc (IW (i:=cnt) (by rw[Kh,if_pos (by omega)];exact hFc))
 have T256:T9.length<=256:=by
  have:=tbc.len (qs:=bl Fc) fun x hx=>EJ (mlt cnt Fc hFc) hx
  exact JS this (JS (Kw (by decide) blc) (by decide))
 have ekeys:kv.map (·.1)=(cI (T9.map (·.1))).map Sum.inl:=by
  rw[dc9.keys]
  exact(Km (l:=T9.map (·.1)) (f:=fun(p:Nat)=>(p:Int)) (g:=(Sum.inl:Int->Key))).symm
 obtain⟨nar,kk⟩:=kk od' rfl pm ms fr nw
 have n64:(cI (T9.map (·.1))).length<64:=by
  have b5:=nar Fc frc
  have:=tbc.len (qs:=bl Fc) fun x hx=>EJ (mlt cnt Fc hFc) hx
  have p5:2^(bl Fc).length<=2^5:=Kw (by decide) b5
  have e5:(2:Nat)^5=32:=by decide
  unfold cI
  rw[IV,IV]
  omega
 refine⟨_,rfl,d9,kv,cI (T9.map (·.1)),rfl,.inl hd9,ekeys,n64,fun l out hl pm' so=>?_⟩
 obtain⟨on,rfl⟩:∃ on:List Nat,out=cI on:=by
  refine⟨out.map Int.toNat,?_⟩
  unfold cI
  rw[Km]
  symm
  refine(Lq fun x hx=>?_).trans (List.map_id _)
  have:=pm'.mem_iff.mp hx
  unfold cI at this
  obtain⟨n,_,rfl⟩:=Jj.mp this
  show(((n:Nat):Int).toNat:Int)=(n:Int)
  rfl
 have cI_inj:∀{a b:List Nat},(∀ x,x∈cI a↔x∈cI b)->∀ x,x∈a↔x∈b:=fun{a b} h x=>by
  have q:=h (x:Int)
  unfold cI at q
  constructor
  ·intro hx
   obtain⟨y,hy,e⟩:=Jj.mp (q.mp (Jj.mpr ⟨x,hx,rfl⟩))
   have:y=x:=by omega
   rw[← this];exact hy
  ·intro hx
   obtain⟨y,hy,e⟩:=Jj.mp (q.mpr (Jj.mpr ⟨x,hx,rfl⟩))
   have:y=x:=by omega
   rw[← this];exact hy
 have mem:∀ x,x∈on↔x∈T9.map (·.1):=cI_inj fun x=>pm'.mem_iff
 have onl:on.length<=256:=by
  have:=pm'.length_eq
  unfold cI at this
  rw[IV,IV,IV]at this
  omega
 have onlt:on.Pairwise (· < ·):=by
  have nd':(cI on).Nodup:=pm'.nodup_iff.mpr (by
   unfold cI
   exact KO.map _ (fun a b h e=>h (by omega)) tbc.nd)
  have:=List.Pairwise.and so nd'
  unfold cI at this
  exact(Le.mp this).imp fun h=>by omega
 have sl:=aj hl (.lst ((cI on).map V.int))
 refine⟨l,rfl,⟨_,SqL.of ae⟩,dg (K:=K) (xs:=(cI on).map V.int) (fun i ys HB=>∃ T',Same (upd H9 l (.lst ((cI on).map V.int))) HB/\LsAt R3At HB ys T'/\T'.map (·.1)=on.take i/\∀ e∈T',e∈T9) (JT (aw (by unfold cI;rw[IV,IV];omega))) ⟨[],fun _ _ z=>z,LsAt.nil,rfl,fun e z=>by cases z⟩ (fun i ys HB _ ⟨_,z,_⟩=>SqL.of (z _ _ ae)) ?_ ?_⟩
 ·rintro i x ys HB hx ⟨T',sB,ls,ek,im⟩
  rw[Je]at hx
  obtain⟨x',hx',rfl⟩:=Jv.mp hx
  unfold cI at hx'
  rw[Je]at hx'
  obtain⟨sg,hsg',rfl⟩:=Jv.mp hx'
  obtain⟨⟨s',pv⟩,hpv,es'⟩:=Jj.mp ((mem sg).mp (IW hsg'))
  have es'':s'=sg:=es'
  subst es''
  obtain⟨u,hu',tq,rfl,htq⟩:=dc9.get tbc.nd hpv
  have sLB:=sl.trans sB
  refine⟨_,rfl,_,rfl,_,rfl,d9,.ref tq,rfl,.inl ⟨kv,.inl (s':Int),.inl (sLB _ _ hd9),rfl,hu'.symm⟩,tq,_,0,_,rfl,rfl,SqT.of (sLB _ _ htq),at0,_,rfl,_,rfl,d9,.ref tq,rfl,.inl ⟨kv,.inl (s':Int),.inl (sLB _ _ hd9),rfl,hu'.symm⟩,tq,_,1,_,rfl,rfl,SqT.of (sLB _ _ htq),at1,(by show 3<=sizeLine;decide),fun tr htr=>?_⟩
  have sr:=aj htr (.tup [.int (s':Int),.int pv.1,.int pv.2])
  refine⟨T'++[(s',pv)],sB.trans sr,(ls.imp fun y e q=>q.mono sr).snoc ⟨tr,rfl,ae⟩,?_,fun e he=>?_⟩
  ·rw[Jy,ek,Jt,hsg'];rfl
  ·rcases Jl.mp he with z | z
   ·exact im e z
   ·rw[Jq.mp z];exact hpv
 ·rintro ys HB _ ⟨T',sB,ls,ek,im⟩ D hD
  have onc:((cI on).map V.int).length=on.length:=by unfold cI;rw[IV,IV]
  rw[onc,JA]at ek
  have sD:=aj hD (.lst ys)
  have sHC:Same H H9:=(s15.trans s5C).trans s9
  refine kk D ys T' _ (((sHC.trans sl).trans sB).trans sD) ae (ls.imp fun y e q=>q.mono sD) ⟨by rw[ek];exact onlt,fun M hM=>?_⟩
  have eM:M=Fc:=bg.one hM frc
  subst eM
  refine tbc.perm (by rw[ek];exact onlt.imp fun h=>Jw h) (fun x hx=>by rw[ek];exact(mem x).mpr hx) im
end
end K8
namespace K8
open PySem L2
local macro_rules | `(tactic| walk_at "cc") => `(tactic| first | exact ⟨by decide, by decide⟩ | (show (0 : Int) < _; decide) | (show (0 : Int) < _; omega) | (show (0 : Int) ≤ _; omega) | exact ⟨by decide, by decide, by decide⟩ | exact ⟨by omega, by omega, by decide⟩ | exact Or.inl ⟨by decide, by decide⟩ | exact Or.inl ⟨by omega, by omega⟩)
local macro_rules | `(tactic| walk_at "rd") => `(tactic| repeat (first | refine ⟨_, rfl, ?_⟩ | refine ⟨_, _, rfl, rfl, ?_⟩ | refine ⟨rfl, ?_⟩ | (refine ⟨?cc, ?_⟩; (case cc => walk_at "cc"))))
theorem add_or{n p:Nat}(h:n.testBit p=false):n+2^p=n|||2^p:=by
 apply JV
 intro i
 rw[K2.add_bit h,J2,JF]
 by_cases e:i=p
 ·subst e;simp
 ·have:¬ p=i:=fun z=>e z.symm
  simp[e,this]
theorem sum_mk:∀{l:List Nat},l.Nodup->(l.map fun(p:Nat)=>((2^p:Nat):Int)).sum=((mk l:Nat):Int):=by
 have go:∀(n:Nat)(l:List Nat),l.length=n->l.Nodup->(l.map fun(p:Nat)=>((2^p:Nat):Int)).sum=((mk l:Nat):Int):=fun n=>by
  induction n with
  |zero =>
   intro l hl _
   rw[Kx.mp hl]
   rfl
  |succ n ih =>
   intro l hl nd
   have ne:l≠[]:=fun e=>by rw[e]at hl;cases hl
   have eq:l.dropLast++[l.getLast ne]=l:=KU ne
   have hl2:l.dropLast.length=n:=by rw[KL,hl];rfl
   generalize l.getLast ne=x at eq
   generalize l.dropLast=r at eq hl2
   subst eq
   rw[Ka]at nd
   rw[Jy,List.sum_append,ih r hl2 nd.1,yK]
   have hb:(mk r).testBit x=false:=by
    rw[bo]
    exact decide_eq_false fun z=>nd.2.2 x z x (Jq.mpr rfl) rfl
   rw[← add_or hb]
   simp
 exact fun{l} nd=>go l.length l rfl nd
theorem bitD(N p:Nat):((N:Int)/2^((p:Nat):Int).toNat)%2=if N.testBit p=true then 1 else 0:=by
 have:=bitN N p
 unfold bit at this
 exact this
theorem CV{es:En}{ks:Kn}{t L:Nat}{e:Nat×Nat}{k:Int×Int}(he:es[t]?=some e)(hk:ks[t]?=some k)(h01:k.1=0∨k.1=1):prT es ks t L=if((L:Int)/2^((e.1:Nat):Int).toNat+(L:Int)/2^((e.2:Nat):Int).toNat+k.1)%2=1 then k.2 else 0:=by
 have hs:stg ks t=k.2:=by unfold stg;rw[hk]
 unfold prT
 rw[U_at he hk,hs]
 have b1:=bitD L e.1
 have b2:=bitD L e.2
 have key:(unp (decide (k.1=1)) (e.1:Int) (e.2:Int) (L:Int)=true)↔((L:Int)/2^((e.1:Nat):Int).toNat+(L:Int)/2^((e.2:Nat):Int).toNat+k.1)%2=1:=by
  unfold unp bit
  generalize (L:Int)/2^((e.1:Nat):Int).toNat=x at b1 ⊢
  generalize (L:Int)/2^((e.2:Nat):Int).toNat=y at b2 ⊢
  rcases h01 with z | z
  ·rw[z,decide_eq_false (show ¬ ((0:Int)=1) by decide)]
   show(!decide (V.int ((x%2+y%2)%2)=V.int 0))=true↔_
   by_cases c:(x%2+y%2)%2=0
   ·rw[decide_eq_true (congrArg V.int c)]
    constructor
    ·intro q;cases q
    ·intro q;omega
   ·rw[decide_eq_false (fun q=>c (V.int.inj q))]
    constructor
    ·intro _;omega
    ·intro _;rfl
  ·rw[z,decide_eq_true (show((1:Int)=1) from rfl)]
   show(!decide (V.int ((x%2+y%2)%2)=V.int 1))=true↔_
   by_cases c:(x%2+y%2)%2=1
   ·rw[decide_eq_true (congrArg V.int c)]
    constructor
    ·intro q;cases q
    ·intro q;omega
   ·rw[decide_eq_false (fun q=>c (V.int.inj q))]
    constructor
    ·intro _;omega
    ·intro _;rfl
 by_cases c:unp (decide (k.1=1)) (e.1:Int) (e.2:Int) (L:Int)=true
 ·rw[if_pos c,if_pos (key.mp c)]
 ·rw[if_neg c,if_neg fun z=>c (key.mpr z)]
section
variable{P:Program}{w:World}{K:IT}{mg:Str->Option Value}{base:Heap}
end
theorem oS:∀(n:Nat)(qs:List Nat),qs.length=n->qs.Nodup->(lays qs).Nodup
 |0,qs,hn,_=>by
  rw[Kx.mp hn]
  decide
 |n+1,qs,hn,nd=>by
  have ne:qs≠[]:=fun e=>by rw[e]at hn;cases hn
  have eq:qs.dropLast++[qs.getLast ne]=qs:=KU ne
  generalize qs.getLast ne=q at eq
  have hl:qs.dropLast.length=n:=by rw[KL,hn];rfl
  generalize qs.dropLast=r at eq hl
  subst eq
  rw[Ka]at nd
  have ih:=oS n r hl nd.1
  have nq:∀ L∈lays r,L.testBit q=false:=fun L hL=>by
   cases z:L.testBit q with
   |false=>rfl
   |true=>exact absurd rfl (nd.2.2 q (eX hL z) q (Jq.mpr rfl))
  rw[fK,Ka]
  refine⟨ih,?_,fun a ha b hb e=>?_⟩
  ·refine Le.mpr (List.Pairwise.imp_of_mem (fun{a b} ha hb hne e=>?_) ih)
   exact hne (JV fun x=>by
    have:=congrArg (fun z=>z.testBit x) e
    simp only[J2,JF]at this
    by_cases hx:q=x
    ·subst hx;rw[nq a ha,nq b hb]
    ·simpa[hx] using this)
  ·obtain⟨L,hL,rfl⟩:=Jj.mp hb
   have h1:=nq a ha
   rw[e,J2,JF]at h1
   simp at h1
theorem Tbl.full{ps:List Nat}{F:Nat}{f:Nat->Int}{T:List (Nat×Pr)}{qs:List Nat}(h:Tbl (lays ps) F f T)(hq:∀ x,F.testBit x=true↔x∈qs)(nd:qs.Nodup)(sub:∀ x∈qs,x∈ps):T.length=2^qs.length:=by
 refine Nat.le_antisymm (h.len fun x hx=>(hq x).mp hx) ?_
 have:=hJ (a:=lays qs) (b:=T.map (·.1)) (oS _ qs rfl nd) fun s hs=>by
  have hs2:s∈lays ps:=fP _ ps s rfl fun x hx=>sub x (eX hs hx)
  obtain⟨v,hv⟩:=h.has s hs2
  have e:s&&&F=s:=JV fun x=>by
   rw[Kj]
   cases z:s.testBit x with
   |false=>rfl
   |true=>rw[(hq x).mpr (eX hs z)];rfl
  rw[e]at hv
  exact Jj.mpr ⟨_,hv,rfl⟩
 rwa[AA,IV]at this
end K8
namespace K8
open PySem L2
local macro_rules | `(tactic| walk_at "cc") => `(tactic| first | exact ⟨by decide, by decide⟩ | (show (0 : Int) < _; decide) | (show (0 : Int) < _; omega) | (show (0 : Int) ≤ _; omega) | exact ⟨by decide, by decide, by decide⟩ | exact ⟨by omega, by omega, by decide⟩ | exact Or.inl ⟨by decide, by decide⟩ | exact Or.inl ⟨by omega, by omega⟩)
local macro_rules | `(tactic| walk_at "rd") => `(tactic| repeat (first | refine ⟨_, rfl, ?_⟩ | refine ⟨_, _, rfl, rfl, ?_⟩ | refine ⟨rfl, ?_⟩ | (refine ⟨?cc, ?_⟩; (case cc => walk_at "cc"))))
def spLM(BO TW PL PS WC:Addr):Sp:=fun vs H Q E=>∃(p:Addr)(m:Nat)(es:En)(ts:List (List Nat))(ks:Kn)(v:V)(ns:List Int),vs = [.ref p,v]/\WebT PL PS WC H p m es ts ks/\ks.length=es.length/\cX m es ts/\es.length<=100/\m<=40/\Told m v H ns /\
 (¬ ns.Perm (rI m)->∀ H',Same H H'->E (.ref BO) none H') /\
 (∀ od:List Nat,ns=cI od->ns.Perm (rI m)->∀ ms,dh es od ms->(∃ M∈ms.take (m+1),8<(bl M).length)->∀ H',Same H H'->E (.ref TW) none H') /\
 (∀ od:List Nat,ns=cI od->ns.Perm (rI m)->∀ ms,dh es od ms->(∀ M∈ms.take (m+1),(bl M).length<=8)->∀ u T e H',Same H H'->PrAt H' u e.2->xq es ks od m T->T[0]?=some e->Q u H')
theorem kW{es:En}{od:List Nat}{m M:Nat}(pm:od.Perm (Ju m))(hbd:∀ e∈es,e.1<m/\e.2<m)(f:bg es (mk od) M):M=0:=JV fun x=>by
 rw[f x,Kg]
 cases c:(mk od).testBit x with
 |false=>rfl
 |true =>
  rw[LK]
  cases q:es.any (atF (mk od) x) with
  |false=>rfl
  |true =>
   obtain⟨e,he,ha⟩:=KI.mp q
   have all:∀ y,y<m->(mk od).testBit y=true:=fun y hy=>by
    rw[bo]
    exact decide_eq_true (pm.mem_iff.mpr (Jx.mpr hy))
   obtain⟨b1,b2⟩:=hbd e he
   unfold atF at ha
   rw[all _ b1,all _ b2]at ha
   simp at ha
theorem kU(es:En)(od:List Nat):∀ n,∃ M,bg es n M:=fun n=>by
 have go:∀ k,k<=es.length->∃ M,bg (es.take k) n M:=fun k=>by
  induction k with
  |zero=>intro _;exact⟨0,bg.z n⟩
  |succ k ih =>
   intro hk
   obtain⟨M,hM⟩:=ih (by omega)
   obtain⟨e,he⟩:∃ e,es[k]?=some e:=⟨_,IU (by omega)⟩
   have et:es.take (k+1)=es.take k++[e]:=by rw[Jt,he];rfl
   rw[et]
   by_cases c:n.testBit e.1=n.testBit e.2
   ·exact⟨M,hM.skip c⟩
   ·exact⟨_,hM.put c⟩
 have:=go es.length (IY _)
 rwa[JA]at this
section
variable{P:Program}{w:World}{K:IT}{mg:Str->Option Value}{base:Heap}
theorem at3a{u v x:V}:atI [u,v,x] 0=some u:=rfl
theorem at3b{u v x:V}:atI [u,v,x] 1=some v:=rfl
theorem at3c{u v x:V}:atI [u,v,x] 2=some x:=rfl
theorem kH:aB ["web","order","row"] ["web","order"] (ag cf):=⟨rfl,rfl,rfl,by decide +kernel,rfl,by decide +kernel,by decide +kernel⟩
theorem ok_lm{f f1 BO TW PL PS WC:Addr}{fd d1:FuncData} (F:FunD K "least_many" "least_many" cf f fd #[.none]) (cw:CW K WC) (G_front_table:CalX P w K mg base 5 "front_table" ["web","order","count"] (spFT BO TW PL PS WC) f1 d1):FnOk P w K mg base (CXr P w) 6 f fd ["web","order"] (spLM BO TW PL PS WC):=by
 refine F.okX kH (fun vs H Q E h=>?_) (fun cdv A outer s H vs Q E hr h=>?_)
 ·obtain⟨p,m,es,ts,ks,v,ns,rfl,_⟩:=h
  rfl
 obtain⟨p,m,es,ts,ks,v,ns,rfl,wt,kl,tn,e100,m40,td,kb,kw,kk⟩:=h
 obtain⟨dx,fs,_,_,_,_,hp,lm,_⟩:=id wt
 have hbd:∀ e∈es,e.1<m/\e.2<m:=fun e he=>⟨(tn.ends e he).1,(tn.ends e he).2.1⟩
 refine⟨_,(af (ax (i:=2) kH.nd rfl (Or.inl rfl) (aW a9 (dA G_front_table.ok (hr.mono (by decide)) rfl G_front_table.mg G_front_table.kp G_front_table.bn .nil gL rfl (aa (pv 0) (aa (pv 1) (aa (cp (pv 0) rfl) ah)))) ai (fun _ _=>rfl)))
   (ak (aI (gN (aa (aW bT (pv 2) ai (fun _ _=>rfl)) (aa (aW bT (pv 2) ai (fun _ _=>rfl)) ah)))))),?_⟩
 refine⟨_,rfl,_,rfl,_,rfl,p,WC,dx,fs,_,rfl,hp,cw.cl,cw.n1,lm,p,m,es,ts,ks,v,ns,m,rfl,wt,kl,tn,e100,m40,td,IY _,kb,kw,fun od eo pm ms fr nw=>⟨fun M hM=>?_,fun q rows T H' s' hq ls be=>?_⟩⟩
 ·subst eo
  have pmN:od.Perm (Ju m):=(Kp (by
   have:=pm.nodup_iff.mpr (by unfold rI;exact KO.map _ (fun a b h e=>h (by omega)) JU)
   unfold cI at this
   exact(Le.mp this).imp fun h e=>h (by rw[e])) JU).mpr fun x=>by
    have:=pm.mem_iff (a:=((x:Nat):Int))
    unfold cI rI at this
    rw[Jj,Jj]at this
    constructor
    ·intro h
     obtain⟨y,hy,e⟩:=this.mp ⟨x,h,rfl⟩
     have:y=x:=by omega
     exact this▸hy
    ·intro h
     obtain⟨y,hy,e⟩:=this.mpr ⟨x,h,rfl⟩
     have:y=x:=by omega
     exact this▸hy
  have tk:od.take m=od:=JQ (by rw[pmN.length_eq,JH];exact IY _)
  rw[tk]at hM
  rw[kW pmN hbd hM]
  show(K2.bitsF 0 0).length<=5
  rw[K2.bitsF_zero]
  decide
 subst eo
 obtain⟨M,hM⟩:=kU es [] (mk (od.take m))
 obtain⟨v0,h0⟩:=(be.tb M hM).has 0 (fP _ (od.take m) 0 rfl fun x hx=>by rw[Kg]at hx;cases hx)
 have tl:0<T.length:=KG h0
 obtain⟨e,he⟩:∃ e,T[0]?=some e:=⟨_,IU tl⟩
 obtain⟨y,hy,t,rfl,ht⟩:=ls.2 0 e he
 refine⟨q,rows,0,_,rfl,rfl,SqL.of hq,(show atI rows ((0:Nat):Int)=some (.ref t) from bH hy),?_⟩
 refine⟨_,rfl,t,_,1,_,rfl,rfl,SqT.of ht,at3b,_,rfl,t,_,2,_,rfl,rfl,SqT.of ht,at3c,(by show 2<=sizeLine;decide),fun t2 ht2=>?_⟩
 exact kk od rfl pm ms fr nw (.ref t2) T e _ (s'.trans (aj ht2 _)) ⟨t2,rfl,ae⟩ be he
end
def totC(es:En)(ks:Kn)(L:Nat):Int:=sumL (Ju es.length) fun t=>prT es ks t L
def AnsC(es:En)(ks:Kn)(m:Nat)(v:Pr):Prop:=Bst (lays (Ju m)) (fun _=>True) (totC es ks) v
theorem Ay{od:List Nat}{m:Nat}(pm:od.Perm (Ju m)){L:Nat}:L∈lays od↔L<2^m:=by
 constructor
 ·intro h
  refine K3 L fun x hx=>?_
  cases z:L.testBit x with
  |false=>rfl
  |true =>
   have:=Jx.mp (pm.mem_iff.mp (eX h z))
   omega
 ·intro h
  refine fP _ od L rfl fun x hx=>pm.mem_iff.mpr (Jx.mpr ?_)
  by_cases c:x<m
  ·exact c
  ·have:=KR (Jz h (Kw (by decide) (show m<=x by omega)))
   rw[this]at hx
   cases hx
theorem vX{od:List Nat}{m:Nat}(pm:od.Perm (Ju m)):(lays od).Perm (lays (Ju m)) :=
 (Kp (oS _ od rfl (pm.nodup_iff.mpr JU)) (oS _ _ rfl JU)).mpr fun L=>by rw[Ay pm,Ay (List.Perm.refl _)]
theorem Cn{l r:List Nat}(p:l.Perm r)(f:Nat->Int):sumL l f=sumL r f:=by
 induction p with
 |nil=>rfl
 |cons x _ ih=>rw[aD,aD,ih]
 |swap x y l=>rw[aD,aD,aD,aD];omega
 |trans _ _ a b=>exact a.trans b
theorem Bst.perm{l r:List Nat}{q:Nat->Prop} [DecidablePred q] {f:Nat->Int} {v:Pr} (h:Bst l q f v) (p:l.Perm r):Bst r q f v:=by
 obtain⟨L,a,b,c⟩:=h.ex
 exact⟨⟨L,p.mem_iff.mp a,b,c⟩,fun L hL=>h.lo L (p.mem_iff.mpr hL),by rw[h.ct];exact Cn p _⟩
theorem zJ{es:En}{ks:Kn}{od:List Nat}{m:Nat}(pm:od.Perm (Ju m))(hbd:∀ e∈es,e.1<m/\e.2<m)(L:Nat):cstB es (prT es ks) (mk od) L=totC es ks L:=by
 unfold cstB totC
 refine aF fun t ht=>?_
 obtain⟨e,he⟩:∃ e,es[t]?=some e:=⟨_,IU (Jx.mp ht)⟩
 obtain⟨b1,b2⟩:=hbd e (IW he)
 rw[jV he,bo,bo,decide_eq_true (pm.mem_iff.mpr (Jx.mpr b1)),decide_eq_true (pm.mem_iff.mpr (Jx.mpr b2))]
 rfl
theorem GK{es:En}{ks:Kn}{od:List Nat}{m:Nat}{T:List (Nat×Pr)}{e:Nat×Pr}(pm:od.Perm (Ju m))(hbd:∀ e∈es,e.1<m/\e.2<m)(be:xq es ks od m T)(he:T[0]?=some e):AnsC es ks m e.2:=by
 have tk:od.take m=od:=JQ (by rw[pm.length_eq,JH];exact IY _)
 obtain⟨M,fr⟩:=kU es [] (mk (od.take m))
 have b:=(be.tb M fr).bst e.1 e.2 (IW he)
 rw[tk]at fr b
 have M0:=kW pm hbd fr
 subst M0
 have e0:e.1=0:=by
  obtain⟨L,_,h,_⟩:=b.ex
  have h':L&&&0=e.1:=h
  rw[Li]at h'
  exact h'.symm
 refine Bst.perm (⟨?_,?_,?_⟩:Bst (lays od) (fun _=>True) (totC es ks) e.2) (vX pm)
 ·obtain⟨L,a,_,c⟩:=b.ex
  exact⟨L,a,trivial,by rw[← zJ pm hbd];exact c⟩
 ·intro L hL _
  rw[← zJ pm hbd]
  exact b.lo L hL (by show L&&&0=e.1;rw[e0,Li])
 ·rw[b.ct]
  refine aF fun L _=>?_
  rw[zJ pm hbd]
  by_cases c:totC es ks L=e.2.1
  ·rw[if_pos ⟨by rw[e0,Li],c⟩,if_pos ⟨trivial,c⟩]
  ·rw[if_neg fun z=>c z.2,if_neg fun z=>c z.2]
def K01(ks:Kn):Prop:=∀(t:Nat)(k:Int×Int),ks[t]?=some k->k.1=0∨k.1=1
theorem ans_nn{es:En}{ks:Kn}{m:Nat}{v:Pr}(k0:∀ (t:Nat) (k:Int×Int),ks[t]?=some k->0<=k.2)(a:AnsC es ks m v):0<=v.1:=by
 obtain⟨L,_,_,h⟩:=a.ex
 rw[← h]
 unfold totC
 have go:∀ l:List Nat,0<=sumL l fun t=>prT es ks t L:=fun l=>by
  induction l with
  |nil=>exact KD _
  |cons t l ih =>
   rw[aD]
   have:0<=prT es ks t L:=by
    unfold prT
    split
    ·unfold stg
     cases z:ks[t]? with
     |none=>exact KD _
     |some k=>exact k0 t k z
    ·exact KD _
   omega
 exact go _
structure Star(n c:Nat)(tb:Bool)(os:List Nat)(es:En)(ts:List (List Nat)):Prop where
 n1:1<=n
 ol:os.length=n
 nd:(c::os).Nodup
 lt:∀ x∈c::os,x<n+1
 el:es.length=n
 ev:∀ k x:Nat,os[k]?=some x->es[k]?=some (if tb=true then(x,c) else(c,x))
 tl:ts.length=n+1
 tc:ts[c]?=some (Ju n)
 tv:∀ k x:Nat,os[k]?=some x->ts[x]?=some [k]
def gS(tb:Bool)(i:Nat):Nat:=if tb=true then(if i%2=0 then i+1 else i-1) else i
theorem GC(tb:Bool)(i:Nat):gS tb i/2=i/2:=by
 unfold gS
 split
 ·split<;>omega
 ·rfl
theorem DW(tb:Bool)(i:Nat):gS tb (gS tb i)=i:=by
 unfold gS
 cases tb
 ·simp
 ·simp only[if_true]
  by_cases h:i%2=0
  ·rw[if_pos h,if_neg (by omega)];omega
  ·rw[if_neg h,if_pos (by omega)];omega
theorem gS_lt{tb:Bool}{i n:Nat}(h:i<2*n):gS tb i<2*n:=by
 have:=GC tb i
 omega
theorem wJ{f g:Nat->Nat}{z:Nat}:∀(k s:Nat),(∀ i,s<=i->i<s+k->f (g i)=g (i+1))->f (g (s+k))=z->pA f (g s) ((List.range' (s+1) k).map g) z
 |0,s,_,h=>h
 |k+1,s,h,hz=>by
  rw[List.range'_succ,JJ]
  refine⟨h s (IY _) (by omega),wJ k (s+1) (fun i a b=>h i (by omega) (by omega)) ?_⟩
  rw[show s+1+k=s+(k+1) by omega]
  exact hz
section
variable{n c:Nat}{tb:Bool}{os:List Nat}{es:En}{ts:List (List Nat)}
theorem Star.cn(h:Star n c tb os es ts){k x:Nat}(hx:os[k]?=some x):x≠c:=fun e=>(JD.mp h.nd).1 (e▸IW hx)
theorem Star.at(h:Star n c tb os es ts){k:Nat}(hk:k<n):∃ x,os[k]?=some x:=⟨_,IU (by rw[h.ol];exact hk)⟩
theorem Star.same(h:Star n c tb os es ts){k j x:Nat}(hk:os[k]?=some x)(hj:os[j]?=some x):k=j:=by
 obtain⟨a1,a2⟩:=IS.mp hk
 obtain⟨b1,b2⟩:=IS.mp hj
 have nd:=(JD.mp h.nd).2
 rcases L8 k j with y | y | y
 ·exact absurd (a2.trans b2.symm) (JX.mp nd k j a1 b1 y)
 ·exact y
 ·exact absurd (b2.trans a2.symm) (JX.mp nd j k b1 a1 y)
theorem Star.all(h:Star n c tb os es ts){p:Nat}(hp:p<n+1):p=c∨∃ k:Nat,os[k]?=some p:=by
 by_cases z:p∈c::os
 ·rcases Ja.mp z with z | z
  ·exact .inl z
  ·exact .inr (JY z)
 ·exfalso
  have:=ic (JD.mpr ⟨z,h.nd⟩) (N:=n+1) fun y hy=>by
   rcases Ja.mp hy with u | u
   ·rw[u];exact hp
   ·exact h.lt y u
  rw[JL,JL,h.ol]at this
  omega
theorem Star.en(h:Star n c tb os es ts){t:Nat}{e:Nat×Nat}(he:es[t]?=some e):∃ x,os[t]?=some x/\e=(if tb=true then(x,c) else(c,x)):=by
 obtain⟨x,hx⟩:=h.at (k:=t) (by rw[← h.el];exact(IS.mp he).1)
 refine⟨x,hx,?_⟩
 rw[h.ev t x hx]at he
 exact(Js he).symm
theorem Star.turn(h:Star n c tb os es ts):cX (n+1) es ts where
 len:=h.tl
 ends:=fun e he=>by
  obtain⟨t,ht⟩:=JY he
  obtain⟨x,hx,rfl⟩:=h.en ht
  have a:=h.lt c (Jn ..)
  have b:=h.lt x (Jk _ (IW hx))
  have ne:=h.cn hx
  cases tb
  ·exact⟨a,b,fun z=>ne z.symm⟩
  ·exact⟨b,a,ne⟩
 nd:=fun p l hl=>by
  have hp:p<n+1:=by rw[← h.tl];exact(IS.mp hl).1
  rcases h.all hp with z | ⟨k,hk⟩
  ·rw[z,h.tc]at hl
   cases hl
   exact JU
  ·rw[h.tv k p hk]at hl
   cases hl
   simp
 mem:=fun p l hl t=>by
  have hp:p<n+1:=by rw[← h.tl];exact(IS.mp hl).1
  rcases h.all hp with z | ⟨k,hk⟩
  ·subst z
   rw[h.tc]at hl
   cases hl
   rw[Jx]
   constructor
   ·intro ht
    obtain⟨x,hx⟩:=h.at ht
    refine⟨_,h.ev t x hx,?_⟩
    cases tb
    ·exact .inl rfl
    ·exact .inr rfl
   ·rintro⟨e,he,_⟩
    rw[← h.el]
    exact(IS.mp he).1
  ·have pc:=h.cn hk
   rw[h.tv k p hk]at hl
   cases hl
   rw[Jq]
   constructor
   ·rintro rfl
    refine⟨_,h.ev t p hk,?_⟩
    cases tb
    ·exact .inr rfl
    ·exact .inl rfl
   ·rintro⟨e,he,q⟩
    obtain⟨x,hx,rfl⟩:=h.en he
    have:x=p:=by
     cases tb
     ·rcases q with q | q
      ·exact absurd q.symm pc
      ·exact q
     ·rcases q with q | q
      ·exact q
      ·exact absurd q.symm pc
    subst this
    exact h.same hx hk
theorem gS_f(i:Nat):gS false i=i:=rfl
theorem gS_t0(k:Nat):gS true (2*k)=2*k+1:=by
 unfold gS
 rw[if_pos rfl,if_pos (by omega)]
theorem gS_t1(k:Nat):gS true (2*k+1)=2*k:=by
 unfold gS
 rw[if_pos rfl,if_neg (by omega)]
 omega
theorem hd_at{es:En}{k:Nat}{e:Nat×Nat}(h:es[k]?=some e):hd es (2*k)=e.2/\hd es (2*k+1)=e.1:=by
 unfold hd
 rw[show 2*k/2=k by omega,show(2*k+1)/2=k by omega,h]
 exact⟨if_pos (by omega),if_neg (by omega)⟩
theorem Star.hd0(h:Star n c tb os es ts){k x:Nat}(hx:os[k]?=some x):hd es (gS tb (2*k))=x/\hd es (gS tb (2*k+1))=c:=by
 obtain⟨a,b⟩:=hd_at (h.ev k x hx)
 cases tb
 ·rw[gS_f,gS_f]
  exact⟨a,b⟩
 ·rw[gS_t0,gS_t1]
  exact⟨b,a⟩
theorem Star.lv(h:Star n c tb os es ts){k x:Nat}(hx:os[k]?=some x):leave es k c=gS tb (2*k)/\leave es k x=gS tb (2*k+1):=by
 have e:=h.ev k x hx
 have ne:=h.cn hx
 unfold leave
 rw[e]
 cases tb
 ·rw[gS_f,gS_f]
  exact⟨if_pos rfl,if_neg fun z=>ne z.symm⟩
 ·rw[gS_t0,gS_t1]
  exact⟨if_neg ne,if_pos rfl⟩
theorem Star.step(h:Star n c tb os es ts){i:Nat}(hi:i<2*n):fol es ts (gS tb i)=gS tb ((i+1)%(2*n)):=by
 obtain⟨x,hx⟩:=h.at (k:=i/2) (by omega)
 obtain⟨d1,d2⟩:=h.hd0 hx
 unfold fol
 rw[GC]
 by_cases o:i%2=0
 ·have e:i=2*(i/2):=by omega
  have hd':hd es (gS tb i)=x:=by
   have:gS tb i=gS tb (2*(i/2)):=by rw[← e]
   rw[this];exact d1
  rw[hd',h.tv _ x hx]
  have nx:nxt [i/2] (i/2)=i/2:=by
   unfold nxt
   simp
  show leave es (nxt [i/2] (i/2)) x=_
  rw[nx,(h.lv hx).2,Kk (by omega)]
  rw[show 2*(i/2)+1=i+1 by omega]
 ·have e:i=2*(i/2)+1:=by omega
  have hd':hd es (gS tb i)=c:=by
   have:gS tb i=gS tb (2*(i/2)+1):=by rw[← e]
   rw[this];exact d2
  rw[hd',h.tc]
  have nx:nxt (Ju n) (i/2)=(i/2+1)%n:=by
   unfold nxt
   have ix:(Ju n).idxOf (i/2)=i/2:=by
    have hm:i/2∈Ju n:=Jx.mpr (by omega)
    have:=zd hm
    rw[Ls (by have:=K5.mpr hm;rwa[JH]at this)]at this
    exact Js this
   rw[ix,JH,Ls (Nat.mod_lt _ (by omega))]
   rfl
  show leave es (nxt (Ju n) (i/2)) c=_
  rw[nx]
  have hm:(i/2+1)%n<n:=Nat.mod_lt _ h.n1
  obtain⟨y,hy⟩:=h.at hm
  rw[(h.lv hy).1]
  congr 1
  by_cases z:i/2+1=n
  ·rw[z,Lh,show i+1=2*n by omega,Lh]
  ·rw[Kk (show i/2+1<n by omega),Kk (by omega)]
   omega
theorem Star.gr(h:Star n c tb os es ts):Gr (n+1) es ts where
 w:=h.turn
 part:=by
  have n1:=h.n1
  refine⟨[(Ju (2*n)).map (gS tb)],⟨fun r hr=>?_,?_,fun d hd=>?_⟩,by rw[h.el];simp⟩
  ·rw[Jq.mp hr]
   refine⟨⟨gS tb 0,(List.range' 1 (2*n-1)).map (gS tb),?_,?_⟩,fun d hd=>?_,?_⟩
   ·have:Ju (2*n)=0::List.range' 1 (2*n-1):=by
     rw[List.range_eq_range',show 2*n=(2*n-1)+1 by omega,List.range'_succ]
     simp
    rw[this,JJ]
   ·refine wJ (f:=fol es ts) (g:=gS tb) (2*n-1) 0 (fun i _ b=>?_) ?_
    ·rw[h.step (by omega),Kk (by omega)]
    ·rw[h.step (by omega),show 0+(2*n-1)+1=2*n by omega,Lh]
   ·obtain⟨i,hi,rfl⟩:=Jj.mp hd
    rw[h.el]
    exact gS_lt (Jx.mp hi)
   ·refine KO.map _ (fun a b ne e=>ne ?_) JU
    have:=congrArg (gS tb) e
    rwa[DW,DW]at this
  ·rw[Lf,List.flatten_nil,Kv]
   refine KO.map _ (fun a b ne e=>ne ?_) JU
   have:=congrArg (gS tb) e
   rwa[DW,DW]at this
  ·rw[Lf,List.flatten_nil,Kv]
   rw[h.el]at hd
   exact Jj.mpr ⟨gS tb d,Jx.mpr (gS_lt hd),DW tb d⟩
 conn:=fun S hS p q hp hq sp=>by
  have to:∀{k x:Nat},os[k]?=some x->(S x↔S c):=fun{k x} hx=>by
   have e:=hS _ (IW (h.ev k x hx))
   cases tb
   ·exact e.symm
   ·exact e
  have sc:S c:=by
   rcases h.all hp with z | ⟨k,hk⟩
   ·exact z▸sp
   ·exact(to hk).mp sp
  rcases h.all hq with z | ⟨k,hk⟩
  ·exact z▸sc
  ·exact(to hk).mpr sc
end
theorem all_cg{l:List Nat}{p q:Nat->Bool}(h:∀ x∈l,p x=q x):l.all p=l.all q:=by
 induction l with
 |nil=>rfl
 |cons x l ih=>rw[List.all_cons,List.all_cons,h x (Jn ..),ih fun y hy=>h y (Jk _ hy)]
theorem Ha{α:Type}(l:List α)(f:α->Int)(c:Int):sumL l (fun x=>c*f x)=c*sumL l f:=by
 induction l with
 |nil=>rw[fO,fO,Int.mul_zero]
 |cons x l ih=>rw[aD,aD,ih,Int.mul_add]
def dueK(ks:Kn):Int:=ks.foldl (fun d k=>if k.2=0 then d*2 else d) 2
theorem k7(ks:Kn)(k:Int×Int):dueK (ks++[k])=if k.2=0 then dueK ks*2 else dueK ks:=by
 unfold dueK
 rw[List.foldl_append]
 rfl
theorem AL:∀(n:Nat)(ks:Kn),ks.length=n->2<=dueK ks
 |0,ks,h=>by rw[Kx.mp h];exact KD _
 |n+1,ks,h=>by
  have ne:ks≠[]:=fun e=>by rw[e]at h;cases h
  have eq:ks.dropLast++[ks.getLast ne]=ks:=KU ne
  have ih:=AL n ks.dropLast (by rw[KL,h];rfl)
  rw[← eq,k7]
  split<;>omega
def okL(es:En)(ks:Kn)(j L:Nat):Bool:=(Ju j).all fun k=>decide (prT es ks k L=0)
theorem Aw(es:En)(ks:Kn)(j L:Nat):okL es ks (j+1) L=(okL es ks j L&&decide (prT es ks j L=0)):=by
 unfold okL
 rw[LN,List.all_append]
 simp
theorem HX{es:En}{ks:Kn}(nn:∀ (t:Nat) (k:Int×Int),ks[t]?=some k->0<=k.2)(L:Nat):okL es ks es.length L=true↔totC es ks L=0:=by
 have p0:∀ t,0<=prT es ks t L:=fun t=>by
  unfold prT
  split
  ·unfold stg
   cases z:ks[t]? with
   |none=>exact KD _
   |some k=>exact nn t k z
  ·exact KD _
 unfold totC okL
 generalize es.length=n
 have go:∀ n,0<=sumL (Ju n) (fun t=>prT es ks t L)/\(((Ju n).all fun k=>decide (prT es ks k L=0))=true↔sumL (Ju n) (fun t=>prT es ks t L)=0):=fun n=>by
  induction n with
  |zero=>exact⟨KD _,fun _=>rfl,fun _=>rfl⟩
  |succ n ih =>
   have q:=p0 n
   rw[LN,kC,aD,fO,List.all_append]
   refine⟨by omega,?_⟩
   have e1:([n].all fun k=>decide (prT es ks k L=0))=decide (prT es ks n L=0):=by simp
   rw[e1,JR,decide_eq_true_iff,ih.2]
   omega
 exact(go n).2
theorem E9{es:En}{ks:Kn}{j L x c:Nat}{tb:Bool}{k:Int×Int}(he:es[j]?=some (if tb=true then(x,c) else(c,x)))(hk:ks[j]?=some k)(k01:k.1=0∨k.1=1)(hx:L.testBit x=false)(ne:x≠c) :
  (if prT es ks j L=0 then(1:Int) else 0)+(if prT es ks j (L|||2^x)=0 then(1:Int) else 0)=if k.2=0 then 2 else 1:=by
 have a1:=bitD L c
 have a2:=bitD L x
 have b1:=bitD (L|||2^x) c
 have b2:=bitD (L|||2^x) x
 rw[J2,JF,decide_eq_false ne,Lo]at b1
 rw[J2,JF,decide_eq_true rfl,Bool.or_true,if_pos rfl]at b2
 rw[hx,if_neg Jo]at a2
 rw[CV he hk k01,CV he hk k01]
 have sw:∀(N:Nat),((N:Int)/2^(((if tb=true then(x,c) else(c,x)).1:Nat):Int).toNat+(N:Int)/2^(((if tb=true then(x,c) else(c,x)).2:Nat):Int).toNat)=(N:Int)/2^((c:Nat):Int).toNat+(N:Int)/2^((x:Nat):Int).toNat:=fun N=>by
  cases tb
  ·rfl
  ·exact Int.add_comm _ _
 rw[sw,sw]
 generalize (L:Int)/2^((c:Nat):Int).toNat=A at *
 generalize (L:Int)/2^((x:Nat):Int).toNat=B at *
 generalize ((L|||2^x:Nat):Int)/2^((c:Nat):Int).toNat=C at *
 generalize ((L|||2^x:Nat):Int)/2^((x:Nat):Int).toNat=D at *
 generalize (if L.testBit c=true then(1:Int) else 0)=y at *
 by_cases c1:(A+B+k.1)%2=1
 ·rw[if_pos c1,if_neg (show ¬ (C+D+k.1)%2=1 by omega),if_pos rfl]
  split<;>rfl
 ·rw[if_neg c1,if_pos (show(C+D+k.1)%2=1 by omega),if_pos rfl]
  split<;>rfl
theorem Ag{n c:Nat}{tb:Bool}{os:List Nat}{es:En}{ts:List (List Nat)}{ks:Kn}(h:Star n c tb os es ts)(kl:ks.length=n)(k01:K01 ks):∀ j,j<=n->(sumL (lays (c::os.take j)) fun L=>if okL es ks j L=true then(1:Int) else 0)=dueK (ks.take j)
 |0,_=>by
  rw[Lz,Lz]
  have e:lays [c]=lays ([]++[c]):=rfl
  rw[e,fK,kC,nR]
  rfl
 |j+1,hj=>by
  have ih:=Ag h kl k01 j (by omega)
  obtain⟨x,hx⟩:=h.at (k:=j) (by omega)
  obtain⟨k,hk⟩:∃ k,ks[j]?=some k:=⟨_,IU (by omega)⟩
  have et:c::os.take (j+1)=(c::os.take j)++[x]:=by rw[Jt,hx];rfl
  have ek:ks.take (j+1)=ks.take j++[k]:=by rw[Jt,hk];rfl
  have ne:=h.cn hx
  have xn:x∉c::os.take j:=fun z=>by
   rcases Ja.mp z with z | z
   ·exact ne z
   ·obtain⟨i,hi⟩:=JY z
    rw[Kh]at hi
    split at hi
    ·have:=h.same hi hx
     omega
    ·cases hi
  rw[et,ek,fK,kC,nR,k7,← kD,← ih]
  have per:∀ L∈lays (c::os.take j),(if okL es ks (j+1) L=true then(1:Int) else 0)+(if okL es ks (j+1) (L|||2^x)=true then(1:Int) else 0)=(if k.2=0 then 2 else 1)*(if okL es ks j L=true then(1:Int) else 0):=fun L hL=>by
   have lx:L.testBit x=false:=by
    cases z:L.testBit x with
    |false=>rfl
    |true=>exact absurd (eX hL z) xn
   have same:okL es ks j (L|||2^x)=okL es ks j L:=by
    unfold okL
    refine all_cg fun t ht=>?_
    have ht:=Jx.mp ht
    obtain⟨y,hy⟩:=h.at (k:=t) (by omega)
    have nxy:x≠y:=fun z=>by
     subst z
     have:=h.same hx hy
     omega
    have bit:∀ z,x≠z->(L|||2^x).testBit z=L.testBit z:=fun z hz=>by
     rw[J2,JF,decide_eq_false hz,Lo]
    have:=CY (es:=es) (ks:=ks) (by rw[kl,h.el]) t _ (h.ev t y hy) (L|||2^x) L (bit _ (by cases tb;exact ne;exact nxy)) (bit _ (by cases tb;exact nxy;exact ne))
    rw[this]
   have two:=E9 (L:=L) (h.ev j x hx) hk (k01 j k hk) lx ne
   rw[Aw,Aw,same]
   cases z:okL es ks j L with
   |false=>simp
   |true =>
    simp only[LK,decide_eq_true_eq]
    rw[two]
    simp
  rw[aF per,Ha]
  split<;>omega
theorem Fb{n c:Nat}{tb:Bool}{os:List Nat}{es:En}{ts:List (List Nat)}{ks:Kn}{v:Pr}(h:Star n c tb os es ts)(kl:ks.length=n)(k01:K01 ks)(nn:∀ (t:Nat) (k:Int×Int),ks[t]?=some k->0<=k.2)(pm:(c::os).Perm (Ju (n+1)))(a:AnsC es ks (n+1) v):v=(0,dueK ks):=by
 have ct:=Ag h kl k01 n (IY _)
 rw[JQ (by rw[h.ol];exact IY _),JQ (by omega)]at ct
 have b:Bst (lays (c::os)) (fun _=>True) (totC es ks) v:=Bst.perm a (vX pm).symm
 have eq:∀ L,okL es ks n L=true↔totC es ks L=0:=fun L=>by
  rw[← h.el]
  exact HX nn L
 have v0:0<=v.1:=ans_nn nn a
 have dp:=AL _ ks rfl
 obtain⟨L,hL,hz⟩:∃ L∈lays (c::os),totC es ks L=0:=by
  by_cases q:∃ L∈lays (c::os),totC es ks L=0
  ·exact q
  ·exfalso
   have:(sumL (lays (c::os)) fun L=>if okL es ks n L=true then(1:Int) else 0)=sumL (lays (c::os)) fun _=>0:=aF fun L hL=>if_neg fun z=>q ⟨L,hL,(eq L).mp z⟩
   rw[this,da]at ct
   omega
 have e1:v.1=0:=by
  have:=b.lo L hL trivial
  omega
 refine Prod.ext e1 ?_
 rw[b.ct,e1]
 show _=dueK ks
 rw[← ct]
 refine aF fun L _=>?_
 by_cases q:totC es ks L=0
 ·rw[if_pos ⟨trivial,q⟩,if_pos ((eq L).mpr q)]
 ·rw[if_neg fun z=>q z.2,if_neg fun z=>q ((eq L).mp z)]
def odS(c a:Nat)(os:List Nat):List Nat:=os.take a++c::os.drop a
theorem mk_lt{l:List Nat}{m:Nat}(lt:∀ x∈l,x<m):mk l<2^m:=K3 _ fun x hx=>by
 rw[bo]
 exact decide_eq_false fun z=>by have:=lt x z;omega
theorem bl_mk{l:List Nat}{m:Nat}(nd:l.Nodup)(lt:∀ x∈l,x<m):(bl (mk l)).length=l.length:=by
 rw[AU (mk_lt lt)]
 refine List.Perm.length_eq ((Kp ((JU).filter _) nd).mpr fun x=>?_)
 rw[JZ,bo,decide_eq_true_iff,Jx]
 exact⟨fun z=>z.2,fun z=>⟨lt x z,z⟩⟩
section
variable{n c a:Nat}{tb:Bool}{os:List Nat}{es:En}{ts:List (List Nat)}
theorem tM(h:Star n c tb os es ts):(odS c a os).Perm (c::os):=by
 unfold odS
 refine List.perm_middle.trans (List.Perm.cons _ ?_)
 rw[Lj]
theorem Dl{k:Nat}(ha:a<=os.length)(hk:k<=a):(odS c a os).take k=os.take k:=by
 unfold odS
 rw[Mf (by rw[JE];omega),List.take_take,K7 hk]
theorem odS_hi{k:Nat}(ha:a<=os.length)(hk:a<k):c∈(odS c a os).take k:=by
 unfold odS
 rw[List.take_append,JE,K7 ha]
 refine Jc _ ?_
 obtain⟨j,hj⟩:∃ j,k-a=j+1:=⟨k-a-1,by omega⟩
 rw[hj,List.take_succ_cons]
 exact Jn ..
theorem vh(h:Star n c tb os es ts){k:Nat}:bg es (mk (os.take k)) (mk (os.take k)):=fun x=>by
 rw[bo]
 by_cases z:x∈os.take k
 ·rw[decide_eq_true z,LK]
  symm
  rw[KI]
  obtain⟨j,hj⟩:=JY (Kb z)
  refine⟨_,IW (h.ev j x hj),?_⟩
  have cn:(mk (os.take k)).testBit c=false:=by
   rw[bo]
   exact decide_eq_false fun q=>(JD.mp h.nd).1 (Kb q)
  unfold atF
  cases tb
  ·simp[cn]
  ·simp[cn]
 ·rw[decide_eq_false z,Lg]
theorem iT(h:Star n c tb os es ts){k M:Nat}(ha:a<=n)(hk:k<=a)(fr:bg es (mk ((odS c a os).take k)) M):M=mk (os.take k)/\(bl M).length=k:=by
 have ol:=h.ol
 rw[Dl (by omega) hk]at fr
 have e:M=mk (os.take k):=bg.one fr (vh h)
 refine⟨e,?_⟩
 rw[e,bl_mk (m:=n+1) ((JD.mp h.nd).2.sublist (LA _ _)) fun x hx=>h.lt x (Jk _ (Kb hx)),JE]
 omega
theorem A0(h:Star n c tb os es ts){k M:Nat}(ha:a<=n)(hk:a<k)(fr:bg es (mk ((odS c a os).take k)) M):(bl M).length<=1:=by
 have ol:=h.ol
 have ci:=odS_hi (c:=c) (os:=os) (by omega) hk
 have only:∀ x,M.testBit x=true->x=c:=fun x hx=>by
  rw[fr x]at hx
  obtain⟨_,h2⟩:=JR.mp hx
  obtain⟨e,he,ha⟩:=KI.mp h2
  obtain⟨t,ht⟩:=JY he
  obtain⟨y,hy,rfl⟩:=h.en ht
  have cb:(mk ((odS c a os).take k)).testBit c=true:=by rw[bo];exact decide_eq_true ci
  unfold atF at ha
  cases tb
  ·rcases Lv.mp ha with z | z
   ·have:=(JR.mp z).1
    simpa using(show(c == x)=true from this) |> fun q=>(by simpa using q:c=x).symm
   ·have:=(JR.mp z).2
    have q:(!(mk ((odS c a os).take k)).testBit c)=true:=this
    rw[cb]at q
    cases q
  ·rcases Lv.mp ha with z | z
   ·have:=(JR.mp z).2
    have q:(!(mk ((odS c a os).take k)).testBit c)=true:=this
    rw[cb]at q
    cases q
   ·have:=(JR.mp z).1
    simpa using(show(c == x)=true from this) |> fun q=>(by simpa using q:c=x).symm
 have lt:M<2^(n+1):=K3 _ fun x hx=>by
  cases z:M.testBit x with
  |false=>rfl
  |true =>
   have e:=only x z
   have:=h.lt c (Jn ..)
   omega
 have:=hJ (a:=bl M) (b:=[c]) (by rw[AU lt];exact(JU).filter _) fun x hx=>by
  rw[AU lt]at hx
  exact Jq.mpr (only x (JZ.mp hx).2)
 exact this
theorem Cr(h:Star n c tb os es ts){ks:Kn}{k:Nat}{T:List (Nat×Pr)}(ha:a<=n)(hk:k<=a)(be:xq es ks (odS c a os) k T):T.length=2^k/\∀ s v,(s,v)∈T->s&&&mk (os.take k)=s/\v=(0,1):=by
 have ol:=h.ol
 have fr:bg es (mk ((odS c a os).take k)) (mk (os.take k)):=by
  rw[Dl (by omega) hk]
  exact(vh h)
 have tb':=be.tb _ fr
 rw[Dl (by omega) hk]at tb'
 have ndk:(os.take k).Nodup:=(JD.mp h.nd).2.sublist (LA _ _)
 have cz:∀ L,cstB es (prT es ks) (mk (os.take k)) L=0:=fun L=>by
  unfold cstB
  refine(aF (g:=fun _=>(0:Int)) fun t ht=>?_).trans (da _)
  obtain⟨e,he⟩:∃ e,es[t]?=some e:=⟨_,IU (Jx.mp ht)⟩
  obtain⟨y,hy,rfl⟩:=h.en he
  have cn:(mk (os.take k)).testBit c=false:=by
   rw[bo]
   exact decide_eq_false fun q=>(JD.mp h.nd).1 (Kb q)
  have no:((mk (os.take k)).testBit (if tb=true then(y,c) else(c,y)).1&&(mk (os.take k)).testBit (if tb=true then(y,c) else(c,y)).2)=false:=by
   cases tb
   ·show((mk (os.take k)).testBit c&&(mk (os.take k)).testBit y)=false
    rw[cn,Lg]
   ·show((mk (os.take k)).testBit y&&(mk (os.take k)).testBit c)=false
    rw[cn,LR]
  rw[jV he,no,if_neg Jo]
 constructor
 ·have:=tb'.full (qs:=os.take k) (fun x=>by rw[bo,decide_eq_true_iff]) ndk fun x hx=>hx
  rw[this,JE,ol,K7 (by omega)]
 ·intro s v hv
  have b:=tb'.bst s v hv
  have key:∀ L∈lays (os.take k),L&&&mk (os.take k)=L:=fun L hL=>JV fun x=>by
   rw[Kj,bo]
   cases z:L.testBit x with
   |false=>rfl
   |true=>rw[decide_eq_true (eX hL z)];rfl
  obtain⟨L,hL,e,f0⟩:=b.ex
  have e':L&&&mk (os.take k)=s:=e
  rw[key L hL]at e'
  subst e'
  refine⟨key L hL,Prod.ext ?_ ?_⟩
  ·rw[← f0];exact cz L
  ·rw[b.ct]
   have v1:v.1=0:=by rw[← f0];exact cz L
   have one:=kB (k:=fun x:Nat=>x) (l:=lays (os.take k)) (x:=L) (fun _=>(1:Int)) (by rw[List.map_id'];exact oS _ _ rfl ndk) hL
   refine(aF (g:=fun y=>if L=y then(1:Int) else 0) fun N hN=>?_).trans one
   by_cases q:L=N
   ·have hc:N&&&mk (os.take k)=L/\cstB es (prT es ks) (mk (os.take k)) N=v.1:=⟨by rw[key N hN,q],by rw[cz,v1]⟩
    rw[if_pos hc,if_pos q]
   ·rw[if_neg fun z=>q (by have:=z.1;rw[key N hN]at this;exact this.symm),if_neg q]
end
end K8
namespace K8
open PySem L2
local macro_rules | `(tactic| walk_at "cc") => `(tactic| first | exact ⟨by decide, by decide⟩ | (show (0 : Int) < _; decide) | (show (0 : Int) < _; omega) | (show (0 : Int) ≤ _; omega) | exact ⟨by decide, by decide, by decide⟩ | exact ⟨by omega, by omega, by decide⟩ | exact Or.inl ⟨by decide, by decide⟩ | exact Or.inl ⟨by omega, by omega⟩)
local macro_rules | `(tactic| walk_at "rd") => `(tactic| repeat (first | refine ⟨_, rfl, ?_⟩ | refine ⟨_, _, rfl, rfl, ?_⟩ | refine ⟨rfl, ?_⟩ | (refine ⟨?cc, ?_⟩; (case cc => walk_at "cc"))))
def esS(tb:Bool)(c:Nat)(os:List Nat):En:=os.map fun x=>if tb=true then(x,c) else(c,x)
theorem bq.set{H:Hp}{zs:List V}{ts:List (List Nat)}{i:Nat}{q:Addr}{l:List Nat}(h:bq H zs ts)(hq:H q=some (.lst (l.map iV))):bq H (zs.set i (.ref q)) (ts.set i l):=by
 refine⟨by rw[Ku,Ku];exact h.1,fun j l' e=>?_⟩
 rw[KC]at e ⊢
 by_cases c:i=j
 ·subst c
  rw[if_pos rfl]at e ⊢
  by_cases b:i<ts.length
  ·rw[if_pos b]at e
   cases e
   rw[if_pos (by rw[h.1];exact b)]
   exact⟨q,rfl,hq⟩
  ·rw[if_neg b]at e
   cases e
 ·rw[if_neg c]at e ⊢
  exact h.2 j l' e
def Cv(K:IT):Sp:=fun vs H Q _=>∃(a:Addr)(ns:List Int)(n:Nat),vs = [.ref a,.int (n:Int)]/\SqL K H a (ns.map V.int)/\n<=39/\ns.length<=63/\∀(q:Addr)(ws:List V)(ks:Kn)(H':Hp),Same H H'->H q=none->H' q=some (.lst ws)->fi H' ws ks->ks.length=n->Q (.ref q) H'
def Cw(PL PS WC:Addr):Sp:=fun vs H Q _=>∃(c n:Nat)(tb:Bool)(o pk:Addr)(os:List Nat)(ws:List V)(ks:Kn),vs = [.int (c:Int),.ref o,.ref pk,.bl tb]/\H o=some (.lst (os.map iV))/\H pk=some (.lst ws)/\fi H ws ks/\ks.length=n/\1<=n/\n<=39/\os.length=n/\(c::os).Nodup/\(∀ x∈c::os,x<n+1) /\
 ∀(p:Addr)(es:En)(ts rs:List (List Nat))(H':Hp),Same H H'->Star n c tb os es ts->WebF (fun a=>H a≠none) PL PS WC H' p (n+1) es ts rs ks->Q (.ref p) H'
def starT(PL PS:Addr):TS:=fun D σ H=>∃(c i:Nat)(tb:Bool)(o pk q te pk':Addr)(us ws:List V)(e:Nat×Nat)(k:Int×Int)(v7:Option V),σ = [some (.int (c:Int)),some (.ref o),some (.ref pk),some (.bl tb),some (.ref q),some (.int (i:Int)),some (.ref te),v7] /\
 H te=some (.tup [iV e.1,iV e.2])/\H q=some (.lst us)/\us.length<=39/\H pk=some (.lst ws)/\ws[i]?=some (.ref pk')/\H pk'=some (.tup [.int k.1,.int k.2])/\0<=k.2/\e.1≠e.2/\(∀(x dx:Addr)(H':Hp),Same H H'->H' x=some (.ins (cls PL PS (decide (k.1=1))) dx (tf (e.1:Int) (e.2:Int) k.2))->D.nx σ (upd H' q (.lst (us++[.ref x]))))
def toldT:TS:=fun D σ H=>∃(a q:Addr)(n i:Nat)(cl st:Int)(zs:List V),σ = [some (.ref a),some (.int (n:Int)),some (.ref q),some (.int (i:Int)),some (.int cl),some (.int st)]/\H q=some (.lst zs)/\zs.length<=39 /\
 ∀ t,H t=none->D.nx σ (upd (upd H t (.tup [.int (cl%2),.int st])) q (.lst (zs++[.ref t])))
section
variable{P:Program}{w:World}{K:IT}{mg:Str->Option Value}{base:Heap}
theorem cM:aB ["script","leaves","told","k","cell","strength"] ["script","leaves"] (ag dS):=⟨rfl,rfl,rfl,by decide +kernel,rfl,by decide +kernel,by decide +kernel⟩
theorem HI{f fc:Addr}{fd dc:FuncData} (F:Fun K "_law_told" "_law_told" dS f fd) (T:Txt mg) (G_law_cell:Cal P w K mg base 1 "_law_cell" ["script","k"] (Ak K) fc dc):FnOk P w K mg base CX0 2 f fd ["script","leaves"] (Cv K):=by
 refine F.ok cM (fun vs H Q E h=>?_) (fun cdv A outer s H vs Q E hr h=>?_)
 ·obtain⟨a,ns,n,rfl,_⟩:=h
  rfl
 obtain⟨a,ns,n,rfl,hS,n39,h63,kk⟩:=h
 refine⟨_,(af (ax (i:=2) cM.nd rfl (Or.inl rfl) (dv ah))
   (af (ck PassesOwn.never rfl (cA rfl T.n_range (aa (pv 1) ah)) (aM (i:=3) cM.nd rfl (Or.inl rfl)) (af (ax (i:=4) cM.nd rfl (Or.inl rfl) (aG G_law_cell.ok (hr.mono (by decide)) rfl G_law_cell.mg G_law_cell.kp G_law_cell.bn .nil aZ (aa (pv 0) (aa (aC cL ai (aC eW (pv 3) (aq (EE rfl) (by rfl) T.n_max bt_max (aa ai (aa (aC As (aq aA (by rfl) T.n_len cu (aa (pv 0) ah)) ai) ah))))) ah))))
   (af (ax (i:=5) cM.nd rfl (Or.inl rfl) (aC eW (aC fq (pv 4) ai) (aC cL (aC op_pow ai ai) ai)))
   (af (bQ (aE lG (aC eW (aC fq (pv 4) ai) ai) ai (aJ _)) (ak (ax (i:=5) cM.nd rfl (Or.inl rfl) ai)) aK)
   (gY (t2:=toldT) (ak (bR (nA JM JP JO bD (pv 2) (aa (gN (aa (aC eW (pv 4) ai) (aa (pv 5) ah))) ah)))) (fun D0 S0 H0 h0=>?restt))))))
   (ak (aI (pv 2))))),?_⟩
 case restt =>
  obtain⟨a,q,n,i,cl,st,zs,rfl,hq,zl,kk⟩:=h0
  refine⟨_,rfl,.inl ⟨rfl,_,SqL.of hq⟩,_,rfl,_,_,rfl,rfl,(by show(0:Int)<2;decide),_,rfl,(by show 2<=sizeLine;decide),fun t ht=>?_⟩
  exact⟨q,zs,_,rfl,rfl,aj ht _ _ _ hq,aw (by omega),kk t ht⟩
 refine⟨(by show 0<=sizeLine;exact Kc _),fun q hq=>?_⟩
 have s1:=aj hq (.lst [])
 refine⟨_,rfl,_,rfl,by omega,by omega,iy (n:=((n:Nat):Int).toNat) (fun i σ H2=>∃(zs:List V)(k2:Kn)(v3 v4 v5:Option V),σ = [some (.ref a),some (.int (n:Int)),some (.ref q),v3,v4,v5]/\Same H H2/\H2 q=some (.lst zs)/\fi H2 zs k2/\k2.length=i) ⟨[],[],_,_,_,rfl,s1,ae,⟨rfl,fun i k e=>by simp at e⟩,rfl⟩ ?_ ?_⟩
 ·rintro i σ H2 hi ⟨zs,k2,v3,v4,v5,rfl,s2,hq2,td,kl2⟩
  rw[JI]at hi
  have e0:(0:Int)+(i:Int)=(i:Int):=KA _
  rw[e0]
  have hS2:=s2.seq hS
  have nl:(ns.map V.int).length=ns.length:=IV ..
  have mpos:(0:Int)<(if(((ns.map V.int).length:Nat):Int)-1 > 1 then(((ns.map V.int).length:Nat):Int)-1 else 1):=by split<;>omega
  obtain⟨kx,ekx⟩:∃ kx:Nat,(1:Int)+(i:Int)%(if(((ns.map V.int).length:Nat):Int)-1 > 1 then(((ns.map V.int).length:Nat):Int)-1 else 1)=(kx:Int):=by
   have h1:=Lu (i:Int) (show(if(((ns.map V.int).length:Nat):Int)-1 > 1 then(((ns.map V.int).length:Nat):Int)-1 else 1)≠0 by split<;>omega)
   exact⟨((1:Int)+(i:Int)%(if(((ns.map V.int).length:Nat):Int)-1 > 1 then(((ns.map V.int).length:Nat):Int)-1 else 1)).toNat,by omega⟩
  have fin:∀(cl st:Int)(D:Ends),0<=st->(∀ σ' H',(∃(zs:List V)(k2:Kn)(v3 v4 v5:Option V),σ' = [some (.ref a),some (.int (n:Int)),some (.ref q),v3,v4,v5]/\Same H H'/\H' q=some (.lst zs)/\fi H' zs k2/\k2.length=i+1)->D.nx σ' H')->toldT D [some (.ref a),some (.int (n:Int)),some (.ref q),some (.int (i:Int)),some (.int cl),some (.int st)] H2:=fun cl st D h0 hD=>by
   refine⟨a,q,n,i,cl,st,zs,rfl,hq2,by rw[td.1,kl2];omega,fun t ht=>hD _ _ ?_⟩
   have s3:=aj ht (.tup [.int (cl%2),.int st])
   have td3:=(td.mono s3).snoc (k:=(cl%2,st)) ae (by show cl%2=0∨cl%2=1;omega) h0
   exact⟨_,_,_,_,_,rfl,bb (s2.trans s3) hq _,ae,td3.put (s3 _ _ hq2),by rw[IX,kl2];rfl⟩
  refine⟨_,rfl,_,rfl,_,rfl,a,_,rfl,.inl hS2,_,_,rfl,rfl,_,_,rfl,_,_,rfl,rfl,mpos,_,_,rfl,rfl,?_⟩
  dsimp only
  rw[ekx]
  refine⟨a,kx,ns,rfl,hS2,?_⟩
  generalize zM ns kx=cl
  refine⟨_,rfl,_,_,rfl,rfl,⟨by decide,by decide⟩,_,_,rfl,rfl,⟨by decide,by decide,by decide⟩,_,_,rfl,rfl,_,_,rfl,rfl,(by show(0:Int)<10^(30:Int).toNat+1;decide),?_⟩
  refine⟨_,rfl,_,_,rfl,rfl,⟨by decide,by decide⟩,_,_,rfl,rfl,(by show(0:Int)<3;decide),rfl,_,rfl,ite2 (fun _=>?_) (fun _=>?_)⟩
  ·exact fin cl 0 _ (KD _) fun _ _ z=>z
  ·exact fin cl _ _ (Lu _ (by decide)) fun _ _ z=>z
 ·rintro σ H2 ⟨zs,k2,v3,v4,v5,rfl,s2,hq2,td,kl2⟩
  rw[JI]at kl2
  exact⟨_,rfl,kk q zs k2 _ s2 hq hq2 td kl2⟩
end
end K8
namespace K8
open PySem L2
local macro_rules | `(tactic| walk_at "cc") => `(tactic| first | exact ⟨by decide, by decide⟩ | (show (0 : Int) < _; decide) | (show (0 : Int) < _; omega) | (show (0 : Int) ≤ _; omega) | exact ⟨by decide, by decide, by decide⟩ | exact ⟨by omega, by omega, by decide⟩ | exact Or.inl ⟨by decide, by decide⟩ | exact Or.inl ⟨by omega, by omega⟩)
local macro_rules | `(tactic| walk_at "rd") => `(tactic| repeat (first | refine ⟨_, rfl, ?_⟩ | refine ⟨_, _, rfl, rfl, ?_⟩ | refine ⟨rfl, ?_⟩ | (refine ⟨?cc, ?_⟩; (case cc => walk_at "cc"))))
def hole(H:Hp)(q:Addr):Hp:=fun b=>if b=q then none else H b
theorem wo(H:Hp)(q:Addr):Same (hole H q) H:=fun b u z=>by
 unfold hole at z
 by_cases n:b=q
 ·rw[if_pos n]at z;cases z
 ·rw[if_neg n]at z;exact z
theorem um{H:Hp}{q b:Addr}{u:HO}(n:b≠q)(h:H b=some u):hole H q b=some u:=by unfold hole;rw[if_neg n];exact h
theorem FV{H H':Hp}{q:Addr}(s:Same H H')(o:HO):Same (hole H q) (hole (upd H' q o) q):=fun b u z=>by
 have n:b≠q:=fun e=>by unfold hole at z;rw[if_pos e]at z;cases z
 exact um n (by rw[ao n];exact s _ _ (wo H q _ _ z))
section
variable{P:Program}{w:World}{K:IT}{mg:Str->Option Value}{base:Heap}
theorem bX:aB ["centre","others","told","turned","ties","k","ends","turns"] ["centre","others","told","turned"] (ag dU):=⟨rfl,rfl,rfl,by decide +kernel,rfl,by decide +kernel,by decide +kernel⟩
theorem HJ{f fI PL PS WC fW:Addr}{fd fdI fdW:FuncData} (F:Fun K "_law_star" "_law_star" dU f fd) (T:Txt mg) (M_Pull:Mak P w K mg base 1 "Pull" ["self","one","two","strength"] (rE K) PL fI fdI) (M_Push:Mak P w K mg base 1 "Push" ["self","one","two","strength"] (rE K) PS fI fdI) (TL:CT K PL) (TS:CT K PS)
  (M_Web:Mak P w K mg base 5 "Web" ["self","many","ties","turns"] (sH K) WC fW fdW) (cw:CW K WC):FnOk P w K mg base CX0 7 f fd ["centre","others","told","turned"] (Cw PL PS WC):=by
 refine F.ok bX (fun vs H Q E h=>?_) (fun cdv A outer s H vs Q E hr h=>?_)
 ·obtain⟨c,n,tb,o,pk,os,ws,ks,rfl,_⟩:=h
  rfl
 obtain⟨c,n,tb,o,pk,os,ws,ks,rfl,ho,hpk,tk,kl,n1,n39,ol,nd,lt,kk⟩:=h
 have oml:(os.map iV).length=n:=by rw[IV,ol]
 have wl:ws.length=n:=by rw[tk.1,kl]
 have cm:c<n+1:=lt c (Jn ..)
 have hoc:∀{k x:Nat},os[k]?=some x->x≠c/\x<n+1:=fun{k x} hx=>⟨fun e=>(JD.mp nd).1 (e▸IW hx),lt x (Jk _ (IW hx))⟩
 have esl:(esS tb c os).length=n:=by unfold esS;rw[IV,ol]
 have eva:∀ k x:Nat,os[k]?=some x->(esS tb c os)[k]?=some (if tb=true then(x,c) else(c,x)):=fun k x hx=>by
  unfold esS
  rw[Je,hx]
  rfl
 refine⟨_,(af (ax (i:=4) bX.nd rfl (Or.inl rfl) (dv ah))
   (af (ck PassesOwn.never rfl (cA rfl T.n_range (aa (aq aA (by rfl) T.n_len cu (aa (pv 1) ah)) ah)) (aM (i:=5) bX.nd rfl (Or.inl rfl)) (af (ax (i:=6) bX.nd rfl (Or.inl rfl) (gN (aa (pv 0) (aa (aW a9 (pv 1) (pv 5) (fun _ _=>rfl)) ah))))
   (af (bQ (df (pv 3)) (ak (ax (i:=6) bX.nd rfl (Or.inl rfl) (gN (aa (aW a9 (pv 1) (pv 5) (fun _ _=>rfl)) (aa (pv 0) ah))))) aK)
   (gY (t2:=starT PL PS) (ak (bQ (aE lG (aW bT (aW a9 (pv 2) (pv 5) (fun _ _=>rfl)) ai (fun _ _=>rfl)) ai (aJ _)) (ak (bR (nA JM JP JO bD (pv 4) (aa (yk M_Push.mkc M_Push.ok (hr.mono (by decide)) rfl M_Push.mg M_Push.bn .nil aZ (aa (aW bT (pv 6) ai (fun _ _=>rfl)) (aa (aW bT (pv 6) ai (fun _ _=>rfl)) (aa (aW bT (aW a9 (pv 2) (pv 5) (fun _ _=>rfl)) ai (fun _ _=>rfl)) ah)))) ah)))) (ak (bR (nA JM JP JO bD (pv 4) (aa (yk M_Pull.mkc M_Pull.ok (hr.mono (by decide)) rfl M_Pull.mg M_Pull.bn .nil aZ (aa (aW bT (pv 6) ai (fun _ _=>rfl)) (aa (aW bT (pv 6) ai (fun _ _=>rfl)) (aa (aW bT (aW a9 (pv 2) (pv 5) (fun _ _=>rfl)) ai (fun _ _=>rfl)) ah)))) ah)))))) (fun D0 S0 H0 h0=>?rests)))))
   (af (rJ (i:=7) rfl bX.nd rfl rfl (fr:=[]) (by exact bI.plain (by rfl) (by decide +kernel) (by rfl) (by decide +kernel) (by rfl) (by decide +kernel)) (cA rfl T.n_range (aa (aC cL (aq aA (by rfl) T.n_len cu (aa (pv 1) ah)) ai) ah)) (fun C ex s H=>(dv ah)))
   (af (Gn (mR rfl rfl T.n_list rfl T.n_range (aq aA (by rfl) T.n_len cu (aa (pv 1) ah))) (Gs (pv 7) (pv 0) Al))
   (af (ck PassesOwn.never rfl (cA rfl T.n_range (aa (aq aA (by rfl) T.n_len cu (aa (pv 1) ah)) ah)) (aM (i:=5) bX.nd rfl (Or.inl rfl)) (ak (Gn (dv (aa (pv 5) ah)) (Gs (pv 7) (aW a9 (pv 1) (pv 5) (fun _ _=>rfl)) Al))))
   (ak (aI (yk M_Web.mkc M_Web.ok (hr.mono (by decide)) rfl M_Web.mg M_Web.bn .nil aZ (aa (aq aA (by rfl) T.n_len cu (aa (pv 7) ah)) (aa (pv 4) (aa (pv 7) ah))))))))))),?_⟩
 case rests =>
  obtain⟨c,i,tb,o,pk,q,te,pk',us,ws,e,k,v7,rfl,hte,hq2,ul,hpk,y1,y2,k2,ne,fin⟩:=h0
  refine⟨_,rfl,_,rfl,pk,ws,_,_,rfl,rfl,SqL.of hpk,bH y1,pk',_,0,_,rfl,rfl,SqT.of y2,at0,rfl,_,rfl,?_⟩
  refine ite2 (fun c=>?_) (fun c=>?_)
  ·have c':k.1=1:=V.int.inj (of_decide_eq_true c)
   refine⟨_,rfl,.inl ⟨rfl,_,SqL.of hq2⟩,_,rfl,te,_,0,_,rfl,rfl,SqT.of hte,at0,_,rfl,te,_,1,_,rfl,rfl,SqT.of hte,at1,_,rfl,_,rfl,pk,ws,_,_,rfl,rfl,SqL.of hpk,bH y1,pk',_,1,_,rfl,rfl,SqT.of y2,at1,?_⟩
   intro x dx nx ndx nex
   refine⟨x,PS,dx,_,_,_,rfl,ae,TS,by omega,by omega,by omega,k2,fun H' h1 h2=>?_⟩
   have s4:Same H0 H':=fun b o z=>h2 b o (by rw[ao (az z nx),ao (az z ndx)];exact z) (az z nx)
   refine⟨rfl,q,us,_,rfl,rfl,s4 _ _ hq2,aw (by omega),fin x dx H' s4 ?_⟩
   rw[decide_eq_true c']
   exact h1
  ·have c':¬ k.1=1:=fun z=>c (decide_eq_true (by rw[z]))
   refine⟨_,rfl,.inl ⟨rfl,_,SqL.of hq2⟩,_,rfl,te,_,0,_,rfl,rfl,SqT.of hte,at0,_,rfl,te,_,1,_,rfl,rfl,SqT.of hte,at1,_,rfl,_,rfl,pk,ws,_,_,rfl,rfl,SqL.of hpk,bH y1,pk',_,1,_,rfl,rfl,SqT.of y2,at1,?_⟩
   intro x dx nx ndx nex
   refine⟨x,PL,dx,_,_,_,rfl,ae,TL,by omega,by omega,by omega,k2,fun H' h1 h2=>?_⟩
   have s4:Same H0 H':=fun b o z=>h2 b o (by rw[ao (az z nx),ao (az z ndx)];exact z) (az z nx)
   refine⟨rfl,q,us,_,rfl,rfl,s4 _ _ hq2,aw (by omega),fin x dx H' s4 ?_⟩
   rw[decide_eq_false c']
   exact h1
 refine⟨(by show 0<=sizeLine;decide),fun q hq=>?_⟩
 have s1:=aj hq (.lst [])
 refine⟨_,rfl,o,_,rfl,.inl (SqL.of (s1 _ _ ho)),_,rfl,by omega,by omega,iy (n:=(((os.map iV).length:Nat):Int).toNat) (fun i σ H2=>∃(v5 v6:Option V)(us:List V),σ = [some (.int (c:Int)),some (.ref o),some (.ref pk),some (.bl tb),some (.ref q),v5,v6,none]/\Same H H2/\H2 q=some (.lst us)/\u0 PL PS H2 us ((esS tb c os).take i) ks) ⟨_,_,[],rfl,s1,ae,rfl,fun i e k z=>by simp at z⟩ ?_ ?_⟩
 ·rintro i σ H2 hi ⟨v5,v6,us,rfl,s2,hq2,tt⟩
  rw[JI,oml]at hi
  have e0:(0:Int)+(i:Int)=(i:Int):=KA _
  rw[e0]
  obtain⟨x,hx⟩:∃ x,os[i]?=some x:=⟨_,IU (by omega)⟩
  have hxV:(os.map iV)[i]?=some (iV x):=by rw[Je,hx];rfl
  have he:=eva i x hx
  obtain⟨xc,xm⟩:=hoc hx
  obtain⟨k,hk⟩:∃ k,ks[i]?=some k:=⟨_,IU (by omega)⟩
  obtain⟨k1,k2,pk',y1,y2⟩:=(tk.mono s2).2 i k hk
  have ul:us.length=i:=by rw[tt.1,JE];omega
  have fin:∀(te:Addr)(H3:Hp)(D:Ends),Same H2 H3->H3 te=some (.tup [iV (if tb=true then(x,c) else(c,x)).1,iV (if tb=true then(x,c) else(c,x)).2])->(∀ σ' H',(∃(v5 v6:Option V)(us:List V),σ' = [some (.int (c:Int)),some (.ref o),some (.ref pk),some (.bl tb),some (.ref q),v5,v6,none]/\Same H H'/\H' q=some (.lst us)/\u0 PL PS H' us ((esS tb c os).take (i+1)) ks)->D.nx σ' H')->starT PL PS D [some (.int (c:Int)),some (.ref o),some (.ref pk),some (.bl tb),some (.ref q),some (.int (i:Int)),some (.ref te),none] H3:=fun te H3 D s3 hte hD=>by
   refine⟨c,i,tb,o,pk,q,te,pk',us,ws,_,k,none,rfl,hte,s3 _ _ hq2,by omega,(s2.trans s3) _ _ hpk,y1,s3 _ _ y2,k2,by cases tb;exact fun z=>xc z.symm;exact xc,fun x' dx H' s4 h1=>hD _ _ ?_⟩
   refine⟨_,_,_,rfl,bb ((s2.trans s3).trans s4) hq _,ae,by rw[IX,ul,JE];simp;omega,fun j e' k' hj hk'=>?_⟩
   have hqn:∀{b:Addr}{C dx:Addr}{fs:List (Str×V)},H' b=some (.ins C dx fs)->b≠q:=fun z y=>by rw[y,(s3.trans s4) _ _ hq2]at z;cases z
   rw[Kh]at hj
   by_cases z:j<i
   ·rw[if_pos (by omega)]at hj
    obtain⟨p',dx',a1,a2⟩:=(tt.mono (s3.trans s4)).2 j e' k' (by rw[Kh,if_pos z];exact hj) hk'
    exact⟨p',dx',by rw[Jb (by omega)];exact a1,by rw[ao (hqn a2)];exact a2⟩
   ·by_cases z2:j=i
    ·subst z2
     rw[if_pos (by omega),he]at hj
     cases hj
     rw[hk]at hk'
     cases hk'
     exact⟨x',dx,by rw[← ul,IZ (IY _),JC];rfl,by rw[ao (hqn h1)];exact h1⟩
    ·rw[if_neg (by omega)]at hj
     cases hj
  refine⟨_,rfl,_,rfl,_,rfl,o,_,_,_,rfl,rfl,SqL.of (s2 _ _ ho),bH hxV,(by show 2<=sizeLine;decide),fun t1 ht1=>?_⟩
  have s3:=aj ht1 (.tup [.int (c:Int),iV x])
  refine⟨_,rfl,_,rfl,?_⟩
  cases tb with
  |true =>
   refine iteT ?_
   refine⟨_,rfl,_,rfl,o,_,_,_,rfl,rfl,SqL.of ((s2.trans s3) _ _ ho),bH hxV,_,rfl,(by show 2<=sizeLine;decide),fun t2 ht2=>?_⟩
   exact fin t2 _ _ (s3.trans (aj ht2 _)) ae fun _ _ z=>z
  |false =>
   refine iteF ?_
   exact fin t1 _ _ s3 ae fun _ _ z=>z
 rintro σ H2 ⟨v5,v6,us,rfl,s2,hq2,tt⟩
 rw[JI,oml,← esl,JA]at tt
 refine⟨_,rfl,o,_,rfl,.inl (SqL.of (s2 _ _ ho)),_,_,rfl,rfl,_,rfl,by omega,by omega,l7 (n:=((((os.map iV).length:Nat):Int)+1).toNat) (fun i zs H3=>Same H2 H3/\bq H3 zs (JW i [])) (JT (aw (by omega))) ⟨fun _ _ z=>z,rfl,fun i l e=>by simp at e⟩ ?_ ?_⟩
 ·rintro i zs H3 hi ⟨s3,rz⟩
  refine⟨(by show 0<=sizeLine;decide),fun g hg=>?_⟩
  have s4:=aj hg (.lst [])
  refine⟨s3.trans s4,?_⟩
  rw[Ln]
  exact(rz.mono s4).snoc (l:=[]) ae
 rintro zs H3 _ ⟨s3,rz⟩ q7 hq7
 have en:((((os.map iV).length:Nat):Int)+1).toNat=n+1:=by omega
 rw[en]at rz
 have s4:=aj hq7 (.lst zs)
 have zl:zs.length=n+1:=by rw[rz.1,KY]
 have s24:=s3.trans s4
 refine⟨_,rfl,o,_,rfl,.inl (SqL.of ((s2.trans s24) _ _ ho)),n,(by rw[oml]),by omega,fun qr hqr=>?_⟩
 have s5:=aj hqr (.lst ((Ju n).map fun(i:Nat)=>V.int ((i:Nat):Int)))
 have nr:qr≠q7:=fun z=>by rw[z,ae]at hqr;cases hqr
 refine⟨_,rfl,_,rfl,q7,_,_,c,rfl,rfl,s5 _ _ ae,DI (by omega),?_⟩
 have h7:(upd (upd (upd H3 q7 (.lst zs)) qr (.lst ((Ju n).map fun(i:Nat)=>V.int ((i:Nat):Int)))) q7 (.lst (zs.set c (.ref qr)))) q7=some (.lst (zs.set c (.ref qr))):=ae
 have s35:Same H3 (upd (upd (upd H3 q7 (.lst zs)) qr (.lst ((Ju n).map fun(i:Nat)=>V.int ((i:Nat):Int)))) q7 (.lst (zs.set c (.ref qr)))):=bb (s4.trans s5) hq7 _
 have hqr5:(upd (upd (upd H3 q7 (.lst zs)) qr (.lst ((Ju n).map fun(i:Nat)=>V.int ((i:Nat):Int)))) q7 (.lst (zs.set c (.ref qr)))) qr=some (.lst ((Ju n).map iV)):=by rw[ao nr];exact ae
 generalize upd (upd (upd H3 q7 (.lst zs)) qr (.lst ((Ju n).map fun(i:Nat)=>V.int ((i:Nat):Int)))) q7 (.lst (zs.set c (.ref qr)))=H5 at h7 s35 hqr5
 have r5:bq (hole H5 q7) (zs.set c (.ref qr)) ((JW (n+1) []).set c (Ju n)):=by
  have:bq (hole H5 q7) zs (JW (n+1) []):=rz.mono fun b u z=>um (az z hq7) (s35 _ _ z)
  exact this.set (um nr hqr5)
 have s25:=s3.trans s35
 refine⟨_,rfl,o,_,rfl,.inl (SqL.of ((s2.trans s25) _ _ ho)),_,rfl,by omega,by omega,iy (n:=(((os.map iV).length:Nat):Int).toNat) (fun k σ H6=>∃(u5:Option V)(ys:List V)(Tr:List (List Nat)),σ = [some (.int (c:Int)),some (.ref o),some (.ref pk),some (.bl tb),some (.ref q),u5,v6,some (.ref q7)]/\Same H3 H6/\H6 q7=some (.lst ys)/\bq (hole H6 q7) ys Tr/\Tr.length=n+1/\Tr[c]?=some (Ju n)/\∀ j x:Nat,j<k->os[j]?=some x->Tr[x]?=some [j])
  ⟨_,_,_,rfl,s35,h7,r5,by rw[Ku,KY],by rw[Lb (by rw[KY];exact cm)],fun j x hj=>by omega⟩ ?_ ?_⟩
 ·rintro k σ H6 hk ⟨u5,ys,Tr,rfl,s6,h6,rT,tl,tc,tv⟩
  rw[JI,oml]at hk
  have e0:(0:Int)+(k:Int)=(k:Int):=KA _
  rw[e0]
  obtain⟨x,hx⟩:∃ x,os[k]?=some x:=⟨_,IU (by omega)⟩
  have hxV:(os.map iV)[k]?=some (iV x):=by rw[Je,hx];rfl
  obtain⟨xc,xm⟩:=hoc hx
  have yl:ys.length=n+1:=by rw[rT.1,tl]
  refine⟨_,rfl,(by show 1<=sizeLine;decide),fun g hg=>?_⟩
  have sg:=aj hg (.lst [.int (k:Int)])
  have ng:g≠q7:=fun z=>by rw[z,h6]at hg;cases hg
  refine⟨_,rfl,_,rfl,_,rfl,o,_,_,_,rfl,rfl,SqL.of (((s2.trans s3).trans (s6.trans sg)) _ _ ho),bH hxV,q7,_,_,x,rfl,rfl,sg _ _ h6,DI (by omega),?_⟩
  refine⟨_,_,Tr.set x [k],rfl,bb (s6.trans sg) hq7 _,ae,?_,by rw[Ku];exact tl,by rw[K1 xc];exact tc,fun j y hj hy=>?_⟩
  ·exact(rT.mono (FV sg _)).set (l:=[k]) (um ng (by rw[ao ng];exact ae))
  ·by_cases jk:j=k
   ·subst jk
    rw[hx]at hy
    cases hy
    rw[Lb (by omega)]
   ·have nxy:x≠y:=fun z=>by
     subst z
     obtain⟨a1,a2⟩:=IS.mp hx
     obtain⟨b1,b2⟩:=IS.mp hy
     exact absurd (b2.trans a2.symm) (JX.mp (JD.mp nd).2 j k b1 a1 (by omega))
    rw[K1 nxy]
    exact tv j y (by omega) hy
 rintro σ H6 ⟨u5,ys,Tr,rfl,s6,h6,rT,tl,tc,tv⟩
 rw[JI,oml]at tv
 have st:Star n c tb os (esS tb c os) Tr:=⟨n1,ol,nd,lt,esl,eva,tl,tc,fun k x hx=>tv k x (by rw[← ol];exact(IS.mp hx).1) hx⟩
 have yl:ys.length=n+1:=by rw[rT.1,tl]
 have s26:=s3.trans s6
 have rz6:=rT.mono (wo H6 q7)
 refine⟨_,rfl,q7,_,rfl,.inl (SqL.of h6),_,rfl,_,rfl,?_⟩
 intro x dx nx ndx nex
 have up:∀ b o,H6 b=some o->(upd (upd H6 dx (.own x)) x (.ins WC dx [])) b=some o:=fun b o z=>by rw[ao (az z nx),ao (az z ndx)];exact z
 refine⟨x,WC,dx,q,q7,n+1,us,ys,esS tb c os,Tr,(by rw[yl];rfl),ae,cw,up _ _ (s26 _ _ hq2),((tt.at (by rw[kl,esl]) TL TS).mono s26).mono up,up _ _ h6,rz6.mono up,st.gr,by omega,by omega,by omega,fun fs q1 rs H' h1 hg hn h2 h3 h4=>⟨rfl,?_⟩⟩
 have s7:Same H2 H':=fun b o z=>h4 b o (up _ _ (s26 _ _ z)) (az (s26 _ _ z) nx)
 have up0:∀ a,H a≠none->(upd (upd H6 dx (.own x)) x (.ins WC dx [])) a≠none:=fun a z y=>z (by
  cases u:H a with
  |none=>rfl
  |some o=>rw[up _ _ (s26 _ _ (s2 _ _ u))]at y;cases y)
 exact kk x _ Tr rs H' (s2.trans s7) st ⟨dx,fs,q1,us,h1,hg.mono (fun _ _ z=>z) up0,fun z=>up0 _ z hn,h2,h3,tt.mono s7⟩
end
end K8
namespace K8
open PySem L2
local macro_rules | `(tactic| walk_at "cc") => `(tactic| first | exact ⟨by decide, by decide⟩ | (show (0 : Int) < _; decide) | (show (0 : Int) < _; omega) | (show (0 : Int) ≤ _; omega) | exact ⟨by decide, by decide, by decide⟩ | exact ⟨by omega, by omega, by decide⟩ | exact Or.inl ⟨by decide, by decide⟩ | exact Or.inl ⟨by omega, by omega⟩)
local macro_rules | `(tactic| walk_at "rd") => `(tactic| repeat (first | refine ⟨_, rfl, ?_⟩ | refine ⟨_, _, rfl, rfl, ?_⟩ | refine ⟨rfl, ?_⟩ | (refine ⟨?cc, ?_⟩; (case cc => walk_at "cc"))))
def CG(PL PS WC:Addr):Sp:=fun vs H Q _=>∃(p o pl:Addr)(n c a k:Nat)(tb:Bool)(os:List Nat)(es:En)(ts:List (List Nat))(ks:Kn),vs = [.ref p,.ref o,.ref pl]/\WebT PL PS WC H p (n+1) es ts ks/\ks.length=es.length/\Star n c tb os es ts/\n<=39/\a<=n/\k<=a/\k<=5/\H o=some (.lst ((odS c a os).map iV))/\H pl=some (.lst ((os.take k).map iV))/\∀ H',Same H H'->Q (.bl true) H'
section
variable{P:Program}{w:World}{K:IT}{mg:Str->Option Value}{base:Heap}
theorem cN:aB ["web","order","places","found","mask","last","row"] ["web","order","places"] (ag dX):=⟨rfl,rfl,rfl,by decide +kernel,rfl,by decide +kernel,by decide +kernel⟩
theorem HS{f f1 f2 BO TW PL PS WC:Addr}{fd d1 d2:FuncData} (F:Fun K "_law_free" "_law_free" dX f fd) (T:Txt mg) (G_front_table:CalX P w K mg base 5 "front_table" ["web","order","count"] (spFT BO TW PL PS WC) f1 d1) (G_law_whole:Cal P w K mg base 1 "_law_whole" ["found"] CA f2 d2):FnOk P w K mg base CX0 6 f fd ["web","order","places"] (CG PL PS WC):=by
 refine F.ok cN (fun vs H Q E h=>?_) (fun cdv A outer s H vs Q E hr h=>?_)
 ·obtain⟨p,o,pl,n,c,a,k,tb,os,es,ts,ks,rfl,_⟩:=h
  rfl
 obtain⟨p,o,pl,n,c,a,k,tb,os,es,ts,ks,rfl,wt,kl,st,n39,an,ka,k5,ho,hpl,kk⟩:=h
 have inj:∀{x y:List Nat},cI x=cI y->x=y:=fun{x y} h=>(Ly (fun a b h=>by omega)).mp h
 have el:=st.el
 have osl:=st.ol
 have ndk:(os.take k).Nodup:=(JD.mp st.nd).2.sublist (LA _ _)
 have lt5:(os.take k).length=k:=by rw[JE];omega
 have ltV:((os.take k).map iV).length=k:=by rw[IV];exact lt5
 have ltm:∀ x∈os.take k,x<n+1:=fun x hx=>st.lt x (Jk _ (Kb hx))
 have pm:(odS c a os).Perm (Ju (n+1)):=(tM st).trans ((Kp st.nd JU).mpr fun x=>⟨fun h=>Jx.mpr (st.lt x h),fun h=>by
  rcases st.all (Jx.mp h)with z | ⟨j,hj⟩
  ·rw[z];exact Jn ..
  ·exact Jk _ (IW hj)⟩)
 have odl:(odS c a os).length=n+1:=by rw[pm.length_eq,JH]
 have pmI:(cI (odS c a os)).Perm (rI (n+1)):=pm.map _
 refine⟨_,(af (ax (i:=3) cN.nd rfl (Or.inl rfl) (aG G_front_table.ok (hr.mono (by decide)) rfl G_front_table.mg G_front_table.kp G_front_table.bn .nil C7 (aa (pv 0) (aa (pv 1) (aa (aq aA (by rfl) T.n_len cu (aa (pv 2) ah)) ah)))))
   (af (bQ (PW.pt (jm (eU (df (aq gz (by rfl) T.n_isinstance aO (aa (pv 3) (aa (jE (v:=.ty "list") rfl T.n_list mB rfl) ah))))) (gX (aE jF (aq aA (by rfl) T.n_len cu (aa (pv 3) ah)) (aC g9 ai (aq aA (by rfl) T.n_len cu (aa (pv 2) ah))) (aJ _))))) (ak (aI kK)) aK)
   (af (ax (i:=4) cN.nd rfl (Or.inl rfl) (aq (lp rfl) (by rfl) T.n_sum wU (aa (eA rfl (fr:=[]) (by exact bI.plain (by rfl) (by decide +kernel) (by rfl) (by decide +kernel) (by rfl) (by decide +kernel)) (bc (pv 2)) (fun C ex s H=>(aC g9 ai (pv 0)))) ah)))
   (af (ax (i:=5) cN.nd rfl (Or.inl rfl) (Fn Ae ai))
   (af (ck PassesOwn.never rfl (bc (pv 3)) (aM (i:=6) cN.nd rfl (Or.inl rfl)) (af (bQ (PW.pt (jm (eU (df (aq gz (by rfl) T.n_isinstance aO (aa (pv 6) (aa (jE (v:=.ty "tuple") rfl T.n_tuple uK rfl) ah))))) (jm (aE jF (aq aA (by rfl) T.n_len cu (aa (pv 6) ah)) ai (aJ _)) (gX (eU (df (aq (wQ rfl) (by rfl) T.n_all GJ (aa (eA rfl (fr:=[]) (by exact bI.plain (by rfl) (by decide +kernel) (by rfl) (by decide +kernel) (by rfl) (by decide +kernel)) (Gq (pv 6)) (fun C ex s H=>(aG G_law_whole.ok (hr.mono (by decide)) rfl G_law_whole.mg G_law_whole.kp G_law_whole.bn .nil aZ (aa (pv 0) ah)))) ah)))))))) (ak (aI kK)) aK)
   (af (bQ (PW.pt (jm (aE op_le (aW bT (pv 6) ai (fun _ _=>rfl)) (pv 5) (aJ _)) (jm (aE jF (aC oE (aW bT (pv 6) ai (fun _ _=>rfl)) (pv 4)) (aW bT (pv 6) ai (fun _ _=>rfl)) (aJ _)) (jm (aE jF (aW bT (pv 6) ai (fun _ _=>rfl)) ai (aJ _)) (gX (aE jF (aW bT (pv 6) ai (fun _ _=>rfl)) ai (aJ _))))))) (ak (aI kK)) aK)
   (ak (ax (i:=5) cN.nd rfl (Or.inl rfl) (aW bT (pv 6) ai (fun _ _=>rfl)))))))
   (ak (aI kK))))))),?_⟩
 refine⟨_,rfl,_,rfl,_,rfl,pl,_,rfl,.inl (SqL.of hpl),?_⟩
 rw[ltV]
 refine⟨p,n+1,es,ts,ks,.ref o,cI (odS c a os),k,rfl,wt,kl,st.turn,by omega,by omega,.inr ⟨o,rfl,by rw[cI_V];exact ho,by unfold cI;rw[IV];omega⟩,by omega,fun z=>absurd pmI z,fun od' e' _ ms fr wd=>?_,fun od' e' _ ms fr _=>⟨fun M hM=>?_,fun q rows Tb H1 s1 hq ls be=>?_⟩⟩
 ·have:od'=odS c a os:=(inj e').symm
  subst this
  obtain⟨M,hM,h8⟩:=wd
  obtain⟨j,hj⟩:=JY hM
  rw[Kh]at hj
  split at hj
  ·have:=(iT st an (show j<=a by omega) (fr.2 j M hj)).2
   omega
  ·cases hj
 ·have:od'=odS c a os:=(inj e').symm
  subst this
  have:=(iT st an ka hM).2
  omega
 have:od'=odS c a os:=(inj e').symm
 subst this
 obtain⟨tl,tm⟩:=Cr st an ka be
 have rl:rows.length=Tb.length:=ls.1
 have eshl:(1:Int)*2^((k:Nat):Int).toNat=((rows.length:Nat):Int):=by rw[shlN,rl,tl]
 refine⟨_,rfl,_,_,_,_,_,rfl,TyOf.lst hq,Or.inl ⟨_,rfl,rfl⟩,Gz K,_,rfl,iteF ?_⟩
 refine⟨_,rfl,q,_,rfl,.inl (SqL.of hq),_,rfl,pl,_,rfl,.inl (SqL.of (s1 _ _ hpl)),?_⟩
 rw[ltV]
 refine⟨_,_,rfl,rfl,⟨by omega,by omega,by decide⟩,rfl,_,rfl,qS (congrArg V.int eshl.symm) ?_⟩
 refine⟨_,rfl,pl,rfl,⟨_,SqL.of (s1 _ _ hpl)⟩,dg (K:=K) (xs:=(os.take k).map iV) (fun i zs H2=>H2=H1/\zs=(((os.take k).take i).map fun(p:Nat)=>((2^p:Nat):Int)).map V.int) (JT (aw (by omega))) ⟨rfl,rfl⟩ (fun i zs H2 _ z=>by rw[z.1];exact SqL.of (s1 _ _ hpl)) ?_ ?_⟩
 ·rintro i x zs H2 hx ⟨rfl,rfl⟩
  rw[Je]at hx
  obtain⟨x,hx',rfl⟩:=Jv.mp hx
  have xm:=ltm x (IW hx')
  refine⟨_,rfl,_,_,rfl,rfl,⟨by omega,by omega,by decide⟩,rfl,?_⟩
  dsimp only
  rw[shlN,Jt,hx',Jy,Jy]
  rfl
 rintro zs H2 _ ⟨rfl,rfl⟩ D hD
 have tk5:(os.take k).take ((os.take k).map iV).length=os.take k:=JQ (by omega)
 rw[tk5]
 have s2:=aj hD (.lst (((os.take k).map fun(p:Nat)=>((2^p:Nat):Int)).map V.int))
 refine⟨D,_,rfl,SqL.of ae,?_⟩
 rw[sum_mk ndk]
 generalize upd H2 D (.lst (((os.take k).map fun(p:Nat)=>((2^p:Nat):Int)).map V.int))=H3 at s2
 have s12:=s1.trans s2
 have hq3:=s2 _ _ hq
 refine⟨_,rfl,_,rfl,q,rfl,⟨_,SqL.of hq3⟩,cF (K:=K) (xs:=rows) (fun i σ H4=>∃(la:Int)(v6:Option V),σ = [some (.ref p),some (.ref o),some (.ref pl),some (.ref q),some (.int ((mk (os.take k):Nat):Int)),some (.int la),v6]/\Same H3 H4/\∀(j:Nat)(e:Nat×Pr),i<=j->Tb[j]?=some e->la<(e.1:Int)) ⟨-1,_,rfl,fun _ _ z=>z,fun j e _ _=>by omega⟩ (fun i σ H4 _ ⟨_,_,_,z,_⟩=>SqL.of (z _ _ hq3)) ?_ ?_⟩
 ·rintro i x σ H4 hx ⟨la,v6,rfl,s4,hla⟩
  obtain⟨e,he,tr,rfl,htr⟩:=ls.get hx
  have ht4:=(s2.trans s4) _ _ htr
  refine⟨_,rfl,_,_,_,_,_,rfl,TyOf.tup ht4,Or.inl ⟨_,rfl,rfl⟩,DB K,_,rfl,iteF ?_⟩
  refine⟨_,rfl,tr,_,rfl,.inr (SqT.of ht4),rfl,_,rfl,qS rfl ?_⟩
  refine⟨_,rfl,tr,rfl,⟨_,SqT.of ht4⟩,AR (K:=K) (xs:=[.int (e.1:Int),.int e.2.1,.int e.2.2]) (fun n zs H5=>H5=H4/\zs=(JW n true).map V.bl) (by show 3<=sizeLine;decide) ⟨rfl,rfl⟩ (fun n zs H5 _ z=>by rw[z.1];exact SqT.of ht4) ?_ ?_⟩
  ·rintro n x zs H5 hx' ⟨rfl,rfl⟩
   obtain⟨iv,rfl⟩:∃ iv:Int,x=.int iv:=by
    match n,hx' with
    |0,hx'=>cases hx';exact⟨_,rfl⟩
    |1,hx'=>cases hx';exact⟨_,rfl⟩
    |2,hx'=>cases hx';exact⟨_,rfl⟩
    |n+3,hx'=>cases hx'
   refine⟨_,rfl,iv,rfl,rfl,?_⟩
   rw[Ln,Jy]
   rfl
  rintro zs H5 _ ⟨rfl,rfl⟩ D4 hD4
  have s5:=aj hD4 (.lst ((JW 3 true).map V.bl))
  have ht5:=s5 _ _ ht4
  refine⟨D4,3,rfl,SqL.of ae,_,rfl,iteF ?_⟩
  generalize upd H5 D4 (.lst ((JW 3 true).map V.bl))=H6 at s5 ht5
  have lt:=hla i e (IY _) he
  obtain⟨sm,ev⟩:=tm e.1 e.2 (IW he)
  have e1:e.2.1=0:=by rw[ev]
  have e2:e.2.2=1:=by rw[ev]
  refine⟨_,rfl,tr,_,0,_,rfl,rfl,SqT.of ht5,at3a,_,rfl,_,_,rfl,rfl,_,rfl,ite2 (fun z=>absurd (of_decide_eq_true z) (by omega)) (fun _=>?_)⟩
  refine⟨_,rfl,tr,_,0,_,rfl,rfl,SqT.of ht5,at3a,_,rfl,_,_,rfl,rfl,_,rfl,tr,_,0,_,rfl,rfl,SqT.of ht5,at3a,rfl,_,rfl,qS (congrArg V.int (by rw[andN,sm])) ?_⟩
  refine⟨_,rfl,tr,_,1,_,rfl,rfl,SqT.of ht5,at3b,rfl,_,rfl,qS (congrArg V.int e1) ?_⟩
  refine⟨_,rfl,tr,_,2,_,rfl,rfl,SqT.of ht5,at3c,rfl,_,rfl,qS (congrArg V.int e2) ?_⟩
  refine⟨_,rfl,tr,_,0,_,rfl,rfl,SqT.of ht5,at3a,?_⟩
  refine⟨(e.1:Int),_,rfl,s4.trans s5,fun j e' hij hj=>?_⟩
  have n1:(Tb.map (·.1))[i]?=some e.1:=by rw[Je,he];rfl
  have n2:(Tb.map (·.1))[j]?=some e'.1:=by rw[Je,hj];rfl
  obtain⟨h1,f1⟩:=IS.mp n1
  obtain⟨h2,f2⟩:=IS.mp n2
  have:=JX.mp be.up i j h1 h2 (by omega)
  rw[f1,f2]at this
  omega
 ·rintro σ H4 ⟨la,v6,rfl,s4,_⟩
  exact kk _ (s12.trans s4)
end
end K8
namespace K8
open PySem L2
local macro_rules | `(tactic| walk_at "cc") => `(tactic| first | exact ⟨by decide, by decide⟩ | (show (0 : Int) < _; decide) | (show (0 : Int) < _; omega) | (show (0 : Int) ≤ _; omega) | exact ⟨by decide, by decide, by decide⟩ | exact ⟨by omega, by omega, by decide⟩ | exact Or.inl ⟨by decide, by decide⟩ | exact Or.inl ⟨by omega, by omega⟩)
local macro_rules | `(tactic| walk_at "rd") => `(tactic| repeat (first | refine ⟨_, rfl, ?_⟩ | refine ⟨_, _, rfl, rfl, ?_⟩ | refine ⟨rfl, ?_⟩ | (refine ⟨?cc, ?_⟩; (case cc => walk_at "cc"))))
structure TxtM(mg:Str->Option Value):Prop extends Txt mg where
 most:∃ t,mg "MOST_PLACES" = some (.int 16 t)
def spWo(BO TW WC:Addr):Sp:=fun vs H Q E=>∃(p dx:Addr)(fs:List (Str×V))(m:Nat)(v:V)(ns:List Int),vs = [.ref p,v]/\H p=some (.ins WC dx fs)/\fs.lookup ("many" : Str)=some (.int (m:Int))/\m<=40/\Told m v H ns /\
 (¬ ns.Perm (rI m)->∀ H',Same H H'->E (.ref BO) none H')/\(ns.Perm (rI m)->16<m/\∀ H',Same H H'->E (.ref TW) none H')
def noT:TS:=fun _ _ _=>False
theorem pss_no{X:Cx}{sts:List Stmt}:PSs X sts noT:=fun _ _ _ _ _ _ h=>h.elim
section
variable{P:Program}{w:World}{K:IT}{mg:Str->Option Value}{base:Heap}
theorem vv:aB ["web","order","places","counts","place","back","front"] ["web","order"] (ag iU):=⟨rfl,rfl,rfl,by decide +kernel,rfl,by decide +kernel,by decide +kernel⟩
theorem ok_wo{f f1 BO TW WC:Addr}{fd d1:FuncData} (F:FunD K "worths" "worths" iU f fd #[.none]) (T:TxtM mg) (cw:CW K WC) (X_TooWide:ErrC K mg "TooWide" TW) (G_order_of:CalX P w K mg base 1 "order_of" ["web","order"] (vj BO WC) f1 d1):FnOk P w K mg base (CXr P w) 2 f fd ["web","order"] (spWo BO TW WC):=by
 refine F.okX vv (fun vs H Q E h=>?_) (fun cdv A outer s H vs Q E hr h=>?_)
 ·obtain⟨p,dx,fs,m,v,ns,rfl,_⟩:=h
  rfl
 obtain⟨p,dx,fs,m,v,ns,rfl,hp,lm,m40,td,kb,kw⟩:=h
 refine⟨_,(af (ax (i:=2) vv.nd rfl (Or.inl rfl) (dA G_order_of.ok (hr.mono (by decide)) rfl G_order_of.mg G_order_of.kp G_order_of.bn .nil gL rfl (aa (pv 0) (aa (pv 1) ah))))
   (af (bQ (aE Dc (cp (pv 0) rfl) (Ao rfl T.most) (aJ _)) (ak (oq X_TooWide.ec X_TooWide.mg rfl gL rfl rfl (aa C5 ah))) aK)
   pss_no)),?_⟩
 refine⟨_,rfl,_,rfl,p,dx,fs,m,v,ns,rfl,hp,lm,m40,td,fun z H' s'=>kb z _ s',fun pm q H1 s1 nq hq=>?_⟩
 obtain⟨m16,kw⟩:=kw pm
 refine⟨_,rfl,p,WC,dx,fs,_,rfl,s1 _ _ hp,cw.cl,cw.n1,lm,_,_,rfl,rfl,_,rfl,ite2 (fun c=>?_) (fun c=>absurd (decide_eq_true (show(16:Int)<(m:Int) by omega)) c)⟩
 exact⟨(by decide:(1:Nat)<=sizeLine),kw _ s1⟩
end
end K8
namespace K8
open PySem L2
local macro_rules | `(tactic| walk_at "cc") => `(tactic| first | exact ⟨by decide, by decide⟩ | (show (0 : Int) < _; decide) | (show (0 : Int) < _; omega) | (show (0 : Int) ≤ _; omega) | exact ⟨by decide, by decide, by decide⟩ | exact ⟨by omega, by omega, by decide⟩ | exact Or.inl ⟨by decide, by decide⟩ | exact Or.inl ⟨by omega, by omega⟩)
local macro_rules | `(tactic| walk_at "rd") => `(tactic| repeat (first | refine ⟨_, rfl, ?_⟩ | refine ⟨_, _, rfl, rfl, ?_⟩ | refine ⟨rfl, ?_⟩ | (refine ⟨?cc, ?_⟩; (case cc => walk_at "cc"))))
structure TxtE(mg:Str->Option Value)(TW BO:Addr):Prop extends Txt mg where
 g_TooWide:mg "TooWide" = some (.ref TW)
 g_BadOrder:mg "BadOrder" = some (.ref BO)
def Wd(es:En)(ns:List Int)(c:Nat):Prop:=∃ od ms,ns=cI od/\dh es od ms/\∃ M∈ms.take (c+1),8<(bl M).length
def Rfd(wh m cnt:Nat)(es:En)(ns:List Int):Prop:=(wh=2/\16<m)∨(wh=1/\Wd es ns m)∨(wh=0/\Wd es ns cnt)
def Hg(BO TW PL PS WC:Addr):Sp:=fun vs H Q E=>∃(wh m cnt:Nat)(p:Addr)(es:En)(ts:List (List Nat))(ks:Kn)(v:V)(ns:List Int),vs = [.int (wh:Int),.ref p,v,.int (cnt:Int)]/\wh<=2/\WebT PL PS WC H p m es ts ks/\ks.length=es.length/\cX m es ts/\es.length<=100/\m<=40/\Told m v H ns/\cnt<=m /\
 (¬ ns.Perm (rI m)->∀ H',Same H H'->E (.ref BO) none H')/\(ns.Perm (rI m)->Rfd wh m cnt es ns/\∀ H',Same H H'->E (.ref TW) none H')
def Aj(BO TW PL PS WC:Addr):Sp:=fun vs H Q _=>∃(wh m cnt:Nat)(p:Addr)(es:En)(ts:List (List Nat))(ks:Kn)(v:V)(ns:List Int),vs = [.int (wh:Int),.ref p,v,.int (cnt:Int)]/\wh<=2/\WebT PL PS WC H p m es ts ks/\ks.length=es.length/\cX m es ts/\es.length<=100/\m<=40/\Told m v H ns/\cnt<=m /\
 (¬ ns.Perm (rI m)->∀ x H',Same H H'->H' x=some (excO x BO)->Q (.ref x) H')/\(ns.Perm (rI m)->Rfd wh m cnt es ns/\∀ x H',Same H H'->H' x=some (excO x TW)->Q (.ref x) H')
def Cu(PL PS WC:Addr):Sp:=fun vs H Q _=>∃(wh m cnt:Nat)(p:Addr)(es:En)(ts:List (List Nat))(ks:Kn)(v:V)(ns:List Int),vs = [.int (wh:Int),.ref p,v,.int (cnt:Int)]/\wh<=2/\WebT PL PS WC H p m es ts ks/\ks.length=es.length/\cX m es ts/\es.length<=100/\m<=40/\Told m v H ns/\cnt<=m/\ns.Perm (rI m)/\Rfd wh m cnt es ns/\∀ H',Same H H'->Q (.bl true) H'
def CB(PL PS WC:Addr):Sp:=fun vs H Q _=>∃(m:Nat)(p:Addr)(es:En)(ts:List (List Nat))(ks:Kn)(v:V)(ns:List Int),vs = [.ref p,v]/\WebT PL PS WC H p m es ts ks/\ks.length=es.length/\cX m es ts/\es.length<=100/\m<=40/\Told m v H ns/\¬ ns.Perm (rI m)/\∀ H',Same H H'->Q (.bl true) H'
theorem Told.keep{m:Nat}{v:V}{H H':Hp}{ns:List Int}(h:Told m v H ns)(s:Same H H'):Told m v H' ns:=by
 rcases h with h | ⟨o,a,b,c⟩
 ·exact .inl h
 ·exact .inr ⟨o,a,s _ _ b,c⟩
theorem fr_one{es:En}{od ms ms':List Nat}(fr:dh es od ms)(h:dh es od ms'):ms'=ms:=Mb fun k=>by
 by_cases hk:k<ms.length
 ·have hk':k<ms'.length:=by rw[h.1,← fr.1];exact hk
  rw[IU hk,IU hk',(fr.2 k _ (IU hk)).one (h.2 k _ (IU hk'))]
 ·have l1:=h.1
  have l2:=fr.1
  rw[KJ (l:=ms') (by omega),KJ (l:=ms) (by omega)]
theorem Wd.no{es:En}{ns:List Int}{c:Nat}(h:Wd es ns c){od ms:List Nat}(e:ns=cI od)(fr:dh es od ms)(nw:∀ M∈ms.take (c+1),(bl M).length<=8):False:=by
 obtain⟨od',ms',e',fr',M,hM,h8⟩:=h
 have:od'=od:=(Ly (fun a b h=>by omega)).mp (e'.symm.trans e)
 subst this
 have:=fr_one fr fr'
 subst this
 have:=nw M hM
 omega
section
variable{P:Program}{w:World}{K:IT}{mg:Str->Option Value}{base:Heap}
theorem A7:aB ["which","web","order","count"] ["which","web","order","count"] (ag fJ):=⟨rfl,rfl,rfl,by decide +kernel,rfl,by decide +kernel,by decide +kernel⟩
theorem ok_ask{f f1 f2 f3 BO TW PL PS WC:Addr}{fd d1 d2 d3:FuncData} (F:Fun K "_law_ask" "_law_ask" fJ f fd)
  (G_front_table:CalX P w K mg base 5 "front_table" ["web","order","count"] (spFT BO TW PL PS WC) f1 d1) (G_least_many:CalX P w K mg base 6 "least_many" ["web","order"] (spLM BO TW PL PS WC) f2 d2) (G_worths:CalX P w K mg base 2 "worths" ["web","order"] (spWo BO TW WC) f3 d3):FnOk P w K mg base (CXr P w) 7 f fd ["which","web","order","count"] (Hg BO TW PL PS WC):=by
 refine F.okX A7 (fun vs H Q E h=>?_) (fun cdv A outer s H vs Q E hr h=>?_)
 ·obtain⟨wh,m,cnt,p,es,ts,ks,v,ns,rfl,_⟩:=h
  rfl
 obtain⟨wh,m,cnt,p,es,ts,ks,v,ns,rfl,w2,wt,kl,tn,e100,m40,td,cm,kb,kw⟩:=h
 obtain⟨dx,fs,_,_,_,_,hp,lm,_⟩:=id wt
 refine⟨_,(af (bQ (aE lG (pv 0) ai (aJ _)) (ak (aI (dA G_front_table.ok (hr.mono (by decide)) rfl G_front_table.mg G_front_table.kp G_front_table.bn .nil gL rfl (aa (pv 1) (aa (pv 2) (aa (pv 3) ah)))))) aK)
   (af (bQ (aE lG (pv 0) ai (aJ _)) (ak (aI (dA G_least_many.ok (hr.mono (by decide)) rfl G_least_many.mg G_least_many.kp G_least_many.bn .nil gL rfl (aa (pv 1) (aa (pv 2) ah))))) aK)
   (ak (aI (dA G_worths.ok (hr.mono (by decide)) rfl G_worths.mg G_worths.kp G_worths.bn .nil gL rfl (aa (pv 1) (aa (pv 2) ah))))))),?_⟩
 refine⟨_,rfl,rfl,_,rfl,ite2 (fun c=>?_) (fun c=>?_)⟩
 ·have w0:wh=0:=by have:=V.int.inj (of_decide_eq_true c);omega
  subst w0
  refine⟨_,rfl,_,rfl,_,rfl,p,m,es,ts,ks,v,ns,cnt,rfl,wt,kl,tn,e100,m40,td,cm,kb,fun od e pm ms fr wd=>(kw pm).2,fun od e pm ms fr nw=>?_⟩
  rcases(kw pm).1 with⟨z,_⟩ | ⟨z,_⟩ | ⟨_,z⟩
  ·omega
  ·omega
  ·exact(z.no e fr nw).elim
 have w0:wh≠0:=fun z=>c (by subst z;rfl)
 refine⟨_,rfl,rfl,_,rfl,ite2 (fun c=>?_) (fun c=>?_)⟩
 ·have w1:wh=1:=by have:=V.int.inj (of_decide_eq_true c);omega
  subst w1
  refine⟨_,rfl,_,rfl,p,m,es,ts,ks,v,ns,rfl,wt,kl,tn,e100,m40,td,kb,fun od e pm ms fr wd=>(kw pm).2,fun od e pm ms fr nw=>?_⟩
  rcases(kw pm).1 with⟨z,_⟩ | ⟨_,z⟩ | ⟨z,_⟩
  ·omega
  ·exact(z.no e fr nw).elim
  ·omega
 have w1:wh≠1:=fun z=>c (by subst z;rfl)
 refine⟨_,rfl,_,rfl,p,dx,fs,m,v,ns,rfl,hp,lm,m40,td,kb,fun pm=>⟨?_,(kw pm).2⟩⟩
 rcases(kw pm).1 with⟨_,z⟩ | ⟨z,_⟩ | ⟨z,_⟩
 ·exact z
 ·omega
 ·omega
theorem cY:aB ["which","web","order","count","found","e"] ["which","web","order","count"] (ag bN):=⟨rfl,rfl,rfl,by decide +kernel,rfl,by decide +kernel,by decide +kernel⟩
theorem HK{f f1 BO TW FE PL PS WC:Addr}{fd d1:FuncData} (F:Fun K "_law_refusal" "_law_refusal" bN f fd) (X_FloorError:ErrC K mg "FloorError" FE) (X_TooWide:ErrC K mg "TooWide" TW) (X_BadOrder:ErrC K mg "BadOrder" BO) (mTF:Kd K TW (.ref FE)=some true) (mBF:Kd K BO (.ref FE)=some true)
  (G_law_ask:CalX P w K mg base 7 "_law_ask" ["which","web","order","count"] (Hg BO TW PL PS WC) f1 d1):FnOk P w K mg base CX0 8 f fd ["which","web","order","count"] (Aj BO TW PL PS WC):=by
 have hCs:∀ c,(c=TW∨c=BO)->ExC K c/\Kd K c (.ref FE)=some true:=fun c hc=>by
  rcases hc with hc | hc
  ·subst hc;exact⟨X_TooWide.ec,mTF⟩
  ·subst hc;exact⟨X_BadOrder.ec,mBF⟩
 refine F.ok cY (fun vs H Q E h=>?_) (fun cdv A outer s H vs Q E hr h=>?_)
 ·obtain⟨wh,m,cnt,p,es,ts,ks,v,ns,rfl,_⟩:=h
  rfl
 obtain⟨wh,m,cnt,p,es,ts,ks,v,ns,rfl,w2,wt,kl,tn,e100,m40,td,cm,kb,kw⟩:=h
 refine⟨_,(af (ax (i:=4) cY.nd rfl (Or.inl rfl) Gv)
   (af (Fj (ie:=5) (Cs:=(fun c=>c=TW∨c=BO)) rfl rfl rfl cY.nd rfl rfl rfl X_FloorError.mg X_FloorError.ec hCs (fun pins XE W ws=>(ak (bR (Fp G_law_ask.ok (hr.mono (by decide)) rfl G_law_ask.mg G_law_ask.kp G_law_ask.bn .nil ws rfl (aa (pv 0) (aa (pv 1) (aa (pv 2) (aa (pv 3) ah)))))))) (fun v=>(ak (ax (i:=4) cY.nd rfl (Or.inl rfl) (pv 5)))))
   (ak (aI (pv 4))))),?_⟩
 refine⟨_,rfl,_,rfl,_,rfl,_,rfl,wh,m,cnt,p,es,ts,ks,v,ns,rfl,w2,wt,kl,tn,e100,m40,td,cm,fun np H1 s1=>⟨BO,rfl,.inr rfl,fun x hx=>?_⟩,fun pm=>⟨(kw pm).1,fun H1 s1=>⟨TW,rfl,.inl rfl,fun x hx=>?_⟩⟩⟩
 ·exact⟨_,rfl,_,rfl,kb np x _ (s1.trans (aj hx _)) ae⟩
 ·exact⟨_,rfl,_,rfl,(kw pm).2 x _ (s1.trans (aj hx _)) ae⟩
theorem gU:aB ["which","web","order","count","found"] ["which","web","order","count"] (ag bu):=⟨rfl,rfl,rfl,by decide +kernel,rfl,by decide +kernel,by decide +kernel⟩
theorem HG{f f1 BO TW PL PS WC:Addr}{fd d1:FuncData} (F:Fun K "_law_too_wide" "_law_too_wide" bu f fd) (T:TxtE mg TW BO) (eT:ErC K TW) (kTB:Ks K (.ref TW) (.ref BO)=some false)
  (G_law_refusal:Cal P w K mg base 8 "_law_refusal" ["which","web","order","count"] (Aj BO TW PL PS WC) f1 d1):FnOk P w K mg base CX0 9 f fd ["which","web","order","count"] (Cu PL PS WC):=by
 refine F.ok gU (fun vs H Q E h=>?_) (fun cdv A outer s H vs Q E hr h=>?_)
 ·obtain⟨wh,m,cnt,p,es,ts,ks,v,ns,rfl,_⟩:=h
  rfl
 obtain⟨wh,m,cnt,p,es,ts,ks,v,ns,rfl,w2,wt,kl,tn,e100,m40,td,cm,pm,rf,kk⟩:=h
 refine⟨_,(af (ax (i:=4) gU.nd rfl (Or.inl rfl) (aG G_law_refusal.ok (hr.mono (by decide)) rfl G_law_refusal.mg G_law_refusal.kp G_law_refusal.bn .nil aZ (aa (pv 0) (aa (pv 1) (aa (pv 2) (aa (pv 3) ah))))))
   (ak (aI (Aq (aq wN (by rfl) T.n_isinstance aO (aa (pv 4) (aa (oz (v:=.ref _) rfl T.g_TooWide rfl) ah))) (An (Gu (aq wO (by rfl) T.n_isinstance aO (aa (pv 4) (aa (oz (v:=.ref _) rfl T.g_BadOrder rfl) ah))))))))),?_⟩
 refine⟨_,rfl,_,rfl,_,rfl,_,rfl,wh,m,cnt,p,es,ts,ks,v,ns,rfl,w2,wt,kl,tn,e100,m40,td,cm,fun np=>absurd pm np,fun _=>⟨rf,fun x H1 s1 hx=>?_⟩⟩
 refine⟨_,rfl,x,TW,rfl,hx,_,rfl,iteT ?_⟩
 exact⟨_,rfl,x,TW,BO,false,rfl,hx,eT,kTB,_,rfl,kk _ s1⟩
theorem eh:aB ["web","order","which","found"] ["web","order"] (ag bx):=⟨rfl,rfl,rfl,by decide +kernel,rfl,by decide +kernel,by decide +kernel⟩
theorem HN{f f1 BO TW PL PS WC:Addr}{fd d1:FuncData} (F:Fun K "_law_no_order" "_law_no_order" bx f fd) (T:TxtE mg TW BO) (eB:ErC K BO) (kBT:Ks K (.ref BO) (.ref TW)=some false)
  (G_law_refusal:Cal P w K mg base 8 "_law_refusal" ["which","web","order","count"] (Aj BO TW PL PS WC) f1 d1):FnOk P w K mg base CX0 9 f fd ["web","order"] (CB PL PS WC):=by
 refine F.ok eh (fun vs H Q E h=>?_) (fun cdv A outer s H vs Q E hr h=>?_)
 ·obtain⟨m,p,es,ts,ks,v,ns,rfl,_⟩:=h
  rfl
 obtain⟨m,p,es,ts,ks,v,ns,rfl,wt,kl,tn,e100,m40,td,np,kk⟩:=h
 refine⟨_,(af (ck PassesOwn.never rfl (cA rfl T.n_range (aa ai ah)) (aM (i:=2) eh.nd rfl (Or.inl rfl)) (af (ax (i:=3) eh.nd rfl (Or.inl rfl) (aG G_law_refusal.ok (hr.mono (by decide)) rfl G_law_refusal.mg G_law_refusal.kp G_law_refusal.bn .nil aZ (aa (pv 2) (aa (pv 0) (aa (pv 1) (aa ai ah))))))
   (ak (bQ (PW.pt (jm (eU (df (aq wN (by rfl) T.n_isinstance aO (aa (pv 3) (aa (oz (v:=.ref _) rfl T.g_BadOrder rfl) ah))))) (gX (df (aq wO (by rfl) T.n_isinstance aO (aa (pv 3) (aa (oz (v:=.ref _) rfl T.g_TooWide rfl) ah))))))) (ak (aI kK)) aK))))
   (ak (aI kK))),?_⟩
 refine⟨_,rfl,by omega,by omega,iy (n:=(3:Int).toNat) (fun i σ H2=>∃ v2 v3,σ = [some (.ref p),some v,v2,v3]/\Same H H2) ⟨_,_,rfl,fun _ _ z=>z⟩ ?_ ?_⟩
 ·rintro i σ H2 hi ⟨v2,v3,rfl,s2⟩
  refine⟨_,rfl,_,rfl,_,rfl,i,m,0,p,es,ts,ks,v,ns,by rw[KA];rfl,by omega,wt.mono s2,kl,tn,e100,m40,td.keep s2,Kc _,fun _ x H1 s1 hx=>?_,fun pm=>absurd pm np⟩
  refine⟨_,rfl,x,BO,rfl,hx,_,rfl,iteF ?_⟩
  refine⟨_,rfl,x,BO,TW,false,rfl,hx,eB,kBT,_,rfl,iteF ?_⟩
  exact⟨_,_,rfl,s2.trans s1⟩
 ·rintro σ H2 ⟨v2,v3,rfl,s2⟩
  exact kk _ s2
end
end K8
namespace K8
open PySem L2
local macro_rules | `(tactic| walk_at "cc") => `(tactic| first | exact ⟨by decide, by decide⟩ | (show (0 : Int) < _; decide) | (show (0 : Int) < _; omega) | (show (0 : Int) ≤ _; omega) | exact ⟨by decide, by decide, by decide⟩ | exact ⟨by omega, by omega, by decide⟩ | exact Or.inl ⟨by decide, by decide⟩ | exact Or.inl ⟨by omega, by omega⟩)
local macro_rules | `(tactic| walk_at "rd") => `(tactic| repeat (first | refine ⟨_, rfl, ?_⟩ | refine ⟨_, _, rfl, rfl, ?_⟩ | refine ⟨rfl, ?_⟩ | (refine ⟨?cc, ?_⟩; (case cc => walk_at "cc"))))
theorem xP:aB ["found"] ["found"] (ag dW):=⟨rfl,rfl,rfl,by decide +kernel,rfl,by decide +kernel,by decide +kernel⟩
def Cy:Sp:=fun vs H Q _=>∃(v:V)(p:Pr),vs = [v]/\PrAt H v p/\Q (.bl true) H
structure Lw(K:IT)(PL PS WC:Addr)(H:Hp)(a o pk p:Addr)(ns:List Int)(n c:Nat)(tb:Bool)(os:List Nat)(ws:List V)(ks:Kn)(es:En)(ts:List (List Nat)):Prop where
 hS:SqL K H a (ns.map V.int)
 h63:ns.length<=63
 ho:H o=some (.lst (os.map iV))
 hpk:H pk=some (.lst ws)
 ht:fi H ws ks
 kl:ks.length=es.length
 st:Star n c tb os es ts
 wt:WebT PL PS WC H p (n+1) es ts ks
 n39:n<=39
theorem Lw.mono{K:IT}{PL PS WC:Addr}{H H':Hp}{a o pk p:Addr}{ns:List Int}{n c:Nat}{tb:Bool}{os:List Nat}{ws:List V}{ks:Kn}{es:En}{ts:List (List Nat)}(h:Lw K PL PS WC H a o pk p ns n c tb os ws ks es ts)(s:Same H H'):Lw K PL PS WC H' a o pk p ns n c tb os ws ks es ts :=
 ⟨s.seq h.hS,h.h63,s _ _ h.ho,s _ _ h.hpk,h.ht.mono s,h.kl,h.st,h.wt.mono s,h.n39⟩
def restA(K:IT)(PL PS WC:Addr):TS:=fun D σ H=>∃(a o pk p:Addr)(ns:List Int)(f0:Int)(n c:Nat)(tb:Bool)(os:List Nat)(ws:List V)(ks:Kn)(es:En)(ts:List (List Nat)),σ = [some (.ref a),some (.int f0),some (.int (n:Int)),some (.int (c:Int)),some (.ref o),some (.ref pk),some (.ref p),none,none,none,none,none,none] /\
 Lw K PL PS WC H a o pk p ns n c tb os ws ks es ts/\∀ H',D.rt (.bl true) H'
def Fh(K:IT)(PL PS WC:Addr):TS:=fun D σ H=>∃(a o pk p q:Addr)(ns:List Int)(f0:Int)(n c A:Nat)(tb:Bool)(os:List Nat)(ws:List V)(ks:Kn)(es:En)(ts:List (List Nat)),σ = [some (.ref a),some (.int f0),some (.int (n:Int)),some (.int (c:Int)),some (.ref o),some (.ref pk),some (.ref p),some (.int (A:Int)),some (.ref q),none,none,none,none] /\
 Lw K PL PS WC H a o pk p ns n c tb os ws ks es ts/\A<=n/\H q=some (.lst ((odS c A os).map iV))/\∀ H',D.rt (.bl true) H'
def restD(K:IT)(PL PS WC:Addr):TS:=fun D σ H=>∃(a o pk p q:Addr)(ns:List Int)(f0:Int)(n c A:Nat)(tb:Bool)(os:List Nat)(ws:List V)(ks:Kn)(es:En)(ts:List (List Nat)),σ = [some (.ref a),some (.int f0),some (.int (n:Int)),some (.int (c:Int)),some (.ref o),some (.ref pk),some (.ref p),some (.int (A:Int)),some (.ref q),none,none,none,none] /\
 Lw K PL PS WC H a o pk p ns n c tb os ws ks es ts/\A<=n/\A<=8/\H q=some (.lst ((odS c A os).map iV))/\∀ H',D.rt (.bl true) H'
section
variable{K:IT}{PL PS WC:Addr}{H:Hp}{a o pk p q:Addr}{ns:List Int}{n c A:Nat}{tb:Bool}{os:List Nat}{ws:List V}{ks:Kn}{es:En}{ts:List (List Nat)}
theorem Star.permA(h:Star n c tb os es ts):(odS c A os).Perm (Ju (n+1)):=(tM h).trans ((Kp h.nd JU).mpr fun x=>⟨fun z=>Jx.mpr (h.lt x z),fun z=>by
 rcases h.all (Jx.mp z)with e | ⟨k,hk⟩
 ·rw[e];exact Jn
 ·exact Jk _ (IW hk)⟩)
theorem Star.len(h:Star n c tb os es ts):(odS c A os).length=n+1:=by rw[h.permA.length_eq,JH]
theorem Lw.told(lw:Lw K PL PS WC H a o pk p ns n c tb os ws ks es ts)(hq:H q=some (.lst ((odS c A os).map iV))):Told (n+1) (.ref q) H (cI (odS c A os)) :=
 .inr ⟨q,rfl,by rw[cI_V];exact hq,by unfold cI;rw[IV,lw.st.len];have:=lw.n39;omega⟩
theorem Lw.perm(lw:Lw K PL PS WC H a o pk p ns n c tb os ws ks es ts):(cI (odS c A os)).Perm (rI (n+1)):=lw.st.permA.map _
theorem Lw.e100(lw:Lw K PL PS WC H a o pk p ns n c tb os ws ks es ts):es.length<=100:=by have:=lw.st.el;have:=lw.n39;omega
theorem DZ(es:En):∀ od:List Nat,∃ ms,dh es od ms:=fun od=>by
 have go:∀ k,k<=od.length->∃ ms,dh es (od.take k) ms:=fun k=>by
  induction k with
  |zero=>intro _;exact⟨[0],rfl,fun k M e=>by
    match k with
    |0=>cases e;exact D5 es
    |k+1=>cases e⟩
  |succ k ih =>
   intro hk
   obtain⟨ms,hm⟩:=ih (by omega)
   obtain⟨x,hx⟩:∃ x,od[k]?=some x:=⟨_,IU (by omega)⟩
   have et:od.take (k+1)=od.take k++[x]:=by rw[Jt,hx];rfl
   obtain⟨M,hM⟩:=kU es od (mk (od.take k++[x]))
   rw[et]
   exact⟨_,hm.snoc hM⟩
 have:=go od.length (IY _)
 rwa[JA]at this
theorem Star.wd(h:Star n c tb os es ts){k:Nat}(hA:A<=n)(h8:8<A)(hk:9<=k):Wd es (cI (odS c A os)) k:=by
 obtain⟨ms,fr⟩:=DZ es (odS c A os)
 have ml:ms.length=n+2:=by rw[fr.1,h.len]
 obtain⟨M,hM⟩:∃ M,ms[9]?=some M:=⟨_,IU (by omega)⟩
 refine⟨_,ms,rfl,fr,M,?_,?_⟩
 ·exact IW (i:=9) (by rw[Kh,if_pos (by omega)];exact hM)
 ·rw[(iT h hA (by omega) (fr.2 9 M hM)).2]
  decide
end
theorem HE{es:En}{ks:Kn}{od:List Nat}{m:Nat}{T:List (Nat×Pr)}(pm:od.Perm (Ju m))(hbd:∀ e∈es,e.1<m/\e.2<m)(be:xq es ks od m T):∃ v,T = [(0,v)]/\AnsC es ks m v:=by
 have tk:od.take m=od:=JQ (by rw[pm.length_eq,JH];exact IY _)
 obtain⟨M,fr⟩:=kU es [] (mk (od.take m))
 have tb:=be.tb M fr
 obtain⟨v0,h0⟩:=tb.has 0 (fP _ (od.take m) 0 rfl fun x hx=>by rw[Kg]at hx;cases hx)
 have tl:0<T.length:=KG h0
 obtain⟨e,he⟩:∃ e,T[0]?=some e:=⟨_,IU tl⟩
 have M0:M=0:=by
  rw[tk]at fr
  exact kW pm hbd fr
 subst M0
 have z:∀ s v,(s,v)∈T->s=0:=fun s v h=>by
  obtain⟨L,_,q,_⟩:=(tb.bst s v h).ex
  have q':L&&&0=s:=q
  rw[Li]at q'
  exact q'.symm
 match T,tl,tb.nd,he,z with
 |[],tl,_,_,_=>cases tl
 |[e'],_,_,he,z =>
  cases he
  refine⟨e.2,?_,GK pm hbd be rfl⟩
  have:=z e.1 e.2 Jn
  rw[← this]
 |e1::e2::r,_,nd,_,z =>
  have z1:=z e1.1 e1.2 Jn
  have z2:=z e2.1 e2.2 (Jk _ Jn)
  exact absurd (show e1.1∈List.map (·.1) (e2::r) from Jj.mpr ⟨e2,Jn,z2.trans z1.symm⟩) (JD.mp nd).1
theorem Ar{K:IT}{H:Hp}{p:Addr}{a b:Int}(h:H p=some (.tup [.int a,.int b])):RdD K H (.ref p) (.tuple [.int a,.int b]):=by
 refine RdD.tup (SqT.of h) rfl fun j x d' q1 q2=>?_
 match j with
 |0=>cases q1;cases q2;exact .int _
 |1=>cases q1;cases q2;exact .int _
 |j+2=>cases q1
theorem vG(a b:Int):SeqAt.shaped (.tuple [.int a,.int b])=true:=by
 simp[SeqAt.shaped,PyData.canLay0,PyData.canLayAll0,PyData.depth,PyData.depthAll]
theorem Af{K:IT}{H:Hp}{p:Addr}{a b c:Int}(h:H p=some (.tup [.int a,.int b,.int c])):RdD K H (.ref p) (.tuple [.int a,.int b,.int c]):=by
 refine RdD.tup (SqT.of h) rfl fun j x d' q1 q2=>?_
 match j with
 |0=>cases q1;cases q2;exact .int _
 |1=>cases q1;cases q2;exact .int _
 |2=>cases q1;cases q2;exact .int _
 |j+3=>cases q1
theorem vd(a b c:Int):SeqAt.shaped (.tuple [.int a,.int b,.int c])=true:=by
 simp[SeqAt.shaped,PyData.canLay0,PyData.canLayAll0,PyData.depth,PyData.depthAll]
def oth(c k:Nat):List Nat:=(Ju k).filter fun x=>decide (x≠c)
theorem tF(c k:Nat):oth c (k+1)=if k=c then oth c k else oth c k++[k]:=by
 unfold oth
 rw[LN,KS]
 by_cases h:k=c
 ·rw[if_pos h];simp[h]
 ·rw[if_neg h];simp[h]
theorem C9(c:Nat):∀ k,c<k->(oth c k).length+1=k
 |0,h=>absurd h (LM _)
 |k+1,h=>by
  have low:∀ j,j<=c->oth c j=Ju j:=fun j hj=>List.filter_eq_self.mpr fun x hx=>decide_eq_true (by have:=Jx.mp hx;omega)
  rw[tF]
  by_cases e:k=c
  ·rw[if_pos e,low k (by omega),JH]
  ·rw[if_neg e,IX]
   have:=C9 c k (by omega)
   show _+1+1=_
   omega
theorem oth_nd(c k:Nat):(c::oth c k).Nodup:=JD.mpr ⟨fun h=>by have:=(JZ.mp h).2;simp at this,(JU).filter _⟩
theorem oth_lt{c k x:Nat}(h:x∈oth c k):x<k:=Jx.mp (JZ.mp h).1
theorem oth_le(c k:Nat):(oth c k).length<=k:=JS (KZ _ _) (by rw[JH];exact IY _)
theorem IE(xs:List V):cutV xs none (some (-1))=xs.dropLast:=by
 unfold cutV
 rw[HT.sIx_none,List.drop_zero,Nat.sub_zero,List.dropLast_eq_take]
 have e:HT.sIx xs.length xs.length (some (-1))=((-1:Int)+(xs.length:Int)).toNat:=rfl
 rw[e]
 congr 1
 omega
theorem Gd{xs:List V}{v:V}(h:xs.getLast?=some v):atI xs (-1)=some v:=by
 have hne:xs≠[]:=fun e=>by subst e;cases h
 have hl:0<xs.length:=List.length_pos_iff.mpr hne
 rw[Mr]at h
 unfold atI ixN
 rw[if_neg (by decide),if_pos (by omega)]
 show xs[((-1:Int)+(xs.length:Int)).toNat]?=some v
 rw[← h]
 congr 1
 omega
section
variable{P:Program}{w:World}{K:IT}{mg:Str->Option Value}{base:Heap}
theorem HL{f fw:Addr}{fd fdw:FuncData} (F:Fun K "_law_pair" "_law_pair" dW f fd) (T:Txt mg) (G_law_whole:Cal P w K mg base 1 "_law_whole" ["found"] CA fw fdw):FnOk P w K mg base CX0 2 f fd ["found"] Cy:=by
 refine F.ok xP (fun vs H Q E h=>?_) (fun cdv A outer s H vs Q E hr h=>?_)
 ·obtain⟨v,p,rfl,_⟩:=h
  rfl
 obtain⟨v,p,rfl,⟨t,rfl,ht⟩,k⟩:=h
 refine⟨_,(af (bQ (PW.pt (jm (eU (df (aq gz (by rfl) T.n_isinstance aO (aa (pv 0) (aa (jE (v:=.ty "tuple") rfl T.n_tuple uK rfl) ah))))) (gX (aE jF (aq aA (by rfl) T.n_len cu (aa (pv 0) ah)) ai (aJ _))))) (ak (aI kK)) aK)
   (ak (aI (Aq (aG G_law_whole.ok (hr.mono (by decide)) rfl G_law_whole.mg G_law_whole.kp G_law_whole.bn .nil aZ (aa (aW bT (pv 0) ai (fun _ _=>rfl)) ah)) (An (aG G_law_whole.ok (hr.mono (by decide)) rfl G_law_whole.mg G_law_whole.kp G_law_whole.bn .nil aZ (aa (aW bT (pv 0) ai (fun _ _=>rfl)) ah))))))),?_⟩
 refine⟨_,rfl,_,_,_,_,_,rfl,TyOf.tup ht,Or.inl ⟨_,rfl,rfl⟩,DB K,_,rfl,iteF ?_⟩
 refine⟨_,rfl,t,_,rfl,.inr (SqT.of ht),rfl,_,rfl,qS rfl ?_⟩
 refine⟨_,rfl,t,_,0,_,rfl,rfl,SqT.of ht,at0,p.1,rfl,_,rfl,iteT ?_⟩
 exact⟨_,rfl,t,_,1,_,rfl,rfl,SqT.of ht,at1,p.2,rfl,k⟩
theorem eS:aB ["script","first","leaves","centre","others","told","web","ahead","order","due","row","found","last"] ["script"] (ag sU):=⟨rfl,rfl,rfl,by decide +kernel,rfl,by decide +kernel,by decide +kernel⟩
theorem ok_law{f f1 f2 f3 f4 f5 f6 f7 f8 f9 f10 BO TW PL PS WC:Addr}{fd d1 d2 d3 d4 d5 d6 d7 d8 d9 d10:FuncData} (F:Fun K "law" "law" sU f fd) (T:Txt mg) (G_law_cell:Cal P w K mg base 1 "_law_cell" ["script","k"] (Ak K) f1 d1) (G_law_told:Cal P w K mg base 2 "_law_told" ["script","leaves"] (Cv K) f2 d2)
  (G_law_star:Cal P w K mg base 7 "_law_star" ["centre","others","told","turned"] (Cw PL PS WC) f3 d3) (G_law_too_wide:Cal P w K mg base 9 "_law_too_wide" ["which","web","order","count"] (Cu PL PS WC) f4 d4) (G_law_no_order:Cal P w K mg base 9 "_law_no_order" ["web","order"] (CB PL PS WC) f5 d5)
  (G_law_free:Cal P w K mg base 6 "_law_free" ["web","order","places"] (CG PL PS WC) f6 d6) (G_least_many:CalX P w K mg base 6 "least_many" ["web","order"] (spLM BO TW PL PS WC) f7 d7) (G_law_pair:Cal P w K mg base 2 "_law_pair" ["found"] Cy f8 d8) (G_front_table:CalX P w K mg base 5 "front_table" ["web","order","count"] (spFT BO TW PL PS WC) f9 d9)
  (G_law_whole:Cal P w K mg base 1 "_law_whole" ["found"] CA f10 d10):FnOk P w K mg base CX0 10 f fd ["script"] (Fd K):=by
 refine F.ok eS (fun vs H Q E h=>?_) (fun cdv A outer s H vs Q E hr h=>?_)
 ·obtain⟨a,ns,rfl,_⟩:=h
  rfl
 obtain⟨a,ns,rfl,hS,h63,kk⟩:=h
 have hu64:=hr.units
 refine⟨_,(af (ax (i:=1) eS.nd rfl (Or.inl rfl) (aG G_law_cell.ok (hr.mono (by decide)) rfl G_law_cell.mg G_law_cell.kp G_law_cell.bn .nil aZ (aa (pv 0) (aa ai ah))))
   (af (ax (i:=2) eS.nd rfl (Or.inl rfl) (aC cL ai (aC eW (pv 1) ai)))
   (af (ax (i:=3) eS.nd rfl (Or.inr rfl) (aC eW (aC fq (pv 1) ai) (aC cL (pv 2) ai)))
   (af (xX (i:=4) rfl eS.nd rfl rfl (fr:=[("centre",3)]) (xs:=["place"]) (qg.of (by rfl) (by decide +kernel) (by rfl) (by decide +kernel) (by intro p hp;simp only[Ja,JK,or_false]at hp;rcases hp with rfl<;>exact⟨rfl,rfl⟩) (by decide +kernel) (by intro p hp;simp only[Ja,JK,or_false]at hp;rcases hp with rfl<;>rfl)) (cA rfl T.n_range (aa (aC cL (pv 2) ai) ah)) (fun C ex s H=>(aM (i:=0) (show(["place","centre"]:List Str).Nodup from by decide +kernel) rfl (Or.inl rfl))) (fun C ex s H=>(xW (aE jF (pv 0) (pv 1) (aJ _)))) (fun C ex s H=>(pv 0)))
   (af (ax (i:=5) eS.nd rfl (Or.inl rfl) (aG G_law_told.ok (hr.mono (by decide)) rfl G_law_told.mg G_law_told.kp G_law_told.bn .nil aZ (aa (pv 0) (aa (pv 2) ah))))
   (af (ax (i:=6) eS.nd rfl (Or.inl rfl) (aG G_law_star.ok (hr.mono (by decide)) rfl G_law_star.mg G_law_star.kp G_law_star.bn .nil aZ (aa (pv 3) (aa (pv 4) (aa (pv 5) (aa (ym lG (aC eW (aC fq (pv 1) ai) ai) ai (aJ _)) ah))))))
   (gY (t2:=restA K PL PS WC) (af (ax (i:=7) eS.nd rfl (Or.inl rfl) (aC eW (aq (lp rfl) (by rfl) T.n_sum wU (aa (pv 0) ah)) (aC cL (pv 2) ai)))
   (af (ax (i:=8) eS.nd rfl (Or.inl rfl) (aC tG (aC tG (eV gT (pv 4) g8 (gZ (pv 7))) (dv (aa (pv 3) ah))) (eV gT (pv 4) (gZ (pv 7)) g8)))
   (gY (t2:=Fh K PL PS WC) (af (bQ (PW.pt (pw_and (aE Dc (pv 2) ai (aJ _)) (Hr (eU (df (aG G_law_too_wide.ok (hr.mono (by decide)) rfl G_law_too_wide.mg G_law_too_wide.kp G_law_too_wide.bn .nil aZ (aa ai (aa (pv 6) (aa (pv 8) (aa ai ah)))))))))) (ak (aI kK)) aK)
   (gY (t2:=Fh K PL PS WC) (af (bQ (PW.pt (jm (eU (df (aG G_law_no_order.ok (hr.mono (by decide)) rfl G_law_no_order.mg G_law_no_order.kp G_law_no_order.bn .nil aZ (aa (pv 6) (aa (eV gT (pv 8) (gZ ai) g8) ah))))) (gX (eU (df (aG G_law_no_order.ok (hr.mono (by decide)) rfl G_law_no_order.mg G_law_no_order.kp G_law_no_order.bn .nil aZ (aa (pv 6) (aa (aC tG (eV gT (pv 8) (gZ ai) g8) (dv (aa (aW a9 (pv 8) (Fn Ae ai) (fun _ _=>rfl)) ah))) ah)))))))) (ak (aI kK)) aK)
   (gY (t2:=Fh K PL PS WC) (af (bQ (eU (df (aG G_law_no_order.ok (hr.mono (by decide)) rfl G_law_no_order.mg G_law_no_order.kp G_law_no_order.bn .nil aZ (aa (pv 6) (aa (aC tG (eV gT (pv 8) g8 (gZ (Fn Ae ai))) (dv (aa (aW a9 (dv (aa (Fn Ae ai) (aa (aC cL (pv 2) ai) ah))) (aC eW (aC fq (aq (lp rfl) (by rfl) T.n_sum wU (aa (pv 0) ah)) ai) ai) (fun _ _=>rfl)) ah))) ah))))) (ak (aI kK)) aK)
   (gY (t2:=Fh K PL PS WC) (af (bQ (aE Dc (pv 7) ai (aJ _)) (af (bQ (PW.pt (jm (eU (df (aG G_law_too_wide.ok (hr.mono (by decide)) rfl G_law_too_wide.mg G_law_too_wide.kp G_law_too_wide.bn .nil aZ (aa ai (aa (pv 6) (aa (pv 8) (aa ai ah))))))) (gX (eU (df (aG G_law_too_wide.ok (hr.mono (by decide)) rfl G_law_too_wide.mg G_law_too_wide.kp G_law_too_wide.bn .nil aZ (aa ai (aa (pv 6) (aa (pv 8) (aa (aC cL ai (aC eW (aC fq (pv 1) ai) (aC As (pv 2) ai))) ah)))))))))) (ak (aI kK)) aK)
   (ak (aI (aG G_law_free.ok (hr.mono (by decide)) rfl G_law_free.mg G_law_free.kp G_law_free.bn .nil aZ (aa (pv 6) (aa (pv 8) (aa (eV gT (pv 4) g8 (gZ (aC eW (aC fq (pv 1) ai) ai))) ah))))))) aK)
   (gY (t2:=restD K PL PS WC) (af (ax (i:=9) eS.nd rfl (Or.inl rfl) ai)
   (af (ck PassesOwn.never rfl (bc (pv 5)) (aM (i:=10) eS.nd rfl (Or.inl rfl)) (ak (bQ (aE lG (aW bT (pv 10) ai (fun _ _=>rfl)) ai (aJ _)) (ak (ax (i:=9) eS.nd rfl (Or.inl rfl) (aC rM (pv 9) ai))) aK)))
   (af (ax (i:=11) eS.nd rfl (Or.inl rfl) (aG G_least_many.ok (hr.mono (by decide)) rfl G_least_many.mg G_least_many.kp G_least_many.bn .nil C7 (aa (pv 6) (aa (pv 8) ah))))
   (af (bQ (PW.pt (jm (eU (df (aG G_law_pair.ok (hr.mono (by decide)) rfl G_law_pair.mg G_law_pair.kp G_law_pair.bn .nil aZ (aa (pv 11) ah)))) (gX (aE (Gw hu64) (pv 11) (gN (aa ai (aa (pv 9) ah))) (aJ _))))) (ak (aI kK)) aK)
   (af (ax (i:=12) eS.nd rfl (Or.inl rfl) (aG G_front_table.ok (hr.mono (by decide)) rfl G_front_table.mg G_front_table.kp G_front_table.bn .nil C7 (aa (pv 6) (aa (pv 8) (aa (aC cL (pv 2) ai) ah)))))
   (af (bQ (PW.pt (jm (eU (df (aq gz (by rfl) T.n_isinstance aO (aa (pv 12) (aa (jE (v:=.ty "list") rfl T.n_list mB rfl) ah))))) (jm (aE jF (aq aA (by rfl) T.n_len cu (aa (pv 12) ah)) ai (aJ _)) (jm (eU (df (aq gz (by rfl) T.n_isinstance aO (aa (aW a9 (pv 12) ai (fun _ _=>rfl)) (aa (jE (v:=.ty "tuple") rfl T.n_tuple uK rfl) ah))))) (gX (aE jF (aq aA (by rfl) T.n_len cu (aa (aW a9 (pv 12) ai (fun _ _=>rfl)) ah)) ai (aJ _))))))) (ak (aI kK)) aK)
   (ak (aI (Aq (aq (wQ rfl) (by rfl) T.n_all GJ (aa (eA rfl (fr:=[]) (by exact bI.plain (by rfl) (by decide +kernel) (by rfl) (by decide +kernel) (by rfl) (by decide +kernel)) (Gq (aW a9 (pv 12) ai (fun _ _=>rfl))) (fun C ex s H=>(aG G_law_whole.ok (hr.mono (by decide)) rfl G_law_whole.mg G_law_whole.kp G_law_whole.bn .nil aZ (aa (pv 0) ah)))) ah)) (An (ym (op_eqD hu64) (aW a9 (pv 12) ai (fun _ _=>rfl)) (gN (aa ai (aa ai (aa (pv 9) ah)))) (aJ _)))))))))))) (fun D0 S0 H0 h0=>?restd))) (fun D0 S0 H0 h0=>?restc))) (fun D0 S0 H0 h0=>?resty))) (fun D0 S0 H0 h0=>?restx))) (fun D0 S0 H0 h0=>?restb)))) (fun D0 S0 H0 h0=>?resta)))))))),?_⟩
 case resta =>
  obtain⟨a,o,pk,p,ns,f0,n,c,tb,os,ws,ks,es,ts,rfl,lw,kk⟩:=h0
  have n39:=lw.n39
  have ol:=lw.st.ol
  obtain⟨Z,hZ⟩:∃ Z:Nat,ns.sum%((n:Int)+1)=(Z:Int):=⟨(ns.sum%((n:Int)+1)).toNat,by have:=Lu ns.sum (show((n:Int)+1)≠0 by omega);omega⟩
  have Zn:Z<=n:=by have:=L4 ns.sum (show(0:Int)<(n:Int)+1 by omega);omega
  refine⟨_,rfl,a,ns,rfl,lw.hS,_,rfl,_,_,rfl,rfl,_,_,rfl,rfl,(by show(0:Int)<_+1;omega),?_⟩
  have c1:cutV (os.map iV) none (some (ns.sum%((n:Int)+1)))=(os.take Z).map iV:=by rw[hZ,Es,Mx]
  have c2:cutV (os.map iV) (some (ns.sum%((n:Int)+1))) none=(os.drop Z).map iV:=by rw[hZ,cut_hi (by rw[IV];omega),My]
  refine⟨_,rfl,_,rfl,_,rfl,o,_,rfl,SqL.of lw.ho,fun q1 hq1=>?_⟩
  rw[c1]
  have s1:=aj hq1 (.lst ((os.take Z).map iV))
  have g1:upd H0 q1 (.lst ((os.take Z).map iV)) q1=some (.lst ((os.take Z).map iV)):=ae
  generalize upd H0 q1 (.lst ((os.take Z).map iV))=H1 at s1 g1
  refine⟨_,rfl,(by decide:(1:Nat)<=sizeLine),fun q2 hq2=>?_⟩
  have s2:=aj hq2 (.lst [V.int (c:Int)])
  have g2:upd H1 q2 (.lst [V.int (c:Int)]) q2=some (.lst [V.int (c:Int)]):=ae
  generalize upd H1 q2 (.lst [V.int (c:Int)])=H2 at s2 g2
  refine⟨q1,q2,_,_,rfl,rfl,SqL.of (s2 _ _ g1),SqL.of g2,JT (aw (by rw[IV,JE];show _+1<=_;omega)),fun q3 hq3=>?_⟩
  have s3:=aj hq3 (.lst ((os.take Z).map iV++[V.int (c:Int)]))
  have g3:upd H2 q3 (.lst ((os.take Z).map iV++[V.int (c:Int)])) q3=some (.lst ((os.take Z).map iV++[V.int (c:Int)])):=ae
  generalize upd H2 q3 (.lst ((os.take Z).map iV++[V.int (c:Int)]))=H3 at s3 g3
  have s03:=(s1.trans s2).trans s3
  refine⟨_,rfl,_,rfl,_,rfl,o,_,rfl,SqL.of (s03 _ _ lw.ho),fun q4 hq4=>?_⟩
  rw[c2]
  have s4:=aj hq4 (.lst ((os.drop Z).map iV))
  have g4:upd H3 q4 (.lst ((os.drop Z).map iV)) q4=some (.lst ((os.drop Z).map iV)):=ae
  generalize upd H3 q4 (.lst ((os.drop Z).map iV))=H4 at s4 g4
  refine⟨q3,q4,_,_,rfl,rfl,SqL.of (s4 _ _ g3),SqL.of g4,JT (aw (by rw[IX,IV,IV,JE,Ko];show _+1+_<=_;omega)),fun q5 hq5=>?_⟩
  have eo:(os.take Z).map iV++[V.int (c:Int)]++(os.drop Z).map iV=(odS c Z os).map iV:=by
   unfold odS
   rw[Jy,JJ,LB]
   rfl
  rw[eo]
  have s5:=aj hq5 (.lst ((odS c Z os).map iV))
  have g5:upd H4 q5 (.lst ((odS c Z os).map iV)) q5=some (.lst ((odS c Z os).map iV)):=ae
  generalize upd H4 q5 (.lst ((odS c Z os).map iV))=H5 at s5 g5
  exact⟨a,o,pk,p,q5,ns,f0,n,c,Z,tb,os,ws,ks,es,ts,by rw[← hZ];rfl,lw.mono ((s03.trans s4).trans s5),Zn,g5,kk⟩
 case restb =>
  obtain⟨a,o,pk,p,q,ns,f0,n,c,Z,tb,os,ws,ks,es,ts,rfl,lw,Zn,hq,kk⟩:=h0
  have n39:=lw.n39
  refine⟨_,rfl,_,_,rfl,rfl,_,rfl,ite2 (fun cc=>?_) (fun cc=>?_)⟩
  ·have n15:(15:Int)<(n:Int):=of_decide_eq_true cc
   refine⟨_,rfl,_,rfl,2,n+1,0,p,es,ts,ks,.ref q,_,rfl,by omega,lw.wt,lw.kl,lw.st.turn,lw.e100,by omega,lw.told hq,by omega,lw.perm,.inl ⟨rfl,by omega⟩,fun H1 s1=>⟨_,rfl,iteF ?_⟩⟩
   exact⟨a,o,pk,p,q,ns,f0,n,c,Z,tb,os,ws,ks,es,ts,rfl,lw.mono s1,Zn,s1 _ _ hq,kk⟩
  ·exact⟨a,o,pk,p,q,ns,f0,n,c,Z,tb,os,ws,ks,es,ts,rfl,lw,Zn,hq,kk⟩
 case restx =>
  obtain⟨a,o,pk,p,q,ns,f0,n,c,Z,tb,os,ws,ks,es,ts,rfl,lw,Zn,hq,kk⟩:=h0
  have n39:=lw.n39
  have n1:=lw.st.n1
  have ll:(odS c Z os).length=n+1:=lw.st.len
  have nd:(odS c Z os).Nodup:=lw.st.permA.nodup_iff.mpr JU
  have cx:cutV ((odS c Z os).map iV) (some 1) none=((odS c Z os).drop 1).map iV:=by rw[AQ,My]
  have np1:¬ (cI ((odS c Z os).drop 1)).Perm (rI (n+1)):=fun pm=>by
   have:=pm.length_eq
   unfold cI rI at this
   rw[IV,IV,Ko,JH]at this
   omega
  refine⟨_,rfl,_,rfl,_,rfl,q,_,rfl,SqL.of hq,fun q1 hq1=>?_⟩
  rw[cx]
  have s1:=aj hq1 (.lst (((odS c Z os).drop 1).map iV))
  have g1:upd H0 q1 (.lst (((odS c Z os).drop 1).map iV)) q1=some (.lst (((odS c Z os).drop 1).map iV)):=ae
  generalize upd H0 q1 (.lst (((odS c Z os).drop 1).map iV))=H1 at s1 g1
  have l1:=lw.mono s1
  refine⟨n+1,p,es,ts,ks,.ref q1,_,rfl,l1.wt,l1.kl,l1.st.turn,l1.e100,by omega,.inr ⟨q1,rfl,by rw[cI_V];exact g1,by unfold cI;rw[IV,Ko];omega⟩,np1,fun H2 s2=>⟨_,rfl,iteF ?_⟩⟩
  have s02:=s1.trans s2
  have hq2:=s02 _ _ hq
  have l2:=lw.mono s02
  obtain⟨y,hy⟩:∃ y,(odS c Z os).getLast?=some y:=⟨_,List.getLast?_eq_some_getLast (fun e=>by rw[e]at ll;simp at ll)⟩
  have my:y∈(odS c Z os).drop 1:=by
   have e2:(odS c Z os)[n]?=some y:=by rw[← hy,Mr,ll];rfl
   refine IW (i:=n-1) ?_
   rw[LY,← e2]
   congr 1
   omega
  have np2:¬ (cI ((odS c Z os).drop 1++[y])).Perm (rI (n+1)):=fun pm=>by
   have n2:(cI ((odS c Z os).drop 1++[y])).Nodup:=pm.nodup_iff.mpr (by unfold rI;exact KO.map _ (fun a b h e=>h (by omega)) JU)
   unfold cI at n2
   have n3:((odS c Z os).drop 1++[y]).Nodup:=(Le.mp n2).imp fun h e=>h (by rw[e])
   exact(Ka.mp n3).2.2 y my y (Jq.mpr rfl) rfl
  refine⟨_,rfl,_,rfl,_,rfl,q,_,rfl,SqL.of hq2,fun q3 hq3=>?_⟩
  rw[cx]
  have s3:=aj hq3 (.lst (((odS c Z os).drop 1).map iV))
  have g3:upd H2 q3 (.lst (((odS c Z os).drop 1).map iV)) q3=some (.lst (((odS c Z os).drop 1).map iV)):=ae
  generalize upd H2 q3 (.lst (((odS c Z os).drop 1).map iV))=H3 at s3 g3
  refine⟨_,rfl,_,rfl,q,_,-1,iV y,rfl,rfl,SqL.of (s3 _ _ hq2),Gd (by rw[List.getLast?_map,hy];rfl),(by decide:(1:Nat)<=sizeLine),fun q4 hq4=>?_⟩
  have s4:=aj hq4 (.lst [iV y])
  have g4:upd H3 q4 (.lst [iV y]) q4=some (.lst [iV y]):=ae
  generalize upd H3 q4 (.lst [iV y])=H4 at s4 g4
  refine⟨q3,q4,_,_,rfl,rfl,SqL.of (s4 _ _ g3),SqL.of g4,JT (aw (by rw[IV,Ko];show _+1<=_;omega)),fun q5 hq5=>?_⟩
  have eo:((odS c Z os).drop 1).map iV++[iV y]=((odS c Z os).drop 1++[y]).map iV:=by rw[Jy];rfl
  rw[eo]
  have s5:=aj hq5 (.lst (((odS c Z os).drop 1++[y]).map iV))
  have g5:upd H4 q5 (.lst (((odS c Z os).drop 1++[y]).map iV)) q5=some (.lst (((odS c Z os).drop 1++[y]).map iV)):=ae
  generalize upd H4 q5 (.lst (((odS c Z os).drop 1++[y]).map iV))=H5 at s5 g5
  have s25:=(s3.trans s4).trans s5
  have l5:=l2.mono s25
  refine⟨n+1,p,es,ts,ks,.ref q5,_,rfl,l5.wt,l5.kl,l5.st.turn,l5.e100,by omega,.inr ⟨q5,rfl,by rw[cI_V];exact g5,by unfold cI;rw[IV,IX,Ko];show _+1<=_;omega⟩,np2,fun H6 s6=>⟨_,rfl,iteF ?_⟩⟩
  exact⟨a,o,pk,p,q,ns,f0,n,c,Z,tb,os,ws,ks,es,ts,rfl,l5.mono s6,Zn,s6 _ _ (s25 _ _ hq2),kk⟩
 case resty =>
  obtain⟨a,o,pk,p,q,ns,f0,n,c,Z,tb,os,ws,ks,es,ts,rfl,lw,Zn,hq,kk⟩:=h0
  have n39:=lw.n39
  have ll:(odS c Z os).length=n+1:=lw.st.len
  have cx:cutV ((odS c Z os).map iV) none (some (-1))=((odS c Z os).dropLast).map iV:=by rw[IE,List.map_dropLast]
  refine⟨_,rfl,_,rfl,_,rfl,_,rfl,q,_,rfl,SqL.of hq,fun q1 hq1=>?_⟩
  rw[show cutV ((odS c Z os).map iV) none (some _)=_ from cx]
  have s1:=aj hq1 (.lst (((odS c Z os).dropLast).map iV))
  have g1:upd H0 q1 (.lst (((odS c Z os).dropLast).map iV)) q1=some (.lst (((odS c Z os).dropLast).map iV)):=ae
  generalize upd H0 q1 (.lst (((odS c Z os).dropLast).map iV))=H1 at s1 g1
  refine⟨_,rfl,_,rfl,_,_,rfl,rfl,(by decide:(2:Nat)<=sizeLine),fun q2 hq2=>?_⟩
  have s2:=aj hq2 (.lst [V.int (-1),V.int ((n:Int)+1)])
  have g2:upd H1 q2 (.lst [V.int (-1),V.int ((n:Int)+1)]) q2=some (.lst [V.int (-1),V.int ((n:Int)+1)]):=ae
  generalize upd H1 q2 (.lst [V.int (-1),V.int ((n:Int)+1)])=H2 at s2 g2
  have s02:=s1.trans s2
  obtain⟨z,hz,hz2⟩:∃ z:Int,atI [V.int (-1),V.int ((n:Int)+1)] (ns.sum/40%2)=some (V.int z)/\(z = -1∨z=(n:Int)+1):=by
   have:ns.sum/40%2=0∨ns.sum/40%2=1:=by omega
   rcases this with e | e
   ·exact⟨-1,by rw[e];rfl,.inl rfl⟩
   ·exact⟨_,by rw[e];rfl,.inr rfl⟩
  refine⟨_,rfl,a,ns,rfl,s02.seq lw.hS,_,_,rfl,rfl,⟨by decide,by decide⟩,_,_,rfl,rfl,(by show(0:Int)<2;decide),q2,_,_,_,rfl,rfl,SqL.of g2,hz,(by decide:(1:Nat)<=sizeLine),fun q3 hq3=>?_⟩
  have s3:=aj hq3 (.lst [V.int z])
  have g3:upd H2 q3 (.lst [V.int z]) q3=some (.lst [V.int z]):=ae
  generalize upd H2 q3 (.lst [V.int z])=H3 at s3 g3
  refine⟨q1,q3,_,_,rfl,rfl,SqL.of (s3 _ _ (s2 _ _ g1)),SqL.of g3,JT (aw (by rw[IV,KL];show _+1<=_;omega)),fun q4 hq4=>?_⟩
  have eo:((odS c Z os).dropLast).map iV++[V.int z]=(cI ((odS c Z os).dropLast)++[z]).map V.int:=by rw[Jy,cI_V];rfl
  rw[eo]
  have s4:=aj hq4 (.lst ((cI ((odS c Z os).dropLast)++[z]).map V.int))
  have g4:upd H3 q4 (.lst ((cI ((odS c Z os).dropLast)++[z]).map V.int)) q4=some (.lst ((cI ((odS c Z os).dropLast)++[z]).map V.int)):=ae
  generalize upd H3 q4 (.lst ((cI ((odS c Z os).dropLast)++[z]).map V.int))=H4 at s4 g4
  have s04:=(s02.trans s3).trans s4
  have l4:=lw.mono s04
  have np:¬ (cI ((odS c Z os).dropLast)++[z]).Perm (rI (n+1)):=fun pm=>by
   have mz:z∈rI (n+1):=pm.mem_iff.mp (Jc _ (Jq.mpr rfl))
   unfold rI at mz
   obtain⟨y,hy,e⟩:=Jj.mp mz
   have:=Jx.mp hy
   rcases hz2 with e2 | e2<;>omega
  refine⟨n+1,p,es,ts,ks,.ref q4,_,rfl,l4.wt,l4.kl,l4.st.turn,l4.e100,by omega,.inr ⟨q4,rfl,g4,by unfold cI;rw[IX,IV,KL];show _+1<=_;omega⟩,np,fun H6 s6=>⟨_,rfl,iteF ?_⟩⟩
  exact⟨a,o,pk,p,q,ns,f0,n,c,Z,tb,os,ws,ks,es,ts,rfl,l4.mono s6,Zn,s6 _ _ (s04 _ _ hq),kk⟩
 case restc =>
  obtain⟨a,o,pk,p,q,ns,f0,n,c,Z,tb,os,ws,ks,es,ts,rfl,lw,Zn,hq,kk⟩:=h0
  have n39:=lw.n39
  refine⟨_,rfl,_,_,rfl,rfl,_,rfl,ite2 (fun cc=>?_) (fun cc=>?_)⟩
  ·have z8:(8:Int)<(Z:Int):=of_decide_eq_true cc
   refine⟨_,rfl,_,rfl,1,n+1,0,p,es,ts,ks,.ref q,_,rfl,by omega,lw.wt,lw.kl,lw.st.turn,lw.e100,by omega,lw.told hq,by omega,lw.perm,.inr (.inl ⟨rfl,lw.st.wd Zn (by omega) (by omega)⟩),fun H1 s1=>⟨_,rfl,iteF ?_⟩⟩
   obtain⟨r,hr'⟩:∃ r:Nat,f0/3120%((n:Int)-7)=(r:Int):=⟨(f0/3120%((n:Int)-7)).toNat,by have:=Lu (f0/3120) (show((n:Int)-7)≠0 by omega);omega⟩
   have rn:(r:Int)<(n:Int)-7:=by have:=L4 (f0/3120) (show(0:Int)<(n:Int)-7 by omega);omega
   have l1:=lw.mono s1
   refine⟨_,rfl,_,rfl,_,rfl,_,_,rfl,rfl,⟨by decide,by decide⟩,_,rfl,_,_,rfl,rfl,_,_,rfl,rfl,(by show(0:Int)<_-7;omega),_,_,rfl,rfl,0,n+1,9+r,p,es,ts,ks,.ref q,_,by rw[Int.natCast_add,← hr'];rfl,by omega,l1.wt,l1.kl,l1.st.turn,l1.e100,by omega,l1.told (s1 _ _ hq),by omega,l1.perm,.inr (.inr ⟨rfl,lw.st.wd Zn (by omega) (by omega)⟩),fun H2 s2=>⟨_,rfl,iteF ?_⟩⟩
   obtain⟨k,hk⟩:∃ k:Nat,f0/3120%6=(k:Int):=⟨(f0/3120%6).toNat,by omega⟩
   have k5:k<=5:=by omega
   have l2:=l1.mono s2
   have cx:cutV (os.map iV) none (some (f0/3120%6))=(os.take k).map iV:=by rw[hk,Es,Mx]
   refine⟨_,rfl,_,rfl,_,rfl,_,rfl,_,_,rfl,rfl,⟨by decide,by decide⟩,_,_,rfl,rfl,(by show(0:Int)<6;decide),_,rfl,o,_,rfl,SqL.of l2.ho,fun q1 hq1=>?_⟩
   rw[cx]
   have s3:=aj hq1 (.lst ((os.take k).map iV))
   exact⟨p,q,q1,n,c,Z,k,tb,os,es,ts,ks,rfl,l2.wt.mono s3,l2.kl,l2.st,n39,Zn,by omega,k5,s3 _ _ (s2 _ _ (s1 _ _ hq)),ae,fun H' _=>kk H'⟩
  ·have z8:¬ (8:Int)<(Z:Int):=fun z=>cc (decide_eq_true z)
   exact⟨a,o,pk,p,q,ns,f0,n,c,Z,tb,os,ws,ks,es,ts,rfl,lw,Zn,by omega,hq,kk⟩
 case restd =>
  obtain⟨a,o,pk,p,q,ns,f0,n,c,Z,tb,os,ws,ks,es,ts,rfl,lw,Zn,z8,hq,kk⟩:=h0
  have n39:=lw.n39
  have n1:=lw.st.n1
  have kn:ks.length=n:=by rw[lw.kl,lw.st.el]
  have ll:(odS c Z os).length=n+1:=lw.st.len
  have wl:ws.length=ks.length:=lw.ht.1
  have tk:(odS c Z os).take (n+1)=odS c Z os:=JQ (by omega)
  have pmN:(odS c Z os).Perm (Ju (n+1)):=lw.st.permA
  have inj:∀{x y:List Nat},cI x=cI y->x=y:=fun{x y} h=>(Ly (fun a b h=>by omega)).mp h
  have nar:∀ ms,dh es (odS c Z os) ms->∀ M∈ms,(bl M).length<=8:=fun ms fr M hM=>by
   obtain⟨k,hk⟩:=JY hM
   have fk:=fr.2 k M hk
   by_cases hz:k<=Z
   ·rw[(iT lw.st Zn hz fk).2];omega
   ·have:=A0 lw.st Zn (by omega) fk
    omega
  refine⟨_,rfl,pk,rfl,⟨_,SqL.of lw.hpk⟩,cF (K:=K) (xs:=ws) (fun i σ H2=>∃ v10,σ = [some (.ref a),some (.int f0),some (.int (n:Int)),some (.int (c:Int)),some (.ref o),some (.ref pk),some (.ref p),some (.int (Z:Int)),some (.ref q),some (.int (dueK (ks.take i))),v10,none,none]/\H2=H0) ⟨_,rfl,rfl⟩ (fun i σ H2 _ ⟨_,_,z⟩=>by rw[z];exact SqL.of lw.hpk) ?_ ?_⟩
  ·rintro i x σ H2 hx ⟨v10,rfl,rfl⟩
   obtain⟨k,hk⟩:∃ k,ks[i]?=some k:=⟨_,IU (by rw[← wl];exact(IS.mp hx).1)⟩
   obtain⟨_,_,t,ht,htt⟩:=lw.ht.2 i k hk
   rw[hx]at ht
   cases ht
   have et:ks.take (i+1)=ks.take i++[k]:=by rw[Jt,hk];rfl
   refine⟨_,rfl,t,_,1,_,rfl,rfl,SqT.of htt,at1,rfl,_,rfl,ite2 (fun cc=>?_) (fun cc=>?_)⟩
   ·have z0:k.2=0:=V.int.inj (of_decide_eq_true cc)
    refine⟨_,rfl,_,_,rfl,rfl,?_⟩
    refine⟨.inr ⟨by decide,by decide⟩,?_⟩
    exact⟨some (.ref t),by rw[et,k7,if_pos z0];rfl,rfl⟩
   ·have z0:k.2≠0:=fun z=>cc (decide_eq_true (congrArg V.int z))
    exact⟨some (.ref t),by rw[et,k7,if_neg z0];rfl,rfl⟩
  rintro σ H2 ⟨v10,rfl,rfl⟩
  rw[wl,JA]
  have k01:K01 ks:=fun n k hk=>(lw.ht.2 n k hk).1
  have knn:∀(t:Nat)(k:Int×Int),ks[t]?=some k->0<=k.2:=fun n k hk=>(lw.ht.2 n k hk).2.1
  have hbd:∀ e∈es,e.1<n+1/\e.2<n+1:=fun e he=>⟨(lw.st.turn.ends e he).1,(lw.st.turn.ends e he).2.1⟩
  have pmO:(c::os).Perm (Ju (n+1)):=(tM (a:=Z) lw.st).symm.trans pmN
  have ans:∀{v:Pr},AnsC es ks (n+1) v->v=(0,dueK ks):=fun{v} h=>Fb lw.st kn k01 knn pmO h
  have noW:∀(od:List Nat)(k:Nat),cI (odS c Z os)=cI od->∀ ms,dh es od ms->(∃ M∈ms.take k,8<(bl M).length)->False:=fun od k eo ms fr ⟨M,hM,h8⟩=>by
   have e:=inj eo
   rw[← e]at fr
   have:=nar ms fr M (Kb hM)
   omega
  refine⟨_,rfl,_,rfl,p,n+1,es,ts,ks,.ref q,_,rfl,lw.wt,lw.kl,lw.st.turn,lw.e100,by omega,lw.told hq,fun np=>absurd lw.perm np,fun od eo _ ms fr wd=>(noW od _ eo ms fr wd).elim,fun od eo _ ms fr nw u T' e H3 s3 pr be he=>?_⟩
  have eod:=inj eo
  subst eod
  have ev:=ans (GK pmN hbd be he)
  rw[ev]at pr
  have pr':=pr
  obtain⟨t,rfl,ht⟩:=pr'
  refine⟨_,rfl,.ref t,_,rfl,pr,_,rfl,iteF ?_⟩
  refine⟨_,rfl,_,rfl,(by decide:(2:Nat)<=sizeLine),fun t2 ht2=>?_⟩
  have s4:=aj ht2 (.tup [V.int 0,V.int (dueK ks)])
  refine⟨_,Ar (s4 _ _ ht),Ar ae,vG _ _,_,rfl,iteF ?_⟩
  have s24:=s3.trans s4
  generalize upd H3 t2 (.tup [V.int 0,V.int (dueK ks)])=H4 at s4 s24
  have l4:=lw.mono s24
  refine⟨_,rfl,_,rfl,_,rfl,_,_,rfl,rfl,p,n+1,es,ts,ks,.ref q,_,n+1,rfl,l4.wt,l4.kl,l4.st.turn,l4.e100,by omega,l4.told (s24 _ _ hq),IY _,fun np=>absurd lw.perm np,fun od eo _ ms fr wd=>(noW od _ eo ms fr wd).elim,fun od eo _ ms fr nw=>?_⟩
  have eod:=inj eo
  subst eod
  refine⟨fun M hM=>?_,fun ql rows T' H5 s5 hql ls be=>?_⟩
  ·rw[tk]at hM
   rw[kW pmN hbd hM]
   show(K2.bitsF 0 0).length<=5
   rw[K2.bitsF_zero]
   decide
  obtain⟨v,rfl,av⟩:=HE pmN hbd be
  have ev:=ans av
  subst ev
  obtain⟨y,hy,t3,rfl,ht3⟩:=ls.2 0 _ rfl
  have rl:rows.length=1:=ls.1
  have re:rows = [.ref t3]:=by
   match rows,rl,hy with
   |[r],_,hy=>cases hy;rfl
  subst re
  have ht3':H5 t3=some (.tup [.int ((0:Nat):Int),.int 0,.int (dueK ks)]):=ht3
  refine⟨_,rfl,_,_,_,_,_,rfl,TyOf.lst hql,Or.inl ⟨_,rfl,rfl⟩,Gz K,_,rfl,iteF ?_⟩
  refine⟨_,rfl,ql,_,rfl,.inl (SqL.of hql),rfl,_,rfl,qS rfl ?_⟩
  refine⟨_,rfl,ql,_,0,_,rfl,rfl,SqL.of hql,(show atI [V.ref t3] 0=some (.ref t3) from rfl),_,_,_,_,_,rfl,TyOf.tup ht3,Or.inl ⟨_,rfl,rfl⟩,DB K,_,rfl,iteF ?_⟩
  refine⟨_,rfl,ql,_,0,_,rfl,rfl,SqL.of hql,(show atI [V.ref t3] 0=some (.ref t3) from rfl),t3,_,rfl,.inr (SqT.of ht3),rfl,_,rfl,qS rfl ?_⟩
  refine⟨_,rfl,ql,_,0,_,rfl,rfl,SqL.of hql,(show atI [V.ref t3] 0=some (.ref t3) from rfl),t3,rfl,⟨_,SqT.of ht3⟩,AR (K:=K) (xs:=[.int ((0:Nat):Int),.int 0,.int (dueK ks)]) (fun n zs H4=>H4=H5/\zs=(JW n true).map V.bl) (by show 3<=sizeLine;decide) ⟨rfl,rfl⟩ (fun n zs H4 _ z=>by rw[z.1];exact SqT.of ht3) ?_ ?_⟩
  ·rintro n x zs H4 hx' ⟨rfl,rfl⟩
   obtain⟨iv,rfl⟩:∃ iv:Int,x=.int iv:=by
    match n,hx' with
    |0,hx'=>cases hx';exact⟨_,rfl⟩
    |1,hx'=>cases hx';exact⟨_,rfl⟩
    |2,hx'=>cases hx';exact⟨_,rfl⟩
    |n+3,hx'=>cases hx'
   refine⟨_,rfl,iv,rfl,rfl,?_⟩
   rw[Ln,Jy]
   rfl
  rintro zs H6 _ ⟨rfl,rfl⟩ D4 hD4
  have s6:=aj hD4 (.lst ((JW 3 true).map V.bl))
  refine⟨D4,3,rfl,SqL.of ae,_,rfl,iteT ?_⟩
  generalize upd H6 D4 (.lst ((JW 3 true).map V.bl))=H7 at s6
  refine⟨_,rfl,ql,_,0,_,rfl,rfl,SqL.of (s6 _ _ hql),(show atI [V.ref t3] 0=some (.ref t3) from rfl),_,rfl,(by decide:(3:Nat)<=sizeLine),fun t5 ht5=>?_⟩
  have s7:=aj ht5 (.tup [V.int 0,V.int 0,V.int (dueK ks)])
  exact⟨_,Af (s7 _ _ (s6 _ _ ht3')),Af ae,vd _ _ _,kk _⟩
 refine⟨_,rfl,a,0,ns,rfl,hS,?_⟩
 generalize zM ns 0=f0
 refine⟨_,rfl,_,_,rfl,rfl,(by show(0:Int)<39;decide),_,_,rfl,rfl,?_⟩
 obtain⟨n,hn⟩:∃ n:Nat,(1:Int)+f0%39=(n:Int):=⟨((1:Int)+f0%39).toNat,by omega⟩
 have n1:1<=n:=by omega
 have n39:n<=39:=by omega
 obtain⟨c,hc⟩:∃ c:Nat,f0/39%((n:Int)+1)=(c:Int):=⟨(f0/39%((n:Int)+1)).toNat,by have:=Lu (f0/39) (show((n:Int)+1)≠0 by omega);omega⟩
 have cn:c<n+1:=by have:=L4 (f0/39) (show(0:Int)<(n:Int)+1 by omega);omega
 have e1:(1+f0%39+1:Int)=((n+1:Nat):Int):=by omega
 have e2:(1+f0%39+1:Int).toNat=n+1:=by omega
 have hc2:f0/39%(1+f0%39+1)=(c:Int):=by rw[← hc,← hn]
 refine⟨_,rfl,_,_,rfl,rfl,⟨by decide,by decide⟩,_,rfl,_,_,rfl,rfl,_,_,rfl,rfl,(by show(0:Int)<_+1;omega),?_⟩
 refine⟨_,rfl,_,_,rfl,rfl,_,rfl,by omega,by omega,zK (k:=(1+f0%39+1:Int).toNat) (fun i zs H2=>H2=H/\zs=(oth c i).map iV) (JT (aw (by omega))) ⟨rfl,rfl⟩ ?_ ?_ ?_⟩
 ·rintro i zs H2 hi ⟨rfl,rfl⟩
  rw[e2]at hi
  have z0:(0:Int)+(i:Int)=(i:Int):=KA _
  rw[z0]
  refine⟨rfl,_,rfl,_,rfl,rfl,_,rfl,ite2 (fun cc=>?_) (fun cc=>?_)⟩
  ·have ne:i≠c:=fun e=>by
    subst e
    rw[show((fun i j=>V.int (i%j)) (f0/39) (1+f0%39+1):V)=V.int (i:Int) from congrArg V.int hc2]at cc
    rw[decide_eq_true rfl]at cc
    cases cc
   refine⟨_,rfl,rfl,?_⟩
   rw[tF,if_neg ne,Jy]
   rfl
  ·have e:i=c:=by
    have z:(V.int (i:Int))=V.int (f0/39%(1+f0%39+1)):=by
     by_cases q:(V.int (i:Int))=V.int (f0/39%(1+f0%39+1))
     ·exact q
     ·exfalso
      refine cc ?_
      show(!decide (V.int (i:Int)=V.int (f0/39%(1+f0%39+1))))=true
      rw[decide_eq_false q]
      rfl
    have:=V.int.inj z
    omega
   refine⟨rfl,?_⟩
   rw[tF,if_pos e]
 ·rintro zs H2 ⟨rfl,rfl⟩ o ho
  rw[e2]
  have s1:=aj ho (.lst ((oth c (n+1)).map iV))
  have ho1:upd H2 o (.lst ((oth c (n+1)).map iV)) o=some (.lst ((oth c (n+1)).map iV)):=ae
  generalize upd H2 o (.lst ((oth c (n+1)).map iV))=H3 at s1 ho1
  have ol:(oth c (n+1)).length=n:=by have:=C9 c (n+1) cn;omega
  refine⟨_,rfl,_,rfl,a,ns,n,by rw[← hn];rfl,s1.seq hS,n39,h63,fun pk ws ks H4 s4 _ hpk ht kl=>?_⟩
  have lt:∀ x∈c::oth c (n+1),x<n+1:=fun x hx=>by
   rcases Ja.mp hx with e | e
   ·rw[e];exact cn
   ·exact oth_lt e
  refine⟨_,rfl,_,rfl,_,rfl,_,rfl,_,_,rfl,rfl,⟨by decide,by decide⟩,_,_,rfl,rfl,(by show(0:Int)<2;decide),rfl,c,n,_,o,pk,oth c (n+1),ws,ks,by rw[← hc2];rfl,s4 _ _ ho1,hpk,ht,kl,n1,n39,ol,oth_nd c _,lt,fun p es ts rs H5 s5 st wf=>?_⟩
  have s35:=s4.trans s5
  exact⟨a,o,pk,p,ns,f0,n,c,_,oth c (n+1),ws,ks,es,ts,by rw[← hn,← hc2];rfl,⟨(s1.trans s35).seq hS,h63,s35 _ _ ho1,s5 _ _ hpk,ht.mono s5,by rw[kl,st.el],st,wf.t,n39⟩,kk⟩
 ·rintro i zs H2 ⟨_,rfl⟩
  rw[IV]
  exact oth_le c i
end
end K8
namespace K8
open PySem L2
theorem all_mk{l:Mj}{w:World}{K:IT}{h:Heap}{mg:Str->Option Value}{fa cv aH aL aU aT cK AK AI kX dO jc ji n6 gv bC dI fb bW dN fg bp fL aY b4 eJ AJ kY jj fe gw jb dJ c7 cG cq nZ jh gy jf kZ dM c8 c9 jd je jg Iy:Addr}(X:K.In h)(G:h.Ns mainGlobals mg) (hfa:mg "law" = some (.ref fa))
  {Ib IP HZ IL Bi B6 qE rC yq zT yx zZ Dk ES vH xf jG kg qA rp tH uT lH mD qD rB tJ uV tL uX yz z9 nC nQ vK xi vL xj Ia IM Bj B7 yy z6 tI uU vI xg yp zS qB rq oF pU nB nP tK uW Dj ER yw zY vJ xh yu zW Bk B8 qC rA oG pV oH pW yr zU yt zV yv zX od_law GL:Option Addr} {Hl Hj A1 qq xF xM CM vm jB qk sM lD qp sO sQ xO nk vq vt Hk A2 xN sN vo xE qm og nj sP CK xK vp xI A3 qo oh oi xG xH xJ sl_law:Array (Option Value)} {Ig Iq IC Hw EB IH Ic Io IA Hu Ey IF Bm BF BL Bb rV BP qJ qR qX qz jv rg yB yY zk x8 pC zA yH za zu ye pI zG Dn DG Ef C2 wM Eu vM vZ wx vA mV wC jH jU j6 jD eK j7 qF qN qT qv jr qY tN ue uq sY k8 uC lI lU l0 lF fM l6 qI qQ qW qy ju ra tP ug uu tj lg uE tR ui uw tw lj uG yJ zc zw yg pK zI nF nJ nL nz gP nN vP wc wA vD mY wG vQ we wB vE mZ wH Ie Ip IB Hv EA IG Bn BG BM Bc rW BQ yI zb zv yf pJ zH tO uf ur sZ k9 uD vN wa wy vB mW wD yA yX zj x5 pB zy qG qO qU qw js qZ oI oY o9 ot iz pf nE nI nK nv gO nM tQ uh uv tu lh uF Dm DF Ee C1 wK Et yG y9 zt yd pH zF vO wb wz vC mX wF yE y7 zp yb pF zD Bo BH BN Be rX BR qH qP qV qx jt q0 oJ oZ pd ou iA pj oK o4 pe ox iB pq yC yZ zm x9 pD zB yD y6 zo ya pE zC yF y8 zr yc pG zE oc_law GA GG Gp Ez GH:Value}
  {ti_wide ti_most:Tok}
  {AO:Addr} {Er:Value} {Eo:Option Addr} {El:Nat} {Ej:Array (Option Value)}
  {mU:Addr} {uB:Value} {uA:Option Addr} {uz:Nat} {uy:Array (Option Value)}
  {AN:Addr} {Ep:Value} {Em:Option Addr} {Ek:Nat} {Ei:Array (Option Value)}
  (gK:Jf K mainGlobals "FloorError" = some (some (.ref cv)))
  (ko:Jf K mainGlobals "BadOrder" = some (some (.ref aH)))
  (mO:Jf K mainGlobals "TooWide" = some (some (.ref aL)))
  (Ab:Jf K mainGlobals "Pull" = some (some (.ref aU)))
  (Aa:Jf K mainGlobals "Push" = some (some (.ref aT)))
  (EW:Jf K mainGlobals "Web" = some (some (.ref cK)))
  (ib:Jm K (.ref aU) "__init__" = some (some (.ref bp)))
  (ia:Jm K (.ref aU) "wish" = some (some (.ref fL)))
  (cV:Jm K (.ref aU) "unpleased" = some (some (.ref aY)))
  (fX:Jm K (.ref aU) "price" = some (some (.ref b4)))
  (h9:Jm K (.ref aT) "__init__" = some (some (.ref bp)))
  (hX:Jm K (.ref aT) "wish" = some (some (.ref eJ)))
  (cU:Jm K (.ref aT) "unpleased" = some (some (.ref aY)))
  (fV:Jm K (.ref aT) "price" = some (some (.ref b4)))
  (jO:Jm K (.ref cK) "__init__" = some (some (.ref cq)))
  (EV:Jf K mainGlobals "bits" = some (some (.ref AK)))
  (DA:K.lookup AK=some ⟨Ig,Ib,.func (Ji "bits" "bits" (ay rH) (au rH) (ag rH) .none Iq IC Hw IP EB IH),Hl⟩)
  (EH:Jh K EB "bits" = true)
  (AE:Jd K (.ref AK)=true)
  (ET:Jf K mainGlobals "ones" = some (some (.ref AI)))
  (Dy:K.lookup AI=some ⟨Ic,HZ,.func (Ji "ones" "ones" (ay rF) (au rF) (ag rF) .none Io IA Hu IL Ey IF),Hj⟩)
  (EF:Jh K Ey "ones" = true)
  (AD:Jd K (.ref AI)=true)
  (pX:Jf K mainGlobals "reached" = some (some (.ref kX)))
  (oU:K.lookup kX=some ⟨Bm,Bi,.func (Ji "reached" "reached" (ay fG) (au fG) (ag fG) .none BF BL Bb B6 rV BP),A1⟩)
  (pM:Jh K rV "reached" = true)
  (kP:Jd K (.ref kX)=true)
  (gJ:Jf K mainGlobals "ends_within" = some (some (.ref dO)))
  (gj:K.lookup dO=some ⟨qJ,qE,.func (Ji "ends_within" "ends_within" (ay bP) (au bP) (ag bP) .none qR qX qz rC jv rg),qq⟩)
  (gE:Jh K jv "ends_within" = true)
  (dH:Jd K (.ref dO)=true)
  (mF:Jf K mainGlobals "order_of" = some (some (.ref jc)))
  (lL:K.lookup jc=some ⟨yB,yq,.func (Ji "order_of" "order_of" (ay dR) (au dR) (ag dR) .none yY zk x8 zT pC zA),xF⟩)
  (l9:Jh K pC "order_of" = true)
  (iZ:Jd K (.ref jc)=true)
  (mL:Jf K mainGlobals "front_of" = some (some (.ref ji)))
  (lR:K.lookup ji=some ⟨yH,yx,.func (Ji "front_of" "front_of" (ay dZ) (au dZ) (ag dZ) .none za zu ye zZ pI zG),xM⟩)
  (mr:Jh K pI "front_of" = true)
  (i8:Jd K (.ref ji)=true)
  (uZ:Jf K mainGlobals "fronts" = some (some (.ref n6)))
  (uc:K.lookup n6=some ⟨Dn,Dk,.func (Ji "fronts" "fronts" (ay iW) (au iW) (ag iW) (.ref AO) DG Ef C2 ES wM Eu),CM⟩)
  (oR:K.lookup AO=some ⟨Er,Eo,.seq #[.none] El,Ej⟩)
  (uJ:Jh K wM "fronts" = true)
  (nY:Jd K (.ref n6)=true)
  (kh:Jf K mainGlobals "ties_back" = some (some (.ref gv)))
  (jP:K.lookup gv=some ⟨vM,vH,.func (Ji "ties_back" "ties_back" (ay cO) (au cO) (ag cO) .none vZ wx vA xf mV wC),vm⟩)
  (j9:Jh K mV "ties_back" = true)
  (gk:Jd K (.ref gv)=true)
  (cJ:Jf K mainGlobals "counted_together" = some (some (.ref bC)))
  (cC:K.lookup bC=some ⟨jH,jG,.func (Ji "counted_together" "counted_together" (ay aQ) (au aQ) (ag aQ) .none jU j6 jD kg eK j7),jB⟩)
  (cH:Jh K eK "counted_together" = true)
  (bB:Jd K (.ref bC)=true)
  (gF:Jf K mainGlobals "refuse_wide" = some (some (.ref dI)))
  (fZ:K.lookup dI=some ⟨qF,qA,.func (Ji "refuse_wide" "refuse_wide" (ay bL) (au bL) (ag bL) .none qN qT qv rp jr qY),qk⟩)
  (gA:Jh K jr "refuse_wide" = true)
  (dB:Jd K (.ref dI)=true)
  (iM:Jf K mainGlobals "signs_with" = some (some (.ref fb)))
  (ij:K.lookup fb=some ⟨tN,tH,.func (Ji "signs_with" "signs_with" (ay b8) (au b8) (ag b8) .none ue uq sY uT k8 uC),sM⟩)
  (iE:Jh K k8 "signs_with" = true)
  (eY:Jd K (.ref fb)=true)
  (du:Jf K mainGlobals "entries_behind" = some (some (.ref bW)))
  (dk:K.lookup bW=some ⟨lI,lH,.func (Ji "entries_behind" "entries_behind" (ay ba) (au ba) (ag ba) .none lU l0 lF mD fM l6),lD⟩)
  (dm:Jh K fM "entries_behind" = true)
  (bV:Jd K (.ref bW)=true)
  (gI:Jf K mainGlobals "front_table" = some (some (.ref dN)))
  (gg:K.lookup dN=some ⟨qI,qD,.func (Ji "front_table" "front_table" (ay bO) (au bO) (ag bO) .none qQ qW qy rB ju ra),qp⟩)
  (gD:Jh K ju "front_table" = true)
  (dG:Jd K (.ref dN)=true)
  (iO:Jf K mainGlobals "least_many" = some (some (.ref fg)))
  (il:K.lookup fg=some ⟨tP,tJ,.func (Ji "least_many" "least_many" (ay cf) (au cf) (ag cf) (.ref mU) ug uu tj uV lg uE),sO⟩)
  (fY:K.lookup mU=some ⟨uB,uA,.seq #[.none] uz,uy⟩)
  (iG:Jh K lg "least_many" = true)
  (e8:Jd K (.ref fg)=true)
  (iq:K.lookup bp=some ⟨tR,tL,.func (Ji "__init__" "Tie.__init__" (ay cj) (au cj) (ag cj) .none ui uw tw uX lj uG),sQ⟩)
  (iI:Jh K lj "Tie.__init__" = true)
  (iu:Jd K (.ref bp)=true)
  (e9:KW K (.ref bp)=true)
  (lT:K.lookup fL=some ⟨yJ,yz,.func (Ji "wish" "Tie.wish" (ay ef) (au ef) (ag ef) .none zc zw yg z9 pK zI),xO⟩)
  (mw:Jh K pK "Tie.wish" = true)
  (ja:Jd K (.ref fL)=true)
  (lW:KW K (.ref fL)=true)
  (eF:K.lookup aY=some ⟨nF,nC,.func (Ji "unpleased" "Tie.unpleased" (ay bj) (au bj) (ag bj) .none nJ nL nz nQ gP nN),nk⟩)
  (eO:Jh K gP "Tie.unpleased" = true)
  (bG:Jd K (.ref aY)=true)
  (cE:KW K (.ref aY)=true)
  (jS:K.lookup b4=some ⟨vP,vK,.func (Ji "price" "Tie.price" (ay cR) (au cR) (ag cR) .none wc wA vD xi mY wG),vq⟩)
  (ke:Jh K mY "Tie.price" = true)
  (eG:Jd K (.ref b4)=true)
  (gu:KW K (.ref b4)=true)
  (jT:K.lookup eJ=some ⟨vQ,vL,.func (Ji "wish" "Push.wish" (ay cS) (au cS) (ag cS) .none we wB vE xj mZ wH),vt⟩)
  (kf:Jh K mZ "Push.wish" = true)
  (gs:Jd K (.ref eJ)=true)
  (jW:KW K (.ref eJ)=true)
  (EU:Jf K mainGlobals "head" = some (some (.ref AJ)))
  (Dz:K.lookup AJ=some ⟨Ie,Ia,.func (Ji "head" "head" (ay rG) (au rG) (ag rG) .none Ip IB Hv IM EA IG),Hk⟩)
  (EG:Jh K EA "head" = true)
  (k_head:Jd K (.ref AJ)=true)
  (pY:Jf K mainGlobals "leaving" = some (some (.ref kY)))
  (oV:K.lookup kY=some ⟨Bn,Bj,.func (Ji "leaving" "leaving" (ay fH) (au fH) (ag fH) .none BG BM Bc B7 rW BQ),A2⟩)
  (pN:Jh K rW "leaving" = true)
  (kQ:Jd K (.ref kY)=true)
  (mM:Jf K mainGlobals "follower" = some (some (.ref jj)))
  (lS:K.lookup jj=some ⟨yI,yy,.func (Ji "follower" "follower" (ay d0) (au d0) (ag d0) .none zb zv yf z6 pJ zH),xN⟩)
  (mv:Jh K pJ "follower" = true)
  (i9:Jd K (.ref jj)=true)
  (iN:Jf K mainGlobals "round_from" = some (some (.ref fe)))
  (ik:K.lookup fe=some ⟨tO,tI,.func (Ji "round_from" "round_from" (ay b9) (au b9) (ag b9) .none uf ur sZ uU k9 uD),sN⟩)
  (iF:Jh K k9 "round_from" = true)
  (eZ:Jd K (.ref fe)=true)
  (ki:Jf K mainGlobals "rounds_of" = some (some (.ref gw)))
  (jQ:K.lookup gw=some ⟨vN,vI,.func (Ji "rounds_of" "rounds_of" (ay cP) (au cP) (ag cP) .none wa wy vB xg mW wD),vo⟩)
  (kc:Jh K mW "rounds_of" = true)
  (gm:Jd K (.ref gw)=true)
  (mE:Jf K mainGlobals "sides_of" = some (some (.ref jb)))
  (lK:K.lookup jb=some ⟨yA,yp,.func (Ji "sides_of" "sides_of" (ay dQ) (au dQ) (ag dQ) .none yX zj x5 zS pB zy),xE⟩)
  (l8:Jh K pB "sides_of" = true)
  (iY:Jd K (.ref jb)=true)
  (gG:Jf K mainGlobals "refuse_ends" = some (some (.ref dJ)))
  (gb:K.lookup dJ=some ⟨qG,qB,.func (Ji "refuse_ends" "refuse_ends" (ay bM) (au bM) (ag bM) .none qO qU qw rq js qZ),qm⟩)
  (gB:Jh K js "refuse_ends" = true)
  (dD:Jd K (.ref dJ)=true)
  (fD:Jf K mainGlobals "refuse_turns" = some (some (.ref c7)))
  (fu:K.lookup c7=some ⟨oI,oF,.func (Ji "refuse_turns" "refuse_turns" (ay bt) (au bt) (ag bt) .none oY o9 ot pU iz pf),og⟩)
  (fz:Jh K iz "refuse_turns" = true)
  (cZ:Jd K (.ref c7)=true)
  (eP:Jf K mainGlobals "refuse_parted" = some (some (.ref cG)))
  (eE:K.lookup cG=some ⟨nE,nB,.func (Ji "refuse_parted" "refuse_parted" (ay bh) (au bh) (ag bh) .none nI nK nv nP gO nM),nj⟩)
  (eL:Jh K gO "refuse_parted" = true)
  (cD:Jd K (.ref cG)=true)
  (ip:K.lookup cq=some ⟨tQ,tK,.func (Ji "__init__" "Web.__init__" (ay cg) (au cg) (ag cg) .none uh uv tu uW lh uF),sP⟩)
  (iH:Jh K lh "Web.__init__" = true)
  (ir:Jd K (.ref cq)=true)
  (iw:KW K (.ref cq)=true)
  (uY:Jf K mainGlobals "worths" = some (some (.ref nZ)))
  (ub:K.lookup nZ=some ⟨Dm,Dj,.func (Ji "worths" "worths" (ay iU) (au iU) (ag iU) (.ref AN) DF Ee C1 ER wK Et),CK⟩)
  (oQ:K.lookup AN=some ⟨Ep,Em,.seq #[.none] Ek,Ei⟩)
  (uI:Jh K wK "worths" = true)
  (nX:Jd K (.ref nZ)=true)
  (mK:Jf K mainGlobals "_law_cell" = some (some (.ref jh)))
  (lQ:K.lookup jh=some ⟨yG,yw,.func (Ji "_law_cell" "_law_cell" (ay dY) (au dY) (ag dY) .none y9 zt yd zY pH zF),xK⟩)
  (mq:Jh K pH "_law_cell" = true)
  (i7:Jd K (.ref jh)=true)
  (kj:Jf K mainGlobals "_law_whole" = some (some (.ref gy)))
  (jR:K.lookup gy=some ⟨vO,vJ,.func (Ji "_law_whole" "_law_whole" (ay cQ) (au cQ) (ag cQ) .none wb wz vC xh mX wF),vp⟩)
  (kd:Jh K mX "_law_whole" = true)
  (gq:Jd K (.ref gy)=true)
  (mI:Jf K mainGlobals "_law_pair" = some (some (.ref jf)))
  (lO:K.lookup jf=some ⟨yE,yu,.func (Ji "_law_pair" "_law_pair" (ay dW) (au dW) (ag dW) .none y7 zp yb zW pF zD),xI⟩)
  (mh:Jh K pF "_law_pair" = true)
  (i5:Jd K (.ref jf)=true)
  (pZ:Jf K mainGlobals "_law_ask" = some (some (.ref kZ)))
  (oW:K.lookup kZ=some ⟨Bo,Bk,.func (Ji "_law_ask" "_law_ask" (ay fJ) (au fJ) (ag fJ) .none BH BN Be B8 rX BR),A3⟩)
  (pO:Jh K rX "_law_ask" = true)
  (kR:Jd K (.ref kZ)=true)
  (gH:Jf K mainGlobals "_law_refusal" = some (some (.ref dM)))
  (gc:K.lookup dM=some ⟨qH,qC,.func (Ji "_law_refusal" "_law_refusal" (ay bN) (au bN) (ag bN) .none qP qV qx rA jt q0),qo⟩)
  (gC:Jh K jt "_law_refusal" = true)
  (dE:Jd K (.ref dM)=true)
  (fE:Jf K mainGlobals "_law_too_wide" = some (some (.ref c8)))
  (fx:K.lookup c8=some ⟨oJ,oG,.func (Ji "_law_too_wide" "_law_too_wide" (ay bu) (au bu) (ag bu) .none oZ pd ou pV iA pj),oh⟩)
  (fA:Jh K iA "_law_too_wide" = true)
  (c0:Jd K (.ref c8)=true)
  (fF:Jf K mainGlobals "_law_no_order" = some (some (.ref c9)))
  (fy:K.lookup c9=some ⟨oK,oH,.func (Ji "_law_no_order" "_law_no_order" (ay bx) (au bx) (ag bx) .none o4 pe ox pW iB pq),oi⟩)
  (fB:Jh K iB "_law_no_order" = true)
  (c6:Jd K (.ref c9)=true)
  (mG:Jf K mainGlobals "_law_told" = some (some (.ref jd)))
  (lM:K.lookup jd=some ⟨yC,yr,.func (Ji "_law_told" "_law_told" (ay dS) (au dS) (ag dS) .none yZ zm x9 zU pD zB),xG⟩)
  (ma:Jh K pD "_law_told" = true)
  (i0:Jd K (.ref jd)=true)
  (mH:Jf K mainGlobals "_law_star" = some (some (.ref je)))
  (lN:K.lookup je=some ⟨yD,yt,.func (Ji "_law_star" "_law_star" (ay dU) (au dU) (ag dU) .none y6 zo ya zV pE zC),xH⟩)
  (md:Jh K pE "_law_star" = true)
  (i4:Jd K (.ref je)=true)
  (mJ:Jf K mainGlobals "_law_free" = some (some (.ref jg)))
  (lP:K.lookup jg=some ⟨yF,yv,.func (Ji "_law_free" "_law_free" (ay dX) (au dX) (ag dX) .none y8 zr yc zX pG zE),xJ⟩)
  (mn:Jh K pG "_law_free" = true)
  (i6:Jd K (.ref jg)=true)
  (Gg:Jf K mainGlobals "law" = some (some (.ref Iy)))
  (Ik:K.lookup Iy=some ⟨oc_law,od_law,.func (Ji "law" "law" (ay sU) (au sU) (ag sU) .none GA GG Gp GL Ez GH),sl_law⟩)
  (II:Jh K Ez "law" = true)
  (Im:Jd K (.ref Iy)=true)
  (fN:LD K cv veM "ValueError.__new__" = true)
  (jA:LD K aH veM "ValueError.__new__" = true)
  (bz:Kd K aH (.ref cv)=some true)
  (ga_BadOrder:Jm K (.ref aH) "__getattribute__" = some (some (.builtin "BaseException.__getattribute__")))
  (gt_BadOrder:Jm K (.ref aH) "__getattr__" = some none)
  (hb_BadOrder:Kd K aH (.type "BaseException")=some true)
  (jY:Kq K aH=true)
  (jZ:Jm K (.ref aH) "__class__" = some (some (.builtin "object.__class__")))
  (jX:Kd K aH (.type "object")=some true)
  (bZ:Ks K (.ref aH) (.ref aL)=some false)
  (lB:LD K aL veM "ValueError.__new__" = true)
  (bE:Kd K aL (.ref cv)=some true)
  (ga_TooWide:Jm K (.ref aL) "__getattribute__" = some (some (.builtin "BaseException.__getattribute__")))
  (gt_TooWide:Jm K (.ref aL) "__getattr__" = some none)
  (hb_TooWide:Kd K aL (.type "BaseException")=some true)
  (lY:Kq K aL=true)
  (lZ:Jm K (.ref aL) "__class__" = some (some (.builtin "object.__class__")))
  (lX:Kd K aL (.type "object")=some true)
  (bY:Ks K (.ref aL) (.ref aH)=some false)
  (yi:KP K aU Str.empty=true)
  (zf:Kq K aU=true)
  (x4:Lc K aU=true)
  (xU:Jm K (.ref aU) "__setattr__" = some (some (.builtin "object.__setattr__")))
  (yM:Lp K aU=true)
  (yW:Jd K (.ref aU)=true)
  (jN:Jm K (.ref aU) "one" = some none)
  (jM:Jm K (.ref aU) "two" = some none)
  (dj:Jm K (.ref aU) "strength" = some none)
  (yh:KP K aT Str.empty=true)
  (ze:Kq K aT=true)
  (xZ:Lc K aT=true)
  (xS:Jm K (.ref aT) "__setattr__" = some (some (.builtin "object.__setattr__")))
  (yL:Lp K aT=true)
  (yV:Jd K (.ref aT)=true)
  (jL:Jm K (.ref aT) "one" = some none)
  (jK:Jm K (.ref aT) "two" = some none)
  (di:Jm K (.ref aT) "strength" = some none)
  (C4:KP K cK Str.empty=true)
  (DU:Kq K cK=true)
  (C0:Lc K cK=true)
  (CP:Jm K (.ref cK) "__setattr__" = some (some (.builtin "object.__setattr__")))
  (Dp:Lp K cK=true)
  (DE:Jd K (.ref cK)=true)
  (jJ:Jm K (.ref cK) "many" = some none)
  (jI:Jm K (.ref cK) "ties" = some none)
  (hV:Jm K (.ref cK) "turns" = some none)
  (fU:Jm K (.ref cK) "rounds" = some none)
  (hW:Jm K (.ref cK) "sides" = some none)
  (hn_:L6 K (.builtin "object.__class__") "__get__" = some (some (.builtin "getset_descriptor.__get__")))
  (htk_:Mh K (.builtin "object.__class__")=some true)
  (gi_wide:Jf K mainGlobals "WIDEST" = some (some (.int 8 ti_wide)))
  (gi_most:Jf K mainGlobals "MOST_PLACES" = some (some (.int 16 ti_most)))
  (GX:Jf K mainGlobals "len" = some none)
  (GY:Jf K mainGlobals "int" = some none)
  (Ca:Jf K mainGlobals "bool" = some none)
  (B9:Jf K mainGlobals "list" = some none)
  (xr:Jf K mainGlobals "tuple" = some none)
  (xt:Jf K mainGlobals "range" = some none)
  (jz:Jf K mainGlobals "enumerate" = some none)
  (gR:Jf K mainGlobals "isinstance" = some none)
  (GV:Jf K mainGlobals "min" = some none)
  (GU:Jf K mainGlobals "sum" = some none)
  (sE:Jf K mainGlobals "sorted" = some none)
  (GW:Jf K mainGlobals "max" = some none)
  (G0:Jf K mainGlobals "all" = some none)
  (GQ:Jf K mainGlobals "zip" = some none)
  (GZ:Jf K mainGlobals "any" = some none)
  : ∃ fd:FuncData,(∀(s:Shared)(v:Value),BindsTo s fd ⟨[v],[]⟩ [("script",v)])/\∀ base:Heap,K.In base->base.Ns mainGlobals mg->FnOk l.prog w K mg base CX0 10 fa fd ["script"] (Fd K):=by
 have e:=hfa.symm.trans (Jp X G Gg)
 cases e
 have GP:=aP (st:=rH) DA EH AE
 have b_bits:=GP.binds (ps:=["mask"]) fun _ _ _ _ _ _ us hl=>by obtain⟨x0,rfl⟩:=t9 hl;rfl
 have GN:=aP (st:=rF) Dy EF AD
 have b_ones:=GN.binds (ps:=["mask"]) fun _ _ _ _ _ _ us hl=>by obtain⟨x0,rfl⟩:=t9 hl;rfl
 have xk:=aP (st:=fG) oU pM kP
 have EK:=xk.binds (ps:=["start","pairs"]) fun _ _ _ _ _ _ us hl=>by obtain⟨x0,x1,rfl⟩:=ig hl;rfl
 have lA:=aP (st:=bP) gj gE dH
 have uR:=lA.binds (ps:=["tie","patch"]) fun _ _ _ _ _ _ us hl=>by obtain⟨x0,x1,rfl⟩:=ig hl;rfl
 have r8:=aP (st:=dR) lL l9 iZ
 have BX:=r8.binds (ps:=["web","order"]) fun _ _ _ _ _ _ us hl=>by obtain⟨x0,x1,rfl⟩:=ig hl;rfl
 have sq:=aP (st:=dZ) lR mr i8
 have B3:=sq.binds (ps:=["web","behind"]) fun _ _ _ _ _ _ us hl=>by obtain⟨x0,x1,rfl⟩:=ig hl;rfl
 have u9:=zg (st:=iW) uc uJ nY oR rfl
 have F9:=u9.binds (ps:=["web","order"]) (ds:=[]) fun _ _ _ _ _ _ _ us hl=>match us,hl with | [_,_],_=>⟨_,rfl,rfl⟩
 have b1_fronts:=u9.binds (ps:=["web","order"]) (ds:=[.none]) fun _ _ _ _ _ _ _ us hl=>by
  have h1:us.length=1:=by simpa using hl
  match us,h1 with | [_],_=>exact⟨_,rfl,rfl⟩
 have qb:=aP (st:=cO) jP j9 gk
 have zN:=qb.binds (ps:=["web","order"]) fun _ _ _ _ _ _ us hl=>by obtain⟨x0,x1,rfl⟩:=ig hl;rfl
 have fm:=aP (st:=aQ) cC cH bB
 have lq:=fm.binds (ps:=["entries"]) fun _ _ _ _ _ _ us hl=>by obtain⟨x0,rfl⟩:=t9 hl;rfl
 have lr:=aP (st:=bL) fZ gA dB
 have uN:=lr.binds (ps:=["found"]) fun _ _ _ _ _ _ us hl=>by obtain⟨x0,rfl⟩:=t9 hl;rfl
 have m7:=aP (st:=b8) ij iE eY
 have w4:=m7.binds (ps:=["place","signs"]) fun _ _ _ _ _ _ us hl=>by obtain⟨x0,x1,rfl⟩:=ig hl;rfl
 have gQ:=aP (st:=ba) dk dm bV
 have nO:=gQ.binds (ps:=["entries","place","ties","front"]) fun _ _ _ _ _ _ us hl=>by obtain⟨x0,x1,x2,x3,rfl⟩:=vW hl;rfl
 have lz:=aP (st:=bO) gg gD dG
 have uQ:=lz.binds (ps:=["web","order","count"]) fun _ _ _ _ _ _ us hl=>by obtain⟨x0,x1,x2,rfl⟩:=yS hl;rfl
 have iQ:=zg (st:=cf) il iG e8 fY rfl
 have w9:=iQ.binds (ps:=["web","order"]) (ds:=[]) fun _ _ _ _ _ _ _ us hl=>match us,hl with | [_,_],_=>⟨_,rfl,rfl⟩
 have Gb:=iQ.binds (ps:=["web","order"]) (ds:=[.none]) fun _ _ _ _ _ _ _ us hl=>by
  have h1:us.length=1:=by simpa using hl
  match us,h1 with | [_],_=>exact⟨_,rfl,rfl⟩
 have nh:=aP (st:=cj) iq iI iu
 have m5:=nh.binds (ps:=["self","one","two","strength"]) fun _ _ _ _ _ _ us hl=>by obtain⟨x0,x1,x2,x3,rfl⟩:=vW hl;rfl
 have sy:=aP (st:=ef) lT mw ja
 have B5:=sy.binds (ps:=["self"]) fun _ _ _ _ _ _ us hl=>by obtain⟨x0,rfl⟩:=t9 hl;rfl
 have eR:=aP (st:=bj) eF eO bG
 have iL:=eR.binds (ps:=["self","laying"]) fun _ _ _ _ _ _ us hl=>by obtain⟨x0,x1,rfl⟩:=ig hl;rfl
 have kr:=aP (st:=cR) jS ke eG
 have pT:=kr.binds (ps:=["self","laying"]) fun _ _ _ _ _ _ us hl=>by obtain⟨x0,x1,rfl⟩:=ig hl;rfl
 have qe:=aP (st:=cS) jT kf gs
 have zQ:=qe.binds (ps:=["self"]) fun _ _ _ _ _ _ us hl=>by obtain⟨x0,rfl⟩:=t9 hl;rfl
 have GO:=aP (st:=rG) Dz EG k_head
 have b_head:=GO.binds (ps:=["ties","dart"]) fun _ _ _ _ _ _ us hl=>by obtain⟨x0,x1,rfl⟩:=ig hl;rfl
 have xo:=aP (st:=fH) oV pN kQ
 have EL:=xo.binds (ps:=["ties","number","place"]) fun _ _ _ _ _ _ us hl=>by obtain⟨x0,x1,x2,rfl⟩:=yS hl;rfl
 have su:=aP (st:=d0) lS mv i9
 have B4:=su.binds (ps:=["ties","turns","dart"]) fun _ _ _ _ _ _ us hl=>by obtain⟨x0,x1,x2,rfl⟩:=yS hl;rfl
 have m8:=aP (st:=b9) ik iF eZ
 have w6:=m8.binds (ps:=["ties","turns","first"]) fun _ _ _ _ _ _ us hl=>by obtain⟨x0,x1,x2,rfl⟩:=yS hl;rfl
 have qc:=aP (st:=cP) jQ kc gm
 have zO:=qc.binds (ps:=["ties","turns"]) fun _ _ _ _ _ _ us hl=>by obtain⟨x0,x1,rfl⟩:=ig hl;rfl
 have r6:=aP (st:=dQ) lK l8 iY
 have BW:=r6.binds (ps:=["ties","rounds"]) fun _ _ _ _ _ _ us hl=>by obtain⟨x0,x1,rfl⟩:=ig hl;rfl
 have lu:=aP (st:=bM) gb gB dD
 have uO:=lu.binds (ps:=["many","ties"]) fun _ _ _ _ _ _ us hl=>by obtain⟨x0,x1,rfl⟩:=ig hl;rfl
 have jw:=aP (st:=bt) fu fz cZ
 have rh:=jw.binds (ps:=["many","ties","turns"]) fun _ _ _ _ _ _ us hl=>by obtain⟨x0,x1,x2,rfl⟩:=yS hl;rfl
 have iP:=aP (st:=bh) eE eL cD
 have pS:=iP.binds (ps:=["many","ties"]) fun _ _ _ _ _ _ us hl=>by obtain⟨x0,x1,rfl⟩:=ig hl;rfl
 have m9:=aP (st:=cg) ip iH ir
 have xb:=m9.binds (ps:=["self","many","ties","turns"]) fun _ _ _ _ _ _ us hl=>by obtain⟨x0,x1,x2,x3,rfl⟩:=vW hl;rfl
 have u4:=zg (st:=iU) ub uI nX oQ rfl
 have F7:=u4.binds (ps:=["web","order"]) (ds:=[]) fun _ _ _ _ _ _ _ us hl=>match us,hl with | [_,_],_=>⟨_,rfl,rfl⟩
 have b1_worths:=u4.binds (ps:=["web","order"]) (ds:=[.none]) fun _ _ _ _ _ _ _ us hl=>by
  have h1:us.length=1:=by simpa using hl
  match us,h1 with | [_],_=>exact⟨_,rfl,rfl⟩
 have sj:=aP (st:=dY) lQ mq i7
 have B2:=sj.binds (ps:=["script","k"]) fun _ _ _ _ _ _ us hl=>by obtain⟨x0,x1,rfl⟩:=ig hl;rfl
 have qd:=aP (st:=cQ) jR kd gq
 have zP:=qd.binds (ps:=["found"]) fun _ _ _ _ _ _ us hl=>by obtain⟨x0,rfl⟩:=t9 hl;rfl
 have sh:=aP (st:=dW) lO mh i5
 have B0:=sh.binds (ps:=["found"]) fun _ _ _ _ _ _ us hl=>by obtain⟨x0,rfl⟩:=t9 hl;rfl
 have xp:=aP (st:=fJ) oW pO kR
 have EM:=xp.binds (ps:=["which","web","order","count"]) fun _ _ _ _ _ _ us hl=>by obtain⟨x0,x1,x2,x3,rfl⟩:=vW hl;rfl
 have ly:=aP (st:=bN) gc gC dE
 have uP:=ly.binds (ps:=["which","web","order","count"]) fun _ _ _ _ _ _ us hl=>by obtain⟨x0,x1,x2,x3,rfl⟩:=vW hl;rfl
 have jx:=aP (st:=bu) fx fA c0
 have rj:=jx.binds (ps:=["which","web","order","count"]) fun _ _ _ _ _ _ us hl=>by obtain⟨x0,x1,x2,x3,rfl⟩:=vW hl;rfl
 have jy:=aP (st:=bx) fy fB c6
 have rm:=jy.binds (ps:=["web","order"]) fun _ _ _ _ _ _ us hl=>by obtain⟨x0,x1,rfl⟩:=ig hl;rfl
 have r9:=aP (st:=dS) lM ma i0
 have BY:=r9.binds (ps:=["script","leaves"]) fun _ _ _ _ _ _ us hl=>by obtain⟨x0,x1,rfl⟩:=ig hl;rfl
 have se:=aP (st:=dU) lN md i4
 have BZ:=se.binds (ps:=["centre","others","told","turned"]) fun _ _ _ _ _ _ us hl=>by obtain⟨x0,x1,x2,x3,rfl⟩:=vW hl;rfl
 have si:=aP (st:=dX) lP mn i6
 have B1:=si.binds (ps:=["web","order","places"]) fun _ _ _ _ _ _ us hl=>by obtain⟨x0,x1,x2,rfl⟩:=yS hl;rfl
 have F_law:=aP (st:=sU) Ik II Im
 refine⟨Ji "law" "law" (ay sU) (au sU) (ag sU) .none GA GG Gp GL Ez GH,fun s v=>.of_eq rfl,fun base _ _=>?_⟩
 have m_bits:=Jp X G EV
 have m_ones:=Jp X G ET
 have Dr:=Jp X G pX
 have t8:=Jp X G gJ
 have Bx:=Jp X G mF
 have BD:=Jp X G mL
 have FI:=Jp X G uZ
 have yP:=Jp X G kh
 have kM:=Jp X G cJ
 have tW:=Jp X G gF
 have vR:=Jp X G iM
 have nH:=Jp X G du
 have tZ:=Jp X G gI
 have vT:=Jp X G iO
 have m_head:=Jp X G EU
 have Dt:=Jp X G pY
 have BE:=Jp X G mM
 have vS:=Jp X G iN
 have yQ:=Jp X G ki
 have Bw:=Jp X G mE
 have tX:=Jp X G gG
 have qK:=Jp X G fD
 have oN:=Jp X G eP
 have FH:=Jp X G uY
 have BC:=Jp X G mK
 have yR:=Jp X G kj
 have BA:=Jp X G mI
 have Du:=Jp X G pZ
 have tY:=Jp X G gH
 have qL:=Jp X G fE
 have qM:=Jp X G fF
 have By:=Jp X G mG
 have Bz:=Jp X G mH
 have BB:=Jp X G mJ
 have m_law:=Jp X G Gg
 have vV:=Jp X G gK
 have rO:=Jp X G ko
 have vU:=Jp X G mO
 have m_Pull:=Jp X G Ab
 have m_Push:=Jp X G Aa
 have m_Web:=Jp X G EW
 have wide:=Jp X G gi_wide
 have most:=Jp X G gi_most
 have n_len:=JN X G GX
 have n_int:=JN X G GY
 have n_bool:=JN X G Ca
 have n_list:=JN X G B9
 have n_tuple:=JN X G xr
 have n_range:=JN X G xt
 have n_enumerate:=JN X G jz
 have n_isinstance:=JN X G gR
 have n_min:=JN X G GV
 have n_sum:=JN X G GU
 have n_sorted:=JN X G sE
 have n_max:=JN X G GW
 have n_all:=JN X G G0
 have n_zip:=JN X G GQ
 have n_any:=JN X G GZ
 have TL:CT K aU:=⟨⟨yi,zf,x4,xU⟩,jN,jM,dj⟩
 have TS:CT K aT:=⟨⟨yh,ze,xZ,xS⟩,jL,jK,di⟩
 have cw:CW K cK:=⟨⟨C4,DU,C0,CP⟩,jJ,jI,hV,fU,hW⟩
 have T:Txt mg:=⟨n_max,n_all,n_zip,n_any,n_len,n_int,n_bool,n_list,n_tuple,n_range,n_enumerate,n_isinstance,n_min,n_sum,n_sorted⟩
 have TW:TxtW mg:={ T with wide:=⟨_,wide⟩ }
 have GI:FnOk l.prog w K mg base CX0 1 bp _ _ (rE K):=HP nh
 have ML:Mak l.prog w K mg base 1 "Pull" _ (rE K) aU bp _:=⟨⟨yM,ib,e9,yW⟩,GI,m5,m_Pull⟩
 have MS:Mak l.prog w K mg base 1 "Push" _ (rE K) aT bp _:=⟨⟨yL,h9,e9,yV⟩,GI,m5,m_Push⟩
 have wL:Met l.prog w K mg base 1 aU "wish" _ (vi false) fL _:=⟨⟨ia,lW,ja⟩,Fu sy,B5⟩
 have wS:Met l.prog w K mg base 1 aT "wish" _ (vi true) eJ _:=⟨⟨hX,jW,gs⟩,Ft qe,zQ⟩
 have uL:Met l.prog w K mg base 2 aU "unpleased" _ (Ai aU false) aY _:=⟨⟨cV,cE,bG⟩,De eR TL wL,iL⟩
 have uS:Met l.prog w K mg base 2 aT "unpleased" _ (Ai aT true) aY _:=⟨⟨cU,cE,bG⟩,De eR TS wS,iL⟩
 have rL:Met l.prog w K mg base 3 aU "price" _ (oa aU false) b4 _:=⟨⟨fX,gu,eG⟩,Av kr TL uL,pT⟩
 have rS:Met l.prog w K mg base 3 aT "price" _ (oa aT true) b4 _:=⟨⟨fV,gu,eG⟩,Av kr TS uS,pT⟩
 have Gh:Cal l.prog w K mg base 1 "head" _ (CD K) AJ _:=⟨HQ GO,b_head,m_head,k_head⟩
 have Gl:Cal l.prog w K mg base 1 "leaving" _ (CC K) kY _:=⟨Bh xo,EL,Dt,kQ⟩
 have Gf:Cal l.prog w K mg base 2 "follower" _ (He K) jj _:=⟨yo su T Gh Gl,B4,BE,i9⟩
 have Gr:Cal l.prog w K mg base 3 "round_from" _ (CF K) fe _:=⟨HR m8 Gf,w6,vS,eZ⟩
 have GR:Cal l.prog w K mg base 4 "rounds_of" _ (sI K) gw _:=⟨Dg qc T Gr,zO,yQ,gm⟩
 have GS:Cal l.prog w K mg base 1 "sides_of" _ (xy K) jb _:=⟨Fy r6 T,BW,Bw,iY⟩
 have Ga:Cal l.prog w K mg base 1 "reached" _ (xA K) kX _:=⟨Bg xk,EK,Dr,kP⟩
 have R1:Cal l.prog w K mg base 1 "refuse_ends" _ (xC K) dJ _:=⟨FA lu,uO,tX,dD⟩
 have R2:Cal l.prog w K mg base 1 "refuse_turns" _ (sJ K) c7 _:=⟨Df jw T,rh,qK,cZ⟩
 have R3:Cal l.prog w K mg base 2 "refuse_parted" _ (xB K) cG _:=⟨Fz iP Ga,pS,oN,cD⟩
 have WI:FnOk l.prog w K mg base CX0 5 cq _ _ (sH K):=Fv m9 T R1 R2 R3 GR GS
 have MW:Mak l.prog w K mg base 5 "Web" _ (sH K) cK cq _:=⟨⟨Dp,jO,iw,DE⟩,WI,xb,m_Web⟩
 have Gc:Cal l.prog w K mg base 1 "_law_cell" _ (Ak K) jh _:=⟨HU sj T,B2,BC,i7⟩
 have L9:Cal l.prog w K mg base 1 "_law_whole" _ CA gy _:=⟨Fw qd T,zP,yR,gq⟩
 have Ge:Cal l.prog w K mg base 1 "ends_within" _ (nU K) dO _:=⟨Dd lA,uR,t8,dH⟩
 have XB:ErrC K mg "BadOrder" aH:=⟨rO,jA⟩
 have XW:ErrC K mg "TooWide" aL:=⟨vU,lB⟩
 have Gt:Cal l.prog w K mg base 2 "front_of" _ (xD aU aT cK) ji _:=⟨FC sq cw TL TS Ge,B3,BD,i8⟩
 have Go:CalX l.prog w K mg base 1 "order_of" _ (vj aH cK) jc _:=⟨ok_ord r8 T cw XB,BX,Bx,iZ⟩
 have GF:CalX l.prog w K mg base 3 "fronts" _ (Hd aH aU aT cK) n6 _:=⟨Dh u9 Go Gt,F9,FI,nY⟩
 have Gbt:Cal l.prog w K mg base 1 "bits" _ CI AK _:=⟨HV GP,b_bits,m_bits,AE⟩
 have Gon:Cal l.prog w K mg base 2 "ones" _ Cz AI _:=⟨HM GN T Gbt,b_ones,m_ones,AD⟩
 have Gbk:Cal l.prog w K mg base 2 "ties_back" _ (CJ aU aT cK) gv _:=⟨HW qb cw TL TS Ge,zN,yP,gk⟩
 have Gct:Cal l.prog w K mg base 1 "counted_together" _ (spCT K) bC _:=⟨ok_ct fm T,lq,kM,bB⟩
 have Gsw:Cal l.prog w K mg base 1 "signs_with" _ xw fb _:=⟨Fx m7,w4,vR,eY⟩
 have Gen:Cal l.prog w K mg base 4 "entries_behind" _ (Hf aU aT) bW _:=⟨ok_ent gQ T TL TS rL rS Gsw Gct,nO,nH,bV⟩
 have Grw:CalX l.prog w K mg base 3 "refuse_wide" _ (Ct K aL) dI _:=⟨HF lr TW XW Gon,uN,tW,dB⟩
 have Gft:CalX l.prog w K mg base 5 "front_table" _ (spFT aH aL aU aT cK) dN _:=⟨ok_ft lz TW cw Go GF Grw Gbk Gen,uQ,tZ,dG⟩
 have mTF:Kd K aL (.ref cv)=some true:=bE
 have XF:ErrC K mg "FloorError" cv:=⟨vV,fN⟩
 have Glm:CalX l.prog w K mg base 6 "least_many" _ (spLM aH aL aU aT cK) fg _:=⟨ok_lm iQ cw Gft,w9,vT,e8⟩
 have TM:TxtM mg:={ T with most:=⟨_,most⟩ }
 have TE:TxtE mg aL aH:={ T with g_TooWide:=vU,g_BadOrder:=rO }
 have Gwo:CalX l.prog w K mg base 2 "worths" _ (spWo aH aL cK) nZ _:=⟨ok_wo u4 TM cw XW Go,F7,FH,nX⟩
 have eT:ErC K aL:=⟨ga_TooWide,gt_TooWide,hb_TooWide,lY,lZ,hn_,htk_,lX⟩
 have eB:ErC K aH:=⟨ga_BadOrder,gt_BadOrder,hb_BadOrder,jY,jZ,hn_,htk_,jX⟩
 have Gz0:Cal l.prog w K mg base 2 "_law_pair" _ Cy jf _:=⟨HL sh T L9,B0,BA,i5⟩
 have Gz1:CalX l.prog w K mg base 7 "_law_ask" _ (Hg aH aL aU aT cK) kZ _:=⟨ok_ask xp Gft Glm Gwo,EM,Du,kR⟩
 have Gz2:Cal l.prog w K mg base 8 "_law_refusal" _ (Aj aH aL aU aT cK) dM _:=⟨HK ly XF XW XB mTF bz Gz1,uP,tY,dE⟩
 have Gz3:Cal l.prog w K mg base 9 "_law_too_wide" _ (Cu aU aT cK) c8 _:=⟨HG jx TE eT bY Gz2,rj,qL,c0⟩
 have Gz4:Cal l.prog w K mg base 9 "_law_no_order" _ (CB aU aT cK) c9 _:=⟨HN jy TE eB bZ Gz2,rm,qM,c6⟩
 have Gz5:Cal l.prog w K mg base 2 "_law_told" _ (Cv K) jd _:=⟨HI r9 T Gc,BY,By,i0⟩
 have Gz6:Cal l.prog w K mg base 7 "_law_star" _ (Cw aU aT cK) je _:=⟨HJ se T ML MS TL TS MW cw,BZ,Bz,i4⟩
 have Gz7:Cal l.prog w K mg base 6 "_law_free" _ (CG aU aT cK) jg _:=⟨HS si T Gft L9,B1,BB,i6⟩
 exact ok_law F_law T Gc Gz5 Gz6 Gz3 Gz4 Gz7 Glm Gz0 Gft L9
theorem walk{l:Mj}{q:Program}{loose:List Str}{XP:(Str->Option Value)->Heap->Prop}{YP:World->Heap->Prop}{d:DefRec}{K:Params->IT}(hn:l.most=some 63)(hdf:d.params.defaults = [])
  (hY:∀(w:World)(h:Heap),YP w h->(K w.params).In h)
  (F:∀(w:World)(mg:Str->Option Value)(fa:Addr)(h:Heap),(K w.params).In h->h.Ns mainGlobals mg->mg d.name=some (.ref fa) ->
   ∃ fd:FuncData,(∀(s:Shared)(u:Value),BindsTo s fd ⟨[u],[]⟩ [("script",u)])/\∀ base:Heap,(K w.params).In base->base.Ns mainGlobals mg->FnOk l.prog w (K w.params) mg base CX0 10 fa fd ["script"] (Fd (K w.params))) :
  PySem.W.WalkO q loose XP YP l.row.toRowW d [] (fun f vs=>PySem.call f vs) :=
 L2.walk_of (n:=63) (k:=10) (x:="script") (CX:=fun _=>CX0) (sp:=fun w=>Fd (K w.params)) hn (by decide) hdf ⟨rfl,by decide,by decide⟩ hY F (fun _ _ a ns hl _ hS=>⟨a,ns,rfl,hS,hl,fun _=>rfl⟩) fun _ _ _ _ _ z=>z
end K8
def PySem.W.Fast.tw13676165119075350496:Nat:=0
def PySem.W.Fast.tw8101601931653119140:Nat:=0
def PySem.W.Fast.tw15826760808654477413:Nat:=0
def PySem.W.Fast.tw13422174603010307621:Nat:=0
def PySem.W.Fast.tw12476108047943983558:Nat:=0
def PySem.W.Fast.tw10257661617729934760:Nat:=0
def PySem.W.Fast.tw7528096190756882569:Nat:=0
def PySem.W.Fast.tw452232182837455500:Nat:=0
def PySem.W.Fast.tw12737826963612168334:Nat:=0
def PySem.W.Fast.tw2527796578315875886:Nat:=0
def PySem.W.Fast.tw5580485869058054287:Nat:=0
def PySem.W.Fast.tw7777125923687690224:Nat:=0
def PySem.W.Fast.tw8554753357971848596:Nat:=0
def PySem.W.Fast.tw13930044402337774680:Nat:=0
def PySem.W.Fast.tw9191983169067220345:Nat:=0
def PySem.W.Fast.tw15524626081750113533:Nat:=0
def PySem.W.Fast.tw2604864340856204670:Nat:=0
def PySem.W.Fast.tw18140441085276780990:Nat:=0
namespace PySem.W.Fast
def tw2256815477231830048:=0
def tw12552799264635098240:=0
def tw5680357625906640064:=0
def tw10005199815723654368:=0
def tw8097562932701186368:=0
def tw8938316684277686624:=0
def tw3987534426594535776:=0
def tw14264594139211334016:=0
def tw4567033651899757952:=0
def tw3471216846533219744:=0
def tw13912937531640194528:=0
def tw1577845854795314688:=0
def tw3896632471889603104:=0
def tw7212929297128107584:=0
def tw2223607533298647648:=0
def tw8580516769420531328:=0
def tw14409248174796685056:=0
def tw7769563749454866272:=0
def tw8832145564388267105:=0
def tw13578231198703351905:=0
def tw9228576916710464641:=0
def tw13197283611186329857:=0
def tw9650010891846366497:=0
def tw9430618587965278529:=0
def tw12400740170545890657:=0
def tw3593548427900805505:=0
def tw4081185997415704993:=0
def tw798481480251498945:=0
def tw17521841764974679521:=0
def tw10858683858336578081:=0
def tw11215552747907525185:=0
def tw4474506219016345281:=0
def tw12484953644801040161:=0
def tw3138369712686274369:=0
def tw12852999156500444065:=0
def tw1345837392374449057:=0
def tw2536918546798001314:=0
def tw2694300974802365730:=0
def tw9486475582107653474:=0
def tw3654883459809900994:=0
def tw2428670832554319458:=0
def tw16241522920224583266:=0
def tw16551522342950383330:=0
def tw4517505756125927170:=0
def tw12180316924972484386:=0
def tw14193085879625350978:=0
def tw5355200141374735170:=0
def tw5823572842376747906:=0
def tw9737646411275164739:=0
def tw8224547788788398147:=0
def tw10927248795690651747:=0
def tw526635971293086019:=0
def tw7778956974666809699:=0
def tw12326578048649431715:=0
def tw11249285380684936931:=0
def tw1242601131920366371:=0
def tw7268182476022847363:=0
def tw14371322109913507844:=0
def tw4319413176723196964:=0
def tw3773621569233034308:=0
def tw2852263640924630116:=0
def tw14807654991308191876:=0
def tw12186488040200465540:=0
def tw12595989488127099172:=0
def tw9137275653544530244:=0
def tw1407122466240950724:=0
def tw12677282875176254980:=0
def tw190888896487601700:=0
def tw7098076873060815492:=0
def tw17752363487448392324:=0
def tw7280117099982249636:=0
def tw2469286715400286884:=0
def tw15823813659329040100:=0
def tw13970155649047943940:=0
def tw9434044658118908708:=0
def tw16622242583398412068:=0
def tw2963048752685028164:=0
def tw10324750623149816676:=0
def tw7071650357945424868:=0
def tw4464920820947460133:=0
def tw727997228709462053:=0
def tw11697204035319992389:=0
def tw9217530045551484005:=0
def tw2722973989633766565:=0
def tw489288999941162149:=0
def tw7624296510776799397:=0
def tw6609548498423825701:=0
def tw10985853873289942341:=0
def tw17349977092158732677:=0
def tw152009937054365125:=0
def tw14124384675481323045:=0
def tw658289820593934885:=0
def tw16232805823043067429:=0
def tw2048789913639786213:=0
def tw10077247361521114853:=0
def tw10492374465199512389:=0
def tw12390936612987205509:=0
def tw5574758337127875461:=0
def tw4878153601958419397:=0
def tw7577589253129830470:=0
def tw11543721446754502:=0
def tw17877171087337282886:=0
def tw4953410055907708294:=0
def tw15201938481742020070:=0
def tw7520703972342539878:=0
def tw15117506080878394022:=0
def tw18224528091110617798:=0
def tw11257041729233575622:=0
def tw10203561463137785670:=0
def tw9888341631518356326:=0
def tw7960809120762219398:=0
def tw3985163813782210438:=0
def tw4394684096569646022:=0
def tw2543899003968629702:=0
def tw6463463590436084743:=0
def tw15170944501183407111:=0
def tw15383732923573961799:=0
def tw17673324298521084007:=0
def tw4410450086273024231:=0
def tw3844159694171830663:=0
def tw8973859849424577959:=0
def tw4790523487593230951:=0
def tw18281276371875947111:=0
def tw4878760475507510919:=0
def tw9959265884197286631:=0
def tw10432849486958179111:=0
def tw3771740652037478279:=0
def tw181596649186210727:=0
def tw12288587535890251687:=0
def tw6071242164776445032:=0
def tw836748189173399752:=0
def tw10859300357364709576:=0
def tw8598309880668817672:=0
def tw15427003345691075912:=0
def tw10311943294468955464:=0
def tw17811957798798103080:=0
def tw2895132538631528008:=0
def tw2391481182604821192:=0
def tw4864480508433675976:=0
def tw14733721829527256776:=0
def tw3812644981875842856:=0
def tw26139280233390920:=0
def tw5873024594303989608:=0
def tw3105238837535380392:=0
def tw1413803904725211080:=0
def tw5678789384660584424:=0
def tw8305229264251743208:=0
def tw8541802357926921353:=0
def tw14755819148061934729:=0
def tw14262394277007081641:=0
def tw14844274159600767145:=0
def tw10095500616750832873:=0
def tw13534387779899901321:=0
def tw9342569439115695497:=0
def tw2861676494245015977:=0
def tw14031035843794617833:=0
def tw7912616788636284489:=0
def tw7864216882613298825:=0
def tw8689432334382102185:=0
def tw11038042972175497033:=0
def tw7520200723915241321:=0
def tw12339108368393945001:=0
def tw12119843814430768202:=0
def tw10194642708034566250:=0
def tw17721138307163942026:=0
def tw17386130916026395882:=0
def tw16927930724365075946:=0
def tw5366965653556768330:=0
def tw630640632926809674:=0
def tw14512768046273978986:=0
def tw16949606042966147818:=0
def tw4731117952131242858:=0
def tw1516317291761244042:=0
def tw582252555994542986:=0
def tw16870026532486819754:=0
def tw3308056669450528907:=0
def tw12941543490255985899:=0
def tw3399654286011468043:=0
def tw16950049075676744971:=0
def tw13432766617494158603:=0
def tw5493326687035755851:=0
def tw16055686563289450923:=0
def tw12586864348558331403:=0
def tw2981865255645271659:=0
def tw12355625854706768491:=0
def tw5610146021231557355:=0
def tw4658860529870396299:=0
def tw3421279777650646028:=0
def tw286873836163995660:=0
def tw13778741682526377068:=0
def tw5816586116726100364:=0
def tw10525652620791010796:=0
def tw6312052101010978284:=0
def tw13407677859918119468:=0
def tw6547250351361646156:=0
def tw10922107348436037292:=0
def tw246409801801597708:=0
def tw14533400369870563180:=0
def tw15340193138923320204:=0
def tw7562923875472132076:=0
def tw6789231537163788268:=0
def tw6984261859902061933:=0
def tw8385475413834492301:=0
def tw3545248458769488301:=0
def tw13427582066439270989:=0
def tw12665711863225681613:=0
def tw9621436773973975821:=0
def tw2634702475969355661:=0
def tw12610383815347994541:=0
def tw17497648644200487917:=0
def tw11703802817118562318:=0
def tw12656531822557460718:=0
def tw4372695298238092686:=0
def tw10685447977207040654:=0
def tw14664987068034333454:=0
def tw527246017965068270:=0
def tw18430088155268181039:=0
def tw1695980127788419279:=0
def tw118216117897951471:=0
def tw12367749158999384399:=0
def tw1583841260226952559:=0
def tw6224898771559336335:=0
def tw2569215785076598287:=0
def tw18299632758433393295:=0
def tw1205493627375439503:=0
def tw1350374177913856687:=0
def tw740556477209413295:=0
def tw1224163633282168591:=0
def tw1215359876063575887:=0
def tw720034592000560047:=0
def tw9596955805595843567:=0
def tw17329432258858818576:=0
def tw17801029823672660016:=0
def tw566625804178664528:=0
def tw11988472320843373680:=0
def tw12550332900988180656:=0
def tw3939547837022435504:=0
def tw8881259132792408272:=0
def tw4287627168856679632:=0
def tw16540422311118435696:=0
def tw12687157782784975280:=0
def tw16813387164973699536:=0
def tw15935166627622688240:=0
def tw16549607830414539344:=0
def tw16312715459846228656:=0
def tw3499144238898160304:=0
def tw2662238566052489008:=0
def tw4894733787339279216:=0
def tw1246328535006565296:=0
def tw5693928385582900144:=0
def tw13883422236313900049:=0
def tw10430415396348433425:=0
def tw1319749818391430193:=0
def tw9017246208628397169:=0
def tw16272518766935660753:=0
def tw16284418314893111505:=0
def tw1132769326837796081:=0
def tw3414059425412423953:=0
def tw2076983134519800145:=0
def tw10266709774712935825:=0
def tw184092598668850641:=0
def tw9483090446678874673:=0
def tw74987989580032657:=0
def tw9117153670586266257:=0
def tw6989613455279588081:=0
def tw15201827737748128497:=0
def tw17505651482722419505:=0
def tw16347404153240419217:=0
def tw11213049428873733041:=0
def tw10024558184623253554:=0
def tw3381199717088699602:=0
def tw6544701927971670258:=0
def tw4778803570028540178:=0
def tw10522264577689688338:=0
def tw17185179847989952818:=0
def tw11977579780381607282:=0
def tw17093942860730726770:=0
def tw1516356116528154034:=0
def tw9880104041328314962:=0
def tw1282460779634553458:=0
def tw11031595624462771986:=0
def tw4823178349663987763:=0
def tw8023693817112446131:=0
def tw13788350427585473747:=0
def tw17929160909895932179:=0
def tw4636888945524102451:=0
def tw13150792185619846739:=0
def tw12025191965381261939:=0
def tw3913102996859872979:=0
def tw4745922225214650067:=0
def tw10192054642816612211:=0
def tw17291312380858909683:=0
def tw428430389344804948:=0
def tw367276576734573652:=0
def tw16464606967184266356:=0
def tw4731998529807377524:=0
def tw5732244119208945780:=0
def tw5994181939531781300:=0
def tw12075257284568452308:=0
def tw9776353046877854932:=0
def tw12853512088207845588:=0
def tw1423872656236179700:=0
def tw6042008315941640532:=0
def tw7934914839798358484:=0
def tw5947160727821655604:=0
def tw13365979930062348916:=0
def tw10411403007060442772:=0
def tw5867438013195737748:=0
def tw11984304769068516212:=0
def tw4053571299465827220:=0
def tw4285141369543780340:=0
def tw18106952932116331669:=0
def tw5704719166665594005:=0
def tw4573888240787970261:=0
def tw11717081577118952693:=0
def tw2260775491807005973:=0
def tw15932128115121288853:=0
def tw6684432504983457589:=0
def tw12841214611105152917:=0
def tw7661094138762490966:=0
def tw2640378622199346262:=0
def tw9156531337774346326:=0
def tw15277784952210564278:=0
def tw255586686841934006:=0
def tw16732620660150054294:=0
def tw13693806296607075798:=0
def tw11624383228964174294:=0
def tw2346699507549725270:=0
def tw822650927482313398:=0
def tw10661407613762752342:=0
def tw3831830683656147798:=0
def tw9917448178810161046:=0
def tw12653388840169819062:=0
def tw11355219844230372310:=0
def tw15245048884213092375:=0
def tw16926406035847191671:=0
def tw593333699569963447:=0
def tw10391582023403954647:=0
def tw6083954452435278327:=0
def tw1425456391277391511:=0
def tw6264424776757460695:=0
def tw10479824764888867575:=0
def tw10118040884166971127:=0
def tw16389392284173735703:=0
def tw15229425413394773975:=0
def tw1347597034228113432:=0
def tw2175474328030646328:=0
def tw13441591151172086872:=0
def tw5005498278875780280:=0
def tw12237869758690397432:=0
def tw1648270448319797496:=0
def tw4662159866835893496:=0
def tw7884407075375209752:=0
def tw3371267196989105496:=0
def tw15739191185983091064:=0
def tw3612185940092242360:=0
def tw14689867687080731096:=0
def tw14098123806861776504:=0
def tw16658572282812561048:=0
def tw7984673957331519160:=0
def tw225548788495761176:=0
def tw18342512234751790904:=0
def tw10569921958443682680:=0
def tw2079713160663632792:=0
def tw6346176177504430008:=0
def tw2270128881643296760:=0
def tw8718470387786481689:=0
def tw14431765682975413273:=0
def tw6742622806098340889:=0
def tw3074740911856986169:=0
def tw538202208841751609:=0
def tw13389631265673225273:=0
def tw16760737951434076281:=0
def tw3816609551182386329:=0
def tw15038834450689281209:=0
def tw4041854104349554873:=0
def tw17071013176468256953:=0
def tw9259362289786717433:=0
def tw15514842799744855289:=0
def tw7313145262340886777:=0
def tw737799090420707577:=0
def tw9418908557883106617:=0
def tw5186858013255232825:=0
def tw15728760569915174233:=0
def tw6706034197594671449:=0
def tw13578399599456402873:=0
def tw17150211881740535257:=0
def tw4316587703258045913:=0
def tw8105761557869921817:=0
def tw13722266057289827001:=0
def tw4324539361949745881:=0
def tw15886315391739585241:=0
def tw15500665648917134105:=0
def tw13629634788679814969:=0
def tw16537554453172001625:=0
def tw11731716531753208922:=0
def tw3223945849216309402:=0
def tw17381848199777462458:=0
def tw13207969970748752090:=0
def tw4209750388656562458:=0
def tw14496825317814878522:=0
def tw11774078311940701562:=0
def tw3316206347435561370:=0
def tw1766761945352033722:=0
def tw11767800420881701466:=0
def tw9668010420220357306:=0
def tw11809493720983957210:=0
def tw4544325426018592506:=0
def tw16535347531662584570:=0
def tw6742278488385437498:=0
def tw1834550086481381178:=0
def tw5143643441466805114:=0
def tw2908944257124016090:=0
def tw8003198529539921882:=0
def tw8026176838782238714:=0
def tw17202868792249856027:=0
def tw2654230106495969371:=0
def tw8113405129346007163:=0
def tw10202575169682236571:=0
def tw2154511502894797051:=0
def tw2707668554345087227:=0
def tw15694079117701780795:=0
def tw6500567718995594619:=0
def tw16510245999564699067:=0
def tw13165450513597475291:=0
def tw1472213246481815003:=0
def tw17692173846819491355:=0
def tw1352736045341139483:=0
def tw8972567168988108443:=0
def tw17588714660342610779:=0
def tw434288606042108923:=0
def tw17384526109232076828:=0
def tw16981242559829708828:=0
def tw7026892224537487484:=0
def tw197866457274812604:=0
def tw14431458529044551036:=0
def tw16758861876395336124:=0
def tw3583507004832655996:=0
def tw12699397194364410556:=0
def tw4282629678194822876:=0
def tw4313750154745055004:=0
def tw10979457952287421372:=0
def tw33966834462483420:=0
def tw3064298625054931964:=0
def tw11313837093844410589:=0
def tw3911283384971588957:=0
def tw6269251093625974141:=0
def tw4860918387595569597:=0
def tw9800658245167876541:=0
def tw14888068698756423421:=0
def tw15323826836444956413:=0
def tw16789565950354993981:=0
def tw2674303779443363645:=0
def tw10045788814083522365:=0
def tw11707659315221371741:=0
def tw1165642349823620158:=0
def tw12366694760353358974:=0
def tw1820471560112025726:=0
def tw5718137064328830110:=0
def tw13894951373760056478:=0
def tw14963587106996857054:=0
def tw3101154319898968286:=0
def tw8711276488721745310:=0
def tw4846348236734052798:=0
def tw14693136912336237182:=0
def tw9308911007843134206:=0
def tw12388308301873958686:=0
def tw4356102447266663262:=0
def tw727100076697507806:=0
def tw12207265327895005182:=0
def tw8012258318108256319:=0
def tw9930546733002685567:=0
def tw11813031182961900735:=0
def tw1639832581153042623:=0
def tw11592916618189512959:=0
def tw5852817231520813311:=0
def tw16726133170410367263:=0
def tw18197538053073802559:=0
def tw10265358600533892479:=0
def tw10790946677532494271:=0
def tw17950825436393467327:=0
def tw16585437409832955391:=0
def tw16188183194505327135:=0
def tw1229336993619430975:=0
def tw11555851469689033343:=0
def tw5344926023899140767:=0
def tw8680616922940587711:=0
def tw8694684522229668607:=0
def tw12832767962967508863:=0
def tw16430811410100554655:=0
def tw14156977648208716364:=0
end PySem.W.Fast
open PySem PySem.W PyProof.Rows
set_option maxRecDepth 100000 in
set_option maxHeartbeats 0 in
theorem PySem.Challenge.cw_spinfloor_k44_stars_holds : PySem.Challenge.rw_spinfloor_k44_stars.Holds := by
 w_on;o_law;k_head;(case hw=>w_witness2)
 k_fill
 refine K8.walk (l:=PySem.Challenge.rw_spinfloor_k44_stars) rfl rfl (fun w h Y=>PySem.W.kIn_of Y) ?F
 case F =>
  intro w mg fa h KX G hmg
  refine' K8.all_mk KX G hmg ?gK ?ko ?mO ?Ab ?Aa ?EW ?ib ?ia ?cV ?fX ?h9 ?hX ?cU ?fV ?jO ?EV ?DA ?EH ?AE ?ET ?Dy ?EF ?AD ?pX ?oU ?pM ?kP ?gJ ?gj ?gE ?dH ?mF ?lL ?l9 ?iZ ?mL ?lR ?mr ?i8 ?uZ ?uc ?oR ?uJ ?nY ?kh ?jP ?j9 ?gk ?cJ ?cC ?cH ?bB ?gF ?fZ ?gA ?dB ?iM ?ij ?iE ?eY ?du ?dk ?dm ?bV ?gI ?gg ?gD ?dG ?iO ?il ?fY ?iG ?e8 ?iq ?iI ?iu ?e9 ?lT ?mw ?ja ?lW ?eF ?eO ?bG ?cE ?jS ?ke ?eG ?gu ?jT ?kf ?gs ?jW ?EU ?Dz ?EG ?k_head ?pY ?oV ?pN ?kQ ?mM ?lS ?mv ?i9 ?iN ?ik ?iF ?eZ ?ki ?jQ ?kc ?gm ?mE ?lK ?l8 ?iY ?gG ?gb ?gB ?dD ?fD ?fu ?fz ?cZ ?eP ?eE ?eL ?cD ?ip ?iH ?ir ?iw ?uY ?ub ?oQ ?uI ?nX ?mK ?lQ ?mq ?i7 ?kj ?jR ?kd ?gq ?mI ?lO ?mh ?i5 ?pZ ?oW ?pO ?kR ?gH ?gc ?gC ?dE ?fE ?fx ?fA ?c0 ?fF ?fy ?fB ?c6 ?mG ?lM ?ma ?i0 ?mH ?lN ?md ?i4 ?mJ ?lP ?mn ?i6 ?Gg ?Ik ?II ?Im ?fN ?jA ?bz ?ga_BadOrder ?gt_BadOrder ?hb_BadOrder ?jY ?jZ ?jX ?bZ ?lB ?bE ?ga_TooWide ?gt_TooWide ?hb_TooWide ?lY ?lZ ?lX ?bY ?yi ?zf ?x4 ?xU ?yM ?yW ?jN ?jM ?dj ?yh ?ze ?xZ ?xS ?yL ?yV ?jL ?jK ?di ?C4 ?DU ?C0 ?CP ?Dp ?DE ?jJ ?jI ?hV ?fU ?hW ?hn_ ?htk_ ?gi_wide ?gi_most ?GX ?GY ?Ca ?B9 ?xr ?xt ?jz ?gR ?GV ?GU ?sE ?GW ?G0 ?GQ ?GZ
  (case gK=>k_is)
  (case ko=>k_is)
  (case mO=>k_is)
  (case Ab=>k_is)
  (case Aa=>k_is)
  (case EW=>k_is)
  (case ib=>k_is)
  (case ia=>k_is)
  (case cV=>k_is)
  (case fX=>k_is)
  (case h9=>k_is)
  (case hX=>k_is)
  (case cU=>k_is)
  (case fV=>k_is)
  (case jO=>k_is)
  (case EV=>k_is)
  (case DA=>k_is)
  (case EH=>k_is)
  (case AE=>k_is)
  (case ET=>k_is)
  (case Dy=>k_is)
  (case EF=>k_is)
  (case AD=>k_is)
  (case pX=>k_is)
  (case oU=>k_is)
  (case pM=>k_is)
  (case kP=>k_is)
  (case gJ=>k_is)
  (case gj=>k_is)
  (case gE=>k_is)
  (case dH=>k_is)
  (case mF=>k_is)
  (case lL=>k_is)
  (case l9=>k_is)
  (case iZ=>k_is)
  (case mL=>k_is)
  (case lR=>k_is)
  (case mr=>k_is)
  (case i8=>k_is)
  (case uZ=>k_is)
  (case uc=>k_is)
  (case oR=>k_is)
  (case uJ=>k_is)
  (case nY=>k_is)
  (case kh=>k_is)
  (case jP=>k_is)
  (case j9=>k_is)
  (case gk=>k_is)
  (case cJ=>k_is)
  (case cC=>k_is)
  (case cH=>k_is)
  (case bB=>k_is)
  (case gF=>k_is)
  (case fZ=>k_is)
  (case gA=>k_is)
  (case dB=>k_is)
  (case iM=>k_is)
  (case ij=>k_is)
  (case iE=>k_is)
  (case eY=>k_is)
  (case du=>k_is)
  (case dk=>k_is)
  (case dm=>k_is)
  (case bV=>k_is)
  (case gI=>k_is)
  (case gg=>k_is)
  (case gD=>k_is)
  (case dG=>k_is)
  (case iO=>k_is)
  (case il=>k_is)
  (case fY=>k_is)
  (case iG=>k_is)
  (case e8=>k_is)
  (case iq=>k_is)
  (case iI=>k_is)
  (case iu=>k_is)
  (case e9=>k_is)
  (case lT=>k_is)
  (case mw=>k_is)
  (case ja=>k_is)
  (case lW=>k_is)
  (case eF=>k_is)
  (case eO=>k_is)
  (case bG=>k_is)
  (case cE=>k_is)
  (case jS=>k_is)
  (case ke=>k_is)
  (case eG=>k_is)
  (case gu=>k_is)
  (case jT=>k_is)
  (case kf=>k_is)
  (case gs=>k_is)
  (case jW=>k_is)
  (case EU=>k_is)
  (case Dz=>k_is)
  (case EG=>k_is)
  (case k_head=>k_is)
  (case pY=>k_is)
  (case oV=>k_is)
  (case pN=>k_is)
  (case kQ=>k_is)
  (case mM=>k_is)
  (case lS=>k_is)
  (case mv=>k_is)
  (case i9=>k_is)
  (case iN=>k_is)
  (case ik=>k_is)
  (case iF=>k_is)
  (case eZ=>k_is)
  (case ki=>k_is)
  (case jQ=>k_is)
  (case kc=>k_is)
  (case gm=>k_is)
  (case mE=>k_is)
  (case lK=>k_is)
  (case l8=>k_is)
  (case iY=>k_is)
  (case gG=>k_is)
  (case gb=>k_is)
  (case gB=>k_is)
  (case dD=>k_is)
  (case fD=>k_is)
  (case fu=>k_is)
  (case fz=>k_is)
  (case cZ=>k_is)
  (case eP=>k_is)
  (case eE=>k_is)
  (case eL=>k_is)
  (case cD=>k_is)
  (case ip=>k_is)
  (case iH=>k_is)
  (case ir=>k_is)
  (case iw=>k_is)
  (case uY=>k_is)
  (case ub=>k_is)
  (case oQ=>k_is)
  (case uI=>k_is)
  (case nX=>k_is)
  (case mK=>k_is)
  (case lQ=>k_is)
  (case mq=>k_is)
  (case i7=>k_is)
  (case kj=>k_is)
  (case jR=>k_is)
  (case kd=>k_is)
  (case gq=>k_is)
  (case mI=>k_is)
  (case lO=>k_is)
  (case mh=>k_is)
  (case i5=>k_is)
  (case pZ=>k_is)
  (case oW=>k_is)
  (case pO=>k_is)
  (case kR=>k_is)
  (case gH=>k_is)
  (case gc=>k_is)
  (case gC=>k_is)
  (case dE=>k_is)
  (case fE=>k_is)
  (case fx=>k_is)
  (case fA=>k_is)
  (case c0=>k_is)
  (case fF=>k_is)
  (case fy=>k_is)
  (case fB=>k_is)
  (case c6=>k_is)
  (case mG=>k_is)
  (case lM=>k_is)
  (case ma=>k_is)
  (case i0=>k_is)
  (case mH=>k_is)
  (case lN=>k_is)
  (case md=>k_is)
  (case i4=>k_is)
  (case mJ=>k_is)
  (case lP=>k_is)
  (case mn=>k_is)
  (case i6=>k_is)
  (case Gg=>k_is)
  (case Ik=>k_is)
  (case II=>k_is)
  (case Im=>k_is)
  (case fN=>k_exc)
  (case jA=>k_exc)
  (case bz=>k_is)
  (case ga_BadOrder=>k_is)
  (case gt_BadOrder=>k_is)
  (case hb_BadOrder=>k_is)
  (case jY=>k_is)
  (case jZ=>k_is)
  (case jX=>k_is)
  (case bZ=>kit_is)
  (case lB=>k_exc)
  (case bE=>k_is)
  (case ga_TooWide=>k_is)
  (case gt_TooWide=>k_is)
  (case hb_TooWide=>k_is)
  (case lY=>k_is)
  (case lZ=>k_is)
  (case lX=>k_is)
  (case bY=>kit_is)
  (case yi=>k_is)
  (case zf=>k_is)
  (case x4=>k_is)
  (case xU=>k_is)
  (case yM=>k_is)
  (case yW=>k_is)
  (case jN=>k_is)
  (case jM=>k_is)
  (case dj=>k_is)
  (case yh=>k_is)
  (case ze=>k_is)
  (case xZ=>k_is)
  (case xS=>k_is)
  (case yL=>k_is)
  (case yV=>k_is)
  (case jL=>k_is)
  (case jK=>k_is)
  (case di=>k_is)
  (case C4=>k_is)
  (case DU=>k_is)
  (case C0=>k_is)
  (case CP=>k_is)
  (case Dp=>k_is)
  (case DE=>k_is)
  (case jJ=>k_is)
  (case jI=>k_is)
  (case hV=>k_is)
  (case fU=>k_is)
  (case hW=>k_is)
  (case hn_=>k_is)
  (case htk_=>k_is)
  (case gi_wide=>k_is)
  (case gi_most=>k_is)
  (case GX=>k_is)
  (case GY=>k_is)
  (case Ca=>k_is)
  (case B9=>k_is)
  (case xr=>k_is)
  (case xt=>k_is)
  (case jz=>k_is)
  (case gR=>k_is)
  (case GV=>k_is)
  (case GU=>k_is)
  (case sE=>k_is)
  (case GW=>k_is)
  (case G0=>k_is)
  (case GQ=>k_is)
  (case GZ=>k_is)
