import PyProof.Rows.All
import Wide.All
import OpenK.AllK
import Wide.FinOn
import Lean
import PyProof.EqAt
import PyProof.EqKinds
import PyProof.TupleCall
import PySem.Challenge.RW_spinfloor_k15_whole_layings_of_sets
open Array renaming length_toList → Hv, getElem?_toList → HP
open Bool renaming false_ne_true → FV, and_eq_true → G0, false_and → Hm, true_and → HF, eq_iff_iff → HN, false_eq_true → Ig, xor_assoc → IF, false_xor → IG, xor_comm → IM
open Int renaming toNat_natCast → F1, emod_lt_of_pos → GK, zero_add → GN, emod_nonneg → GO, toNat_of_nonneg → Hb, natCast_nonneg → Ie, natCast_pow → Iy, fdiv_eq_ediv_of_nonneg → IA
open List renaming getElem?_eq_getElem → Fu, getElem?_eq_some_iff → Fv, mem_of_getElem? → Fx, length_append → Fy, getElem?_append_right → Fz, getElem?_append_left → FA, mem_cons → FC, length_map → FF, mem_append → FG, length_singleton → FI, mem_cons_of_mem → FK, mem_append_right → FN, mem_cons_self → FP, nodup_cons → FT, nodup_append → FY, size_toArray → FZ, getElem?_map → F0, mem_append_left → F3, map_append → F8, map_cons → F9, flatten_cons → Gb, length_cons → Ge, getElem?_set → Gg, mem_flatten → Gi, mem_iff_getElem? → Gj, mem_map → Gk, take_add_one → Gn, take_length → Gu, length_set → Gv, flatten_append → Gy, mem_singleton → GB, length_take → GL, getElem_mem → GQ, getElem?_replicate → GY, replicate → G1, take_of_length_le → G2, mem_filter → G5, perm_ext_iff_of_nodup → G7, length_drop → G8, lookup → G9, getElem_of_mem → Ha, range → Hd, find?_cons → Hh, length_pos_of_mem → Hj, take_append_drop → Hn, getElem?_eq_none → Ho, any_cons → Hr, length_nil → Hu, append_of_mem → Hw, nodup_nil → Hy, mem_range → Hz, idxOf_lt_length_iff → HD, append_nil → HM, getElem?_set_ne → HR, getElem?_of_mem → HS, getElem?_range → HY, filterMap_cons → HZ, mem_filterMap → Ia, filter_append → Ib, contains_cons → Ic, not_mem_nil → Il, cons_append → Im, dropLast_concat_getLast → Io, of_mem_zip → Iv, idxOf_lt_length_of_mem → Iw, getD_eq_getElem?_getD → Iz, mem_or_eq_of_mem_set → ID, drop_eq_getElem_cons → IE, map_take → IJ, map_drop → IK, length_eq_zero_iff → IL
open Nat renaming le_refl → FD, lt_of_lt_of_le → F2, ne_of_lt → F4, sub_self → F5, le_trans → Gs, le_of_lt → Gw, mod_eq_of_lt → Gz, lt_irrefl → GA, zero_le → GJ, lt_succ_self → GP, eq_of_testBit_eq → GV, not_lt_zero → G3, le_succ → G4, lt_succ_of_lt → G6, ne_of_gt → Hc, testBit_lt_two_pow → Hi, testBit_or → Hl, pow_le_pow_right → Hq, testBit_two_pow → Ht, zero_testBit → HH, testBit_and → HJ, mod_self → HK, le_antisymm → HL, mod_lt → HQ, testBit → HX, testBit_eq_decide_div_mod_eq → Ih, min_eq_left → Iu, lt_pow_two_of_testBit → IC
open Option renaming map_eq_some_iff → Gd, isSome_iff_exists → HC, map_some → HI
open Option.some renaming inj → FW
open PySem renaming Spec → FQ, mem_of_lookup → GC, frameOf → II
open PySem.F renaming plainAttrs_list → FR, type_list_append → F6, slot_list_append → F7, type_list_index → Hf, slot_list_index → Hg, type_list_insert → HA, slot_list_insert → HB, store_ValueError → IH
open PySem.W renaming Frag → Fw, keepIn → FH, findIn → FJ, nsIn → FL, codeIn → FO, fnOf → FU, mg_of → FX, mg_none_of → Gq, kia_one → Gx, hasDictIn → GD, kitOne → GF, looks_findIn → GG, emptyDict → GH, isFn → GU, instObj → GW, mroIn → GX, plainGet → GZ, callWith_K → He, plainOver → Hk, makesIn → Hs, lookIn → Hx, Looks → HE, any_some → HG, plainGet_of → HU, looks_mroIn → HV, hideAll_get → HW, specialIn → Ii, methodObj → Ij, handedIn → Ik, takesIn → Ip, takerIn → Iq, OpenLaw → Ir, notCls → IB
set_option Elab.async false
set_option linter.all false
set_option maxRecDepth 100000
local macro_rules | `(tactic| omega) => `(tactic| first | assumption | lia | omega +splitDisjunctions)
namespace L2
open PySem PySem.Spec PyProof.Rows
abbrev Key:=Sum Int Str
def um:Key->Value->Bool
 |.inl k,v=>Value.isInt k v
 |.inr x,v=>Value.isStrOf x v
def keyH(w:World):Key->Int
 |.inl k=>hashInt k
 |.inr x=>hashStr w x
theorem aZ:∀{k:Key}{v:Value},um k v=true->(∃ i t,k=Sum.inl i/\v=Value.int i t)∨(∃ x t,k=Sum.inr x/\v=Value.str x t)
 |.inl i,v,h=>by
  obtain⟨t,e⟩:=Value.isInt_shape (k:=i) (v:=v) h
  exact .inl ⟨i,t,rfl,e⟩
 |.inr x,v,h=>by
  obtain⟨t,e⟩:=Value.isStrOf_shape (x:=x) (v:=v) h
  exact .inr ⟨x,t,rfl,e⟩
theorem BP(i:Int)(t:Tok):um (.inl i) (.int i t)=true:=by simp[um,Value.isInt]
theorem BO(x:Str)(t:Tok):um (.inr x) (.str x t)=true:=by simp[um,Value.isStrOf]
theorem key_ll(a b:Int):decide ((Sum.inl a:Key)=Sum.inl b)=(a == b):=by
 by_cases e:a=b
 ·subst e;simp
 ·have h:¬ (Sum.inl a:Key)=Sum.inl b:=fun q=>e (Sum.inl.inj q)
  rw[decide_eq_false h]
  exact(beq_eq_false_iff_ne.mpr e).symm
theorem key_rr(a b:Str):decide ((Sum.inr a:Key)=Sum.inr b)=decide (a=b):=by
 by_cases e:a=b
 ·subst e;simp
 ·have h:¬ (Sum.inr a:Key)=Sum.inr b:=fun q=>e (Sum.inr.inj q)
  rw[decide_eq_false h,decide_eq_false e]
theorem key_lr(a:Int)(b:Str):decide ((Sum.inl a:Key)=Sum.inr b)=false:=decide_eq_false (fun q=>nomatch q)
theorem key_rl(a:Str)(b:Int):decide ((Sum.inr a:Key)=Sum.inl b)=false:=decide_eq_false (fun q=>nomatch q)
def bO(prog:Program)(w:World):PySem.KeyKind prog w Key where
 is:=um
 hash:=keyH w
 inj:=fun v a b ha hb=>by
  rcases aZ ha with⟨i,t,rfl,rfl⟩ | ⟨x,t,rfl,rfl⟩
  ·rcases aZ hb with⟨j,u,rfl,e⟩ | ⟨y,u,rfl,e⟩
   ·injection e with e1 _;rw[e1]
   ·exact nomatch e
  ·rcases aZ hb with⟨j,u,rfl,e⟩ | ⟨y,u,rfl,e⟩
   ·exact nomatch e
   ·injection e with e1 _;rw[e1]
 byValue:=fun k v h=>by
  rcases aZ h with⟨i,t,rfl,rfl⟩ | ⟨x,t,rfl,rfl⟩<;>rfl
 pyHash:=fun hv h=>by
  rcases aZ hv with⟨i,t,rfl,rfl⟩ | ⟨x,t,rfl,rfl⟩
  ·exact wpAny_pyHash_int h
  ·exact wpAny_pyHash_str h
 eqBool:=fun hu hv h=>by
  rcases aZ hu with⟨i,t,rfl,rfl⟩ | ⟨x,t,rfl,rfl⟩
  ·rcases aZ hv with⟨j,u,rfl,rfl⟩ | ⟨y,u,rfl,rfl⟩
   ·rw[key_ll]at h;exact wpAny_eqBool_int h
   ·rw[key_lr]at h;exact SeqAt.EqAt.int_str i t y u _ _ _ _ h
  ·rcases aZ hv with⟨j,u,rfl,rfl⟩ | ⟨y,u,rfl,rfl⟩
   ·rw[key_rl]at h;exact SeqAt.EqAt.str_int x t j u _ _ _ _ h
   ·rw[key_rr]at h;exact wpAny_eqBool_str h
 «strs»:=fun k x t v h=>by
  rcases aZ h with⟨i,u,rfl,e⟩ | ⟨y,u,rfl,e⟩
  ·exact nomatch e
  ·injection e with e1 _
   subst e1
   cases v<;>rfl
theorem w4(prog:Program)(w:World)(i:Int)(t:Tok):(bO prog w).is (.inl i) (.int i t)=true:=BP i t
theorem wZ(prog:Program)(w:World)(x:Str)(t:Tok):(bO prog w).is (.inr x) (.str x t)=true:=BO x t
end L2
namespace L2
open PySem PySem.Spec PyProof.Rows
inductive V where
 |non | bl (b:Bool) | int (i:Int) | str (x:Str) | byt (b:Array UInt8) | flt (b:UInt64) | ref (a:Addr) | ty (n:String)
 deriving DecidableEq
def RelV:V->Value->Prop
 |.non,u=>u=Value.none
 |.bl b,u=>u=Value.bool b
 |.int i,u=>∃ t,u=Value.int i t
 |.str x,u=>∃ t,u=Value.str x t
 |.byt b,u=>∃ t,u=Value.bytes b t
 |.flt b,u=>∃ t,u=Value.float b t
 |.ref a,u=>u=Value.ref a
 |.ty n,u=>u=Value.type n
abbrev Vals:List V->List Value->Prop:=Paired RelV
theorem Vals.length{xs:List V}{us:List Value}(r:Vals xs us):xs.length=us.length:=Paired.length r
theorem Vals.get:∀{xs:List V}{us:List Value}{i:Nat}{x:V},Vals xs us->xs[i]?=some x->∃ u,us[i]?=some u/\RelV x u
 |_,_,_,_,.nil,e=>by simp at e
 |_,_,0,_,.cons r _,e=>by simp at e;subst e;exact⟨_,rfl,r⟩
 |_,_,i+1,x,.cons _ t,e=>by
  obtain⟨u,h1,h2⟩:=Vals.get (i:=i) (x:=x) t (by simpa using e)
  exact⟨u,by simpa using h1,h2⟩
theorem Vals.set{x:V}{u:Value}(r:RelV x u):∀{xs:List V}{us:List Value}(i:Nat),Vals xs us->Vals (xs.set i x) (us.set i u)
 |_,_,_,.nil=>.nil
 |_,_,0,.cons _ t=>.cons r t
 |_,_,i+1,.cons q t=>.cons q (Vals.set r i t)
theorem Vals.append:∀{xs ys:List V}{us ws:List Value},Vals xs us->Vals ys ws->Vals (xs++ys) (us++ws)
 |_,_,_,_,.nil,s=>s
 |_,_,_,_,.cons r t,s=>.cons r (Vals.append t s)
theorem Vals.take:∀{xs:List V}{us:List Value}(n:Nat),Vals xs us->Vals (xs.take n) (us.take n)
 |_,_,0,_=>.nil
 |_,_,_+1,.nil=>.nil
 |_,_,n+1,.cons r t=>.cons r (Vals.take n t)
theorem Vals.drop:∀{xs:List V}{us:List Value}(n:Nat),Vals xs us->Vals (xs.drop n) (us.drop n)
 |_,_,0,r=>r
 |_,_,_+1,.nil=>.nil
 |_,_,n+1,.cons _ t=>Vals.drop n t
def RelO:Option V->Option Value->Prop
 |some v,some u=>RelV v u
 |none,none=>True
 |_,_=>False
def KV{κ:Type}:List (κ×V)->List (κ×Value)->Prop:=Paired fun(p:κ×V) (q:κ×Value)=>p.1=q.1/\RelV p.2 q.2
def kV:Key->V
 |.inl i=>.int i
 |.inr x=>.str x
inductive HO where
  |lst (xs:List V)
  |tup (xs:List V)
  |dK (kvs:List (Key×V)) | dT (kvs:List (List Key×V))
  |set (S:Int->Bool) (n:Nat)
  |ins (C dx:Addr) (fs:List (Str×V))
  |own (x:Addr)
  |xd (fs:List (Str×V))
  |met (f x:Addr)
  |rng (lo hi:Int)
  |frz (o:Obj) (u:HO)
  |tbl (ps:Array Value)
  |ext (φ:Heap->Prop)
abbrev Hp:=Addr->Option HO
def upd(H:Hp)(a:Addr)(o:HO):Hp:=fun b=>if b=a then some o else H b
theorem af{H:Hp}{a:Addr}{o:HO}:upd H a o a=some o:=by unfold upd;rw[if_pos rfl]
theorem ak{H:Hp}{a b:Addr}{o:HO}(h:b≠a):upd H a o b=H b:=by unfold upd;rw[if_neg h]
theorem zL{H:Hp}{a b:Addr}{o u:HO}(h:H a=some o)(h':H b=some u)(d:o≠u):a≠b:=by
 intro e;subst e;rw[h]at h';exact d (FW h')
theorem aA{H:Hp}{a b:Addr}{o:HO}(h:H a=some o)(h':H b=none):a≠b:=by
 intro e;subst e;rw[h]at h';cases h'
section
variable(P:Program)(w:World)
def bA(H:Hp)(h:Heap)(a:Addr):HO->Prop
 |.lst xs=>xs.length<=sizeLine/\∃(its:List Value)(n:Nat),Vals xs its/\h.get? a=some { cls:=.type "list",data:=.seq its.toArray n }
 |.tup xs=>xs.length<=sizeLine/\∃ its:List Value,Vals xs its/\IsTup h a its.toArray
 |.dK kvs=>kvs.length<=sizeLine/\(a == sysModules)=false/\∃ vs,KV kvs vs/\h.DictOf (bO P w) a vs
 |.dT kvs=>kvs.length<=sizeLine/\(a == sysModules)=false/\∃ xs:List (List Key×Addr×Value),
   Paired (fun(p:List Key×V) (q:List Key×Addr×Value)=>p.1=q.1/\H q.2.1=some (.tup (p.1.map kV))/\RelV p.2 q.2.2) kvs xs /\
   ∃ o es ep,h.get? a=some o/\o.ExactDict/\o.data=.dict es ep/\es.toList=xs.map (entryOfKey (tupleKind (bO P w)))/\(xs.map (·.1)).Nodup
 |.set S n=>h.SetOf (intKind P w) a S n
 |.ins C dx fs=>H dx=some (.own a)/\fs.length<=1000/\dx≠a/\h.get? a=some (GW C dx) /\
   ∃ mA,h.Ns1 dx mA/\(∀ f,RelO (fs.lookup f) (mA f))/\PySem.Within mA (fs.map (·.1))
 |.own _=>∃ o,h.get? a=some o
 |.xd fs=>∃ mA,h.Ns1 a mA/\∀ f,RelO (fs.lookup f) (mA f)
 |.rng lo hi=>∃ t u v,h.get? a=some { cls:=.type "range",data:=.fields #[.int lo t,.int hi u,.int 1 v] }
 |.frz o u=>h.get? a=some o/\bA H h a u
 |.tbl ps=>h.get? a=some { cls:=.none,data:=.fields ps }
 |.met f x=>h.get? a=some (Ij (.ref f) (.ref x))
 |.ext φ=>φ h/\(∃ o,h.get? a=some o)/\∀ h1 h2:Heap,φ h1->(∀ o,h1.get? a=some o->h2.get? a=some o)->φ h2
def HOk(H:Hp)(h:Heap):Prop:=∀ a o,H a=some o->bA P w H h a o
end
section
variable{P:Program}{w:World}{H H':Hp}{h h':Heap}{a:Addr}{o:HO}
theorem bA.lt(x:bA P w H h a o):a<h.objs.size:=by
 cases o with
 |lst xs=>obtain⟨_,_,_,_,e⟩:=x;exact Heap.lt_size e
 |tup xs=>obtain⟨_,_,_,p⟩:=x;exact p.lt
 |dK kvs=>obtain⟨_,_,_,_,o,_,_,e,_⟩:=x;exact Heap.lt_size e
 |dT kvs=>obtain⟨_,_,_,_,o,_,_,e,_⟩:=x;exact Heap.lt_size e
 |set S n=>obtain⟨o,_,_,_,e,_⟩:=x;exact Heap.lt_size e
 |ins C dx fs=>obtain⟨_,_,_,e,_⟩:=x;exact Heap.lt_size e
 |own y=>obtain⟨_,e⟩:=x;exact Heap.lt_size e
 |xd fs=>obtain⟨_,⟨_,_,_,e,_⟩,_⟩:=x;exact Heap.lt_size e
 |rng lo hi=>obtain⟨_,_,_,e⟩:=x;exact Heap.lt_size e
 |frz ob u=>obtain⟨e,_⟩:=x;exact Heap.lt_size e
 |tbl ps=>exact Heap.lt_size (show h.get? a=some _ from x)
 |met f y=>exact Heap.lt_size (show h.get? a=some _ from x)
 |ext φ=>obtain⟨_,⟨_,e⟩,_⟩:=x;exact Heap.lt_size e
theorem Paired.mapP{α β:Type}{F G:α->β->Prop}:∀{l₁:List α}{l₂:List β},Paired F l₁ l₂->(∀ a b,F a b->G a b)->Paired G l₁ l₂
 |_,_,.nil,_=>.nil
 |_,_,.cons r t,f=>.cons (f _ _ r) (Paired.mapP t f)
theorem bA.stay(x:bA P w H h a o)(k:∀ b u,(b=a∨H b=some (.own a))->h.get? b=some u->h'.get? b=some u)
  (ho:∀ b,H b=some (.own a)->H' b=some (.own a)) (ht:∀ b xs,H b=some (.tup xs)->H' b=some (.tup xs)):bA P w H' h' a o:=by
 induction o with
 |lst xs=>obtain⟨z,its,n,r,e⟩:=x;exact⟨z,its,n,r,k _ _ (.inl rfl) e⟩
 |tup xs=>obtain⟨z,its,r,ob,e,c⟩:=x;exact⟨z,its,r,ob,k _ _ (.inl rfl) e,c⟩
 |dK kvs=>obtain⟨z,y,vs,r,ob,es,ep,e,c⟩:=x;exact⟨z,y,vs,r,ob,es,ep,k _ _ (.inl rfl) e,c⟩
 |dT kvs =>
  obtain⟨z,y,xs,r,ob,es,ep,e,c⟩:=x
  exact⟨z,y,xs,Paired.mapP r fun p q z=>⟨z.1,ht _ _ z.2.1,z.2.2⟩,ob,es,ep,k _ _ (.inl rfl) e,c⟩
 |set S n=>obtain⟨ob,es,ep,t,e,c⟩:=x;exact⟨ob,es,ep,t,k _ _ (.inl rfl) e,c⟩
 |ins C dx fs =>
  obtain⟨d,z,ne,e,mA,⟨od,es,ep,e2,c⟩,r⟩:=x
  exact⟨ho _ d,z,ne,k _ _ (.inl rfl) e,mA,⟨od,es,ep,k _ _ (.inr d) e2,c⟩,r⟩
 |own y=>obtain⟨ob,e⟩:=x;exact⟨ob,k _ _ (.inl rfl) e⟩
 |xd fs=>obtain⟨mA,⟨od,es,ep,e,c⟩,r⟩:=x;exact⟨mA,⟨od,es,ep,k _ _ (.inl rfl) e,c⟩,r⟩
 |rng lo hi=>obtain⟨t,u,v,e⟩:=x;exact⟨t,u,v,k _ _ (.inl rfl) e⟩
 |frz ob u ih=>obtain⟨e,q⟩:=x;exact⟨k _ _ (.inl rfl) e,ih q⟩
 |tbl ps =>
  have e:h.get? a=some { cls:=.none,data:=.fields ps }:=x
  show h'.get? a=some { cls:=.none,data:=.fields ps }
  exact k a _ (.inl rfl) e
 |met f y =>
  have e:h.get? a=some (Ij (.ref f) (.ref y)):=x
  show h'.get? a=some (Ij (.ref f) (.ref y))
  exact k a _ (.inl rfl) e
 |ext φ=>obtain⟨p,⟨o,e⟩,st⟩:=x;exact⟨st _ _ p fun o q=>k _ _ (.inl rfl) q,⟨o,k _ _ (.inl rfl) e⟩,st⟩
theorem HOk.lt(x:HOk P w H h)(e:H a=some o):a<h.objs.size:=(x a o e).lt
theorem HOk.fresh(x:HOk P w H h)(e:h.objs.size<=a):H a=none:=by
 cases q:H a with
 |none=>rfl
 |some u=>exact absurd (F2 (x.lt q) e) (GA _)
theorem HOk.kept(x:HOk P w H h)(k:∀ b u,h.get? b=some u->h'.get? b=some u):HOk P w H h':=fun a o e =>
 (x a o e).stay (fun b u _ q=>k b u q) (fun _ q=>q) fun _ _ q=>q
theorem HOk.laid(x:HOk P w H h)(k:∀ b u,h.get? b=some u->h'.get? b=some u)(hp:h.objs.size<=a)(new:bA P w (upd H a o) h' a o):HOk P w (upd H a o) h':=fun b u e=>by
 have hn:=x.fresh hp
 by_cases hb:b=a
 ·subst hb;rw[af]at e;cases e;exact new
 ·rw[ak hb]at e
  exact(x b u e).stay (fun c v _ q=>k c v q) (fun c q=>by rw[ak (aA q hn)];exact q) fun c xs q=>by rw[ak (aA q hn)];exact q
end
def Rd(H:Hp)(a:Addr)(u:HO):Prop:=H a=some u∨∃ o,H a=some (.frz o u)
theorem Rd.ok{P:Program}{w:World}{H:Hp}{h:Heap}{a:Addr}{u:HO}(r:Rd H a u)(x:HOk P w H h):bA P w H h a u:=by
 rcases r with r | ⟨o,r⟩
 ·exact x a u r
 ·obtain⟨_,q⟩:=x a _ r
  exact q
def Mut:Option HO->Prop
 |some (.lst _)=>True
 |some (.dK _)=>True
 |some (.dT _)=>True
 |some (.set _ _)=>True
 |some (.ins _ _ _)=>True
 |some (.ext _)=>True
 |_=>False
section
variable{P:Program}{w:World}{H:Hp}{h h':Heap}{x e:Addr}{o':HO}
theorem HOk.write(ok:HOk P w H h)(mu:Mut (H x))(he:e=x∨H e=some (.own x))(k:∀ b u,b≠e->h.get? b=some u->h'.get? b=some u)(heo:∃ u,h'.get? e=some u)
  (new:bA P w (upd H x o') h' x o'):HOk P w (upd H x o') h':=fun b u q=>by
 have nown:∀ c y,H c=some (.own y)->c≠x:=fun c y r z=>by subst z;rw[r]at mu;exact mu
 have ntup:∀ c xs,H c=some (.tup xs)->c≠x:=fun c xs r z=>by subst z;rw[r]at mu;exact mu
 by_cases hb:b=x
 ·subst hb;rw[af]at q;cases q;exact new
 ·rw[ak hb]at q
  by_cases hbe:b=e
  ·have q':H b=some (.own x):=by
    rcases he with z | z
    ·exact absurd (hbe.trans z) hb
    ·rw[hbe];exact z
   rw[q]at q';cases q'
   obtain⟨v,hv⟩:=heo
   exact⟨v,by rw[hbe];exact hv⟩
  ·refine(ok b u q).stay (fun c v hc r=>k c v ?_ r) (fun c r=>by rw[ak (nown c b r)];exact r) fun c xs r=>by rw[ak (ntup c xs r)];exact r
   rcases hc with rfl | hc
   ·exact hbe
   ·rintro rfl
    rcases he with z | z
    ·exact nown c b hc z
    ·rw[hc]at z;cases z;exact hb rfl
end
structure Un(fs ex:List Addr)(H H':Hp)(h h':Heap):Prop where
 keep:∀ b o,h.get? b=some o->H b=none->b∉fs->b∉ex->h'.get? b=some o
 slot:∀ b o,h.get? b=some o->H b=none->b∈fs->b∉ex->∃ sl,h'.get? b=some { o with slots:=sl }
 free:∀ b o,h.get? b=some o->H b=none->b∉ex->H' b=none
 there:∀ b o,h.get? b=some o->b∉ex->∃ o',h'.get? b=some o'
 tups:∀ b xs,H b=some (.tup xs)->H' b=some (.tup xs)
 frzs:∀ b o u,H b=some (.frz o u)->H' b=some (.frz o u)
 tbls:∀ b ps,H b=some (.tbl ps)->∃ more,H' b=some (.tbl (ps++more))
section
variable{fs fs' ex ex':List Addr}{H H1 H2:Hp}{h h1 h2 h':Heap}{a x e:Addr}{o:HO}
theorem Un.any(u:Un fs ex H H1 h h1){b:Addr}{ob:Obj}(q:h.get? b=some ob)(n:H b=none)(hx:b∉ex):∃ sl,h1.get? b=some { ob with slots:=sl }:=by
 by_cases hb:b∈fs
 ·exact u.slot b ob q n hb hx
 ·exact⟨ob.slots,u.keep b ob q n hb hx⟩
theorem Un.kept(k:∀ b u,h.get? b=some u->h'.get? b=some u):Un fs ex H H h h' :=
 ⟨fun b ob q _ _ _=>k b ob q,fun b ob q _ _ _=>⟨ob.slots,k b ob q⟩,fun _ _ _ n _=>n,fun b ob q _=>⟨ob,k b ob q⟩,fun _ _ q=>q,fun _ _ _ q=>q,fun _ ps q=>⟨#[],by rw[q];simp⟩⟩
theorem Un.refl:Un fs ex H H h h:=Un.kept fun _ _ q=>q
theorem Un.laid(k:∀ b u,h.get? b=some u->h'.get? b=some u)(hp:h.objs.size<=a)(hn:H a=none):Un fs ex H (upd H a o) h h' where
 keep:=fun b u q _ _ _=>k b u q
 slot:=fun b u q _ _ _=>⟨u.slots,k b u q⟩
 free:=fun b u q n _=>by rw[ak (F4 (F2 (Heap.lt_size q) hp))];exact n
 there:=fun b u q _=>⟨u,k b u q⟩
 tups:=fun b xs q=>by rw[ak (aA q hn)];exact q
 frzs:=fun b u xs q=>by rw[ak (aA q hn)];exact q
 tbls:=fun b ps q=>⟨#[],by rw[ak (aA q hn),q];simp⟩
theorem Un.write(mu:Mut (H x))(he:e=x∨H e=some (.own x))(k:∀ b u,b≠e->h.get? b=some u->h'.get? b=some u)(heo:∃ u,h'.get? e=some u):Un fs ex H (upd H x o) h h':=by
 have hx:∀ b,H b=none->b≠x:=fun b n z=>by subst z;rw[n]at mu;exact mu
 have hb:∀ b,H b=none->b≠e:=fun b n z=>by
  subst z
  rcases he with r | r
  ·exact hx b n r
  ·rw[n]at r;cases r
 have hm:∀ b u,H b=some u->¬ Mut (some u)->b≠x:=fun b u q nm z=>by subst z;rw[q]at mu;exact nm mu
 refine⟨fun b u q n _ _=>k b u (hb b n) q,fun b u q n _ _=>⟨u.slots,k b u (hb b n) q⟩,fun b u q n _=>by rw[ak (hx b n)];exact n,fun b u q _=>?_,
  fun b xs q=>by rw[ak (hm b _ q fun z=>z)];exact q,fun b u xs q=>by rw[ak (hm b _ q fun z=>z)];exact q,fun b ps q=>⟨#[],by rw[ak (hm b _ q fun z=>z),q];simp⟩⟩
 by_cases hbe:b=e
 ·subst hbe;exact heo
 ·exact⟨u,k b u hbe q⟩
end
def trk(h:Heap)(H:Hp):List Addr:=(Hd h.objs.size).filter fun a=>(H a).isSome
def hidT(h:Heap)(H:Hp):Heap:=PySem.W.hideAll h (trk h H)
theorem B9(h:Heap)(H:Hp):(hidT h H).objs.size=h.objs.size:=PySem.W.hideAll_size _ _
theorem Dy{h:Heap}{H:Hp}{b:Addr}{o:Obj}(e:h.get? b=some o)(n:H b=none):(hidT h H).get? b=some o :=
 HW _ e fun hm=>by
  have q:(H b).isSome=true:=(G5.mp hm).2
  rw[n]at q;simp at q
theorem EW{h:Heap}{H:Hp}{b:Addr}{o:Obj}(e:(hidT h H).get? b=some o):h.get? b=some o/\H b=none:=by
 have e':h.get? b=some o:=PySem.W.of_hideAll (trk h H) e
 refine⟨e',?_⟩
 cases q:H b with
 |none=>rfl
 |some x =>
  have hm:b∈trk h H:=G5.mpr ⟨Hz.mpr (Heap.lt_size e'),by simp[q]⟩
  have z:(hidT h H).get? b=none:=PySem.W.hideAll_none (trk h H) hm
  rw[z]at e;cases e
end L2
namespace L2
open PySem PySem.Spec PyProof.Rows
structure Mod(K:Fw)(mg:Str->Option Value)(base:Heap):Prop where
 kin:K.In base
 glob:base.Ns mainGlobals mg
 blt:∃ mb,base.Ns builtinsNs mb/\∀ x:Str,x≠"__name__"->mb x=bootBuiltins x
 nolimit:base.NoLimit
structure Cx where
 prog:Program
 w:World
 K:Fw
 mg:Str->Option Value
 base:Heap
 A:Around
 N:List Str
 s₀:Shared
 H₀:Hp
 env:Env
 outer:List Env
 stack:List Env
 ex:List Addr
 fn:Str->Bool
 calm:Bool
 pn:List (Addr×Obj)
 xe:Value->Shared->Prop
def frs(l:List Env):List Addr:=l.filterMap (·.frame)
abbrev Cx.fs(X:Cx):List Addr:=frs X.outer
def Vis(sc:Scope)(x:Str):Prop:=sc.names.lookup x=some .local∨sc.names.lookup x=some .cell∨sc.names.lookup x=some .free
def Loc(sc:Scope)(x:Str):Prop:=sc.names.lookup x=some .local∨sc.names.lookup x=some .cell
def Look(env:Env)(h:Heap)(m:Str->Option Value)(x:Str)(u:Value):Prop :=
 (env.kindOf x=some .local/\m x=some u)∨((env.kindOf x=some .cell∨env.kindOf x=some .free)/\∃ c,env.cells.lookup x=some c/\h.IsCell c (some u))
structure Cx.Ok(X:Cx):Prop where
 mod:Mod X.K X.mg X.base
 kind:X.env.scope.kind=.function
 glob:X.env.globals=mainGlobals
 blt:X.env.builtins=builtinsNs
 above:X.s₀.heap.objs.size<=X.env.locals
 inj:∀ x y c,X.env.cells.lookup x=some c->X.env.cells.lookup y=some c->x=y
 has:∀ x,(X.env.kindOf x=some .cell∨X.env.kindOf x=some .free)->∃ c,X.env.cells.lookup x=some c
 cab:∀ x c,X.fn x=true->X.env.cells.lookup x=some c->X.s₀.heap.objs.size<=c
 hd:X.calm=true->X.A.handled=none
 frames:X.A.frames=some X.stack
 stk:X.stack=X.outer∨(X.stack=X.env::X.outer/\X.env.frame=some X.env.locals)
 exf:∀ b∈X.ex,b≠X.env.locals/\∀ x c,X.env.cells.lookup x=some c->c≠b
 bs:∀ b o,X.base.get? b=some o->X.s₀.heap.get? b=some o/\X.H₀ b=none
 bsz:X.base.objs.size<=X.s₀.heap.objs.size
 noex:∀ b o,X.base.get? b=some o->b∉X.ex
 exfs:∀ b∈X.ex,b∉X.fs
 funs:X.s₀.heap.FunFrames X.base X.outer
 frf:∀ b∈X.fs,X.H₀ b=none
structure Inv(X:Cx)(pins:List (Addr×Obj))(σ:List (Option V))(H:Hp)(s:Shared):Prop where
 ok:X.Ok
 os:s.os=X.s₀.os
 bare:AllBare s.gens
 base:Un X.fs X.ex X.H₀ H X.s₀.heap s.heap
 loc:∃ m,s.heap.Ns X.env.locals m/\∀(i:Nat)(x:Str)(v:V),X.N[i]?=some x->σ[i]?=some (some v)->Vis X.env.scope x->∃ u,RelV v u/\Look X.env s.heap m x u
 cell:∀ x c,X.env.cells.lookup x=some c->∃ v,s.heap.IsCell c v
 free:H X.env.locals=none
 freeC:∀ x c,X.env.cells.lookup x=some c->H c=none
 pin:∀ p∈X.pn++pins,s.heap.get? p.1=some p.2/\H p.1=none/\p.1≠X.env.locals/\p.1∉X.fs/\∀ v,p.2.data≠.cell v
 hok:HOk X.prog X.w H s.heap
 len:σ.length=X.N.length
section
variable{X:Cx}{pins:List (Addr×Obj)}{σ:List (Option V)}{H H':Hp}{s:Shared}{h':Heap}
theorem Cx.Ok.nofr(ok:X.Ok){b:Addr}{o:Obj}(e:X.base.get? b=some o):b∉X.fs:=fun hb=>by
 have:=(ok.funs.mem hb).1
 rw[e]at this;cases this
theorem Inv.bs(I:Inv X pins σ H s):∀ b o,X.base.get? b=some o->s.heap.get? b=some o/\H b=none:=fun b o e =>
 ⟨I.base.keep b o (I.ok.bs b o e).1 (I.ok.bs b o e).2 (I.ok.nofr e) (I.ok.noex b o e),I.base.free b o (I.ok.bs b o e).1 (I.ok.bs b o e).2 (I.ok.noex b o e)⟩
theorem Inv.bk(I:Inv X pins σ H s):∀ b o,X.base.get? b=some o->s.heap.get? b=some o:=fun b o e=>(I.bs b o e).1
theorem Inv.mod(I:Inv X pins σ H s):Mod X.K X.mg X.base:=I.ok.mod
theorem Inv.kIn(I:Inv X pins σ H s):X.K.In s.heap:=I.ok.mod.kin.keeps I.bk
theorem Inv.lt(I:Inv X pins σ H s):X.env.locals<s.heap.objs.size:=let ⟨_,hn,_⟩:=I.loc;hn.lt
theorem Inv.sz(I:Inv X pins σ H s):X.s₀.heap.objs.size<=s.heap.objs.size:=Gs I.ok.above (Gw I.lt)
theorem Inv.nofs(I:Inv X pins σ H s){a:Addr}(h:s.heap.objs.size<=a):a∉X.fs:=fun hb=>by
 obtain⟨_,o,ho,_⟩:=I.ok.funs.mem hb
 exact absurd (F2 (Heap.lt_size ho) (Gs I.sz h)) (GA _)
theorem Inv.cne(I:Inv X pins σ H s):∀ x c,X.env.cells.lookup x=some c->c≠X.env.locals:=fun x c e z=>by
 obtain⟨v,o,ho,hd⟩:=I.cell x c e
 obtain⟨m,⟨o',es,ep,ho',hd',_⟩,_⟩:=I.loc
 rw[z,ho']at ho;cases ho;rw[hd']at hd;cases hd
theorem Inv.funs(I:Inv X pins σ H s):s.heap.FunFrames X.base X.outer:=by
 have all:∀(l:List Env),(∀ b∈frs l,b∈X.fs)->X.s₀.heap.FunFrames X.base l->s.heap.FunFrames X.base l:=by
  intro l
  induction l with
  |nil=>intro _ _;trivial
  |cons env r ih =>
   intro hs hl
   obtain⟨hk,⟨L,o,hf,hn,ho,hd⟩,hr⟩:=hl
   have hL:L∈X.fs:=hs L (by unfold frs;rw[HZ,hf];exact FP)
   obtain⟨sl,e⟩:=I.base.slot L o ho (I.ok.frf L hL) hL fun z=>I.ok.exfs L z hL
   exact⟨hk,⟨L,_,hf,hn,e,hd⟩,ih (fun b hb=>hs b (by unfold frs;rw[HZ,hf];exact FK _ hb)) hr⟩
 exact all X.outer (fun _ hb=>hb) I.ok.funs
theorem Inv.stack(I:Inv X pins σ H s):s.heap.FunFrames X.base X.stack:=by
 rcases I.ok.stk with e | ⟨e,hf⟩
 ·rw[e];exact I.funs
 ·rw[e]
  obtain⟨m,hn,_⟩:=I.loc
  refine .cons (by rw[I.ok.kind];decide) hf hn ?_ I.funs
  exact Heap.get?_none_of_le (Gs I.ok.bsz I.ok.above)
theorem Inv.stkSub(I:Inv X pins σ H s):∀ b∈frs X.stack,b∈X.env.locals::X.fs:=fun b hb=>by
 rcases I.ok.stk with e | ⟨e,hf⟩
 ·rw[e]at hb;exact FK _ hb
 ·rw[e]at hb
  unfold frs at hb
  rw[HZ,hf]at hb
  exact hb
theorem Inv.stkFree(I:Inv X pins σ H s):∀ b∈frs X.stack,H b=none:=fun b hb=>by
 rcases FC.mp (I.stkSub b hb)with e | hb
 ·rw[e];exact I.free
 ·obtain⟨_,o,ho,_⟩:=I.ok.funs.mem hb
  exact I.base.free b o ho (I.ok.frf b hb) fun z=>I.ok.exfs b z hb
theorem Inv.step{g':Array GenState}{t':Nat}{d':Drawn}{ch:List Addr}(I:Inv X pins σ H s)
  (hch:∀ b∈ch,(b∈X.ex∨X.s₀.heap.objs.size<=b)/\b≠X.env.locals/\(∀ x c,X.env.cells.lookup x=some c->c≠b)/\∀ p∈X.pn++pins,p.1≠b)
  (keep:∀ b o,b≠X.env.locals->b∉X.fs->b∉ch->s.heap.get? b=some o->H b=none->h'.get? b=some o)
  (slot:∀ b o,b≠X.env.locals->b∈X.fs->b∉ch->s.heap.get? b=some o->H b=none->∃ sl,h'.get? b=some { o with slots:=sl }) (free:∀ b o,b∉ch->s.heap.get? b=some o->H b=none->H' b=none)
  (there:∀ b o,b∉ch->s.heap.get? b=some o->∃ o',h'.get? b=some o')
  (tups:∀ b xs,H b=some (.tup xs)->H' b=some (.tup xs)) (frzs:∀ b o u,H b=some (.frz o u)->H' b=some (.frz o u)) (tbls:∀ b ps,H b=some (.tbl ps)->∃ more,H' b=some (.tbl (ps++more)))
  (ns:∀ m,s.heap.Ns X.env.locals m->h'.Ns X.env.locals m) (hok:HOk X.prog X.w H' h') (hg:AllBare g') :
  Inv X pins σ H' { s with heap:=h',gens:=g',drawn:=d',toks:=t' }:=by
 have neL:∀ b o,X.s₀.heap.get? b=some o->b≠X.env.locals:=fun b o e=>F4 (F2 (Heap.lt_size e) I.ok.above)
 have neC:∀ b o,X.s₀.heap.get? b=some o->b∉X.ex->b∉ch:=fun b o e hx hb=>by
  rcases(hch b hb).1 with z | z
  ·exact hx z
  ·exact absurd (F2 (Heap.lt_size e) z) (GA _)
 have cellK:∀ x c,X.env.cells.lookup x=some c->∀ v,s.heap.IsCell c v->h'.IsCell c v:=fun x c e v ⟨o,ho,hd⟩=>by
  have nch:c∉ch:=fun z=>(hch c z).2.2.1 x c e rfl
  by_cases hc:c∈X.fs
  ·obtain⟨sl,q⟩:=slot c o (I.cne x c e) hc nch ho (I.freeC x c e)
   exact⟨_,q,hd⟩
  ·exact⟨o,keep c o (I.cne x c e) hc nch ho (I.freeC x c e),hd⟩
 refine⟨I.ok,I.os,hg,⟨fun b o e n hb hx=>?_,fun b o e n hb hx=>?_,fun b o e n hx=>?_,fun b o e hx=>?_,fun b xs e=>tups b xs (I.base.tups b xs e),fun b o xs e=>frzs b o xs (I.base.frzs b o xs e),fun b ps e=>?_⟩,?_,fun x c e=>?_,?_,fun x c e=>?_,fun p hp=>?_,hok,I.len⟩
 ·exact keep b o (neL b o e) hb (neC b o e hx) (I.base.keep b o e n hb hx) (I.base.free b o e n hx)
 ·obtain⟨sl,e1⟩:=I.base.slot b o e n hb hx
  obtain⟨sl',e2⟩:=slot b _ (neL b o e) hb (neC b o e hx) e1 (I.base.free b o e n hx)
  exact⟨sl',e2⟩
 ·obtain⟨o',e1⟩:=I.base.there b o e hx
  exact free b o' (neC b o e hx) e1 (I.base.free b o e n hx)
 ·obtain⟨o',e1⟩:=I.base.there b o e hx
  exact there b o' (neC b o e hx) e1
 ·obtain⟨m1,e1⟩:=I.base.tbls b ps e
  obtain⟨m2,e2⟩:=tbls b _ e1
  exact⟨m1++m2,by rw[e2,Array.append_assoc]⟩
 ·obtain⟨m,hn,hl⟩:=I.loc
  refine⟨m,ns m hn,fun i x v e1 e2 e3=>?_⟩
  obtain⟨u,r,l⟩:=hl i x v e1 e2 e3
  refine⟨u,r,?_⟩
  rcases l with l | ⟨k,c,e,z⟩
  ·exact .inl l
  ·exact .inr ⟨k,c,e,cellK x c e _ z⟩
 ·obtain⟨v,z⟩:=I.cell x c e
  exact⟨v,cellK x c e v z⟩
 ·obtain⟨m,⟨o,_,_,ho,_⟩,_⟩:=I.loc
  exact free _ o (fun z=>(hch _ z).2.1 rfl) ho I.free
 ·obtain⟨v,o,ho,hd⟩:=I.cell x c e
  exact free c o (fun z=>(hch c z).2.2.1 x c e rfl) ho (I.freeC x c e)
 ·obtain⟨e,n,ne,nf,d⟩:=I.pin p hp
  have nch:p.1∉ch:=fun z=>(hch p.1 z).2.2.2 p hp rfl
  exact⟨keep p.1 p.2 ne nf nch e n,free p.1 p.2 nch e n,ne,nf,d⟩
theorem Inv.un{t':Nat}(I:Inv X pins σ H s)(u:Un X.fs [] H H' s.heap h')(hok:HOk X.prog X.w H' h'):Inv X pins σ H' { s with heap:=h',toks:=t' }:=by
 obtain⟨m,⟨o,es,ep,ho,r⟩,_⟩:=id I.loc
 obtain⟨sl,hL⟩:=u.any ho I.free (by simp)
 exact I.step (g':=s.gens) (d':=s.drawn) (ch:=[]) (fun _ z=>nomatch z) (fun b o _ hb _ e n=>u.keep b o e n hb (by simp)) (fun b o _ hb _ e n=>u.slot b o e n hb (by simp)) (fun b o _ e n=>u.free b o e n (by simp)) (fun b o _ e=>u.there b o e (by simp)) u.tups u.frzs u.tbls (fun m' hm=>by
  obtain⟨o',es',ep',ho',r'⟩:=hm
  rw[ho]at ho';cases ho'
  exact⟨_,es',ep',hL,r'⟩) hok I.bare
theorem Inv.call{g':Array GenState}{t':Nat}{d':Drawn}{ch:List Addr}(I:Inv X pins σ H s)(u:Un (frs X.stack) ch H H' s.heap h')(hok:HOk X.prog X.w H' h')(hg:AllBare g')
  (hch:∀ b∈ch,(b∈X.ex∨X.s₀.heap.objs.size<=b)/\b≠X.env.locals/\(∀ x c,X.env.cells.lookup x=some c->c≠b)/\∀ p∈X.pn++pins,p.1≠b) :
  Inv X pins σ H' { s with heap:=h',gens:=g',drawn:=d',toks:=t' }:=by
 obtain⟨m,⟨o,es,ep,ho,r⟩,_⟩:=id I.loc
 obtain⟨sl,hL⟩:=u.any ho I.free fun z=>(hch _ z).2.1 rfl
 exact I.step (ch:=ch) hch (fun b o hL hb hc e n=>u.keep b o e n (fun z=>(FC.mp (I.stkSub b z)).elim hL hb) hc) (fun b o _ _ hc e n=>u.any e n hc) (fun b o hc e n=>u.free b o e n hc) (fun b o hc e=>u.there b o e hc) u.tups u.frzs u.tbls (fun m' hm=>by
  obtain⟨o',es',ep',ho',r'⟩:=hm
  rw[ho]at ho';cases ho'
  exact⟨_,es',ep',hL,r'⟩) hok hg
theorem Inv.turned{t':Nat}{it:Addr}(I:Inv X pins σ H s)(k:∀ b o,b≠it->s.heap.get? b=some o->h'.get? b=some o)(hn:H it=none)(hL:it≠X.env.locals)
  (h1:it∈X.ex∨X.s₀.heap.objs.size<=it) (h2:∀ x c,X.env.cells.lookup x=some c->c≠it) (h3:∀ p∈X.pn++pins,p.1≠it):Inv X pins σ H { s with heap:=h',toks:=t' }:=by
 have nit:∀ b u,H b=some u->b≠it:=fun b u e z=>by rw[z,hn]at e;cases e
 refine I.step (g':=s.gens) (d':=s.drawn) (ch:=[it]) (fun b hb=>?_) (fun b o _ _ hc e _=>k b o (fun z=>hc (by simp[z])) e) (fun b o _ _ hc e _=>⟨o.slots,k b o (fun z=>hc (by simp[z])) e⟩) (fun _ _ _ _ n=>n)
  (fun b o hc e=>⟨o,k b o (fun z=>hc (by simp[z])) e⟩) (fun _ _ e=>e) (fun _ _ _ e=>e) (fun b ps e=>⟨#[],by rw[e];simp⟩) (fun m hm=>?_) (fun b u e=>?_) I.bare
 ·have e:b=it:=by simpa using hb
  subst e
  exact⟨h1,hL,h2,h3⟩
 ·obtain⟨o,es,ep,ho,r⟩:=hm
  exact⟨o,es,ep,k _ o (Ne.symm hL) ho,r⟩
 ·refine(I.hok b u e).stay (fun c v hc q=>k c v ?_ q) (fun _ q=>q) fun _ _ q=>q
  rcases hc with z | z
  ·rw[z];exact nit b u e
  ·exact nit c _ z
theorem Inv.tok(I:Inv X pins σ H s)(t:Nat):Inv X pins σ H { s with toks:=t }:=I.un (h':=s.heap) (t':=t) Un.refl I.hok
theorem Inv.kept{t':Nat}(I:Inv X pins σ H s)(k:∀ b u,s.heap.get? b=some u->h'.get? b=some u):Inv X pins σ H { s with heap:=h',toks:=t' }:=I.un (Un.kept k) (I.hok.kept k)
theorem Inv.laid{a:Addr}{o:HO}{t':Nat}(I:Inv X pins σ H s)(k:∀ b u,s.heap.get? b=some u->h'.get? b=some u)(hp:s.heap.objs.size<=a)(new:bA X.prog X.w (upd H a o) h' a o) :
  Inv X pins σ (upd H a o) { s with heap:=h',toks:=t' }:=I.un (Un.laid k hp (I.hok.fresh hp)) (I.hok.laid k hp new)
theorem Inv.write{x e:Addr}{o:HO}{t':Nat}(I:Inv X pins σ H s)(mu:Mut (H x))(he:e=x∨H e=some (.own x))(k:∀ b u,b≠e->s.heap.get? b=some u->h'.get? b=some u)(heo:∃ u,h'.get? e=some u)
  (new:bA X.prog X.w (upd H x o) h' x o):Inv X pins σ (upd H x o) { s with heap:=h',toks:=t' }:=I.un (Un.write mu he k heo) (I.hok.write mu he k heo new)
theorem Inv.weak{σ':List (Option V)}(I:Inv X pins σ H s)(hl:σ'.length=σ.length)(w:∀ (i:Nat) v,σ'[i]?=some (some v)->σ[i]?=some (some v)):Inv X pins σ' H s :=
 ⟨I.ok,I.os,I.bare,I.base,let ⟨m,hn,hl'⟩:=I.loc;⟨m,hn,fun i x v e1 e2 e3=>hl' i x v e1 (w i v e2) e3⟩,I.cell,I.free,I.freeC,I.pin,I.hok,hl.trans I.len⟩
theorem Inv.pins_of{pins':List (Addr×Obj)}(I:Inv X pins σ H s)(h:∀ p∈pins',s.heap.get? p.1=some p.2/\H p.1=none/\p.1≠X.env.locals/\p.1∉X.fs/\∀ v,p.2.data≠.cell v):Inv X pins' σ H s :=
 ⟨I.ok,I.os,I.bare,I.base,I.loc,I.cell,I.free,I.freeC,fun p hp=>(FG.mp hp).elim (fun z=>I.pin p (F3 _ z)) (h p),I.hok,I.len⟩
theorem qV{N:List Str}(hN:N.Nodup){i j:Nat}{x:Str}(a:N[i]?=some x)(b:N[j]?=some x):i=j:=by
 obtain⟨h1,e1⟩:=Fv.mp a
 obtain⟨h2,e2⟩:=Fv.mp b
 exact(List.getElem_inj hN).mp (e1.trans e2.symm)
theorem AM{M:Model}{A:Around}{E:Value->Shared->Prop}{i:Nat}{x:Str}{v:V}{u:Value}{Q:Unit->Shared->Prop}(I:Inv X pins σ H s)(hN:X.N.Nodup)(hi:X.N[i]?=some x)(hx:Loc X.env.scope x)(r:RelV v u)
  (h:∀ s',Inv X pins (σ.set i (some v)) H s'->(∃ a,Heap.SameBut a s.heap s'.heap/\(a=X.env.locals∨X.env.cells.lookup x=some a))->Q () s') (hf:X.fn x=true∨X.env.scope.names.lookup x=some .local:=by first | exact .inl rfl | exact .inr rfl | assumption):wpAny M A (storeName X.env x u) Q E s:=by
 obtain⟨m,hn,hl⟩:=id I.loc
 have hcls:(X.env.scope.kind == .class||(X.env.scope.kind == .module&&X.env.locals != X.env.globals))=false:=by rw[I.ok.kind];rfl
 have hiσ:i<σ.length:=by rw[I.len];exact(Fv.mp hi).1
 have cne:=I.cne
 have tracked:∀{a:Addr}{h':Heap},(∃ o,s.heap.get? a=some o/\H a=none)->Heap.SameBut a s.heap h'->HOk X.prog X.w H h':=fun{a h'} ha hs b ob e=>by
  obtain⟨_,_,hfree⟩:=ha
  refine(I.hok b ob e).stay (fun c w' hc q=>(hs.2 c ?_).trans q) (fun _ q=>q) fun _ _ q=>q
  rintro rfl
  rcases hc with rfl | hc
  ·rw[hfree]at e;cases e
  ·rw[hfree]at hc;cases hc
 rcases hx with hk | hk
 ·refine wpAny_storeName_local hk hn (fun h' hn' hs=>?_) hcls
  obtain⟨oL,_,_,hoL,_⟩:=id hn
  refine h _ ⟨I.ok,I.os,I.bare,⟨fun b o e n hb hx=>?_,fun b o e n hb hx=>?_,I.base.free,fun b o e hx=>?_,I.base.tups,I.base.frzs,I.base.tbls⟩,⟨_,hn',fun j y v' e1 e2 e3=>?_⟩,fun y c e=>?_,I.free,I.freeC,fun p hp=>?_,tracked ⟨oL,hoL,I.free⟩ hs,by simpa using I.len⟩ ⟨_,hs,.inl rfl⟩
  ·exact(hs.2 b (F4 (F2 (Heap.lt_size e) I.ok.above))).trans (I.base.keep b o e n hb hx)
  ·obtain⟨sl,e1⟩:=I.base.slot b o e n hb hx
   exact⟨sl,(hs.2 b (F4 (F2 (Heap.lt_size e) I.ok.above))).trans e1⟩
  ·obtain⟨o',e1⟩:=I.base.there b o e hx
   exact⟨o',(hs.2 b (F4 (F2 (Heap.lt_size e) I.ok.above))).trans e1⟩
  ·by_cases hj:j=i
   ·subst hj
    rw[hi]at e1;cases e1
    rw[List.getElem?_set_self hiσ]at e2
    cases e2
    exact⟨u,r,.inl ⟨hk,by simp⟩⟩
   ·rw[HR (Ne.symm hj)]at e2
    obtain⟨u',r',q⟩:=hl j y v' e1 e2 e3
    refine⟨u',r',?_⟩
    rcases q with⟨k,e⟩ | ⟨k,c,e,z⟩
    ·refine .inl ⟨k,?_⟩
     have:y≠x:=fun e=>hj (qV hN e1 (e▸hi))
     simp[this,e]
    ·exact .inr ⟨k,c,e,z.sameBut hs (cne y c e)⟩
  ·obtain⟨w',z⟩:=I.cell y c e
   exact⟨w',z.sameBut hs (cne y c e)⟩
  ·obtain⟨e,n,ne,nf,d⟩:=I.pin p hp
   exact⟨(hs.2 p.1 ne).trans e,n,ne,nf,d⟩
 ·have hfn:X.fn x=true:=by
   rcases hf with z | z
   ·exact z
   ·rw[z]at hk;cases hk
  obtain⟨c,hc⟩:=I.ok.has x (.inl hk)
  obtain⟨w',z⟩:=I.cell x c hc
  refine wpAny_storeName_cell I.ok.kind hk hc z (fun h' hc' hs=>?_)
  obtain⟨oc,hoc,hocd⟩:=id z
  refine h { s with heap:=h' } ⟨I.ok,I.os,I.bare,⟨fun b o e n hb hx=>?_,fun b o e n hb hx=>?_,I.base.free,fun b o e hx=>?_,I.base.tups,I.base.frzs,I.base.tbls⟩,⟨m,hn.sameBut hs (Ne.symm (cne x c hc)),fun j y v' e1 e2 e3=>?_⟩,fun y c' e=>?_,I.free,I.freeC,fun p hp=>?_,tracked ⟨oc,hoc,I.freeC x c hc⟩ hs,by simpa using I.len⟩ ⟨c,hs,.inr hc⟩
  ·exact(hs.2 b (F4 (F2 (Heap.lt_size e) (I.ok.cab x c hfn hc)))).trans (I.base.keep b o e n hb hx)
  ·obtain⟨sl,e1⟩:=I.base.slot b o e n hb hx
   exact⟨sl,(hs.2 b (F4 (F2 (Heap.lt_size e) (I.ok.cab x c hfn hc)))).trans e1⟩
  ·obtain⟨o',e1⟩:=I.base.there b o e hx
   exact⟨o',(hs.2 b (F4 (F2 (Heap.lt_size e) (I.ok.cab x c hfn hc)))).trans e1⟩
  ·by_cases hj:j=i
   ·subst hj
    rw[hi]at e1;cases e1
    rw[List.getElem?_set_self hiσ]at e2
    cases e2
    exact⟨u,r,.inr ⟨.inl hk,c,hc,hc'⟩⟩
   ·rw[HR (Ne.symm hj)]at e2
    obtain⟨u',r',q⟩:=hl j y v' e1 e2 e3
    refine⟨u',r',?_⟩
    rcases q with q | ⟨k,c',e,z'⟩
    ·exact .inl q
    ·refine .inr ⟨k,c',e,z'.sameBut hs ?_⟩
     rintro rfl
     exact hj (qV hN e1 (I.ok.inj _ _ _ e hc▸hi))
  ·by_cases hcc:c'=c
   ·subst hcc;exact⟨_,hc'⟩
   ·obtain⟨w2,z2⟩:=I.cell y c' e
    exact⟨w2,z2.sameBut hs hcc⟩
  ·obtain⟨e,n,ne,nf,d⟩:=I.pin p hp
   refine⟨(hs.2 p.1 ?_).trans e,n,ne,nf,d⟩
   intro q
   rw[q,hoc]at e
   have q':oc=p.2:=FW e
   exact d w' (by rw[← q'];exact hocd)
theorem my{M:Model}{A:Around}{E:Value->Shared->Prop}{i:Nat}{x:Str}{v:V}{u:Value}{Q:Unit->Shared->Prop}(I:Inv X pins σ H s)(hN:X.N.Nodup)(hi:X.N[i]?=some x)(hx:Loc X.env.scope x)(r:RelV v u)
  (h:∀ s',Inv X pins (σ.set i (some v)) H s'->Q () s') (hf:X.fn x=true∨X.env.scope.names.lookup x=some .local:=by first | exact .inl rfl | exact .inr rfl | assumption):wpAny M A (storeName X.env x u) Q E s :=
 AM I hN hi hx r (fun s' I' _=>h s' I') hf
theorem Inv.call'{s':Shared}{ch:List Addr}(I:Inv X pins σ H s)(ho:s'.os=s.os)(u:Un (frs X.stack) ch H H' s.heap s'.heap)(hok:HOk X.prog X.w H' s'.heap)(hg:AllBare s'.gens)
  (hch:∀ b∈ch,(b∈X.ex∨X.s₀.heap.objs.size<=b)/\b≠X.env.locals/\(∀ x c,X.env.cells.lookup x=some c->c≠b)/\∀ p∈X.pn++pins,p.1≠b):Inv X pins σ H' s':=by
 obtain⟨h',g',d',t',o'⟩:=s'
 have e:o'=s.os:=ho
 subst e
 exact I.call (g':=g') (t':=t') (d':=d') u hok hg hch
end
abbrev XK:=Value->Option Addr->Hp->Prop
abbrev St:=List (Option V)
abbrev VK:=V->Hp->Prop
abbrev TE:=St->Hp->VK->Prop
abbrev TT:=St->Hp->(Bool->Hp->Prop)->Prop
abbrev TA:=St->Hp->(List V->Hp->Prop)->Prop
structure Ends where
 nx:St->Hp->Prop
 rt:VK
 bk:St->Hp->Prop:=fun _ _=>False
 ct:St->Hp->Prop:=fun _ _=>False
abbrev TS:=Ends->St->Hp->Prop
def EP(X:Cx)(pins:List (Addr×Obj))(σ:St)(Q:VK)(u:Value)(s':Shared):Prop:=∃ v H',Inv X pins σ H' s'/\RelV v u/\Q v H'
def TP(X:Cx)(pins:List (Addr×Obj))(σ:St)(Q:Bool->Hp->Prop)(b:Bool)(s':Shared):Prop:=∃ H',Inv X pins σ H' s'/\Q b H'
def AP(X:Cx)(pins:List (Addr×Obj))(σ:St)(Q:List V->Hp->Prop)(us:List Value)(s':Shared):Prop:=∃ vs H',Inv X pins σ H' s'/\Vals vs us/\Q vs H'
def SP(X:Cx)(pins:List (Addr×Obj))(D:Ends)(f:Flow)(s':Shared):Prop :=
 match f with
 |.next=>∃ σ' H',Inv X pins σ' H' s'/\D.nx σ' H'
 |.brk=>∃ σ' H',Inv X pins σ' H' s'/\D.bk σ' H'
 |.cont=>∃ σ' H',Inv X pins σ' H' s'/\D.ct σ' H'
 |.ret u=>∃ v σ' H',Inv X pins σ' H' s'/\RelV v u/\D.rt v H'
def PE(X:Cx)(e:Expr)(t:TE):Prop :=
 ∀(pins:List (Addr×Obj))(s:Shared)(σ:St)(H:Hp)(Q:VK),Inv X pins σ H s->t σ H Q->wpAny (model X.prog X.w) X.A (eval e X.env) (EP X pins σ Q) X.xe s
def PT(X:Cx)(e:Expr)(t:TT):Prop :=
 ∀(pins:List (Addr×Obj))(s:Shared)(σ:St)(H:Hp)(Q:Bool->Hp->Prop),Inv X pins σ H s->t σ H Q->wpAny (model X.prog X.w) X.A (isTrue e X.env (eval e X.env)) (TP X pins σ Q) X.xe s
def PW(X:Cx)(e:Expr)(t:TT):Prop :=
 ∀(whole:Sem Value)(pins:List (Addr×Obj))(s:Shared)(σ:St)(H:Hp)(Q:Bool->Hp->Prop),Inv X pins σ H s->t σ H Q->wpAny (model X.prog X.w) X.A (isTrue e X.env whole) (TP X pins σ Q) X.xe s
theorem PW.pt{X:Cx}{e:Expr}{t:TT}(h:PW X e t):PT X e t:=h _
def PA(X:Cx)(es:List Expr)(t:TA):Prop :=
 ∀(pos:Pos)(pins:List (Addr×Obj))(s:Shared)(σ:St)(H:Hp)(Q:List V->Hp->Prop),Inv X pins σ H s->t σ H Q->wpAny (model X.prog X.w) X.A (spliced (backTo pos (starEach es X.env))) (AP X pins σ Q) X.xe s
def PS(X:Cx)(st:Stmt)(t:TS):Prop :=
 ∀(pins:List (Addr×Obj))(s:Shared)(σ:St)(H:Hp)(D:Ends),Inv X pins σ H s->t D σ H->wpAny (model X.prog X.w) X.A (exec st X.env) (SP X pins D) X.xe s
def PSs(X:Cx)(st:List Stmt)(t:TS):Prop :=
 ∀(pins:List (Addr×Obj))(s:Shared)(σ:St)(H:Hp)(D:Ends),Inv X pins σ H s->t D σ H->wpAny (model X.prog X.w) X.A (execs st X.env) (SP X pins D) X.xe s
theorem thn{α:Type}{t:Sem α}{Q Q':α->Shared->Prop}{M:Model}{A:Around}{E:Value->Shared->Prop}{s:Shared}(h:wpAny M A t Q E s)(hQ:∀ a s,Q a s->Q' a s):wpAny M A t Q' E s:=wpAny_mono h hQ fun _ _ x=>x
end L2
namespace L2
open PySem PySem.Spec PyProof.Rows
section
variable{X:Cx}
def tVar(i:Nat):TE:=fun σ H Q=>∃ v,σ[i]?=some (some v)/\Q v H
def tC(v:V):TE:=fun _ H Q=>Q v H
theorem pe_var{i:Nat}{x:Str}{pos:Pos}(hN:X.N[i]?=some x)(hv:Vis X.env.scope x) (hd:(x == ("__debug__" : Str))=false:=by decide) (hcd:(x == ("__classdict__" : Str))=false:=by decide):PE X (.Name x pos) (tVar i):=by
 intro pins s σ H Q I h
 obtain⟨v,e,h⟩:=h
 obtain⟨m,hn,hl⟩:=I.loc
 obtain⟨u,r,l⟩:=hl i x v hN e hv
 have fin:EP X pins σ Q u s:=⟨v,H,I,r,h⟩
 rcases l with⟨hk,hm⟩ | ⟨hk,c,hc,hcell⟩
 ·exact wpAny_Name (wpAny_loadName_local I.ok.kind hk hn hm fin) hd
 ·rcases hk with hk | hk
  ·exact wpAny_Name (wpAny_loadName_cell I.ok.kind hk hc hcell fin) hd
  ·exact wpAny_Name (wpAny_loadName_free I.ok.kind hk hc hcell fin hcd) hd
theorem ag{i j pos}:PE X (.Constant (.int i) j pos) (tC (.int i)):=fun _ _ _ H _ I h=>wpAny_Constant_int ⟨.int i,H,I.tok _,⟨_,rfl⟩,h⟩
theorem C6{b j pos}:PE X (.Constant (.bool b) j pos) (tC (.bl b)):=fun _ _ _ H _ I h=>Constant_bool ⟨.bl b,H,I,rfl,h⟩
theorem DU{j pos}:PE X (.Constant .none j pos) (tC .non):=fun _ _ _ H _ I h=>Constant_none ⟨.non,H,I,rfl,h⟩
def Gl(X:Cx)(x:Str):Prop:=X.env.kindOf x=some .globalImplicit
theorem ko{E:Value->Shared->Prop}{pins:List (Addr×Obj)}{s:Shared}{σ:St}{H:Hp}{x:Str}{u:Value}{pos:Pos}{Q:Value->Shared->Prop}(I:Inv X pins σ H s)(hg:Gl X x)(hm:X.mg x=some u)(h:Q u s)
  (hd:(x == ("__debug__" : Str))=false:=by decide):wpAny (model X.prog X.w) X.A (eval (.Name x pos) X.env) Q E s :=
 Calls.Name_function_global I.ok.kind hg (Calls.loadGlobal_global (by rw[I.ok.glob];exact I.mod.glob.keeps I.bk) hm h) hd
theorem pj{E:Value->Shared->Prop}{pins:List (Addr×Obj)}{s:Shared}{σ:St}{H:Hp}{x:Str}{u:Value}{pos:Pos}{Q:Value->Shared->Prop}(I:Inv X pins σ H s)(hg:Gl X x)(hm:X.mg x=none)(hv:bootBuiltins x=some u)(h:Q u s)
  (hn:x≠"__name__":=by decide) (hd:(x == ("__debug__" : Str))=false:=by decide):wpAny (model X.prog X.w) X.A (eval (.Name x pos) X.env) Q E s:=by
 obtain⟨mb,h1,h2⟩:=I.mod.blt
 exact Calls.Name_function_global I.ok.kind hg (Calls.loadGlobal_builtin (by rw[I.ok.glob];exact I.mod.glob.keeps I.bk) hm (by rw[I.ok.blt];exact h1.keeps I.bk) ((h2 x hn).trans hv) h) hd
theorem EH{x:Str}{v:V}{u:Value}{pos:Pos}(hg:Gl X x)(hm:X.mg x=some u)(r:RelV v u) (hd:(x == ("__debug__" : Str))=false:=by decide):PE X (.Name x pos) (tC v) :=
 fun _ _ _ H _ I h=>ko I hg hm ⟨v,H,I,r,h⟩ hd
theorem wA{x:Str}{v:V}{u:Value}{pos:Pos}(hg:Gl X x)(hm:X.mg x=none)(hv:bootBuiltins x=some u)(r:RelV v u) (hn:x≠"__name__":=by decide) (hd:(x == ("__debug__" : Str))=false:=by decide):PE X (.Name x pos) (tC v) :=
 fun _ _ _ H _ I h=>pj I hg hm hv ⟨v,H,I,r,h⟩ hn hd
variable{a b:Expr}{ta tb:TE}{pos:Pos}
def PC(X:Cx)(op:CmpOp)(a b:Expr)(t:TE):Prop :=
 ∀(pins:List (Addr×Obj))(s:Shared)(σ:St)(H:Hp)(Q:VK),Inv X pins σ H s->t σ H Q ->
  wpAny (model X.prog X.w) X.A (eval a X.env) (fun v s₁=>wpAny (model X.prog X.w) X.A (eval b X.env) (fun u s₂=>wpAny (model X.prog X.w) X.A (compareOp op v u) (EP X pins σ Q) X.xe s₂) X.xe s₁) X.xe s
def tB(t:TE):TT:=fun σ H Q=>t σ H fun x H1=>∃ c,x=.bl c/\Q c H1
theorem DQ{op:CmpOp}{t:TE}(h:PC X op a b t)(h1:behindInMarks op b=false:=by first | exact nobehind _ (by decide) (by decide) | rfl):PT X (.Compare a [op] [b] pos) (tB t):=by
 intro pins s σ H Q I hw
 refine wpAny_isTrue_Compare1 (thn (h pins s σ H _ I hw) fun v s1 h1=>thn h1 fun u s2 h2=>thn h2 fun c s3 ⟨x,H1,I1,r1,q1⟩=>?_) h1
 obtain⟨d,rfl,q⟩:=q1
 cases r1
 exact wpAny_truthy_bool ⟨H1,I1,q⟩
theorem DP{e:Expr}{t:TE}(h:PE X e t)(he:∀ whole,isTrue e X.env whole=(do let v ← whole;standAt e.pos;holding [v] (truthy v)):=by intro _;rfl):PT X e (tB t):=by
 intro pins s σ H Q I hw
 refine isTrue_plain (thn (h pins s σ H _ I hw) fun v s1 ⟨x,H1,I1,r1,q1⟩=>?_) (he _)
 obtain⟨d,rfl,q⟩:=q1
 cases r1
 exact wpAny_truthy_bool ⟨H1,I1,q⟩
variable{tA tB':TT}{rest:List Expr}
def tOr(t u:TT):TT:=fun σ H Q=>t σ H fun c H1=>if c=true then Q true H1 else u σ H1 Q
def tNot(t:TT):TT:=fun σ H Q=>t σ H fun c H1=>Q (!c) H1
theorem sU(ha:PT X a tA):PW X (.BoolOp .Or [a] pos) tA:=by
 intro wh pins s σ H Q I h
 refine isTrue_or (thn (ha pins s σ H Q I h) fun c s1 e=>?_)
 cases c with
 |false=>exact isTrue_or_nil e
 |true=>exact e
theorem vX(ha:PT X a tA)(hb:PW X (.BoolOp .Or (b::rest) pos) tB'):PW X (.BoolOp .Or (a::b::rest) pos) (tOr tA tB'):=by
 intro wh pins s σ H Q I h
 refine isTrue_or (thn (ha pins s σ H _ I h) fun c s1 ⟨H1,I1,q1⟩=>?_)
 cases c with
 |true=>exact⟨H1,I1,q1⟩
 |false=>exact hb wh pins s1 σ H1 Q I1 q1
theorem pt_not(ha:PT X a tA):PT X (.UnaryOp .Not a pos) (tNot tA):=by
 intro pins s σ H Q I h
 exact isTrue_not (ha pins s σ H (fun c H1=>Q (!c) H1) I h)
def tAndV(ta tb:TE):TE:=fun σ H Q=>ta σ H fun x H1=>∃ c,x=.bl c/\if c=true then tb σ H1 Q else Q (.bl false) H1
def tNotV(ta:TE):TE:=fun σ H Q=>ta σ H fun x H1=>∃ c,x=.bl c/\Q (.bl (!c)) H1
theorem yF{op}{t:TE}(h:PE X a t):PE X (.BoolOp op [a] pos) t:=fun pins s σ H Q I hw=>BoolOp_one (h pins s σ H Q I hw)
theorem tE(ha:PE X a ta)(hb:PE X (.BoolOp .And (b::rest) pos) tb):PE X (.BoolOp .And (a::b::rest) pos) (tAndV ta tb):=by
 intro pins s σ H Q I h
 refine BoolOp_and (thn (ha pins s σ H _ I h) fun v s1 ⟨x,H1,I1,r1,q1⟩=>?_)
 obtain⟨c,rfl,q1⟩:=q1
 cases r1
 refine wpAny_truthy_bool ?_
 cases c with
 |true=>exact hb pins s1 σ H1 Q I1 q1
 |false=>exact⟨.bl false,H1,I1,rfl,q1⟩
theorem pe_not(ha:PE X a ta):PE X (.UnaryOp .Not a pos) (tNotV ta):=by
 intro pins s σ H Q I h
 refine UnaryOp_ (thn (ha pins s σ H _ I h) fun v s1 ⟨x,H1,I1,r1,q1⟩=>?_)
 obtain⟨c,rfl,q1⟩:=q1
 cases r1
 exact not_of (wpAny_truthy_bool ⟨.bl (!c),H1,I1,rfl,q1⟩)
def tIf(t:TT)(ta tb:TE):TE:=fun σ H Q=>t σ H fun c H1=>if c=true then ta σ H1 Q else tb σ H1 Q
theorem qD{c:Expr}(hc:PT X c tA)(ha:PE X a ta)(hb:PE X b tb):PE X (.IfExp c a b pos) (tIf tA ta tb):=by
 intro pins s σ H Q I h
 refine wpAny_IfExp (thn (hc pins s σ H _ I h) fun d s1 ⟨H1,I1,q1⟩=>?_)
 cases d with
 |true=>exact ha pins s1 σ H1 Q I1 q1
 |false=>exact hb pins s1 σ H1 Q I1 q1
end
end L2
namespace L2
open PySem PySem.Spec PyProof.Rows
def SqL(K:Fw)(H:Hp)(a:Addr)(xs:List V):Prop :=
 Rd H a (.lst xs) ∨
  ∃(o:Obj)(its:Array Value)(n:Nat),K.lookup a=some o/\o.cls=.type "list"/\o.dict=none/\o.data=.seq its n/\its.size<=sizeLine/\Vals xs its.toList
def SqT(K:Fw)(H:Hp)(a:Addr)(xs:List V):Prop :=
 Rd H a (.tup xs) ∨
  ∃(o:Obj)(its:Array Value)(n:Nat),K.lookup a=some o/\o.cls=.type "tuple"/\o.data=.seq its n/\its.size<=sizeLine/\Vals xs its.toList
def absV:Value->Option V
 |.none=>some .non
 |.bool b=>some (.bl b)
 |.int i _=>some (.int i)
 |.str x _=>some (.str x)
 |.bytes b _=>some (.byt b)
 |.float b _=>some (.flt b)
 |.ref a=>some (.ref a)
 |.type n=>some (.ty n)
 |_=>none
theorem RelV.abs{x:V}{u:Value}(r:RelV x u):absV u=some x:=by
 cases x with
 |non=>cases r;rfl
 |bl _=>cases r;rfl
 |int _=>obtain⟨t,rfl⟩:=r;rfl
 |str _=>obtain⟨t,rfl⟩:=r;rfl
 |byt _=>obtain⟨t,rfl⟩:=r;rfl
 |flt _=>obtain⟨t,rfl⟩:=r;rfl
 |ref _=>cases r;rfl
 |ty _=>cases r;rfl
theorem RelV.inj{x y:V}{u:Value}(r:RelV x u)(q:RelV y u):x=y:=FW (r.abs.symm.trans q.abs)
theorem Vals.inj:∀{xs ys:List V}{us:List Value},Vals xs us->Vals ys us->xs=ys
 |_,_,_,.nil,.nil=>rfl
 |_,_,_,.cons r t,.cons r' t'=>by rw[r.inj r',Vals.inj t t']
section
variable{X:Cx}{pins:List (Addr×Obj)}{σ:St}{H:Hp}{s:Shared}{a:Addr}{xs ys:List V}
theorem SqL.of{K:Fw}(h:H a=some (.lst xs)):SqL K H a xs:=.inl (.inl h)
theorem SqT.of{K:Fw}(h:H a=some (.tup xs)):SqT K H a xs:=.inl (.inl h)
theorem Inv.list(I:Inv X pins σ H s)(h:SqL X.K H a xs):∃ its:List Value,Vals xs its/\PlainL s.heap a its.toArray/\xs.length<=sizeLine:=by
 rcases h with h | ⟨o,its,n,hk,hc,hd,hs,hz,r⟩
 ·obtain⟨z,its,n,r,e⟩:=h.ok I.hok
  exact⟨its,r,⟨_,n,e,rfl,rfl,rfl⟩,z⟩
 ·refine⟨its.toList,r,⟨o,n,I.kIn a o hk,hc,hd,by simpa using hs⟩,?_⟩
  have e:=r.length
  simp only[Hv]at e
  omega
theorem Inv.tuple(I:Inv X pins σ H s)(h:SqT X.K H a xs):∃ its:List Value,Vals xs its/\IsTup s.heap a its.toArray/\xs.length<=sizeLine:=by
 rcases h with h | ⟨o,its,n,hk,hc,hs,hz,r⟩
 ·obtain⟨z,its,r,p⟩:=h.ok I.hok
  exact⟨its,r,p,z⟩
 ·refine⟨its.toList,r,⟨o,I.kIn a o hk,hc,n,by simpa using hs⟩,?_⟩
  have e:=r.length
  simp only[Hv]at e
  omega
theorem Inv.list_inj(I:Inv X pins σ H s)(h:SqL X.K H a xs)(h':SqL X.K H a ys):xs=ys:=by
 obtain⟨its,r,⟨o,n,e,_,_,d⟩,_⟩:=I.list h
 obtain⟨its',r',⟨o',n',e',_,_,d'⟩,_⟩:=I.list h'
 rw[e]at e';cases e'
 rw[d]at d'
 injection d' with d1 _
 have:its=its':=by simpa using congrArg Array.toList d1
 subst this
 exact r.inj r'
end
abbrev Cx.wish(X:Cx)(E:Value->Shared->Prop):Cx:={ X with xe:=E }
abbrev Cx.nox(X:Cx):Cx:=X.wish fun _ _=>False
theorem Cx.Ok.wish{X:Cx}(ok:X.Ok)(E:Value->Shared->Prop):(X.wish E).Ok :=
 ⟨ok.mod,ok.kind,ok.glob,ok.blt,ok.above,ok.inj,ok.has,ok.cab,ok.hd,ok.frames,ok.stk,ok.exf,ok.bs,ok.bsz,ok.noex,ok.exfs,ok.funs,ok.frf⟩
theorem Cx.Ok.unwish{X:Cx}{E:Value->Shared->Prop}(ok:(X.wish E).Ok):X.Ok :=
 ⟨ok.mod,ok.kind,ok.glob,ok.blt,ok.above,ok.inj,ok.has,ok.cab,ok.hd,ok.frames,ok.stk,ok.exf,ok.bs,ok.bsz,ok.noex,ok.exfs,ok.funs,ok.frf⟩
section
variable{X:Cx}{pins:List (Addr×Obj)}{σ:St}{H:Hp}{s:Shared}{E:Value->Shared->Prop}
theorem Inv.wish(I:Inv X pins σ H s)(E:Value->Shared->Prop):Inv (X.wish E) pins σ H s:=⟨I.ok.wish E,I.os,I.bare,I.base,I.loc,I.cell,I.free,I.freeC,I.pin,I.hok,I.len⟩
theorem Inv.unwish(I:Inv (X.wish E) pins σ H s):Inv X pins σ H s:=⟨I.ok.unwish,I.os,I.bare,I.base,I.loc,I.cell,I.free,I.freeC,I.pin,I.hok,I.len⟩
theorem SP.unwish{D:Ends}{f:Flow}{s':Shared}(h:SP (X.wish E) pins D f s'):SP X pins D f s':=by
 cases f with
 |next=>obtain⟨σ',H',I,q⟩:=h;exact⟨σ',H',I.unwish,q⟩
 |brk=>obtain⟨σ',H',I,q⟩:=h;exact⟨σ',H',I.unwish,q⟩
 |cont=>obtain⟨σ',H',I,q⟩:=h;exact⟨σ',H',I.unwish,q⟩
 |ret u=>obtain⟨v,σ',H',I,r,q⟩:=h;exact⟨v,σ',H',I.unwish,r,q⟩
theorem PSs.nox{st:List Stmt}{t:TS}(h:PSs X.nox st t):PSs X st t:=fun pins s σ H D I hw =>
 wpAny_mono (h pins s σ H D (I.wish _) hw) (fun _ _ q=>q.unwish) fun _ _ z=>False.elim z
end
section
variable{X:Cx}{st:Stmt}{rest:List Stmt}{t u:TS}{e:Expr}{te:TE}{pos:Pos}
def tNext:TS:=fun D σ H=>D.nx σ H
def tSeq(t u:TS):TS:=fun D σ H=>t { D with nx:=u D } σ H
theorem bo:PSs X [] tNext:=fun _ _ σ H _ I h=>wpAny_execs_nil ⟨σ,H,I,h⟩
theorem ae(h1:PS X st t)(h2:PSs X rest u):PSs X (st::rest) (tSeq t u):=by
 intro pins s σ H D I h
 refine wpAny_execs_cons (thn (h1 pins s σ H { D with nx:=u D } I h) fun f s1 q=>?_)
 cases f with
 |next =>
  obtain⟨σ',H',I',q⟩:=q
  exact h2 pins s1 σ' H' D I' q
 |ret v=>exact q
 |brk=>exact q
 |cont=>exact q
theorem aj(h1:PS X st t):PSs X [st] t:=by
 intro pins s σ H D I h
 refine wpAny_execs_cons (thn (h1 pins s σ H D I h) fun f s1 q=>?_)
 cases f with
 |next=>exact wpAny_execs_nil q
 |ret v=>exact q
 |brk=>exact q
 |cont=>exact q
theorem Inv.quiet{pins:List (Addr×Obj)}{σ:St}{H:Hp}{s:Shared}(I:Inv X pins σ H s):interactive X.env=false:=by simp[interactive,I.ok.kind]
def tDrop(te:TE):TS:=fun D σ H=>te σ H fun _ H1=>D.nx σ H1
theorem bc(he:PE X e te)(hs:swapsWith e none pos.line X.env=pure false:=by rfl):PS X (.Expr e pos) (tDrop te):=by
 intro pins s σ H D I h
 exact wpAny_Expr_any (thn (he pins s σ H _ I h) fun v s1 ⟨x,H1,I1,r1,q1⟩=>⟨σ,H1,I1,q1⟩) I.quiet hs
def tRet(te:TE):TS:=fun D σ H=>te σ H D.rt
theorem aR(he:PE X e te):PS X (.Return (some e) pos) (tRet te):=by
 intro pins s σ H D I h
 exact wpAny_Return_some (thn (he pins s σ H _ I h) fun v s1 ⟨x,H1,I1,r1,q1⟩=>⟨x,σ,H1,I1,r1,q1⟩)
def tIfS(c:TT)(t u:TS):TS:=fun D σ H=>c σ H fun b H1=>if b=true then t D σ H1 else u D σ H1
theorem dz{c:Expr}{a b:List Stmt}{tc:TT}(hc:PT X c tc)(ha:PSs X a t)(hb:PSs X b u):PS X (.If c a b pos) (tIfS tc t u):=by
 intro pins s σ H D I h
 refine wpAny_If (thn (hc pins s σ H _ I h) fun d s1 ⟨H1,I1,q1⟩=>?_)
 cases d with
 |true=>exact ha pins s1 σ H1 D I1 q1
 |false=>exact hb pins s1 σ H1 D I1 q1
def tNever:TS:=fun _ _ _=>False
theorem fJ:PS X st tNever:=fun _ _ _ _ _ _ h=>h.elim
end
abbrev TG:=V->St->Hp->(St->Hp->Prop)->Prop
abbrev TGs:=List V->St->Hp->(St->Hp->Prop)->Prop
def PG(X:Cx)(target:Expr)(t:TG):Prop :=
 ∀(pins:List (Addr×Obj))(s:Shared)(σ:St)(H:Hp)(v:V)(u:Value)(Q:St->Hp->Prop),Inv X pins σ H s->RelV v u->t v σ H Q ->
  wpAny (model X.prog X.w) X.A (assign target X.env u) (fun _ s'=>∃ σ' H',Inv X pins σ' H' s'/\Q σ' H') X.xe s
def PGs(X:Cx)(ts:List Expr)(t:TGs):Prop :=
 ∀(pins:List (Addr×Obj))(s:Shared)(σ:St)(H:Hp)(vs:List V)(us:List Value)(Q:St->Hp->Prop),Inv X pins σ H s->Vals vs us->t vs σ H Q ->
  wpAny (model X.prog X.w) X.A (assignInOrder ((assignEach ts X.env).map (·.2)) us) (fun _ s'=>∃ σ' H',Inv X pins σ' H' s'/\Q σ' H') X.xe s
abbrev TSet:=V->V->V->Hp->(Hp->Prop)->Prop
def PSet(X:Cx)(t:TSet):Prop :=
 ∀(pins:List (Addr×Obj))(s:Shared)(σ:St)(H:Hp)(o i v:V)(ov iv u:Value)(Q:Hp->Prop),Inv X pins σ H s->RelV o ov->RelV i iv->RelV v u->t o i v H Q ->
  wpAny (model X.prog X.w) X.A (setItem ov iv u) (fun _ s'=>∃ H',Inv X pins σ H' s'/\Q H') X.xe s
section
variable{X:Cx}{pos:Pos}
def gName(i:Nat):TG:=fun v σ H Q=>Q (σ.set i (some v)) H
theorem aQ{i:Nat}{x:Str}(hN:X.N.Nodup)(hi:X.N[i]?=some x)(hx:Loc X.env.scope x)(hf:X.fn x=true∨X.env.scope.names.lookup x=some .local:=by first | exact .inl rfl | exact .inr rfl | assumption):PG X (.Name x pos) (gName i):=by
 intro pins s σ H v u Q I r h
 exact wpAny_assign_Name (my I hN hi hx r (fun s' I'=>⟨_,H,I',h⟩) hf)
def gNil:TGs:=fun vs σ H Q=>vs = []/\Q σ H
def gCons(t:TG)(u:TGs):TGs:=fun vs σ H Q=>∃ v r,vs=v::r/\t v σ H fun σ' H'=>u r σ' H' Q
theorem qC:PGs X [] gNil:=by
 intro pins s σ H vs us Q I r h
 obtain⟨e,h⟩:=h
 subst e
 cases r
 exact assignInOrder_nil ⟨σ,H,I,h⟩
theorem d7{e:Expr}{es:List Expr}{t:TG}{u:TGs}(h1:PG X e t)(h2:PGs X es u)
  (hs:(assignEach (e::es) X.env).map (·.2)=assign e X.env::(assignEach es X.env).map (·.2):=by rfl):PGs X (e::es) (gCons t u):=by
 intro pins s σ H vs us Q I r h
 obtain⟨v,vr,e1,h⟩:=h
 subst e1
 cases r with
 |cons r rr =>
  rw[hs]
  refine assignInOrder_cons (thn (h1 pins s σ H _ _ _ I r h) fun _ s1 ⟨σ1,H1,I1,q1⟩=>?_)
  exact h2 pins s1 σ1 H1 _ _ Q I1 rr q1
def gTup(K:Fw)(n:Nat)(t:TGs):TG:=fun v σ H Q=>∃ a xs,v=.ref a/\SqT K H a xs/\xs.length=n/\t xs σ H Q
theorem yD{es:List Expr}{k:Nat}{t:TGs}{n:Nat}(hc:X.calm=true)(h:PGs X es t)
  (hn:(assignEach es X.env).length=n:=by rfl) (hst:(assignEach es X.env).findIdx? (·.1)=none:=by rfl):PG X (.Tuple es k pos) (gTup X.K n t):=by
 intro pins s σ H v u Q I r hw
 obtain⟨a,xs,e1,hq,hl,hw⟩:=hw
 subst e1
 cases r
 obtain⟨its,rv,ht,hz⟩:=I.tuple hq
 refine assign_Tuple_tuple (I.ok.hd hc) ht (by simp[hn,← hl,rv.length]) hst fun h' hx=>?_
 have I1:Inv X pins σ H { s with heap:=h' }:=I.kept (t':=s.toks) fun b o e=>hx b o (F4 (Heap.lt_size e)) e
 exact h pins _ σ H xs _ Q I1 (by simpa using rv) hw
def gSub(to ti:TE)(t:TSet):TG:=fun v σ H Q=>to σ H fun o H1=>ti σ H1 fun i H2=>t o i v H2 fun H3=>Q σ H3
theorem DT{o i:Expr}{to ti:TE}{t:TSet}(ho:PE X o to)(hi:PE X i ti)(hs:PSet X t)
  (ha:∀ v,assign (.Subscript o i pos) X.env v=(do
   let ov ← holding [v] (eval o X.env)
   let iv ← holding [v,ov] (eval i X.env)
   standAt pos
   holding [v,ov,iv] (setItem ov iv v)
   release [v,ov,iv] []):=by intro _;rfl):PG X (.Subscript o i pos) (gSub to ti t):=by
 intro pins s σ H v u Q I r h
 rw[ha]
 refine wpAny_bind (wpAny_holding (thn (ho pins s σ H _ I h) fun ov s1 ⟨x,H1,I1,r1,q1⟩=>?_))
 refine wpAny_bind (wpAny_holding (thn (hi pins s1 σ H1 _ I1 q1) fun iv s2 ⟨y,H2,I2,r2,q2⟩=>?_))
 refine wpAny_bind (wpAny_standAt (wpAny_bind (wpAny_holding (thn (hs pins s2 σ H2 x y v ov iv u _ I2 r1 r2 r q2) fun _ s3 ⟨H3,I3,q3⟩=>?_))))
 exact wpAny_release ⟨σ,H3,I3,q3⟩
def tAsg(te:TE)(g:TG):TS:=fun D σ H=>te σ H fun x H1=>g x σ H1 D.nx
theorem DR{tg e:Expr}{te:TE}{g:TG}(he:PE X e te)(hg:PG X tg g)(hs:swapsWithSole [tg] e pos.line X.env=pure false:=by rfl)(hw:swappedStores [tg] e X.env=pure none:=by rfl)
  (h1:(assignEach [tg] X.env).map (·.2) = [assign tg X.env]:=by rfl):PS X (.Assign [tg] e pos) (tAsg te g):=by
 intro pins s σ H D I h
 refine wpAny_Assign_stores (thn (he pins s σ H _ I h) fun v s1 ⟨x,H1,I1,r1,q1⟩=>?_) hs hw
 rw[h1]
 exact thn (hg pins s1 σ H1 x v _ I1 r1 q1) fun _ s2 q=>q
theorem ar{i:Nat}{x:Str}{e:Expr}{te:TE}{pos':Pos}(hN:X.N.Nodup)(hi:X.N[i]?=some x)(hx:Loc X.env.scope x)(he:PE X e te)(hs:swapsWith e (some (.Name x pos')) pos.line X.env=pure false:=by rfl)(hf:X.fn x=true∨X.env.scope.names.lookup x=some .local:=by first | exact .inl rfl | exact .inr rfl | assumption) :
  PS X (.Assign [.Name x pos'] e pos) (tAsg te (gName i)):=by
 intro pins s σ H D I h
 refine wpAny_Assign_Name (thn (he pins s σ H _ I h) fun v s1 ⟨y,H1,I1,r1,q1⟩=>?_) hs
 exact my I1 hN hi hx r1 (fun s2 I2=>⟨_,H1,I2,q1⟩) hf
end
section
variable{X:Cx}{pos:Pos}
def DN(c:TT)(tb:TS):TS:=fun D σ H=>∃ W:Nat->St->Hp->Prop,(∃ m,W m σ H)/\∀ m σ H,W m σ H ->
 c σ H fun b H1=>if b=true then ∃ N:St->Hp->Prop,(∀ σ' H',N σ' H'->∃ m',m'<m/\W m' σ' H')/\tb { D with nx:=N,ct:=N,bk:=D.nx } σ H1 else D.nx σ H1
theorem mC{c:Expr}{body:List Stmt}{tc:TT}{tb:TS}(hp:PassesOwn (model X.prog X.w) X.A X.env X.xe)(hc:PT X c tc)(hb:PSs X body tb):PS X (.While c body [] pos) (DN tc tb):=by
 intro pins s σ H D I h
 obtain⟨W,⟨m0,w0⟩,turn⟩:=h
 refine wpAny_While (codeAny_whileLoop (fun n s'=>∃ σ' H',Inv X pins σ' H' s'/\W n σ' H') ?_ m0 ⟨σ,H,I,w0⟩)
 rintro n s1 ⟨σ1,H1,I1,w1⟩
 refine wpAny_passesOwn hp (thn (hc pins s1 σ1 H1 _ I1 (turn n σ1 H1 w1)) fun b s2 ⟨H2,I2,q2⟩=>?_)
 cases b with
 |true =>
  obtain⟨N,hN,q2⟩:=q2
  rw[if_pos rfl]
  refine wpAny_passesOwn hp (thn (hb pins s2 σ1 H2 _ I2 q2) fun f s3 q3=>?_)
  cases f with
  |next =>
   obtain⟨σ3,H3,I3,n3⟩:=q3
   obtain⟨m',hm,w3⟩:=hN σ3 H3 n3
   exact⟨m',hm,σ3,H3,I3,w3⟩
  |cont =>
   obtain⟨σ3,H3,I3,n3⟩:=q3
   obtain⟨m',hm,w3⟩:=hN σ3 H3 n3
   exact⟨m',hm,σ3,H3,I3,w3⟩
  |brk=>exact q3
  |ret v=>exact q3
 |false =>
  rw[if_neg FV]
  exact wpAny_execs_nil ⟨σ1,H2,I2,q2⟩
end
structure It where
 go:Nat->Hp->Prop
 yld:Nat->Hp->V->Hp->Prop
 stop:Nat->Hp->Prop
def FpOk(X:Cx)(pins:List (Addr×Obj))(H:Hp)(b:Addr):Prop :=
 H b=none/\b≠X.env.locals/\b∉X.fs/\(b∈X.ex∨X.s₀.heap.objs.size<=b)/\(∀ x c,X.env.cells.lookup x=some c->c≠b)/\∀ p∈X.pn++pins,p.1≠b
theorem Inv.fpOk{X:Cx}{pins:List (Addr×Obj)}{σ:St}{H H':Hp}{s:Shared}{b:Addr}(I:Inv X pins σ H s)(hb:s.heap.objs.size<=b)(hn:H' b=none):FpOk X pins H' b:=by
 refine⟨hn,Hc (F2 I.lt hb),I.nofs hb,.inr (Gs I.sz hb),fun x c e z=>?_,fun p hp z=>?_⟩
 ·obtain⟨v,q⟩:=I.cell x c e
  exact absurd (F2 q.lt (by rw[z];exact hb)) (GA _)
 ·exact absurd (F2 (Heap.lt_size (I.pin p hp).1) (by rw[z];exact hb)) (GA _)
structure Turn(P:Program)(w:World)(K:Fw)(tg:Expr)(J:It)(fp:List Addr)(it:Addr)(tn:Nat->Heap->Prop):Prop where
 mem:it∈fp
 obj:∀ i h,tn i h->∀ b∈fp,∃ o,h.get? b=some o/\∀ v,o.data≠.cell v
 keep:∀ i h h',tn i h->(∀ b∈fp,∀ o,h.get? b=some o->h'.get? b=some o)->tn i h'
 item:∀(X:Cx),X.prog=P->X.w=w->X.K=K->X.calm=true->∀(i:Nat)(pins:List (Addr×Obj))(s:Shared)(σ:St)(H:Hp)(E:Value->Shared->Prop),Inv X pins σ H s->(∀ b∈fp,FpOk X pins H b)->tn i s.heap->J.go i H ->
  wpAny (model P w) X.A (pyNext (.ref it)) (fun r s1=>∃ u,r=some u /\
   wpAny (model P w) X.A (letOwnedTupleGo tg (.ref it) u) (fun _ s2=>∃ x H',Inv X pins σ H' s2/\RelV x u/\J.yld i H x H'/\tn (i+1) s2.heap/\∀ b∈fp,H' b=none) E s1) E s
 done:∀(X:Cx),X.prog=P->X.w=w->X.K=K->X.calm=true->∀(i:Nat)(pins:List (Addr×Obj))(s:Shared)(σ:St)(H:Hp)(E:Value->Shared->Prop),Inv X pins σ H s->(∀ b∈fp,FpOk X pins H b)->tn i s.heap->J.stop i H ->
  wpAny (model P w) X.A (pyNext (.ref it)) (fun r s1=>r=none/\Inv X pins σ H s1) E s
 self:∀(A:Around)(i:Nat)(s:Shared)(Q:Value->Shared->Prop)(E:Value->Shared->Prop),tn i s.heap->Q (.ref it) s->wpAny (model P w) A (pyIter (.ref it)) Q E s
abbrev TI:=St->Hp->(It->Hp->Prop)->Prop
def PIE(X:Cx)(pins:List (Addr×Obj))(σ:St)(tg:Expr)(R:It->Hp->Prop)(itv:Value)(s2:Shared):Prop :=
 ∃(it:Addr)(fp:List Addr)(tn:Nat->Heap->Prop)(J:It)(H':Hp),itv=.ref it/\Inv X pins σ H' s2/\Turn X.prog X.w X.K tg J fp it tn/\tn 0 s2.heap/\(∀ b∈fp,FpOk X pins H' b)/\R J H'
def PI(X:Cx)(tg iter:Expr)(wi:TI):Prop :=
 ∀(pins:List (Addr×Obj))(s:Shared)(σ:St)(H:Hp)(R:It->Hp->Prop),Inv X pins σ H s->wi σ H R ->
  wpAny (model X.prog X.w) X.A (eval iter X.env) (fun v s1=>wpAny (model X.prog X.w) X.A (pyIter v) (PIE X pins σ tg R) X.xe s1) X.xe s
theorem Dz{M:Model}{A:Around}{E:Value->Shared->Prop}{s:Shared}{tg:Expr}{it:Addr}{u:Value}{o:Obj}{n:String}{vs:Array Value}{Q:Unit->Shared->Prop}(ho:s.heap.get? it=some o)(hc:o.cls=.type n)(hd:o.data=.fields vs)
  (hn : ["enumerate","zip","dict_itemiterator","dict_reverseitemiterator","odict_iterator","itertools.zip_longest","itertools.pairwise"].contains n=false) (hQ:Q () s):wpAny M A (letOwnedTupleGo tg (.ref it) u) Q E s:=by
 unfold letOwnedTupleGo
 cases tg<;>first
  |exact wpAny_pure hQ
  | (cases u<;>first
    |exact wpAny_pure hQ
    | (refine wpAny_bind (wpAny_load ho ?_)
       rw[hc,hd]
       show wpAny M A (if(["enumerate","zip","dict_itemiterator","dict_reverseitemiterator","odict_iterator","itertools.zip_longest","itertools.pairwise"].contains n&&vs[0]? == some (rawInt _))=true then _ else _) Q E s
       rw[if_neg (by intro h;rw[hn,Hm]at h;cases h)]
       exact wpAny_pure hQ))
def Itl(K:Fw)(a:Addr):It :=
 ⟨fun i H=>∃ xs x,SqL K H a xs/\xs[i]?=some x,fun i H x H'=>H'=H/\∀ xs,SqL K H a xs->xs[i]?=some x,fun i H=>∃ xs,SqL K H a xs/\xs.length<=i⟩
def Itr(lo:Int)(n:Nat):It:=⟨fun i _=>i<n,fun i H x H'=>H'=H/\x=.int (lo+i),fun i _=>n<=i⟩
theorem AI{P:Program}{w:World}{K:Fw}{tg:Expr}(a it:Addr):Turn P w K tg (Itl K a) [it] it (fun i h=>h.IsListIter it a i) where
 mem:=by simp
 obj:=fun i h st b hb=>by
  have e:b=it:=by simpa using hb
  subst e
  obtain⟨o,e,c,d⟩:=st
  exact⟨o,e,fun v z=>by rw[d]at z;cases z⟩
 keep:=fun i h h' st k=>st.at fun o e=>k it (by simp) o e
 item:=by
  intro X hP hw hK hc i pins s σ H E I hf st hg
  subst hP hw hK
  obtain⟨xs,x,hq,hx⟩:=hg
  obtain⟨its,rv,p,hz⟩:=I.list hq
  obtain⟨u,hu,ru⟩:=rv.get hx
  obtain⟨f0,f1,f2,f3,f4,f5⟩:=hf it (by simp)
  refine wpAny_pyNext_list_item st p.isList (x:=u) (by simpa using hu) fun h' st' sb=>?_
  have I1:Inv X pins σ H { s with heap:=h' }:=I.turned (t':=s.toks) (fun b o hb e=>(sb.2 b hb).trans e) f0 f1 f3 f4 f5
  obtain⟨o,e,c,d⟩:=id st'
  exact⟨u,rfl,Dz (s:={ s with heap:=h' }) e c d (by decide) ⟨x,H,I1,ru,⟨rfl,fun ys hy=>by rw[I.list_inj hy hq];exact hx⟩,st',fun b hb=>(hf b hb).1⟩⟩
 done:=by
  intro X hP hw hK hc i pins s σ H E I hf st hg
  subst hP hw hK
  obtain⟨xs,hq,hx⟩:=hg
  obtain⟨its,rv,p,hz⟩:=I.list hq
  obtain⟨f0,f1,f2,f3,f4,f5⟩:=hf it (by simp)
  have hl:=rv.length
  exact wpAny_pyNext_list_end (I.ok.hd hc) st p.isList (by simp;omega) fun h' eb=>⟨rfl,I.turned (t':=s.toks) (fun b o hb e=>eb b o hb e) f0 f1 f3 f4 f5⟩
 self:=fun _ _ _ _ _ st h=>wpAny_pyIter_listiter st h
theorem y9{P:Program}{w:World}{K:Fw}{tg:Expr}(it:Addr)(lo:Int)(n:Nat):Turn P w K tg (Itr lo n) [it] it (fun i h=>IsRangeIter h it (lo+(i:Nat)*1) ((n:Int)-(i:Nat)) 1) where
 mem:=by simp
 obj:=fun i h st b hb=>by
  have e:b=it:=by simpa using hb
  subst e
  exact⟨_,st,fun v z=>by
   have z':Data.fields _=Data.cell v:=z
   cases z'⟩
 keep:=fun i h h' st k=>k it (by simp) _ st
 item:=by
  intro X hP hw hK hc i pins s σ H E I hf st hg
  subst hP hw hK
  obtain⟨f0,f1,f2,f3,f4,f5⟩:=hf it (by simp)
  have W:=Walks.range (prog:=X.prog) (w:=X.w) (I.ok.hd hc) it lo 1 n
  refine W.item i s _ _ hg st fun v h' tk hv st' kk=>?_
  obtain⟨t,rfl⟩:=hv
  have I1:Inv X pins σ H { s with heap:=h',toks:=tk }:=I.turned (fun b o hb e=>kk b o (by simpa using hb) e) f0 f1 f3 f4 f5
  refine⟨_,rfl,Dz (s:={ s with heap:=h',toks:=tk }) (n:="range_iterator") st' rfl rfl (by decide) ⟨.int (lo+i),H,I1,⟨t,?_⟩,⟨rfl,rfl⟩,st',fun b hb=>(hf b hb).1⟩⟩
  rw[Int.mul_one]
 done:=by
  intro X hP hw hK hc i pins s σ H E I hf st hg
  subst hP hw hK
  obtain⟨f0,f1,f2,f3,f4,f5⟩:=hf it (by simp)
  exact wpAny_pyNext_range_end (I.ok.hd hc) st (by have:n<=i:=hg;omega) fun h' eb=>⟨rfl,I.turned (t':=s.toks) (fun b o hb e=>eb b o hb e) f0 f1 f3 f4 f5⟩
 self:=fun _ _ _ _ _ st h=>wpAny_pyIter_rangeiter st h
end L2
namespace L2
open PySem PySem.Spec PyProof.Rows
section
variable{X:Cx}{tg:Expr}
def iList(K:Fw)(tl:TE):TI:=fun σ H R=>tl σ H fun x H1=>∃ a,x=.ref a/\(∃ xs,SqL K H1 a xs)/\R (Itl K a) H1
theorem ck{l:Expr}{tl:TE}(hl:PE X l tl):PI X tg l (iList X.K tl):=by
 intro pins s σ H R I h
 refine thn (hl pins s σ H _ I h) fun v s1 ⟨x,H1,I1,r1,q1⟩=>?_
 obtain⟨a,e,⟨xs,hq⟩,q⟩:=q1
 subst e
 cases r1
 obtain⟨its,rv,p,hz⟩:=I1.list hq
 refine wpAny_pyIter_list p.isList ?_
 refine⟨s1.heap.objs.size,[s1.heap.objs.size],_,_,H1,rfl,I1.kept (t':=s1.toks) fun b o e=>Heap.get?_push_of_some _ e,AI a _,⟨_,Heap.get?_push_size _ rfl,rfl,rfl⟩,fun b hb=>?_,q⟩
 have e:b=s1.heap.objs.size:=by simpa using hb
 subst e
 exact I1.fpOk (FD _) (I1.hok.fresh (FD _))
theorem C1{pins:List (Addr×Obj)}{σ:St}{H:Hp}{s:Shared}{R:It->Hp->Prop}{E:Value->Shared->Prop}{lo hi:Int}{t u v:Tok}{tk:Nat}(I:Inv X pins σ H s)(h1 : -(2^62)<=lo)(h2:lo<2^62)(h3 : -(2^62)<=hi)(h4:hi<2^62)
  (q:R (Itr lo (hi-lo).toNat) H):wpAny (model X.prog X.w) X.A (pyIter (.ref s.heap.objs.size)) (PIE X pins σ tg R) E { s with heap:=s.heap.push { cls:=.type "range",data:=.fields #[.int lo t,.int hi u,.int 1 v] },toks:=tk }:=by
 refine wpAny_pyIter_range (IsRange.new ..) (small_one h1 h2 h3 h4) ?_
 have I1:Inv X pins σ H { s with heap:=s.heap.push { cls:=.type "range",data:=.fields #[.int lo t,.int hi u,.int 1 v] },toks:=tk }:=I.kept fun b o e=>Heap.get?_push_of_some _ e
 refine⟨(s.heap.push { cls:=.type "range",data:=.fields #[.int lo t,.int hi u,.int 1 v] }).objs.size,[(s.heap.push { cls:=.type "range",data:=.fields #[.int lo t,.int hi u,.int 1 v] }).objs.size],_,_,H,rfl,
  I1.kept (t':=tk) fun b o e=>Heap.get?_push_of_some _ e,y9 _ lo (hi-lo).toNat,?_,fun b hb=>?_,q⟩
 ·have e1:lo+((0:Nat):Int)*1=lo:=by simp
  have e2:(((hi-lo).toNat:Nat):Int)-((0:Nat):Int)=Builtin.Range.rangeSize lo hi 1:=by rw[rangeSize_one];split<;>omega +splitDisjunctions
  show IsRangeIter _ _ (lo+((0:Nat):Int)*1) ((((hi-lo).toNat:Nat):Int)-((0:Nat):Int)) 1
  rw[e1,e2]
  exact Heap.get?_push_size _ rfl
 ·have e:b=(s.heap.push { cls:=.type "range",data:=.fields #[.int lo t,.int hi u,.int 1 v] }).objs.size:=by simpa using hb
  subst e
  exact I1.fpOk (FD _) (I1.hok.fresh (FD _))
def iRng1(ta:TA):TI:=fun σ H R=>ta σ H fun vs H1=>∃ j:Int,vs = [.int j]/\-(2^62)<=j/\j<2^62/\R (Itr 0 j.toNat) H1
theorem bq{a:Expr}{ta:TA}{p pos:Pos} (hg:Gl X "range") (hm:X.mg "range" = none) (ha:PA X [a] ta) (hs:starEach [a] X.env = [(false,eval a X.env)]:=by rfl):PI X tg (.Call (.Name "range" p) [a] [] pos) (iRng1 ta):=by
 intro pins s σ H R I h
 refine Call_ (pj I hg hm boot_range (PyProof.Rows.callWith_type1 (thn (ha pos pins s σ H _ I h) fun us s1 ⟨vs,H1,I1,r1,q1⟩=>?_) hs rfl))
 obtain⟨j,e,q1,q2,q⟩:=q1
 subst e
 cases r1 with
 |cons r rr =>
  cases rr
  obtain⟨t,rfl⟩:=r
  exact call_range_1 (C1 I1 (by omega) (by omega) q1 q2 (by simpa using q))
def tFor(wi:TI)(g:TG)(tb:TS):TS:=fun D σ H=>wi σ H fun J H1=>∃ W:Nat->Nat->St->Hp->Prop,(∃ m,W 0 m σ H1)/\∀ i m σ H,W i m σ H ->
 (J.stop i H/\D.nx σ H)∨(J.go i H/\∃ N:St->Hp->Prop,(∀ σ' H',N σ' H'->∃ m',m'<m/\W (i+1) m' σ' H')/\∀ x H',J.yld i H x H'->g x σ H' fun σ2 H2=>tb { D with nx:=N,ct:=N,bk:=D.nx } σ2 H2)
def tD(fp:List Addr)(h:Heap):List (Addr×Obj):=fp.filterMap fun b=>(h.get? b).map fun o=>(b,o)
theorem ft{fp:List Addr}{h:Heap}{b:Addr}{o:Obj}(hb:b∈fp)(e:h.get? b=some o):(b,o)∈tD fp h:=Ia.mpr ⟨b,hb,by rw[e];rfl⟩
theorem Bw{fp:List Addr}{h:Heap}{p:Addr×Obj}(hp:p∈tD fp h):p.1∈fp/\h.get? p.1=some p.2:=by
 obtain⟨b,hb,e⟩:=Ia.mp hp
 cases q:h.get? b with
 |none=>rw[q]at e;cases e
 |some o =>
  rw[q]at e
  have e':(b,o)=p:=FW e
  subst e'
  exact⟨hb,q⟩
theorem Inv.pinned{pins:List (Addr×Obj)}{σ:St}{H:Hp}{s:Shared}{fp:List Addr}(I:Inv X pins σ H s)(hf:∀ b∈fp,FpOk X pins H b)(ho:∀ b∈fp,∃ o,s.heap.get? b=some o/\∀ v,o.data≠.cell v):Inv X (pins++tD fp s.heap) σ H s :=
 I.pins_of fun p hp=>(FG.mp hp).elim (fun z=>I.pin p (FN _ z)) fun z=>by
  obtain⟨hb,e⟩:=Bw z
  obtain⟨f0,f1,f2,_⟩:=hf p.1 hb
  obtain⟨o,e',d⟩:=ho p.1 hb
  rw[e]at e';cases e'
  exact⟨e,f0,f1,f2,d⟩
theorem Inv.unpinned{pins pl:List (Addr×Obj)}{σ:St}{H:Hp}{s:Shared}(I:Inv X (pins++pl) σ H s):Inv X pins σ H s:=I.pins_of fun p hp=>I.pin p (FN _ (F3 _ hp))
theorem bP{iter:Expr}{body:List Stmt}{wi:TI}{g:TG}{tb:TS}{pos:Pos}(hp:PassesOwn (model X.prog X.w) X.A X.env X.xe)(hc:X.calm=true)(hi:PI X tg iter wi)(hg:PG X tg g)(hb:PSs X body tb)
  (hs:∀ x,foldedSetIterable iter X.env x=pure x:=by intro _;rfl):PS X (.For tg iter body [] pos) (tFor wi g tb):=by
 intro pins s σ H D I h
 refine wpAny_For (thn (hi pins s σ H _ I h) fun v s1 h1=>thn h1 fun itv s2 h2=>?_) hs
 obtain⟨it,fp,tn,J,H2,e,I2,T,st2,f2,W,⟨m0,w0⟩,turn⟩:=h2
 subst e
 have stat:∀{H':Hp},(∀ b∈fp,H' b=none)->∀ b∈fp,FpOk X pins H' b:=fun hn b hb=>⟨hn b hb,(f2 b hb).2⟩
 refine codeAny_forLoop_any (fun n s'=>∃ i σ' H',Inv X pins σ' H' s'/\tn i s'.heap/\(∀ b∈fp,H' b=none)/\W i n σ' H') ?_ m0 ⟨0,σ,H2,I2,st2,fun b hb=>(f2 b hb).1,w0⟩
 rintro n s3 ⟨i,σ3,H3,I3,st3,fr3,w3⟩
 rcases turn i n σ3 H3 w3 with⟨stop,qn⟩ | ⟨go,N,hN,step⟩
 ·refine wpAny_passesOwn hp (thn (T.done X rfl rfl rfl hc i pins s3 σ3 H3 X.xe I3 (stat fr3) st3 stop) fun r s4 ⟨hr,I4⟩=>?_)
  subst hr
  exact wpAny_execs_nil ⟨σ3,H3,I4,qn⟩
 ·refine wpAny_passesOwn hp (thn (T.item X rfl rfl rfl hc i pins s3 σ3 H3 X.xe I3 (stat fr3) st3 go) fun r s4 ⟨u,hr,h4⟩=>?_)
  subst hr
  refine wpAny_passesOwn hp (thn h4 fun _ s5 ⟨x,H5,I5,r5,y5,st5,fr5⟩=>?_)
  have I5':=I5.pinned (stat fr5) (T.obj _ _ st5)
  refine wpAny_passesOwn hp (thn (hg _ s5 σ3 H5 x u _ I5' r5 (step x H5 y5)) fun _ s6 ⟨σ6,H6,I6,q6⟩=>?_)
  refine wpAny_passesOwn hp (thn (hb _ s6 σ6 H6 _ I6 q6) fun f s7 q7=>?_)
  have again:∀{σ7:St}{H7:Hp},Inv X (pins++tD fp s5.heap) σ7 H7 s7->N σ7 H7->∃ m,m<n/\∃ i σ' H',Inv X pins σ' H' s7/\tn i s7.heap/\(∀ b∈fp,H' b=none)/\W i m σ' H':=fun{σ7 H7} I7 n7=>by
   obtain⟨m',hm,w7⟩:=hN σ7 H7 n7
   refine⟨m',hm,i+1,σ7,H7,I7.unpinned,T.keep _ _ _ st5 fun b hb o e=>(I7.pin (b,o) (FN _ (FN _ (ft hb e)))).1,fun b hb=>?_,w7⟩
   obtain⟨o,e,d⟩:=T.obj _ _ st5 b hb
   exact(I7.pin (b,o) (FN _ (FN _ (ft hb e)))).2.1
  cases f with
  |next=>obtain⟨σ7,H7,I7,n7⟩:=q7;exact again I7 n7
  |cont=>obtain⟨σ7,H7,I7,n7⟩:=q7;exact again I7 n7
  |brk=>obtain⟨σ7,H7,I7,q7⟩:=q7;exact⟨σ7,H7,I7.unpinned,q7⟩
  |ret v=>obtain⟨x7,σ7,H7,I7,r7,q7⟩:=q7;exact⟨x7,σ7,H7,I7.unpinned,r7,q7⟩
end
theorem eB{K:Fw}{a:Addr}{xs:List V}{g:TG}{tb:TS}{D:Ends}{σ:St}{H:Hp}(Pv:Nat->St->Hp->Prop)(h0:Pv 0 σ H)(hl:∀ i σ H,i<=xs.length->Pv i σ H->SqL K H a xs)
  (hs:∀ i x σ H,xs[i]?=some x->Pv i σ H->g x σ H fun σ2 H2=>tb { D with nx:=Pv (i+1),ct:=Pv (i+1),bk:=D.nx } σ2 H2) (hd:∀ σ H,Pv xs.length σ H->D.nx σ H) :
  ∃ W:Nat->Nat->St->Hp->Prop,(∃ m,W 0 m σ H)/\∀ i m σ H,W i m σ H ->
   ((Itl K a).stop i H/\D.nx σ H)∨((Itl K a).go i H/\∃ N:St->Hp->Prop,(∀ σ' H',N σ' H'->∃ m',m'<m/\W (i+1) m' σ' H')/\∀ x H',(Itl K a).yld i H x H'->g x σ H' fun σ2 H2=>tb { D with nx:=N,ct:=N,bk:=D.nx } σ2 H2):=by
 refine⟨fun i m σ H=>m=xs.length-i/\i<=xs.length/\Pv i σ H,⟨xs.length,by simp,GJ _,h0⟩,?_⟩
 rintro i m σ H ⟨rfl,hi,p⟩
 have q:=hl i σ H hi p
 by_cases hlt:i<xs.length
 ·refine .inr ⟨⟨xs,xs[i],q,by simp[hlt]⟩,Pv (i+1),fun σ' H' p'=>⟨xs.length-(i+1),by omega,rfl,hlt,p'⟩,fun x H' y=>?_⟩
  obtain⟨e,y⟩:=y
  subst e
  exact hs i x σ _ (y xs q) p
 ·have e:i=xs.length:=by omega
  subst e
  exact .inl ⟨⟨xs,q,FD _⟩,hd σ H p⟩
theorem bJ{lo:Int}{n:Nat}{g:TG}{tb:TS}{D:Ends}{σ:St}{H:Hp}(Pv:Nat->St->Hp->Prop)(h0:Pv 0 σ H)
  (hs:∀ i σ H,i<n->Pv i σ H->g (.int (lo+i)) σ H fun σ2 H2=>tb { D with nx:=Pv (i+1),ct:=Pv (i+1),bk:=D.nx } σ2 H2) (hd:∀ σ H,Pv n σ H->D.nx σ H) :
  ∃ W:Nat->Nat->St->Hp->Prop,(∃ m,W 0 m σ H)/\∀ i m σ H,W i m σ H ->
   ((Itr lo n).stop i H/\D.nx σ H)∨((Itr lo n).go i H/\∃ N:St->Hp->Prop,(∀ σ' H',N σ' H'->∃ m',m'<m/\W (i+1) m' σ' H')/\∀ x H',(Itr lo n).yld i H x H'->g x σ H' fun σ2 H2=>tb { D with nx:=N,ct:=N,bk:=D.nx } σ2 H2):=by
 refine⟨fun i m σ H=>m=n-i/\i<=n/\Pv i σ H,⟨n,by simp,GJ _,h0⟩,?_⟩
 rintro i m σ H ⟨rfl,hi,p⟩
 by_cases hlt:i<n
 ·refine .inr ⟨hlt,Pv (i+1),fun σ' H' p'=>⟨n-(i+1),by omega,rfl,hlt,p'⟩,fun x H' y=>?_⟩
  obtain⟨e,y⟩:=y
  subst e y
  exact hs i σ _ hlt p
 ·have e:i=n:=by omega
  subst e
  exact .inl ⟨FD _,hd σ H p⟩
theorem pS{c:TT}{tb:TS}{D:Ends}{σ:St}{H:Hp}(Pv:St->Hp->Prop)(μ:St->Hp->Nat)(h0:Pv σ H)
  (hs:∀ σ H,Pv σ H->c σ H fun b H1=>if b=true then tb { D with nx:=fun σ' H'=>Pv σ' H'/\μ σ' H'<μ σ H,ct:=fun σ' H'=>Pv σ' H'/\μ σ' H'<μ σ H,bk:=D.nx } σ H1 else D.nx σ H1)
  (mono:∀ σ H Q Q',(∀ b H1,Q b H1->Q' b H1)->c σ H Q->c σ H Q'):DN c tb D σ H:=by
 refine⟨fun m σ H=>m=μ σ H/\Pv σ H,⟨_,rfl,h0⟩,?_⟩
 rintro m σ H ⟨rfl,p⟩
 refine mono σ H _ _ (fun b H1 q=>?_) (hs σ H p)
 cases b with
 |true=>exact⟨_,fun σ' H' ⟨p',l⟩=>⟨_,l,rfl,p'⟩,q⟩
 |false=>exact q
end L2
namespace L2
open PySem PySem.Spec PyProof.Rows
abbrev R2:=V->V->Hp->VK->Prop
def OpR(X:Cx)(f:Value->Value->Sem Value)(r:R2):Prop :=
 ∀(pins:List (Addr×Obj))(s:Shared)(σ:St)(H:Hp)(x y:V)(v u:Value)(Q:VK),Inv X pins σ H s->RelV x v->RelV y u->r x y H Q ->
  wpAny (model X.prog X.w) X.A (f v u) (EP X pins σ Q) X.xe s
def UnR(X:Cx)(f:Value->Sem Value)(r:V->Hp->VK->Prop):Prop :=
 ∀(pins:List (Addr×Obj))(s:Shared)(σ:St)(H:Hp)(x:V)(v:Value)(Q:VK),Inv X pins σ H s->RelV x v->r x H Q ->
  wpAny (model X.prog X.w) X.A (f v) (EP X pins σ Q) X.xe s
def jy(X:Cx)(f:Value)(r:List V->Hp->VK->Prop):Prop :=
 ∀(pins:List (Addr×Obj))(s:Shared)(σ:St)(H:Hp)(xs:List V)(us:List Value)(Q:VK),Inv X pins σ H s->Vals xs us->r xs H Q ->
  wpAny (model X.prog X.w) X.A (call f us) (EP X pins σ Q) X.xe s
def tOp(r:R2)(ta tb:TE):TE:=fun σ H Q=>ta σ H fun x H1=>tb σ H1 fun y H2=>r x y H2 Q
def tUn(r:V->Hp->VK->Prop)(ta:TE):TE:=fun σ H Q=>ta σ H fun x H1=>r x H1 Q
def rI(C:Int->Int->Prop)(g:Int->Int->V):R2:=fun x y H Q=>∃ i j,x=.int i/\y=.int j/\C i j/\Q (g i j) H
def rI0(g:Int->Int->V):R2:=fun x y H Q=>∃ i j,x=.int i/\y=.int j/\Q (g i j) H
def rU(g:Int->V):V->Hp->VK->Prop:=fun x H Q=>∃ i,x=.int i/\Q (g i) H
section
variable{X:Cx}{a b c:Expr}{ta tb tc:TE}{pos:Pos}
theorem binT(ha:PE X a ta)(hb:PE X b tb){pins:List (Addr×Obj)}{s:Shared}{σ:St}{H:Hp}{R:V->V->Hp->Prop}(I:Inv X pins σ H s)
  (h:ta σ H fun x H1=>tb σ H1 fun y H2=>R x y H2) {Q:Value->Shared->Prop} {f:Value->Value->Sem Value}
  (hf:∀ v u s2 x y H2,Inv X pins σ H2 s2->RelV x v->RelV y u->R x y H2->wpAny (model X.prog X.w) X.A (f v u) Q X.xe s2) :
  wpAny (model X.prog X.w) X.A (eval a X.env) (fun v s₁=>wpAny (model X.prog X.w) X.A (eval b X.env) (fun u s₂=>wpAny (model X.prog X.w) X.A (f v u) Q X.xe s₂) X.xe s₁) X.xe s:=by
 refine thn (ha pins s σ H _ I h) fun v s1 ⟨x,H1,I1,r1,q1⟩=>?_
 refine thn (hb pins s1 σ H1 _ I1 q1) fun u s2 ⟨y,H2,I2,r2,q2⟩=>?_
 exact hf v u s2 x y H2 I2 r1 r2 q2
theorem av{op:Operator}{r:R2}(ho:OpR X (binaryOp op) r)(ha:PE X a ta)(hb:PE X b tb):PE X (.BinOp a op b pos) (tOp r ta tb):=by
 intro pins s σ H Q I h
 exact wpAny_BinOp (binT ha hb I h fun v u s2 x y H2 I2 rx ry q=>ho pins s2 σ H2 x y v u Q I2 rx ry q)
theorem pe_un{op:UnaryOp}{r:V->Hp->VK->Prop}(ho:UnR X (unaryOp op) r)(ha:PE X a ta):PE X (.UnaryOp op a pos) (tUn r ta):=by
 intro pins s σ H Q I h
 exact UnaryOp_ (thn (ha pins s σ H _ I h) fun v s1 ⟨x,H1,I1,r1,q1⟩=>ho pins s1 σ H1 x v Q I1 r1 q1)
theorem opI{f:Value->Value->Sem Value}{C:Int->Int->Prop}{g:Int->Int->Int}
  (rule:∀(i j:Int)(t u:Tok)(s:Shared)(Q:Value->Shared->Prop)(E:Value->Shared->Prop),C i j->Q (.int (g i j) s.toks) { s with toks:=s.toks+1 }->wpAny (model X.prog X.w) X.A (f (.int i t) (.int j u)) Q E s) :
  OpR X f (rI C fun i j=>.int (g i j)):=by
 intro pins s σ H x y v u Q I rx ry h
 obtain⟨i,j,rfl,rfl,hc,q⟩:=h
 obtain⟨t,rfl⟩:=rx
 obtain⟨t',rfl⟩:=ry
 exact rule i j t t' s _ _ hc ⟨.int (g i j),H,I.tok _,⟨_,rfl⟩,q⟩
theorem opI0{f:Value->Value->Sem Value}{g:Int->Int->Int}
  (rule:∀(i j:Int)(t u:Tok)(s:Shared)(Q:Value->Shared->Prop)(E:Value->Shared->Prop),Q (.int (g i j) s.toks) { s with toks:=s.toks+1 }->wpAny (model X.prog X.w) X.A (f (.int i t) (.int j u)) Q E s) :
  OpR X f (rI0 fun i j=>.int (g i j)):=by
 intro pins s σ H x y v u Q I rx ry h
 obtain⟨i,j,rfl,rfl,q⟩:=h
 obtain⟨t,rfl⟩:=rx
 obtain⟨t',rfl⟩:=ry
 exact rule i j t t' s _ _ ⟨.int (g i j),H,I.tok _,⟨_,rfl⟩,q⟩
theorem opB0{f:Value->Value->Sem Value}{g:Int->Int->Bool}
  (rule:∀(i j:Int)(t u:Tok)(s:Shared)(Q:Value->Shared->Prop)(E:Value->Shared->Prop),Q (.bool (g i j)) s->wpAny (model X.prog X.w) X.A (f (.int i t) (.int j u)) Q E s) :
  OpR X f (rI0 fun i j=>.bl (g i j)):=by
 intro pins s σ H x y v u Q I rx ry h
 obtain⟨i,j,rfl,rfl,q⟩:=h
 obtain⟨t,rfl⟩:=rx
 obtain⟨t',rfl⟩:=ry
 exact rule i j t t' s _ _ ⟨.bl (g i j),H,I,rfl,q⟩
def CDiv(i j:Int):Prop:=0<j/\j<1073741824
def CPow(i j:Int):Prop:=0<=j/\j<=1000000/\i.natAbs<2^64
def CMul(i j:Int):Prop:=(-(2^64)<i/\i<2^64)∨(-(2^64)<j/\j<2^64)
theorem CMul.ok{i j:Int}(h:CMul i j):IntMulOk i j:=by
 rcases h with⟨h1,h2⟩ | ⟨h1,h2⟩
 ·exact .of_left (intBits_le_64 h1 h2)
 ·exact .of_right (intBits_le_64 h1 h2)
theorem y8(k:Nat):(0:Int)<=2^k:=by
 rw[two_pow_cast]
 exact Ie _
theorem dD:OpR X (binaryOp .Add) (rI0 fun i j=>.int (i+j)):=opI0 fun _ _ _ _ _ _ _ q=>add_int q
theorem tH:OpR X (binaryOp .Sub) (rI0 fun i j=>.int (i-j)):=opI0 fun _ _ _ _ _ _ _ q=>sub_int q
theorem dA:OpR X (binaryOp .Mult) (rI CMul fun i j=>.int (i*j)):=opI fun _ _ _ _ _ _ _ hc q=>mul_int q hc.ok
theorem cm:OpR X (binaryOp .FloorDiv) (rI CDiv fun i j=>.int (i/j)):=opI fun i j _ _ _ _ _ hc q=>by
 have h1:(0:Int)<j:=hc.1
 have h2:j<1073741824:=hc.2
 exact floordiv_int (by omega) (by rw[IA i (by omega)];exact q) (.inl (PyProof.noPylong_small (by omega)))
theorem bw:OpR X (binaryOp .Mod) (rI (fun _ j=>0<j) fun i j=>.int (i%j)):=opI fun i j _ _ _ _ _ hc q=>by
 have h1:(0:Int)<j:=hc
 exact mod_int' (by omega) (by rw[Int.fmod_eq_emod_of_nonneg i (by omega)];exact q)
theorem DW:OpR X (binaryOp .Pow) (rI CPow fun i j=>.int (i^j.toNat)):=opI fun _ _ _ _ _ _ _ hc q=>pow_int_small hc.1 hc.2.1 hc.2.2 q
theorem iO:OpR X (binaryOp .LShift) (rI CPow fun i j=>.int (i*2^j.toNat)):=opI fun _ _ _ _ _ _ _ hc q=>lshift_int_small hc.1 hc.2.1 hc.2.2 q
theorem ph:OpR X (binaryOp .RShift) (rI (fun _ j=>0<=j) fun i j=>.int (i/2^j.toNat)):=opI fun i j _ _ _ _ _ hc q =>
 rshift_int hc (by rw[IA i (y8 _)];exact q)
theorem tJ:OpR X (binaryOp .BitAnd) (rI0 fun i j=>.int (Builtin.bitAnd i j)):=opI0 fun _ _ _ _ _ _ _ q=>and_int q
theorem Bo:OpR X (binaryOp .BitOr) (rI0 fun i j=>.int (Builtin.bitOr i j)):=opI0 fun _ _ _ _ _ _ _ q=>or_int q
theorem tG:OpR X (binaryOp .BitXor) (rI0 fun i j=>.int (Builtin.bitXor i j)):=opI0 fun _ _ _ _ _ _ _ q=>xor_int q
theorem unI{f:Value->Sem Value}{g:Int->Int}
  (rule:∀(i:Int)(t:Tok)(s:Shared)(Q:Value->Shared->Prop)(E:Value->Shared->Prop),Q (.int (g i) s.toks) { s with toks:=s.toks+1 }->wpAny (model X.prog X.w) X.A (f (.int i t)) Q E s) :
  UnR X f (rU fun i=>.int (g i)):=by
 intro pins s σ H x v Q I rx h
 obtain⟨i,rfl,q⟩:=h
 obtain⟨t,rfl⟩:=rx
 exact rule i t s _ _ ⟨.int (g i),H,I.tok _,⟨_,rfl⟩,q⟩
theorem un_neg:UnR X (unaryOp .USub) (rU fun i=>.int (-i)):=unI fun _ _ _ _ _ q=>neg_int q
end
def scal:V->V->Bool
 |.non,.non=>true | .non,.int _=>true | .int _,.non=>true | .non,.bl _=>true | .bl _,.non=>true | .non,.str _=>true | .str _,.non=>true
 |.int _,.int _=>true | .bl _,.bl _=>true | .str _,.str _=>true | .byt _,.byt _=>true
 |.int _,.str _=>true | .str _,.int _=>true | .bl _,.str _=>true | .str _,.bl _=>true
 |_,_=>false
def rEq:R2:=fun x y H Q=>scal x y=true/\Q (.bl (decide (x=y))) H
def rNe:R2:=fun x y H Q=>scal x y=true/\Q (.bl (!decide (x=y))) H
theorem Cf{i j:Int}:decide (V.int i=V.int j)=(i == j):=by
 rw[HN]
 simp
theorem D3{i j:Bool}:decide (V.bl i=V.bl j)=(i == j):=by
 rw[HN]
 simp
theorem Ce{i j:Str}:decide (V.str i=V.str j)=(i == j):=by
 rw[HN]
 simp
theorem Cg{i j:Array UInt8}:decide (V.byt i=V.byt j)=(i.toList == j.toList):=by
 rw[HN]
 cases i
 cases j
 simp
section
variable{X:Cx}{a b c:Expr}{ta tb tc:TE}{pos:Pos}
theorem a8{pins:List (Addr×Obj)}{σ:St}{H:Hp}{s:Shared}{Q:VK}{k k':Bool}(I:Inv X pins σ H s)(q:Q (.bl k) H)(e:k=k'):EP X pins σ Q (.bool k') s:=by
 subst e
 exact⟨.bl k,H,I,rfl,q⟩
theorem iW:OpR X (compareOp .Eq) rEq:=by
 intro pins s σ H x y v u Q I rx ry h
 obtain⟨hs,q⟩:=h
 cases x with
 |non =>
  cases rx
  cases y with
  |non=>cases ry;exact PySem.EqNone.eq_none_none (a8 I q (by simp))
  |bl j=>cases ry;exact PySem.EqNone.eq_none_bool (a8 I q (by simp))
  |int j=>obtain⟨t',rfl⟩:=ry;exact PySem.EqNone.eq_none_int (a8 I q (by simp))
  |str j=>obtain⟨t',rfl⟩:=ry;exact PySem.EqNone.eq_none_str (a8 I q (by simp))
  |_=>exact absurd (show false=true from hs) FV
 |bl i =>
  cases rx
  cases y with
  |non=>cases ry;exact PySem.EqNone.eq_bool_none (a8 I q (by simp))
  |bl j=>cases ry;exact eq_bool (a8 I q D3)
  |str j=>obtain⟨t',rfl⟩:=ry;exact PySem.EqMixed.eq_bool_str (a8 I q (by simp))
  |_=>exact absurd (show false=true from hs) FV
 |int i =>
  obtain⟨t,rfl⟩:=rx
  cases y with
  |non=>cases ry;exact PySem.EqNone.eq_int_none (a8 I q (by simp))
  |int j=>obtain⟨t',rfl⟩:=ry;exact eq_int (a8 I q Cf)
  |str j=>obtain⟨t',rfl⟩:=ry;exact PySem.EqMixed.eq_int_str (a8 I q (by simp))
  |_=>exact absurd (show false=true from hs) FV
 |str i =>
  obtain⟨t,rfl⟩:=rx
  cases y with
  |non=>cases ry;exact PySem.EqNone.eq_str_none (a8 I q (by simp))
  |bl j=>cases ry;exact PySem.EqMixed.eq_str_bool (a8 I q (by simp))
  |int j=>obtain⟨t',rfl⟩:=ry;exact PySem.EqMixed.eq_str_int (a8 I q (by simp))
  |str j=>obtain⟨t',rfl⟩:=ry;exact eq_str (a8 I q Ce)
  |_=>exact absurd (show false=true from hs) FV
 |byt i =>
  obtain⟨t,rfl⟩:=rx
  cases y with
  |byt j=>obtain⟨t',rfl⟩:=ry;exact PySem.W.eq_bytes (a8 I q Cg)
  |_=>exact absurd (show false=true from hs) FV
 |_=>cases y<;>exact absurd (show false=true from hs) FV
theorem oK:OpR X (compareOp .NotEq) rNe:=by
 intro pins s σ H x y v u Q I rx ry h
 obtain⟨hs,q⟩:=h
 cases x with
 |non =>
  cases rx
  cases y with
  |non=>cases ry;exact PySem.EqNone.ne_none_none (a8 I q (by simp))
  |bl j=>cases ry;exact PySem.EqNone.ne_none_bool (a8 I q (by simp))
  |int j=>obtain⟨t',rfl⟩:=ry;exact PySem.EqNone.ne_none_int (a8 I q (by simp))
  |str j=>obtain⟨t',rfl⟩:=ry;exact PySem.EqNone.ne_none_str (a8 I q (by simp))
  |_=>exact absurd (show false=true from hs) FV
 |bl i =>
  cases rx
  cases y with
  |non=>cases ry;exact PySem.EqNone.ne_bool_none (a8 I q (by simp))
  |bl j=>cases ry;exact ne_bool (a8 I q (congrArg not D3))
  |str j=>obtain⟨t',rfl⟩:=ry;exact PySem.EqMixed.ne_bool_str (a8 I q (by simp))
  |_=>exact absurd (show false=true from hs) FV
 |int i =>
  obtain⟨t,rfl⟩:=rx
  cases y with
  |non=>cases ry;exact PySem.EqNone.ne_int_none (a8 I q (by simp))
  |int j=>obtain⟨t',rfl⟩:=ry;exact ne_int (a8 I q (congrArg not Cf))
  |str j=>obtain⟨t',rfl⟩:=ry;exact PySem.EqMixed.ne_int_str (a8 I q (by simp))
  |_=>exact absurd (show false=true from hs) FV
 |str i =>
  obtain⟨t,rfl⟩:=rx
  cases y with
  |non=>cases ry;exact PySem.EqNone.ne_str_none (a8 I q (by simp))
  |bl j=>cases ry;exact PySem.EqMixed.ne_str_bool (a8 I q (by simp))
  |int j=>obtain⟨t',rfl⟩:=ry;exact PySem.EqMixed.ne_str_int (a8 I q (by simp))
  |str j=>obtain⟨t',rfl⟩:=ry;exact ne_str (a8 I q (congrArg not Ce))
  |_=>exact absurd (show false=true from hs) FV
 |byt i =>
  obtain⟨t,rfl⟩:=rx
  cases y with
  |byt j=>obtain⟨t',rfl⟩:=ry;exact PySem.W.ne_bytes (a8 I q (congrArg not Cg))
  |_=>exact absurd (show false=true from hs) FV
 |_=>cases y<;>exact absurd (show false=true from hs) FV
theorem Bq:OpR X (compareOp .Lt) (rI0 fun i j=>.bl (decide (i<j))):=opB0 fun _ _ _ _ _ _ _ q=>lt_int q
theorem C7:OpR X (compareOp .GtE) (rI0 fun i j=>.bl (decide (j<=i))):=opB0 fun _ _ _ _ _ _ _ q=>ge_int q
theorem aP(b:Expr){op:CmpOp}(h:op≠.In:=by decide)(h2:op≠.NotIn:=by decide):behindInMarks op b=false:=by
 have e1:(op == CmpOp.In)=false:=by cases op<;>first | rfl | exact absurd rfl h
 have e2:(op == CmpOp.NotIn)=false:=by cases op<;>first | rfl | exact absurd rfl h2
 cases b<;>simp[behindInMarks,e1,e2]
theorem qF{op:CmpOp}{r:R2}(ho:OpR X (compareOp op) r)(ha:PE X a ta)(hb:PE X b tb)(hm:behindInMarks op b=false):PE X (.Compare a [op] [b] pos) (tOp r ta tb):=by
 intro pins s σ H Q I h
 exact wpAny_Compare1 (binT ha hb I h fun v u s2 x y H2 I2 rx ry q=>ho pins s2 σ H2 x y v u Q I2 rx ry q) hm
def tTest(t:TE):TT:=fun σ H Q=>t σ H fun x H'=>∃ k,x=.bl k/\Q k H'
theorem aH{op:CmpOp}{r:R2}(ho:OpR X (compareOp op) r)(ha:PE X a ta)(hb:PE X b tb)(hm:behindInMarks op b=false):PT X (.Compare a [op] [b] pos) (tTest (tOp r ta tb)):=by
 intro pins s σ H Q I h
 refine wpAny_isTrue_Compare1 (thn (ha pins s σ H _ I h) fun v s1 ⟨x,H1,I1,r1,q1⟩=>thn (hb pins s1 σ H1 _ I1 q1) fun u s2 ⟨y,H2,I2,r2,q2⟩ =>
  thn (ho pins s2 σ H2 x y v u _ I2 r1 r2 q2) fun c s3 ⟨z,H3,I3,r3,k,e,q3⟩=>?_) hm
 subst e
 cases r3
 exact wpAny_truthy_bool ⟨H3,I3,q3⟩
theorem ui:(sizeLine:Nat)<2^63:=by rw[sizeLine_eq];decide
theorem vz{x:V}{us:List Value}(r:Vals [x] us):∃ u,us = [u]/\RelV x u:=by
 cases r with
 |cons r1 r2=>cases r2;exact⟨_,rfl,r1⟩
theorem CN{x y:V}{us:List Value}(r:Vals [x,y] us):∃ u w',us = [u,w']/\RelV x u/\RelV y w':=by
 cases r with
 |cons r1 r2 =>
  cases r2 with
  |cons r3 r4=>cases r4;exact⟨_,_,rfl,r1,r3⟩
theorem Ct(hc:X.calm=true):jy X (.builtin "min") (fun xs H Q=>∃ i j,xs = [.int i,.int j]/\Q (.int (if j<i then j else i)) H):=by
 intro pins s σ H xs us Q I r h
 obtain⟨i,j,rfl,q⟩:=h
 obtain⟨u,w',rfl,⟨t,rfl⟩,⟨t',rfl⟩⟩:=CN r
 refine min_two_ints (I.ok.hd hc) fun h' tk k=>⟨_,H,I.kept k,?_,q⟩
 by_cases hj:j<i
 ·rw[if_pos hj,if_pos hj];exact⟨_,rfl⟩
 ·rw[if_neg hj,if_neg hj];exact⟨_,rfl⟩
theorem Cv:jy X (.type "int") (fun xs H Q=>(∃ i,xs = [.int i]/\Q (.int i) H)∨∃ k,xs = [.bl k]/\Q (.int (if k then 1 else 0)) H):=by
 intro pins s σ H xs us Q I r h
 rcases h with⟨i,rfl,q⟩ | ⟨k,rfl,q⟩
 ·obtain⟨u,rfl,t,rfl⟩:=vz r
  exact call_int_int ⟨.int i,H,I,⟨_,rfl⟩,q⟩
 ·obtain⟨u,rfl,r1⟩:=vz r
  cases r1
  exact call_int_bool ⟨.int (if k then 1 else 0),H,I.tok _,⟨_,rfl⟩,q⟩
end
end L2
namespace L2
open PySem PySem.Spec PyProof.Rows
structure ObjM(h:Heap)(x dx C:Addr)(mA:Str->Option Value):Prop where
 obj:h.get? x=some (GW C dx)
 ns:h.Ns1 dx mA
 ne:dx≠x
theorem uh{h:Heap}{dx:Addr}{mA:Str->Option Value}(n:h.Ns1 dx mA):∃ od,h.get? dx=some od/\∀ name,Hx name od=some (mA name):=by
 obtain⟨o,es,ep,ho,hd,hk,_,hm⟩:=n
 refine⟨o,ho,fun name=>?_⟩
 have e:=hm name
 unfold nsFind findBy at e
 rw[← Array.find?_toList]at e
 unfold Hx
 rw[hd]
 dsimp only
 split
 ·rename_i y q
  rw[q]at e
  exact congrArg some e
 ·rename_i q
  rw[q]at e
  have a:es.toList.any (·.refKey)=false:=by
   rw[List.any_eq_false]
   intro y hy
   obtain⟨z,t,hkey⟩:=hk y (Array.mem_toList_iff.mp hy)
   simp[DictEntry.refKey,hkey]
  have a':¬ es.toList.any (·.refKey)=true:=by rw[a];exact FV
  rw[if_neg a']
  exact congrArg some e
theorem ObjM.look{h:Heap}{x dx C:Addr}{mA:Str->Option Value}(I:ObjM h x dx C mA):∃ od,PySem.W.InstAt h x (GW C dx) C (some od)/\∀ name,Hx name od=some (mA name) :=
 let ⟨od,ho,hl⟩:=uh I.ns
 ⟨od,⟨I.obj,rfl,rfl,ho⟩,hl⟩
section
variable{prog:Program}{w:World}{A:Around}{E:Value->Shared->Prop}{s:Shared}{K:Fw}{x dx C f:Addr}{mA:Str->Option Value}{name:Str}{v:Value}
theorem Fe{expr:Bool}{Q:Value->Shared->Prop}(X:K.In s.heap)(I:ObjM s.heap x dx C mA)(hg:GZ K C name=true)(hh:GD K C=true)
  (ha:FJ K (.ref C) name=some none) (hv:mA name=some v) (hv':Ik v=true) (h:Q v { s with toks:=s.toks+1 }) :
  wpAny (model prog w) A (getAttr (.ref x) name expr) Q E s:=by
 obtain⟨od,J,hl⟩:=I.look
 exact PySem.W.get_value X J (HU hg).1 (PySem.W.findObj_own hh ha rfl (by rw[hl,hv])) hv' h
theorem DA{pl:Sem Bool}{Q:Value×List Value->Shared->Prop}(X:K.In s.heap)(I:ObjM s.heap x dx C mA)(hg:GZ K C name=true)
  (hf:FJ K (.ref C) name=some (some (.ref f))) (ht:GU K (.ref f)=true) (hv:mA name=none) (h:Q (.ref f,[.ref x]) s) :
  wpAny (model prog w) A (getMethod (.ref x) name pl) Q E s:=by
 obtain⟨od,J,hl⟩:=I.look
 exact PySem.W.method_fn X J (HU hg).1 (HU hg).2 hf (beq_iff_eq.mp ht) (by show(Hx name od).map (·.isSome)=some false;rw[hl,hv];rfl) h
theorem Ew{ns:List Str}{Q:Unit->Shared->Prop}(X:K.In s.heap)(I:ObjM s.heap x dx C mA)
  (hs:FJ K (.ref C) "__setattr__" = some (some (.builtin "object.__setattr__"))) (hp:Hk K C=true) (ht:Iq K C name=some none) (hh:GD K C=true)
  (hw:PySem.Within mA ns) (hsz:ns.length<=sizeLine)
  (h:∀ h',ObjM h' x dx C (fun y=>if y=name then some v else mA y)->Heap.SameBut dx s.heap h'->Q () { s with heap:=h',toks:=s.toks+2 }) :
  wpAny (model prog w) A (setAttr (.ref x) name v) Q E s:=by
 obtain⟨od,J,hl⟩:=I.look
 refine PySem.W.set_plain X J hs (PySem.W.osa_open (s:={ s with toks:=s.toks+1 }) (r:=none) X J hp ht fun b=>?_)
 obtain⟨cd,hc,hd'⟩:=HG hh
 have hx:s.heap.get? x=some ⟨.ref C,some dx,.plain,#[]⟩:=I.obj
 refine wpAny_bind (wpAny_pure (wpAny_bind (wpAny_bind (wpAny_loadPart hx (wpAny_bind (PySem.W.Looks.here (s:={ s with toks:=s.toks+1 }) (PySem.W.looks_clsIn X hc) ?_))))))
 rw[hd']
 refine wpAny_pure (a:=some dx) (wpAny_bind (wpAny_pure (wpAny_bind ?_)))
 refine wpAny_nsSet1 (s:={ s with toks:=s.toks+1 }) I.ns fun h' hn2 hs2=>?_
 obtain⟨oD,esD,epD,hoD,hdD,hcD⟩:=hn2.count (PySem.Within.cons name v hw)
 refine wpAny_bind (wpAny_lookBehind hoD (by rw[hdD];exact pastItsLine_dict (Gs hcD (by rw[Ge];omega))) ?_)
 exact wpAny_pure (h _ ⟨(hs2.2 _ (Ne.symm I.ne)).trans I.obj,hn2,I.ne⟩ hs2)
theorem Dn{R:Result->Shared->Prop}{vs:List Value}{kw:List (Str×Value)}(X:K.In s.heap)(hm:Hs K C=true)
  (hi:FJ K (.ref C) "__init__" = some (some (.ref f))) (hf:PySem.W.typeIn K (.ref f)=some (.type "function"))
  (h:codeAny (model prog w) (A.under (.builtin "type.__call__" ⟨.ref C::vs,kw⟩)) (.call (.ref f) ⟨.ref (s.heap.objs.size+1)::vs,kw⟩) (PySem.W.InitBack (s.heap.objs.size+1) R)
   { s with heap:=(s.heap.push GH).push (GW C s.heap.objs.size) }) :
  codeAny (model prog w) A (.call (.ref C) ⟨vs,kw⟩) R s:=by
 obtain⟨hh,g,d,t,os⟩:=s
 exact PySem.W.make_core (PySem.W.makes_of X hm) (GG X hi) (fun self=>PySem.W.bind_fn X self hf) (.inl rfl) h
end
def putF(f:Str)(v:V):List (Str×V)->List (Str×V)
 |[]=>[(f,v)]
 | (g,x)::r=>if g=f then(g,v)::r else(g,x)::putF f v r
theorem aw(f g:Str)(v:V):∀ fs:List (Str×V),(putF f v fs).lookup g=if g=f then some v else fs.lookup g
 |[]=>by
  show G9 g [(f,v)]=_
  by_cases h:g=f
  ·have hb:(g == f)=true:=beq_iff_eq.mpr h
   simp only[G9,hb,if_pos h]
  ·have hb:(g == f)=false:=beq_eq_false_iff_ne.mpr h
   simp only[G9,hb,if_neg h]
 | (k,x)::r=>by
  have ih:=aw f g v r
  rw[show putF f v ((k,x)::r)=(if k=f then(k,v)::r else(k,x)::putF f v r) from rfl]
  by_cases hk:k=f
  ·rw[if_pos hk]
   by_cases h:g=k
   ·have hb:(g == k)=true:=beq_iff_eq.mpr h
    simp only[G9,hb,if_pos (h.trans hk)]
   ·have hb:(g == k)=false:=beq_eq_false_iff_ne.mpr h
    simp only[G9,hb,if_neg (fun e:g=f=>h (e.trans hk.symm))]
  ·rw[if_neg hk]
   by_cases h:g=k
   ·have hb:(g == k)=true:=beq_iff_eq.mpr h
    simp only[G9,hb,if_neg (fun e:g=f=>hk (h.symm.trans e))]
   ·have hb:(g == k)=false:=beq_eq_false_iff_ne.mpr h
    simp only[G9,hb]
    exact ih
theorem nv(f:Str)(v:V):∀ fs:List (Str×V),f∈(putF f v fs).map (·.1)/\∀ g,g∈fs.map (·.1)->g∈(putF f v fs).map (·.1)
 |[]=>⟨by simp[putF],fun g h=>by simp at h⟩
 | (k,x)::r=>by
  obtain⟨i1,i2⟩:=nv f v r
  rw[show putF f v ((k,x)::r)=(if k=f then(k,v)::r else(k,x)::putF f v r) from rfl]
  by_cases hk:k=f
  ·rw[if_pos hk]
   subst hk
   exact⟨by simp,fun g h=>by simpa using h⟩
  ·rw[if_neg hk]
   refine⟨?_,fun g h=>?_⟩
   ·rw[F9]
    exact FK _ i1
   ·rw[F9]at h ⊢
    rcases FC.mp h with e | e
    ·exact FC.mpr (.inl e)
    ·exact FK _ (i2 g e)
theorem ng(f:Str)(v:V):∀ fs:List (Str×V),(putF f v fs).length<=fs.length+1
 |[]=>by simp[putF]
 | (k,x)::r=>by
  have ih:=ng f v r
  rw[show putF f v ((k,x)::r)=(if k=f then(k,v)::r else(k,x)::putF f v r) from rfl]
  by_cases hk:k=f
  ·rw[if_pos hk,Ge,Ge];omega
  ·rw[if_neg hk,Ge,Ge];omega
theorem RelO.some_of{v:V}{o:Option Value}(r:RelO (some v) o):∃ u,o=some u/\RelV v u:=by
 cases o with
 |none=>exact(show False from r).elim
 |some u=>exact⟨u,rfl,r⟩
theorem RelO.none_of{o:Option Value}(r:RelO none o):o=none:=by
 cases o with
 |none=>rfl
 |some u=>exact(show False from r).elim
theorem uC{v:V}{u:Value}(r:RelV v u):Ik u=true:=by
 cases v with
 |non=>cases (show u=Value.none from r);rfl
 |bl b=>cases (show u=Value.bool b from r);rfl
 |int i=>obtain⟨t,e⟩:=(show ∃ t,u=Value.int i t from r);cases e;rfl
 |str x=>obtain⟨t,e⟩:=(show ∃ t,u=Value.str x t from r);cases e;rfl
 |byt b=>obtain⟨t,e⟩:=(show ∃ t,u=Value.bytes b t from r);cases e;rfl
 |flt b=>obtain⟨t,e⟩:=(show ∃ t,u=Value.float b t from r);cases e;rfl
 |ref a=>cases (show u=Value.ref a from r);rfl
 |ty n=>cases (show u=Value.type n from r);rfl
section
variable{P:Program}{w:World}{H H':Hp}{h h':Heap}{a C dx:Addr}{fs fs':List (Str×V)}
theorem rA(hok:HOk P w H h)(e:H a=some (.ins C dx fs)):∃ mA,ObjM h a dx C mA/\(∀ f,RelO (fs.lookup f) (mA f))/\PySem.Within mA (fs.map (·.1))/\fs.length<=1000/\H dx=some (.own a):=by
 obtain⟨d,z,ne,ob,mA,n,r,q⟩:=(show bA P w H h a (.ins C dx fs) from hok a _ e)
 exact⟨mA,⟨ob,n,ne⟩,r,q,z,d⟩
end
structure Cls(K:Fw)(C:Addr):Prop where
 pg:GZ K C Str.empty=true
 hd:GD K C=true
 po:Hk K C=true
 sa:FJ K (.ref C) "__setattr__" = some (some (.builtin "object.__setattr__"))
theorem Cls.get{K:Fw}{C:Addr}(c:Cls K C)(f:Str):GZ K C f=true:=c.pg
def eM(K:Fw)(C:Addr)(f:Str):Prop:=FJ K (.ref C) f=some none
theorem eM.taker{K:Fw}{C:Addr}{f:Str}(n:eM K C f):Iq K C f=some none:=by
 unfold Iq
 rw[show FJ K (.ref C) f=some none from n]
 rfl
structure Meth(K:Fw)(C:Addr)(m:Str)(f:Addr):Prop where
 at_:FJ K (.ref C) m=some (some (.ref f))
 fn:GU K (.ref f)=true
 kp:FH K (.ref f)=true
section
variable{X:Cx}{pins:List (Addr×Obj)}{σ:St}{H:Hp}{s:Shared}{a C dx:Addr}{fs:List (Str×V)}{f:Str}{v:V}{A:Around}{E:Value->Shared->Prop}
theorem z4{b:Bool}{Q:Value->Shared->Prop}(I:Inv X pins σ H s)(e:H a=some (.ins C dx fs))(c:Cls X.K C)(n:eM X.K C f)(l:fs.lookup f=some v)
  (h:∀ u s',Inv X pins σ H s'->RelV v u->Q u s'):wpAny (model X.prog X.w) A (getAttr (.ref a) f b) Q E s:=by
 obtain⟨mA,O,r,_,_,_⟩:=rA I.hok e
 obtain⟨u,hu,ru⟩:=RelO.some_of (v:=v) (o:=mA f) (by rw[← l];exact r f)
 exact Fe I.kIn O (c.get f) c.hd n hu (uC ru) (h u _ (I.tok _) ru)
theorem pz{m:Str}{g:Addr}{pl:Sem Bool}{Q:Value×List Value->Shared->Prop}(I:Inv X pins σ H s)(e:H a=some (.ins C dx fs))(c:Cls X.K C)(k:Meth X.K C m g)(l:fs.lookup m=none)
  (h:Q (.ref g,[.ref a]) s):wpAny (model X.prog X.w) A (getMethod (.ref a) m pl) Q E s:=by
 obtain⟨mA,O,r,_,_,_⟩:=rA I.hok e
 have hn:mA m=none:=RelO.none_of (by rw[← l];exact r m)
 exact DA I.kIn O (c.get m) k.at_ k.fn hn h
theorem zj{y:V}{u:Value}{Q:Unit->Shared->Prop}(I:Inv X pins σ H s)(e:H a=some (.ins C dx fs))(c:Cls X.K C)(n:eM X.K C f)(hl:fs.length<1000)(ry:RelV y u)
  (h:∀ s',Inv X pins σ (upd H a (.ins C dx (putF f y fs))) s'->Q () s'):wpAny (model X.prog X.w) A (setAttr (.ref a) f u) Q E s:=by
 obtain⟨mA,O,r,wi,_,ho⟩:=rA I.hok e
 have hz:(fs.map (·.1)).length<=sizeLine:=by rw[FF,sizeLine_eq];omega
 refine Ew I.kIn O c.sa c.po n.taker c.hd wi hz fun h' O' sb=>h _ ?_
 have hd:∃ o,h'.get? dx=some o:=let ⟨o,_,_,e',_⟩:=O'.ns;⟨o,e'⟩
 refine I.write (x:=a) (e:=dx) (by rw[e];exact True.intro) (.inr ho) (fun b q hb z=>(sb.2 b hb).trans z) hd ?_
 refine⟨by rw[ak O.ne];exact ho,?_,O.ne,O'.obj,_,O'.ns,fun g=>?_,fun g hg=>?_⟩
 ·have:=ng f y fs;omega
 ·show RelO ((putF f y fs).lookup g) (if g=f then some u else mA g)
  rw[aw]
  by_cases q:g=f
  ·rw[if_pos q,if_pos q];exact ry
  ·rw[if_neg q,if_neg q];exact r g
 ·by_cases q:g=f
  ·rw[q];exact(nv f y fs).1
  ·refine(nv f y fs).2 g (wi g fun z=>hg ?_)
   show(if g=f then some u else mA g)=none
   rw[if_neg q];exact z
theorem Inv.made(I:Inv X pins σ H s):Inv X pins σ (upd (upd H s.heap.objs.size (.own (s.heap.objs.size+1))) (s.heap.objs.size+1) (.ins C s.heap.objs.size []))
  { s with heap:=(s.heap.push GH).push (GW C s.heap.objs.size) }:=by
 have e1:(s.heap.push GH).get? s.heap.objs.size=some GH:=Heap.get?_push_size s.heap rfl
 have e2:((s.heap.push GH).push (GW C s.heap.objs.size)).get? (s.heap.objs.size+1)=some (GW C s.heap.objs.size):=by
  have:=Heap.get?_push_size (s.heap.push GH) (o:=GW C s.heap.objs.size) rfl
  rwa[Heap.size_push]at this
 have e3:(s.heap.push GH).Ns s.heap.objs.size (fun _=>none):=⟨GH,#[],_,e1,rfl,(fun e he=>absurd he (by simp)),fun _=>rfl⟩
 have I1:=I.laid (a:=s.heap.objs.size) (o:=.own (s.heap.objs.size+1)) (h':=s.heap.push GH) (t':=s.toks) (fun b u q=>Heap.get?_push_of_some _ q) (FD _) ⟨_,e1⟩
 refine I1.laid (a:=s.heap.objs.size+1) (o:=.ins C s.heap.objs.size []) (t':=s.toks) (fun b u q=>Heap.get?_push_of_some _ q) (Nat.le_of_eq (Heap.size_push _ _)) ?_
 have ne:s.heap.objs.size≠s.heap.objs.size+1:=F4 (GP _)
 refine⟨by rw[ak ne,af],GJ _,ne,e2,fun _=>none,(Heap.Ns1.of_empty e3).at fun o q=>Heap.get?_push_of_some _ q,fun _=>True.intro,fun y hy=>absurd rfl hy⟩
theorem CF{prog:Program}{w:World}{env:Env}{e:Expr}{f:Str}{pos:Pos}{s:Shared}{Q:Value->Shared->Prop}(hb:attributeBase e f env (eval e env)=eval e env)
  (h:wpAny (model prog w) A (eval e env) (fun o s₁=>wpAny (model prog w) A (getAttr o f true) Q E s₁) E s):wpAny (model prog w) A (eval (.Attribute e f pos) env) Q E s :=
 Attribute_any_ h (by rw[arm_eval_Attribute,hb])
end
def tFld(K:Fw)(ta:TE)(f:Str):TE:=fun σ H Q=>ta σ H fun x H1=>∃ a C dx fs v,x=.ref a/\H1 a=some (.ins C dx fs)/\Cls K C/\eM K C f/\fs.lookup f=some v/\Q v H1
def sFld(K:Fw)(ta tv:TE)(f:Str):TS:=fun D σ H=>tv σ H fun y H1=>ta σ H1 fun x H2=>∃ a C dx fs,x=.ref a/\H2 a=some (.ins C dx fs)/\Cls K C/\eM K C f/\fs.length<1000 /\
 D.nx σ (upd H2 a (.ins C dx (putF f y fs)))
section
variable{X:Cx}{o e value:Expr}{f:Str}{pos pos' tpos:Pos}{ta tv:TE}
theorem cT(he:PE X e ta)(hb:attributeBase e f X.env (eval e X.env)=eval e X.env):PE X (.Attribute e f pos) (tFld X.K ta f):=by
 intro pins s σ H Q I h
 refine CF hb (thn (he pins s σ H _ I h) fun u s1 ⟨x,H1,I1,rx,a,C,dx,fs,v,ex,ea,c,n,l,q⟩=>?_)
 subst ex
 obtain rfl:u=Value.ref a:=rx
 exact z4 I1 ea c n l fun u' s2 I2 ru=>⟨v,H1,I2,ru,q⟩
theorem lb(ha:PE X o ta)(hv:PE X value tv)(hs:swapsWith value (some (.Attribute o f pos')) pos.line X.env=pure false):PS X (.Assign [.Attribute o f pos'] value pos) (sFld X.K ta tv f):=by
 intro pins s σ H D I h
 refine plainObj_wpAny_Assign_Attribute (thn (hv pins s σ H _ I h) fun u s1 ⟨y,H1,I1,ry,q⟩=>thn (ha pins s1 σ H1 _ I1 q) fun ov s2 ⟨x,H2,I2,rx,a,C,dx,fs,ex,ea,c,n,l,q2⟩=>?_) hs
 subst ex
 obtain rfl:ov=Value.ref a:=rx
 exact zj I2 ea c n l ry fun s3 I3=>⟨σ,_,I3,q2⟩
end
section
variable{X:Cx}{pins:List (Addr×Obj)}{σ:St}{H:Hp}{s:Shared}{A:Around}{E:Value->Shared->Prop}{Q:Value->Shared->Prop}{c:Value}{b:Bool}
inductive TyOf(K:Fw)(H:Hp):V->Value->Prop where
 |non:TyOf K H .non (.type "NoneType")
 |bl (x:Bool):TyOf K H (.bl x) (.type "bool")
 |int (i:Int):TyOf K H (.int i) (.type "int")
 |str (x:Str):TyOf K H (.str x) (.type "str")
 |flt (x:UInt64):TyOf K H (.flt x) (.type "float")
 |lst {a:Addr} {xs:List V} (e:H a=some (.lst xs)):TyOf K H (.ref a) (.type "list")
 |frz {a:Addr} {o:Obj} {xs:List V} (e:H a=some (.frz o (.lst xs))):TyOf K H (.ref a) (.type "list")
 |tup {a:Addr} {xs:List V} (e:H a=some (.tup xs)):TyOf K H (.ref a) (.type "tuple")
 |dK {a:Addr} {kvs:List (Key×V)} (e:H a=some (.dK kvs)):TyOf K H (.ref a) (.type "dict")
 |dT {a:Addr} {kvs:List (List Key×V)} (e:H a=some (.dT kvs)):TyOf K H (.ref a) (.type "dict")
 |ins {a C dx:Addr} {fs:List (Str×V)} (e:H a=some (.ins C dx fs)) (cl:Cls K C) (ha:FJ K (.ref C) "__class__" = some (some (.builtin "object.__class__")))
   (hn:Ii K (.builtin "object.__class__") "__get__" = some (some (.builtin "getset_descriptor.__get__"))) (htk:Ip K (.builtin "object.__class__")=some true)
   (hm:GX K C (.type "object")=some true):TyOf K H (.ref a) (.ref C)
theorem BX{x:V}{u t:Value}(I:Inv X pins σ H s)(rx:RelV x u)(ty:TyOf X.K H x t)(e:GF X.K t c=some b)(h:∀ tk,Q (.bool b) { s with toks:=tk }) :
  wpAny (model X.prog X.w) A (call (.builtin "isinstance") [u,c]) Q E s:=by
 cases ty with
 |non=>cases (show u=Value.none from rx);exact Gx PySem.W.kitx_none I.kIn True.intro e (fun z=>nomatch z) h
 |bl y=>cases (show u=Value.bool y from rx);exact Gx PySem.W.kitx_bool I.kIn True.intro e (fun z=>nomatch z) h
 |int i=>obtain⟨t,q⟩:=(show ∃ t,u=Value.int i t from rx);cases q;exact Gx PySem.W.kitx_int I.kIn True.intro e (fun z=>nomatch z) h
 |str y=>obtain⟨t,q⟩:=(show ∃ t,u=Value.str y t from rx);cases q;exact Gx PySem.W.kitx_str I.kIn True.intro e (fun z=>nomatch z) h
 |flt y=>obtain⟨t,q⟩:=(show ∃ t,u=Value.float y t from rx);cases q;exact Gx PySem.W.kitx_float I.kIn True.intro e (fun z=>nomatch z) h
 | @lst a xs ea =>
  cases (show u=Value.ref a from rx)
  obtain⟨_,_,n,_,h1⟩:=(show bA X.prog X.w H s.heap a (.lst xs) from I.hok a _ ea)
  exact Gx PySem.W.kitx_list I.kIn ⟨_,h1,rfl⟩ e (fun z=>nomatch z) h
 | @frz a ob xs ea =>
  cases (show u=Value.ref a from rx)
  obtain⟨_,_,_,n,_,h1⟩:=(show bA X.prog X.w H s.heap a (.frz ob (.lst xs)) from I.hok a _ ea)
  exact Gx PySem.W.kitx_list I.kIn ⟨_,h1,rfl⟩ e (fun z=>nomatch z) h
 | @tup a xs ea =>
  cases (show u=Value.ref a from rx)
  obtain⟨_,_,_,p⟩:=(show bA X.prog X.w H s.heap a (.tup xs) from I.hok a _ ea)
  obtain⟨o,h1,h2,_⟩:=p
  exact Gx PySem.W.kitx_tuple I.kIn ⟨o,h1,h2⟩ e (fun z=>nomatch z) h
 | @dK a kvs ea =>
  cases (show u=Value.ref a from rx)
  obtain⟨_,_,vs,_,p⟩:=(show bA X.prog X.w H s.heap a (.dK kvs) from I.hok a _ ea)
  obtain⟨o,es,ep,h1,h2,_⟩:=p
  exact Gx PySem.W.kitx_dict I.kIn ⟨o,h1,h2.1⟩ e (fun z=>nomatch z) h
 | @dT a kvs ea =>
  cases (show u=Value.ref a from rx)
  obtain⟨_,_,xs,_,o,es,ep,h1,h2,_⟩:=(show bA X.prog X.w H s.heap a (.dT kvs) from I.hok a _ ea)
  exact Gx PySem.W.kitx_dict I.kIn ⟨o,h1,h2.1⟩ e (fun z=>nomatch z) h
 | @ins a C dx fs ea cl ha hn htk hm =>
  cases (show u=Value.ref a from rx)
  obtain⟨mA,O,_⟩:=rA I.hok ea
  obtain⟨od,J,_⟩:=O.look
  exact Gx (PySem.W.kitx_own (cl.get _) cl.hd ha hn htk hm) I.kIn J e (fun z=>nomatch z) h
end
end L2
namespace L2
open PySem PySem.Spec PyProof.Rows
structure Room(k:Nat)(A:Around):Prop where
 hd:A.handled=none
 dp:A.depth+3*k+5<recursionLimit
 un:A.units+16*k+200<cLine
theorem Room.mono{j k:Nat}{A:Around}(r:Room k A)(h:j<=k):Room j A:=⟨r.hd,by have:=r.dp;omega,by have:=r.un;omega⟩
theorem Room.deeper{k:Nat}{A:Around}(r:Room (k+1) A)(env:Env):Room k (A.deeper env) :=
 ⟨r.hd,by have:=r.dp;show A.depth+1+3*k+5<_;omega,by have:=r.un;show A.units+3+16*k+200<_;omega⟩
theorem zO{A:Around}{C:Addr}{us:List Value}{kw:List (Str×Value)}:(A.under (.builtin "type.__call__" ⟨.ref C::us,kw⟩)).depth=A.depth+1:=by
 first | rfl | simp[Around.under,Code.weight,Code.isCreation,Code.isGuard,Code.isCaller,Code.frames,Code.isFrame,guardIds]
theorem zN{A:Around}{C:Addr}{us:List Value}{kw:List (Str×Value)}:(A.under (.builtin "type.__call__" ⟨.ref C::us,kw⟩)).units=A.units+1:=by
 first | rfl | simp[Around.under,Code.cUnits,Code.frames,Code.isFrame]
theorem Room.make{k:Nat}{A:Around}(r:Room (k+1) A)(C:Addr)(us:List Value)(kw:List (Str×Value)):Room k (A.under (.builtin "type.__call__" ⟨.ref C::us,kw⟩)) :=
 ⟨r.hd,by have:=r.dp;rw[zO];omega,by have:=r.un;rw[zN];omega⟩
theorem Room.depth{k:Nat}{A:Around}(r:Room k A):A.depth<recursionLimit:=by have:=r.dp;omega
theorem Room.units{k:Nat}{A:Around}(r:Room k A):A.units+64<cLine:=by have:=r.un;omega
def tNil:TA:=fun _ H Q=>Q [] H
def tCons(ta:TE)(tr:TA):TA:=fun σ H Q=>ta σ H fun x H1=>tr σ H1 fun xs H2=>Q (x::xs) H2
section
variable{X:Cx}{e:Expr}{es:List Expr}{te:TE}{t:TA}{pos:Pos}
theorem ah:PA X [] tNil:=fun _ _ _ _ H Q I h=>Calls.spliced_nil ⟨[],H,I,.nil,h⟩
theorem aa(ha:PE X e te)(hr:PA X es t)(hs:starEach (e::es) X.env=(false,eval e X.env)::starEach es X.env:=by rfl):PA X (e::es) (tCons te t):=by
 intro pos pins s σ H Q I h
 rw[hs]
 show wpAny _ _ (spliced ((false,eval e X.env)::backTo pos (starEach es X.env))) _ _ s
 refine Calls.spliced_cons (thn (ha pins s σ H _ I h) fun u s1 ⟨x,H1,I1,r1,q1⟩=>?_)
 exact thn (hr pos pins s1 σ H1 _ I1 q1) fun us s2 ⟨xs,H2,I2,r2,q2⟩=>⟨x::xs,H2,I2,.cons r1 r2,q2⟩
def tTup(t:TA):TE:=fun σ H Q=>t σ H fun xs H1=>xs.length<=sizeLine/\∀ p,H1 p=none->Q (.ref p) (upd H1 p (.tup xs))
def tLst(t:TA):TE:=fun σ H Q=>t σ H fun xs H1=>xs.length<=sizeLine/\∀ p,H1 p=none->Q (.ref p) (upd H1 p (.lst xs))
theorem gC{x1}(h:PA X es t):PE X (.Tuple es x1 pos) (tTup t):=by
 intro pins s σ H Q I hq
 refine wpAny_Tuple_spliced (thn (h pos pins s σ H _ I hq) fun us s1 ⟨xs,H1,I1,r,z,q⟩=>⟨by rw[← r.length];exact z,?_⟩)
 have hf:H1 s1.heap.objs.size=none:=I1.hok.fresh (FD _)
 refine⟨.ref s1.heap.objs.size,upd H1 s1.heap.objs.size (.tup xs),I1.laid (t':=s1.toks) (fun b u e=>Heap.get?_push_of_some _ e) (FD _) ?_,rfl,q _ hf⟩
 exact⟨z,us,r,⟨_,Heap.get?_push_size _ rfl,rfl,_,rfl⟩⟩
theorem c4(h:PA X es t):PE X (.List es pos) (tLst t):=by
 intro pins s σ H Q I hq
 refine wpAny_List_spliced (thn (h pos pins s σ H _ I hq) fun us s1 ⟨xs,H1,I1,r,z,q⟩=>⟨by rw[← r.length];exact z,?_⟩)
 have hf:H1 s1.heap.objs.size=none:=I1.hok.fresh (FD _)
 refine⟨.ref s1.heap.objs.size,upd H1 s1.heap.objs.size (.lst xs),I1.laid (t':=s1.toks) (fun b u e=>Heap.get?_push_of_some _ e) (FD _) ?_,rfl,q _ hf⟩
 exact⟨z,us,0,r,Heap.get?_push_size _ rfl⟩
end
abbrev Sp:=List V->Hp->VK->XK->Prop
abbrev CXT:=List Env->Hp->Shared->XK->Value->Shared->Prop
structure Env0(P:Program)(w:World)(K:Fw)(mg:Str->Option Value)(base:Heap)(A:Around)(outer:List Env)(s:Shared)(H:Hp):Prop where
 frames:A.frames=some outer
 mod:Mod K mg base
 bs:∀ b o,base.get? b=some o->s.heap.get? b=some o/\H b=none
 bsz:base.objs.size<=s.heap.objs.size
 funs:s.heap.FunFrames base outer
 frf:∀ b∈frs outer,H b=none
 hok:HOk P w H s.heap
 bare:AllBare s.gens
def CE(outer:List Env)(P:Program)(w:World)(H:Hp)(s:Shared)(Q:VK)(u:Value)(s':Shared):Prop :=
 ∃ v H',s'.os=s.os/\AllBare s'.gens/\Un (frs outer) [] H H' s.heap s'.heap/\HOk P w H' s'.heap/\RelV v u/\Q v H'
def CR(CX:CXT)(outer:List Env)(P:Program)(w:World)(H:Hp)(s:Shared)(Q:VK)(E:XK)(r:Result)(s':Shared):Prop :=
 match r with
 |.ok (.ret u)=>CE outer P w H s Q u s'
 |.ok _=>False
 |.error e=>CX outer H s E e s'
structure FnOk(P:Program)(w:World)(K:Fw)(mg:Str->Option Value)(base:Heap)(CX:CXT)(k:Nat)(f:Addr)(fd:FuncData)(ps:List Str)(sp:Sp):Prop where
 len:∀ vs H Q E,sp vs H Q E->vs.length=ps.length
 run:∀(A:Around)(outer:List Env)(s:Shared)(H:Hp)(args:Args)(us:List Value)(vs:List V)(Q:VK)(E:XK),Room k A->Env0 P w K mg base A outer s H->BindsTo s fd args (ps.zip us)->Vals vs us->sp vs H Q E ->
  codeAny (model P w) A (.call (.ref f) args) (CR CX outer P w H s Q E) s
theorem Env0.make{P:Program}{w:World}{K:Fw}{mg:Str->Option Value}{base:Heap}{A:Around}{outer:List Env}{s:Shared}{H:Hp}(e:Env0 P w K mg base A outer s H)(C:Addr)(us:List Value)(kw:List (Str×Value)) :
  Env0 P w K mg base (A.under (.builtin "type.__call__" ⟨.ref C::us,kw⟩)) outer s H:=⟨by first | exact e.frames | (simpa[Around.under,Code.envs,Code.isFrame,pushEnvs] using e.frames),e.mod,e.bs,e.bsz,e.funs,e.frf,e.hok,e.bare⟩
section
variable{X:Cx}{pins:List (Addr×Obj)}{σ:St}{H:Hp}{s s':Shared}
theorem Inv.env0(I:Inv X pins σ H s):Env0 X.prog X.w X.K X.mg X.base X.A X.stack s H :=
 ⟨I.ok.frames,I.ok.mod,I.bs,Gs I.ok.bsz I.sz,I.stack,I.stkFree,I.hok,I.bare⟩
theorem Inv.after{Q:VK}{u:Value}(I:Inv X pins σ H s)(h:CE X.stack X.prog X.w H s Q u s'):EP X pins σ Q u s':=by
 obtain⟨v,H',os,bare,un,hok,r,q⟩:=h
 obtain⟨hh,g,d,t,os'⟩:=s'
 obtain rfl:os'=s.os:=os
 exact⟨v,H',I.call (h':=hh) (g':=g) (d':=d) (t':=t) (ch:=[]) un hok bare (fun b z=>absurd z (by simp)),r,q⟩
end
def tCall(sp:Sp)(dvs:List V)(E:XK)(t:TA):TE:=fun σ H Q=>t σ H fun vs H1=>sp (vs++dvs) H1 Q E
def tMeth(C:Addr)(m:Str)(sp:Sp)(dvs:List V)(E:XK)(ta:TE)(t:TA):TE:=fun σ H Q=>ta σ H fun x H1=>∃ a dx fs,x=.ref a/\H1 a=some (.ins C dx fs)/\fs.lookup m=none /\
 t σ H1 fun vs H2=>sp (x::(vs++dvs)) H2 Q E
def tMake(C:Addr)(sp:Sp)(dvs:List V)(E:XK)(t:TA):TE:=fun σ H Q=>t σ H fun vs H1=>∀ x dx,H1 x=none->H1 dx=none->dx≠x ->
 sp (.ref x::(vs++dvs)) (upd (upd H1 dx (.own x)) x (.ins C dx [])) (fun v H2=>v=.non/\Q (.ref x) H2) E
def gz(K:Fw)(fd:FuncData)(ps:List Str)(ds:List Value):Prop :=
 ∀(s:Shared)(us:List Value),K.In s.heap->(us++ds).length=ps.length->BindsTo s fd ⟨us,[]⟩ (ps.zip (us++ds))
theorem gz.all{K:Fw}{fd:FuncData}{ps:List Str}(h:∀ us:List Value,us.length=ps.length->bindArgs fd ⟨us,[]⟩=pure (ps.zip us)):gz K fd ps []:=fun s us _ hl=>by
 rw[HM]at hl ⊢
 exact .of_eq (h us hl)
def oo(CX:CXT)(X:Cx)(E:XK):Prop:=∀(pins:List (Addr×Obj))(σ:St)(H:Hp)(s:Shared)(e:Value)(s':Shared),Inv X pins σ H s->CX X.stack H s E e s'->X.xe e s'
section
variable{X:Cx}{CX:CXT}{k:Nat}{f C:Addr}{fd:FuncData}{ps:List Str}{sp:Sp}{dvs:List V}{ds:List Value}{E:XK}{x m:Str}{p pos apos:Pos}{e o:Expr}{es:List Expr}{ta:TE}{t:TA}
theorem A6{pins:List (Addr×Obj)}{σ:St}{H:Hp}{s:Shared}{Q:VK}{us:List Value}{vs:List V}(F:FnOk X.prog X.w X.K X.mg X.base CX k f fd ps sp)(hr:Room k X.A)(hb:gz X.K fd ps ds)(hd:Vals dvs ds)(hx:oo CX X E)
  (I:Inv X pins σ H s) (r:Vals vs us) (h:sp (vs++dvs) H Q E):wpAny (model X.prog X.w) X.A (call (.ref f) us) (EP X pins σ Q) X.xe s:=by
 have r2:Vals (vs++dvs) (us++ds):=r.append hd
 have hl:(us++ds).length=ps.length:=by rw[← r2.length];exact F.len _ _ _ _ h
 refine wpAny_call (codeAny_mono (F.run X.A X.stack s H ⟨us,[]⟩ (us++ds) (vs++dvs) Q E hr I.env0 (hb s us I.kIn hl) r2 h) fun r s' hq=>?_)
 cases r with
 |error e=>exact hx pins σ H s e s' I hq
 |ok fl =>
  cases fl with
  |ret u=>exact I.after hq
  |next=>exact False.elim hq
  |brk=>exact False.elim hq
  |cont=>exact False.elim hq
theorem ay(F:FnOk X.prog X.w X.K X.mg X.base CX k f fd ps sp)(hr:Room k X.A)(hg:Gl X x)(hm:X.mg x=some (.ref f))(hk:FH X.K (.ref f)=true)(hb:gz X.K fd ps ds)(hd:Vals dvs ds)(hx:oo CX X E)
  (ha:PA X (e::es) t) (hdb:(x == ("__debug__" : Str))=false:=by decide) (he:starEach (e::es) X.env=(false,eval e X.env)::starEach es X.env:=by rfl) (hpl:(backTo pos (starEach es X.env)).any (·.1)=false:=by rfl) :
  PE X (.Call (.Name x p) (e::es) [] pos) (tCall sp dvs E t):=by
 intro pins s σ H Q I h
 refine wpAny_Call_Name_kw (ko I hg hm ?_ hdb)
 refine He (h₀:=X.base) I.ok.mod.kin hk (thn (ha pos pins s σ H _ I h) fun us s1 ⟨vs,H1,I1,r,q⟩=>⟨I1.kIn,?_⟩) he hpl
 exact A6 F hr hb hd hx I1 r q
theorem Bi{pl:Sem Bool}(he:PE X o ta)(c:Cls X.K C)(hm:Meth X.K C m f)(F:FnOk X.prog X.w X.K X.mg X.base CX k f fd ps sp)(hr:Room k X.A)(hb:gz X.K fd ps ds)(hd:Vals dvs ds)(hx:oo CX X E)(ha:PA X (e::es) t)
  (hst:starEach (e::es) X.env=(false,eval e X.env)::starEach es X.env:=by rfl) (hpl:(backTo pos (starEach es X.env)).any (·.1)=false:=by rfl)
  (ht:eval (.Call (.Attribute o m apos) (e::es) [] pos) X.env=(do
   let ov ← eval o X.env
   standAt apos.atName
   let (f,first) ← holding [ov] (getMethod ov m pl)
   callWith pos f first (backTo pos (starEach (e::es) X.env)) (backToKw pos (keywordEach [] X.env))):=by rfl) :
  PE X (.Call (.Attribute o m apos) (e::es) [] pos) (tMeth C m sp dvs E ta t):=by
 intro pins s σ H Q I h
 refine PySem.W.methodCall_KW (pl:=pl) (thn (he pins s σ H _ I h) fun u s1 ⟨x,H1,I1,rx,a,dx,fs,ex,ea,l,q⟩=>?_) ht
 subst ex
 obtain rfl:u=Value.ref a:=rx
 refine pz I1 ea c hm l ?_
 refine He (first:=[.ref a]) (h₀:=X.base) I.ok.mod.kin hm.kp (thn (ha pos pins s1 σ H1 _ I1 q) fun us s2 ⟨vs,H2,I2,r,q2⟩=>⟨I2.kIn,?_⟩) hst hpl
 exact A6 (us:=.ref a::us) (vs:=.ref a::vs) F hr hb hd hx I2 (.cons rfl r) q2
theorem mD{pl:Sem Bool}(he:PE X o ta)(c:Cls X.K C)(hm:Meth X.K C m f)(F:FnOk X.prog X.w X.K X.mg X.base CX k f fd ps sp)(hr:Room k X.A)(hb:gz X.K fd ps ds)(hd:Vals dvs ds)(hx:oo CX X E)
  (ht:eval (.Call (.Attribute o m apos) [] [] pos) X.env=(do
   let ov ← eval o X.env
   standAt apos.atName
   let (f,first) ← holding [ov] (getMethod ov m pl)
   callWith pos f first (backTo pos (starEach [] X.env)) (backToKw pos (keywordEach [] X.env))):=by rfl) :
  PE X (.Call (.Attribute o m apos) [] [] pos) (tMeth C m sp dvs E ta tNil):=by
 intro pins s σ H Q I h
 refine PySem.W.methodCall_KW (pl:=pl) (thn (he pins s σ H _ I h) fun u s1 ⟨x,H1,I1,rx,a,dx,fs,ex,ea,l,q⟩=>?_) ht
 subst ex
 obtain rfl:u=Value.ref a:=rx
 refine pz I1 ea c hm l ?_
 exact PySem.W.callWith_K0 (first:=[.ref a]) I1.kIn hm.kp (A6 (us:=[.ref a]) (vs:=[.ref a]) F hr hb hd hx I1 (.cons rfl .nil) q)
structure Mk(K:Fw)(C f:Addr):Prop where
 makes:Hs K C=true
 init:FJ K (.ref C) "__init__" = some (some (.ref f))
 fn:GU K (.ref f)=true
 kp:FH K (.ref C)=true
theorem C0{pins:List (Addr×Obj)}{σ:St}{H:Hp}{s:Shared}{Q:VK}{us:List Value}{vs:List V}(M:Mk X.K C f)(F:FnOk X.prog X.w X.K X.mg X.base CX k f fd ps sp)(hr:Room (k+1) X.A)(hb:gz X.K fd ps ds)(hd:Vals dvs ds)
  (hx:oo CX X E) (I:Inv X pins σ H s) (r:Vals vs us)
  (h:∀ x dx,H x=none->H dx=none->dx≠x->sp (.ref x::(vs++dvs)) (upd (upd H dx (.own x)) x (.ins C dx [])) (fun v H2=>v=.non/\Q (.ref x) H2) E) :
  wpAny (model X.prog X.w) X.A (call (.ref C) us) (EP X pins σ Q) X.xe s:=by
 have hq:=h (s.heap.objs.size+1) s.heap.objs.size (I.hok.fresh (G4 _)) (I.hok.fresh (FD _)) (F4 (GP _))
 have I2:=Inv.made (C:=C) I
 have r2:Vals (V.ref (s.heap.objs.size+1)::(vs++dvs)) (Value.ref (s.heap.objs.size+1)::(us++ds)):=.cons rfl (r.append hd)
 have hl:(Value.ref (s.heap.objs.size+1)::us++ds).length=ps.length:=by
  have e:=r2.length
  rw[F.len _ _ _ _ hq]at e
  exact e.symm
 refine wpAny_call (Dn (f:=f) I.kIn M.makes M.init (beq_iff_eq.mp M.fn) (codeAny_mono (F.run _ X.stack _ _ ⟨Value.ref (s.heap.objs.size+1)::us,[]⟩ (Value.ref (s.heap.objs.size+1)::(us++ds)) _ _ E (hr.make C us [])
  (I2.env0.make C us []) (hb _ (Value.ref (s.heap.objs.size+1)::us) I2.kIn hl) r2 hq) fun r s' hq'=>?_))
 cases r with
 |error e=>exact hx pins σ _ _ e s' I2 hq'
 |ok fl =>
  cases fl with
  |ret u =>
   obtain⟨v,H',I3,rv,ev,q3⟩:=I2.after hq'
   subst ev
   exact⟨rv,⟨V.ref (s.heap.objs.size+1),H',I3,rfl,q3⟩⟩
  |next=>exact False.elim hq'
  |brk=>exact False.elim hq'
  |cont=>exact False.elim hq'
theorem wz(M:Mk X.K C f)(F:FnOk X.prog X.w X.K X.mg X.base CX k f fd ps sp)(hr:Room (k+1) X.A)(hg:Gl X x)(hm:X.mg x=some (.ref C))(hb:gz X.K fd ps ds)(hd:Vals dvs ds)(hx:oo CX X E)
  (ha:PA X (e::es) t) (hdb:(x == ("__debug__" : Str))=false:=by decide) (he:starEach (e::es) X.env=(false,eval e X.env)::starEach es X.env:=by rfl) (hpl:(backTo pos (starEach es X.env)).any (·.1)=false:=by rfl) :
  PE X (.Call (.Name x p) (e::es) [] pos) (tMake C sp dvs E t):=by
 intro pins s σ H Q I h
 refine wpAny_Call_Name_kw (ko I hg hm ?_ hdb)
 refine He (h₀:=X.base) I.ok.mod.kin M.kp (thn (ha pos pins s σ H _ I h) fun us s1 ⟨vs,H1,I1,r,q⟩=>⟨I1.kIn,?_⟩) he hpl
 exact C0 M F hr hb hd hx I1 r q
end
section
variable{X:Cx}{CX:CXT}{k:Nat}{f C:Addr}{fd:FuncData}{ps ks:List Str}{sp:Sp}{E:XK}{x m:Str}{p pos apos kpos:Pos}{e o:Expr}{es:List Expr}{kws:List Keyword}{te ta:TE}{t tk:TA}{nm:Option Str}
variable{g:List Value->List Value->List Value}{gV:List V->List V->List V}
end
structure aD(N P:List Str)(sc:Scope):Prop where
 kind:sc.kind=.function
 co:sc.isCoroutine=false
 gen:sc.isGenerator=false
 nd:N.Nodup
 pre:N.take P.length=P
 par:∀ x∈P,sc.names.lookup x=some .local∨sc.names.lookup x=some .cell
 nofree:∀ y∈sc.names,y.2≠.free
theorem u4{kindOf:Str->Option NameKind}{x:Str}:∀{binds:List (Str×Value)}{m:Str->Option Value},(∀ v,(x,v)∉binds)->bindL kindOf binds m x=m x
 |[],_,_=>rfl
 | (n,v)::r,m,h=>by
  unfold bindL
  rw[u4 fun w hw=>h w (FK _ hw)]
  split
  ·have:x≠n:=by rintro rfl;exact h v FP
   simp[this]
  ·rfl
theorem u6{kindOf:Str->Option NameKind}{x:Str}:∀{binds:List (Str×Value)}{m:Str->Option Value},(∀ v,(x,v)∉binds)->bindC kindOf binds m x=m x
 |[],_,_=>rfl
 | (n,v)::r,m,h=>by
  unfold bindC
  rw[u6 fun w hw=>h w (FK _ hw)]
  split
  ·rfl
  ·have:x≠n:=by rintro rfl;exact h v FP
   simp[this]
theorem u5{kindOf:Str->Option NameKind}{x:Str}{v:Value}:∀{P:List Str}{vs:List Value}{i:Nat}{m:Str->Option Value},P.Nodup->P[i]?=some x->vs[i]?=some v->kindOf x=some .local ->
  bindL kindOf (P.zip vs) m x=some v
 |[],_,_,_,_,h,_,_=>by simp at h
 |_::_,[],_,_,_,_,h,_=>by simp at h
 |p::P,w::vs,0,m,nd,h1,h2,hk=>by
  simp at h1 h2;subst h1;subst h2
  show bindL kindOf ((p,w)::P.zip vs) m p=_
  unfold bindL
  rw[u4 fun v hv=>(FT.mp nd).1 (Iv hv).1,if_pos hk]
  simp
 |p::P,w::vs,i+1,m,nd,h1,h2,hk=>by
  show bindL kindOf ((p,w)::P.zip vs) m x=_
  unfold bindL
  exact u5 (i:=i) (FT.mp nd).2 (by simpa using h1) (by simpa using h2) hk
theorem u9{kindOf:Str->Option NameKind}{x:Str}{v:Value}:∀{P:List Str}{vs:List Value}{i:Nat}{m:Str->Option Value},P.Nodup->P[i]?=some x->vs[i]?=some v->kindOf x≠some .local ->
  bindC kindOf (P.zip vs) m x=some v
 |[],_,_,_,_,h,_,_=>by simp at h
 |_::_,[],_,_,_,_,h,_=>by simp at h
 |p::P,w::vs,0,m,nd,h1,h2,hk=>by
  simp at h1 h2;subst h1;subst h2
  show bindC kindOf ((p,w)::P.zip vs) m p=_
  unfold bindC
  rw[u6 fun v hv=>(FT.mp nd).1 (Iv hv).1,if_neg hk]
  simp
 |p::P,w::vs,i+1,m,nd,h1,h2,hk=>by
  show bindC kindOf ((p,w)::P.zip vs) m x=_
  unfold bindC
  exact u9 (i:=i) (FT.mp nd).2 (by simpa using h1) (by simpa using h2) hk
def pU(N:List Str)(vs:List V):St:=vs.map some++G1 (N.length-vs.length) none
def cxOf(CX:CXT)(P:Program)(w:World)(K:Fw)(mg:Str->Option Value)(base:Heap)(N:List Str)(qual:Str)(scope:Scope)(f:Addr)(cd:Value)(A:Around)(outer:List Env)(s:Shared)(H:Hp)(E:XK):Cx where
 prog:=P
 w:=w
 K:=K
 mg:=mg
 base:=base
 A:=A.deeper (envOfC qual scope s.heap.objs.size f cd)
 N:=N
 s₀:=s
 H₀:=H
 env:=envOfC qual scope s.heap.objs.size f cd
 outer:=outer
 stack:=envOfC qual scope s.heap.objs.size f cd::outer
 ex:=[]
 calm:=true
 fn:=fun _=>true
 pn:=[]
 xe:=fun e s'=>wpAny (model P w) (A.deeper (envOfC qual scope s.heap.objs.size f cd)) (leaving (envOfC qual scope s.heap.objs.size f cd) e) (fun _ s''=>CX outer H s E e s'') (fun e' s''=>CX outer H s E e' s'') s'
theorem yX{sc:Scope}{n:Nat}{x:Str}(h:sc.names.lookup x=some .cell):∃ c,(cellsFrom n sc.names []).lookup x=some c:=by
 have q:=PySem.W.cellsFrom_some sc.names n [] (.inl h)
 exact HC.mp q
theorem BZ{CX:CXT}{P:Program}{w:World}{K:Fw}{mg:Str->Option Value}{base:Heap}{N ps:List Str}{qual:Str}{scope:Scope}{f:Addr}{cd:Value}{A:Around}{outer:List Env}{s s1:Shared}{H:Hp}{E:XK}{us:List Value}{vs:List V}
  (S:aD N ps scope) (hd:A.handled=none) (e0:Env0 P w K mg base A outer s H) (hl:vs.length=ps.length) (r:Vals vs us)
  (x:InCallC s s.heap.objs.size (bindL (envOfC qual scope s.heap.objs.size f cd).kindOf (ps.zip us) fun _=>none) (cellsFrom (s.heap.objs.size+1) scope.names []) (bindC (envOfC qual scope s.heap.objs.size f cd).kindOf (ps.zip us) fun _=>none) s1) :
  Inv (cxOf CX P w K mg base N qual scope f cd A outer s H E) [] (pU N vs) H s1:=by
 have hpl:ps.length<=N.length:=by have:=congrArg List.length S.pre;rw[GL]at this;omega
 obtain⟨h1,tk,rfl,hk⟩:=x.done
 have noA:∀ b:Addr,b∉(cxOf CX P w K mg base N qual scope f cd A outer s H E).ex:=fun b z=>absurd (show b∈([]:List Addr) from z) (by simp)
 refine⟨⟨e0.mod,S.kind,rfl,rfl,FD _,fun y z c h1 h2=>?_,fun y hy=>?_,fun y c _ h=>?_,fun _=>hd,Around.frames_deeper e0.frames,.inr ⟨rfl,rfl⟩,fun b z=>absurd z (noA b),e0.bs,e0.bsz,fun b _ _=>noA b,fun b z=>absurd z (noA b),e0.funs,e0.frf⟩,
  rfl,e0.bare,Un.kept hk,⟨_,x.toInCall.ns,fun i y v h1 h2 h3=>?_⟩,fun y c h=>⟨_,x.cell y c h⟩,e0.hok.fresh (FD _),fun y c h=>?_,fun p hp=>absurd (show p∈([]:List (Addr×Obj)) from hp) (by simp),e0.hok.kept hk,?_⟩
 ·exact name_of_addr x.apart (GC h1) (GC h2)
 ·have hy:scope.names.lookup y=some .cell∨scope.names.lookup y=some .free:=hy
  rcases hy with hy | hy
  ·exact yX hy
  ·exact absurd rfl (S.nofree _ (GC hy))
 ·exact Gw (x.above y c (GC h))
 ·have hi:i<vs.length:=by
   unfold pU at h2
   by_cases hi:i<vs.length
   ·exact hi
   ·rw[Fz (by simpa using hi)]at h2
    rw[GY]at h2
    split at h2<;>cases h2
  have ha:vs[i]?=some v:=by
   unfold pU at h2
   rw[FA (by simpa using hi),F0]at h2
   cases e:vs[i]? with
   |none=>rw[e]at h2;cases h2
   |some a=>rw[e]at h2;cases h2;rfl
  obtain⟨u,hu,rv⟩:=r.get ha
  have hp:ps[i]?=some y:=by
   rw[← S.pre,List.getElem?_take_of_lt (by omega)];exact h1
  have ndP:ps.Nodup:=by rw[← S.pre];exact S.nd.sublist (List.take_sublist _ _)
  refine⟨u,rv,?_⟩
  rcases S.par y (Fx hp)with k | k
  ·exact .inl ⟨k,u5 ndP hp hu k⟩
  ·obtain⟨c,e⟩:=yX (n:=s.heap.objs.size+1) k
   refine .inr ⟨.inl k,c,e,?_⟩
   have q:=x.cell y c e
   rw[u9 ndP hp hu (by show scope.names.lookup y≠_;rw[k];decide)]at q
   exact q
 ·exact e0.hok.fresh (Gw (x.above y c (GC h)))
 ·unfold pU
  show _=N.length
  rw[Fy,FF,List.length_replicate]
  omega
theorem fn_of{CX:CXT}{P:Program}{w:World}{K:Fw}{mg:Str->Option Value}{base:Heap}{k:Nat}{f:Addr}{name qual:Str}{params:Arguments}{body:List Stmt}{scope:Scope}{dV kV doc pm cdv ct oc:Value}{an od:Option Addr}
  {osl:Array (Option Value)} {N ps:List Str} {sp:Sp} (lk:K.lookup f=some ⟨oc,od,.func (FU name qual params body scope dV kV doc pm an cdv ct),osl⟩) (hcd:FO K cdv qual=true) (S:aD N ps scope)
  (len:∀ vs H Q E,sp vs H Q E->vs.length=ps.length)
  (hbody:∀(A:Around)(outer:List Env)(s:Shared)(H:Hp)(vs:List V)(Q:VK)(E:XK),Room k (A.deeper (envOfC qual scope s.heap.objs.size f cdv))->sp vs H Q E ->
   ∃ t,PSs (cxOf CX P w K mg base N qual scope f cdv A outer s H E) body t/\t { nx:=fun _ H'=>Q .non H',rt:=Q } (pU N vs) H) :
  FnOk P w K mg base CX (k+1) f (FU name qual params body scope dV kV doc pm an cdv ct) ps sp:=by
 refine⟨len,fun A outer s H args us vs Q E hr e0 hb r hsp=>?_⟩
 have hl:=len _ _ _ _ hsp
 have KX:K.In s.heap:=e0.mod.kin.keeps fun b o e=>(e0.bs b o e).1
 have lim:s.heap.NoLimit:=e0.mod.nolimit.keeps fun b o e=>(e0.bs b o e).1
 have hkind:∀ y∈ps.zip us,scope.names.lookup y.1=some .local∨(scope.names.lookup y.1=some .cell/\((cellsFrom (s.heap.objs.size+1) scope.names []).lookup y.1).isSome=true):=fun⟨n,v⟩ hy=>by
  rcases S.par n (Iv hy).1 with q | q
  ·exact .inl q
  ·exact .inr ⟨q,PySem.W.cellsFrom_some _ _ _ (.inl q)⟩
 refine codeAny_call_function hr.depth (KX _ _ lk) rfl S.co S.gen rfl (PySem.W.codeRec_of KX hcd) (hb _ _ _ _ ?_)
 refine wpAny_newFunctionEnv_cells S.kind hkind fun env he s1 x=>?_
 subst he
 refine⟨lim.keeps x.toInCall.keep,codeAny_func ?_⟩
 obtain⟨t,ht,hq⟩:=hbody A outer s H vs Q E (hr.deeper _) hsp
 have I:Inv (cxOf CX P w K mg base N qual scope f cdv A outer s H E) [] (pU N vs) H s1:=BZ S hr.hd e0 hl r x
 refine wpAny_mono (ht [] s1 (pU N vs) H _ I hq) (fun fl s' hs=>?_) fun e s' hs=>hs
 have fin:∀{σ':St}{H':Hp}{v:V}{u:Value},Inv (cxOf CX P w K mg base N qual scope f cdv A outer s H E) [] σ' H' s'->RelV v u->Q v H'->CE outer P w H s Q u s' :=
  fun{σ' H' v u} J rv q=>⟨v,H',J.os,J.bare,J.base,J.hok,rv,q⟩
 cases fl with
 |ret u =>
  obtain⟨v,σ',H',J,rv,q⟩:=hs
  exact fin J rv q
 |next =>
  obtain⟨σ',H',J,q⟩:=hs
  exact fin (v:=V.non) (u:=Value.none) J rfl q
 |brk =>
  obtain⟨_,_,_,q⟩:=hs
  exact False.elim q
 |cont =>
  obtain⟨_,_,_,q⟩:=hs
  exact False.elim q
end L2
namespace L2
open PySem PySem.Spec PyProof.Rows
section
variable{X:Cx}{x:Str}{p pos:Pos}{e:Expr}{es:List Expr}{t:TA}{id T:String}{r:List V->Hp->VK->Prop}
def tCB(r:List V->Hp->VK->Prop)(t:TA):TE:=fun σ H Q=>t σ H fun vs H1=>r vs H1 Q
theorem aB(hc:jy X (.builtin id) r)(hg:Gl X x)(hm:X.mg x=none)(hv:bootBuiltins x=some (.builtin id))(ha:PA X (e::es) t) (hn:x≠"__name__":=by decide) (hdb:(x == ("__debug__" : Str))=false:=by decide)
  (he:starEach (e::es) X.env=(false,eval e X.env)::starEach es X.env:=by rfl) (hpl:(backTo pos (starEach es X.env)).any (·.1)=false:=by rfl):PE X (.Call (.Name x p) (e::es) [] pos) (tCB r t):=by
 intro pins s σ H Q I h
 refine wpAny_Call_Name_kw (pj I hg hm hv ?_ hn hdb)
 exact PyProof.Rows.callWith_builtin1 (thn (ha pos pins s σ H _ I h) fun us s1 ⟨vs,H1,I1,r1,q1⟩=>hc pins s1 σ H1 vs us Q I1 r1 q1) he hpl
theorem fq(hc:jy X (.type T) r)(hg:Gl X x)(hm:X.mg x=none)(hv:bootBuiltins x=some (.type T))(ha:PA X (e::es) t) (hn:x≠"__name__":=by decide) (hdb:(x == ("__debug__" : Str))=false:=by decide)
  (he:starEach (e::es) X.env=(false,eval e X.env)::starEach es X.env:=by rfl) (hpl:(backTo pos (starEach es X.env)).any (·.1)=false:=by rfl):PE X (.Call (.Name x p) (e::es) [] pos) (tCB r t):=by
 intro pins s σ H Q I h
 refine wpAny_Call_Name_kw (pj I hg hm hv ?_ hn hdb)
 exact PyProof.Rows.callWith_type1 (thn (ha pos pins s σ H _ I h) fun us s1 ⟨vs,H1,I1,r1,q1⟩=>hc pins s1 σ H1 vs us Q I1 r1 q1) he hpl
end
end L2
namespace HT
open PySem PyProof.Rows
section
open PySem.SeqAt
open PySem.AutoSeq1 (wpAny_loadPart')
open PySem.MeetsSeq PySem.MeetsSeq2 PySem.MeetsSeq3
end
section
variable{prog:Program}{w:World}{A:Around}{E:Value->Shared->Prop}{s:Shared}
def sIx(n d:Nat):Option Int->Nat
 |none=>d
 |some v=>if v<0 then(v+(n:Int)).toNat else min v.toNat n
theorem sIx_nat(n d k:Nat):sIx n d (some (k:Int))=min k n:=by
 show(if(k:Int)<0 then((k:Int)+(n:Int)).toNat else min (k:Int).toNat n)=min k n
 rw[if_neg (by omega),F1]
end
end HT
namespace L2
open PySem PySem.Spec PyProof.Rows
abbrev TO:=St->Hp->(Option Int->Hp->Prop)->Prop
def PO(X:Cx)(e:Option Expr)(t:TO):Prop :=
 ∀(pins:List (Addr×Obj))(s:Shared)(σ:St)(H:Hp)(Q:Option Int->Hp->Prop),Inv X pins σ H s->t σ H Q ->
  wpAny (model X.prog X.w) X.A (evalPart e X.env) (fun u s'=>∃ o H',Inv X pins σ H' s'/\IsPart u o/\Q o H') X.xe s
def Ei:TO:=fun _ H Q=>Q none H
def tPart(t:TE):TO:=fun σ H Q=>t σ H fun x H1=>∃ i,x=.int i/\Q (some i) H1
section
variable{X:Cx}{e:Expr}{te:TE}{lo hi:Option Expr}{tl th:TO}{pos p2:Pos}
theorem Bc:PO X none Ei:=by
 intro pins s σ H Q I h
 rw[evalPart_none]
 exact wpAny_pure ⟨none,H,I,.none,h⟩
theorem Bb(h:PE X e te):PO X (some e) (tPart te):=by
 intro pins s σ H Q I hw
 rw[evalPart_some]
 refine thn (h pins s σ H _ I hw) fun u s1 ⟨x,H1,I1,r1,q1⟩=>?_
 obtain⟨i,rfl,q⟩:=q1
 obtain⟨t,rfl⟩:=r1
 exact⟨some i,H1,I1,.int i t,q⟩
def SlR(X:Cx)(r:V->Option Int->Option Int->Hp->VK->Prop):Prop :=
 ∀(pins:List (Addr×Obj))(s:Shared)(σ:St)(H:Hp)(x:V)(v vl vu:Value)(lo hi:Option Int)(sl:Addr)(Q:VK),Inv X pins σ H s->RelV x v->s.heap.IsSliceOf sl vl vu .none->IsPart vl lo->IsPart vu hi->r x lo hi H Q ->
  ∃ T id,typeLookup (.type T) "__getitem__" = pure (some (.builtin id))/\s.TypeIs v T/\wpAny (model X.prog X.w) X.A (getItem v (.ref sl)) (EP X pins σ Q) X.xe s
def tSl(r:V->Option Int->Option Int->Hp->VK->Prop)(te:TE)(tl th:TO):TE:=fun σ H Q=>te σ H fun x H1=>tl σ H1 fun l H2=>th σ H2 fun u H3=>r x l u H3 Q
theorem yE{r:V->Option Int->Option Int->Hp->VK->Prop}(hr:SlR X r)(he:PE X e te)(hl:PO X lo tl)(hu:PO X hi th):PE X (.Subscript e (.Slice lo hi none p2) pos) (tSl r te tl th):=by
 intro pins s σ H Q I h
 refine Subscript_ (thn (he pins s σ H _ I h) fun v s1 ⟨x,H1,I1,r1,q1⟩=>?_)
 refine wpAny_Slice (thn (hl pins s1 σ H1 _ I1 q1) fun vl s2 ⟨l,H2,I2,pl,q2⟩=>thn (hu pins s2 σ H2 _ I2 q2) fun vu s3 ⟨u,H3,I3,pu,q3⟩=>?_)
 rw[evalPart_none]
 refine wpAny_pure ?_
 have I4:Inv X pins σ H3 { s3 with heap:=s3.heap.push { cls:=.type "slice",data:=.fields #[vl,vu,.none] } }:=I3.kept (t':=s3.toks) fun b ob q=>Heap.get?_push_of_some _ q
 obtain⟨T,id,hT,ht,hg⟩:=hr pins { s3 with heap:=s3.heap.push { cls:=.type "slice",data:=.fields #[vl,vu,.none] } } σ H3 x v vl vu l u s3.heap.objs.size Q I4 r1 (Heap.IsSliceOf.new ..) pl pu q3
 show wpAny (model X.prog X.w) X.A (subscriptTail e (.Slice lo hi none p2) v (.ref s3.heap.objs.size)) (EP X pins σ Q) X.xe { s3 with heap:=s3.heap.push { cls:=.type "slice",data:=.fields #[vl,vu,.none] } }
 exact tail_any (ops:=[.ref s3.heap.objs.size,v]) ht hT hg (by with_unfolding_all rfl)
def cutV(xs:List V)(lo hi:Option Int):List V:=(xs.drop (HT.sIx xs.length 0 lo)).take (HT.sIx xs.length xs.length hi-HT.sIx xs.length 0 lo)
theorem xS(xs:List V)(lo hi:Option Int):(cutV xs lo hi).length<=xs.length:=by
 unfold cutV
 rw[GL,G8]
 omega
end
end L2
namespace L2
open PySem PySem.Spec PyProof.Rows
def ixN(n:Nat)(i:Int):Option Nat:=if 0<=i then(if i<n then some i.toNat else none) else if -(n:Int)<=i then some (i+n).toNat else none
def atI{α:Type}(xs:List α)(i:Int):Option α:=(ixN xs.length i).bind fun j=>xs[j]?
theorem BV{n:Nat}{i:Int}{j:Nat}(h:ixN n i=some j):seqIndex? i n=some j/\j<n/\-(n:Int)<=i/\i<n:=by
 unfold ixN at h
 by_cases h0:0<=i
 ·rw[if_pos h0]at h
  by_cases h1:i<n
  ·rw[if_pos h1]at h
   have e:i.toNat=j:=FW h
   exact⟨by rw[seqIndex_of h0 h1,e],by omega,by omega,h1⟩
  ·rw[if_neg h1]at h;cases h
 ·rw[if_neg h0]at h
  by_cases h1 : -(n:Int)<=i
  ·rw[if_pos h1]at h
   have e:(i+n).toNat=j:=FW h
   exact⟨by rw[seqIndex_neg (by omega) h1,e],by omega,h1,by omega⟩
  ·rw[if_neg h1]at h;cases h
theorem CG{α:Type}{xs:List α}{i:Int}{v:α}(h:atI xs i=some v):∃ j,seqIndex? i xs.length=some j/\xs[j]?=some v/\j<xs.length/\-(xs.length:Int)<=i/\i<xs.length:=by
 unfold atI at h
 cases e:ixN xs.length i with
 |none=>rw[e]at h;cases h
 |some j =>
  rw[e]at h
  obtain⟨h1,h2,h3,h4⟩:=BV e
  exact⟨j,h1,h,h2,h3,h4⟩
theorem aI{α:Type}{xs:List α}{j:Nat}{v:α}(h:xs[j]?=some v):atI xs (j:Int)=some v:=by
 have hj:j<xs.length:=(Fv.mp h).1
 have e:ixN xs.length (j:Int)=some j:=by
  unfold ixN
  rw[if_pos (by omega),if_pos (by omega)];simp
 unfold atI;rw[e];exact h
def Fs(b:Expr):Prop:=∀ o i,subscripted b false o i=operate [o,i] (getItem o i)
def IxR(X:Cx)(r:R2):Prop :=
 ∀(value slice:Expr)(pins:List (Addr×Obj))(s:Shared)(σ:St)(H:Hp)(x y:V)(v u:Value)(Q:VK),Inv X pins σ H s->RelV x v->RelV y u->r x y H Q ->
  subscripted slice false v u=operate [v,u] (getItem v u)->wpAny (model X.prog X.w) X.A (subscriptTail value slice v u) (EP X pins σ Q) X.xe s
def MtR(X:Cx)(id:String)(r:V->List V->Hp->VK->Prop):Prop :=
 ∀(pins:List (Addr×Obj))(s:Shared)(σ:St)(H:Hp)(x:V)(xs:List V)(v:Value)(us:List Value)(Q:VK),Inv X pins σ H s->RelV x v->Vals xs us->r x xs H Q ->
  wpAny (model X.prog X.w) X.A (call (.builtin id) (v::us)) (EP X pins σ Q) X.xe s
section
variable{X:Cx}{a b:Expr}{ta tb:TE}{pos:Pos}
theorem ax{r:R2}(hr:IxR X r)(ha:PE X a ta)(hb:PE X b tb)(hs:Fs b):PE X (.Subscript a b pos) (tOp r ta tb):=by
 intro pins s σ H Q I h
 exact Subscript_ (binT ha hb I h fun v u s2 x y H2 I2 rx ry q=>hr a b pins s2 σ H2 x y v u Q I2 rx ry q (hs _ _))
def rIxL(K:Fw):R2:=fun x y H Q=>∃ p xs i v,x=.ref p/\y=.int i/\SqL K H p xs/\atI xs i=some v/\Q v H
def rIxT(K:Fw):R2:=fun x y H Q=>∃ p xs i v,x=.ref p/\y=.int i/\SqT K H p xs/\atI xs i=some v/\Q v H
theorem aG:IxR X (rIxL X.K):=by
 intro value slice pins s σ H x y v u Q I rx ry h hs
 obtain⟨p,xs,i,z,rfl,rfl,hq,he,q⟩:=h
 cases rx
 obtain⟨t,rfl⟩:=ry
 obtain⟨its,r,pl,hz⟩:=I.list hq
 obtain⟨j,h1,h2,h3,h4,h5⟩:=CG he
 obtain⟨w,ew,rw'⟩:=r.get h2
 have hl:=r.length
 have hn:=ui
 have fin:EP X pins σ Q w s:=⟨z,H,I,rw',q⟩
 by_cases h0:0<=i
 ·have hj:i.toNat=j:=by
   rw[seqIndex_of h0 h5]at h1
   exact FW h1
  exact item_listR pl.isList h0 (by omega) (by rw[hj];simpa using ew) fin hs
 ·have hj:(i+(its.toArray.size:Int)).toNat=j:=by
   rw[seqIndex_neg (by omega) h4]at h1
   rw[FZ,← hl]
   exact FW h1
  exact subscriptTail_builtinR (x:=w) pl.isList.typeIs slot_list_getitem.lookup
   (wpAny_getItem_list_neg (Q:=fun r s'=>r=w/\EP X pins σ Q r s') pl.isList (by omega) (by rw[FZ]<;>omega) (by omega) (by rw[hj];simpa using ew) ⟨rfl,fin⟩) hs
theorem aE:IxR X (rIxT X.K):=by
 intro value slice pins s σ H x y v u Q I rx ry h hs
 obtain⟨p,xs,i,z,rfl,rfl,hq,he,q⟩:=h
 cases rx
 obtain⟨t,rfl⟩:=ry
 obtain⟨its,r,pl,hz⟩:=I.tuple hq
 obtain⟨j,h1,h2,h3,h4,h5⟩:=CG he
 obtain⟨w,ew,rw'⟩:=r.get h2
 have hl:=r.length
 have hn:=ui
 have fin:EP X pins σ Q w s:=⟨z,H,I,rw',q⟩
 exact subscriptTail_builtinR (x:=w) pl.typeIs slot_tuple_getitem.lookup
  (getItem_tuple (j:=j) (Q:=fun r s'=>r=w/\EP X pins σ Q r s') pl (by omega) (by omega) (by rw[FZ,← hl];exact h1) (by simpa using ew) ⟨rfl,fin⟩) hs
theorem zM(its:List Value)(n j:Nat)(u:Value):Obj.mapSeq (·.setIfInBounds j u) { cls:=.type "list",data:=.seq its.toArray n }={ cls:=.type "list",data:=.seq (its.set j u).toArray n }:=by
 simp[Obj.mapSeq]
theorem Inv.lst{pins:List (Addr×Obj)}{σ:St}{H:Hp}{s:Shared}{p:Addr}{xs:List V}(I:Inv X pins σ H s)(h:H p=some (.lst xs)) :
  ∃(its:List Value)(n:Nat),Vals xs its/\s.heap.get? p=some { cls:=.type "list",data:=.seq its.toArray n }/\xs.length<=sizeLine:=by
 obtain⟨z,its,n,r,e⟩:=I.hok p _ h
 exact⟨its,n,r,e,z⟩
theorem Inv.lstUpd{pins:List (Addr×Obj)}{σ:St}{H:Hp}{s:Shared}{p:Addr}{xs ys:List V}{its its':List Value}{n n':Nat}{f:Obj->Obj}(I:Inv X pins σ H s)(h:H p=some (.lst xs))
  (ho:s.heap.get? p=some { cls:=.type "list",data:=.seq its.toArray n }) (hf:f { cls:=.type "list",data:=.seq its.toArray n }={ cls:=.type "list",data:=.seq its'.toArray n' }) (r:Vals ys its') (hz:ys.length<=sizeLine) (t:Nat) :
  Inv X pins σ (upd H p (.lst ys)) { s with heap:=s.heap.update p f,toks:=t }:=by
 have e:(s.heap.update p f).get? p=some { cls:=.type "list",data:=.seq its'.toArray n' }:=by
  rw[Heap.get?_update_self f ho (by rw[hf]<;>rfl),hf]
 refine I.write (x:=p) (e:=p) (by rw[h];trivial) (.inl rfl) (fun b u hb q=>(Heap.get?_update_other _ _ (Ne.symm hb)).trans q) ⟨_,e⟩ ?_
 exact⟨hz,its',n',r,e⟩
def rSetL:V->V->V->Hp->(Hp->Prop)->Prop:=fun o i v H Q=>∃ p xs k j,o=.ref p/\i=.int k/\H p=some (.lst xs)/\ixN xs.length k=some j/\Q (upd H p (.lst (xs.set j v)))
theorem yC:PSet X rSetL:=by
 intro pins s σ H o i v ov iv u Q I ro ri rv h
 obtain⟨p,xs,k,j,rfl,rfl,hp,hj,q⟩:=h
 cases ro
 obtain⟨t,rfl⟩:=ri
 obtain⟨its,n,r,ho,hz⟩:=I.lst hp
 obtain⟨h1,h2,h3,h4⟩:=BV hj
 have hl:=r.length
 have hn:=ui
 have I':Inv X pins σ (upd H p (.lst (xs.set j v))) { s with heap:=s.heap.update p (Obj.mapSeq (·.setIfInBounds j u)) } :=
  I.lstUpd hp ho (zM its n j u) (r.set rv j) (by rw[Gv];exact hz) s.toks
 by_cases h0:0<=k
 ·have hk:k.toNat=j:=by
   rw[seqIndex_of h0 h4]at h1
   exact FW h1
  exact PySem.W.ki_setAt ho h0 (by omega) (by rw[FZ,← hl];exact h4) (by rw[hk];exact⟨_,I',q⟩)
 ·have hk:(k+(its.toArray.size:Int)).toNat=j:=by
   rw[seqIndex_neg (by omega) h3]at h1
   rw[FZ,← hl]
   exact FW h1
  exact PySem.W.ki_setBack ho (by omega) (by rw[FZ,← hl];exact h3) (by omega) (by rw[hk];exact⟨_,I',q⟩)
theorem sG(lo hi:Option Int)(n:Nat):(sliceBounds lo hi none n).1=((HT.sIx n 0 lo:Nat):Int)/\(sliceBounds lo hi none n).2.1=((HT.sIx n n hi:Nat):Int)/\(sliceBounds lo hi none n).2.2=1:=by
 refine⟨?_,?_,rfl⟩
 ·cases lo with
  |none=>simp[sliceBounds,HT.sIx]
  |some i =>
   simp only[sliceBounds,HT.sIx,Option.getD_none,show(1:Int) > 0 by decide,if_true]
   by_cases h:i<0
   ·simp only[h,if_true]<;>omega
   ·simp only[h,if_false]<;>omega
 ·cases hi with
  |none=>simp[sliceBounds,HT.sIx]
  |some i =>
   simp only[sliceBounds,HT.sIx,Option.getD_none,show(1:Int) > 0 by decide,if_true]
   by_cases h:i<0
   ·simp only[h,if_true]<;>omega
   ·simp only[h,if_false]<;>omega
theorem qc(its:List Value)(lo hi:Option Int):slicePick its.toArray lo hi none=((its.drop (HT.sIx its.length 0 lo)).take (HT.sIx its.length its.length hi-HT.sIx its.length 0 lo)).toArray:=by
 obtain⟨h1,h2,h3⟩:=sG lo hi its.toArray.size
 unfold slicePick
 rw[h1,h2,h3]
 simp only[sliceRange_one,pick_run,FZ]<;>rfl
def rSlL(K:Fw):V->Option Int->Option Int->Hp->VK->Prop:=fun x lo hi H Q=>∃ a xs,x=.ref a/\SqL K H a xs/\∀ p,H p=none->Q (.ref p) (upd H p (.lst (cutV xs lo hi)))
theorem AY:SlR X (rSlL X.K):=by
 intro pins s σ H x v vl vu lo hi sl Q I rx hs pl pu h
 obtain⟨a,xs,rfl,hx,q⟩:=h
 cases rx
 obtain⟨its,r,ht,hz⟩:=I.list hx
 have hlen:=r.length
 refine⟨"list",_,slot_list_getitem.lookup,ht.isList.typeIs,?_⟩
 refine wpAny_getItem_list_slice ht.isList hs pl pu .none (by simp) ?_ (by rw[FZ]<;>omega)
 rw[qc,← hlen]
 refine⟨.ref s.heap.objs.size,_,I.laid (t':=s.toks) (o:=.lst (cutV xs lo hi)) (fun b ob q=>Heap.get?_push_of_some _ q) (FD _) ?_,rfl,q _ (I.hok.fresh (FD _))⟩
 exact⟨Gs (xS xs lo hi) hz,_,0,(r.drop (HT.sIx xs.length 0 lo)).take (HT.sIx xs.length xs.length hi-HT.sIx xs.length 0 lo),Heap.get?_push_size _ rfl⟩
def rB:V->Bool
 |.non=>true
 |.bl _=>true
 |.int _=>true
 |.str _=>true
 |_=>false
def eqV:V->V->Bool
 |.non,.non=>true
 |.bl a,.bl b=>a == b
 |.bl a,.int b=>(if a then 1 else 0) == b
 |.int a,.bl b=>a == (if b then 1 else 0)
 |.int a,.int b=>a == b
 |.str a,.str b=>a == b
 |_,_=>false
theorem eqAt_V{A:Around}{s:Shared}{y x:V}{u v:Value}(ry:RelV y u)(rx:RelV x v)(fy:rB y=true)(fx:rB x=true):SeqAt.EqAt A s u v (eqV y x):=by
 cases y with
 |non =>
  cases ry
  cases x with
  |non=>cases rx;exact SeqAt.EqAt.same _
  |bl b=>cases rx;exact SeqAt.EqAt.none_bool b
  |int b=>obtain⟨t,rfl⟩:=rx;exact SeqAt.EqAt.none_int b t
  |str b=>obtain⟨t,rfl⟩:=rx;exact SeqAt.EqAt.none_str b t
  |_=>exact absurd (show false=true from fx) FV
 |bl a =>
  cases ry
  cases x with
  |non=>cases rx;exact SeqAt.EqAt.bool_none a
  |bl b=>cases rx;exact SeqAt.EqAt.bool_bool a b
  |int b=>obtain⟨t,rfl⟩:=rx;exact SeqAt.EqAt.bool_int a b t
  |str b=>obtain⟨t,rfl⟩:=rx;exact SeqAt.EqAt.bool_str a b t
  |_=>exact absurd (show false=true from fx) FV
 |int a =>
  obtain⟨t',rfl⟩:=ry
  cases x with
  |non=>cases rx;exact SeqAt.EqAt.int_none a t'
  |bl b=>cases rx;exact SeqAt.EqAt.int_bool a t' b
  |int b=>obtain⟨t,rfl⟩:=rx;exact SeqAt.EqAt.int_int a t' b t
  |str b=>obtain⟨t,rfl⟩:=rx;exact SeqAt.EqAt.int_str a t' b t
  |_=>exact absurd (show false=true from fx) FV
 |str a =>
  obtain⟨t',rfl⟩:=ry
  cases x with
  |non=>cases rx;exact SeqAt.EqAt.str_none a t'
  |bl b=>cases rx;exact SeqAt.EqAt.str_bool a t' b
  |int b=>obtain⟨t,rfl⟩:=rx;exact SeqAt.EqAt.str_int a t' b t
  |str b=>obtain⟨t,rfl⟩:=rx;exact SeqAt.EqAt.str_str a t' b t
  |_=>exact absurd (show false=true from fx) FV
 |_=>exact absurd (show false=true from fy) FV
def eqU(x:V)(u:Value):Bool:=match u with
 |.none=>eqV .non x
 |.bool b=>eqV (.bl b) x
 |.int i _=>eqV (.int i) x
 |.str z _=>eqV (.str z) x
 |_=>false
theorem D1{x y:V}{u:Value}(r:RelV y u)(f:rB y=true):eqU x u=eqV y x:=by
 cases y with
 |non=>cases r;rfl
 |bl b=>cases r;rfl
 |int i=>obtain⟨t,rfl⟩:=r;rfl
 |str z=>obtain⟨t,rfl⟩:=r;rfl
 |_=>exact absurd (show false=true from f) FV
theorem yi{x:V}:∀{xs:List V}{us:List Value},Vals xs us->xs.all rB=true->us.any (eqU x)=xs.any fun y=>eqV y x
 |_,_,.nil,_=>rfl
 |y::xs,u::us,.cons r t,f=>by
  rw[List.all_cons,G0]at f
  rw[Hr,Hr,D1 r f.1,yi t f.2]
theorem qW{A:Around}{s:Shared}{x:V}{v:Value}(rx:RelV x v)(fx:rB x=true):∀{xs:List V}{us:List Value},Vals xs us->xs.all rB=true->∀ u∈us,SeqAt.EqAt A s u v (eqU x u)
 |_,_,.nil,_=>fun u hu=>by cases hu
 |y::xs,u::us,.cons r t,f=>fun u' hu=>by
  rw[List.all_cons,G0]at f
  rcases FC.mp hu with rfl | hu
  ·rw[D1 r f.1];exact eqAt_V r rx f.1 fx
  ·exact qW rx fx t f.2 u' hu
def inV(x:V)(xs:List V):Bool:=xs.any fun y=>eqV y x
def rIn(K:Fw)(neg:Bool):R2:=fun x y H Q=>∃ p xs,y=.ref p/\(SqL K H p xs∨SqT K H p xs)/\rB x=true/\xs.all rB=true/\Q (.bl (if neg then !inV x xs else inV x xs)) H
theorem tI:OpR X (compareOp .NotIn) (rIn X.K true):=by
 intro pins s σ H x y v u Q I rx ry h
 obtain⟨p,xs,rfl,hq,fx,fs,q⟩:=h
 cases ry
 rcases hq with hq | hq
 ·obtain⟨its,r,pl,hz⟩:=I.list hq
  refine SeqAt.notIn_listAt (eqU x) pl.isList (fun w hw=>qW rx fx r fs w (by simpa using hw)) ⟨.bl _,H,I,rfl,?_⟩
  rw[show its.toArray.any (eqU x)=its.any (eqU x) by simp,yi r fs]
  exact q
 ·obtain⟨its,r,pl,hz⟩:=I.tuple hq
  refine SeqAt.notIn_tupleAt (eqU x) pl (fun w hw=>qW rx fx r fs w (by simpa using hw)) ⟨.bl _,H,I,rfl,?_⟩
  rw[show its.toArray.any (eqU x)=its.any (eqU x) by simp,yi r fs]
  exact q
theorem aq:jy X (.builtin "len") (fun xs H Q=>∃ p ys,xs = [.ref p]/\(SqL X.K H p ys∨SqT X.K H p ys)/\Q (.int ys.length) H):=by
 intro pins s σ H xs us Q I r h
 obtain⟨p,ys,rfl,hq,q⟩:=h
 obtain⟨u,rfl,rx⟩:=vz r
 cases rx
 have hn:=ui
 rcases hq with hq | hq
 ·obtain⟨its,r',pl,hz⟩:=I.list hq
  have hlen:=r'.length
  exact Calls.call_len_list pl.isList (by simp only[FZ]<;>omega) ⟨.int ys.length,H,I.tok _,⟨s.toks+1,by rw[FZ,hlen]⟩,q⟩
 ·obtain⟨its,r',pl,hz⟩:=I.tuple hq
  have hlen:=r'.length
  exact len_tuple pl (by simp only[FZ]<;>omega) ⟨.int ys.length,H,I.tok _,⟨s.toks+1,by rw[FZ,hlen]⟩,q⟩
theorem eK:jy X (.type "list") (fun xs H Q=>∃ p ys,xs = [.ref p]/\(SqL X.K H p ys∨SqT X.K H p ys)/\∀ l,H l=none->Q (.ref l) (upd H l (.lst ys))):=by
 intro pins s σ H xs us Q I r h
 obtain⟨p,ys,rfl,hq,q⟩:=h
 obtain⟨u,rfl,rx⟩:=vz r
 cases rx
 have fin:∀(its:List Value),Vals ys its->ys.length<=sizeLine->∀(h':Heap)(c':Nat),(∀ b o',s.heap.get? b=some o'->h'.get? b=some o') ->
   h'.get? s.heap.objs.size=some { cls:=.type "list",dict:=none,data:=.seq its.toArray c',slots:=#[] }->EP X pins σ Q (.ref s.heap.objs.size) { s with heap:=h' }:=fun its r' hz h' c' kp e =>
  ⟨.ref s.heap.objs.size,_,I.laid (t':=s.toks) kp (FD _) (show bA X.prog X.w _ h' _ (.lst ys) from⟨hz,its,c',r',e⟩),rfl,q _ (I.hok.fresh (FD _))⟩
 rcases hq with hq | hq
 ·obtain⟨its,r',pl,hz⟩:=I.list hq
  have hlen:=r'.length
  obtain⟨o,ho,hc,n,hd⟩:=pl.isList
  exact call_list_seq p (.inl rfl) ho hc hd (fun h' c' kp e=>fin its r' hz h' c' kp e) (by simp only[FZ]<;>omega)
 ·obtain⟨its,r',pl,hz⟩:=I.tuple hq
  have hlen:=r'.length
  obtain⟨o,ho,hc,n,hd⟩:=pl
  exact call_list_seq p (.inr rfl) ho hc hd (fun h' c' kp e=>fin its r' hz h' c' kp e) (by simp only[FZ]<;>omega)
def tyV(K:Fw)(T:String)(x:V)(H:Hp):Prop:=match x with
 |.str _=>T = "str"
 |.int _=>T = "int"
 |.ref p=>(T = "list"/\∃ xs,SqL K H p xs)∨(T = "tuple"/\∃ o,K.lookup p=some o/\o.cls=.type "tuple"/\o.dict=none) ∨
   (T = "dict"/\((∃ kvs,H p=some (.dK kvs))∨∃ kvs,H p=some (.dT kvs)))∨(T = "set"/\∃ S n,H p=some (.set S n))
 |_=>False
theorem DM{pins:List (Addr×Obj)}{σ:St}{H:Hp}{s:Shared}{T:String}{x:V}{v:Value}(I:Inv X pins σ H s)(r:RelV x v)(ty:tyV X.K T x H) :
  s.TypeIs v T/\∀ a,v=.ref a->∃ ob,s.heap.get? a=some ob/\ob.dict=none:=by
 cases x with
 |str z =>
  obtain⟨t,rfl⟩:=r
  cases (show T = "str" from ty)
  exact⟨typeIs_str s z t,fun _ e=>nomatch e⟩
 |int i =>
  obtain⟨t,rfl⟩:=r
  cases (show T = "int" from ty)
  exact⟨typeIs_int s i t,fun _ e=>nomatch e⟩
 |ref p =>
  cases r
  rcases ty with⟨rfl,xs,hq⟩ | ⟨rfl,o,hk,hc,hd⟩ | ⟨rfl,hk⟩ | ⟨rfl,S,n,hk⟩
  ·obtain⟨its,_,pl,_⟩:=I.list hq
   refine⟨pl.isList.typeIs,fun a e=>?_⟩
   cases e
   obtain⟨o,n,e,c,hd,_⟩:=pl
   exact⟨o,e,hd⟩
  ·refine⟨⟨o,I.kIn p o hk,hc⟩,fun a e=>?_⟩
   cases e
   exact⟨o,I.kIn _ o hk,hd⟩
  ·have z:∃ o,s.heap.get? p=some o/\o.ExactDict:=by
    rcases hk with⟨kvs,hk⟩ | ⟨kvs,hk⟩
    ·obtain⟨_,_,_,_,o,_,_,e,ex,_⟩:=I.hok p _ hk
     exact⟨o,e,ex⟩
    ·obtain⟨_,_,_,_,o,_,_,e,ex,_⟩:=I.hok p _ hk
     exact⟨o,e,ex⟩
   obtain⟨o,e,ex⟩:=z
   refine⟨⟨o,e,ex.1⟩,fun a e2=>?_⟩
   cases e2
   exact⟨o,e,ex.2.1⟩
  ·obtain⟨o,_,_,_,e,ex,_⟩:=I.hok p _ hk
   refine⟨⟨o,e,ex.1⟩,fun a e2=>?_⟩
   cases e2
   exact⟨o,e,ex.2.1⟩
 |_=>exact False.elim ty
def tBM0(K:Fw)(T:String)(r:V->List V->Hp->VK->Prop)(to:TE):TE:=fun σ H Q=>to σ H fun x H1=>tyV K T x H1/\r x [] H1 Q
def tBM(K:Fw)(T:String)(r:V->List V->Hp->VK->Prop)(to:TE)(t:TA):TE:=fun σ H Q=>to σ H fun x H1=>tyV K T x H1/\t σ H1 fun xs H2=>r x xs H2 Q
variable{o e:Expr}{es:List Expr}{to:TE}{t:TA}{name:Str}{apos cpos:Pos}{T id:String}{r:V->List V->Hp->VK->Prop}
theorem pe_bm0(pa:PlainAttrs T)(slot:Slot T name id) (hty:typeOf (.builtin id)=pure (.type "method_descriptor")) (hm:MtR X id r) (ho:PE X o to)
  (hbase:attributeBase o name X.env (eval o X.env)=eval o X.env:=by rfl) (hline:(apos.endLine == cpos.line)=true:=by rfl):PE X (.Call (.Attribute o name apos) [] [] cpos) (tBM0 X.K T r to):=by
 intro pins s σ H Q I h
 refine wpAny_Call_method0_late hbase hline (thn (ho pins s σ H _ I h) fun v s1 ⟨x,H1,I1,r1,ty,q1⟩=>?_)
 obtain⟨h1,h2⟩:=DM I1 r1 ty
 exact⟨T,id,pa,slot,hty,h1,h2,Calls.callWith_builtin rfl (PySem.evalArgs_none (hm pins s1 σ H1 x [] v [] Q I1 r1 .nil q1))⟩
theorem eQ(pa:PlainAttrs T)(slot:Slot T name id) (hty:typeOf (.builtin id)=pure (.type "method_descriptor")) (hm:MtR X id r) (ho:PE X o to) (ha:PA X (e::es) t)
  (hbase:attributeBase o name X.env (eval o X.env)=eval o X.env:=by rfl)
  (hfew:((backTo cpos (starEach (e::es) X.env)).all (fun x=>!x.1)&&(backToKw cpos (keywordEach [] X.env)).all (fun x=>x.1.isSome)
   && decide ((e::es).length+([]:List Keyword).length+(if([]:List Keyword).isEmpty then 0 else 1)<30))=true:=by rfl)
  (hline:(apos.endLine == cpos.line)=true:=by rfl) (hs:starEach (e::es) X.env=(false,eval e X.env)::starEach es X.env:=by rfl) (hplain:(backTo cpos (starEach es X.env)).any (·.1)=false:=by rfl) :
  PE X (.Call (.Attribute o name apos) (e::es) [] cpos) (tBM X.K T r to t):=by
 intro pins s σ H Q I h
 refine wpAny_Call_method_late hbase hfew hline rfl (thn (ho pins s σ H _ I h) fun v s1 ⟨x,H1,I1,r1,ty,q1⟩=>?_)
 obtain⟨h1,h2⟩:=DM I1 r1 ty
 refine⟨T,id,pa,slot,hty,h1,h2,?_⟩
 have hA:=ha cpos pins s1 σ H1 _ I1 q1
 rw[hs]at hA ⊢
 refine Calls.callWith_builtin (by show(false||(backTo cpos (starEach es X.env)).any (·.1))=false;rw[hplain]<;>rfl) (Calls.evalArgs_plain ?_)
 exact thn hA fun us s2 ⟨vs,H2,I2,r2,q2⟩=>hm pins s2 σ H2 x vs v us Q I2 r1 r2 q2
end
end L2
namespace L2
open PySem PySem.Spec PyProof.Rows
def MtM(X:Cx)(id:String)(r:V->List V->Hp->VK->Prop):Prop :=
 ∀(pins:List (Addr×Obj))(s:Shared)(σ:St)(H:Hp)(x:V)(xs:List V)(v:Value)(us:List Value)(Q:VK),Inv X pins σ H s->RelV x v->Vals xs us->r x xs H Q ->
  wpAny (model X.prog X.w) X.A (call (.builtin id) (v::us)) (EP X pins σ Q) X.xe s
theorem Vals.one:∀{x:V}{us:List Value},Vals [x] us->∃ u,us = [u]/\RelV x u
 |_,_,.cons r .nil=>⟨_,rfl,r⟩
theorem Vals.two:∀{x y:V}{us:List Value},Vals [x,y] us->∃ u v,us = [u,v]/\RelV x u/\RelV y v
 |_,_,_,.cons r (.cons q .nil)=>⟨_,_,rfl,r,q⟩
theorem Vals.zero:∀{us:List Value},Vals [] us->us = []
 |_,.nil=>rfl
theorem Vals.dropLast{xs:List V}{us:List Value}(h:Vals xs us):Vals xs.dropLast us.dropLast:=by
 induction h with
 |nil=>exact .nil
 |cons r t ih =>
  cases t with
  |nil=>exact .nil
  |cons q t'=>exact .cons r ih
theorem z8{α:Type}(l:List α):l.eraseIdx (l.length-1)=l.dropLast:=by
 induction l with
 |nil=>rfl
 |cons a r ih =>
  cases r with
  |nil=>rfl
  |cons b r =>
   have e:(a::b::r).length-1=((b::r).length-1)+1:=by
    have h1:(a::b::r).length=r.length+2:=rfl
    have h2:(b::r).length=r.length+1:=rfl
    omega
   rw[e,List.eraseIdx_cons_succ,ih]
   all_goals rfl
section
variable{X:Cx}{pins:List (Addr×Obj)}{σ:St}{H:Hp}{s:Shared}{l b:Addr}{xs ys zs:List V}
theorem Inv.lset{its its':List Value}{n:Nat}{f:Array Value->Array Value}{t':Nat}(I:Inv X pins σ H s)(hH:H l=some (.lst xs))
  (e:s.heap.get? l=some { cls:=.type "list",data:=.seq its.toArray n }) (hf:f its.toArray=its'.toArray) (hv:Vals ys its') (hz:ys.length<=sizeLine) :
  Inv X pins σ (upd H l (.lst ys)) { s with heap:=s.heap.update l (Obj.mapSeq f),toks:=t' }:=by
 have q:=PySem.IsL.update e f
 rw[hf]at q
 refine I.write (x:=l) (e:=l) (by rw[hH];exact trivial) (.inl rfl) (fun b' u hb hu=>(Heap.get?_update_other s.heap (Obj.mapSeq f) (Ne.symm hb)).trans hu) ⟨_,q⟩ ?_
 exact⟨hz,its',_,hv,q⟩
theorem Inv.lnew{its:List Value}{t':Nat}(I:Inv X pins σ H s)(hv:Vals ys its)(hz:ys.length<=sizeLine) :
  Inv X pins σ (upd H s.heap.objs.size (.lst ys)) { s with heap:=s.heap.push { cls:=.type "list",data:=.seq its.toArray },toks:=t' } :=
 I.laid (fun _ _ q=>Heap.get?_push_of_some _ q) (FD _) ⟨hz,its,0,hv,Heap.get?_push_size _ rfl⟩
theorem Inv.fresh(I:Inv X pins σ H s):H s.heap.objs.size=none:=I.hok.fresh (FD _)
theorem Inv.lstM(I:Inv X pins σ H s)(hH:H l=some (.lst xs)):xs.length<=sizeLine/\∃(its:List Value)(n:Nat),Vals xs its/\xs.length=its.length/\s.heap.get? l=some { cls:=.type "list",data:=.seq its.toArray n }:=by
 obtain⟨z,its,n,r,e⟩:=I.hok l _ hH
 exact⟨z,its,n,r,r.length,e⟩
theorem Dm{n:Nat}(h:n<=sizeLine):Builtin.List.listTooLong n=false:=by
 unfold Builtin.List.listTooLong
 exact decide_eq_false (by omega)
end
section
variable{X:Cx}
def EA:V->List V->Hp->VK->Prop:=fun x vs H Q=>∃ l xs y,x=.ref l/\vs = [y]/\H l=some (.lst xs)/\xs.length<sizeLine/\Q .non (upd H l (.lst (xs++[y])))
theorem br:MtM X "list.append" EA:=by
 intro pins s σ H x vs v us Q I rx rv h
 obtain⟨l,xs,y,rfl,rfl,hH,hz,q⟩:=h
 cases rx
 obtain⟨u,rfl,ru⟩:=rv.one
 obtain⟨z,its,n,r,hl,e⟩:=I.lstM hH
 refine call_meets F.slot_list_append ⟨_,e,rfl⟩ F.entry_list_append (F.args_list_append_2 _ _) (PySem.list_append l its.toArray n u (by rw[FZ];omega)) ⟨e,?_⟩
 refine⟨.non,_,I.lset (its':=its++[u]) hH e (by simp) (r.append (.cons ru .nil)) ?_,rfl,q⟩
 rw[Fy,FI]
 omega
def Ez:V->List V->Hp->VK->Prop:=fun x vs H Q=>∃ l b xs zs,x=.ref l/\vs = [.ref b]/\H l=some (.lst xs)/\H b=some (.lst zs)/\xs.length+zs.length<=sizeLine/\Q .non (upd H l (.lst (xs++zs)))
theorem BD:MtM X "list.extend" Ez:=by
 intro pins s σ H x vs v us Q I rx rv h
 obtain⟨l,b,xs,zs,rfl,rfl,hH,hB,hz,q⟩:=h
 cases rx
 obtain⟨u,rfl,ru⟩:=rv.one
 cases ru
 obtain⟨z,its,n,r,hl,e⟩:=I.lstM hH
 obtain⟨z2,its2,n2,r2,hl2,e2⟩:=I.lstM hB
 have hsz:its.toArray.size+its2.toArray.size<=sizeLine:=by rw[FZ,FZ];omega
 have hlong:¬ (!its.toArray.isEmpty&&Builtin.List.listTooLong (its.toArray.size+its2.toArray.size))=true:=by
  rw[Dm hsz,Bool.and_false]
  exact FV
 refine call_meets F.slot_list_extend ⟨_,e,rfl⟩ F.entry_list_extend (F.args_list_extend_2 _ _)
  (AutoSeq1.list_extend_list_list_0 l its.toArray n b its2.toArray n2 hlong (by rw[FZ];omega) (by omega)) ⟨e,e2,?_⟩
 refine⟨.non,_,I.lset (its':=its++its2) hH e (by simp) (r.append r2) ?_,rfl,q⟩
 rw[Fy]
 omega
def rPop:V->List V->Hp->VK->Prop:=fun x vs H Q=>∃ l xs y,x=.ref l/\vs = []/\H l=some (.lst xs)/\xs[xs.length-1]?=some y/\Q y (upd H l (.lst xs.dropLast))
theorem mt_pop:MtM X "list.pop" rPop:=by
 intro pins s σ H x vs v us Q I rx rv h
 obtain⟨l,xs,y,rfl,rfl,hH,hy,q⟩:=h
 cases rx
 have hus:=rv.zero
 subst hus
 obtain⟨z,its,n,r,hl,e⟩:=I.lstM hH
 obtain⟨u,hu,ru⟩:=r.get hy
 have hy':its.toArray[its.toArray.size-1]?=some u:=by
  show its.toArray[its.length-1]?=some u
  rw[← HP,← hl]
  exact hu
 refine call_meets F.slot_list_pop ⟨_,e,rfl⟩ F.entry_list_pop (F.args_list_pop_1 _) (MeetsSeq.list_pop_last l its.toArray n u hy' (by rw[FZ];omega)) ⟨e,?_⟩
 refine⟨y,_,I.lset (its':=its.dropLast) hH e ?_ r.dropLast ?_,ru,q⟩
 ·show its.toArray.eraseIdxIfInBounds (its.toArray.size-1)=its.dropLast.toArray
  rw[FZ,List.eraseIdxIfInBounds_toArray,z8]
 ·rw[List.length_dropLast]
  omega
def rCat:R2:=fun x y H Q=>∃ l b xs zs,x=.ref l/\y=.ref b/\H l=some (.lst xs)/\H b=some (.lst zs)/\xs.length+zs.length<=sizeLine/\∀ p,H p=none->Q (.ref p) (upd H p (.lst (xs++zs)))
theorem op_cat:OpR X (binaryOp .Add) rCat:=by
 intro pins s σ H x y v u Q I rx ry h
 obtain⟨l,b,xs,zs,rfl,rfl,hH,hB,hz,q⟩:=h
 cases rx
 cases ry
 obtain⟨z,its,n,r,hl,e⟩:=I.lstM hH
 obtain⟨z2,its2,n2,r2,hl2,e2⟩:=I.lstM hB
 refine PySem.P.add_list e e2 ?_ (by rw[FZ,FZ];omega)
 have ea:its.toArray++its2.toArray=(its++its2).toArray:=by simp
 rw[ea]
 exact⟨.ref _,_,I.lnew (t':=s.toks) (r.append r2) (by rw[Fy];omega),rfl,q _ I.fresh⟩
end
section
variable{prog:Program}{w:World}{A:Around}{E:Value->Shared->Prop}{s:Shared}
end
section
variable{X:Cx}
end
end L2
namespace Att
open PySem PySem.W PySem.Calls PyProof.Rows
theorem nB{P:Params}{h:Heap}:∀(ns:List Int)(vs:List Value),WellAll P h vs (ns.map WData.int)->IntsAre vs ns:=by
 intro ns
 induction ns with
 |nil =>
  intro vs w
  rw[List.map_nil]at w
  cases w
  exact .nil
 |cons n ns ih =>
  intro vs w
  rw[F9]at w
  cases w with
  |cons a b =>
   cases a
   exact .cons _ _ (ih _ b)
theorem AZ{l:OpenLaw}{n:Nat}(hn:l.most=some n){P:Params}{h:Heap}{args:List WData}{vals:List Value}
  (hpre:l.row.toRowW.claim.pre args=true) (hwl:WellAll P h vals args) :
  ∃ a vs ns,vals = [Value.ref a]/\args = [WData.list (ns.map WData.int)]/\h.get? a=some { cls:=.type "list",data:=.seq vs.toArray }/\IntsAre vs ns/\ns.length<=n:=by
 have hsh:WShape.hasAll [] args [.list .int]=true:=(pre_splitW hpre).1
 have hc:l.pre.holds [] { args:=args }=true:=(pre_splitW hpre).2
 obtain⟨d,r,rfl,h1,h2⟩:=hasAllW_cons hsh
 obtain rfl:=hasAllW_nil h2
 obtain⟨xs,rfl,h3⟩:=hasW_list h1
 obtain⟨ns,rfl⟩:=items_int h3
 have hlen:ns.length<=n:=by
  unfold OpenLaw.pre at hc
  have h4:(WTm.not (.lt (.lit (.int (n:Int))) (.len (.arg 0)))).holds [] { args:=[.list (ns.map .int)] }=true:=by
   have h4:=(holds_andW hc).1
   rw[hn]at h4
   exact h4
  have h5:=condW_of h4 (w_not (w_lt w_lit (w_len_list (w_arg rfl))))
  rw[FF]at h5
  refine Nat.le_of_not_lt fun q=>?_
  have q':(n:Int)<((ns.length:Nat):Int):=by omega
  first
   | (rw[decide_eq_true q']at h5;exact absurd h5 (by decide))
   | (simp at h5;omega)
 cases hwl with
 |cons w1 w2 =>
  cases w2
  cases w1 with
  |list ho hall=>exact⟨_,_,ns,rfl,rfl,ho,nB ns _ hall,hlen⟩
theorem Ba(l:OpenLaw)(args:List WData):l.row.toRowW.claim.post args (.bool true) args=true :=
 postW_of (r:=l.row.toRowW) (X:=(true == true))
  (show WShape.has [] (.bool true) .bool=true by first | rfl | decide | simp[WShape.has,WShape.arms,WShape.armsAll])
  (show(WTm.eq .res (.lit (.bool true))).value [] { args:=args,res:=some (.bool true),after:=args }=some (.bool (true == true)) from w_eq_bool (w_res rfl) w_lit) rfl
theorem attach_call{l:OpenLaw}{n:Nat}{q:Program}{loose:List Str}{XP:(Str->Option Value)->Heap->Prop}{YP:World->Heap->Prop}{d:DefRec}
  (hn:l.most=some n) (hdf:d.params.defaults = [])
  (call:∀(w:World)(s₀ s₁:Shared)(mg mb:Str->Option Value)(fa:Addr)(o:Obj)(pm cd doc:Value)(a:Addr)(vs:List Value)(ns:List Int),
   Ground q loose [] XP w s₀ mg mb s₁.heap->YP w s₁.heap ->
   s₁.heap.get? fa=some o->o.data=.func (docDef d.name d.params d.body d.scope pm cd doc)->s₁.heap.CodeRec cd d.name->mg d.name=some (.ref fa) ->
   s₁.heap.get? a=some { cls:=.type "list",data:=.seq vs.toArray }->IntsAre vs ns->ns.length<=n->s₁.gens=#[] ->
   codeAny (model l.prog w) callerA (.call (.ref fa) ⟨[.ref a],[]⟩) (fun r s'=>r=.ok (.ret (.bool true))/\OldK s₁.heap s'.heap/\s'.os=s₁.os/\AllBare s'.gens) s₁) :
  WalkO q loose XP YP l.row.toRowW d [] (fun f vs=>PySem.call f vs):=by
 intro w s₀ s₁ mg mb G Y fa o pm cd doc dV kV ho hd hcd hD hmg hg args vals as hpre hlay hrd hwl hlo
 obtain rfl:dV=.none:=Dflts.none hD hdf
 obtain rfl:kV=.none:=Dflts.noKw hD
 obtain⟨a,vs,ns,rfl,rfl,hobj,hints,hlen⟩:=AZ hn hpre hwl
 refine enter_call (codeAny_mono (call w s₀ s₁ mg mb fa o pm cd doc a vs ns G Y ho (fd_plain hd) hcd hmg hobj hints hlen hg) fun r s' hq=>?_)
 obtain⟨rfl,h2,h3,h4⟩:=hq
 exact⟨.inl ⟨.bool true,.bool true,[],rfl,fun _=>rfl,.bool true,Ba l _,fun _=>⟨List.Pairwise.nil,fun _ hm=>(nomatch hm)⟩⟩,h2,h3,h4⟩
section
variable{prog:Program}{w:World}{A:Around}{E:Value->Shared->Prop}{s:Shared}{K:Frag}
end
end Att
namespace L2
open PySem PySem.Spec PyProof.Rows
theorem sv:∀{vs:List Value}{ns:List Int},IntsAre vs ns->Vals (ns.map V.int) vs
 |_,_,.nil=>.nil
 |_,_,.cons n t h=>.cons ⟨t,rfl⟩ (sv h)
def Only(H:Hp):Prop:=∀ b,H b=none∨∃ o xs,H b=some (.frz o (.lst xs))
theorem Dt{P:Program}{w:World}{K:Fw}{mg mb:Str->Option Value}{CX:CXT}{k:Nat}{fa a:Addr}{fd:FuncData}{x:Str}{sp:Sp}{s₁:Shared}{vs:List Value}{ns:List Int}
  (KX:K.In s₁.heap) (hns:s₁.heap.Ns mainGlobals mg) (hb:s₁.heap.Ns builtinsNs mb) (hbb:∀ x:Str,x≠"__name__"->mb x=bootBuiltins x) (hlim:s₁.heap.NoLimit) (hg:s₁.gens=#[])
  (ha:s₁.heap.get? a=some { cls:=.type "list",data:=.seq vs.toArray }) (hi:IntsAre vs ns) (hl:ns.length<=sizeLine) (hr:Room k callerA)
  (F:∀ base:Heap,K.In base->base.Ns mainGlobals mg->FnOk P w K mg base CX k fa fd [x] sp) (hbind:∀(s:Shared)(u:Value),BindsTo s fd ⟨[u],[]⟩ [(x,u)])
  (hsp:∀ H:Hp,Only H->SqL K H a (ns.map V.int)->sp [.ref a] H (fun v _=>v=.bl true) fun _ _ _=>False)
  (hCX:∀ H e s',CX [] H s₁ (fun _ _ _=>False) e s'->False) :
  codeAny (model P w) callerA (.call (.ref fa) ⟨[.ref a],[]⟩) (fun r s'=>r=.ok (.ret (.bool true))/\OldK s₁.heap s'.heap/\s'.os=s₁.os/\AllBare s'.gens) s₁:=by
 have rv:=sv hi
 have lenV:=hi.length
 have core:∀ H:Hp,Only H->SqL K H a (ns.map V.int)->HOk P w H s₁.heap->(∀ b,H b≠none->b=a)->(H a≠none->K.lookup a=none) ->
   codeAny (model P w) callerA (.call (.ref fa) ⟨[.ref a],[]⟩) (fun r s'=>r=.ok (.ret (.bool true))/\OldK s₁.heap s'.heap/\s'.os=s₁.os/\AllBare s'.gens) s₁:=by
  intro H hO hS hok hA hK
  have base_of:∀{b:Addr}{o:Obj},s₁.heap.get? b=some o->H b=none->(hidT s₁.heap H).get? b=some o:=fun e n=>Dy e n
  have noA:∀{b:Addr}{o:Obj}{es:Array DictEntry}{ep:Nat},s₁.heap.get? b=some o->o.data=.dict es ep->H b=none:=fun{b o es ep} e d=>by
   cases q:H b with
   |none=>rfl
   |some u =>
    have e':b=a:=hA b (by rw[q];simp)
    subst e'
    rw[ha]at e;cases e
    have d':Data.seq vs.toArray _=Data.dict es ep:=d
    cases d'
  have nsK:∀{b:Addr}{m:Str->Option Value},s₁.heap.Ns b m->(hidT s₁.heap H).Ns b m:=fun{b m} ⟨o,es,ep,e,d,r⟩=>⟨o,es,ep,base_of e (noA e d),d,r⟩
  have hKb:K.In (hidT s₁.heap H):=fun b o e=>base_of (KX b o e) (by
   cases q:H b with
   |none=>rfl
   |some u =>
    have e':b=a:=hA b (by rw[q];simp)
    subst e'
    rw[hK (by rw[q];simp)]at e;cases e)
  have hM:Mod K mg (hidT s₁.heap H):=⟨hKb,nsK hns,⟨mb,nsK hb,hbb⟩,let ⟨mc,h1,h2⟩:=hlim;⟨mc,nsK h1,h2⟩⟩
  have e0:Env0 P w K mg (hidT s₁.heap H) callerA [] s₁ H:=⟨rfl,hM,fun b o e=>EW e,Nat.le_of_eq (B9 _ _),trivial,fun b hb=>absurd (show b∈([]:List Addr) from hb) (by simp),hok,.of_eq hg⟩
  refine codeAny_mono ((F _ hKb (nsK hns)).run callerA [] s₁ H ⟨[.ref a],[]⟩ [.ref a] [.ref a] _ _ hr e0 (hbind s₁ (.ref a)) (.cons rfl .nil) (hsp H hO hS)) fun r s' h=>?_
  cases r with
  |error e=>exact(hCX H e s' h).elim
  |ok fl =>
   cases fl with
   |next=>exact False.elim h
   |brk=>exact False.elim h
   |cont=>exact False.elim h
   |ret u =>
    obtain⟨v,H',os,bare,un,hok',r',q⟩:=h
    have q':v=.bl true:=q
    subst q'
    obtain rfl:u=Value.bool true:=r'
    refine⟨rfl,OldK.of_keep fun b o e=>?_,os,bare⟩
    cases q:H b with
    |none=>exact un.keep b o e q (by intro z;exact absurd (show b∈([]:List Addr) from z) (by simp)) (by simp)
    |some u =>
     rcases hO b with z | ⟨ob,xs,z⟩
     ·rw[q]at z;cases z
     ·have z2:=un.frzs b ob _ z
      obtain⟨e1,_⟩:=hok b _ z
      obtain⟨e2,_⟩:=hok' b _ z2
      rw[e]at e1;cases e1
      exact e2
 cases hk:K.lookup a with
 |some o =>
  have e:=KX a o hk
  rw[ha]at e
  cases e
  refine core (fun _=>none) (fun _=>.inl rfl) (.inr ⟨_,vs.toArray,_,hk,rfl,rfl,rfl,by rw[FZ,lenV];exact hl,by simpa using rv⟩) (fun b u z=>by have z':(none:Option HO)=some u:=z;cases z') (fun b z=>absurd rfl z) fun z=>absurd rfl z
 |none =>
  refine core (fun b=>if b=a then some (.frz { cls:=.type "list",data:=.seq vs.toArray } (.lst (ns.map V.int))) else none) (fun b=>?_) (.inl (.inr ⟨{ cls:=.type "list",data:=.seq vs.toArray },if_pos rfl⟩)) (fun b u z=>?_) (fun b z=>?_) fun _=>hk
  ·by_cases hb:b=a
   ·exact .inr ⟨_,_,if_pos hb⟩
   ·exact .inl (if_neg hb)
  ·by_cases hb:b=a
   ·have z':=(if_pos hb).symm.trans z
    cases z'
    subst hb
    exact⟨ha,by rw[FF];exact hl,vs,_,rv,ha⟩
   ·have z':=(if_neg hb).symm.trans z
    cases z'
  ·by_cases hb:b=a
   ·exact hb
   ·exact absurd (if_neg hb) z
end L2
namespace L2
open PySem PySem.Spec PyProof.Rows
theorem walk_of{l:Ir}{n k:Nat}{q:Program}{loose:List Str}{XP:(Str->Option Value)->Heap->Prop}{YP:World->Heap->Prop}{d:DefRec}{K:Params->Fw}{CX:World->CXT}{sp:World->Sp}{x:Str}
  (hn:l.most=some n) (hn2:n<=sizeLine) (hdf:d.params.defaults = []) (hr:Room k callerA)
  (hY:∀(w:World)(h:Heap),YP w h->(K w.params).In h)
  (F:∀(w:World)(mg:Str->Option Value)(fa:Addr)(h:Heap),(K w.params).In h->h.Ns mainGlobals mg->mg d.name=some (.ref fa) ->
   ∃ fd:FuncData,(∀(s:Shared)(u:Value),BindsTo s fd ⟨[u],[]⟩ [(x,u)]) /\
    ∀ base:Heap,(K w.params).In base->base.Ns mainGlobals mg->FnOk l.prog w (K w.params) mg base (CX w) k fa fd [x] (sp w))
  (hsp:∀(w:World)(H:Hp)(a:Addr)(ns:List Int),ns.length<=n->Only H->SqL (K w.params) H a (ns.map V.int)->sp w [.ref a] H (fun v _=>v=.bl true) fun _ _ _=>False)
  (hCX:∀(w:World)(H:Hp)(s:Shared)(e:Value)(s':Shared),CX w [] H s (fun _ _ _=>False) e s'->False) :
  PySem.W.WalkO q loose XP YP l.row.toRowW d [] (fun f vs=>PySem.call f vs):=by
 refine Att.attach_call hn hdf fun w s₀ s₁ mg mb fa o pm cd doc a vs ns G Y ho hd hcd hmg hobj hints hlen hg=>?_
 have KX:=hY w _ Y
 obtain⟨fd,hb,hF⟩:=F w mg fa _ KX G.T.g hmg
 exact Dt KX G.T.g G.T.b G.T.builtins G.T.nolimit hg hobj hints (Gs hlen hn2) hr hF hb (fun H hO hS=>hsp w H a ns hlen hO hS) fun H e s'=>hCX w H s₁ e s'
end L2
namespace L2
open PySem PySem.Spec PyProof.Rows
def kE(s:Stmt)(j:Nat):Stmt:=match s with
 |.ClassDef _ _ _ body _ _ _ _ _ _ _=>body.getD j (.Pass ⟨0,0,0,0⟩)
 |_=>.Pass ⟨0,0,0,0⟩
def aC(s:Stmt):Arguments:=match s with
 |.FunctionDef _ a _ _ _ _ _ _ _ _=>a
 |_=>{ posonlyargs:=[],args:=[],vararg:=none,kwonlyargs:=[],kw_defaults:=[],kwarg:=none,defaults:=[] }
def az(s:Stmt):List Stmt:=match s with
 |.FunctionDef _ _ b _ _ _ _ _ _ _=>b
 |_=>[]
def ai(s:Stmt):Scope:=match s with
 |.FunctionDef _ _ _ _ _ _ sc _ _ _=>sc
 |_=>{ kind:=.function,names:=[],isGenerator:=false,isCoroutine:=false }
abbrev CX0:CXT:=fun _ _ _ _ _ _=>False
abbrev E0:XK:=fun _ _ _=>False
theorem aT{X:Cx}:oo CX0 X E0:=fun _ _ _ _ _ _ _ h=>h.elim
structure Fun(K:Fw)(x qual:Str)(st:Stmt)(f:Addr)(fd:FuncData):Prop where
 ex:∃(oc:Value)(od:Option Addr)(kV doc pm:Value)(an:Option Addr)(cdv ct:Value)(osl:Array (Option Value)),
  fd=FU x qual (aC st) (az st) (ai st) .none kV doc pm an cdv ct/\K.lookup f=some ⟨oc,od,.func fd,osl⟩/\FO K cdv qual=true
 kp:FH K (.ref f)=true
section
variable{P:Program}{w:World}{K:Fw}{mg:Str->Option Value}{base:Heap}
theorem Fun.ok{x qual:Str}{st:Stmt}{f:Addr}{fd:FuncData}{N ps:List Str}{k:Nat}{sp:Sp}(F:Fun K x qual st f fd)(S:aD N ps (ai st))(len:∀ vs H Q E,sp vs H Q E->vs.length=ps.length)
  (hbody:∀(cdv:Value)(A:Around)(outer:List Env)(s:Shared)(H:Hp)(vs:List V)(Q:VK)(E:XK),Room k (A.deeper (envOfC qual (ai st) s.heap.objs.size f cdv))->sp vs H Q E ->
   ∃ t,PSs (cxOf CX0 P w K mg base N qual (ai st) f cdv A outer s H E).nox (az st) t/\t { nx:=fun _ H'=>Q .non H',rt:=Q } (pU N vs) H):FnOk P w K mg base CX0 (k+1) f fd ps sp:=by
 obtain⟨oc,od,kV,doc,pm,an,cdv,ct,osl,rfl,lk,hcd⟩:=F.ex
 refine fn_of lk hcd S len fun A outer s H vs Q E hr hsp=>?_
 obtain⟨t,h,q⟩:=hbody cdv A outer s H vs Q E hr hsp
 exact⟨t,h.nox,q⟩
theorem Fun.binds{x qual:Str}{st:Stmt}{f:Addr}{fd:FuncData}{ps:List Str}(F:Fun K x qual st f fd)
  (h:∀(kV doc pm:Value)(an:Option Addr)(cdv ct:Value)(us:List Value),us.length=ps.length->bindArgs (FU x qual (aC st) (az st) (ai st) .none kV doc pm an cdv ct) ⟨us,[]⟩=pure (ps.zip us)):gz K fd ps []:=by
 obtain⟨oc,od,kV,doc,pm,an,cdv,ct,osl,rfl,lk,hcd⟩:=F.ex
 exact .all (h kV doc pm an cdv ct)
theorem aN{x qual:Str}{st:Stmt}{f:Addr}{oc:Value}{od an:Option Addr}{osl:Array (Option Value)}{kV doc pm cdv ct:Value}(l:K.lookup f=some ⟨oc,od,.func (FU x qual (aC st) (az st) (ai st) .none kV doc pm an cdv ct),osl⟩)
  (c:FO K cdv qual=true) (k:FH K (.ref f)=true):Fun K x qual st f (FU x qual (aC st) (az st) (ai st) .none kV doc pm an cdv ct):=⟨⟨oc,od,kV,doc,pm,an,cdv,ct,osl,rfl,l,c⟩,k⟩
end
theorem Fd{A:Around}{k:Nat}(hr:Room k A):A.units+1<cLine:=Nat.lt_of_le_of_lt (Nat.add_le_add_left (by decide:1<=64) _) hr.units
theorem au{n:Nat}(h:n<=1000):n<sizeLine:=Nat.lt_of_le_of_lt h (by decide)
section
variable{X:Cx}
theorem pv(i:Nat){x:Str}{pos:Pos}(hN:X.N[i]?=some x:=by rfl)(hv:Vis X.env.scope x:=by first | exact Or.inl rfl | exact Or.inr (Or.inl rfl) | exact Or.inr (Or.inr rfl)) (hd:(x == ("__debug__" : Str))=false:=by decide)
  (hcd:(x == ("__classdict__" : Str))=false:=by decide):PE X (.Name x pos) (tVar i):=pe_var hN hv hd hcd
end
theorem iteF{A B:Prop}(h:B):if false=true then A else B:=by
 rw[if_neg FV]
 exact h
theorem iteT{A B:Prop}(h:A):if true=true then A else B:=by
 rw[if_pos rfl]
 exact h
theorem ite2{c A B:Prop} [Decidable c] (h1:c->A) (h2:¬ c->B):if c then A else B:=by
 by_cases h:c
 ·rw[if_pos h]
  exact h1 h
 ·rw[if_neg h]
  exact h2 h
theorem iteNS{c A B:Prop} [Decidable c] (hc:c) (h:B):if(!decide c)=true then A else B:=by
 rw[decide_eq_true hc]
 exact iteF h
def Same(H H':Hp):Prop:=∀ b o,H b=some o->H' b=some o
theorem Same.trans{H H1 H2:Hp}(a:Same H H1)(b:Same H1 H2):Same H H2:=fun c o h=>b c o (a c o h)
theorem Same.seq{K:Fw}{H H':Hp}{a:Addr}{xs:List V}(e:Same H H')(h:SqL K H a xs):SqL K H' a xs:=by
 rcases h with(h | ⟨o,h⟩) | h
 ·exact .inl (.inl (e _ _ h))
 ·exact .inl (.inr ⟨o,e _ _ h⟩)
 ·exact .inr h
end L2
set_option maxRecDepth 100000
set_option maxHeartbeats 4000000
namespace L2
open PySem PySem.Spec PyProof.Rows
end L2
namespace L2
open PySem PySem.Spec PyProof.Rows
section
variable(P:Program)(w:World)
end
section
variable{P:Program}{w:World}{H H':Hp}{h h':Heap}{a:Addr}{o:HO}
end
section
variable{P:Program}{w:World}{H:Hp}{h h':Heap}{x e:Addr}{o':HO}
end
section
variable{fs fs' ex ex':List Addr}{H H1 H2:Hp}{h h1 h2 h':Heap}{a x e:Addr}{o:HO}
end
end L2
namespace L2
open PySem PySem.Spec PyProof.Rows
section
variable{X:Cx}{pins:List (Addr×Obj)}{σ:List (Option V)}{H H':Hp}{s:Shared}{h':Heap}
end
end L2
namespace L2
open PySem PySem.Spec PyProof.Rows
section
variable{X:Cx}
variable{a b:Expr}{ta tb:TE}{pos:Pos}
variable{tA tB':TT}{rest:List Expr}
end
end L2
namespace L2
open PySem PySem.Spec PyProof.Rows
section
variable{X:Cx}{pins:List (Addr×Obj)}{σ:St}{H:Hp}{s:Shared}{a:Addr}{xs ys:List V}
end
section
variable{X:Cx}{pins:List (Addr×Obj)}{σ:St}{H:Hp}{s:Shared}{E:Value->Shared->Prop}
end
section
variable{X:Cx}{st:Stmt}{rest:List Stmt}{t u:TS}{e:Expr}{te:TE}{pos:Pos}
end
section
variable{X:Cx}{pos:Pos}
end
section
variable{X:Cx}{pos:Pos}
end
end L2
namespace L2
open PySem PySem.Spec PyProof.Rows
section
variable{X:Cx}{tg:Expr}
end
end L2
namespace L2
open PySem PySem.Spec PyProof.Rows
section
variable{X:Cx}{a b c:Expr}{ta tb tc:TE}{pos:Pos}
end
section
variable{X:Cx}{a b c:Expr}{ta tb tc:TE}{pos:Pos}
end
end L2
namespace L2
open PySem PySem.Spec PyProof.Rows
section
variable{prog:Program}{w:World}{A:Around}{E:Value->Shared->Prop}{s:Shared}{K:Fw}{x dx C f:Addr}{mA:Str->Option Value}{name:Str}{v:Value}
end
section
variable{P:Program}{w:World}{H H':Hp}{h h':Heap}{a C dx:Addr}{fs fs':List (Str×V)}
end
section
variable{X:Cx}{pins:List (Addr×Obj)}{σ:St}{H:Hp}{s:Shared}{a C dx:Addr}{fs:List (Str×V)}{f:Str}{v:V}{A:Around}{E:Value->Shared->Prop}
end
section
variable{X:Cx}{o e value:Expr}{f:Str}{pos pos' tpos:Pos}{ta tv:TE}
end
section
variable{X:Cx}{pins:List (Addr×Obj)}{σ:St}{H:Hp}{s:Shared}{A:Around}{E:Value->Shared->Prop}{Q:Value->Shared->Prop}{c:Value}{b:Bool}
end
end L2
namespace L2
open PySem PySem.Spec PyProof.Rows
section
variable{X:Cx}{e:Expr}{es:List Expr}{te:TE}{t:TA}{pos:Pos}
end
section
variable{X:Cx}{pins:List (Addr×Obj)}{σ:St}{H:Hp}{s s':Shared}
end
section
variable{X:Cx}{CX:CXT}{k:Nat}{f C:Addr}{fd:FuncData}{ps:List Str}{sp:Sp}{dvs:List V}{ds:List Value}{E:XK}{x m:Str}{p pos apos:Pos}{e o:Expr}{es:List Expr}{ta:TE}{t:TA}
end
section
variable{X:Cx}{CX:CXT}{k:Nat}{f C:Addr}{fd:FuncData}{ps ks:List Str}{sp:Sp}{E:XK}{x m:Str}{p pos apos kpos:Pos}{e o:Expr}{es:List Expr}{kws:List Keyword}{te ta:TE}{t tk:TA}{nm:Option Str}
variable{g:List Value->List Value->List Value}{gV:List V->List V->List V}
end
end L2
namespace L2
open PySem PySem.Spec PyProof.Rows
section
variable{X:Cx}{x:Str}{p pos:Pos}{e:Expr}{es:List Expr}{t:TA}{id T:String}{r:List V->Hp->VK->Prop}
end
end L2
namespace L2
open PySem PySem.Spec PyProof.Rows
section
variable{κ:Type} [DecidableEq κ]
def valV(kvs:List (κ×V))(k:κ):Option V:=(kvs.find? fun kv=>decide (kv.1=k)).map (·.2)
def putK(kvs:List (κ×V))(k:κ)(v:V):List (κ×V) :=
 if(kvs.any fun kv=>decide (kv.1=k))=true then kvs.map (fun kv=>if kv.1=k then(kv.1,v) else kv) else kvs++[(k,v)]
theorem bQ{p:κ×V}{r:List (κ×V)}{k:κ}(e:p.1=k):valV (p::r) k=some p.2:=by simp[valV,Hh,e]
theorem bL{p:κ×V}{r:List (κ×V)}{k:κ}(e:¬ p.1=k):valV (p::r) k=valV r k:=by simp[valV,Hh,e]
theorem jz(k:κ):∀ kvs:List (κ×V),(kvs.any fun kv=>decide (kv.1=k))=(valV kvs k).isSome
 |[]=>rfl
 |p::r=>by
  rw[Hr]
  by_cases e:p.1=k
  ·simp only[bQ e,decide_eq_true e,Bool.true_or,Option.isSome_some]
  ·rw[bL e,decide_eq_false e,Bool.false_or];exact jz k r
theorem yu(k j:κ)(y:V):∀ kvs:List (κ×V),valV (kvs.map fun kv=>if kv.1=k then(kv.1,y) else kv) j=(valV kvs j).map fun x=>if j=k then y else x
 |[]=>rfl
 |p::r=>by
  have ih:=yu k j y r
  rw[F9]
  by_cases h:p.1=k
  ·rw[if_pos h]
   by_cases e:p.1=j
   ·rw[bQ (p:=(p.1,y)) e,bQ e,HI,if_pos (e.symm.trans h)]
   ·rw[bL (p:=(p.1,y)) e,bL e,ih]
  ·rw[if_neg h]
   by_cases e:p.1=j
   ·rw[bQ (p:=p) e,bQ e,HI,if_neg (fun z=>h (e.trans z))]
   ·rw[bL (p:=p) e,bL e,ih]
theorem sy(k j:κ)(y:V):∀ kvs:List (κ×V),valV kvs k=none->valV (kvs++[(k,y)]) j=if j=k then some y else valV kvs j
 |[],_=>by
  by_cases e:k=j
  ·rw[if_pos e.symm];exact bQ (p:=(k,y)) e
  ·rw[if_neg (fun z=>e z.symm)];exact bL (p:=(k,y)) e
 |p::r,hn=>by
  rw[Im]
  have hk:¬ p.1=k:=fun z=>by rw[bQ z]at hn;cases hn
  rw[bL hk]at hn
  have ih:=sy k j y r hn
  by_cases e:p.1=j
  ·rw[bQ e,bQ e,if_neg (fun z=>hk (e.trans z))]
  ·rw[bL e,bL e,ih]
theorem pT(kvs:List (κ×V))(k j:κ)(y:V):valV (putK kvs k y) j=if j=k then some y else valV kvs j:=by
 unfold putK
 by_cases a:(kvs.any fun kv=>decide (kv.1=k))=true
 ·rw[if_pos a,yu]
  rw[jz]at a
  by_cases e:j=k
  ·obtain⟨x,hx⟩:=HC.mp a
   rw[if_pos e,e,hx,HI,if_pos rfl]
  ·rw[if_neg e]
   cases valV kvs j with
   |none=>rfl
   |some x=>rw[HI,if_neg e]
 ·rw[if_neg a]
  refine sy k j y kvs ?_
  rw[jz]at a
  cases q:valV kvs k with
  |none=>rfl
  |some x=>rw[q]at a;exact(a rfl).elim
theorem dE(kvs:List (κ×V))(k:κ)(v:V):(putK kvs k v).length<=kvs.length+1:=by
 unfold putK
 split
 ·rw[FF];omega
 ·rw[Fy,Ge,Hu];omega
theorem C2{kvs:List (κ×V)}{k:κ}(v:V)(h:valV kvs k=none):putK kvs k v=kvs++[(k,v)]:=by
 unfold putK
 rw[jz,h]
 exact if_neg (by decide)
theorem RelO.isSome_eq{o:Option V}{u:Option Value}(r:RelO o u):o.isSome=u.isSome:=by
 cases o with
 |none=>cases u with
  |none=>rfl
  |some _=>exact(show False from r).elim
 |some _=>cases u with
  |none=>exact(show False from r).elim
  |some _=>rfl
theorem KV.val{kvs:List (κ×V)}{vs:List (κ×Value)}(r:KV kvs vs)(k:κ):RelO (valV kvs k) (valueAt vs k):=by
 unfold KV at r
 induction r with
 |nil=>exact True.intro
 | @cons p q ps qs h t ih =>
  obtain⟨h1,h2⟩:=h
  by_cases e:p.1=k
  ·have e':q.1=k:=h1.symm.trans e
   have b:valueAt (q::qs) k=some q.2:=by simp[valueAt,Hh,e']
   rw[bQ e,b];exact h2
  ·have e':¬ q.1=k:=fun z=>e (h1.trans z)
   have b:valueAt (q::qs) k=valueAt qs k:=by simp[valueAt,Hh,e']
   rw[bL e,b];exact ih
theorem KV.any{kvs:List (κ×V)}{vs:List (κ×Value)}(r:KV kvs vs)(k:κ):(kvs.any fun kv=>decide (kv.1=k))=vs.any fun kv=>decide (kv.1=k):=by
 unfold KV at r
 induction r with
 |nil=>rfl
 |cons h t ih=>rw[Hr,Hr,ih,h.1]
theorem KV.repl{kvs:List (κ×V)}{vs:List (κ×Value)}(r:KV kvs vs)(k:κ){y:V}{u:Value}(ry:RelV y u) :
  KV (kvs.map fun kv=>if kv.1=k then(kv.1,y) else kv) (vs.map fun kv=>if kv.1=k then(kv.1,u) else kv):=by
 unfold KV at r ⊢
 induction r with
 |nil=>exact .nil
 | @cons p q ps qs h t ih =>
  rw[F9,F9]
  refine .cons ?_ ih
  obtain⟨h1,h2⟩:=h
  by_cases e:p.1=k
  ·rw[if_pos e,if_pos (h1.symm.trans e)];exact⟨h1,ry⟩
  ·rw[if_neg e,if_neg (fun z=>e (h1.trans z))];exact⟨h1,h2⟩
theorem KV.put{kvs:List (κ×V)}{vs:List (κ×Value)}(r:KV kvs vs)(k:κ){y:V}{u:Value}(ry:RelV y u):KV (putK kvs k y) (stored vs k u):=by
 unfold putK stored
 rw[r.any k]
 by_cases e:(vs.any fun kv=>decide (kv.1=k))=true
 ·rw[if_pos e,if_pos e];exact r.repl k ry
 ·rw[if_neg e,if_neg e];exact Paired.snoc r ⟨rfl,ry⟩
theorem KV.length{kvs:List (κ×V)}{vs:List (κ×Value)}(r:KV kvs vs):kvs.length=vs.length:=Paired.length r
end
theorem BU{P:Program}{w:World}{k:Key}{u:Value}(r:RelV (kV k) u):(bO P w).is k u=true:=by
 cases k with
 |inl i=>obtain⟨t,e⟩:=(show ∃ t,u=Value.int i t from r);subst e;exact w4 P w i t
 |inr x=>obtain⟨t,e⟩:=(show ∃ t,u=Value.str x t from r);subst e;exact wZ P w x t
theorem uz{P:Program}{w:World}:∀{ks:List Key}{us:List Value},Vals (ks.map kV) us->ItemsAre (bO P w) ks us
 |[],_,r=>by rw[List.map_nil]at r;cases r;exact .nil
 |k::ks,_,r=>by
  rw[F9]at r
  cases r with
  |cons h t=>exact .cons (BU h) (uz t)
abbrev KT(H:Hp):List (List Key×V)->List (List Key×Addr×Value)->Prop:=Paired fun p q=>p.1=q.1/\H q.2.1=some (.tup (p.1.map kV))/\RelV p.2 q.2.2
theorem KT.val{H:Hp}{kvs:List (List Key×V)}{xs:List (List Key×Addr×Value)}(r:KT H kvs xs)(k:List Key):RelO (valV kvs k) ((atKey xs k).map (·.2)):=by
 induction r with
 |nil=>exact True.intro
 | @cons p q ps qs h t ih =>
  obtain⟨h1,_,h2⟩:=h
  by_cases e:p.1=k
  ·have e':q.1=k:=h1.symm.trans e
   have b:atKey (q::qs) k=some q.2:=by simp[atKey,Hh,e']
   rw[bQ e,b];exact h2
  ·have e':¬ q.1=k:=fun z=>e (h1.trans z)
   have b:atKey (q::qs) k=atKey qs k:=by simp[atKey,Hh,e']
   rw[bL e,b];exact ih
theorem KT.repl{H:Hp}{kvs:List (List Key×V)}{xs:List (List Key×Addr×Value)}(r:KT H kvs xs)(k:List Key){y:V}{u:Value}(ry:RelV y u) :
  KT H (kvs.map fun kv=>if kv.1=k then(kv.1,y) else kv) (xs.map (putAt k u)):=by
 induction r with
 |nil=>exact .nil
 | @cons p q ps qs h t ih =>
  rw[F9,F9]
  refine .cons ?_ ih
  obtain⟨h1,h2,h3⟩:=h
  unfold putAt
  by_cases e:p.1=k
  ·rw[if_pos e,if_pos (h1.symm.trans e)];exact⟨h1,h2,ry⟩
  ·rw[if_neg e,if_neg (fun z=>e (h1.trans z))];exact⟨h1,h2,h3⟩
theorem KT.put{H:Hp}{kvs:List (List Key×V)}{xs:List (List Key×Addr×Value)}(r:KT H kvs xs)(k:List Key){b:Addr}{y:V}{u:Value}(hb:H b=some (.tup (k.map kV)))(ry:RelV y u) :
  KT H (putK kvs k y) (storedH xs k b u):=by
 have e:(kvs.any fun kv=>decide (kv.1=k))=(atKey xs k).isSome:=by
  rw[jz,(r.val k).isSome_eq,Option.isSome_map]
 unfold putK storedH
 rw[e]
 by_cases q:(atKey xs k).isSome=true
 ·rw[if_pos q,if_pos q];exact r.repl k ry
 ·rw[if_neg q,if_neg q];exact Paired.snoc r ⟨rfl,hb,ry⟩
theorem KT.keeps{H H':Hp}{kvs:List (List Key×V)}{xs:List (List Key×Addr×Value)}(r:KT H kvs xs)(ht:∀ b ys,H b=some (.tup ys)->H' b=some (.tup ys)):KT H' kvs xs :=
 Paired.mapP r fun _ _ z=>⟨z.1,ht _ _ z.2.1,z.2.2⟩
section
variable{P:Program}{w:World}{H:Hp}{h:Heap}{a:Addr}
theorem rd_of{u:HO}(ok:HOk P w H h)(e:Rd H a u):bA P w H h a u:=e.ok ok
theorem DE{kvs:List (Key×V)}(ok:HOk P w H h)(e:Rd H a (.dK kvs)):kvs.length<=sizeLine/\(a == sysModules)=false/\∃ vs,KV kvs vs/\h.DictOf (bO P w) a vs :=
 show bA P w H h a (.dK kvs) from rd_of ok e
theorem dk_of{kvs:List (Key×V)}(ok:HOk P w H h)(e:H a=some (.dK kvs)):kvs.length<=sizeLine/\(a == sysModules)=false/\∃ vs,KV kvs vs/\h.DictOf (bO P w) a vs:=DE ok (.inl e)
theorem yM{ks:List Key}(ok:HOk P w H h)(e:H a=some (.tup (ks.map kV))):(tupleKind (bO P w)).is h ks a:=by
 obtain⟨_,its,r,o,h1,h2,n,h3⟩:=(show bA P w H h a (.tup (ks.map kV)) from ok a _ e)
 exact⟨o,its.toArray,n,h1,h2,h3,by simpa using uz r⟩
theorem DC{kvs:List (List Key×V)}(ok:HOk P w H h)(e:Rd H a (.dT kvs)):kvs.length<=sizeLine/\(a == sysModules)=false /\
  ∃ xs,KT H kvs xs/\h.DictOfH (tupleKind (bO P w)) a xs:=by
 obtain⟨z,y,xs,r,o,es,ep,h1,h2,h3,h4,h5⟩:=(show bA P w H h a (.dT kvs) from rd_of ok e)
 refine⟨z,y,xs,r,o,es,ep,h1,h2,h3,h4,fun x hx=>?_,h5⟩
 have all:∀{l:List (List Key×V)}{m:List (List Key×Addr×Value)},KT H l m->∀ x∈m,(tupleKind (bO P w)).is h x.1 x.2.1:=by
  intro l m q
  induction q with
  |nil=>intro x hx;exact nomatch hx
  | @cons p q ps qs hq t ih =>
   intro x hx
   rcases FC.mp hx with e | hx
   ·subst e
    exact yM ok (by rw[← hq.1];exact hq.2.1)
   ·exact ih x hx
 exact all r x hx
theorem dt_of{kvs:List (List Key×V)}(ok:HOk P w H h)(e:H a=some (.dT kvs)):kvs.length<=sizeLine/\(a == sysModules)=false /\
  ∃ xs,KT H kvs xs/\h.DictOfH (tupleKind (bO P w)) a xs:=DC ok (.inl e)
end
def DGet(H:Hp)(a:Addr)(y:V)(r:Option V):Prop :=
 (∃ kvs k,Rd H a (.dK kvs)/\y=kV k/\r=valV kvs k)∨∃ kvs k b,Rd H a (.dT kvs)/\y=.ref b/\H b=some (.tup (k.map kV))/\r=valV kvs k
def DPut(H:Hp)(a:Addr)(y v:V)(H':Hp):Prop :=
 (∃ kvs k,H a=some (.dK kvs)/\y=kV k/\kvs.length<sizeLine/\H'=upd H a (.dK (putK kvs k v))) ∨
 ∃ kvs k b,H a=some (.dT kvs)/\y=.ref b/\H b=some (.tup (k.map kV))/\kvs.length<sizeLine/\H'=upd H a (.dT (putK kvs k v))
theorem DGet.k{H:Hp}{a:Addr}{kvs:List (Key×V)}{k:Key}(e:H a=some (.dK kvs)):DGet H a (kV k) (valV kvs k):=.inl ⟨kvs,k,.inl e,rfl,rfl⟩
theorem DPut.k{H:Hp}{a:Addr}{kvs:List (Key×V)}{k:Key}{v:V}(e:H a=some (.dK kvs))(hl:kvs.length<sizeLine):DPut H a (kV k) v (upd H a (.dK (putK kvs k v))):=.inl ⟨kvs,k,e,rfl,hl,rfl⟩
section
variable{X:Cx}{pins:List (Addr×Obj)}{σ:St}{H:Hp}{s:Shared}{a:Addr}{y v:V}{u r:Value}{o:Option V}{A:Around}{E:Value->Shared->Prop}
theorem Inv.big(I:Inv X pins σ H s):sysModules<s.heap.objs.size:=by
 have h:mainGlobals<s.heap.objs.size:=(I.mod.glob.keeps I.bk).lt
 exact Nat.lt_trans (by decide) h
theorem Cm{Q:Value->Shared->Prop}(hu:A.units+1<cLine)(I:Inv X pins σ H s)(g:DGet H a y (some v))(ry:RelV y u)(h:∀ w' s',Inv X pins σ H s'->RelV v w'->Q w' s') :
  wpAny (model X.prog X.w) A (getItem (.ref a) u) Q E s:=by
 rcases g with⟨kvs,k,e,ey,l⟩ | ⟨kvs,k,b,e,ey,eb,l⟩
 ·subst ey
  obtain⟨z,hd,vs,rel,dd⟩:=DE I.hok e
  obtain⟨w',hw,rw'⟩:=RelO.some_of (v:=v) (o:=valueAt vs k) (by rw[l];exact rel.val k)
  exact wpAny_getItem_of (BU ry) dd.mapOf hw (h w' _ (I.tok _) rw')
 ·subst ey
  cases (show u=Value.ref b from ry)
  obtain⟨z,hd,xs,rel,dd⟩:=DC I.hok e
  obtain⟨w',hw,rw'⟩:=RelO.some_of (v:=v) (o:=(atKey xs k).map (·.2)) (by rw[l];exact rel.val k)
  obtain⟨p,hp,hp2⟩:=Gd.mp hw
  refine wpAny_getItem_heap (tupleKind_room_in1 hu) (yM I.hok eb) dd hp ?_
  rw[hp2]
  exact h w' _ (I.tok _) rw'
theorem Fm{Q:Value->Shared->Prop}(hu:A.units+1<cLine)(I:Inv X pins σ H s)(g:DGet H a y o)(ry:RelV y u)(h:∀ s',Inv X pins σ H s'->Q (.bool (!o.isSome)) s') :
  wpAny (model X.prog X.w) A (compareOp .NotIn u (.ref a)) Q E s:=by
 rcases g with⟨kvs,k,e,ey,l⟩ | ⟨kvs,k,b,e,ey,eb,l⟩
 ·subst ey
  obtain⟨z,hd,vs,rel,dd⟩:=DE I.hok e
  refine wpAny_notIn_of (BU ry) hd dd.mapOf ?_
  rw[← (rel.val k).isSome_eq,← l]
  exact h _ (I.tok _)
 ·subst ey
  cases (show u=Value.ref b from ry)
  obtain⟨z,hd,xs,rel,dd⟩:=DC I.hok e
  refine wpAny_notIn_heap (tupleKind_room_in1 hu) (yM I.hok eb) hd dd ?_
  have q:=(rel.val k).isSome_eq
  rw[Option.isSome_map]at q
  rw[← q,← l]
  exact h _ (I.tok _)
theorem xR{h':Heap}{t':Nat}{ob:HO}(I:Inv X pins σ H s)(mu:Mut (H a))(hs:Heap.SameBut a s.heap h')(he:∃ q,h'.get? a=some q)(new:bA X.prog X.w (upd H a ob) h' a ob) :
  Inv X pins σ (upd H a ob) { s with heap:=h',toks:=t' } :=
 I.write (x:=a) (e:=a) mu (.inl rfl) (fun b q hb z=>(hs.2 b hb).trans z) he new
theorem D2{P:Program}{w:World}{H':Hp}{h':Heap}{kvs:List (Key×V)}{vs:List (Key×Value)}(z:kvs.length<=sizeLine)(hd:(a == sysModules)=false)(rel:KV kvs vs)(dd:h'.DictOf (bO P w) a vs) :
  bA P w H' h' a (.dK kvs):=⟨z,hd,vs,rel,dd⟩
theorem Ck{H':Hp}{Q:Unit->Shared->Prop}(hu:A.units+1<cLine)(I:Inv X pins σ H s)(g:DPut H a y v H')(ry:RelV y u)(rv:RelV v r)(h:∀ s',Inv X pins σ H' s'->Q () s') :
  wpAny (model X.prog X.w) A (setItem (.ref a) u r) Q E s:=by
 rcases g with⟨kvs,k,e,ey,l,eH⟩ | ⟨kvs,k,b,e,ey,eb,l,eH⟩
 ·subst ey eH
  obtain⟨z,hd,vs,rel,dd⟩:=dk_of I.hok e
  have hz:vs.length<=sizeLine:=by rw[← rel.length];exact z
  have hl:(putK kvs k v).length<=sizeLine:=by have:=dE kvs k v;omega
  refine wpAny_setItem_pairs (hsz:=hz) (BU ry) dd fun h' dd' hs=>h _ ?_
  have he:∃ q,h'.get? a=some q:=let ⟨q,_,_,hq,_⟩:=dd';⟨q,hq⟩
  exact xR I (by rw[e];exact True.intro) hs he (D2 hl hd (rel.put k rv) dd')
 ·subst ey eH
  cases (show u=Value.ref b from ry)
  obtain⟨z,hd,xs,rel,dd⟩:=dt_of I.hok e
  have hz:xs.length<=sizeLine:=by rw[← Paired.length rel];exact z
  have hl:(putK kvs k v).length<=sizeLine:=by have:=dE kvs k v;omega
  refine wpAny_setItem_heap (hsz:=hz) (tupleKind_room_in1 hu) (yM I.hok eb) dd fun h' dd' hs=>h _ ?_
  obtain⟨q,es,ep,hq,h2,h3,h4,_,h5⟩:=dd'
  refine xR I (by rw[e];exact True.intro) hs ⟨q,hq⟩ ⟨hl,hd,_,(rel.put k eb rv).keeps fun c ys ec=>?_,q,es,ep,hq,h2,h3,h4,h5⟩
  rw[ak (zL ec e (fun z=>nomatch z))]
  exact ec
end
section
variable{X:Cx}{pins:List (Addr×Obj)}{σ:St}{H:Hp}{s:Shared}{a:Addr}{kvs:List (Key×V)}{k:Key}{u:Value}{A:Around}{E:Value->Shared->Prop}
end
def NoSl(i:Expr):Prop:=∀ ov iv,subscripted i false ov iv=operate [ov,iv] (getItem ov iv)
theorem Ek{prog:Program}{w:World}{A:Around}{E:Value->Shared->Prop}{s:Shared}{env:Env}{value slice:Expr}{pos:Pos}{T id:String}{Q:Value->Shared->Prop}
  (hl:typeLookup (.type T) "__getitem__" = pure (some (.builtin id))) (hs:NoSl slice)
  (h:wpAny (model prog w) A (eval value env) (fun o s₁=>wpAny (model prog w) A (eval slice env) (fun i s₂=>s₂.TypeIs o T/\wpAny (model prog w) A (getItem o i) Q E s₂) E s₁) E s) :
  wpAny (model prog w) A (eval (.Subscript value slice pos) env) Q E s:=by
 refine Subscript_ (wpAny_mono h (fun o s₁ h₁=>wpAny_mono h₁ (fun i s₂ h₂=>?_) fun _ _ x=>x) fun _ _ x=>x)
 obtain⟨hT,h₂⟩:=h₂
 unfold subscriptTail
 refine wpAny_bind ?_
 rw[getitemInPython_of_ne hT.not_modules]
 refine wpAny_bind (wpAny_specialOf hT hl ?_)
 have fin:wpAny (model prog w) A (subscripted slice false o i) (fun r s₃=>wpAny (model prog w) A (letTemporaryGo value o r >>= fun _=>pure r) Q E s₃) E s₂:=by
  rw[hs o i]
  exact wpAny_operating (wpAny_mono h₂ (fun r s₃ h₃=>wpAny_bind (wpAny_letTemporaryGo (wpAny_pure h₃))) fun _ _ x=>x)
 first
  |exact wpAny_pure (wpAny_bind fin)
  |exact wpAny_bind (wpAny_pure (wpAny_bind fin))
  |exact wpAny_bind fin
theorem xI{X:Cx}{pins:List (Addr×Obj)}{σ:St}{H:Hp}{s:Shared}{a:Addr}{y:V}{o:Option V}(I:Inv X pins σ H s)(g:DGet H a y o):s.TypeIs (.ref a) "dict":=by
 rcases g with⟨kvs,k,e,_,_⟩ | ⟨kvs,k,b,e,_,_,_⟩
 ·obtain⟨_,_,vs,_,dd⟩:=DE I.hok e
  exact dd.typeIs
 ·obtain⟨_,_,xs,_,dd⟩:=DC I.hok e
  exact dd.typeIs
def tDGet(td ty:TE):TE:=fun σ H Q=>td σ H fun x H1=>ty σ H1 fun y H2=>∃ a v,x=.ref a/\DGet H2 a y (some v)/\Q v H2
def Ej(ty td:TE):TE:=fun σ H Q=>ty σ H fun y H1=>td σ H1 fun x H2=>∃ a o,x=.ref a/\DGet H2 a y o/\Q (.bl (!o.isSome)) H2
def sDPut(td ty tv:TE):TS:=fun D σ H=>tv σ H fun v H1=>td σ H1 fun x H2=>ty σ H2 fun y H3=>∃ a H4,x=.ref a/\DPut H3 a y v H4/\D.nx σ H4
section
variable{X:Cx}{o i e value:Expr}{pos pos' tpos:Pos}{td ty tv:TE}
theorem qE(hu:X.A.units+1<cLine)(ho:PE X o td)(hi:PE X i ty)(hs:NoSl i):PE X (.Subscript o i pos) (tDGet td ty):=by
 intro pins s σ H Q I h
 refine Ek PySem.F.slot_dict_getitem.lookup hs (thn (ho pins s σ H _ I h) fun u s1 ⟨x,H1,I1,rx,q1⟩=>thn (hi pins s1 σ H1 _ I1 q1) fun iv s2 ⟨y,H2,I2,ry,a,v,ex,g,q2⟩=>?_)
 subst ex
 obtain rfl:u=Value.ref a:=rx
 exact⟨xI I2 g,Cm hu I2 g ry fun w' s3 I3 rw'=>⟨v,H2,I3,rw',q2⟩⟩
theorem tF(hu:X.A.units+1<cLine)(hi:PE X i ty)(ho:PE X o td):PC X .NotIn i o (Ej ty td):=by
 intro pins s σ H Q I h
 refine thn (hi pins s σ H _ I h) fun iv s1 ⟨y,H1,I1,ry,q1⟩=>thn (ho pins s1 σ H1 _ I1 q1) fun u s2 ⟨x,H2,I2,rx,a,ov,ex,g,q2⟩=>?_
 subst ex
 obtain rfl:u=Value.ref a:=rx
 exact Fm hu I2 g ry fun s3 I3=>⟨.bl (!ov.isSome),H2,I3,rfl,q2⟩
theorem vZ(hu:X.A.units+1<cLine)(ho:PE X o td)(hi:PE X i ty)(hv:PE X value tv)(hs:swapsWith value (some (.Subscript o i pos')) pos.line X.env=pure false) :
  PS X (.Assign [.Subscript o i pos'] value pos) (sDPut td ty tv):=by
 intro pins s σ H D I h
 refine wpAny_Assign_Subscript (thn (hv pins s σ H _ I h) fun r s1 ⟨v,H1,I1,rv,q1⟩=>thn (ho pins s1 σ H1 _ I1 q1) fun u s2 ⟨x,H2,I2,rx,q2⟩=>thn (hi pins s2 σ H2 _ I2 q2) fun iv s3 ⟨y,H3,I3,ry,a,H4,ex,g,q3⟩=>?_) hs
 subst ex
 obtain rfl:u=Value.ref a:=rx
 exact Ck hu I3 g ry rv fun s4 I4=>⟨σ,H4,I4,q3⟩
end
theorem yT{P:Program}{w:World}{H:Hp}(h:Heap)(hb:sysModules<h.objs.size):bA P w H (h.push { cls:=.type "dict",data:=.dict #[] }) h.objs.size (.dK []) :=
 ⟨GJ _,beq_eq_false_iff_ne.mpr (Ne.symm (F4 hb)),[],.nil,Heap.DictOf.new h⟩
def tDNewK:TE:=fun _ H Q=>∀ p,H p=none->Q (.ref p) (upd H p (.dK []))
section
variable{X:Cx}{pos:Pos}
theorem yG:PE X (.Dict [] [] pos) tDNewK:=fun pins s σ H Q I h =>
 wpAny_Dict_empty ⟨.ref s.heap.objs.size,_,I.laid (a:=s.heap.objs.size) (o:=.dK []) (t':=s.toks) (fun _ _ q=>Heap.get?_push_of_some _ q) (FD _) (yT s.heap I.big),rfl,h _ (I.hok.fresh (FD _))⟩
end
def AL:List (TE×TE)->St->Hp->(List (V×V)->Hp->Prop)->Prop
 |[],_,H,Q=>Q [] H
 | (tk,tv)::r,σ,H,Q=>tk σ H fun x H1=>tv σ H1 fun y H2=>AL r σ H2 fun ps H3=>Q ((x,y)::ps) H3
abbrev VV:List (V×V)->List (Value×Value)->Prop:=Paired fun p q=>RelV p.1 q.1/\RelV p.2 q.2
def PPs(X:Cx)(pos:Pos)(keys:List (Option Expr))(values:List Expr)(trs:List (TE×TE)):Prop :=
 ∀(pins:List (Addr×Obj))(s:Shared)(σ:St)(H:Hp)(Q:List (V×V)->Hp->Prop),Inv X pins σ H s->AL trs σ H Q ->
  wpAny (model X.prog X.w) X.A (evalPairs (pairTrees keys values X.env pos)) (fun vs s'=>∃ ps H',Inv X pins σ H' s'/\VV ps vs/\Q ps H') X.xe s
theorem EC{X:Cx}{pos:Pos}:PPs X pos [] [] []:=fun pins s σ H Q I h=>pairTrees_nil_walk ⟨[],H,I,.nil,h⟩
theorem C3{X:Cx}{pos:Pos}{k v:Expr}{ks:List (Option Expr)}{vs:List Expr}{tk tv:TE}{trs:List (TE×TE)}(hk:PE X k tk)(hv:PE X v tv)(hr:PPs X pos ks vs trs) :
  PPs X pos (some k::ks) (v::vs) ((tk,tv)::trs):=fun pins s σ H Q I h =>
 pairTrees_cons_walk (thn (hk pins s σ H _ I h) fun u s1 ⟨x,H1,I1,rx,q1⟩=>thn (hv pins s1 σ H1 _ I1 q1) fun w2 s2 ⟨y,H2,I2,ry,q2⟩ =>
  thn (hr pins s2 σ H2 _ I2 q2) fun ws s3 ⟨ps,H3,I3,rel,q3⟩=>⟨(x,y)::ps,H3,I3,.cons ⟨rx,ry⟩ rel,q3⟩)
def lg(kvs more:List (Key×V)):List (Key×V):=more.foldl (fun acc kv=>putK acc kv.1 kv.2) kvs
theorem KV.merge:∀{more:List (Key×V)}{rs:List (Key×Value)}{kvs:List (Key×V)}{vs:List (Key×Value)},KV more rs->KV kvs vs->KV (lg kvs more) (merged vs rs):=by
 intro more rs kvs vs r
 unfold KV at r
 induction r generalizing kvs vs with
 |nil=>intro q;exact q
 | @cons p q ps qs h t ih =>
  intro r0
  have e:KV (putK kvs p.1 p.2) (stored vs q.1 q.2):=by
   have:=r0.put p.1 h.2
   rw[← h.1];exact this
  exact ih e
theorem jH:∀(more kvs:List (Key×V)),(lg kvs more).length<=kvs.length+more.length
 |[],kvs=>by show kvs.length<=kvs.length+0;omega
 |p::r,kvs=>by
  have h1:=jH r (putK kvs p.1 p.2)
  have h2:=dE kvs p.1 p.2
  show(lg (putK kvs p.1 p.2) r).length<=_
  rw[Ge];omega
theorem pH{P:Program}{w:World}:∀{kvs:List (Key×V)}{ws:List (Value×Value)},VV (kvs.map fun kv=>(kV kv.1,kv.2)) ws->∃ rs,Carries (bO P w) ws rs/\KV kvs rs
 |[],_,r=>by rw[List.map_nil]at r;cases r;exact⟨[],True.intro,.nil⟩
 |p::kvs,_,r=>by
  rw[F9]at r
  cases r with
  | @cons a b as bs h t =>
   obtain⟨rs,c,q⟩:=pH (P:=P) (w:=w) t
   obtain⟨b1,b2⟩:=b
   exact⟨(p.1,b2)::rs,⟨BU h.1,rfl,c⟩,.cons ⟨rfl,h.2⟩ q⟩
def tDisp(trs:List (TE×TE)):TE:=fun σ H Q=>∀ p,H p=none->AL trs σ (upd H p (.dK [])) fun ps H2=>H2 p=some (.dK [])/\∃ kvs:List (Key×V),ps=kvs.map (fun kv=>(kV kv.1,kv.2))/\kvs.length<=15/\Q (.ref p) (upd H2 p (.dK (lg [] kvs)))
theorem EJ{X:Cx}{pos:Pos}{keys:List (Option Expr)}{values:List Expr}{trs:List (TE×TE)}(h:PPs X pos keys values trs)(hall:keys.all (·.isSome)=true)(hl:keys.length=values.length)(h0:keys≠[])
  (h15:keys.length<=15):PE X (.Dict keys values pos) (tDisp trs):=by
 intro pins s σ H Q I q
 have hn:=I.hok.fresh (FD s.heap.objs.size)
 have I1:=I.laid (a:=s.heap.objs.size) (o:=.dK []) (h':=s.heap.push { cls:=.type "dict",data:=.dict #[] }) (t':=s.toks) (fun _ _ q=>Heap.get?_push_of_some _ q) (FD _) (yT s.heap I.big)
 refine wpAny_Dict_walk (knd:=bO X.prog X.w) hall hl h0 h15 (thn (h pins _ σ _ _ I1 (q _ hn)) fun ws s2 ⟨ps,H2,I2,rel,e,kvs,ep,lk,q2⟩=>?_)
 subst ep
 obtain⟨rs,c,rk⟩:=pH (P:=X.prog) (w:=X.w) rel
 obtain⟨z,hd,vs0,r0,dd⟩:=dk_of I2.hok e
 cases r0
 refine⟨rs,c,dd,fun h' dd' hs=>⟨.ref s.heap.objs.size,_,?_,rfl,q2⟩⟩
 have hz:(lg [] kvs).length<=sizeLine:=by
  have h1:=jH kvs []
  rw[Hu]at h1
  rw[sizeLine_eq];omega
 have he:∃ q,h'.get? s.heap.objs.size=some q:=let ⟨q,_,_,hq,_⟩:=dd';⟨q,hq⟩
 exact xR I2 (by rw[e];exact True.intro) hs he (D2 hz hd (rk.merge .nil) dd')
section
variable{X:Cx}{pins:List (Addr×Obj)}{σ:St}{H:Hp}{s:Shared}{a:Addr}{y d:V}{u r:Value}{o:Option V}{A:Around}{E:Value->Shared->Prop}
end
section
variable{X:Cx}{o e f:Expr}{apos cpos:Pos}{td ty tx:TE}
end
section
variable{X:Cx}{pins:List (Addr×Obj)}{σ:St}{H:Hp}{s:Shared}{a:Addr}{kvs:List (Key×V)}{A:Around}{E:Value->Shared->Prop}
end
section
variable{X:Cx}{pins:List (Addr×Obj)}{σ:St}{H:Hp}{s:Shared}{a:Addr}{y:V}{u:Value}{A:Around}{E:Value->Shared->Prop}
end
end L2
namespace Att
open PySem PySem.W PySem.Calls PyProof.Rows
section
variable{prog:Program}{w:World}{A:Around}{E:Value->Shared->Prop}{s:Shared}{K:Frag}
end
end Att
namespace L2
open PySem PySem.Spec PyProof.Rows
end L2
namespace L2
open PySem PySem.Spec PyProof.Rows
end L2
namespace L2
open PySem PySem.Spec PyProof.Rows
section
variable{P:Program}{w:World}{K:Fw}{mg:Str->Option Value}{base:Heap}
end
section
variable{X:Cx}
end
section
variable{κ:Type} [DecidableEq κ]
end
end L2
namespace L2
open PySem PySem.Spec PyProof.Rows
def clOf(env:Env)(fr:List (Str×Nat)):List (Str×Addr):=fr.map fun p=>(p.1,(env.cells.lookup p.1).getD 0)
def frOf(fr:List (Str×Nat))(σ:St):St:=fr.map fun p=>(σ[p.2]?).join
def c6(X:Cx)(scope:Scope)(fr:List (Str×Nat))(x:Str)(C:Addr)(ex:List Addr)(s:Shared)(H:Hp):Cx where
 prog:=X.prog
 w:=X.w
 K:=X.K
 mg:=X.mg
 base:=X.base
 A:=X.A
 N:=x::fr.map (·.1)
 s₀:=s
 H₀:=H
 env:=compEnvC scope (clOf X.env fr) C X.env
 outer:=X.stack
 stack:=X.stack
 ex:=ex
 fn:=fun _=>false
 calm:=X.calm
 pn:=[]
 xe:=fun _ _=>False
structure cB(X:Cx)(scope:Scope)(fr:List (Str×Nat))(x:Str):Prop where
 clos:closureFor scope X.env=pure (clOf X.env fr)
 cell:∀ y∈scope.names,y.2≠.cell
 kind:scope.kind=.function
 names:∀ y∈scope.names,y.2=.local->scope.names.lookup y.1=some .local
 xl:scope.names.lookup x=some .local
 nd:(x::fr.map (·.1)).Nodup
 slot:∀ p∈fr,X.N[p.2]?=some p.1/\X.env.kindOf p.1=some .cell
 has:∀ y∈(relabel scope X.env).names,(y.2=.cell∨y.2=.free)->y.1∈fr.map (·.1)
 frk:∀ p∈fr,(relabel scope X.env).names.lookup p.1=some .cell
theorem cB.plain{X:Cx}{scope:Scope}{x:Str}(clos:closureFor scope X.env=pure [])(cell:∀ y∈scope.names,y.2≠.cell)(kind:scope.kind=.function)(names:∀ y∈scope.names,y.2=.local->scope.names.lookup y.1=some .local)
  (hx:scope.names.lookup x=some .local) (nf:∀ y∈scope.names,y.2≠.free):cB X scope [] x where
 clos:=clos
 cell:=cell
 kind:=kind
 names:=names
 xl:=hx
 nd:=by simp
 slot:=fun p hp=>nomatch hp
 has:=fun y hy hk=>by
  obtain⟨⟨n,k⟩,hz,e⟩:=Gk.mp (show y∈scope.names.map _ from hy)
  have h1:=nf _ hz
  have h2:=cell _ hz
  dsimp only at e h1 h2
  have hf:(k == NameKind.free)=false:=by simpa using h1
  rw[hf]at e
  simp only[Hm,Ig,if_false]at e
  subst e
  exact(hk.elim h2 h1).elim
 frk:=fun p hp=>nomatch hp
theorem cB.one{X:Cx}{scope:Scope}{x y:Str}{j:Nat}(clos:closureFor scope X.env=pure (clOf X.env [(y,j)]))(cell:∀ y∈scope.names,y.2≠.cell)(kind:scope.kind=.function)(names:∀ y∈scope.names,y.2=.local->scope.names.lookup y.1=some .local)
  (hx:scope.names.lookup x=some .local) (nd:([x,y]:List Str).Nodup) (hN:X.N[j]?=some y) (hk:X.env.kindOf y=some .cell) (nf:∀ z∈scope.names,z.2=.free->z.1=y) (hr:(relabel scope X.env).names.lookup y=some .cell):cB X scope [(y,j)] x where
 clos:=clos
 cell:=cell
 kind:=kind
 names:=names
 xl:=hx
 nd:=nd
 slot:=fun p hp=>by
  have e:p=(y,j):=by simpa using hp
  subst e
  exact⟨hN,hk⟩
 has:=fun z hz hk=>by
  obtain⟨⟨n,k⟩,hm,e⟩:=Gk.mp (show z∈scope.names.map _ from hz)
  have h2:=cell _ hm
  dsimp only at e h2
  have hn:z.1=n:=by rw[← e];split<;>rfl
  have hf:k=.free:=by
   by_cases q:k=.free
   ·exact q
   ·have hb:(k == NameKind.free)=false:=by simpa using q
    rw[hb]at e
    simp only[Hm,Ig,if_false]at e
    subst e
    exact(hk.elim h2 q).elim
  have:=nf _ hm hf
  rw[hn]
  simp[← this]
 frk:=fun p hp=>by
  have e:p=(y,j):=by simpa using hp
  subst e
  exact hr
theorem eU{env:Env}:∀{fr:List (Str×Nat)}{y:Str}{c:Addr},(clOf env fr).lookup y=some c->y∈fr.map (·.1)/\c=(env.cells.lookup y).getD 0
 |[],_,_,h=>by cases h
 |p::r,y,c,h=>by
  unfold clOf at h
  rw[F9,List.lookup_cons]at h
  cases e:y == p.1 with
  |true =>
   rw[e]at h
   have ey:y=p.1:=eq_of_beq e
   cases h
   exact⟨by rw[ey];exact FP,by rw[ey]⟩
  |false =>
   rw[e]at h
   obtain⟨a,b⟩:=eU (env:=env) (fr:=r) h
   exact⟨FK _ a,b⟩
theorem bI{env:Env}:∀{fr:List (Str×Nat)}{y:Str},y∈fr.map (·.1)->(clOf env fr).lookup y=some ((env.cells.lookup y).getD 0)
 |[],_,h=>by cases h
 |p::r,y,h=>by
  unfold clOf
  rw[F9,List.lookup_cons]
  cases e:y == p.1 with
  |true =>
   have ey:y=p.1:=eq_of_beq e
   rw[ey]
  |false =>
   have ny:y≠p.1:=fun z=>by rw[z]at e;simp at e
   rcases FC.mp h with z | z
   ·exact absurd z ny
   ·exact bI (env:=env) (fr:=r) z
section
variable{X:Cx}{pins:List (Addr×Obj)}{σ:St}{H:Hp}{s:Shared}{scope:Scope}{fr:List (Str×Nat)}{x:Str}
theorem cB.cells(O:cB X scope fr x)(I:Inv X pins σ H s){y:Str}{c:Addr}(h:(clOf X.env fr).lookup y=some c):X.env.cells.lookup y=some c:=by
 obtain⟨hm,e⟩:=eU h
 obtain⟨p,hp,ep⟩:=Gk.mp hm
 have k:=(O.slot p hp).2
 rw[ep]at k
 obtain⟨c',e'⟩:=I.ok.has y (.inl k)
 rw[e']at e
 rw[e',e]
 rfl
theorem Dw{fp:List Addr}(O:cB X scope fr x)(I:Inv X pins σ H s)(hf:∀ b∈fp,FpOk X pins H b)(hfs:∀ b∈fp,b<s.heap.objs.size){g h':Heap}{tk:Nat}(hg:g=s.heap.push (LCg.lst []))
  (hk:∀ b o,g.get? b=some o->h'.get? b=some o) (hC:h'.Ns g.objs.size fun _=>none) :
  Inv (c6 X scope fr x g.objs.size (s.heap.objs.size::fp) { s with heap:=g } H) (X.pn++pins++[(s.heap.objs.size,LCg.lst [])]) (none::frOf fr σ) H { s with heap:=h',toks:=tk }:=by
 have hsz:g.objs.size=s.heap.objs.size+1:=by rw[hg,Heap.size_push]
 have kp:∀ b o,s.heap.get? b=some o->g.get? b=some o:=fun b o e=>by rw[hg];exact Heap.get?_push_of_some _ e
 have hk0:∀ b o,s.heap.get? b=some o->h'.get? b=some o:=fun b o e=>hk b o (kp b o e)
 have hDo:h'.get? s.heap.objs.size=some (LCg.lst []):=hk _ _ (by rw[hg];exact Heap.get?_push_size _ rfl)
 have neC:∀ b,b<s.heap.objs.size->b≠g.objs.size:=fun b e=>by rw[hsz];exact F4 (G6 e)
 have hDC:s.heap.objs.size≠g.objs.size:=by rw[hsz];exact F4 (GP _)
 have hfr:H g.objs.size=none:=I.hok.fresh (by rw[hsz];exact G4 _)
 have hfD:H s.heap.objs.size=none:=I.hok.fresh (FD _)
 have cne:∀ y c,X.env.cells.lookup y=some c->c<s.heap.objs.size:=fun y c e=>by
  obtain⟨v,q⟩:=I.cell y c e
  exact q.lt
 have nst:∀ b,b≠X.env.locals->b∉X.fs->b∉frs X.stack:=fun b h1 h2 z=>(FC.mp (I.stkSub b z)).elim h1 h2
 have nstD:s.heap.objs.size∉frs X.stack:=nst _ (Hc I.lt) (I.nofs (FD _))
 refine⟨⟨I.ok.mod,O.kind,I.ok.glob,I.ok.blt,FD _,?_,?_,fun _ _ z _=>(by cases z),I.ok.hd,I.ok.frames,.inl rfl,?_,?_,?_,?_,?_,?_,I.stkFree⟩,rfl,I.bare,Un.kept hk,?_,?_,hfr,?_,?_,I.hok.kept hk0,?_⟩
 ·intro y z c h1 h2
  exact I.ok.inj y z c (O.cells I h1) (O.cells I h2)
 ·intro y hy
  have hm:y∈fr.map (·.1):=by
   rcases hy with hy | hy
   ·exact O.has (y,_) (GC hy) (.inl rfl)
   ·exact O.has (y,_) (GC hy) (.inr rfl)
  exact⟨_,bI hm⟩
 ·intro b hb
  rcases FC.mp hb with rfl | hb
  ·exact⟨hDC,fun y c e=>F4 (cne y c (O.cells I e))⟩
  ·exact⟨neC b (hfs b hb),fun y c e=>(hf b hb).2.2.2.2.1 y c (O.cells I e)⟩
 ·intro b o e
  exact⟨kp b o (I.bs b o e).1,(I.bs b o e).2⟩
 ·show X.base.objs.size<=g.objs.size
  rw[hsz]
  exact Nat.le_succ_of_le (Gs I.ok.bsz I.sz)
 ·intro b o e hb
  rcases FC.mp hb with z | hb
  ·have:=Heap.lt_size (I.bs b o e).1
   rw[z]at this
   exact GA _ this
  ·rcases(hf b hb).2.2.2.1 with z | z
   ·exact I.ok.noex b o e z
   ·exact absurd (F2 (Heap.lt_size (I.ok.bs b o e).1) z) (GA _)
 ·intro b hb
  rcases FC.mp hb with z | hb
  ·rw[z];exact nstD
  ·exact nst b (hf b hb).2.1 (hf b hb).2.2.1
 ·exact(I.kept (h':=g) (t':=s.toks) kp).stack
 ·refine⟨_,hC,fun i y v e1 e2 e3=>?_⟩
  cases i with
  |zero=>cases e2
  |succ k =>
   have e1':(fr.map (·.1))[k]?=some y:=e1
   have e2':(frOf fr σ)[k]?=some (some v):=e2
   unfold frOf at e2'
   rw[F0]at e1' e2'
   cases q:fr[k]? with
   |none=>rw[q]at e1';cases e1'
   |some p =>
    rw[q]at e1' e2'
    have ey:p.1=y:=FW e1'
    have ev:(σ[p.2]?).join=some v:=FW e2'
    have hp:p∈fr:=Fx q
    obtain⟨hN,hK⟩:=O.slot p hp
    have hkk:=O.frk p hp
    rw[ey]at hN hK hkk
    have ev':σ[p.2]?=some (some v):=by
     cases q2:σ[p.2]? with
     |none=>rw[q2]at ev;cases ev
     |some w=>rw[q2]at ev;exact congrArg some ev
    obtain⟨m,hn,hl⟩:=I.loc
    obtain⟨u,r,l⟩:=hl p.2 y v hN ev' (.inr (.inl hK))
    refine⟨u,r,?_⟩
    rcases l with⟨k1,_⟩ | ⟨_,c,ec,z⟩
    ·rw[hK]at k1;cases k1
    ·have hm:y∈fr.map (·.1):=by rw[← ey];exact Gk.mpr ⟨p,hp,rfl⟩
     have el:=bI (env:=X.env) hm
     rw[ec]at el
     exact .inr ⟨.inl hkk,c,el,by obtain⟨o,ho,hd⟩:=z;exact⟨o,hk0 _ _ ho,hd⟩⟩
 ·intro y c e
  obtain⟨v,o,ho,hd⟩:=I.cell y c (O.cells I e)
  exact⟨v,o,hk0 _ _ ho,hd⟩
 ·intro y c e
  exact I.freeC y c (O.cells I e)
 ·intro p hp
  rcases FG.mp hp with hp | hp
  ·cases hp
  ·rcases FG.mp hp with hp | hp
   ·obtain⟨e,n,ne,nf,d⟩:=I.pin p hp
    exact⟨hk0 _ _ e,n,neC _ (Heap.lt_size e),nst _ ne nf,d⟩
   ·have ep:p=(s.heap.objs.size,LCg.lst []):=by simpa using hp
    subst ep
    exact⟨hDo,hfD,hDC,nstD,fun v z=>by cases z⟩
 ·show(none::frOf fr σ).length=(x::fr.map (·.1)).length
  unfold frOf
  simp
theorem uA{fp:List Addr}{g:Heap}{s':Shared}{H':Hp}{σ':St}{ys:List V}{us:List Value}(I:Inv X pins σ H s)(hf:∀ b∈fp,FpOk X pins H b)(hg:g=s.heap.push (LCg.lst []))
  (J:Inv (c6 X scope fr x g.objs.size (s.heap.objs.size::fp) { s with heap:=g } H) (X.pn++pins++[(s.heap.objs.size,LCg.lst us)]) σ' H' s') (hv:Vals ys us) (hl:ys.length<=sizeLine) :
  Inv X pins σ (upd H' s.heap.objs.size (.lst ys)) s'/\H' s.heap.objs.size=none/\FpOk X pins (upd H' s.heap.objs.size (.lst ys)) g.objs.size/\∃ m,s'.heap.Ns g.objs.size m:=by
 have hsz:g.objs.size=s.heap.objs.size+1:=by rw[hg,Heap.size_push]
 have kp:∀ b o,s.heap.get? b=some o->g.get? b=some o:=fun b o e=>by rw[hg];exact Heap.get?_push_of_some _ e
 obtain⟨eD,nD,_,_,_⟩:=J.pin (s.heap.objs.size,LCg.lst us) (by simp)
 have hDC:g.objs.size≠s.heap.objs.size:=by rw[hsz];exact Hc (GP _)
 have nD':∀ b u,H' b=some u->b≠s.heap.objs.size:=fun b u e z=>by rw[z]at e;rw[e]at nD;cases nD
 have hx:∀ b o,s.heap.get? b=some o->b∉fp->b∉s.heap.objs.size::fp:=fun b o e hb z=>by
  rcases FC.mp z with z | z
  ·have:=Heap.lt_size e
   rw[z]at this
   exact GA _ this
  ·exact hb z
 have bU:Un (frs X.stack) (s.heap.objs.size::fp) H H' g s'.heap:=J.base
 have ltD:∀ b o,s.heap.get? b=some o->b≠s.heap.objs.size:=fun b o e=>F4 (Heap.lt_size e)
 have un:Un (frs X.stack) fp H (upd H' s.heap.objs.size (.lst ys)) s.heap s'.heap:=by
  refine⟨fun b o e n hb he=>bU.keep b o (kp b o e) n hb (hx b o e he),fun b o e n hb he=>bU.slot b o (kp b o e) n hb (hx b o e he),fun b o e n he=>?_,fun b o e he=>bU.there b o (kp b o e) (hx b o e he),fun b xs e=>?_,fun b o u e=>?_,fun b ps e=>?_⟩
  ·rw[ak (ltD b o e)];exact bU.free b o (kp b o e) n (hx b o e he)
  ·have q:=bU.tups b xs e
   rw[ak (nD' b _ q)];exact q
  ·have q:=bU.frzs b o u e
   rw[ak (nD' b _ q)];exact q
  ·obtain⟨more,q⟩:=bU.tbls b ps e
   exact⟨more,by rw[ak (nD' b _ q)];exact q⟩
 have hok:HOk X.prog X.w (upd H' s.heap.objs.size (.lst ys)) s'.heap:=fun b u e=>by
  by_cases hb:b=s.heap.objs.size
  ·rw[hb,af]at e
   cases e
   rw[hb]
   exact⟨hl,us,us.length,hv,eD⟩
  ·rw[ak hb]at e
   exact(J.hok b u e).stay (fun c v _ q=>q) (fun c q=>by rw[ak (nD' c _ q)];exact q) fun c xs q=>by rw[ak (nD' c _ q)];exact q
 have os:s'.os=s.os:=J.os
 refine⟨I.call' os un hok J.bare fun b hb=>⟨(hf b hb).2.2.2.1,(hf b hb).2.1,(hf b hb).2.2.2.2⟩,nD,?_,?_⟩
 ·refine I.fpOk (H':=upd H' s.heap.objs.size (.lst ys)) (b:=g.objs.size) (by rw[hsz];exact G4 _) ?_
  rw[ak hDC]
  exact J.free
 ·obtain⟨m,hn,_⟩:=J.loc
  exact⟨m,hn⟩
end
def o7(te:TE)(fv:St)(J:It)(H1:Hp)(QQ:List V->Hp->Prop):Prop :=
 ∃ W:Nat->Nat->List V->Hp->Prop,(∃ m,W 0 m [] H1)/\∀ i m ys H,W i m ys H->ys.length<=sizeLine /\
  ((J.stop i H/\QQ ys H)∨(J.go i H/\∃ N:V->Hp->Prop,(∀ y H2,N y H2->∃ m',m'<m/\W (i+1) m' (ys++[y]) H2)/\∀ x H',J.yld i H x H'->te (some x::fv) H' N))
section
variable{X:Cx}{scope:Scope}{fr:List (Str×Nat)}{x:Str}{elt iter:Expr}{px pos:Pos}{te:TE}{wi:TI}
theorem uV{pins:List (Addr×Obj)}{σ:St}{H:Hp}{s:Shared}{E:Value->Shared->Prop}{it:Addr}{fp:List Addr}{tn:Nat->Heap->Prop}{J:It}{RR:Value->Addr->Result->Shared->Prop}{QQ:List V->Hp->Prop}(hc:X.calm=true)(O:cB X scope fr x)
  (he:∀ C ex s H,PE (c6 X scope fr x C ex s H) elt te) (I:Inv X pins σ H s) (T:Turn X.prog X.w X.K (.Name x px) J fp it tn) (st:tn 0 s.heap) (hf:∀ b∈fp,FpOk X pins H b) (hq:o7 te (frOf fr σ) J H QQ)
  (fin:∀ D C H4 ys s4 m,Inv X pins σ (upd H4 D (.lst ys)) s4->H4 D=none->FpOk X pins (upd H4 D (.lst ys)) C->s4.heap.Ns C m->QQ ys H4->RR (.ref D) C (.ok .next) s4) :
  wpAny (model X.prog X.w) X.A (newList []) (fun acc s₃=>wpAny (model X.prog X.w) X.A (newFunctionEnv scope X.env.globals (clOf X.env fr) [] X.env.qual none .none (some X.env)) (fun cenv s₄ =>
   codeAny (model X.prog X.w) X.A (.compStart (.ListComp elt [⟨.Name x px,iter,[],0⟩] scope pos) 0 (.ref it) acc { cenv with scope:=relabel scope X.env }) (RR acc cenv.locals) s₄) E s₃) E s:=by
 obtain⟨W,⟨m0,w0⟩,turn⟩:=hq
 have hfs:∀ b∈fp,b<s.heap.objs.size:=fun b hb=>by
  obtain⟨o,e,_⟩:=T.obj 0 s.heap st b hb
  exact Heap.lt_size e
 refine wpAny_newObj_type (wpAny_newFunctionEnv O.cell (by intro y hy;simp at hy) (fun h₁ hns₁ hsb₁=>?_) O.kind)
 dsimp only at hns₁ hsb₁ ⊢
 generalize hH2:s.heap.push { cls:=.type "list",dict:=none,data:=.seq ([]:List Value).toArray }=g at hns₁ hsb₁ ⊢
 have hg:g=s.heap.push (LCg.lst []):=hH2.symm
 have hsz:g.objs.size=s.heap.objs.size+1:=by rw[hg,Heap.size_push]
 have hk:∀ b o,g.get? b=some o->h₁.get? b=some o:=fun b o e=>hsb₁.extBut b o (F4 (Heap.lt_size e)) (Heap.get?_push_of_some _ e)
 have kp:∀ b o,s.heap.get? b=some o->h₁.get? b=some o:=fun b o e=>hk b o (by rw[hg];exact Heap.get?_push_of_some _ e)
 have J0:=Dw (h':=h₁) (tk:=s.toks+([]:List (Str×Value)).length) O I hf hfs hg hk hns₁
 have stat:∀{H':Hp}{us:List Value},(∀ b∈fp,H' b=none)->∀ b∈fp,FpOk (c6 X scope fr x g.objs.size (s.heap.objs.size::fp) { s with heap:=g } H) (X.pn++pins++[(s.heap.objs.size,LCg.lst us)]) H' b:=fun{H' us} hn b hb=>by
  obtain⟨_,f1,f2,f3,f4,f5⟩:=hf b hb
  refine⟨hn b hb,?_,fun z=>(FC.mp (I.stkSub b z)).elim f1 f2,.inl (FK _ hb),fun y c e=>f4 y c (O.cells I e),fun p hp=>?_⟩
  ·show b≠g.objs.size
   rw[hsz];exact F4 (G6 (hfs b hb))
  ·rcases FG.mp hp with hp | hp
   ·cases hp
   ·rcases FG.mp hp with hp | hp
    ·exact f5 p hp
    ·have ep:p=(s.heap.objs.size,LCg.lst us):=by simpa using hp
     rw[ep]
     exact Hc (hfs b hb)
 have loop:codeAny (model X.prog X.w) X.A (.compLoop (.ListComp elt [⟨.Name x px,iter,[],0⟩] scope pos) 0 (.ref it) (.ref s.heap.objs.size) (compEnvC scope (clOf X.env fr) g.objs.size X.env))
   (RR (.ref s.heap.objs.size) g.objs.size) { s with heap:=h₁,toks:=s.toks+([]:List (Str×Value)).length }:=by
  refine codeAny_compLoop_tests (fun n s'=>∃ i ys us H',Inv (c6 X scope fr x g.objs.size (s.heap.objs.size::fp) { s with heap:=g } H) (X.pn++pins++[(s.heap.objs.size,LCg.lst us)]) (none::frOf fr σ) H' s'/\Vals ys us/\tn i s'.heap/\(∀ b∈fp,H' b=none)/\W i n ys H') ?_ m0
   ⟨0,[],[],H,J0,.nil,T.keep 0 s.heap h₁ st fun b _ o e=>kp b o e,fun b hb=>(hf b hb).1,w0⟩
  rintro n s3 ⟨i,ys,us,H3,J3,hv,st3,fr3,w3⟩
  obtain⟨hlen,hh⟩:=turn i n ys H3 w3
  have none_err:∀{α:Type}{t:Sem α}{Q:α->Shared->Prop}{E':Value->Shared->Prop}{s:Shared},wpAny (model X.prog X.w) X.A t Q (fun _ _=>False) s->wpAny (model X.prog X.w) X.A t Q E' s:=fun h=>wpAny_mono h (fun _ _ q=>q) fun _ _ z=>z.elim
  rcases hh with⟨stop,qn⟩ | ⟨go,N,hN,step⟩
  ·refine none_err (thn (T.done (c6 X scope fr x g.objs.size (s.heap.objs.size::fp) { s with heap:=g } H) rfl rfl rfl hc i _ s3 _ H3 _ J3 (stat fr3) st3 stop) fun r s4 ⟨hr,J4⟩=>?_)
   subst hr
   obtain⟨I4,nD,fC,m,hn⟩:=uA I hf hg J4 hv hlen
   exact fin _ _ H3 ys s4 m I4 nD fC hn qn
  ·refine none_err (thn (T.item (c6 X scope fr x g.objs.size (s.heap.objs.size::fp) { s with heap:=g } H) rfl rfl rfl hc i _ s3 _ H3 _ J3 (stat fr3) st3 go) fun r s4 ⟨u,hr,h4⟩=>?_)
   subst hr
   have h4':=wpAny_bind (f:=fun _=>assign (.Name x px) (compEnvC scope (clOf X.env fr) g.objs.size X.env) u) (thn h4 (Q':=fun _ s5=>wpAny (model X.prog X.w) X.A (assign (.Name x px) (compEnvC scope (clOf X.env fr) g.objs.size X.env) u) (fun _ s6=>∃(σ6:St)(H6:Hp)(v:V)(s5':Shared)(H5:Hp),Inv (c6 X scope fr x g.objs.size (s.heap.objs.size::fp) { s with heap:=g } H) (X.pn++pins++[(s.heap.objs.size,LCg.lst us)]++tD fp s5'.heap) σ6 H6 s6/\σ6=some v::frOf fr σ/\H6=H5/\J.yld i H3 v H5/\tn (i+1) s5'.heap) (fun _ _=>False) s5) fun _ s5 ⟨v,H5,J5,r5,y5,st5,fr5⟩=>by
    have J5':=J5.pinned (stat fr5) (T.obj _ _ st5)
    have hNd:(c6 X scope fr x g.objs.size (s.heap.objs.size::fp) { s with heap:=g } H).N.Nodup:=O.nd
    have hxl:(c6 X scope fr x g.objs.size (s.heap.objs.size::fp) { s with heap:=g } H).env.scope.names.lookup x=some .local:=lookup_relabel_local O.xl
    exact thn (aQ (X:=c6 X scope fr x g.objs.size (s.heap.objs.size::fp) { s with heap:=g } H) (i:=0) hNd rfl (.inl hxl) (.inr hxl) _ s5 _ H5 v u (fun σ6 H6=>σ6=some v::frOf fr σ/\H6=H5) J5' r5 ⟨rfl,rfl⟩) fun _ s6 ⟨σ6,H6,J6,e6,e7⟩=>⟨σ6,H6,v,s5,H5,J6,e6,e7,y5,st5⟩)
   refine none_err (thn h4' fun _ s6 ⟨σ6,H6,v,s5,H5,J6,e6,e7,y5,st5⟩=>?_)
   subst e6 e7
   refine wpAny_tests_nil ?_
   rw[if_pos rfl]
   refine none_err (thn (he _ _ _ _ _ s6 _ H6 _ J6 (step v H6 y5)) fun u7 s7 ⟨v7,H7,J7,r7,q7⟩=>?_)
   obtain⟨m',hm,w7⟩:=hN v7 H7 q7
   obtain⟨eD,nD,dC,dF,dd⟩:=J7.pin (s.heap.objs.size,LCg.lst us) (FN _ (F3 _ (FN _ (by simp))))
   have hvl:=hv.length
   refine append_at (hsz:=by show us.toArray.size<=sizeLine;rw[FZ,← hvl];exact hlen) eD fun h8 hs8 hD8=>?_
   have pinD:∀ p∈X.pn++pins,p.1≠s.heap.objs.size:=fun p hp z=>by
    have:=Heap.lt_size (I.pin p hp).1
    rw[z]at this
    exact GA _ this
   have J7a:Inv (c6 X scope fr x g.objs.size (s.heap.objs.size::fp) { s with heap:=g } H) (X.pn++pins) _ H7 s7:=J7.pins_of fun p hp=>J7.pin p (FN _ (F3 _ (F3 _ hp)))
   have J8:Inv (c6 X scope fr x g.objs.size (s.heap.objs.size::fp) { s with heap:=g } H) (X.pn++pins) _ H7 { s7 with heap:=h8 }:=J7a.turned (t':=s7.toks) (fun b o hb e=>(hs8.2 b hb).trans e) nD dC (.inl FP) (fun y c e z=>by
    obtain⟨w',q⟩:=I.cell y c (O.cells I e)
    have:=q.lt
    rw[z]at this
    exact GA _ this) (fun p hp=>(FG.mp hp).elim (fun z=>by cases z) (pinD p))
   have J9:Inv (c6 X scope fr x g.objs.size (s.heap.objs.size::fp) { s with heap:=g } H) (X.pn++pins++[(s.heap.objs.size,LCg.lst (us++[u7]))]) _ H7 { s7 with heap:=h8 }:=J8.pins_of fun p hp=>by
    rcases FG.mp hp with hp | hp
    ·exact J8.pin p (FN _ hp)
    ·have ep:p=(s.heap.objs.size,LCg.lst (us++[u7])):=by simpa using hp
     subst ep
     exact⟨hD8.trans (congrArg some (LCg.lst_snoc us u7)),nD,dC,dF,fun v z=>by cases z⟩
   have J10:=J9.weak (σ':=none::frOf fr σ) rfl fun i v e=>by
    cases i with
    |zero=>cases e
    |succ k=>exact e
   have pinF:∀ b∈fp,∀ o,s5.heap.get? b=some o->s7.heap.get? b=some o/\H7 b=none:=fun b hb o e=>by
    obtain⟨q1,q2,_⟩:=J7.pin (b,o) (FN _ (FN _ (ft hb e)))
    exact⟨q1,q2⟩
   refine⟨m',hm,i+1,ys++[v7],us++[u7],H7,J10,hv.append (.cons r7 .nil),T.keep _ _ _ st5 fun b hb o e=>(hs8.2 b (F4 (hfs b hb))).trans (pinF b hb o e).1,fun b hb=>?_,w7⟩
   obtain⟨o,e,_⟩:=T.obj _ _ st5 b hb
   exact(pinF b hb o e).2
 exact codeAny_compStart_list loop (T.self X.A 0 _ _ _ (T.keep 0 s.heap h₁ st fun b _ o e=>kp b o e) loop)
def tComp(wi:TI)(te:TE)(fr:List (Str×Nat)):TE:=fun σ H Q=>wi σ H fun J H1=>o7 te (frOf fr σ) J H1 fun ys H2=>∀ D,H2 D=none->Q (.ref D) (upd H2 D (.lst ys))
theorem kh(hc:X.calm=true)(O:cB X scope fr x)(hi:PI X (.Name x px) iter wi)(he:∀ C ex s H,PE (c6 X scope fr x C ex s H) elt te)(hs:∀ x,foldedSetIterable iter X.env x=pure x:=by intro _;rfl) :
  PE X (.ListComp elt [⟨.Name x px,iter,[],0⟩] scope pos) (tComp wi te fr):=by
 intro pins s σ H Q I h
 rw[eval_ListComp]
 refine wpAny_comprehension_free (use:=none) rfl hs O.clos O.kind O.names (thn (hi pins s σ H _ I h) fun xv s1 h1=>thn h1 fun itv s2 h2=>?_)
 obtain⟨it,fp,tn,J,H2,e,I2,T,st2,f2,q2⟩:=h2
 subst e
 refine uV (RR:=fun acc C=>compPost (model X.prog X.w) X.A X.xe none (EP X pins σ Q) acc C) hc O he I2 T st2 f2 q2 ?_
 intro D C H4 ys s4 m I4 nD fC hn q4
 refine⟨m,hn,fun h' hs'=>?_⟩
 obtain⟨g0,g1,g2,g3,g4,g5⟩:=fC
 exact⟨.ref D,_,I4.turned (t':=s4.toks) (fun b o hb e=>(hs'.2 b hb).trans e) g0 g1 g3 g4 g5,rfl,q4 D nD⟩
def CQ(i:Nat)(wi:TI)(te:TE)(fr:List (Str×Nat)):TS:=fun D σ H=>wi σ H fun J H1=>o7 te (frOf fr σ) J H1 fun ys H2=>∀ a,H2 a=none->D.nx (σ.set i (some (.ref a))) (upd H2 a (.lst ys))
theorem kf{i:Nat}{y:Str}{py spos:Pos}(hc:X.calm=true)(hN:X.N.Nodup)(hi':X.N[i]?=some y)(hy:X.env.scope.names.lookup y=some .local)(O:cB X scope fr x)(hi:PI X (.Name x px) iter wi)(he:∀ C ex s H,PE (c6 X scope fr x C ex s H) elt te)
  (hsw:swapsWith (.ListComp elt [⟨.Name x px,iter,[],0⟩] scope pos) (some (.Name y py)) spos.line X.env=pure true:=by rfl) (hs:∀ x,foldedSetIterable iter X.env x=pure x:=by intro _;rfl) :
  PS X (.Assign [.Name y py] (.ListComp elt [⟨.Name x px,iter,[],0⟩] scope pos) spos) (CQ i wi te fr):=by
 intro pins s σ H D I h
 rw[exec_Assign_Name_used _ _ _ _ hsw]
 refine wpAny_bind (wpAny_standAt (wpAny_bind ?_))
 show wpAny _ X.A (do let _ ← comprehension (.ListComp elt [⟨.Name x px,iter,[],0⟩] scope pos) scope X.env _ (newList []) false (eval iter X.env) (some (assign (.Name y py) X.env))) _ _ s
 refine wpAny_bind (thn (wpAny_comprehension_free (use:=some (assign (.Name y py) X.env)) (Q:=fun _ s'=>SP X pins D .next s') rfl hs O.clos O.kind O.names (thn (hi pins s σ H _ I h) fun xv s1 h1=>thn h1 fun itv s2 h2=>?_)) fun _ s' hq=>wpAny_pure (wpAny_pure hq))
 obtain⟨it,fp,tn,J,H2,e,I2,T,st2,f2,q2⟩:=h2
 subst e
 refine uV (RR:=fun acc C=>compPost (model X.prog X.w) X.A X.xe (some (assign (.Name y py) X.env)) (fun _ s'=>SP X pins D .next s') acc C) hc O he I2 T st2 f2 q2 ?_
 intro a C H4 ys s4 m I4 nD fC hn q4
 obtain⟨g0,g1,g2,g3,g4,g5⟩:=fC
 obtain⟨oC,eC,hoC⟩:=LCg.ns_obj hn
 have I5:Inv X (pins++[(C,oC)]) σ (upd H4 a (.lst ys)) s4:=I4.pins_of fun p hp=>by
  rcases FG.mp hp with hp | hp
  ·exact I4.pin p (FN _ hp)
  ·have ep:p=(C,oC):=by simpa using hp
   subst ep
   obtain⟨es,epp,hd,_⟩:=hoC
   exact⟨eC,g0,g1,g2,fun v z=>by rw[hd]at z;cases z⟩
 show wpAny _ X.A (assign (.Name y py) X.env (.ref a)) _ _ _
 refine wpAny_assign_Name (my I5 hN hi' (.inl hy) (v:=.ref a) rfl (fun s6 I6=>?_) (.inr hy))
 obtain⟨e6,_⟩:=I6.pin (C,oC) (FN _ (FN _ (by simp)))
 refine⟨m,hoC.ns e6,fun h' hs'=>?_⟩
 exact⟨_,_,I6.unpinned.turned (t':=s6.toks) (fun b o hb e=>(hs'.2 b hb).trans e) g0 g1 g3 g4 g5,q4 a nD⟩
end
theorem fA{K:Fw}{a:Addr}{xs:List V}{te:TE}{fv:St}{H1:Hp}{QQ:List V->Hp->Prop}(Pv:Nat->List V->Hp->Prop)(hz:xs.length<=sizeLine)(h0:Pv 0 [] H1)(hl:∀ i ys H,i<=xs.length->Pv i ys H->SqL K H a xs)
  (hs:∀ i x ys H,xs[i]?=some x->Pv i ys H->te (some x::fv) H fun y H2=>Pv (i+1) (ys++[y]) H2) (hd:∀ ys H,ys.length=xs.length->Pv xs.length ys H->QQ ys H)
  : o7 te fv (Itl K a) H1 QQ:=by
 refine⟨fun i m ys H=>m=xs.length-i/\i<=xs.length/\ys.length=i/\Pv i ys H,⟨xs.length,by simp,GJ _,rfl,h0⟩,?_⟩
 rintro i m ys H ⟨rfl,hi,hy,p⟩
 have q:=hl i ys H hi p
 refine⟨by omega,?_⟩
 by_cases hlt:i<xs.length
 ·refine .inr ⟨⟨xs,xs[i],q,by simp[hlt]⟩,fun y H2=>Pv (i+1) (ys++[y]) H2,fun y H2 p2=>⟨xs.length-(i+1),by omega,rfl,hlt,by rw[Fy,hy];rfl,p2⟩,fun x H' y=>?_⟩
  obtain⟨e,y⟩:=y
  subst e
  exact hs i x ys _ (y xs q) p
 ·have e:i=xs.length:=by omega
  subst e
  exact .inl ⟨⟨xs,q,FD _⟩,hd ys H hy p⟩
theorem pB{lo:Int}{n:Nat}{te:TE}{fv:St}{H1:Hp}{QQ:List V->Hp->Prop}(Pv:Nat->List V->Hp->Prop)(hz:n<=sizeLine)(h0:Pv 0 [] H1)
  (hs:∀ i ys H,i<n->Pv i ys H->te (some (.int (lo+i))::fv) H fun y H2=>Pv (i+1) (ys++[y]) H2) (hd:∀ ys H,ys.length=n->Pv n ys H->QQ ys H)
  : o7 te fv (Itr lo n) H1 QQ:=by
 refine⟨fun i m ys H=>m=n-i/\i<=n/\ys.length=i/\Pv i ys H,⟨n,by simp,GJ _,rfl,h0⟩,?_⟩
 rintro i m ys H ⟨rfl,hi,hy,p⟩
 refine⟨by omega,?_⟩
 by_cases hlt:i<n
 ·refine .inr ⟨hlt,fun y H2=>Pv (i+1) (ys++[y]) H2,fun y H2 p2=>⟨n-(i+1),by omega,rfl,hlt,by rw[Fy,hy];rfl,p2⟩,fun x H' y=>?_⟩
  obtain⟨e,y⟩:=y
  subst e y
  exact hs i ys _ hlt p
 ·have e:i=n:=by omega
  subst e
  exact .inl ⟨FD _,hd ys H hy p⟩
end L2
namespace L2
open PySem PySem.Spec PyProof.Rows
theorem pJ:bootBuiltins "int" = some (.type "int"):=by decide +kernel
theorem Fp:bootBuiltins "bool" = some (.type "bool"):=by decide +kernel
theorem nY:bootBuiltins "list" = some (.type "list"):=by decide +kernel
theorem bf:bootBuiltins "len" = some (.builtin "len"):=by decide +kernel
theorem DH:bootBuiltins "range" = some (.type "range"):=by decide +kernel
theorem dh:bootBuiltins "isinstance" = some (.builtin "isinstance"):=by decide +kernel
theorem Cy:bootBuiltins "sorted" = some (.builtin "sorted"):=by decide +kernel
theorem uZ:bootBuiltins "enumerate" = some (.type "enumerate"):=by decide +kernel
structure Cal(P:Program)(w:World)(K:Fw)(mg:Str->Option Value)(base:Heap)(k:Nat)(x:Str)(ps:List Str)(sp:Sp)(f:Addr)(fd:FuncData):Prop where
 ok:FnOk P w K mg base CX0 k f fd ps sp
 bn:gz K fd ps []
 mg:mg x=some (.ref f)
 kp:FH K (.ref f)=true
structure Mak(P:Program)(w:World)(K:Fw)(mg:Str->Option Value)(base:Heap)(k:Nat)(x:Str)(ps:List Str)(sp:Sp)(C f:Addr)(fd:FuncData):Prop where
 mkc:Mk K C f
 ok:FnOk P w K mg base CX0 k f fd ps sp
 bn:gz K fd ps []
 mg:mg x=some (.ref C)
structure Met(P:Program)(w:World)(K:Fw)(mg:Str->Option Value)(base:Heap)(k:Nat)(C:Addr)(m:Str)(ps:List Str)(sp:Sp)(f:Addr)(fd:FuncData):Prop where
 me:Meth K C m f
 ok:FnOk P w K mg base CX0 k f fd ps sp
 bn:gz K fd ps []
theorem vY{X:Cx}{sts:List Stmt}{t t2:TS}(h:PSs X sts t)(i:∀ D σ H,t2 D σ H->t D σ H):PSs X sts t2:=fun pins s σ H D I q=>h pins s σ H D I (i D σ H q)
section
variable{X:Cx}
def rIsi(K:Fw):List V->Hp->VK->Prop:=fun xs H Q=>∃ x c t b u,xs = [x,c]/\TyOf K H x t/\((∃ n,c=.ty n/\u=Value.type n)∨∃ a,c=.ref a/\u=Value.ref a)/\GF K t u=some b/\Q (.bl b) H
theorem yY:jy X (.builtin "isinstance") (rIsi X.K):=by
 intro pins s σ H xs us Q I r h
 obtain⟨x,c,t,b,u,rfl,ty,hu,e,q⟩:=h
 obtain⟨v1,v2,rfl,r1,r2⟩:=CN r
 have e2:v2=u:=by
  rcases hu with⟨n,rfl,rfl⟩ | ⟨a,rfl,rfl⟩
  ·exact r2
  ·exact r2
 subst e2
 exact BX I r1 ty e fun tk=>⟨.bl b,H,I.tok tk,rfl,q⟩
theorem kit_ii(K:Fw):GF K (.type "int") (.type "int")=some true:=by with_unfolding_all rfl
theorem kit_ib(K:Fw):GF K (.type "int") (.type "bool")=some false:=by with_unfolding_all rfl
end
inductive RdD(K:Fw)(H:Hp):V->PyData->Prop where
 |non:RdD K H .non .none
 |bl (b:Bool):RdD K H (.bl b) (.bool b)
 |int (i:Int):RdD K H (.int i) (.int i)
 |lst {a:Addr} {xs:List V} {ds:List PyData} (h:SqL K H a xs) (hl:xs.length=ds.length) (r:∀(i:Nat)(x:V)(d:PyData),xs[i]?=some x->ds[i]?=some d->RdD K H x d):RdD K H (.ref a) (.list ds)
 |tup {a:Addr} {xs:List V} {ds:List PyData} (h:SqT K H a xs) (hl:xs.length=ds.length) (r:∀(i:Nat)(x:V)(d:PyData),xs[i]?=some x->ds[i]?=some d->RdD K H x d):RdD K H (.ref a) (.tuple ds)
theorem iU{h:Heap}:∀{xs:List V}{us:List Value}{ds:List PyData},Vals xs us->xs.length=ds.length->(∀(i:Nat) x d,xs[i]?=some x->ds[i]?=some d->∀ u,RelV x u->∃ as,Reads h u d as)->∃ as,ReadsAll h us ds as
 |_,_,[],.nil,_,_=>⟨_,.nil⟩
 |_,_,_::_,.nil,e,_=>by cases e
 |_,_,[],.cons _ _,e,_=>by cases e
 |_,_,d::ds,.cons r rr,e,k=>by
  obtain⟨a1,q1⟩:=k 0 _ d rfl rfl _ r
  obtain⟨a2,q2⟩:=iU rr (Nat.succ.inj e) fun i x d' e1 e2=>k (i+1) x d' e1 e2
  exact⟨_,.cons q1 q2⟩
section
variable{X:Cx}
theorem RdD.reads{pins:List (Addr×Obj)}{σ:St}{H:Hp}{s:Shared}(I:Inv X pins σ H s){x:V}{d:PyData}(r:RdD X.K H x d):∀ u,RelV x u->∃ as,Reads s.heap u d as:=by
 induction r with
 |non=>intro u hu;cases hu;exact⟨_,.none⟩
 |bl b=>intro u hu;cases hu;exact⟨_,.bool b⟩
 |int i=>intro u hu;obtain⟨t,rfl⟩:=hu;exact⟨_,.int i t⟩
 |lst h hl r ih =>
  intro u hu
  cases hu
  obtain⟨its,rv,p,_⟩:=I.list h
  obtain⟨as,q⟩:=iU (h:=s.heap) rv hl ih
  obtain⟨o,n,e,c,_,d⟩:=p
  exact⟨_,.list e c d (by simpa using q)⟩
 |tup h hl r ih =>
  intro u hu
  cases hu
  obtain⟨its,rv,p,_⟩:=I.tuple h
  obtain⟨as,q⟩:=iU (h:=s.heap) rv hl ih
  obtain⟨o,e,c,n,d⟩:=p
  exact⟨_,.tuple e c d (by simpa using q)⟩
def rSame(b:Bool)(K:Fw):R2:=fun x y H Q=>∃ d,RdD K H x d/\RdD K H y d/\SeqAt.shaped d=true/\Q (.bl b) H
theorem Bp(hu:X.A.units+64<cLine):OpR X (compareOp .NotEq) (rSame false X.K):=by
 intro pins s σ H x y v u Q I rx ry h
 obtain⟨d,r1,r2,hs,q⟩:=h
 obtain⟨as,q1⟩:=r1.reads I v rx
 obtain⟨bs,q2⟩:=r2.reads I u ry
 refine ne_dataH q1 q2 hs hs hu ?_
 rw[SeqAt.eqv_refl d (SeqAt.canLay_of_shaped hs)]
 exact⟨.bl false,H,I,rfl,q⟩
end
def Itr3(lo c:Int)(n:Nat):It:=⟨fun i _=>i<n,fun i H x H'=>H'=H/\x=.int (lo+i*c),fun i _=>n<=i⟩
theorem vA{P:Program}{w:World}{K:Fw}{tg:Expr}(it:Addr)(lo c:Int)(n:Nat):Turn P w K tg (Itr3 lo c n) [it] it (fun i h=>IsRangeIter h it (lo+(i:Nat)*c) ((n:Int)-(i:Nat)) c) where
 mem:=by simp
 obj:=fun i h st b hb=>by
  have e:b=it:=by simpa using hb
  subst e
  exact⟨_,st,fun v z=>by
   have z':Data.fields _=Data.cell v:=z
   cases z'⟩
 keep:=fun i h h' st k=>k it (by simp) _ st
 item:=by
  intro X hP hw hK hc i pins s σ H E I hf st hg
  subst hP hw hK
  obtain⟨f0,f1,f2,f3,f4,f5⟩:=hf it (by simp)
  have W:=Walks.range (prog:=X.prog) (w:=X.w) (I.ok.hd hc) it lo c n
  refine W.item i s _ _ hg st fun v h' tk hv st' kk=>?_
  obtain⟨t,rfl⟩:=hv
  have I1:Inv X pins σ H { s with heap:=h',toks:=tk }:=I.turned (fun b o hb e=>kk b o (by simpa using hb) e) f0 f1 f3 f4 f5
  exact⟨_,rfl,Dz (s:={ s with heap:=h',toks:=tk }) (n:="range_iterator") st' rfl rfl (by decide) ⟨.int (lo+i*c),H,I1,⟨t,rfl⟩,⟨rfl,rfl⟩,st',fun b hb=>(hf b hb).1⟩⟩
 done:=by
  intro X hP hw hK hc i pins s σ H E I hf st hg
  subst hP hw hK
  obtain⟨f0,f1,f2,f3,f4,f5⟩:=hf it (by simp)
  exact wpAny_pyNext_range_end (I.ok.hd hc) st (by have:n<=i:=hg;omega) fun h' eb=>⟨rfl,I.turned (t':=s.toks) (fun b o hb e=>eb b o hb e) f0 f1 f3 f4 f5⟩
 self:=fun _ _ _ _ _ st h=>wpAny_pyIter_rangeiter st h
section
variable{X:Cx}{tg:Expr}
end
end L2
namespace L2
open PySem PySem.Spec PyProof.Rows
section
variable{P:Program}{w:World}{H:Hp}{h:Heap}{a:Addr}{o:HO}
theorem bA.get(x:bA P w H h a o):∃ ob,h.get? a=some ob:=by
 cases o with
 |lst xs=>obtain⟨_,_,_,_,e⟩:=x;exact⟨_,e⟩
 |tup xs=>obtain⟨_,_,_,ob,e,_⟩:=x;exact⟨_,e⟩
 |dK kvs=>obtain⟨_,_,_,_,o,_,_,e,_⟩:=x;exact⟨_,e⟩
 |dT kvs=>obtain⟨_,_,_,_,o,_,_,e,_⟩:=x;exact⟨_,e⟩
 |set S n=>obtain⟨o,_,_,_,e,_⟩:=x;exact⟨_,e⟩
 |ins C dx fs=>obtain⟨_,_,_,e,_⟩:=x;exact⟨_,e⟩
 |own y=>exact x
 |xd fs=>obtain⟨_,⟨_,_,_,e,_⟩,_⟩:=x;exact⟨_,e⟩
 |rng lo hi=>obtain⟨_,_,_,e⟩:=x;exact⟨_,e⟩
 |frz ob u=>exact⟨_,x.1⟩
 |tbl ps=>exact⟨_,(show h.get? a=some _ from x)⟩
 |met f y=>exact⟨_,(show h.get? a=some _ from x)⟩
 |ext φ=>exact x.2.1
theorem HOk.none_of(x:HOk P w H h)(e:h.get? a=none):H a=none:=by
 cases q:H a with
 |none=>rfl
 |some u =>
  obtain⟨ob,z⟩:=(x a u q).get
  rw[e]at z
  cases z
end
structure XOk(X:Cx)(pins:List (Addr×Obj))(H:Hp)(b:Addr):Prop where
 old:X.s₀.heap.get? b=none
 trk:H b=none
 nl:b≠X.env.locals
 nc:∀ x c,X.env.cells.lookup x=some c->c≠b
 np:∀ p∈X.pn++pins,p.1≠b
section
variable{X:Cx}{pins:List (Addr×Obj)}{σ:St}{H H':Hp}{s s':Shared}{b:Addr}
theorem Inv.xok(I:Inv X pins σ H s)(hx:X.ex = [])(e:s.heap.get? b=none)(n:H' b=none):XOk X pins H' b:=by
 refine⟨?_,n,fun z=>?_,fun x c q z=>?_,fun p hp z=>?_⟩
 ·cases q:X.s₀.heap.get? b with
  |none=>rfl
  |some o =>
   obtain⟨o',e'⟩:=I.base.there b o q (by rw[hx];simp)
   rw[e]at e'
   cases e'
 ·obtain⟨m,⟨o,_,_,ho,_⟩,_⟩:=I.loc
  rw[z,ho]at e
  cases e
 ·obtain⟨v,o,ho,_⟩:=I.cell x c q
  rw[z,e]at ho
  cases ho
 ·have:=(I.pin p hp).1
  rw[z,e]at this
  cases this
theorem Inv.xstep{h':Heap}{ch:List Addr}(I:Inv X pins σ H s)(hch:∀ b∈ch,XOk X pins H b)
  (keep:∀ b o,s.heap.get? b=some o->b∉ch->b∉frs X.stack->h'.get? b=some o)
  (slot:∀ b o,s.heap.get? b=some o->b∉ch->b∈frs X.stack->∃ sl,h'.get? b=some { o with slots:=sl }):Inv X pins σ H { s with heap:=h' }:=by
 have any:∀ b o,s.heap.get? b=some o->b∉ch->∃ sl,h'.get? b=some { o with slots:=sl }:=fun b o e hc=>by
  by_cases hb:b∈frs X.stack
  ·exact slot b o e hc hb
  ·exact⟨o.slots,keep b o e hc hb⟩
 have fsub:∀ b,b∈frs X.stack->b≠X.env.locals->b∈X.fs:=fun b hb n=>(FC.mp (I.stkSub b hb)).elim (fun z=>absurd z n) fun z=>z
 have neL:∀ b o,X.s₀.heap.get? b=some o->b≠X.env.locals:=fun b o e=>F4 (F2 (Heap.lt_size e) I.ok.above)
 have neC:∀ b o,X.s₀.heap.get? b=some o->b∉ch:=fun b o e hb=>by
  have:=(hch b hb).old
  rw[e]at this
  cases this
 have cellK:∀ x c,X.env.cells.lookup x=some c->∀ v,s.heap.IsCell c v->h'.IsCell c v:=fun x c e v ⟨o,ho,hd⟩=>by
  obtain⟨sl,q⟩:=any c o ho fun z=>(hch c z).nc x c e rfl
  exact⟨_,q,hd⟩
 refine⟨I.ok,I.os,I.bare,⟨fun b o e n hb hx=>?_,fun b o e n hb hx=>?_,I.base.free,fun b o e hx=>?_,I.base.tups,I.base.frzs,I.base.tbls⟩,?_,fun x c e=>?_,I.free,I.freeC,fun p hp=>?_,fun b u e=>?_,I.len⟩
 ·exact keep b o (I.base.keep b o e n hb hx) (neC b o e) fun z=>hb (fsub b z (neL b o e))
 ·obtain⟨sl,e1⟩:=I.base.slot b o e n hb hx
  obtain⟨sl',e2⟩:=any b _ e1 (neC b o e)
  exact⟨sl',e2⟩
 ·obtain⟨o',e1⟩:=I.base.there b o e hx
  obtain⟨sl,e2⟩:=any b _ e1 (neC b o e)
  exact⟨_,e2⟩
 ·obtain⟨m,⟨o,es,ep,ho,r⟩,hl⟩:=I.loc
  obtain⟨sl,e2⟩:=any _ o ho fun z=>(hch _ z).nl rfl
  refine⟨m,⟨_,es,ep,e2,r⟩,fun i x v e1 e2 e3=>?_⟩
  obtain⟨u,r,l⟩:=hl i x v e1 e2 e3
  refine⟨u,r,?_⟩
  rcases l with l | ⟨k,c,e,z⟩
  ·exact .inl l
  ·exact .inr ⟨k,c,e,cellK x c e _ z⟩
 ·obtain⟨v,z⟩:=I.cell x c e
  exact⟨v,cellK x c e v z⟩
 ·obtain⟨e,n,ne,nf,d⟩:=I.pin p hp
  exact⟨keep p.1 p.2 e (fun z=>(hch p.1 z).np p hp rfl) fun z=>nf (fsub p.1 z ne),n,ne,nf,d⟩
 ·have nof:∀ c u',H c=some u'->c∉ch/\c∉frs X.stack:=fun c u' q=>⟨fun z=>(by rw[(hch c z).trk]at q;exact nomatch q),fun z=>(by rw[I.stkFree c z]at q;exact nomatch q)⟩
  refine(I.hok b u e).stay (fun c v hc q=>?_) (fun _ q=>q) fun _ _ q=>q
  rcases hc with z | z
  ·rw[z]at q ⊢
   exact keep b v q (nof b u e).1 (nof b u e).2
  ·exact keep c v q (nof c _ z).1 (nof c _ z).2
theorem Inv.xtrack{a:Addr}{o:HO}(I:Inv X pins σ H s)(f:XOk X pins H a)(new:bA X.prog X.w (upd H a o) s.heap a o):Inv X pins σ (upd H a o) s:=by
 have ne:∀ b u,H b=some u->b≠a:=fun b u e=>aA e f.trk
 have nb:∀ b u,s.heap.get? b=some u->b≠a->H b=none->upd H a o b=none:=fun b u _ n q=>by rw[ak n];exact q
 refine⟨I.ok,I.os,I.bare,⟨I.base.keep,I.base.slot,fun b ob e n hx=>?_,I.base.there,fun b xs e=>?_,fun b ob xs e=>?_,fun b ps e=>?_⟩,I.loc,I.cell,?_,fun x c e=>?_,fun p hp=>?_,fun b u e=>?_,I.len⟩
 ·rw[ak (fun z=>by rw[z,f.old]at e;cases e)]
  exact I.base.free b ob e n hx
 ·have:=I.base.tups b xs e
  rw[ak (ne _ _ this)]
  exact this
 ·have:=I.base.frzs b ob xs e
  rw[ak (ne _ _ this)]
  exact this
 ·obtain⟨m,q⟩:=I.base.tbls b ps e
  exact⟨m,by rw[ak (ne _ _ q)];exact q⟩
 ·rw[ak (Ne.symm f.nl)]
  exact I.free
 ·rw[ak (f.nc x c e)]
  exact I.freeC x c e
 ·obtain⟨e,n,r⟩:=I.pin p hp
  exact⟨e,by rw[ak (f.np p hp)];exact n,r⟩
 ·by_cases hb:b=a
  ·rw[hb,af]at e
   cases e
   rw[hb]
   exact new
  ·rw[ak hb]at e
   exact(I.hok b u e).stay (fun c v _ q=>q) (fun c q=>by rw[ak (ne c _ q)];exact q) fun c xs q=>by rw[ak (ne c _ q)];exact q
end
def Trc(h:Heap)(x:Addr)(C:Value)(T:Addr):Prop :=
 ∃ oe vs a0 oT ts,h.get? x=some oe/\oe.cls=C/\vs[0]?=some a0/\oe.data=.fields vs/\vs[1]?=some (.ref T)/\T≠x/\h.get? T=some oT/\oT.data=.fields ts/\ts[3]?=some .none
def Xnw(h:Heap)(x:Addr)(C:Value):Prop:=∃ oe vs a0,h.get? x=some oe/\oe.cls=C/\oe.data=.fields vs/\vs[0]?=some a0/\vs[1]?=some .none
def XA(X:Cx)(pins:List (Addr×Obj))(H:Hp)(s:Shared)(x:Addr)(C:Value):Prop:=XOk X pins H x/\(Xnw s.heap x C∨∃ T,XOk X pins H T/\Trc s.heap x C T)
section
variable{X:Cx}{pins:List (Addr×Obj)}{σ:St}{H:Hp}{s:Shared}{x:Addr}{C:Value}{E:Value->Shared->Prop}
abbrev hidX(X:Cx)(h:Heap)(ch:List Addr):Heap:=PySem.W.hideAll h (ch++frs X.stack)
theorem Inv.hidF(I:Inv X pins σ H s)(ch:List Addr):s.heap.FunFrames (hidX X s.heap ch) X.stack :=
 PySem.W.funFrames_hide I.stack fun env he a hf=>FN _ (Ia.mpr ⟨env,he,hf⟩)
theorem B8(ch:List Addr)(h:Heap):(hidX X h ch).StaysIn h:=fun _ _ e=>PySem.W.of_hideAll _ e
theorem jO{ch:List Addr}{h:Heap}{b:Addr}(hb:b∈ch):(hidX X h ch).get? b=none:=PySem.W.hideAll_none _ (F3 _ hb)
theorem Inv.left{h':Heap}{ch:List Addr}{a0:Value}(I:Inv X pins σ H s)(hx:X.ex = [])(hch:∀ b∈ch,XOk X pins H b)(k:(hidX X s.heap ch).StaysIn h')(t:h'.TracedW (hidX X s.heap ch) x C a0)(u:s.heap.UpToSlots h') :
  Inv X pins σ H { s with heap:=h' }/\∃ T,XOk X pins H T/\Trc h' x C T:=by
 have fr:∀ b o,s.heap.get? b=some o->b∈frs X.stack->∃ sl,h'.get? b=some { o with slots:=sl }:=fun b o e hb=>by
  obtain⟨_,o',ho,hd⟩:=I.stack.mem hb
  rw[e]at ho
  cases ho
  exact u b o e hd
 refine⟨I.xstep hch (fun b o e n1 n2=>k b o (HW _ e fun z=>(FG.mp z).elim n1 n2)) fun b o e _ hb=>fr b o e hb,?_⟩
 obtain⟨oe,vs,T,oT,ts,he,⟨hcls,h0⟩,hd,h1,hnT,hTe,hT,hdT,h3⟩:=t
 refine⟨T,?_,oe,vs,a0,oT,ts,he,hcls,h0,hd,h1,hTe,hT,hdT,h3⟩
 cases q:s.heap.get? T with
 |none=>exact I.xok hx q (I.hok.none_of q)
 |some o =>
  by_cases z:T∈ch
  ·exact hch T z
  ·by_cases z2:T∈frs X.stack
   ·obtain⟨_,o',ho,hd'⟩:=I.stack.mem z2
    obtain⟨sl,e⟩:=fr T o q z2
    rw[hT]at e
    cases e
    rw[q]at ho
    cases ho
    exact absurd hdT (hd' ts)
   ·have:=HW (ch++frs X.stack) q fun z3=>(FG.mp z3).elim z z2
    rw[hnT]at this
    cases this
theorem Inv.leave{Q:Unit->Shared->Prop}(I:Inv X pins σ H s)(hx:X.ex = [])(hst:X.stack=X.env::X.outer)(hfr:X.env.frame=some X.env.locals)(xa:XA X pins H s x C)
  (h:∀ h' T,Inv X pins σ H { s with heap:=h' }->XOk X pins H x->XOk X pins H T->Trc h' x C T->Q () { s with heap:=h' }):wpAny (model X.prog X.w) X.A (leaving X.env (.ref x)) Q E s:=by
 obtain⟨x1,x2⟩:=xa
 have frm:X.A.frames=some (X.env::X.outer):=by rw[← hst];exact I.ok.frames
 rcases x2 with⟨oe,vs,a0,he,hc,hd,h0,h1⟩ | ⟨T,xT,oe,vs,a0,oT,ts,he,hc,h0,hd,h1,hTe,hT,hdT,h3⟩
 ·have hch:∀ b∈[x],XOk X pins H b:=fun b hb=>by
   have e:b=x:=by simpa using hb
   rw[e]
   exact x1
  refine wpAny_leaving_firstW (base:=hidX X s.heap [x]) frm (hst▸I.hidF [x]) hfr he (B8 _ _) (jO (by simp)) hd h1 h0 fun h' L=>?_
  obtain⟨k1,_,k3,k4⟩:=L
  obtain⟨I',T,xT,tr⟩:=I.left hx hch k1 k3 k4
  rw[hc]at tr
  exact h h' T I' x1 xT tr
 ·have hch:∀ b∈[x,T],XOk X pins H b:=fun b hb=>by
   rcases FC.mp hb with e | hb
   ·rw[e]
    exact x1
   ·have e:b=T:=by simpa using hb
    rw[e]
    exact xT
  refine wpAny_leaving_nextW (base:=hidX X s.heap [x,T]) frm (hst▸I.hidF [x,T]) hfr ⟨oe,vs,T,oT,ts,he,⟨hc,h0⟩,hd,h1,jO (by simp),hTe,hT,hdT,h3⟩ (B8 _ _) (jO (by simp)) fun h' L=>?_
  obtain⟨k1,_,k3,k4⟩:=L
  obtain⟨I',T',xT',tr⟩:=I.left hx hch k1 k3 k4
  exact h h' T' I' x1 xT' tr
end
section
variable{X:Cx}{k:Nat}{f C:Addr}{fd:FuncData}{ps:List Str}{sp:Sp}{dvs:List V}{ds:List Value}{W:WK}{x m:Str}{p pos apos:Pos}{e o:Expr}{es:List Expr}{ta:TE}{t:TA}
end
end L2
namespace L2
open PySem PySem.Spec PyProof.Rows
abbrev veM:List Value:=[.type "ValueError",.type "Exception",.type "BaseException",.type "object"]
section
variable{X:Cx}{pins:List (Addr×Obj)}{σ:St}{H:Hp}{s:Shared}{x:Addr}{C:Value}
def Cx.marked(X:Cx)(v:Value):Cx:={ X with A:=X.A.mark (some v),calm:=false,xe:=fun _ _=>False }
theorem Inv.marked(I:Inv X pins σ H s)(v:Value):Inv (X.marked v) pins σ H s :=
 ⟨⟨I.ok.mod,I.ok.kind,I.ok.glob,I.ok.blt,I.ok.above,I.ok.inj,I.ok.has,I.ok.cab,fun z=>(by cases z),I.ok.frames,I.ok.stk,I.ok.exf,I.ok.bs,I.ok.bsz,I.ok.noex,I.ok.exfs,I.ok.funs,I.ok.frf⟩,I.os,I.bare,I.base,I.loc,I.cell,I.free,I.freeC,I.pin,I.hok,I.len⟩
theorem Inv.unmarked{hd:X.calm=true->X.A.handled=none}{fr:X.A.frames=some X.stack}{v:Value}(I:Inv (X.marked v) pins σ H s):Inv X pins σ H s :=
 ⟨⟨I.ok.mod,I.ok.kind,I.ok.glob,I.ok.blt,I.ok.above,I.ok.inj,I.ok.has,I.ok.cab,hd,fr,I.ok.stk,I.ok.exf,I.ok.bs,I.ok.bsz,I.ok.noex,I.ok.exfs,I.ok.funs,I.ok.frf⟩,I.os,I.bare,I.base,I.loc,I.cell,I.free,I.freeC,I.pin,I.hok,I.len⟩
theorem Inv.gone{i:Nat}{n:Str}{h':Heap}{tk:Nat}{m:Str->Option Value}{v:Option Value}(I:Inv X pins σ H s)(hN:X.N.Nodup)(hi:X.N[i]?=some n)(hm:s.heap.Ns X.env.locals m/\∀ (i:Nat) (x:Str) (v:V),X.N[i]?=some x->σ[i]?=some (some v)->Vis X.env.scope x->∃ u,RelV v u/\Look X.env s.heap m x u)
  (hn:h'.Ns X.env.locals (fun y=>if y=n then v else m y)) (hs:Heap.SameBut X.env.locals s.heap h'):Inv X pins (σ.set i none) H { s with heap:=h',toks:=tk }:=by
 have lo:∀ b o,X.s₀.heap.get? b=some o->b≠X.env.locals:=fun b o e=>F4 (F2 (Heap.lt_size e) I.ok.above)
 obtain⟨oL,_,_,hoL,_⟩:=id hm.1
 refine⟨I.ok,I.os,I.bare,⟨fun b o e n1 hb hx=>(hs.2 b (lo b o e)).trans (I.base.keep b o e n1 hb hx),fun b o e n1 hb hx=>?_,I.base.free,fun b o e hx=>?_,I.base.tups,I.base.frzs,I.base.tbls⟩,⟨_,hn,fun j y w' e1 e2 e3=>?_⟩,fun y c e=>?_,I.free,I.freeC,fun p hp=>?_,fun b u e=>?_,by simpa using I.len⟩
 ·obtain⟨sl,q⟩:=I.base.slot b o e n1 hb hx
  exact⟨sl,(hs.2 b (lo b o e)).trans q⟩
 ·obtain⟨o',q⟩:=I.base.there b o e hx
  exact⟨o',(hs.2 b (lo b o e)).trans q⟩
 ·by_cases hj:j=i
  ·subst hj
   rw[Gg]at e2
   split at e2
   ·split at e2<;>cases e2
   ·rename_i z;exact absurd rfl z
  ·rw[HR (Ne.symm hj)]at e2
   obtain⟨u',r',l'⟩:=hm.2 j y w' e1 e2 e3
   refine⟨u',r',?_⟩
   rcases l' with⟨kk,e⟩ | ⟨kk,c,e,z⟩
   ·refine .inl ⟨kk,?_⟩
    have ny:y≠n:=fun q=>hj (qV hN e1 (q▸hi))
    show(if y=n then v else m y)=some u'
    rw[if_neg ny];exact e
   ·exact .inr ⟨kk,c,e,z.sameBut hs (I.cne y c e)⟩
 ·obtain⟨w2,z⟩:=I.cell y c e
  exact⟨w2,z.sameBut hs (I.cne y c e)⟩
 ·obtain⟨e,n1,ne,nf,d⟩:=I.pin p hp
  exact⟨(hs.2 p.1 ne).trans e,n1,ne,nf,d⟩
 ·refine(I.hok b u e).stay (fun c v2 hc q=>(hs.2 c fun z=>?_).trans q) (fun _ q=>q) fun _ _ q=>q
  have fr:=I.free
  rcases hc with y | y
  ·rw[← y,z,fr]at e;cases e
  ·rw[z,fr]at y;cases y
end
section
variable{M:Model}{A:Around}{E:Value->Shared->Prop}{h:Heap}{g:Array GenState}{d:Drawn}{t:Nat}{os:OsState}
end
def Cx.tried(X:Cx)(pins:List (Addr×Obj))(E:Value->Shared->Prop):Cx:={ X with pn:=X.pn++pins,xe:=E }
section
variable{X:Cx}{pins pins':List (Addr×Obj)}{σ:St}{H:Hp}{s:Shared}{E:Value->Shared->Prop}{b:Addr}
theorem Inv.tried(I:Inv X pins σ H s):Inv (X.tried pins E) [] σ H s :=
 ⟨⟨I.ok.mod,I.ok.kind,I.ok.glob,I.ok.blt,I.ok.above,I.ok.inj,I.ok.has,I.ok.cab,I.ok.hd,I.ok.frames,I.ok.stk,I.ok.exf,I.ok.bs,I.ok.bsz,I.ok.noex,I.ok.exfs,I.ok.funs,I.ok.frf⟩,I.os,I.bare,I.base,I.loc,I.cell,I.free,I.freeC,fun p hp=>I.pin p (by rw[HM]at hp;exact hp),I.hok,I.len⟩
theorem Inv.untried(I:Inv (X.tried pins E) pins' σ H s):Inv X pins σ H s :=
 ⟨⟨I.ok.mod,I.ok.kind,I.ok.glob,I.ok.blt,I.ok.above,I.ok.inj,I.ok.has,I.ok.cab,I.ok.hd,I.ok.frames,I.ok.stk,I.ok.exf,I.ok.bs,I.ok.bsz,I.ok.noex,I.ok.exfs,I.ok.funs,I.ok.frf⟩,I.os,I.bare,I.base,I.loc,I.cell,I.free,I.freeC,fun p hp=>I.pin p (F3 _ hp),I.hok,I.len⟩
theorem XOk.untried(x:XOk (X.tried pins E) pins' H b):XOk X pins H b:=⟨x.old,x.trk,x.nl,x.nc,fun p hp=>x.np p (F3 _ hp)⟩
theorem SP.untried{D:Ends}{f:Flow}(h:SP (X.tried pins E) [] D f s):SP X pins D f s:=by
 cases f with
 |next=>obtain⟨σ',H',I,q⟩:=h;exact⟨σ',H',I.untried,q⟩
 |brk=>obtain⟨σ',H',I,q⟩:=h;exact⟨σ',H',I.untried,q⟩
 |cont=>obtain⟨σ',H',I,q⟩:=h;exact⟨σ',H',I.untried,q⟩
 |ret u=>obtain⟨v,σ',H',I,r,q⟩:=h;exact⟨v,σ',H',I.untried,r,q⟩
end
section
variable{X:Cx}{k:Nat}{f:Addr}{fd:FuncData}{ps:List Str}{sp:Sp}{dvs:List V}{ds:List Value}{W:WK}{x:Str}{p pos:Pos}{e:Expr}{es:List Expr}{t:TA}
end
end L2
namespace L2
open PySem PySem.Spec PyProof.Rows
end L2
namespace L2
open PySem PySem.Spec PyProof.Rows
section
variable{prog:Program}{w:World}{A:Around}{E:Value->Shared->Prop}{s:Shared}
end
end L2
namespace L2
open PySem PySem.Spec PyProof.Rows
section
variable{prog:Program}{w:World}{A:Around}{E:Value->Shared->Prop}{s:Shared}
end
section
variable{X:Cx}
end
end L2
namespace L2
open PySem PySem.Spec PyProof.Rows
section
variable{X:Cx}
end
end L2
namespace L2
open PySem PySem.Spec PyProof.Rows
theorem Inv.turnedL{X:Cx}{pins:List (Addr×Obj)}{σ:St}{H:Hp}{s:Shared}{h':Heap}{t':Nat}{fp:List Addr}(I:Inv X pins σ H s)(k:∀ b o,b∉fp->s.heap.get? b=some o->h'.get? b=some o)(hf:∀ b∈fp,FpOk X pins H b):Inv X pins σ H { s with heap:=h',toks:=t' }:=by
 have nit:∀ b u,H b=some u->b∉fp:=fun b u e z=>by rw[(hf b z).1]at e;cases e
 refine I.step (g':=s.gens) (d':=s.drawn) (ch:=fp) (fun b hb=>?_) (fun b o _ _ hc e _=>k b o hc e) (fun b o _ _ hc e _=>⟨o.slots,k b o hc e⟩) (fun _ _ _ _ n=>n)
  (fun b o hc e=>⟨o,k b o hc e⟩) (fun _ _ e=>e) (fun _ _ _ e=>e) (fun b ps e=>⟨#[],by rw[e];simp⟩) (fun m hm=>?_) (fun b u e=>?_) I.bare
 ·obtain⟨f0,f1,f2,f3,f4,f5⟩:=hf b hb
  exact⟨f3,f1,f4,f5⟩
 ·obtain⟨o,es,ep,ho,r⟩:=hm
  exact⟨o,es,ep,k _ o (fun z=>(hf _ z).2.1 rfl) ho,r⟩
 ·refine(I.hok b u e).stay (fun c v hc q=>k c v ?_ q) (fun _ q=>q) fun _ _ q=>q
  rcases hc with z | z
  ·rw[z];exact nit b u e
  ·exact nit c _ z
def Ite(K:Fw)(a:Addr):It :=
 ⟨fun i H=>∃ xs x,SqL K H a xs/\xs[i]?=some x,fun i H v H'=>∃ T x,H T=none/\v=.ref T/\H'=upd H T (.tup [.int (i:Int),x])/\∀ xs,SqL K H a xs->xs[i]?=some x,fun i H=>∃ xs,SqL K H a xs/\xs.length<=i⟩
theorem AK{P:Program}{w:World}{K:Fw}{es:List Expr}{k:Nat}{pos:Pos}(a e it:Addr)(hei:e≠it):Turn P w K (.Tuple es k pos) (Ite K a) [e,it] e (fun i h=>(∃ old,IsEnum h e it ((i:Nat):Int) old)/\h.IsListIter it a i) where
 mem:=by simp
 obj:=fun i h st b hb=>by
  obtain⟨⟨old,he⟩,o,e2,c,d⟩:=st
  rcases FC.mp hb with rfl | hb
  ·exact⟨_,he,fun v z=>by
    have z':Data.fields _=Data.cell v:=z
    cases z'⟩
  ·have e3:b=it:=by simpa using hb
   subst e3
   exact⟨o,e2,fun v z=>by rw[d]at z;cases z⟩
 keep:=fun i h h' st kk=>by
  obtain⟨⟨old,he⟩,hit⟩:=st
  exact⟨⟨old,kk e (by simp) _ he⟩,hit.at fun o q=>kk it (by simp) o q⟩
 item:=by
  intro X hP hw hK hc i pins s σ H E I hf st hg
  subst hP hw hK
  obtain⟨xs,x,hq,hx⟩:=hg
  obtain⟨its,rv,p,hz⟩:=I.list hq
  obtain⟨u,hu,ru⟩:=rv.get hx
  obtain⟨⟨old,he⟩,hit⟩:=st
  refine wpAny_pyNext_enum_item he hit p.isList (x:=u) (by simpa using hu) hei fun h' ho hit' hT hsz hk=>?_
  refine⟨_,rfl,?_⟩
  refine wpAny_letOwnedTupleGo_enum ho fun h2 he2 hs2=>?_
  have hs2':Heap.SameBut e h' h2:=hs2
  have hel:e<s.heap.objs.size:=Heap.lt_size he
  have hil:it<s.heap.objs.size:=by obtain⟨_,q,_⟩:=hit;exact Heap.lt_size q
  have hfr:H s.heap.objs.size=none:=I.hok.fresh (FD _)
  have I0:Inv X pins σ (upd H s.heap.objs.size (.tup [.int (i:Int),x])) { s with heap:=s.heap.push { cls:=.type "tuple",data:=.seq #[.int (i:Int) s.toks,u] },toks:=s.toks+1 } :=
   I.laid (t':=s.toks+1) (fun b u e=>Heap.get?_push_of_some _ e) (FD _) ⟨by show 2<=sizeLine;decide,[.int (i:Int) s.toks,u],.cons ⟨_,rfl⟩ (.cons ru .nil),⟨_,Heap.get?_push_size _ rfl,rfl,_,rfl⟩⟩
  have hfb:∀ b∈[e,it],b<s.heap.objs.size:=fun b hb=>by
   rcases FC.mp hb with rfl | hb
   ·exact hel
   ·have e3:b=it:=by simpa using hb
    rw[e3];exact hil
  have hn:∀ b∈[e,it],upd H s.heap.objs.size (.tup [.int (i:Int),x]) b=none:=fun b hb=>by
   rw[ak (F4 (hfb b hb))]
   exact(hf b hb).1
  have I2:Inv X pins σ (upd H s.heap.objs.size (.tup [.int (i:Int),x])) { s with heap:=h2,toks:=s.toks+1 }:=Inv.turnedL (s:={ s with heap:=s.heap.push { cls:=.type "tuple",data:=.seq #[.int (i:Int) s.toks,u] },toks:=s.toks+1 }) (h':=h2) I0 (t':=s.toks+1) (fp:=[e,it]) (fun b o hb q=>by
   have nb:b≠e:=fun z=>hb (by simp[z])
   have nb2:b≠it:=fun z=>hb (by simp[z])
   refine(hs2'.2 b nb).trans ?_
   rcases Heap.get?_push_cases q with⟨z1,z2⟩ | q
   ·rw[z1,z2];exact hT
   ·exact hk b o nb nb2 q) fun b hb=>⟨hn b hb,(hf b hb).2⟩
  refine⟨.ref s.heap.objs.size,_,I2,rfl,⟨s.heap.objs.size,x,hfr,rfl,rfl,fun ys hy=>by rw[I.list_inj hy hq];exact hx⟩,?_,hn⟩
  refine⟨⟨u,?_⟩,hit'.at fun o q=>(hs2'.2 it (Ne.symm hei)).trans q⟩
  have e4:(((i+1:Nat):Nat):Int)=(i:Int)+1:=by omega
  rw[e4]
  exact he2
 done:=by
  intro X hP hw hK hc i pins s σ H E I hf st hg
  subst hP hw hK
  obtain⟨xs,hq,hx⟩:=hg
  obtain⟨its,rv,p,hz⟩:=I.list hq
  obtain⟨⟨old,he⟩,hit⟩:=st
  have hl:=rv.length
  obtain⟨f0,f1,f2,f3,f4,f5⟩:=hf it (by simp)
  exact wpAny_pyNext_enum_end (I.ok.hd hc) he hit p.isList (by simp;omega) fun h' eb=>⟨rfl,I.turned (t':=s.toks) (fun b o hb e=>eb b o hb e) f0 f1 f3 f4 f5⟩
 self:=fun _ _ _ _ _ st h=>by
  obtain⟨⟨old,he⟩,_⟩:=st
  exact wpAny_pyIter_enum he h
section
variable{X:Cx}
def iEnum(K:Fw)(ta:TA):TI:=fun σ H R=>ta σ H fun vs H1=>∃ a,vs = [.ref a]/\(∃ xs,SqL K H1 a xs)/\R (Ite K a) H1
theorem wu{l:Expr}{ta:TA}{es:List Expr}{k:Nat}{tp p pos:Pos} (hg:Gl X "enumerate") (hm:X.mg "enumerate" = none) (ha:PA X [l] ta) (hs:starEach [l] X.env = [(false,eval l X.env)]:=by rfl) :
  PI X (.Tuple es k tp) (.Call (.Name "enumerate" p) [l] [] pos) (iEnum X.K ta):=by
 intro pins s σ H R I h
 refine Call_ (pj I hg hm uZ (PyProof.Rows.callWith_type1 (thn (ha pos pins s σ H _ I h) fun us s1 ⟨vs,H1,I1,r1,q1⟩=>?_) hs rfl))
 obtain⟨a,e,⟨xs,hq⟩,q⟩:=q1
 subst e
 obtain⟨u,rfl,ru⟩:=vz r1
 cases ru
 obtain⟨its,rv,p,hz⟩:=I1.list hq
 refine call_enumerate_list p.isList fun h' he hit hsz hk=>?_
 refine wpAny_pyIter_enum he ?_
 refine⟨s1.heap.objs.size+1,[s1.heap.objs.size+1,s1.heap.objs.size],_,_,H1,rfl,I1.kept (t':=s1.toks) hk,AK a _ _ (Nat.succ_ne_self _),⟨⟨_,he⟩,hit⟩,fun b hb=>?_,q⟩
 have hb':s1.heap.objs.size<=b:=by
  rcases FC.mp hb with rfl | hb
  ·exact G4 _
  ·have e3:b=s1.heap.objs.size:=by simpa using hb
   rw[e3];exact FD _
 exact I1.fpOk hb' (I1.hok.fresh hb')
end
theorem yQ{K:Fw}{a:Addr}{xs:List V}{g:TG}{tb:TS}{D:Ends}{σ:St}{H:Hp}(Pv:Nat->St->Hp->Prop)(h0:Pv 0 σ H)(hl:∀ i σ H,i<=xs.length->Pv i σ H->SqL K H a xs)
  (hs:∀ i x σ H T,xs[i]?=some x->Pv i σ H->H T=none->g (.ref T) σ (upd H T (.tup [.int (i:Int),x])) fun σ2 H2=>tb { D with nx:=Pv (i+1),ct:=Pv (i+1),bk:=D.nx } σ2 H2) (hd:∀ σ H,Pv xs.length σ H->D.nx σ H) :
  ∃ W:Nat->Nat->St->Hp->Prop,(∃ m,W 0 m σ H)/\∀ i m σ H,W i m σ H ->
   ((Ite K a).stop i H/\D.nx σ H)∨((Ite K a).go i H/\∃ N:St->Hp->Prop,(∀ σ' H',N σ' H'->∃ m',m'<m/\W (i+1) m' σ' H')/\∀ x H',(Ite K a).yld i H x H'->g x σ H' fun σ2 H2=>tb { D with nx:=N,ct:=N,bk:=D.nx } σ2 H2):=by
 refine⟨fun i m σ H=>m=xs.length-i/\i<=xs.length/\Pv i σ H,⟨xs.length,by simp,GJ _,h0⟩,?_⟩
 rintro i m σ H ⟨rfl,hi,p⟩
 have q:=hl i σ H hi p
 by_cases hlt:i<xs.length
 ·refine .inr ⟨⟨xs,xs[i],q,by simp[hlt]⟩,Pv (i+1),fun σ' H' p'=>⟨xs.length-(i+1),by omega,rfl,hlt,p'⟩,fun v H' y=>?_⟩
  obtain⟨T,x,hT,rfl,rfl,y⟩:=y
  exact hs i x σ _ T (y xs q) p hT
 ·have e:i=xs.length:=by omega
  subst e
  exact .inl ⟨⟨xs,q,FD _⟩,hd σ H p⟩
end L2
namespace L2
open PySem PySem.Spec PyProof.Rows
section
variable{X:Cx}
end
theorem BW{n j:Nat}(h:j<n):ixN n (j:Int)=some j:=by
 unfold ixN
 rw[if_pos (by omega),if_pos (by omega)]
 rfl
end L2
namespace L2
open PySem PySem.Spec PyProof.Rows
theorem gY:∀{ds:List PyData},(∀ d∈ds,d.canLay0=true)->PyData.canLayAll0 ds=true
 |[],_=>by simp[PyData.canLayAll0]
 |d::ds,h=>by
  rw[PyData.canLayAll0,h d (by simp),gY fun x hx=>h x (by simp[hx])]
  rfl
theorem jg{n:Nat}:∀{ds:List PyData},(∀ d∈ds,d.depth<=n)->PyData.depthAll ds<=n
 |[],_=>by simp[PyData.depthAll]
 |d::ds,h=>by
  have h1:=h d (by simp)
  have h2:=jg (ds:=ds) fun x hx=>h x (FK _ hx)
  rw[PyData.depthAll]
  omega
theorem mS{ds:List PyData}(h:∀ d∈ds,d.canLay0=true/\d.depth<=10):SeqAt.shaped (.list ds)=true:=by
 have h1:=gY fun d hd=>(h d hd).1
 have h2:=jg fun d hd=>(h d hd).2
 have h3:PyData.depth (.list ds)<=64:=by simp only[PyData.depth];omega
 show(PyData.canLay0 (.list ds)&&decide (PyData.depth (.list ds)<=64))=true
 rw[G0]
 exact⟨by simp only[PyData.canLay0];exact h1,decide_eq_true h3⟩
end L2
namespace L2
open PySem PySem.Spec PyProof.Rows
def cxG(X:Cx)(scope:Scope)(fr:List (Str×Nat))(xs:List Str)(C:Addr)(ex:List Addr)(s:Shared)(H:Hp):Cx where
 prog:=X.prog
 w:=X.w
 K:=X.K
 mg:=X.mg
 base:=X.base
 A:=X.A
 N:=xs++fr.map (·.1)
 s₀:=s
 H₀:=H
 env:=compEnvC scope (clOf X.env fr) C X.env
 outer:=X.stack
 stack:=X.stack
 ex:=ex
 fn:=fun _=>false
 calm:=X.calm
 pn:=[]
 xe:=fun _ _=>False
structure su(X:Cx)(scope:Scope)(fr:List (Str×Nat))(xs:List Str):Prop where
 clos:closureFor scope X.env=pure (clOf X.env fr)
 cell:∀ y∈scope.names,y.2≠.cell
 kind:scope.kind=.function
 names:∀ y∈scope.names,y.2=.local->scope.names.lookup y.1=some .local
 slot:∀ p∈fr,X.N[p.2]?=some p.1/\X.env.kindOf p.1=some .cell
 has:∀ y∈(relabel scope X.env).names,(y.2=.cell∨y.2=.free)->y.1∈fr.map (·.1)
 frk:∀ p∈fr,(relabel scope X.env).names.lookup p.1=some .cell
theorem su.of{X:Cx}{scope:Scope}{fr:List (Str×Nat)}{xs:List Str}(clos:closureFor scope X.env=pure (clOf X.env fr))(cell:∀ y∈scope.names,y.2≠.cell)(kind:scope.kind=.function)(names:∀ y∈scope.names,y.2=.local->scope.names.lookup y.1=some .local)
  (slot:∀ p∈fr,X.N[p.2]?=some p.1/\X.env.kindOf p.1=some .cell) (nf:∀ z∈scope.names,z.2=.free->z.1∈fr.map (·.1)) (frk:∀ p∈fr,(relabel scope X.env).names.lookup p.1=some .cell):su X scope fr xs where
 clos:=clos
 cell:=cell
 kind:=kind
 names:=names
 slot:=slot
 has:=fun z hz hk=>by
  obtain⟨⟨n,k⟩,hm,e⟩:=Gk.mp (show z∈scope.names.map _ from hz)
  have h2:=cell _ hm
  dsimp only at e h2
  have hn:z.1=n:=by rw[← e];split<;>rfl
  have hf:k=.free:=by
   by_cases q:k=.free
   ·exact q
   ·have hb:(k == NameKind.free)=false:=by simpa using q
    rw[hb]at e
    simp only[Hm,Ig,if_false]at e
    subst e
    exact(hk.elim h2 q).elim
  have:=nf _ hm hf
  rw[hn]
  exact this
 frk:=frk
abbrev nons(xs:List Str):St:=G1 xs.length none
section
variable{X:Cx}{pins:List (Addr×Obj)}{σ:St}{H:Hp}{s:Shared}{scope:Scope}{fr:List (Str×Nat)}{xs:List Str}
theorem su.cells(O:su X scope fr xs)(I:Inv X pins σ H s){y:Str}{c:Addr}(h:(clOf X.env fr).lookup y=some c):X.env.cells.lookup y=some c:=by
 obtain⟨hm,e⟩:=eU h
 obtain⟨p,hp,ep⟩:=Gk.mp hm
 have k:=(O.slot p hp).2
 rw[ep]at k
 obtain⟨c',e'⟩:=I.ok.has y (.inl k)
 rw[e']at e
 rw[e',e]
 rfl
theorem B0{fp:List Addr}(O:su X scope fr xs)(I:Inv X pins σ H s)(hf:∀ b∈fp,FpOk X pins H b)(hfs:∀ b∈fp,b<s.heap.objs.size){g h':Heap}{tk:Nat}(hg:g=s.heap.push (LCg.lst []))
  (hk:∀ b o,g.get? b=some o->h'.get? b=some o) (hC:h'.Ns g.objs.size fun _=>none) :
  Inv (cxG X scope fr xs g.objs.size (s.heap.objs.size::fp) { s with heap:=g } H) (X.pn++pins++[(s.heap.objs.size,LCg.lst [])]) (nons xs++frOf fr σ) H { s with heap:=h',toks:=tk }:=by
 have hsz:g.objs.size=s.heap.objs.size+1:=by rw[hg,Heap.size_push]
 have kp:∀ b o,s.heap.get? b=some o->g.get? b=some o:=fun b o e=>by rw[hg];exact Heap.get?_push_of_some _ e
 have hk0:∀ b o,s.heap.get? b=some o->h'.get? b=some o:=fun b o e=>hk b o (kp b o e)
 have hDo:h'.get? s.heap.objs.size=some (LCg.lst []):=hk _ _ (by rw[hg];exact Heap.get?_push_size _ rfl)
 have neC:∀ b,b<s.heap.objs.size->b≠g.objs.size:=fun b e=>by rw[hsz];exact F4 (G6 e)
 have hDC:s.heap.objs.size≠g.objs.size:=by rw[hsz];exact F4 (GP _)
 have hfr:H g.objs.size=none:=I.hok.fresh (by rw[hsz];exact G4 _)
 have hfD:H s.heap.objs.size=none:=I.hok.fresh (FD _)
 have cne:∀ y c,X.env.cells.lookup y=some c->c<s.heap.objs.size:=fun y c e=>by
  obtain⟨v,q⟩:=I.cell y c e
  exact q.lt
 have nst:∀ b,b≠X.env.locals->b∉X.fs->b∉frs X.stack:=fun b h1 h2 z=>(FC.mp (I.stkSub b z)).elim h1 h2
 have nstD:s.heap.objs.size∉frs X.stack:=nst _ (Hc I.lt) (I.nofs (FD _))
 refine⟨⟨I.ok.mod,O.kind,I.ok.glob,I.ok.blt,FD _,?_,?_,fun _ _ z _=>(by cases z),I.ok.hd,I.ok.frames,.inl rfl,?_,?_,?_,?_,?_,?_,I.stkFree⟩,rfl,I.bare,Un.kept hk,?_,?_,hfr,?_,?_,I.hok.kept hk0,?_⟩
 ·intro y z c h1 h2
  exact I.ok.inj y z c (O.cells I h1) (O.cells I h2)
 ·intro y hy
  have hm:y∈fr.map (·.1):=by
   rcases hy with hy | hy
   ·exact O.has (y,_) (GC hy) (.inl rfl)
   ·exact O.has (y,_) (GC hy) (.inr rfl)
  exact⟨_,bI hm⟩
 ·intro b hb
  rcases FC.mp hb with rfl | hb
  ·exact⟨hDC,fun y c e=>F4 (cne y c (O.cells I e))⟩
  ·exact⟨neC b (hfs b hb),fun y c e=>(hf b hb).2.2.2.2.1 y c (O.cells I e)⟩
 ·intro b o e
  exact⟨kp b o (I.bs b o e).1,(I.bs b o e).2⟩
 ·show X.base.objs.size<=g.objs.size
  rw[hsz]
  exact Nat.le_succ_of_le (Gs I.ok.bsz I.sz)
 ·intro b o e hb
  rcases FC.mp hb with z | hb
  ·have:=Heap.lt_size (I.bs b o e).1
   rw[z]at this
   exact GA _ this
  ·rcases(hf b hb).2.2.2.1 with z | z
   ·exact I.ok.noex b o e z
   ·exact absurd (F2 (Heap.lt_size (I.ok.bs b o e).1) z) (GA _)
 ·intro b hb
  rcases FC.mp hb with z | hb
  ·rw[z];exact nstD
  ·exact nst b (hf b hb).2.1 (hf b hb).2.2.1
 ·exact(I.kept (h':=g) (t':=s.toks) kp).stack
 ·refine⟨_,hC,fun i y v e1 e2 e3=>?_⟩
  have e1a:(xs++fr.map (·.1))[i]?=some y:=e1
  by_cases hi:i<xs.length
  ·rw[FA (by simpa using hi)]at e2
   rw[GY,if_pos hi]at e2
   cases e2
  ·have e1':(fr.map (·.1))[i-xs.length]?=some y:=by
    rw[Fz (by omega)]at e1a
    exact e1a
   have e2':(frOf fr σ)[i-xs.length]?=some (some v):=by
    rw[Fz (by simp;omega)]at e2
    simpa using e2
   generalize i-xs.length=k at e1' e2'
   unfold frOf at e2'
   rw[F0]at e1' e2'
   cases q:fr[k]? with
   |none=>rw[q]at e1';cases e1'
   |some p =>
    rw[q]at e1' e2'
    have ey:p.1=y:=FW e1'
    have ev:(σ[p.2]?).join=some v:=FW e2'
    have hp:p∈fr:=Fx q
    obtain⟨hN,hK⟩:=O.slot p hp
    have hkk:=O.frk p hp
    rw[ey]at hN hK hkk
    have ev':σ[p.2]?=some (some v):=by
     cases q2:σ[p.2]? with
     |none=>rw[q2]at ev;cases ev
     |some w=>rw[q2]at ev;exact congrArg some ev
    obtain⟨m,hn,hl⟩:=I.loc
    obtain⟨u,r,l⟩:=hl p.2 y v hN ev' (.inr (.inl hK))
    refine⟨u,r,?_⟩
    rcases l with⟨k1,_⟩ | ⟨_,c,ec,z⟩
    ·rw[hK]at k1;cases k1
    ·have hm:y∈fr.map (·.1):=by rw[← ey];exact Gk.mpr ⟨p,hp,rfl⟩
     have el:=bI (env:=X.env) hm
     rw[ec]at el
     exact .inr ⟨.inl hkk,c,el,by obtain⟨o,ho,hd⟩:=z;exact⟨o,hk0 _ _ ho,hd⟩⟩
 ·intro y c e
  obtain⟨v,o,ho,hd⟩:=I.cell y c (O.cells I e)
  exact⟨v,o,hk0 _ _ ho,hd⟩
 ·intro y c e
  exact I.freeC y c (O.cells I e)
 ·intro p hp
  rcases FG.mp hp with hp | hp
  ·cases hp
  ·rcases FG.mp hp with hp | hp
   ·obtain⟨e,n,ne,nf,d⟩:=I.pin p hp
    exact⟨hk0 _ _ e,n,neC _ (Heap.lt_size e),nst _ ne nf,d⟩
   ·have ep:p=(s.heap.objs.size,LCg.lst []):=by simpa using hp
    subst ep
    exact⟨hDo,hfD,hDC,nstD,fun v z=>by cases z⟩
 ·show(nons xs++frOf fr σ).length=(xs++fr.map (·.1)).length
  unfold frOf
  simp
theorem rq{fp:List Addr}{g:Heap}{s':Shared}{H':Hp}{σ':St}{ys:List V}{us:List Value}(I:Inv X pins σ H s)(hf:∀ b∈fp,FpOk X pins H b)(hg:g=s.heap.push (LCg.lst []))
  (J:Inv (cxG X scope fr xs g.objs.size (s.heap.objs.size::fp) { s with heap:=g } H) (X.pn++pins++[(s.heap.objs.size,LCg.lst us)]) σ' H' s') (hv:Vals ys us) (hl:ys.length<=sizeLine) :
  Inv X pins σ (upd H' s.heap.objs.size (.lst ys)) s'/\H' s.heap.objs.size=none/\FpOk X pins (upd H' s.heap.objs.size (.lst ys)) g.objs.size/\∃ m,s'.heap.Ns g.objs.size m:=by
 have hsz:g.objs.size=s.heap.objs.size+1:=by rw[hg,Heap.size_push]
 have kp:∀ b o,s.heap.get? b=some o->g.get? b=some o:=fun b o e=>by rw[hg];exact Heap.get?_push_of_some _ e
 obtain⟨eD,nD,_,_,_⟩:=J.pin (s.heap.objs.size,LCg.lst us) (by simp)
 have hDC:g.objs.size≠s.heap.objs.size:=by rw[hsz];exact Hc (GP _)
 have nD':∀ b u,H' b=some u->b≠s.heap.objs.size:=fun b u e z=>by rw[z]at e;rw[e]at nD;cases nD
 have hx:∀ b o,s.heap.get? b=some o->b∉fp->b∉s.heap.objs.size::fp:=fun b o e hb z=>by
  rcases FC.mp z with z | z
  ·have:=Heap.lt_size e
   rw[z]at this
   exact GA _ this
  ·exact hb z
 have bU:Un (frs X.stack) (s.heap.objs.size::fp) H H' g s'.heap:=J.base
 have ltD:∀ b o,s.heap.get? b=some o->b≠s.heap.objs.size:=fun b o e=>F4 (Heap.lt_size e)
 have un:Un (frs X.stack) fp H (upd H' s.heap.objs.size (.lst ys)) s.heap s'.heap:=by
  refine⟨fun b o e n hb he=>bU.keep b o (kp b o e) n hb (hx b o e he),fun b o e n hb he=>bU.slot b o (kp b o e) n hb (hx b o e he),fun b o e n he=>?_,fun b o e he=>bU.there b o (kp b o e) (hx b o e he),fun b xs e=>?_,fun b o u e=>?_,fun b ps e=>?_⟩
  ·rw[ak (ltD b o e)];exact bU.free b o (kp b o e) n (hx b o e he)
  ·have q:=bU.tups b xs e
   rw[ak (nD' b _ q)];exact q
  ·have q:=bU.frzs b o u e
   rw[ak (nD' b _ q)];exact q
  ·obtain⟨more,q⟩:=bU.tbls b ps e
   exact⟨more,by rw[ak (nD' b _ q)];exact q⟩
 have hok:HOk X.prog X.w (upd H' s.heap.objs.size (.lst ys)) s'.heap:=fun b u e=>by
  by_cases hb:b=s.heap.objs.size
  ·rw[hb,af]at e
   cases e
   rw[hb]
   exact⟨hl,us,us.length,hv,eD⟩
  ·rw[ak hb]at e
   exact(J.hok b u e).stay (fun c v _ q=>q) (fun c q=>by rw[ak (nD' c _ q)];exact q) fun c xs q=>by rw[ak (nD' c _ q)];exact q
 have os:s'.os=s.os:=J.os
 refine⟨I.call' os un hok J.bare fun b hb=>⟨(hf b hb).2.2.2.1,(hf b hb).2.1,(hf b hb).2.2.2.2⟩,nD,?_,?_⟩
 ·refine I.fpOk (H':=upd H' s.heap.objs.size (.lst ys)) (b:=g.objs.size) (by rw[hsz];exact G4 _) ?_
  rw[ak hDC]
  exact J.free
 ·obtain⟨m,hn,_⟩:=J.loc
  exact⟨m,hn⟩
end
def PTs(X:Cx)(ifs:List Expr)(t:TT):Prop :=
 ∀(pins:List (Addr×Obj))(s:Shared)(σ:St)(H:Hp)(Q:Bool->Hp->Prop),Inv X pins σ H s->t σ H Q ->
  wpAny (model X.prog X.w) X.A (forIn ifs true fun c r=>if r=true then do let ok ← isTrue c X.env (eval c X.env);pure (ForInStep.yield ok) else pure (ForInStep.yield r)) (fun b s'=>∃ H',Inv X pins σ H' s'/\Q b H') X.xe s
theorem A8{X:Cx}{c:Expr}{t:TT}(h:PT X c t):PTs X [c] t:=fun pins s σ H Q I q=>wpAny_tests_one (h pins s σ H Q I q)
section
variable{prog:Program}{w:World}{A:Around}{s:Shared}
theorem Cp{elt target iter:Expr}{ifs:List Expr}{scope:Scope}{pos:Pos}{it acc:Value}{env:Env}{R:Result->Shared->Prop}(I:Nat->Shared->Prop)
  (turn:∀ n s,I n s->wpAny (model prog w) A (pyNext it) (fun r s₁=>match r with
   |none=>R (.ok .next) s₁
   |some v=>wpAny (model prog w) A (letOwnedTupleGo target it v) (fun _ s₀=>wpAny (model prog w) A (assign target env v) (fun _ s₂ =>
     wpAny (model prog w) A (forIn ifs true fun c r=>if r=true then do let ok ← isTrue c env (eval c env);pure (ForInStep.yield ok) else pure (ForInStep.yield r)) (fun ok s₃=>if ok=true then wpAny (model prog w) A (eval elt env) (fun x s₄ =>
      wpAny (model prog w) A (call (.builtin "list.append") [acc,x]) (fun _ s₅=>∃ m,m<n/\I m s₅) (notedBy (model prog w) A env fun e s'=>R (.error e) s') s₄) (notedBy (model prog w) A env fun e s'=>R (.error e) s') s₃
      else ∃ m,m<n/\I m s₃) (notedBy (model prog w) A env fun e s'=>R (.error e) s') s₂)
     (notedBy (model prog w) A env fun e s'=>R (.error e) s') s₀) (notedBy (model prog w) A env fun e s'=>R (.error e) s') s₁) (notedBy (model prog w) A env fun e s'=>R (.error e) s') s)
  (n:Nat) (h:I n s):codeAny (model prog w) A (.compLoop (.ListComp elt [⟨target,iter,ifs,0⟩] scope pos) 0 it acc env) R s:=by
 refine codeAny_loop rfl I (fun n s hI=>?_) n h
 show wpAny _ A ((compTurn (.ListComp elt [⟨target,iter,ifs,0⟩] scope pos) 0 it acc env).onRaise (fun x=>do noteFrame x env;theTreesLotGoes x)) _ _ s
 refine wpAny_noted ?_
 rw[compTurn_list]
 refine wpAny_bind (wpAny_standAt (wpAny_bind (wpAny_mono (turn n s hI) (fun r s₁ h₁=>?_) fun _ _ h'=>h')))
 cases r with
 |none=>exact wpAny_pure h₁
 |some v =>
  refine wpAny_bind (wpAny_mono h₁ (fun _ s₀ h₀'=>?_) fun _ _ h'=>h')
  refine wpAny_bind (wpAny_mono h₀' (fun _ s₂ h₂=>?_) fun _ _ h'=>h')
  refine wpAny_bind (wpAny_mono h₂ (fun okb s₃ h₃=>?_) fun _ _ h'=>h')
  cases okb with
  |false=>exact wpAny_pure ⟨rfl,h₃⟩
  |true=>exact wpAny_bind (wpAny_bind (wpAny_mono h₃ (fun x s₄ h₄=>wpAny_bind (wpAny_mono h₄ (fun _ s₅ h₅=>wpAny_pure (wpAny_pure ⟨rfl,h₅⟩)) fun _ _ h'=>h')) fun _ _ h'=>h'))
end
def yw(g:TG)(tt:TT)(te:TE)(n:Nat)(fv:St)(J:It)(H1:Hp)(QQ:List V->Hp->Prop):Prop :=
 ∃ W:Nat->Nat->List V->Hp->Prop,(∃ m,W 0 m [] H1)/\∀ i m ys H,W i m ys H->ys.length<=sizeLine /\
  ((J.stop i H/\QQ ys H)∨(J.go i H/\∃ N:List V->Hp->Prop,(∀ zs H2,N zs H2->∃ m',m'<m/\W (i+1) m' zs H2) /\
   ∀ x H',J.yld i H x H'->g x (G1 n none++fv) H' fun σ2 H2=>σ2.drop n=fv/\tt σ2 H2 fun b H3=>if b=true then te σ2 H3 (fun y H4=>N (ys++[y]) H4) else N ys H3))
section
variable{X:Cx}{scope:Scope}{fr:List (Str×Nat)}{xs:List Str}{elt iter tg:Expr}{ifs:List Expr}{pos:Pos}{te:TE}{tt:TT}{tgt:TG}{wi:TI}
theorem Ak{pins:List (Addr×Obj)}{σ:St}{H:Hp}{s:Shared}{E:Value->Shared->Prop}{it:Addr}{fp:List Addr}{tn:Nat->Heap->Prop}{J:It}{RR:Value->Addr->Result->Shared->Prop}{QQ:List V->Hp->Prop}(hc:X.calm=true)(O:su X scope fr xs)
  (hg0:∀ C ex s H,PG (cxG X scope fr xs C ex s H) tg tgt) (ht:∀ C ex s H,PTs (cxG X scope fr xs C ex s H) ifs tt) (he:∀ C ex s H,PE (cxG X scope fr xs C ex s H) elt te) (I:Inv X pins σ H s) (T:Turn X.prog X.w X.K tg J fp it tn) (st:tn 0 s.heap) (hf:∀ b∈fp,FpOk X pins H b) (hq:yw tgt tt te xs.length (frOf fr σ) J H QQ)
  (fin:∀ D C H4 ys s4 m,Inv X pins σ (upd H4 D (.lst ys)) s4->H4 D=none->FpOk X pins (upd H4 D (.lst ys)) C->s4.heap.Ns C m->QQ ys H4->RR (.ref D) C (.ok .next) s4) :
  wpAny (model X.prog X.w) X.A (newList []) (fun acc s₃=>wpAny (model X.prog X.w) X.A (newFunctionEnv scope X.env.globals (clOf X.env fr) [] X.env.qual none .none (some X.env)) (fun cenv s₄ =>
   codeAny (model X.prog X.w) X.A (.compStart (.ListComp elt [⟨tg,iter,ifs,0⟩] scope pos) 0 (.ref it) acc { cenv with scope:=relabel scope X.env }) (RR acc cenv.locals) s₄) E s₃) E s:=by
 obtain⟨W,⟨m0,w0⟩,turn⟩:=hq
 have hfs:∀ b∈fp,b<s.heap.objs.size:=fun b hb=>by
  obtain⟨o,e,_⟩:=T.obj 0 s.heap st b hb
  exact Heap.lt_size e
 refine wpAny_newObj_type (wpAny_newFunctionEnv O.cell (by intro y hy;simp at hy) (fun h₁ hns₁ hsb₁=>?_) O.kind)
 dsimp only at hns₁ hsb₁ ⊢
 generalize hH2:s.heap.push { cls:=.type "list",dict:=none,data:=.seq ([]:List Value).toArray }=g at hns₁ hsb₁ ⊢
 have hg:g=s.heap.push (LCg.lst []):=hH2.symm
 have hsz:g.objs.size=s.heap.objs.size+1:=by rw[hg,Heap.size_push]
 have hk:∀ b o,g.get? b=some o->h₁.get? b=some o:=fun b o e=>hsb₁.extBut b o (F4 (Heap.lt_size e)) (Heap.get?_push_of_some _ e)
 have kp:∀ b o,s.heap.get? b=some o->h₁.get? b=some o:=fun b o e=>hk b o (by rw[hg];exact Heap.get?_push_of_some _ e)
 have J0:=B0 (h':=h₁) (tk:=s.toks+([]:List (Str×Value)).length) O I hf hfs hg hk hns₁
 have stat:∀{H':Hp}{us:List Value},(∀ b∈fp,H' b=none)->∀ b∈fp,FpOk (cxG X scope fr xs g.objs.size (s.heap.objs.size::fp) { s with heap:=g } H) (X.pn++pins++[(s.heap.objs.size,LCg.lst us)]) H' b:=fun{H' us} hn b hb=>by
  obtain⟨_,f1,f2,f3,f4,f5⟩:=hf b hb
  refine⟨hn b hb,?_,fun z=>(FC.mp (I.stkSub b z)).elim f1 f2,.inl (FK _ hb),fun y c e=>f4 y c (O.cells I e),fun p hp=>?_⟩
  ·show b≠g.objs.size
   rw[hsz];exact F4 (G6 (hfs b hb))
  ·rcases FG.mp hp with hp | hp
   ·cases hp
   ·rcases FG.mp hp with hp | hp
    ·exact f5 p hp
    ·have ep:p=(s.heap.objs.size,LCg.lst us):=by simpa using hp
     rw[ep]
     exact Hc (hfs b hb)
 have loop:codeAny (model X.prog X.w) X.A (.compLoop (.ListComp elt [⟨tg,iter,ifs,0⟩] scope pos) 0 (.ref it) (.ref s.heap.objs.size) (compEnvC scope (clOf X.env fr) g.objs.size X.env))
   (RR (.ref s.heap.objs.size) g.objs.size) { s with heap:=h₁,toks:=s.toks+([]:List (Str×Value)).length }:=by
  refine Cp (fun n s'=>∃ i ys us H',Inv (cxG X scope fr xs g.objs.size (s.heap.objs.size::fp) { s with heap:=g } H) (X.pn++pins++[(s.heap.objs.size,LCg.lst us)]) (nons xs++frOf fr σ) H' s'/\Vals ys us/\tn i s'.heap/\(∀ b∈fp,H' b=none)/\W i n ys H') ?_ m0
   ⟨0,[],[],H,J0,.nil,T.keep 0 s.heap h₁ st fun b _ o e=>kp b o e,fun b hb=>(hf b hb).1,w0⟩
  rintro n s3 ⟨i,ys,us,H3,J3,hv,st3,fr3,w3⟩
  obtain⟨hlen,hh⟩:=turn i n ys H3 w3
  have none_err:∀{α:Type}{t:Sem α}{Q:α->Shared->Prop}{E':Value->Shared->Prop}{s:Shared},wpAny (model X.prog X.w) X.A t Q (fun _ _=>False) s->wpAny (model X.prog X.w) X.A t Q E' s:=fun h=>wpAny_mono h (fun _ _ q=>q) fun _ _ z=>z.elim
  have weakN:∀{σ6:St},σ6.length=(nons xs++frOf fr σ).length->σ6.drop xs.length=frOf fr σ->∀(i:Nat) v,(nons xs++frOf fr σ)[i]?=some (some v)->σ6[i]?=some (some v):=fun{σ6} hl6 e6 i v e=>by
   by_cases hi:i<xs.length
   ·rw[FA (by simpa using hi),GY,if_pos hi]at e
    cases e
   ·rw[Fz (by simp;omega),← e6,List.getElem?_drop]at e
    have:xs.length+(i-(nons xs).length)=i:=by simp;omega
    rw[this]at e
    exact e
  rcases hh with⟨stop,qn⟩ | ⟨go,N,hN,step⟩
  ·refine none_err (thn (T.done (cxG X scope fr xs g.objs.size (s.heap.objs.size::fp) { s with heap:=g } H) rfl rfl rfl hc i _ s3 _ H3 _ J3 (stat fr3) st3 stop) fun r s4 ⟨hr,J4⟩=>?_)
   subst hr
   obtain⟨I4,nD,fC,m,hn⟩:=rq I hf hg J4 hv hlen
   exact fin _ _ H3 ys s4 m I4 nD fC hn qn
  ·refine none_err (thn (T.item (cxG X scope fr xs g.objs.size (s.heap.objs.size::fp) { s with heap:=g } H) rfl rfl rfl hc i _ s3 _ H3 _ J3 (stat fr3) st3 go) fun r s4 ⟨u,hr,h4⟩=>?_)
   subst hr
   refine none_err (thn h4 fun _ s5 ⟨v,H5,J5,r5,y5,st5,fr5⟩=>?_)
   have J5':=J5.pinned (stat fr5) (T.obj _ _ st5)
   refine none_err (thn (hg0 _ _ _ _ _ s5 _ H5 v u _ J5' r5 (step v H5 y5)) fun _ s6 ⟨σ6,H6,J6,e6,q6⟩=>?_)
   refine none_err (thn (ht _ _ _ _ _ s6 σ6 H6 _ J6 q6) fun b s6' ⟨H6',J6',q6'⟩=>?_)
   have hl6:σ6.length=(nons xs++frOf fr σ).length:=J6.len.trans J3.len.symm
   cases b with
   |false =>
    rw[if_neg FV]at q6' ⊢
    obtain⟨m',hm,w7⟩:=hN ys H6' q6'
    have pinF:∀ b∈fp,∀ o,s5.heap.get? b=some o->s6'.heap.get? b=some o/\H6' b=none:=fun b hb o e=>by
     obtain⟨q1,q2,_⟩:=J6'.pin (b,o) (FN _ (FN _ (ft hb e)))
     exact⟨q1,q2⟩
    refine⟨m',hm,i+1,ys,us,H6',J6'.unpinned.weak (σ':=nons xs++frOf fr σ) hl6.symm (weakN hl6 e6),hv,T.keep _ _ _ st5 fun b hb o e=>(pinF b hb o e).1,fun b hb=>?_,w7⟩
    obtain⟨o,e,_⟩:=T.obj _ _ st5 b hb
    exact(pinF b hb o e).2
   |true =>
    rw[if_pos rfl]at q6' ⊢
    refine none_err (thn (he _ _ _ _ _ s6' _ H6' _ J6' q6') fun u7 s7 ⟨v7,H7,J7,r7,q7⟩=>?_)
    obtain⟨m',hm,w7⟩:=hN _ H7 q7
    obtain⟨eD,nD,dC,dF,dd⟩:=J7.pin (s.heap.objs.size,LCg.lst us) (FN _ (F3 _ (FN _ (by simp))))
    have hvl:=hv.length
    refine append_at (hsz:=by show us.toArray.size<=sizeLine;rw[FZ,← hvl];exact hlen) eD fun h8 hs8 hD8=>?_
    have pinD:∀ p∈X.pn++pins,p.1≠s.heap.objs.size:=fun p hp z=>by
     have:=Heap.lt_size (I.pin p hp).1
     rw[z]at this
     exact GA _ this
    have J7a:Inv (cxG X scope fr xs g.objs.size (s.heap.objs.size::fp) { s with heap:=g } H) (X.pn++pins) _ H7 s7:=J7.pins_of fun p hp=>J7.pin p (FN _ (F3 _ (F3 _ hp)))
    have J8:Inv (cxG X scope fr xs g.objs.size (s.heap.objs.size::fp) { s with heap:=g } H) (X.pn++pins) _ H7 { s7 with heap:=h8 }:=J7a.turned (t':=s7.toks) (fun b o hb e=>(hs8.2 b hb).trans e) nD dC (.inl FP) (fun y c e z=>by
     obtain⟨w',q⟩:=I.cell y c (O.cells I e)
     have:=q.lt
     rw[z]at this
     exact GA _ this) (fun p hp=>(FG.mp hp).elim (fun z=>by cases z) (pinD p))
    have J9:Inv (cxG X scope fr xs g.objs.size (s.heap.objs.size::fp) { s with heap:=g } H) (X.pn++pins++[(s.heap.objs.size,LCg.lst (us++[u7]))]) _ H7 { s7 with heap:=h8 }:=J8.pins_of fun p hp=>by
     rcases FG.mp hp with hp | hp
     ·exact J8.pin p (FN _ hp)
     ·have ep:p=(s.heap.objs.size,LCg.lst (us++[u7])):=by simpa using hp
      subst ep
      exact⟨hD8.trans (congrArg some (LCg.lst_snoc us u7)),nD,dC,dF,fun v z=>by cases z⟩
    have J10:=J9.weak (σ':=nons xs++frOf fr σ) hl6.symm (weakN hl6 e6)
    have pinF:∀ b∈fp,∀ o,s5.heap.get? b=some o->s7.heap.get? b=some o/\H7 b=none:=fun b hb o e=>by
     obtain⟨q1,q2,_⟩:=J7.pin (b,o) (FN _ (FN _ (ft hb e)))
     exact⟨q1,q2⟩
    refine⟨m',hm,i+1,ys++[v7],us++[u7],H7,J10,hv.append (.cons r7 .nil),T.keep _ _ _ st5 fun b hb o e=>(hs8.2 b (F4 (hfs b hb))).trans (pinF b hb o e).1,fun b hb=>?_,w7⟩
    obtain⟨o,e,_⟩:=T.obj _ _ st5 b hb
    exact(pinF b hb o e).2
 exact codeAny_compStart_list loop (T.self X.A 0 _ _ _ (T.keep 0 s.heap h₁ st fun b _ o e=>kp b o e) loop)
def tCompE(wi:TI)(g:TG)(tt:TT)(te:TE)(n:Nat)(fr:List (Str×Nat)):TE:=fun σ H Q=>wi σ H fun J H1=>yw g tt te n (frOf fr σ) J H1 fun ys H2=>∀ D,H2 D=none->Q (.ref D) (upd H2 D (.lst ys))
theorem yH(hc:X.calm=true)(O:su X scope fr xs)(hi:PI X tg iter wi)(hg0:∀ C ex s H,PG (cxG X scope fr xs C ex s H) tg tgt)(ht:∀ C ex s H,PTs (cxG X scope fr xs C ex s H) ifs tt)(he:∀ C ex s H,PE (cxG X scope fr xs C ex s H) elt te)(hs:∀ x,foldedSetIterable iter X.env x=pure x:=by intro _;rfl) :
  PE X (.ListComp elt [⟨tg,iter,ifs,0⟩] scope pos) (tCompE wi tgt tt te xs.length fr):=by
 intro pins s σ H Q I h
 rw[eval_ListComp]
 refine wpAny_comprehension_free (use:=none) rfl hs O.clos O.kind O.names (thn (hi pins s σ H _ I h) fun xv s1 h1=>thn h1 fun itv s2 h2=>?_)
 obtain⟨it,fp,tn,J,H2,e,I2,T,st2,f2,q2⟩:=h2
 subst e
 refine Ak (RR:=fun acc C=>compPost (model X.prog X.w) X.A X.xe none (EP X pins σ Q) acc C) hc O hg0 ht he I2 T st2 f2 q2 ?_
 intro D C H4 ys s4 m I4 nD fC hn q4
 refine⟨m,hn,fun h' hs'=>?_⟩
 obtain⟨g0,g1,g2,g3,g4,g5⟩:=fC
 exact⟨.ref D,_,I4.turned (t':=s4.toks) (fun b o hb e=>(hs'.2 b hb).trans e) g0 g1 g3 g4 g5,rfl,q4 D nD⟩
end
theorem Am{K:Fw}{a:Addr}{xs:List V}{g:TG}{tt:TT}{te:TE}{n:Nat}{fv:St}{H1:Hp}{QQ:List V->Hp->Prop}(Pv:Nat->List V->Hp->Prop)(hz:xs.length<=sizeLine)(h0:Pv 0 [] H1)(hl:∀ i ys H,i<=xs.length->Pv i ys H->SqL K H a xs)
  (hs:∀ i x ys H T,xs[i]?=some x->Pv i ys H->H T=none->g (.ref T) (G1 n none++fv) (upd H T (.tup [.int (i:Int),x])) fun σ2 H2=>σ2.drop n=fv/\tt σ2 H2 fun b H3=>if b=true then te σ2 H3 (fun y H4=>Pv (i+1) (ys++[y]) H4) else Pv (i+1) ys H3) (hd:∀ ys H,Pv xs.length ys H->QQ ys H) (hy:∀ i ys H,Pv i ys H->ys.length<=i)
  : yw g tt te n fv (Ite K a) H1 QQ:=by
 refine⟨fun i m ys H=>m=xs.length-i/\i<=xs.length/\Pv i ys H,⟨xs.length,by simp,GJ _,h0⟩,?_⟩
 rintro i m ys H ⟨rfl,hi,p⟩
 have q:=hl i ys H hi p
 have hyl:=hy i ys H p
 refine⟨by omega,?_⟩
 by_cases hlt:i<xs.length
 ·refine .inr ⟨⟨xs,xs[i],q,by simp[hlt]⟩,fun zs H2=>Pv (i+1) zs H2,fun zs H2 p2=>⟨xs.length-(i+1),by omega,rfl,hlt,p2⟩,fun v H' y=>?_⟩
  obtain⟨T,x,hT,rfl,rfl,y⟩:=y
  exact hs i x ys _ T (y xs q) p hT
 ·have e:i=xs.length:=by omega
  subst e
  exact .inl ⟨⟨xs,q,FD _⟩,hd ys H p⟩
end L2
namespace L2
open PySem PySem.Spec PyProof.Rows
section
variable{X:Cx}{K:Fw}{pos:Pos}
theorem yO(h:X.K=K):IxR X (rIxL K):=h▸aG
theorem EF{es:List Expr}{k:Nat}{t:TGs}{n:Nat}(hK:X.K=K)(hc:X.calm=true)(h:PGs X es t)(hn:(assignEach es X.env).length=n:=by rfl)(hst:(assignEach es X.env).findIdx? (·.1)=none:=by rfl):PG X (.Tuple es k pos) (gTup K n t):=hK▸yD hc h hn hst
theorem pI(h:X.K=K):jy X (.type "list") (fun xs H Q=>∃ p ys,xs = [.ref p]/\(SqL K H p ys∨SqT K H p ys)/\∀ l,H l=none->Q (.ref l) (upd H l (.lst ys))):=h▸eK
theorem Bj{e:Expr}{f:Str}{ta:TE}(h:X.K=K)(he:PE X e ta)(hb:attributeBase e f X.env (eval e X.env)=eval e X.env):PE X (.Attribute e f pos) (tFld K ta f):=h▸cT he hb
end
end L2
namespace L2
open PySem PySem.Spec PyProof.Rows
section
variable{X:Cx}
def Ey:V->List V->Hp->VK->Prop:=fun x vs H Q=>∃ l xs k y,x=.ref l/\vs = [.int k,y]/\H l=some (.lst xs)/\0<=k/\k<=xs.length/\xs.length<sizeLine/\Q .non (upd H l (.lst (xs.take k.toNat++y::xs.drop k.toNat)))
theorem m5:MtM X "list.insert" Ey:=by
 intro pins s σ H x vs v us Q I rx rv h
 obtain⟨l,xs,k,y,rfl,rfl,hH,h0,hk,hz,q⟩:=h
 cases rx
 obtain⟨u1,u2,rfl,r1,r2⟩:=rv.two
 obtain⟨t,rfl⟩:=r1
 obtain⟨z,its,n,r,hl,e⟩:=I.lstM hH
 have hn:=ui
 have hfit:¬ (!Builtin.List.listFitsIndex k)=true:=by
  rw[fitsIndex_both (by omega) (by omega)]
  exact FV
 refine call_meets F.slot_list_insert ⟨_,e,rfl⟩ F.entry_list_insert (F.args_list_insert_3 _ _ _) (AutoListH.list_insert_list_int_val_1 l its.toArray n k t u2 hfit (by rw[FZ];omega)) ⟨e,?_⟩
 refine⟨.non,_,I.lset (its':=its.take k.toNat++u2::its.drop k.toNat) hH e ?_ ((r.take _).append (.cons r2 (r.drop _))) ?_,rfl,q⟩
 ·dsimp only
  rw[if_neg (by omega),FZ,Iu (by omega)]
  simp
  exact G2 (by rw[G8];omega)
 ·rw[Fy,Ge,GL,G8]
  omega
theorem mI:∀{ns:List Int}{us:List Value},Vals (ns.map V.int) us->IntsAre us ns
 |[],_,.nil=>.nil
 |n::ns,_,.cons r rr=>by
  obtain⟨t,rfl⟩:=r
  exact .cons n t (mI rr)
theorem DG(hc:X.calm=true):jy X (.builtin "sum") (fun xs H Q=>∃(p:Addr)(ns:List Int),xs = [.ref p]/\SqL X.K H p (ns.map V.int)/\Q (.int ns.sum) H):=by
 intro pins s σ H xs us Q I r h
 obtain⟨p,ns,rfl,hq,q⟩:=h
 obtain⟨u,rfl,ru⟩:=vz r
 cases ru
 obtain⟨its,rv,pl,hz⟩:=I.list hq
 have hi:=mI rv
 obtain⟨zs,e⟩:=hi.allInts.items
 have hns:(numsOf its)=ns:=hi.numsOf
 have hl:s.heap.IsList p (intItems zs):=by rw[← e];exact pl.isList
 refine sum_intListG (I.ok.hd hc) hl fun h' tk t' hk=>⟨.int ns.sum,H,I.kept (t':=tk) hk,⟨t',?_⟩,q⟩
 have h2:numsOf (intItems zs).toList=ns:=by rw[← e];exact hns
 rw[nums_intItems]at h2
 rw[preSum_eq,G2 (by simp),← h2]
end
end L2
namespace L2
open PySem PySem.Spec PyProof.Rows
theorem mQ:∀{ps:List Nat},(∀ p∈ps,p<1000)->PyData.weightAll ((ps.map fun(p:Nat)=>((p:Nat):Int)).map PyData.int)<=12*ps.length
 |[],_=>by simp[PyData.weightAll]
 |p::ps,h=>by
  have ih:=mQ (ps:=ps) fun x hx=>h x (FK _ hx)
  have hp:=h p (by simp)
  have hw:PyData.weight (.int (p:Int))<=11:=by
   rw[PyData.weight]
   split
   ·exact GJ _
   ·rename_i z
    have z':p≠0:=fun e=>z (by rw[e];rfl)
    have e:((p:Int)).natAbs=p:=rfl
    rw[e]
    have:=(Nat.log2_lt z').mpr (show p<2^10 by omega)
    omega
  rw[F9,F9,PyData.weightAll,Ge]
  omega
theorem Dr{ps:List Nat}(h:∀ p∈ps,p<1000)(hl:ps.length<=1000):PyData.layable0 (.list ((ps.map fun(p:Nat)=>((p:Nat):Int)).map PyData.int))=true:=by
 have h1:=PySem.W.shaped_ints (ps.map fun(p:Nat)=>((p:Nat):Int))
 have h2:=mQ h
 have h3:PyData.weight (.list ((ps.map fun(p:Nat)=>((p:Nat):Int)).map PyData.int))<=2^20:=by
  rw[PyData.weight];omega +splitDisjunctions
 unfold PyData.layable0
 unfold SeqAt.shaped at h1
 rw[h1,decide_eq_true h3]
 rfl
section
variable{X:Cx}
def rIndex(K:Fw):V->List V->Hp->VK->Prop:=fun x vs H Q=>∃(l:Addr)(ps:List Nat)(k:Nat),x=.ref l/\vs = [.int (k:Int)]/\SqL K H l (ps.map fun(p:Nat)=>V.int (p:Int))/\(∀ p∈ps,p<1000)/\ps.length<=1000/\k∈ps/\Q (.int ((ps.idxOf k:Nat):Int)) H
theorem Dx{ps:List Nat}{k:Nat}:(ps.map fun(p:Nat)=>((p:Nat):Int)).idxOf (k:Int)=ps.idxOf k:=by
 induction ps with
 |nil=>rfl
 |cons p ps ih =>
  rw[F9,List.idxOf_cons,List.idxOf_cons,ih]
  have e:(((p:Nat):Int) == (k:Int))=(p == k):=by
   by_cases h:p=k
   ·subst h;simp
   ·have h2:¬ (p:Int)=(k:Int):=fun z=>h (by omega)
    rw[beq_eq_false_iff_ne.mpr h,beq_eq_false_iff_ne.mpr h2]
  rw[e]
theorem mF:MtM X "list.index" (rIndex X.K):=by
 intro pins s σ H x vs v us Q I rx rv h
 obtain⟨l,ps,k,rfl,rfl,hq,hs,hl,hk,q⟩:=h
 cases rx
 obtain⟨u,rfl,ru⟩:=rv.one
 obtain⟨t,rfl⟩:=ru
 have e:(ps.map fun(p:Nat)=>V.int (p:Int))=(ps.map fun(p:Nat)=>((p:Nat):Int)).map V.int:=by rw[List.map_map];rfl
 rw[e]at hq
 obtain⟨its,r,pl,hz⟩:=I.list hq
 refine index_list_ints pl.isList (mI r) (Dr hs hl) (Gk.mpr ⟨k,hk,rfl⟩) ?_
 rw[Dx]
 exact⟨.int _,H,I.tok _,⟨_,rfl⟩,q⟩
end
end L2
namespace L2
open PySem PySem.Spec PyProof.Rows
theorem AH:∀{us:List Value}{ns:List Int},IntsAre us ns->Vals (ns.map V.int) us
 |_,_,.nil=>.nil
 |_,_,.cons _ t r=>.cons ⟨t,rfl⟩ (AH r)
section
variable{X:Cx}
def A7(K:Fw):List V->Hp->VK->Prop:=fun xs H Q=>∃(p:Addr)(ns:List Int),xs = [.ref p]/\SqL K H p (ns.map V.int)/\ns.length<64/\∀(l:Addr)(out:List Int),H l=none->out.Perm ns->out.Pairwise (·<=·)->Q (.ref l) (upd H l (.lst (out.map V.int)))
theorem x8:jy X (.builtin "sorted") (A7 X.K):=by
 intro pins s σ H xs us Q I r h
 obtain⟨p,ns,rfl,hq,h64,q⟩:=h
 obtain⟨u,rfl,ru⟩:=vz r
 cases ru
 obtain⟨its,rv,pl,hz⟩:=I.list hq
 have hi:=mI rv
 have hl:=rv.length
 rw[FF]at hl
 refine sorted_ints pl.isList hi (by omega) fun out ns' a1 a2 a3=>?_
 obtain⟨e,he⟩:=sortedAll_at s.heap its out
 refine⟨.ref (s.heap.objs.size+1),_,I.laid (t':=s.toks) (fun _ _=>sortedAll_old) (G4 _) (show bA X.prog X.w _ _ _ (.lst (ns'.map V.int)) from⟨?_,out.toList,e,AH a1,?_⟩),rfl,q _ ns' (I.hok.fresh (G4 _)) a2 a3⟩
 ·rw[FF,a2.length_eq]
  exact Gw (au (by omega))
 ·exact he
theorem uY{K:Fw}(h:X.K=K):jy X (.builtin "sorted") (A7 K):=h▸x8
end
theorem x5{lo c:Int}{n:Nat}{te:TE}{fv:St}{H1:Hp}{QQ:List V->Hp->Prop}(Pv:Nat->List V->Hp->Prop)(hz:n<=sizeLine)(h0:Pv 0 [] H1)
  (hs:∀ i ys H,i<n->Pv i ys H->te (some (.int (lo+i*c))::fv) H fun y H2=>Pv (i+1) (ys++[y]) H2) (hd:∀ ys H,ys.length=n->Pv n ys H->QQ ys H)
  : o7 te fv (Itr3 lo c n) H1 QQ:=by
 refine⟨fun i m ys H=>m=n-i/\i<=n/\ys.length=i/\Pv i ys H,⟨n,by simp,GJ _,rfl,h0⟩,?_⟩
 rintro i m ys H ⟨rfl,hi,hy,p⟩
 refine⟨by omega,?_⟩
 by_cases hlt:i<n
 ·refine .inr ⟨hlt,fun y H2=>Pv (i+1) (ys++[y]) H2,fun y H2 p2=>⟨n-(i+1),by omega,rfl,hlt,by rw[Fy,hy];rfl,p2⟩,fun x H' y=>?_⟩
  obtain⟨e,y⟩:=y
  subst e y
  exact hs i ys _ hlt p
 ·have e:i=n:=by omega
  subst e
  exact .inl ⟨FD _,hd ys H hy p⟩
end L2
namespace L2
open PySem PySem.Spec PyProof.Rows
section
variable{X:Cx}{tg:Expr}
def iRngL(ta:TA):TI:=fun σ H R=>ta σ H fun vs H1=>∃(lo m c:Int)(n:Nat),vs = [.int lo,.int m,.int c]/\0<=lo/\lo<1000/\-1000<m/\m<2^61/\(0<c/\c<1000)/\Builtin.Range.rangeSize lo m c=(n:Int)/\R (Itr3 lo c n) H1
theorem CY{lo m c:Int}(h0:0<=lo)(h00:lo<1000)(h1 : -1000<m)(h2:m<2^61)(h3:0<c/\c<1000):Builtin.Range.small lo m c=true:=by
 obtain⟨h3,h4⟩:=h3
 have hs:0<=Builtin.Range.rangeSize lo m c/\Builtin.Range.rangeSize lo m c<=2^61:=by
  unfold Builtin.Range.rangeSize
  rw[if_pos h3]
  by_cases h:lo<m
  ·rw[if_pos h]
   have q1:0<=(m-lo-1)/c:=Int.ediv_nonneg (by omega) (by omega)
   have q2:(m-lo-1)/c<=(m-lo-1):=Int.ediv_le_self _ (by omega)
   omega
  ·rw[if_neg h];omega
 unfold Builtin.Range.small Builtin.Range.rangeFitsLong
 simp only[gt_iff_lt,h3,if_true]
 simp
 omega
theorem Bg{a b c:Expr}{ta:TA}{p pos:Pos} (hg:Gl X "range") (hm:X.mg "range" = none) (ha:PA X [a,b,c] ta) (hs:starEach [a,b,c] X.env=(false,eval a X.env)::starEach [b,c] X.env:=by rfl) (hs2:(backTo pos (starEach [b,c] X.env)).any (·.1)=false:=by rfl) :
  PI X tg (.Call (.Name "range" p) [a,b,c] [] pos) (iRngL ta):=by
 intro pins s σ H R I h
 refine Call_ (pj I hg hm DH (PyProof.Rows.callWith_type1 (thn (ha pos pins s σ H _ I h) fun us s1 ⟨vs,H1,I1,r1,q1⟩=>?_) hs hs2))
 obtain⟨lo,m,c,n,e,h0,h00,h1,h2,h3,hn,q⟩:=q1
 subst e
 cases r1 with
 |cons r rr =>
  cases rr with
  |cons r' rr =>
   cases rr with
   |cons r'' rr =>
    cases rr
    obtain⟨t,rfl⟩:=r
    obtain⟨t',rfl⟩:=r'
    obtain⟨t'',rfl⟩:=r''
    refine call_range_3 (by have:=h3.1;omega) ?_ (Or.inl (PyProof.noPylong_small (by have:=h3.1;have:=h3.2;omega)))
    refine wpAny_pyIter_range (IsRange.new ..) (CY h0 h00 h1 h2 h3) ?_
    have I2:Inv X pins σ H1 { s1 with heap:=s1.heap.push { cls:=.type "range",data:=.fields #[.int lo t,.int m t',.int c t''] },toks:=s1.toks }:=I1.kept fun b o e=>Heap.get?_push_of_some _ e
    refine⟨(s1.heap.push { cls:=.type "range",data:=.fields #[.int lo t,.int m t',.int c t''] }).objs.size,[(s1.heap.push { cls:=.type "range",data:=.fields #[.int lo t,.int m t',.int c t''] }).objs.size],_,_,H1,rfl,
     I2.kept (t':=s1.toks) fun b o e=>Heap.get?_push_of_some _ e,vA _ lo c n,?_,fun b hb=>?_,q⟩
    ·have e1:lo+((0:Nat):Int)*c=lo:=by simp
     have e2:((n:Nat):Int)-((0:Nat):Int)=Builtin.Range.rangeSize lo m c:=by rw[hn];simp
     show IsRangeIter _ _ (lo+((0:Nat):Int)*c) ((n:Int)-((0:Nat):Int)) c
     rw[e1,e2]
     exact Heap.get?_push_size _ rfl
    ·have e:b=(s1.heap.push { cls:=.type "range",data:=.fields #[.int lo t,.int m t',.int c t''] }).objs.size:=by simpa using hb
     subst e
     exact I2.fpOk (FD _) (I2.hok.fresh (FD _))
end
end L2
namespace L2
open PySem PySem.Spec PyProof.Rows
section
variable{X:Cx}
end
end L2
namespace L2
open PySem PySem.Spec PyProof.Rows
section
variable{X:Cx}
end
section
variable{X:Cx}
end
end L2
namespace L2
open PySem PySem.Spec PyProof.Rows
end L2
namespace L2
open PySem PySem.Spec PyProof.Rows
section
variable{X:Cx}
theorem op_neG(hu:X.A.units+64<cLine):OpR X (compareOp .NotEq) (fun x y H Q=>∃ d1 d2,RdD X.K H x d1/\RdD X.K H y d2/\SeqAt.shaped d1=true/\SeqAt.shaped d2=true/\Q (.bl (!PyData.eqv d1 d2)) H):=by
 intro pins s σ H x y v u Q I rx ry h
 obtain⟨d1,d2,r1,r2,h1,h2,q⟩:=h
 obtain⟨as,q1⟩:=r1.reads I v rx
 obtain⟨bs,q2⟩:=r2.reads I u ry
 exact ne_dataH q1 q2 h1 h2 hu ⟨.bl _,H,I,rfl,q⟩
theorem nC:∀(a b:List Int),PyData.eqvAll (a.map PyData.int) (b.map PyData.int)=decide (a=b)
 |[],[]=>by simp[PyData.eqvAll]
 |[],y::b=>by simp[PyData.eqvAll]
 |x::a,[]=>by simp[PyData.eqvAll]
 |x::a,y::b=>by
  rw[F9,F9]
  simp only[PyData.eqvAll,PyData.eqv,nC a b]
  by_cases h:x=y
  ·by_cases h2:a=b
   ·simp[h,h2]
   ·simp[h,h2]
  ·simp[h]
theorem DB(a b:List Int):PyData.eqv (.list (a.map PyData.int)) (.list (b.map PyData.int))=decide (a=b):=by
 rw[← nC]
 simp only[PyData.eqv]
end
section
variable{X:Cx}{tg:Expr}
end
section
variable{P:Program}{w:World}{K:Fw}{mg:Str->Option Value}{base:Heap}
end
end L2
namespace PyProof.Rows
open PySem
local macro_rules | `(tactic| walk_at "gallop") => do
 let n:=Lean.mkIdent (Lean.mkPrivateNameCore `PySem.Builtin.List.W1All `PySem.Builtin.gallop)
 `(tactic| delta $n)
local macro_rules | `(tactic| walk_at "st") => `(tactic| try dsimp -zeta -zetaHave only)
local macro_rules | `(tactic| walk_at "l4") => `(tactic| (extract_lets -underBinder +onlyGivenNames a b; subst a b))
variable{prog:Program}{w:World}{A:Around}{E:Value->Shared->Prop}{s:Shared}
end PyProof.Rows
namespace PyProof.Rows
open PySem
local macro_rules | `(tactic| walk_at "setG") => do
 let n:=Lean.mkIdent (Lean.mkPrivateNameCore `PySem.Builtin.List.W1All `PySem.Builtin.setMinGallop)
 `(tactic| delta $n)
local macro_rules | `(tactic| walk_at "mergeLo") => do
 let n:=Lean.mkIdent (Lean.mkPrivateNameCore `PySem.Builtin.List.W1All `PySem.Builtin.mergeLo)
 `(tactic| delta $n)
local macro_rules | `(tactic| walk_at "st") => `(tactic| try dsimp -zeta -zetaHave only)
local macro_rules | `(tactic| walk_at "l3") => `(tactic| (extract_lets -underBinder +onlyGivenNames a b c; subst a b c))
local macro_rules | `(tactic| walk_at "l11") => `(tactic| (extract_lets -underBinder +onlyGivenNames a b c d e f g h i j k; subst a b c d e f g h i j k; dsimp -zeta -zetaHave only))
variable{prog:Program}{w:World}{A:Around}{E:Value->Shared->Prop}{s:Shared}
end PyProof.Rows
namespace PyProof.Rows
open PySem
local macro_rules | `(tactic| walk_at "mergeHi") => do
 let n:=Lean.mkIdent (Lean.mkPrivateNameCore `PySem.Builtin.List.W1All `PySem.Builtin.mergeHi)
 `(tactic| delta $n)
local macro_rules | `(tactic| walk_at "st") => `(tactic| try dsimp -zeta -zetaHave only)
local macro_rules | `(tactic| walk_at "l3") => `(tactic| (extract_lets -underBinder +onlyGivenNames a b c; subst a b c))
local macro_rules | `(tactic| walk_at "l11") => `(tactic| (extract_lets -underBinder +onlyGivenNames a b c d e f g h i j k; subst a b c d e f g h i j k; dsimp -zeta -zetaHave only))
variable{prog:Program}{w:World}{A:Around}{E:Value->Shared->Prop}{s:Shared}
end PyProof.Rows
namespace PyProof.Rows
open PySem
local macro_rules | `(tactic| walk_at "countRun") => do
 let n:=Lean.mkIdent (Lean.mkPrivateNameCore `PySem.Builtin.List.W1All `PySem.Builtin.countRun)
 `(tactic| delta $n)
local macro_rules | `(tactic| walk_at "binarySort") => do
 let n:=Lean.mkIdent (Lean.mkPrivateNameCore `PySem.Builtin.List.W1All `PySem.Builtin.binarySort)
 `(tactic| delta $n)
local macro_rules | `(tactic| walk_at "st") => `(tactic| try dsimp -zeta -zetaHave only)
local macro_rules | `(tactic| walk_at "l3") => `(tactic| (extract_lets -underBinder +onlyGivenNames a b c; subst a b c))
local macro_rules | `(tactic| walk_at "l11") => `(tactic| (extract_lets -underBinder +onlyGivenNames a b c d e f g h i j k; subst a b c d e f g h i j k; dsimp -zeta -zetaHave only))
local macro_rules | `(tactic| walk_at "l1") => `(tactic| (extract_lets -underBinder +onlyGivenNames a; subst a; try dsimp -zeta -zetaHave only))
local macro_rules | `(tactic| walk_at "l2") => `(tactic| (extract_lets -underBinder +onlyGivenNames a b; subst a b; try dsimp -zeta -zetaHave only))
local macro_rules | `(tactic| walk_at "l4") => `(tactic| (extract_lets -underBinder +onlyGivenNames a b c d; subst a b c d; try dsimp -zeta -zetaHave only))
variable{prog:Program}{w:World}{A:Around}{E:Value->Shared->Prop}{s:Shared}
end PyProof.Rows
namespace PyProof.Rows
open PySem
local macro_rules | `(tactic| walk_at "mergeAt") => do
 let n:=Lean.mkIdent (Lean.mkPrivateNameCore `PySem.Builtin.List.W1All `PySem.Builtin.mergeAt)
 `(tactic| delta $n)
local macro_rules | `(tactic| walk_at "st") => `(tactic| try dsimp -zeta -zetaHave only)
local macro_rules | `(tactic| walk_at "l3") => `(tactic| (extract_lets -underBinder +onlyGivenNames a b c; subst a b c))
local macro_rules | `(tactic| walk_at "l11") => `(tactic| (extract_lets -underBinder +onlyGivenNames a b c d e f g h i j k; subst a b c d e f g h i j k; dsimp -zeta -zetaHave only))
local macro_rules | `(tactic| walk_at "l1") => `(tactic| (extract_lets -underBinder +onlyGivenNames a; subst a; try dsimp -zeta -zetaHave only))
local macro_rules | `(tactic| walk_at "l2") => `(tactic| (extract_lets -underBinder +onlyGivenNames a b; subst a b; try dsimp -zeta -zetaHave only))
local macro_rules | `(tactic| walk_at "l4") => `(tactic| (extract_lets -underBinder +onlyGivenNames a b c d; subst a b c d; try dsimp -zeta -zetaHave only))
variable{prog:Program}{w:World}{A:Around}{E:Value->Shared->Prop}{s:Shared}
end PyProof.Rows
namespace PyProof.Rows
open PySem
local macro_rules | `(tactic| walk_at "sortRuns") => do
 let n:=Lean.mkIdent (Lean.mkPrivateNameCore `PySem.Builtin.List.W1All `PySem.Builtin.sortRuns)
 `(tactic| delta $n)
local macro_rules | `(tactic| walk_at "st") => `(tactic| try dsimp -zeta -zetaHave only)
local macro_rules | `(tactic| walk_at "l3") => `(tactic| (extract_lets -underBinder +onlyGivenNames a b c; subst a b c))
local macro_rules | `(tactic| walk_at "l11") => `(tactic| (extract_lets -underBinder +onlyGivenNames a b c d e f g h i j k; subst a b c d e f g h i j k; dsimp -zeta -zetaHave only))
local macro_rules | `(tactic| walk_at "l1") => `(tactic| (extract_lets -underBinder +onlyGivenNames a; subst a; try dsimp -zeta -zetaHave only))
local macro_rules | `(tactic| walk_at "l2") => `(tactic| (extract_lets -underBinder +onlyGivenNames a b; subst a b; try dsimp -zeta -zetaHave only))
local macro_rules | `(tactic| walk_at "l4") => `(tactic| (extract_lets -underBinder +onlyGivenNames a b c d; subst a b c d; try dsimp -zeta -zetaHave only))
variable{prog:Program}{w:World}{A:Around}{E:Value->Shared->Prop}{s:Shared}
end PyProof.Rows
namespace PyProof.Rows
open PySem
variable{prog:Program}{w:World}{A:Around}{E:Value->Shared->Prop}{s:Shared}
end PyProof.Rows
namespace L2
open PySem PySem.Spec PyProof.Rows
section
variable{X:Cx}
end
end L2
namespace L2
open PySem PySem.Spec PyProof.Rows
section
variable{X:Cx}
end
end L2
namespace L2
open PySem PySem.Spec PyProof.Rows
section
variable{prog:Program}{w:World}{A:Around}{E:Value->Shared->Prop}{s:Shared}{z TI TO i1 i2 l1 l2:Addr}{f0:Value}{f1:Bool}
end
section
variable{X:Cx}
end
end L2
namespace L2
open PySem PySem.Spec PyProof.Rows
section
variable{X:Cx}
end
end L2
namespace L2
open PySem PySem.Spec PyProof.Rows
section
variable{prog:Program}{w:World}{A:Around}{E:Value->Shared->Prop}{s:Shared}{d:Addr}
def Ent(h:Heap)(d:Addr)(es:Array DictEntry)(ep:Nat):Prop:=∃ o,h.get? d=some o/\o.ExactDict/\o.data=.dict es ep
end
def KvA(H:Hp)(u:HO)(i:Nat)(x y:V):Prop:=(∃ kvs k,u=.dK kvs/\kvs[i]?=some (k,y)/\x=kV k)∨∃ kvs k t,u=.dT kvs/\kvs[i]?=some (k,y)/\x=.ref t/\H t=some (.tup (k.map kV))
def dlen:HO->Nat
 |.dK kvs=>kvs.length
 |.dT kvs=>kvs.length
 |_=>0
def BY:HO->Prop
 |.dK _=>True
 |.dT _=>True
 |_=>False
theorem mE{α β:Type}{F:α->β->Prop}:∀{l₁:List α}{l₂:List β},Paired F l₁ l₂->∀{i:Nat}{b:β},l₂[i]?=some b->∃ a,l₁[i]?=some a/\F a b
 |_,_,.nil,i,b,e=>by simp at e
 |_,_,.cons r t,0,b,e=>⟨_,rfl,by cases e;exact r⟩
 |_,_,.cons r t,i+1,b,e=>mE t (i:=i) e
theorem ent_of{P:Program}{w:World}{H:Hp}{h:Heap}{d:Addr}{u:HO}(hd:BY u)(x:bA P w H h d u):(d == sysModules)=false/\∃ es ep,Ent h d es ep/\es.size=dlen u/\∀ i e,es[i]?=some e->∃ x y,KvA H u i x y/\RelV x e.key/\RelV y e.val:=by
 cases u with
 |dK kvs =>
  obtain⟨hz,lo,vs,rk,o,es,ep,h1,h2,h3,h4,h5,h6⟩:=x
  have l1:kvs.length=vs.length:=Paired.length rk
  have sz:es.size=vs.length:=by rw[← h5.length,Hv]
  refine⟨lo,es,ep,⟨o,h1,h2,h3⟩,by rw[sz];exact l1.symm,fun i e he=>?_⟩
  have hi:i<vs.length:=by
   have:i<es.size:=(Array.getElem?_eq_some_iff.mp he).1
   omega
  obtain⟨⟨k,v⟩,hv⟩:∃ q,vs[i]?=some q:=⟨_,Fu hi⟩
  obtain⟨hk,hval⟩:=h5.get? (e:=e) (by rw[HP];exact he) hv
  obtain⟨⟨k',y⟩,hy,ek,ry⟩:=mE rk hv
  have ek':k'=k:=ek
  subst ek'
  refine⟨kV k',y,.inl ⟨kvs,k',rfl,hy,rfl⟩,?_,by rw[hval];exact ry⟩
  rcases aZ (show um k' e.key=true from hk) with⟨j,t,e1,e2⟩ | ⟨z,t,e1,e2⟩
  ·rw[e1,e2];exact⟨t,rfl⟩
  ·rw[e1,e2];exact⟨t,rfl⟩
 |dT kvs =>
  obtain⟨hz,lo,xs,r,o,es,ep,h1,h2,h3,h4,h5⟩:=x
  have sz:es.size=xs.length:=by rw[← Hv,h4,FF]
  refine⟨lo,es,ep,⟨o,h1,h2,h3⟩,by rw[sz];exact r.length.symm,fun i e he=>?_⟩
  have e1:es.toList[i]?=some e:=by rw[HP];exact he
  rw[h4,F0]at e1
  cases hx:xs[i]? with
  |none=>rw[hx]at e1;cases e1
  |some q =>
   rw[hx]at e1
   cases e1
   obtain⟨⟨k,y⟩,hy,ek,ht,ry⟩:=mE r hx
   exact⟨.ref q.2.1,y,.inr ⟨kvs,k,q.2.1,rfl,hy,rfl,ht⟩,rfl,ry⟩
 |_=>exact hd.elim
section
variable{X:Cx}{pins:List (Addr×Obj)}{σ:St}{H:Hp}{s:Shared}{d:Addr}{u:HO}{o:Obj}
theorem BY.notT(h:BY u):(∀ xs,u≠.tup xs)/\(∀ o v,u≠.frz o v)/\(∀ ps,u≠.tbl ps)/\∀ a,u≠.own a:=by
 cases u<;>first | exact h.elim | exact⟨fun _=>by simp,fun _ _=>by simp,fun _=>by simp,fun _=>by simp⟩
theorem HOk.frz{P:Program}{w:World}{h:Heap}(x:HOk P w H h)(hd:H d=some u)(hu:BY u)(e:h.get? d=some o):HOk P w (upd H d (.frz o u)) h:=fun b v q=>by
 obtain⟨n1,n2,n3,n4⟩:=hu.notT
 have ow:∀ c y,H c=some (.own y)->upd H d (.frz o u) c=some (.own y):=fun c y r=>by rw[ak (zL r hd fun z=>n4 y z.symm)];exact r
 have tp:∀ c xs,H c=some (.tup xs)->upd H d (.frz o u) c=some (.tup xs):=fun c xs r=>by rw[ak (zL r hd fun z=>n1 xs z.symm)];exact r
 by_cases hb:b=d
 ·subst hb
  rw[af]at q
  cases q
  exact⟨e,(x b u hd).stay (fun _ _ _ r=>r) (fun c r=>ow c b r) tp⟩
 ·rw[ak hb]at q
  exact(x b v q).stay (fun _ _ _ r=>r) (fun c r=>ow c b r) tp
theorem Inv.freeze(I:Inv X pins σ H s)(hd:H d=some u)(hu:BY u)(e:s.heap.get? d=some o):Inv X pins σ (upd H d (.frz o u)) s:=by
 obtain⟨n1,n2,n3,n4⟩:=hu.notT
 exact I.step (H':=upd H d (.frz o u)) (h':=s.heap) (g':=s.gens) (d':=s.drawn) (t':=s.toks) (ch:=[]) (fun _ z=>nomatch z) (fun b _ _ _ _ q _=>q) (fun b ob _ _ _ q _=>⟨ob.slots,q⟩)
  (fun b _ _ _ n=>by rw[ak (aA hd n).symm];exact n) (fun b ob _ q=>⟨ob,q⟩) (fun b xs r=>by rw[ak (zL r hd fun z=>n1 xs z.symm)];exact r)
  (fun b ob v r=>by rw[ak (zL r hd fun z=>n2 ob v z.symm)];exact r) (fun b ps r=>⟨#[],by rw[ak (zL r hd fun z=>n3 ps z.symm),r];simp⟩) (fun _ q=>q) (I.hok.frz hd hu e) I.bare
end
section
variable{X:Cx}
end
end L2
namespace L2
open PySem PySem.Spec PyProof.Rows
section
open PySem.W
end
section
open PySem.W
variable{prog:Program}{w:World}{A:Around}{E:Value->Shared->Prop}{s:Shared}
end
section
variable{X:Cx}
end
section
variable{X:Cx}
end
end L2
namespace L2
open PySem PySem.Spec PyProof.Rows
section
variable{prog:Program}{w:World}{K:Type} [DecidableEq K] {knd:KeyKind prog w K} {A:Around} {E:Value->Shared->Prop} {s:Shared}
end
section
variable{X:Cx}{o e f:Expr}{apos cpos:Pos}{td ty tx:TE}
end
def Itk(o:Obj)(kvs:List (Key×V))(d:Addr):It :=
 ⟨fun i H=>H d=some (.frz o (.dK kvs))/\i<kvs.length,fun i H v H'=>∃ k y,kvs[i]?=some (k,y)/\v=kV k/\H'=H,fun i H=>H d=some (.frz o (.dK kvs))/\kvs.length<=i⟩
theorem Cc{P:Program}{w:World}{H:Hp}{h:Heap}{o:Obj}{kvs:List (Key×V)}{d:Addr}{es:Array DictEntry}{ep:Nat}(x:bA P w H h d (.frz o (.dK kvs)))(he:o.data=.dict es ep):(d == sysModules)=false/\∃ vs,KV kvs vs/\h.DictAt (bO P w) d vs ep:=by
 obtain⟨g1,hz,lo,vs,rk,o',es',ep',h1,h2,h3,r⟩:=x
 rw[g1]at h1
 cases h1
 rw[he]at h3
 cases h3
 exact⟨lo,vs,rk,o,es,g1,h2,he,r⟩
theorem AJ{P:Program}{w:World}{K:Fw}{tg:Expr}(o:Obj)(kvs:List (Key×V))(d it:Addr)(es:Array DictEntry)(ep:Nat)(he:o.data=.dict es ep):Turn P w K tg (Itk o kvs d) [it] it (fun i h=>h.IsKeyIter it d i kvs.length ep) where
 mem:=by simp
 obj:=fun i h st b hb=>by
  have e:b=it:=by simpa using hb
  subst e
  obtain⟨o,e,c,d⟩:=st
  exact⟨o,e,fun v z=>by rw[d]at z;cases z⟩
 keep:=fun i h h' st k=>by
  obtain⟨o,e,r⟩:=st
  exact⟨o,k it (by simp) o e,r⟩
 item:=by
  intro X hP hw hK hc i pins s σ H E I hf st hg
  subst hP hw hK
  obtain⟨hd,hi⟩:=hg
  obtain⟨lo,vs,rk,hat⟩:=Cc (I.hok d _ hd) he
  have hl:kvs.length=vs.length:=Paired.length rk
  obtain⟨f0,f1,f2,f3,f4,f5⟩:=hf it (by simp)
  obtain⟨⟨k,v⟩,hv⟩:∃ q,vs[i]?=some q:=⟨_,Fu (by omega)⟩
  obtain⟨⟨k',y⟩,hy,ek,ry⟩:=mE rk hv
  have ek':k'=k:=ek
  subst ek'
  refine wpAny_pyNext_dict_item (hl▸st) hat hv fun key h' hk st' sb=>?_
  have I1:Inv X pins σ H { s with heap:=h' }:=I.turned (t':=s.toks) (fun b o hb e=>(sb.2 b hb).trans e) f0 f1 f3 f4 f5
  obtain⟨o2,e,c,dd⟩:=id st'
  refine⟨key,rfl,Dz (s:={ s with heap:=h' }) e c dd (by decide) ⟨kV k',H,I1,?_,⟨k',y,hy,rfl,rfl⟩,hl.symm▸st',fun b hb=>(hf b hb).1⟩⟩
  rcases aZ (show um k' key=true from hk) with⟨j,t,rfl,rfl⟩ | ⟨z,t,rfl,rfl⟩
  ·exact⟨t,rfl⟩
  ·exact⟨t,rfl⟩
 done:=by
  intro X hP hw hK hc i pins s σ H E I hf st hg
  subst hP hw hK
  obtain⟨hd,hi⟩:=hg
  obtain⟨lo,vs,rk,hat⟩:=Cc (I.hok d _ hd) he
  have hl:kvs.length=vs.length:=Paired.length rk
  obtain⟨f0,f1,f2,f3,f4,f5⟩:=hf it (by simp)
  exact wpAny_pyNext_dict_end (I.ok.hd hc) (hl▸st) hat (Ho (by omega)) fun h' eb=>⟨rfl,I.turned (t':=s.toks) (fun b o hb e=>eb b o hb e) f0 f1 f3 f4 f5⟩
 self:=fun _ _ s Q _ st h=>by
  have hT:s.TypeIs (.ref it) "dict_keyiterator":=st.typeIs
  refine wpAny_pyIter_slot hT F.slot_dict_keyiterator_iter (wpAny_call_entry F.slot_dict_keyiterator_iter hT F.entry_dict_keyiterator_iter ?_ (F.args_dict_keyiterator_iter_1 _))
  show wpAny _ _ (ret (.ref it)) _ _ s
  exact wpAny_pure ⟨_,rfl,"dict_keyiterator",_,hT,F.slot_dict_keyiterator_next.lookup,h⟩
section
variable{X:Cx}
def iKeys(te:TE):TI:=fun σ H R=>te σ H fun x H1=>∃ d kvs,x=.ref d/\H1 d=some (.dK kvs)/\∀ o,R (Itk o kvs d) (upd H1 d (.frz o (.dK kvs)))
theorem EE{e:Expr}{te:TE}{tg:Expr}(he:PE X e te):PI X tg e (iKeys te):=by
 intro pins s σ H R I h
 refine thn (he pins s σ H _ I h) fun v s1 ⟨x,H1,I1,r1,q1⟩=>?_
 obtain⟨d,kvs,rfl,hd,q⟩:=q1
 cases r1
 obtain⟨_,ents,ep,hm,sz,_⟩:=ent_of (u:=.dK kvs) True.intro (I1.hok d _ hd)
 obtain⟨o,q1,q2,q3⟩:=id hm
 have I2:=I1.freeze hd True.intro q1
 obtain⟨lo,vs,rk,hat⟩:=Cc (I2.hok d _ af) q3
 have hl:kvs.length=vs.length:=Paired.length rk
 refine wpAny_pyIter_dict lo hat ?_
 refine⟨s1.heap.objs.size,[s1.heap.objs.size],_,_,upd H1 d (.frz o (.dK kvs)),rfl,I2.kept (t':=s1.toks) fun b u e=>Heap.get?_push_of_some _ e,AJ o kvs d _ ents ep q3,⟨_,Heap.get?_push_size _ rfl,rfl,by rw[hl];rfl⟩,fun b hb=>?_,q o⟩
 rw[GB.mp hb]
 exact I2.fpOk (FD _) (I2.hok.fresh (FD _))
end
section
variable{prog:Program}{w:World}{A:Around}{E:Value->Shared->Prop}{s:Shared}{T:String}{r d:Addr}{n:Nat}{P:Nat->Value->Prop}{OK:Heap->Prop}
end
section
variable{X:Cx}
end
section
variable{prog:Program}{w:World}{A:Around}{E:Value->Shared->Prop}{s:Shared}
end
section
variable{X:Cx}
end
end L2
namespace L2
open PySem PySem.Spec PyProof.Rows PySem.Calls Builtin Builtin.ObjectAttr Builtin.Getset_descriptor
def iR(x D:Addr)(h:Heap):Prop:=∃ o,h.get? x=some o/\o.cls=.ref D
theorem iR.type{x D:Addr}{h:Heap}(M:Model)(I:iR x D h):HE M h (typeOf (.ref x)) (.ref D):=by
 obtain⟨o,a,b⟩:=I
 exact b▸(PySem.W.Looks.ld a).andThen .now
structure ErC(K:Fw)(D:Addr):Prop where
 ga:FJ K (.ref D) "__getattribute__" = some (some (.builtin "BaseException.__getattribute__"))
 gt:FJ K (.ref D) "__getattr__" = some none
 hb:GX K D (.type "BaseException")=some true
 hd:GD K D=true
 ha:FJ K (.ref D) "__class__" = some (some (.builtin "object.__class__"))
 hn:Ii K (.builtin "object.__class__") "__get__" = some (some (.builtin "getset_descriptor.__get__"))
 tk:Ip K (.builtin "object.__class__")=some true
 hm:GX K D (.type "object")=some true
section
variable{prog:Program}{w:World}{A:Around}{E:Value->Shared->Prop}{s:Shared}{K:Fw}{x D:Addr}
theorem E7{M:Model}{h:Heap}(X:K.In h)(e:ErC K D):HE M h (find (.ref x) (.ref D) "__class__") (.bind (.builtin "getset_descriptor.__get__") (.builtin "object.__class__")):=by
 have L1:=GG (M:=M) X e.ha
 have L2:=PySem.W.looks_specialIn (M:=M) X e.hn
 have L3:=PySem.W.looks_takesIn (M:=M) X e.tk
 refine L1.andThen (L2.andThen ?_)
 exact(show HE M h (dataDescriptor? (some (.builtin "object.__class__")) (some (.builtin "getset_descriptor.__get__"))) (some (.builtin "getset_descriptor.__get__",.builtin "object.__class__")) from L3.andThen .now).andThen (PySem.W.Looks.tag .now)
theorem kd_get{R:Except Value Flow->Shared->Prop}{tp:Value}(X:K.In s.heap)(I:iR x D s.heap)(e:ErC K D)
  (h:R (.ok (.ret (.ref D))) s):codeAny (model prog w) A (.call (.builtin "getset_descriptor.__get__") ⟨[.builtin "object.__class__",.ref x,tp],[]⟩) R s:=by
 obtain⟨hh,g,dr,t,os⟩:=s
 have L0:=I.type (model prog w)
 have L1:=HV (M:=model prog w) X e.hm
 refine codeAny_call_builtin PySem.W.KF.slot_gs.plain PySem.W.KF.entry_gs (PySem.W.KF.slot_gs.check _ _ _ _ _ _ _ _ PySem.W.KF.type_class (PySem.W.KF.args_gs _ _ _) ?_)
 unfold Builtin.«getset_descriptor.__get__» descrGet
 rw[PySem.W.dga_obj]
 refine wpAny_bind (wpAny_pure ?_)
 unfold descrGetter descrCheckInstance descrNameAndClass isInstance
 simp only[PySem.W.KF.owner_class]
 repeat lk
 refine⟨Code.quiet_builtin _ (by decide +kernel),codeAny_builtin PySem.W.KF.entry_class ?_⟩
 unfold Builtin.«object.__class__» shownTypeOf
 repeat lk
 exact h
theorem yN{M:Model}{nameV:Value}{Q:Unit->Shared->Prop}(X:K.In s.heap)(I:iR x D s.heap)(e:ErC K D)(hq:Q () s):wpAny M A (checkBuiltinCall "BaseException.__getattribute__" ⟨[.ref x,nameV],[]⟩) Q E s:=by
 obtain⟨hh,g,d,t,os⟩:=s
 have hk:builtinKind "BaseException.__getattribute__" = some .slot:=by decide +kernel
 have hsplit:splitId "BaseException.__getattribute__" = some ("BaseException","__getattribute__"):=by decide +kernel
 have ha:=F.args_bexc_ga (.ref x) nameV
 have L0:=I.type M
 have L1:=HV (M:=M) X e.hb
 have LI:HE M hh (isInstance (.ref x) (.type "BaseException")) true:=L0.andThen L1
 simp only[checkBuiltinCall,hk,hsplit]
 refine wpAny_bind (LI.at ?_)
 repeat (first | assumption | wp_step)
theorem Du{tk:Tok}{Q:Fin->Shared->Prop}(X:K.In s.heap)(I:iR x D s.heap)(e:ErC K D)(h:Q (.done (.ret (.ref D))) s):wpAny (model prog w) A (Builtin.«object.__getattribute__» ⟨[.ref x,.str "__class__" tk],[]⟩) Q E s:=by
 obtain⟨hh,g,d,t,os⟩:=s
 have L0:=I.type (model prog w)
 have L2:=E7 (x:=x) (M:=model prog w) X e
 unfold Builtin.«object.__getattribute__»
 repeat (first | assumption | with_reducible refine L0.at ?_ | with_reducible refine L2.at ?_ | with_reducible refine wpAny_call (kd_get (K:=K) X I e ?_) | wp_step)
theorem Dv{Q:Option Value->Shared->Prop}(X:K.In s.heap)(I:iR x D s.heap)(e:ErC K D)(h:Q (some (.ref D)) { s with toks:=s.toks+1 }):wpAny (model prog w) A (getAttr? (.ref x) "__class__") Q E s:=by
 obtain⟨hh,g,d,t,os⟩:=s
 have L0:=I.type (model prog w)
 have L1:=GG (M:=model prog w) X e.ga
 have L3:=GG (M:=model prog w) X e.gt
 have f3:=F.excAttr_ValueError.ga.bind (.ref x)
 unfold getAttr? getAttrBy? getAttrBy
 refine wpAny_bind (wpAny_mkText (wpAny_bind (wpAny_attempt (wpAny_holding (wpAny_bind (L0.at (wpAny_bind (L1.at ?_))))))))
 show wpAny _ _ (getAttrByItsOwn _ _ _ _ _ _) _ _ _
 unfold getAttrByItsOwn
 refine wpAny_bind (show wpAny _ _ (typeLookup _ _) _ _ _ from L3.at ?_)
 refine wpAny_bind (wpAny_attempt (wpAny_holding ?_))
 show wpAny _ _ (boundAndCalled _ _ _) _ _ _
 unfold boundAndCalled
 rw[f3]
 refine wpAny_bind (wpAny_pure ?_)
 refine wpAny_call (codeAny_call_builtin F.excAttr_ValueError.ga.plain F.entry_bexc_ga (yN (s:=⟨hh,g,d,t+1,os⟩) X I e (Du (s:=⟨hh,g,d,t+1,os⟩) X I e ?_)))
 exact wpAny_mono (PySem.W.handed_on rfl (Q:=fun v s'=>v=.ref D/\s'=⟨hh,g,d,t+1,os⟩) ⟨rfl,rfl⟩) (fun v s'' hv=>by obtain⟨rfl,rfl⟩:=hv;exact wpAny_pure h) (fun _ _ z=>z)
theorem yL(e:ErC K D):PySem.W.KitX K (.ref x) (.ref D) (iR x D) where
 ty:=fun M _ _ I=>I.type M
 it:=fun _ _ X _=>by
  obtain⟨cdD,hcD,_⟩:=HG e.hd
  unfold PySem.W.clsIn at hcD
  split at hcD
  ·rename_i c' d' cd' sl' ho
   intro A' Q' E' s' k q
   unfold isType loadHead
   exact wpAny_bind (wpAny_loadPart (k _ _ (X _ _ ho)) (wpAny_pure q))
  ·cases hcD
 ne:=fun h tp dd its n sl X htp=>by
  obtain⟨cdD,hcD,_⟩:=HG e.hd
  refine Bool.eq_false_iff.mpr fun q=>?_
  have e:D=tp:=Value.ref.inj (beq_iff_eq.mp q)
  subst e
  unfold PySem.W.clsIn at hcD
  split at hcD
  ·rename_i c' d' cd' sl' ho
   have z:=(X _ _ ho).symm.trans htp
   cases z
  ·cases hcD
 ca:=fun X I k=>Dv X I e k
end
end L2
namespace L2
open PySem PySem.Spec PyProof.Rows
structure DK(h h':Heap):Prop where
 le:h.objs.size<=h'.objs.size
 d:∀(e:Addr)(o':Obj),e<h.objs.size->h'.get? e=some o'->∃ o,h.get? e=some o/\o'.dict=o.dict
theorem DK.rfl'(h:Heap):DK h h:=⟨FD _,fun _ o' _ q=>⟨o',q,rfl⟩⟩
theorem DK.trans{a b c:Heap}(x:DK a b)(y:DK b c):DK a c:=⟨Gs x.le y.le,fun e o' he q=>by
 obtain⟨o1,q1,d1⟩:=y.d e o' (F2 he x.le) q
 obtain⟨o,q0,d0⟩:=x.d e o1 he q1
 exact⟨o,q0,d1.trans d0⟩⟩
theorem DK.upd{h:Heap}{a:Addr}{f:Obj->Obj}(ha:(h.get? a).isSome)(hf:∀ o,(f o).dict=o.dict):DK h (h.update a f):=by
 refine⟨Nat.le_of_eq (Heap.size_update ..).symm,fun e o' he q=>?_⟩
 by_cases z:a=e
 ·subst z
  obtain⟨o,q0⟩:=HC.mp ha
  obtain⟨q1,_⟩:=Heap.get?_some_iff.mp q
  obtain⟨q2,_⟩:=Heap.get?_some_iff.mp q0
  refine⟨o,q0,?_⟩
  cases h
  simp only[Heap.update,Array.getElem?_modify,if_true]at q1
  simp only at q2
  rw[q2]at q1
  cases q1
  exact hf o
 ·rw[Heap.get?_update_other _ _ z]at q
  exact⟨o',q,rfl⟩
theorem DK.psh(h:Heap)(o:Obj):DK h (h.push o):=by
 refine⟨by rw[Heap.size_push];exact G4 _,fun e o' he q=>?_⟩
 rw[Heap.get?_push_ne _ _ _ (F4 he)]at q
 exact⟨o',q,rfl⟩
def aK{α:Type}:Sem α->Prop
 |.pure _=>True
 |.raise _=>True
 |.unsupported _=>True
 |.finish _=>True
 |.rule _ k=>aK (k ())
 |.at _ k=>aK (k ())
 |.load _ _ k=>∀ o,aK (k o)
 |.update _ _ f k=>(∀ o,(f o).dict=o.dict)/\aK (k ())
 |.alloc _ k=>∀ a,aK (k a)
 |.loadIfAlive _ k=>∀ o,aK (k o)
 |.point _ k=>aK (k ())
 |.register _ _=>True
 |.fresh k=>∀ t,aK (k t)
 |.ask k=>∀ t,aK (k t)
 |.choose _ _ k=>∀ t,aK (k t)
 |.os _ _ k=>∀ t,aK (k t)
 |.call _ _ _ _ _=>False
 |.handled _ k=>∀ t,aK (k t)
 |.newGen _ k=>∀ t,aK (k t)
 |.genState _ k=>∀ t,aK (k t)
 |.resume _ _ _ _=>False
 |.yield _ _ _ _=>True
 |.stack k=>∀ t,aK (k t)
 |.fork _ _=>True
 |.thread k=>∀ t,aK (k t)
 |.await _ _ _ _ _=>True
theorem aK.bind{α β:Type}{m:Sem α}{f:α->Sem β}(hm:aK m)(hf:∀ a,aK (f a)):aK (m >>= f):=by
 show aK (m.bind f)
 induction m with
 |pure a=>exact hf a
 |raise e=>exact True.intro
 |unsupported w=>exact True.intro
 |finish e=>exact True.intro
 |rule t k ih=>exact ih () hm
 | «at» p k ih=>exact ih () hm
 |load a p k ih=>exact fun o=>ih o (hm o)
 |update a p g k ih=>exact⟨hm.1,ih () hm.2⟩
 |alloc o k ih=>exact fun a=>ih a (hm a)
 |loadIfAlive a k ih=>exact fun o=>ih o (hm o)
 |point l k ih=>exact ih () hm
 |register a k ih=>exact True.intro
 |fresh k ih=>exact fun o=>ih o (hm o)
 |ask k ih=>exact fun o=>ih o (hm o)
 |choose s n k ih=>exact fun o=>ih o (hm o)
 |os q l k ih=>exact fun o=>ih o (hm o)
 |call c h g l k ih=>exact hm.elim
 |handled o k ih=>exact fun o=>ih o (hm o)
 |newGen c k ih=>exact fun o=>ih o (hm o)
 |genState g k ih=>exact fun o=>ih o (hm o)
 |resume g r l k ih=>exact hm.elim
 |yield v g l k ih=>exact True.intro
 |stack k ih=>exact fun o=>ih o (hm o)
 |fork c k ih=>exact True.intro
 |thread k ih=>exact fun o=>ih o (hm o)
 |await a t d l k ih=>exact True.intro
theorem DD{α:Type}{M:Model}{Γ:PySem.Ctx}(m:Sem α)(hm:aK m)(Q:α->Pos->Shared->Prop)(E:Value->Pos->Shared->Prop)(p:Pos)(s:Shared)(h:Sem.wp M Γ m Q E p s) :
  Sem.wp M Γ m (fun a p' s'=>Q a p' s'/\DK s.heap s'.heap) (fun e p' s'=>E e p' s'/\DK s.heap s'.heap) p s:=by
 have go:∀{m:Sem α}{p:Pos}{s s1:Shared},DK s.heap s1.heap->Sem.wp M Γ m (fun a p' s'=>Q a p' s'/\DK s1.heap s'.heap) (fun e p' s'=>E e p' s'/\DK s1.heap s'.heap) p s1->Sem.wp M Γ m (fun a p' s'=>Q a p' s'/\DK s.heap s'.heap) (fun e p' s'=>E e p' s'/\DK s.heap s'.heap) p s1 :=
  fun{m p s s1} d z=>Sem.wp_mono M Γ m (fun a p' s' q=>⟨q.1,d.trans q.2⟩) (fun a p' s' q=>⟨q.1,d.trans q.2⟩) p s1 z
 induction m generalizing p s with
 |pure a=>rw[Sem.wp]at h ⊢;exact⟨h,DK.rfl' _⟩
 |raise e=>rw[Sem.wp]at h ⊢;exact⟨h,DK.rfl' _⟩
 |unsupported w=>rw[Sem.wp]at h;exact h.elim
 |finish e=>rw[Sem.wp]at h;exact h.elim
 |rule t k ih=>rw[Sem.wp]at h ⊢;exact ih () hm p s h
 | «at» p' k ih=>rw[Sem.wp]at h ⊢;exact ih () hm p' s h
 |load a pt k ih=>rw[Sem.wp]at h ⊢;obtain⟨o,e,h⟩:=h;exact⟨o,e,ih o (hm o) p s h⟩
 |update a pt g k ih=>rw[Sem.wp]at h ⊢;exact⟨h.1,go (DK.upd h.1 hm.1) (ih () hm.2 p _ h.2)⟩
 |alloc o k ih=>rw[Sem.wp]at h ⊢;exact go (DK.psh _ _) (ih _ (hm _) p _ h)
 |loadIfAlive a k ih=>rw[Sem.wp]at h ⊢;exact ih _ (hm _) p s h
 |point l k ih=>rw[Sem.wp]at h ⊢;exact ih () hm p s h
 |register a k ih=>rw[Sem.wp]at h;exact h.elim
 |fresh k ih=>rw[Sem.wp]at h ⊢;exact ih _ (hm _) p _ h
 |ask k ih=>rw[Sem.wp]at h ⊢;exact ih _ (hm _) p s h
 |choose sr n k ih=>rw[Sem.wp]at h ⊢;exact⟨h.1,ih _ (hm _) p _ h.2⟩
 |os q l k ih=>rw[Sem.wp]at h ⊢;exact ih _ (hm _) p _ h
 |call c hh g l k ih=>exact hm.elim
 |handled o k ih=>rw[Sem.wp]at h ⊢;exact ih _ (hm _) p s h
 |newGen c k ih=>rw[Sem.wp]at h ⊢;exact ih _ (hm _) p _ h
 |genState g k ih=>rw[Sem.wp]at h ⊢;obtain⟨o,e,h⟩:=h;exact⟨o,e,ih _ (hm _) p s h⟩
 |resume g r l k ih=>exact hm.elim
 |yield v g l k ih=>rw[Sem.wp]at h;exact h.elim
 |stack k ih=>rw[Sem.wp]at h ⊢;exact ih _ (hm _) p s h
 |fork c k ih=>rw[Sem.wp]at h;exact h.elim
 |thread k ih=>rw[Sem.wp]at h ⊢;exact ih _ (hm _) p s h
 |await a t d l k ih=>rw[Sem.wp]at h;exact h.elim
theorem mw{α:Type}{M:Model}{A:Around}{m:Sem α}(hm:aK m){Q:α->Shared->Prop}{E:Value->Shared->Prop}{s:Shared}(h:wpAny M A m Q E s):wpAny M A m (fun a s'=>Q a s'/\DK s.heap s'.heap) (fun e s'=>E e s'/\DK s.heap s'.heap) s :=
 fun Γ p hΓ=>DD m hm _ _ p s (h Γ p hΓ)
theorem aV{α:Type}(a:α):aK (pure a:Sem α):=True.intro
theorem uD{α:Type}(w:String):aK (PySem.unsupported w:Sem α):=True.intro
theorem cz{α:Type}{c:Prop} [Decidable c] {a b:Sem α} (ha:aK a) (hb:aK b):aK (if c then a else b):=by split<;>assumption
theorem kH(a:Addr):aK (load a):=fun _=>True.intro
theorem jf:aK stack:=fun _=>True.intro
theorem oV(v:Value):aK (fieldsOf v):=by
 unfold fieldsOf
 cases v with
 |ref a =>
  refine aK.bind (kH a) fun o=>?_
  cases o.data<;>exact True.intro
 |_=>exact True.intro
theorem gh(v:Value)(i:Nat):aK (field v i):=by
 unfold field
 refine aK.bind (oV v) fun vs=>?_
 cases vs[i]?<;>exact True.intro
theorem eX(v:Value)(i:Nat)(x:Value):aK (setField v i x):=by
 unfold setField
 cases v with
 |ref a =>
  show aK (updateField a i x)
  unfold updateField
  refine aK.bind (kH a) fun o=>?_
  cases o.data with
  |fields vs =>
   refine cz ?_ (uD _)
   refine⟨fun o=>?_,True.intro⟩
   unfold Obj.mapFields
   split<;>rfl
  |_=>exact True.intro
 |_=>exact True.intro
theorem dN(e:Value)(f:Option Addr):aK (setFlight e f):=by
 unfold setFlight
 refine aK.bind (gh e 1) fun tb=>?_
 exact cz (eX _ _ _) (aV _)
theorem nE:∀ l:List Env,aK (readyFrames l)
 |[]=>True.intro
 |env::outer=>by
  unfold readyFrames
  cases env.frame with
  |none=>exact True.intro
  |some f =>
   refine aK.bind (kH f) fun o=>?_
   refine cz (aV _) ?_
   refine aK.bind ?_ fun i=>aK.bind ?_ fun b=>aK.bind ⟨fun o=>rfl,True.intro⟩ fun _=>nE outer
   ·unfold behindIsImport
    refine cz (aV _) (cz (aV _) (aK.bind (gh _ _) fun _=>aV _))
   ·unfold keptBack
    cases outer with
    |nil=>exact cz (aV _) (aK.bind (by unfold underTheClaimsCaller;exact aK.bind jf fun _=>aV _) fun _=>aV _)
    |cons c r=>exact aV _
theorem rD(env:Env):aK (II env):=by
 unfold II frameObject frameEnvs
 refine aK.bind (aK.bind jf fun _=>aV _) fun l=>aK.bind ?_ fun o=>?_
 ·cases (l.dropWhile fun x=>x.frame != env.frame) with
  |nil=>exact aV _
  |cons e r=>exact aK.bind (nE _) fun _=>aV _
 ·cases o<;>exact True.intro
theorem xH(f:Addr)(b:Bool):aK (entryPlaceOf f b):=by
 unfold entryPlaceOf
 refine aK.bind jf fun acts=>?_
 split<;>exact True.intro
theorem gU(e:Value)(env:Env):aK (noteFrame e env):=by
 unfold noteFrame
 cases env.frame with
 |none=>exact True.intro
 |some f =>
  refine aK.bind (gh _ _) fun head=>?_
  have last:aK (do
    let a ← II env
    let pl ← entryPlaceOf f (head != .none)
    let b ← EntryCells.newEntry head a .none (rawInt f) .none pl
    setField e 1 b):=by
   refine aK.bind (rD env) fun a=>aK.bind (xH _ _) fun pl=>aK.bind ?_ fun b=>eX _ _ _
   unfold EntryCells.newEntry newFields newObj
   dsimp only
   have nw:∀ d:Data,aK (newObjAsIs (.type "traceback") d):=fun d=>aK.bind (fun _=>True.intro) fun _=>aV _
   exact cz (aK.bind (uD _) fun _=>nw _) (nw _)
  refine cz (aK.bind (gh _ _) fun z=>cz (aV _) (aK.bind (eX _ _ _) fun _=>last)) last
theorem rC(env:Env)(e:Value):aK (leaving env e):=aK.bind (gU e env) fun _=>dN e none
end L2
namespace L2
open PySem PySem.Spec PyProof.Rows
def Xd(h:Heap)(x:Addr)(d:Option Addr):Prop:=∃ oe,h.get? x=some oe/\oe.dict=d
theorem Xd.dk{h h':Heap}{x:Addr}{d:Option Addr}(z:Xd h x d)(k:DK h h')(ex:∃ o,h'.get? x=some o):Xd h' x d:=by
 obtain⟨oe,e,hd⟩:=z
 obtain⟨o',e'⟩:=ex
 obtain⟨o,e2,d2⟩:=k.d x o' (Heap.lt_size e) e'
 rw[e]at e2
 cases e2
 exact⟨o',e',d2.trans hd⟩
theorem Trc.there{h:Heap}{x T:Addr}{C:Value}(t:Trc h x C T):∃ o,h.get? x=some o:=by
 obtain⟨oe,_,_,_,_,he,_⟩:=t
 exact⟨oe,he⟩
def CXd(P:Program)(w:World):CXT:=fun outer H s E e s'=>∃(x:Addr)(C:Value)(T:Addr)(H':Hp)(d:Option Addr),e=.ref x/\s'.os=s.os/\AllBare s'.gens/\Un (frs outer) [] H H' s.heap s'.heap/\HOk P w H' s'.heap /\
 s.heap.get? x=none/\s.heap.get? T=none/\H' x=none/\H' T=none/\Trc s'.heap x C T/\Xd s'.heap x d/\E C d H'
abbrev WKD:=Value->Option Addr->St->Hp->Prop
def WshD(X:Cx)(W:WKD):Prop:=∀(pins:List (Addr×Obj))(σ:St)(H:Hp)(s:Shared)(x:Addr)(C:Value)(d:Option Addr),Inv X pins σ H s->XA X pins H s x C->Xd s.heap x d->W C d σ H->X.xe (.ref x) s
theorem AG{P:Program}{w:World}{K:Fw}{mg:Str->Option Value}{base:Heap}{N:List Str}{qual:Str}{scope:Scope}{f:Addr}{cd:Value}{A:Around}{outer:List Env}{s₀:Shared}{H₀:Hp}{E:XK} :
  WshD (cxOf (CXd P w) P w K mg base N qual scope f cd A outer s₀ H₀ E) (fun C d _ H=>E C d H):=fun pins σ H s x C d I xa z hE=>by
 show wpAny (model P w) (A.deeper (envOfC qual scope s₀.heap.objs.size f cd)) (leaving (envOfC qual scope s₀.heap.objs.size f cd) (.ref x)) _ _ s
 refine wpAny_mono (mw (rC _ _) (Inv.leave (Q:=fun _ s'=>∃ h' T,s'={ s with heap:=h' }/\Inv (cxOf (CXd P w) P w K mg base N qual scope f cd A outer s₀ H₀ E) pins σ H { s with heap:=h' }/\XOk (cxOf (CXd P w) P w K mg base N qual scope f cd A outer s₀ H₀ E) pins H x/\XOk (cxOf (CXd P w) P w K mg base N qual scope f cd A outer s₀ H₀ E) pins H T/\Trc h' x C T) (E:=fun _ _=>False) I rfl rfl rfl xa fun h' T I' x1 xT tr=>⟨h',T,rfl,I',x1,xT,tr⟩)) ?_ (fun _ _ q=>q.1.elim)
 rintro _ s' ⟨⟨h',T,rfl,I',x1,xT,tr⟩,dk⟩
 exact⟨x,C,T,H,d,rfl,I'.os,I'.bare,I'.base,I'.hok,x1.old,xT.old,x1.trk,xT.trk,tr,z.dk dk tr.there,hE⟩
structure CalD(P:Program)(w:World)(K:Fw)(mg:Str->Option Value)(base:Heap)(k:Nat)(x:Str)(ps:List Str)(sp:Sp)(f:Addr)(fd:FuncData):Prop where
 ok:FnOk P w K mg base (CXd P w) k f fd ps sp
 bn:gz K fd ps []
 mg:mg x=some (.ref f)
 kp:FH K (.ref f)=true
theorem Fun.okD{P:Program}{w:World}{K:Fw}{mg:Str->Option Value}{base:Heap}{x qual:Str}{st:Stmt}{f:Addr}{fd:FuncData}{N ps:List Str}{k:Nat}{sp:Sp}(F:Fun K x qual st f fd)(S:aD N ps (ai st))(len:∀ vs H Q E,sp vs H Q E->vs.length=ps.length)
  (hbody:∀(cdv:Value)(A:Around)(outer:List Env)(s:Shared)(H:Hp)(vs:List V)(Q:VK)(E:XK),Room k (A.deeper (envOfC qual (ai st) s.heap.objs.size f cdv))->sp vs H Q E ->
   ∃ t,PSs (cxOf (CXd P w) P w K mg base N qual (ai st) f cdv A outer s H E) (az st) t/\t { nx:=fun _ H'=>Q .non H',rt:=Q } (pU N vs) H):FnOk P w K mg base (CXd P w) (k+1) f fd ps sp:=by
 obtain⟨oc,od,kV,doc,pm,an,cdv,ct,osl,rfl,lk,hcd⟩:=F.ex
 exact fn_of lk hcd S len fun A outer s H vs Q E hr hsp=>hbody cdv A outer s H vs Q E hr hsp
section
variable{X:Cx}{k:Nat}{f C:Addr}{fd:FuncData}{ps:List Str}{sp:Sp}{dvs:List V}{ds:List Value}{W:WKD}{x m:Str}{p pos apos:Pos}{e o:Expr}{es:List Expr}{ta:TE}{t:TA}
theorem WshD.of{pins:List (Addr×Obj)}{σ:St}{H:Hp}{s s':Shared}{v:Value}(ws:WshD X W)(hx:X.ex = [])(I:Inv X pins σ H s)(h:CXd X.prog X.w X.stack H s (fun C d H'=>W C d σ H') v s'):X.xe v s':=by
 obtain⟨x,C,T,H',d,rfl,os,bare,un,hok,nx,nT,tx,tT,tr,z,q⟩:=h
 have I':Inv X pins σ H' s':=I.call' os un hok bare fun b z=>absurd z (by simp)
 exact ws pins σ H' s' x C d I' ⟨I.xok hx nx tx,.inr ⟨T,I.xok hx nT tT,tr⟩⟩ z q
theorem Ex{pins:List (Addr×Obj)}{σ:St}{H:Hp}{s:Shared}{Q:VK}{us:List Value}{vs:List V}(F:FnOk X.prog X.w X.K X.mg X.base (CXd X.prog X.w) k f fd ps sp)(hr:Room k X.A)(hb:gz X.K fd ps ds)(hd:Vals dvs ds)(ws:WshD X W)(hx:X.ex = [])
  (I:Inv X pins σ H s) (r:Vals vs us) (h:sp (vs++dvs) H Q (fun C d H'=>W C d σ H')):wpAny (model X.prog X.w) X.A (call (.ref f) us) (EP X pins σ Q) X.xe s:=by
 have r2:Vals (vs++dvs) (us++ds):=r.append hd
 have hl:(us++ds).length=ps.length:=by rw[← r2.length];exact F.len _ _ _ _ h
 refine wpAny_call (codeAny_mono (F.run X.A X.stack s H ⟨us,[]⟩ (us++ds) (vs++dvs) Q _ hr I.env0 (hb s us I.kIn hl) r2 h) fun r s' hq=>?_)
 cases r with
 |error e=>exact ws.of hx I hq
 |ok fl =>
  cases fl with
  |ret u=>exact I.after hq
  |next=>exact False.elim hq
  |brk=>exact False.elim hq
  |cont=>exact False.elim hq
def DO(sp:Sp)(dvs:List V)(W:WKD)(t:TA):TE:=fun σ H Q=>t σ H fun vs H1=>sp (vs++dvs) H1 Q fun C d H'=>W C d σ H'
theorem C5(F:FnOk X.prog X.w X.K X.mg X.base (CXd X.prog X.w) k f fd ps sp)(hr:Room k X.A)(hg:Gl X x)(hm:X.mg x=some (.ref f))(hk:FH X.K (.ref f)=true)(hb:gz X.K fd ps ds)(hd:Vals dvs ds)(ws:WshD X W)(hx:X.ex = [])
  (ha:PA X (e::es) t) (hdb:(x == ("__debug__" : Str))=false:=by decide) (he:starEach (e::es) X.env=(false,eval e X.env)::starEach es X.env:=by rfl) (hpl:(backTo pos (starEach es X.env)).any (·.1)=false:=by rfl) :
  PE X (.Call (.Name x p) (e::es) [] pos) (DO sp dvs W t):=by
 intro pins s σ H Q I h
 refine wpAny_Call_Name_kw (ko I hg hm ?_ hdb)
 refine He (h₀:=X.base) I.ok.mod.kin hk (thn (ha pos pins s σ H _ I h) fun us s1 ⟨vs,H1,I1,r,q⟩=>⟨I1.kIn,?_⟩) he hpl
 exact Ex F hr hb hd ws hx I1 r q
end
def WshTD(X:Cx)(W:WKD):Prop:=∀(pins:List (Addr×Obj))(σ:St)(H:Hp)(s:Shared)(x T:Addr)(C:Value)(d:Option Addr),Inv X pins σ H s->XOk X pins H x->XOk X pins H T->Trc s.heap x C T->Xd s.heap x d->W C d σ H->X.xe (.ref x) s
section
variable{X:Cx}{k:Nat}{f:Addr}{fd:FuncData}{ps:List Str}{sp:Sp}{dvs:List V}{ds:List Value}{W:WKD}{x:Str}{p pos:Pos}{e:Expr}{es:List Expr}{t:TA}
theorem Bk(F:FnOk X.prog X.w X.K X.mg X.base (CXd X.prog X.w) k f fd ps sp)(hr:Room k X.A)(hg:Gl X x)(hm:X.mg x=some (.ref f))(hk:FH X.K (.ref f)=true)(hb:gz X.K fd ps ds)(hd:Vals dvs ds)(ws:WshTD X W)(hx:X.ex = [])
  (ha:PA X (e::es) t) (hdb:(x == ("__debug__" : Str))=false:=by decide) (he:starEach (e::es) X.env=(false,eval e X.env)::starEach es X.env:=by rfl) (hpl:(backTo pos (starEach es X.env)).any (·.1)=false:=by rfl) :
  PE X (.Call (.Name x p) (e::es) [] pos) (DO sp dvs W t):=by
 intro pins s σ H Q I h
 refine wpAny_Call_Name_kw (ko I hg hm ?_ hdb)
 refine He (h₀:=X.base) I.ok.mod.kin hk (thn (ha pos pins s σ H _ I h) fun us s1 ⟨vs,H1,I1,r,q⟩=>⟨I1.kIn,?_⟩) he hpl
 have r2:Vals (vs++dvs) (us++ds):=r.append hd
 have hl:(us++ds).length=ps.length:=by rw[← r2.length];exact F.len _ _ _ _ q
 refine wpAny_call (codeAny_mono (F.run X.A X.stack s1 H1 ⟨us,[]⟩ (us++ds) (vs++dvs) Q _ hr I1.env0 (hb s1 us I1.kIn hl) r2 q) fun r s' hq=>?_)
 cases r with
 |error e =>
  obtain⟨x,C,T,H',d,rfl,os,bare,un,hok,nx,nT,tx,tT,tr,z,q'⟩:=hq
  have I':Inv X pins σ H' s':=I1.call' os un hok bare fun b z=>absurd z (by simp)
  exact ws pins σ H' s' x T C d I' (I1.xok hx nx tx) (I1.xok hx nT tT) tr z q'
 |ok fl =>
  cases fl with
  |ret u=>exact I1.after hq
  |next=>exact False.elim hq
  |brk=>exact False.elim hq
  |cont=>exact False.elim hq
end
section
variable{M:Model}{A:Around}{E:Value->Shared->Prop}{h:Heap}{g:Array GenState}{d:Drawn}{t:Nat}{os:OsState}
theorem Fi{C D:Addr}{nm2 qn2:Str}{N2:Addr}{bs2 bm2:List Value}{hdct2:Bool}{sn2:List Str}{sub2:List Value}{ab2:Bool}{col2:Option Bool}{dd2:Option Addr}{j0 j1 j2 j3 j5:Option Value}{id2:String}{x:Addr}{ob:Obj}{Q:Bool->Shared->Prop}
  (hD:h.get? D=some (excClassObj nm2 qn2 D N2 bs2 bm2 hdct2 sn2 sub2 ab2 col2 dd2 j0 j1 j2 j3 j5 id2)) (hob:h.get? x=some ob) (hcl:ob.cls=.ref C)
  (hDB:(Value.ref D::bm2).contains (.type "BaseException")=true) (lk:HE M h (isSubtype (.ref C) (.ref D)) true) (hq:Q true ⟨h,g,d,t,os⟩):wpAny M A (excMatches (.ref x) (.ref D)) Q E ⟨h,g,d,t,os⟩:=by
 have ntup:=tc_notTuple
 unfold excMatches
 repeat (first | (with_reducible refine wpAny_loadPart_at hob ?_;rw[hcl]) | with_reducible refine wpAny_loadPart_at hD ?_ | (with_reducible refine wpAny_isSubtype_exc hD ?_;rw[hDB]) | with_reducible refine lk.at ?_ | wp_step)
 exact hq
end
def excD(x C:Addr)(d:Option Addr):HO:=.ext fun h=>∃ o,h.get? x=some o/\o.cls=.ref C/\o.dict=d/\IB o=true
def Eg(ie:Nat)(Cs:Addr->Prop)(tb:WKD->TS)(ts:TS):TS:=fun Ds σ H=>tb (fun C d σ1 H1=>∃ c,C=.ref c/\Cs c/\∀ x,H1 x=none->ts { nx:=fun σ2 H2=>Ds.nx (σ2.set ie none) H2,rt:=fun _ _=>False } (σ1.set ie (some (.ref x))) (upd H1 x (excD x c d))) Ds σ H
end L2
namespace L2
open PySem PySem.Spec PyProof.Rows PySem.Calls Builtin Builtin.ObjectAttr
def pA(K:Fw)(C fI:Addr):Bool:=match K.lookup C with
 |some ⟨.type "type",_,.cls cd,sl⟩=>(match cd.mro,sl.toList with
  |.ref C'::bm,[_,_,_,_,some (.builtin n),_]=>C' == C&&n == "ValueError.__new__"&&!cd.hasDel&&PySem.W.tailIn K veM bm&&PySem.W.nsOkIn K cd.ns&&FL K cd.ns "__init__" == some (some (.ref fI))
  |_,_=>false)
 |_=>false
theorem zK{K:Fw}{h:Heap}{N:Addr}{mg:Str->Option Value}{n:Str}{v:Value}(X:K.In h)(G:h.Ns N mg)(e:FL K N n=some (some v)):mg n=some v:=by
 obtain⟨o,es,ep,ho,hd,_,hf⟩:=G
 unfold FL at e
 split at e
 ·rename_i c d es' n' sl q
  have:=X _ _ q
  rw[ho]at this
  cases this
  cases hd
  split at e
  ·rename_i en he
   cases e
   rw[← hf]
   unfold nsFind findBy
   rw[← Array.find?_toList,he]
   rfl
  ·split at e<;>cases e
 ·cases e
theorem mO{K:Fw}{C fI:Addr}{h:Heap}(e:pA K C fI=true)(X:K.In h):∃ bm N nm qn bs hdct sn sub ab col dd k0 k1 k2 k3 k5 mN,h.get? C=some (excClassObj nm qn C N bs bm hdct sn sub ab col dd k0 k1 k2 k3 k5 "ValueError.__new__")/\h.Ns N mN/\mN "__init__" = some (.ref fI)/\OwnTail h veM bm:=by
 have z:=e
 unfold pA at z
 split at z
 ·rename_i ddx cdx slx hobj
  split at z
  ·rename_i Cx bmx y0 y1 y2 y3 nx y5 hmro hslots
   have zz:=z
   simp only[G0,beq_iff_eq,Bool.not_eq_true']at zz
   obtain⟨⟨⟨⟨⟨eC,eN⟩,edel⟩,etail⟩,ens⟩,einit⟩:=zz
   subst eC
   subst eN
   obtain⟨l⟩:=slx
   have hl:l = [y0,y1,y2,y3,some (.builtin "ValueError.__new__"),y5]:=hslots
   subst hl
   obtain⟨nm,bs,mro,ns,qn,hd,sn,sub,ab,col,del⟩:=cdx
   have hmro':mro=.ref Cx::bmx:=hmro
   have hdel':del=false:=edel
   subst hmro' hdel'
   have N:=PySem.W.isNs_of_in X ens
   refine⟨bmx,ns,nm,qn,bs,hd,sn,sub,ab,col,ddx,y0,y1,y2,y3,y5,_,X _ _ hobj,.of_isNs N,?_,PySem.W.tail_of_in X etail⟩
   exact zK X (.of_isNs N) einit
  ·cases z
 ·cases z
section
variable{prog:Program}{w:World}{A:Around}{E:Value->Shared->Prop}{h:Heap}{g:Array GenState}{d:Drawn}{t:Nat}{os:OsState}
variable{nm q:Str}{C N:Addr}{bs bm bmB:List Value}{hdct:Bool}{sn:List Str}{sub:List Value}{ab:Bool}{col:Option Bool}{dd:Option Addr}{k0 k1 k2 k3 k5:Option Value}{B newId initId:String}
theorem oE(F:ExcBaseFacts B newId initId bmB)(T:OwnTail h bmB bm){mN:Str->Option Value}{rest:List Value}{fI:Addr}{oI:Obj}{Q:Fin->Shared->Prop}
  (hC:h.get? C=some (excClassObj nm q C N bs bm hdct sn sub ab col dd k0 k1 k2 k3 k5 newId)) (hn:h.Ns N mN) (hi:mN "__init__" = some (.ref fI))
  (hfI:h.get? fI=some oI) (hfc:oI.cls=.type "function")
  (hq:∀ h' e,Heap.MadeExcOf h h' e (.ref C) rest ->
   wpAny (model prog w) A (call (.ref fI) (.ref e::rest)) (fun r s'=>r=.none/\Q (.done (.ret (.ref e))) s') E ⟨h',g,d,t,os⟩) (hrest:rest.length<=sizeLine) :
  wpAny (model prog w) A (Builtin.«type.__call__» ⟨.ref C::rest,[]⟩) Q E ⟨h,g,d,t,os⟩:=by
 repeat (first | with_reducible refine wpAny_loadPart_at hC ?_ | with_reducible refine wpAny_madeBy_exc hC ?_ | wp_step)
 refine codeAny_call_builtin_code (Code.quiet_builtin _ F.quiet) (wpAny_check_new_subT F T hC ?_)
 refine codeAny_exc_new_subT F T hC ?_ hrest
 show wpAny _ _ _ _ _ _
 have hC₁:=Heap.get?_push_of_some { cls:=.ref C,data:=.fields #[.ref h.objs.size,.none,.none,.none,.bool false,.none] }
  (Heap.get?_push_of_some { cls:=.type "tuple",data:=.seq rest.toArray } hC)
 have hfI₁:=Heap.get?_push_of_some { cls:=.ref C,data:=.fields #[.ref h.objs.size,.none,.none,.none,.bool false,.none] }
  (Heap.get?_push_of_some { cls:=.type "tuple",data:=.seq rest.toArray } hfI)
 have hn₁:((h.push { cls:=.type "tuple",data:=.seq rest.toArray }).push { cls:=.ref C,data:=.fields #[.ref h.objs.size,.none,.none,.none,.bool false,.none] }).Ns N mN :=
  let ⟨o,es,ep,e,r⟩:=hn;⟨o,es,ep,Heap.get?_push_of_some _ (Heap.get?_push_of_some _ e),r⟩
 have hget:((h.push { cls:=.type "tuple",data:=.seq rest.toArray }).push
   { cls:=.ref C,data:=.fields #[.ref h.objs.size,.none,.none,.none,.bool false,.none] }).get? (h.objs.size+1)=some
   { cls:=.ref C,data:=.fields #[.ref h.objs.size,.none,.none,.none,.bool false,.none] }:=by heap_get
 have T₁:=T.keeps (h':=(h.push { cls:=.type "tuple",data:=.seq rest.toArray }).push { cls:=.ref C,data:=.fields #[.ref h.objs.size,.none,.none,.none,.bool false,.none] })
  fun b o e=>Heap.get?_push_of_some _ (Heap.get?_push_of_some _ e)
 have hcC:(Value.ref C::bm).contains (.ref C)=true:=by simp
 unfold isInstance
 repeat (first | with_reducible refine wpAny_loadPart_at hget ?_ | (with_reducible refine wpAny_isSubtype_exc hC₁ ?_;rw[hcC]) | wp_step)
 show wpAny _ _ (typeLookup (.ref C) _) _ _ _
 refine wpAny_typeLookup_tail hC₁ hn₁ T₁ F.mroIs F.init.lookup ?_
 rw[hi]
 refine wpAny_holding (wpAny_bind ?_)
 unfold bindSpecial
 refine wpAny_bind (wpAny_typeOf (T:="function") ⟨_,hfI₁,hfc⟩ ?_)
 rw[if_pos (by decide)]
 refine wpAny_pure (wpAny_bind (wpAny_mono (hq _ (h.objs.size+1) ⟨fun b o hb=>Heap.get?_push_of_some _ (Heap.get?_push_of_some _ hb),Heap.get?_none_of_le (G4 _),h.objs.size,hget,Heap.get?_none_of_le (FD _),?_⟩) (fun r s' hr=>?_) fun _ _ x=>x))
 ·exact Heap.get?_push_of_some _ (Heap.get?_push_at rfl rfl)
 ·obtain⟨rfl,hQ⟩:=hr
  wp_walk
  exact hQ
theorem Ap(F:ExcBaseFacts B newId initId bmB)(T:OwnTail h bmB bm){mN:Str->Option Value}{rest:List Value}{fI:Addr}{oI:Obj}{Q:Value->Shared->Prop}
  (hC:h.get? C=some (excClassObj nm q C N bs bm hdct sn sub ab col dd k0 k1 k2 k3 k5 newId)) (hn:h.Ns N mN) (hi:mN "__init__" = some (.ref fI))
  (hfI:h.get? fI=some oI) (hfc:oI.cls=.type "function")
  (hq:∀ h' e,Heap.MadeExcOf h h' e (.ref C) rest ->
   wpAny (model prog w) (A.under (.builtin "type.__call__" ⟨.ref C::rest,[]⟩)) (call (.ref fI) (.ref e::rest)) (fun r s'=>r=.none/\Q (.ref e) s') E ⟨h',g,d,t,os⟩) (hrest:rest.length<=sizeLine) :
  wpAny (model prog w) A (call (.ref C) rest) Q E ⟨h,g,d,t,os⟩:=by
 have f1:=tc_lookup
 have f2:=tc_bind (.ref C)
 have hT:(⟨h,g,d,t,os⟩:Shared).TypeIs (.ref C) "type":=⟨_,hC,rfl⟩
 refine wpAny_call (codeAny_of_tree ?_)
 show wpAny _ _ (callAny (.ref C) _) _ _ _
 repeat (any_goals (first | assumption | with_reducible refine wpAny_loadPart_at hC ?_ | wp_step))
 refine⟨rfl,?_⟩
 refine codeAny_call_builtin_at (Code.quiet_builtin _ (by decide +kernel)) entry_typeCall (wpAny_check_type_call_sub hC (oE F T hC hn hi hfI hfc (fun h' e hm=>?_) hrest))
 exact hq h' e hm
theorem ke{M:Model}{env:Env}{s:Shared}{x:Sem Value}{Q:Flow->Shared->Prop} (hbase:bm.contains (.type "BaseException")=true) (hh:A.handled=none)
  (h:wpAny M A x (fun v s₁=>∃ e oe,v=.ref e/\s₁.heap.get? C=some (excClassObj nm q C N bs bm hdct sn sub ab col dd k0 k1 k2 k3 k5 newId) /\
   s₁.heap.get? e=some oe/\oe.cls=.ref C/\(∃ vs,oe.data=.fields vs/\vs[1]?=some .none)/\E (.ref e) s₁) E s) :
  wpAny M A (raiseStmt env (some x) none) Q E s:=by
 have hcB:(Value.ref C::bm).contains (.type "BaseException")=true:=by rw[Ic,hbase,Bool.or_true]
 unfold raiseStmt
 refine wpAny_bind (wpAny_mono h (fun v s₁ h₁=>?_) fun _ _ x=>x)
 obtain⟨e,oe,rfl,hC,he,hcl,⟨vs,hdt,hv1⟩,hE⟩:=h₁
 obtain⟨hp,g,d,tk,os⟩:=s₁
 obtain⟨oc,odd,odt,osl⟩:=oe
 cases hcl
 cases hdt
 repeat (first | with_reducible refine wpAny_loadPart_at he ?_ | with_reducible refine wpAny_loadPart_at hC ?_ | (with_reducible refine wpAny_isSubtype_exc hC ?_;rw[hcB]) | wp_step)
 rw[hv1]
 refine wpAny_pure ?_
 rw[if_neg (by decide)]
 exact wpAny_pure (wpAny_raiseNew_none hh hE)
end
def excN(x C:Addr)(d:Option Addr):HO:=.ext fun h=>∃ o vs a0,h.get? x=some o/\o.cls=.ref C/\o.dict=d/\o.data=.fields vs/\vs[0]?=some a0/\vs[1]?=some .none
theorem Cd{P:Program}{w:World}{H:Hp}{h:Heap}{x C:Addr}{d:Option Addr}(e:∃ o vs a0,h.get? x=some o/\o.cls=.ref C/\o.dict=d/\o.data=.fields vs/\vs[0]?=some a0/\vs[1]?=some .none):bA P w H h x (excN x C d):=by
 refine⟨e,let ⟨o,_,_,q,_⟩:=e;⟨o,q⟩,fun h1 h2 ⟨o,vs,a0,q,r⟩ k=>⟨o,vs,a0,k o q,r⟩⟩
theorem vB{h:Heap}{tl:List Value}(T:OwnTail h veM tl)(self:Value):refuseLoop self "__setattr__" tl=pure ():=by
 induction T with
 |base=>exact PySem.F.store_ValueError.passes self
 |own _ _ _ _ ih=>rw[refuseLoop_ref,ih]
structure ErS(K:Fw)(C fI:Addr)(f:Str):Prop where
 ei:pA K C fI=true
 sa:FJ K (.ref C) "__setattr__" = some (some (.builtin "object.__setattr__"))
 na:FJ K (.ref C) f=some none
 hd:GD K C=true
section
variable{prog:Program}{w:World}{A:Around}{E:Value->Shared->Prop}{s:Shared}{K:Fw}{x C fI:Addr}{name:Str}{v:Value}
theorem zk{M:Model}{nameV:Value}{Q:Unit->Shared->Prop}(X:K.In s.heap)(I:iR x C s.heap)(e:pA K C fI=true)(hq:Q () s):wpAny M A (checkBuiltinCall "object.__setattr__" ⟨[.ref x,nameV,v],[]⟩) Q E s:=by
 obtain⟨hh,g,d,t,os⟩:=s
 obtain⟨bm,N,nm,qn,bs,hdct,sn,sub,ab,col,dd,k0,k1,k2,k3,k5,mN,hC,hN,hi,T⟩:=mO e X
 have SF:=IH
 have ha:=SF.args (.ref x) nameV v
 obtain⟨o,hx,hc⟩:=I
 have hcB:(Value.ref C::bm).contains (.type "object")=true:=by rw[Ic,T.hasType (X:="object") (b:=true) rfl,Bool.or_true]
 simp only[checkBuiltinCall,SF.kind,SF.split]
 refine wpAny_bind ?_
 ·unfold isInstance
  repeat (first | (with_reducible refine wpAny_loadPart_at hx ?_;rw[hc]) | (with_reducible refine wpAny_isSubtype_exc hC ?_;rw[hcB]) | wp_step)
  exact hq
theorem setE{Q:Unit->Shared->Prop}{o:Obj}(X:K.In s.heap)(hx:s.heap.get? x=some o)(hc:o.cls=.ref C)(hdn:o.dict=none)(hnc:∀ c,o.data≠.cls c)(e:ErS K C fI name)
  (hq:∀ h' tk',h'.get? x=some { o with dict:=some s.heap.objs.size }->h'.Ns1 s.heap.objs.size (fun y=>if y=name then some v else none)->(∀ b ob,b≠x->s.heap.get? b=some ob->h'.get? b=some ob)->Q () { s with heap:=h',toks:=tk' }) :
  wpAny (model prog w) A (setAttr (.ref x) name v) Q E s:=by
 obtain⟨h,g,d,t,os⟩:=s
 have I:iR x C h:=⟨o,hx,hc⟩
 obtain⟨bm,N,nm,qn,bs,hdct,sn,sub,ab,col,dd,k0,k1,k2,k3,k5,mN,hC,hN,hi,T⟩:=mO e.ei X
 have L0:=I.type (model prog w)
 have L1:=GG (M:=model prog w) X e.sa
 have L2:=GG (M:=model prog w) X e.na
 have SF:=IH
 have hpass:=vB T (.ref x)
 obtain⟨cd,hcl,hhd⟩:=HG e.hd
 have L3:=PySem.W.looks_clsIn (M:=model prog w) X hcl
 refine wpAny_bind (wpAny_mkText (wpAny_bind (wpAny_bind (wpAny_bind (L0 _ _ _ _ (fun _ _ e=>e) (L1 _ _ _ _ (fun _ _ e=>e) (wpAny_holding ?_)))))))
 rw[SF.slot.bind]
 refine wpAny_bind (wpAny_pure (wpAny_bind (wpAny_call (codeAny_call_builtin SF.slot.plain SF.entry (zk (s:=⟨h,g,d,t+1,os⟩) X I e.ei ?_)))))
 unfold Builtin.«object.__setattr__»
 repeat (first | rw[refuse_eq] | (rw[refuseLoop_ref,hpass]) | with_reducible refine L0.at ?_ | with_reducible refine wpAny_mroOf_exc hC ?_ | with_reducible refine L2.at ?_ | wp_step)
 obtain⟨oc,odd,odt,osl⟩:=o
 have hc':oc=.ref C:=hc
 have hdn':odd=none:=hdn
 subst hc' hdn'
 dsimp only
 refine wpAny_bind (L3.at ?_)
 rw[hhd]
 have hx₁:(h.push { cls:=.type "dict",data:=.dict #[] }).get? x=some ⟨.ref C,none,odt,osl⟩:=Heap.get?_push_of_some _ hx
 have hxs:x≠h.objs.size:=F4 (Heap.lt_size hx)
 rw[if_neg (by decide)]
 dsimp only
 rw[if_neg (by simp[typeHasDict])]
 have go:∀(Q':Option Addr->Shared->Prop)(E':Value->Shared->Prop),Q' (some h.objs.size) ⟨(h.push { cls:=.type "dict",data:=.dict #[] }).update x fun o=>{ cls:=o.cls,dict:=some h.objs.size,data:=o.data,slots:=o.slots },g,d,t+1,os⟩ ->
   wpAny (model prog w) A.in1 (do
    let d ← alloc { cls:=Value.type "dict",data:=Data.dict #[] }
    update x fun o=>{ cls:=o.cls,dict:=some d,data:=o.data,slots:=o.slots }
    dictMade (.ref C) x d) Q' E' ⟨h,g,d,t+1,os⟩:=fun Q' E' hq'=>wpAny_bind (wpAny_alloc' (wpAny_bind (wpAny_update' hx₁ (wpAny_pure hq'))))
 have hgd:((h.push { cls:=.type "dict",data:=.dict #[] }).update x fun o=>{ cls:=o.cls,dict:=some h.objs.size,data:=o.data,slots:=o.slots }).get? h.objs.size
   = some { cls:=.type "dict",data:=.dict #[] } :=
  (Heap.get?_update_ne _ _ _ _ hxs.symm).trans (Heap.get?_push_at rfl rfl)
 have hnd:((h.push { cls:=.type "dict",data:=.dict #[] }).update x fun o=>{ cls:=o.cls,dict:=some h.objs.size,data:=o.data,slots:=o.slots }).Ns h.objs.size (fun _=>none) :=
  ⟨_,#[],_,hgd,rfl,fun e he=>absurd he (by simp),fun _=>rfl⟩
 have fin:∀{E'},wpAny (model prog w) A.in1 (storeInDict h.objs.size (.str name t) name v)
   (fun fin s'=>match fin with | .done (.ret _)=>Q () s' | _=>False) E' ⟨(h.push { cls:=.type "dict",data:=.dict #[] }).update x fun o=>{ cls:=o.cls,dict:=some h.objs.size,data:=o.data,slots:=o.slots },g,d,t+1,os⟩:=by
  intro E'
  unfold storeInDict newKeyGuard
  refine wpAny_bind (wpAny_pure (wpAny_bind (wpAny_nsSet1 (Heap.Ns1.of_empty hnd) fun h' hn' hs=>?_)))
  obtain⟨oD,esD,epD,hoD,hdD,hcD⟩:=hn'.count (Within.cons name v Within.nil)
  refine wpAny_bind (wpAny_lookBehind hoD (by rw[hdD];exact pastItsLine_dict (Gs hcD (by rw[Ge,Hu,sizeLine_eq];omega))) ?_)
  refine wpAny_pure (hq h' _ ?_ hn' fun b ob hbx hb=>?_)
  ·refine(hs.2 x hxs).trans (Heap.get?_update_self _ hx₁ ?_)
   have hfr:=(Heap.get?_some_iff.mp hx).2
   cases odt<;>first | rfl | exact hfr
  ·exact(hs.2 b (F4 (Heap.lt_size hb))).trans ((Heap.get?_update_ne _ _ _ _ hbx).trans (Heap.get?_push_of_some _ hb))
 have big:∀{E'},wpAny (model prog w) A.in1 (do
    let d ← alloc { cls:=Value.type "dict",data:=Data.dict #[] }
    update x fun o=>{ cls:=o.cls,dict:=some d,data:=o.data,slots:=o.slots }
    dictMade (.ref C) x d) (fun a s'=>a=some h.objs.size/\s'=⟨(h.push { cls:=.type "dict",data:=.dict #[] }).update x fun o=>{ cls:=o.cls,dict:=some h.objs.size,data:=o.data,slots:=o.slots },g,d,t+1,os⟩) E' ⟨h,g,d,t+1,os⟩:=go _ _ ⟨rfl,rfl⟩
 cases odt with
 |cls c=>exact absurd rfl (hnc c)
 |_ =>
  refine wpAny_mono big (fun a s' z=>?_) fun _ _ z=>z
  obtain⟨rfl,rfl⟩:=z
  refine wpAny_mono fin (fun f s' z=>?_) fun _ _ z=>z
  rcases f with(_ | _ | _ | _) | _<;>first | exact wpAny_pure (wpAny_pure z) | exact z.elim
end
section
variable{X:Cx}{pins:List (Addr×Obj)}{σ:St}{H:Hp}{s:Shared}{A:Around}{E:Value->Shared->Prop}{a C fI:Addr}{f:Str}
theorem vR{y:V}{u:Value}{Q:Unit->Shared->Prop}(I:Inv X pins σ H s)(hx:X.ex = [])(e:H a=some (excN a C none))(es:ErS X.K C fI f)(ry:RelV y u)
  (h:∀ s' d,H d=none->d≠a->Inv X pins σ (upd (upd H a (excN a C (some d))) d (.xd [(f,y)])) s'->Q () s'):wpAny (model X.prog X.w) A (setAttr (.ref a) f u) Q E s:=by
 obtain⟨⟨o,vs,a0,ho,hc,hd,hdt,h0,h1⟩,_,_⟩:=(show bA X.prog X.w H s.heap a (excN a C none) from I.hok a _ e)
 refine setE I.kIn ho hc hd (fun c z=>by rw[hdt]at z;cases z) es fun h' tk' q1 q2 q3=>?_
 have dn:H s.heap.objs.size=none:=I.hok.fresh (FD _)
 have dne:s.heap.objs.size≠a:=Hc (Heap.lt_size ho)
 have I1:Inv X pins σ (upd H a (excN a C (some s.heap.objs.size))) { s with heap:=h',toks:=tk' }:=I.write (x:=a) (e:=a) (by rw[e];exact True.intro) (.inl rfl) (fun b u n q=>q3 b u n q) ⟨_,q1⟩ (Cd ⟨_,vs,a0,q1,hc,rfl,hdt,h0,h1⟩)
 refine h _ _ dn dne (I1.xtrack (I.xok hx (Heap.get?_none_of_le (FD _)) (by rw[ak dne];exact dn)) ⟨_,q2,fun g=>?_⟩)
 show RelO ([(f,y)].lookup g) (if g=f then some u else none)
 by_cases q:g=f
 ·subst q
  rw[if_pos rfl]
  simp only[G9,beq_self_eq_true]
  exact ry
 ·rw[if_neg q]
  have hb:(g == f)=false:=beq_eq_false_iff_ne.mpr q
  simp only[G9,hb]
  exact True.intro
def del(H:Hp)(x:Addr):Hp:=fun b=>if b=x then none else H b
theorem rE{x:Addr}:del H x x=none:=if_pos rfl
theorem jU{x b:Addr}(h:b≠x):del H x b=H b:=if_neg h
theorem Inv.untrk{φ:Heap->Prop}{x:Addr}(I:Inv X pins σ H s)(e:H x=some (.ext φ)):Inv X pins σ (del H x) s:=by
 have ne:∀{b:Addr}{u:HO},H b=some u->(∀ φ,u≠.ext φ)->b≠x:=fun{b u} q n z=>by
  rw[z,e]at q
  cases q
  exact n φ rfl
 refine I.step (h':=s.heap) (g':=s.gens) (t':=s.toks) (d':=s.drawn) (ch:=[]) (fun _ z=>nomatch z) (fun b o _ _ _ q _=>q) (fun b o _ _ _ q _=>⟨o.slots,q⟩) (fun b o _ _ n=>?_) (fun b o _ q=>⟨o,q⟩)
  (fun b xs q=>?_) (fun b o u q=>?_) (fun b ps q=>⟨#[],?_⟩) (fun m hm=>hm) (fun b u q=>?_) I.bare
 ·by_cases z:b=x
  ·rw[z];exact rE
  ·rw[jU z];exact n
 ·rw[jU (ne q fun _ z=>by cases z)];exact q
 ·rw[jU (ne q fun _ z=>by cases z)];exact q
 ·rw[jU (ne q fun _ z=>by cases z),q];simp
 ·by_cases z:b=x
  ·rw[z,rE]at q;cases q
  ·rw[jU z]at q
   refine(I.hok b u q).stay (fun c v _ q=>q) (fun c q=>?_) fun c xs q=>?_
   ·rw[jU (ne q fun _ z=>by cases z)];exact q
   ·rw[jU (ne q fun _ z=>by cases z)];exact q
def sFldE(K:Fw)(fI:Addr)(ta tv:TE)(f:Str):TS:=fun D σ H=>tv σ H fun y H1=>ta σ H1 fun x H2=>∃ a C,x=.ref a/\H2 a=some (excN a C none)/\ErS K C fI f/\∀ d,H2 d=none->d≠a->D.nx σ (upd (upd H2 a (excN a C (some d))) d (.xd [(f,y)]))
theorem EB{o value:Expr}{ta tv:TE}{pos pos':Pos}(hx:X.ex = [])(ha:PE X o ta)(hv:PE X value tv)(hs:swapsWith value (some (.Attribute o f pos')) pos.line X.env=pure false):PS X (.Assign [.Attribute o f pos'] value pos) (sFldE X.K fI ta tv f):=by
 intro pins s σ H D I h
 refine plainObj_wpAny_Assign_Attribute (thn (hv pins s σ H _ I h) fun u s1 ⟨y,H1,I1,ry,q⟩=>thn (ha pins s1 σ H1 _ I1 q) fun ov s2 ⟨x,H2,I2,rx,a,C,ex,ea,es,q2⟩=>?_) hs
 subst ex
 obtain rfl:ov=Value.ref a:=rx
 exact vR I2 hx ea es ry fun s3 d dn dne I3=>⟨σ,_,I3,q2 d dn dne⟩
theorem getE{b:Bool}{od o:Obj}{v:Value}{Q:Value->Shared->Prop}(XX:X.K.In s.heap)(J:PySem.W.InstAt s.heap a o C (some od))(ec:ErC X.K C)(na:FJ X.K (.ref C) f=some none)(hl:Hx f od=some (some v))(hv:Ik v=true)
  (h:Q v { s with toks:=s.toks+1 }):wpAny (model X.prog X.w) A (getAttr (.ref a) f b) Q E s:=by
 obtain⟨hh,g,d,t,os⟩:=s
 have I:iR a C hh:=⟨o,J.at_,J.cls⟩
 have L0:=I.type (model X.prog X.w)
 have L1:=GG (M:=model X.prog X.w) XX ec.ga
 have L3:=GG (M:=model X.prog X.w) XX ec.gt
 have LF:=PySem.W.looks_find (M:=model X.prog X.w) XX J (PySem.W.findObj_own ec.hd na rfl hl)
 have f3:=F.excAttr_ValueError.ga.bind (.ref a)
 unfold getAttr getAttrBy
 refine wpAny_bind (wpAny_mkText (wpAny_holding (wpAny_bind (L0.at (wpAny_bind (L1.at ?_))))))
 show wpAny _ _ (getAttrByItsOwn _ _ _ _ _ _) _ _ _
 unfold getAttrByItsOwn
 refine wpAny_bind (show wpAny _ _ (typeLookup _ _) _ _ _ from L3.at ?_)
 refine wpAny_bind (wpAny_attempt (wpAny_holding ?_))
 have hcg:callGetattribute (.ref a) (.str f t) (.builtin "BaseException.__getattribute__") b=boundAndCalled (.builtin "BaseException.__getattribute__") (.ref a) (.str f t):=by cases b<;>rfl
 show wpAny _ _ (callGetattribute _ _ _ _) _ _ _
 rw[hcg]
 unfold boundAndCalled
 rw[f3]
 refine wpAny_bind (wpAny_pure ?_)
 refine wpAny_call (codeAny_call_builtin F.excAttr_ValueError.ga.plain F.entry_bexc_ga (yN (s:=⟨hh,g,d,t+1,os⟩) XX I ec ?_))
 unfold Builtin.«object.__getattribute__»
 repeat (first | assumption | with_reducible refine L0.at ?_ | with_reducible refine LF.at ?_ | wp_step)
 exact PySem.W.handed_on hv h
theorem xF{b:Bool}{v:V}{d:Addr}{fs:List (Str×V)}{Q:Value->Shared->Prop}(I:Inv X pins σ H s)(e:H a=some (excD a C (some d)))(ec:ErC X.K C)(na:FJ X.K (.ref C) f=some none)(ed:H d=some (.xd fs))(l:fs.lookup f=some v)
  (h:∀ u s',Inv X pins σ H s'->RelV v u->Q u s'):wpAny (model X.prog X.w) A (getAttr (.ref a) f b) Q E s:=by
 obtain⟨⟨o,ho,hc,hd,hn⟩,_,_⟩:=(show bA X.prog X.w H s.heap a (excD a C (some d)) from I.hok a _ e)
 obtain⟨mA,N1,r⟩:=(show bA X.prog X.w H s.heap d (.xd fs) from I.hok d _ ed)
 obtain⟨u,hu,ru⟩:=RelO.some_of (v:=v) (o:=mA f) (by rw[← l];exact r f)
 obtain⟨od,hod,hl⟩:=uh N1
 refine getE (o:=o) (od:=od) I.kIn ⟨ho,hc,hn,by rw[hd];exact hod⟩ ec na (by rw[hl,hu]) (uC ru) (h u _ (I.tok _) ru)
def tFldE(K:Fw)(ta:TE)(f:Str):TE:=fun σ H Q=>ta σ H fun x H1=>∃ a C d fs v,x=.ref a/\H1 a=some (excD a C (some d))/\ErC K C/\FJ K (.ref C) f=some none/\H1 d=some (.xd fs)/\fs.lookup f=some v/\Q v H1
theorem EI{e:Expr}{ta:TE}{pos:Pos}(he:PE X e ta)(hb:attributeBase e f X.env (eval e X.env)=eval e X.env):PE X (.Attribute e f pos) (tFldE X.K ta f):=by
 intro pins s σ H Q I h
 refine CF hb (thn (he pins s σ H _ I h) fun u s1 ⟨x,H1,I1,rx,a,C,d,fs,v,ex,ea,ec,na,ed,l,q⟩=>?_)
 subst ex
 obtain rfl:u=Value.ref a:=rx
 exact xF I1 ea ec na ed l fun u' s2 I2 ru=>⟨v,H1,I2,ru,q⟩
end
section
variable{prog:Program}{w:World}{A:Around}{E:Value->Shared->Prop}{s:Shared}{env:Env}
variable{nm q:Str}{C N:Addr}{bs bm bmB:List Value}{hdct:Bool}{sn:List Str}{sub:List Value}{ab:Bool}{col:Option Bool}{dd:Option Addr}{k0 k1 k2 k3 k5:Option Value}{B newId initId:String}
theorem mW(F:ExcBaseFacts B newId initId bmB){mN:Str->Option Value}{fI:Addr}{x:Str}{np cpos pos:Pos}{args:List Expr}{Q:Flow->Shared->Prop}
  (hbase:bm.contains (.type "BaseException")=true) (hh:A.handled=none) (hplain:(backTo cpos (starEach args env)).any (·.1)=false) (hi:mN "__init__" = some (.ref fI))
  (h:wpAny (model prog w) A (eval (.Name x np) env) (fun f s₁=>f=.ref C/\wpAny (model prog w) A (evalArgs (.ref C) true (backTo cpos (starEach args env)) [])
   (fun a s₂=>a.kw = []/\a.pos.length<=sizeLine/\s₂.heap.get? C=some (excClassObj nm q C N bs bm hdct sn sub ab col dd k0 k1 k2 k3 k5 newId)/\s₂.heap.Ns N mN/\OwnTail s₂.heap bmB bm/\(∃ oI,s₂.heap.get? fI=some oI/\oI.cls=.type "function") /\
    ∀ h' e,Heap.MadeExcOf s₂.heap h' e (.ref C) a.pos->wpAny (model prog w) (A.under (.builtin "type.__call__" ⟨.ref C::a.pos,[]⟩)) (call (.ref fI) (.ref e::a.pos)) (fun r s'=>r=.none/\∃ oe,s'.heap.get? C=some (excClassObj nm q C N bs bm hdct sn sub ab col dd k0 k1 k2 k3 k5 newId) /\
     s'.heap.get? e=some oe/\oe.cls=.ref C/\(∃ vs,oe.data=.fields vs/\vs[1]?=some .none)/\E (.ref e) s') E { s₂ with heap:=h' }) E s₁) E s) :
  wpAny (model prog w) A (exec (.Raise (some (.Call (.Name x np) args [] cpos)) none pos) env) Q E s:=by
 rw[arm_exec_Raise]
 first
  |refine wpAny_bind (wpAny_standAt (ke (C:=C) (nm:=nm) (q:=q) (N:=N) (bs:=bs) (bm:=bm) (hdct:=hdct) (sn:=sn) (sub:=sub) (ab:=ab) (col:=col) (dd:=dd) (k0:=k0) (k1:=k1) (k2:=k2) (k3:=k3) (k5:=k5) (newId:=newId) hbase hh (wpAny_bind (wpAny_mono (wpAny_Call_ofName (wpAny_mono h (fun f s₁ h₁=>?_) fun _ _ x=>x)) (fun v s₃ h₃=>wpAny_bind (wpAny_standAt (wpAny_pure h₃))) fun _ _ x=>x))))
  | (simp only[evalOpt,Option.map];refine wpAny_bind (wpAny_standAt (ke (C:=C) (nm:=nm) (q:=q) (N:=N) (bs:=bs) (bm:=bm) (hdct:=hdct) (sn:=sn) (sub:=sub) (ab:=ab) (col:=col) (dd:=dd) (k0:=k0) (k1:=k1) (k2:=k2) (k3:=k3) (k5:=k5) (newId:=newId) hbase hh (wpAny_bind (wpAny_mono (wpAny_Call_ofName (wpAny_mono h (fun f s₁ h₁=>?_) fun _ _ x=>x)) (fun v s₃ h₃=>wpAny_bind (wpAny_standAt (wpAny_pure h₃))) fun _ _ x=>x)))))
  | (refine wpAny_bind (wpAny_standAt (ke (C:=C) (nm:=nm) (q:=q) (N:=N) (bs:=bs) (bm:=bm) (hdct:=hdct) (sn:=sn) (sub:=sub) (ab:=ab) (col:=col) (dd:=dd) (k0:=k0) (k1:=k1) (k2:=k2) (k3:=k3) (k5:=k5) (newId:=newId) hbase hh ?_));refine wpAny_bind (wpAny_mono (wpAny_Call_ofName (wpAny_mono h (fun f s₁ h₁=>?_) fun _ _ x=>x)) (fun v s₃ h₃=>wpAny_bind (wpAny_standAt (wpAny_pure h₃))) fun _ _ x=>x))
 obtain⟨rfl,h₁⟩:=h₁
 unfold callWith
 refine wpAny_bind (wpAny_holding (wpAny_mono h₁ (fun a s₂ h₂=>wpAny_bind (wpAny_standAt ?_)) fun _ _ x=>x))
 obtain⟨apos,akw⟩:=a
 obtain⟨hkw,hlen,hC,hn,T,⟨oI,hfI,hfc⟩,h₂⟩:=h₂
 obtain rfl:akw = []:=hkw
 obtain⟨hp,g,d,tk,os⟩:=s₂
 simp only[hplain]
 refine wpAny_bind (wpAny_keeperOf_exc hC ?_)
 refine wpAny_bind (Ap F T hC hn hi hfI hfc (fun h' e hm=>wpAny_mono (h₂ h' e hm) (fun r s' hr=>?_) fun _ _ z=>z) hlen)
 obtain⟨rfl,oe,a1,a2,a3,a4,a5⟩:=hr
 exact⟨rfl,wpAny_bind (wpAny_holding (wpAny_point (wpAny_pure ⟨e,oe,rfl,a1,a2,a3,a4,a5⟩)))⟩
end
def Eh(C:Addr)(sp:Sp)(W:WKD)(t:TA):TS:=fun _ σ H=>t σ H fun vs H1=>vs.length<=sizeLine/\∀ x,H1 x=none->sp (.ref x::vs) (upd H1 x (excN x C none)) (fun v H2=>v=.non/\∃ d,H2 x=some (excN x C d)/\W (.ref C) d σ (del H2 x)) E0
theorem A9{X:Cx}{k:Nat}{x f:Str}{C fI:Addr}{fd:FuncData}{ps:List Str}{sp:Sp}{e:Expr}{es:List Expr}{t:TA}{W:WKD}{np cpos pos:Pos}(er:ErS X.K C fI f)(hfn:GU X.K (.ref fI)=true)(F:FnOk X.prog X.w X.K X.mg X.base CX0 k fI fd ps sp)(hb:gz X.K fd ps [])(hr:Room (k+1) X.A)
  (hm:X.mg x=some (.ref C)) (hg:Gl X x) (ws:WshD X W) (hx:X.ex = []) (hc:X.calm=true) (ha:PA X (e::es) t)
  (he:starEach (e::es) X.env=(false,eval e X.env)::starEach es X.env:=by rfl) (hpl:(backTo cpos (starEach es X.env)).any (·.1)=false:=by rfl) (hdb:(x == ("__debug__" : Str))=false:=by decide) :
  PS X (.Raise (some (.Call (.Name x np) (e::es) [] cpos)) none pos) (Eh C sp W t):=by
 intro pins s σ H D I h
 obtain⟨tl,N,nm,qn,bs,hdct,sn,sub,ab,col,dd,k0,k1,k2,k3,k5,mN,hC,hN,hi,T⟩:=mO er.ei I.ok.mod.kin
 have hpl2:(backTo cpos (starEach (e::es) X.env)).any (·.1)=false:=by
  rw[he]
  show(false||(backTo cpos (starEach es X.env)).any (·.1))=false
  rw[hpl];rfl
 obtain⟨oI,hoI,hcI⟩:=Gd.mp (show PySem.W.typeIn X.K (.ref fI)=some (.type "function") from beq_iff_eq.mp hfn)
 refine mW (C:=C) (nm:=nm) (q:=qn) (N:=N) (bs:=bs) (bm:=tl) (hdct:=hdct) (sn:=sn) (sub:=sub) (ab:=ab) (col:=col) (dd:=dd) (k0:=k0) (k1:=k1) (k2:=k2) (k3:=k3) (k5:=k5) PySem.F.excBase_ValueError (mN:=mN) (T.hasType PySem.F.excBase_ValueError.hasBase) (I.ok.hd hc) hpl2 hi (ko I hg hm ⟨rfl,?_⟩ hdb)
 have z:=ha cpos pins s σ H _ I h
 rw[he]at z ⊢
 refine Calls.evalArgs_plain (wpAny_mono z (fun us s2 zz=>?_) fun _ _ y=>y)
 obtain⟨vs,H1,I2,r,hz,q⟩:=zz
 refine⟨rfl,by rw[← r.length];exact hz,I2.bk _ _ hC,hN.keeps I2.bk,T.keeps I2.bk,⟨oI,I2.kIn _ _ hoI,hcI⟩,fun h' e' hme=>?_⟩
 obtain⟨t0,ht0,_,_⟩:=hme.there
 have I3:Inv X pins σ H1 { s2 with heap:=h' }:=I2.kept (t':=s2.toks) hme.keeps
 have xn:H1 e'=none:=I2.hok.none_of hme.new
 have xo:XOk X pins H1 e':=I2.xok hx hme.new xn
 have I4:Inv X pins σ (upd H1 e' (excN e' C none)) { s2 with heap:=h' }:=I3.xtrack xo (Cd ⟨_,_,_,ht0,rfl,rfl,rfl,rfl,rfl⟩)
 have hq:=q e' xn
 have r2:Vals (V.ref e'::vs) (Value.ref e'::us):=.cons rfl r
 have hl:(Value.ref e'::us++[]).length=ps.length:=by
  have e:=r2.length
  rw[F.len _ _ _ _ hq]at e
  rw[HM]
  exact e.symm
 have hbb:=hb { s2 with heap:=h' } (Value.ref e'::us) I4.kIn hl
 rw[HM]at hbb
 refine wpAny_call (codeAny_mono (F.run _ X.stack _ _ ⟨Value.ref e'::us,[]⟩ (Value.ref e'::us) _ _ _ (hr.make C us []) (I4.env0.make C us []) hbb r2 hq) fun r s' hq'=>?_)
 cases r with
 |error e=>exact(aT (X:=X) pins σ _ _ e s' I4 hq')
 |ok fl =>
  cases fl with
  |ret u =>
   obtain⟨v,H',I5,rv,ev,d,hxd,w5⟩:=I4.after hq'
   subst ev
   obtain⟨⟨o,vs2,a0,ho,hcl,hdd,hdt,h0,h1⟩,_,_⟩:=(show bA X.prog X.w H' s'.heap e' (excN e' C d) from I5.hok e' _ hxd)
   refine⟨rv,o,I5.bk _ _ hC,ho,hcl,⟨vs2,hdt,h1⟩,?_⟩
   exact ws pins σ (del H' e') s' e' (.ref C) d (I5.untrk hxd) ⟨⟨xo.old,rE,xo.nl,xo.nc,xo.np⟩,.inl ⟨o,vs2,a0,ho,hcl,hdt,h0,h1⟩⟩ ⟨o,ho,hdd⟩ w5
  |next=>exact False.elim hq'
  |brk=>exact False.elim hq'
  |cont=>exact False.elim hq'
theorem Cu{X:Cx}:jy X (.builtin "isinstance") (fun xs H Q=>∃ x c dx d b,xs = [.ref x,.ref d]/\H x=some (excD x c dx)/\ErC X.K c/\GF X.K (.ref c) (.ref d)=some b/\Q (.bl b) H):=by
 intro pins s σ H xs us Q I r h
 obtain⟨x,c,dx,d,b,rfl,hx,ec,ek,q⟩:=h
 obtain⟨v1,v2,rfl,r1,r2⟩:=CN r
 cases r1
 cases r2
 obtain⟨⟨o,p1,p2,_⟩,_,_⟩:=(show bA X.prog X.w H s.heap x (excD x c dx) from I.hok x _ hx)
 exact Gx (yL ec) I.kIn ⟨o,p1,p2⟩ ek (fun z=>nomatch z) fun tk=>⟨.bl b,H,I.tok tk,rfl,q⟩
theorem An{X:Cx}:jy X (.builtin "isinstance") (fun xs H Q=>∃ x c dx T b,xs = [.ref x,.ty T]/\H x=some (excD x c dx)/\ErC X.K c/\GF X.K (.ref c) (.type T)=some b/\Q (.bl b) H):=by
 intro pins s σ H xs us Q I r h
 obtain⟨x,c,dx,T,b,rfl,hx,ec,ek,q⟩:=h
 obtain⟨v1,v2,rfl,r1,r2⟩:=CN r
 cases r1
 cases r2
 obtain⟨⟨o,p1,p2,_⟩,_,_⟩:=(show bA X.prog X.w H s.heap x (excD x c dx) from I.hok x _ hx)
 exact Gx (yL ec) I.kIn ⟨o,p1,p2⟩ ek (fun z=>nomatch z) fun tk=>⟨.bl b,H,I.tok tk,rfl,q⟩
end L2
namespace L2
open PySem PySem.Spec PyProof.Rows
theorem zo{X:Cx}{body:List Stmt}{b0:Stmt}{suite:List Stmt}{dn en:Str}{np hpos pos:Pos}{D:Addr}{ie:Nat}{Cs:Addr->Prop}{tb:WKD->TS}{ts:TS}(hx:X.ex = [])(hst:X.stack=X.env::X.outer)(hfr:X.env.frame=some X.env.locals)(hN:X.N.Nodup)(hi:X.N[ie]?=some en)(hl:X.env.kindOf en=some .local)
  (hgD:Gl X dn) (hmD:X.mg dn=some (.ref D)) {fI:Addr} (eD:pA X.K D fI=true) (hCs:∀ c,Cs c->GX X.K c (.ref D)=some true)
  (hb:∀ pins XE W,WshTD (X.tried pins XE) W->PSs (X.tried pins XE) body (tb W)) (hs:∀ v,PSs (X.marked v) (b0::suite) ts) (hdb:(dn == ("__debug__" : Str))=false:=by decide) :
  PS X (.Try body [.ExceptHandler (some (.Name dn np)) (some en) (b0::suite) hpos] [] [] pos) (Eg ie Cs tb ts):=by
 intro pins s σ H Ds I h
 refine wpAny_Try_except ?_
 refine wpAny_mono (hb pins (fun e s₁=>wpAny (model X.prog X.w) X.A (noteFrame e X.env) (fun _ s₂=>wpAny (model X.prog X.w) X.A (setFlight e none) (fun _ s₃=>wpAny (model X.prog X.w) X.A (handleBy e X.env [.ExceptHandler (some (.Name dn np)) (some en) (b0::suite) hpos]) (SP X pins Ds) X.xe s₃) X.xe s₂) X.xe s₁) _ ?_ [] s σ H Ds I.tried h) (fun f s1 q=>?_) fun _ _ z=>z
 ·intro pins' σ1 H1 s1 x T C d I1 xx xT tr zd hw
  obtain⟨c,rfl,hc,hts⟩:=hw
  have I2:Inv X pins σ1 H1 s1:=I1.untried
  have x2:XOk X pins H1 x:=xx.untried
  have T2:XOk X pins H1 T:=xT.untried
  have frm:X.A.frames=some (X.env::X.outer):=by rw[← hst];exact I2.ok.frames
  have fly:∀{h:Heap}{T:Addr},Inv X pins σ1 H1 { s1 with heap:=h }->Trc h x (.ref c) T->∃ a0,Heap.FlyingW (hidX X h [x,T]) (X.env::X.outer) x (.ref c) a0 h:=fun{h T} J tr=>by
   obtain⟨oe,vs,a0,oT,ts,he,hcl,h0,hd,h1,hTe,hT,hdT,h3⟩:=tr
   exact⟨a0,B8 _ _,jO (by simp),hst▸J.hidF [x,T],⟨oe,vs,T,oT,ts,he,⟨hcl,h0⟩,hd,h1,jO (by simp),hTe,hT,hdT,h3⟩⟩
  have two:∀{T:Addr},XOk X pins H1 T->∀ b∈[x,T],XOk X pins H1 b:=fun{T} hT b hb=>by
   rcases FC.mp hb with e | hb
   ·rw[e];exact x2
   ·have e:b=T:=by simpa using hb
    rw[e];exact hT
  obtain⟨a0,fl⟩:=fly (h:=s1.heap) I2 tr
  refine wpAny_mono (mw (gU _ _) (wpAny_looks_onW (Q:=fun _ s'=>∃ h4,s'={ s1 with heap:=h4 }/\Heap.HeldW (hidX X s1.heap [x,T]) (X.env::X.outer) x (.ref c) a0 X.env.locals h4/\s1.heap.UpToSlots h4) (E:=fun _ _=>False) frm hfr fl fun h4 a b=>⟨h4,rfl,a,b⟩)) ?_ (fun _ _ q=>q.1.elim)
  rintro _ s4 ⟨⟨h4,rfl,held4,up4⟩,dk4⟩
  refine wpAny_mono (mw (dN _ _) (wpAny_landsW (Q:=fun _ s'=>∃ h5,s'={ s1 with heap:=h5 }/\Heap.FlyingW (hidX X s1.heap [x,T]) (X.env::X.outer) x (.ref c) a0 h5/\h4.UpToSlots h5) (E:=fun _ _=>False) held4 fun h5 a b=>⟨h5,rfl,a,b⟩)) ?_ (fun _ _ q=>q.1.elim)
  rintro _ s5 ⟨⟨h5,rfl,fl5,up5⟩,dk5⟩
  obtain⟨I5,T5,xT5,tr5⟩:=I2.left hx (two T2) fl5.1 fl5.2.2.2 (up4.trans up5)
  have z5:Xd h5 x d:=zd.dk (DK.trans (b:=h4) dk4 dk5) tr5.there
  refine wpAny_handleBy_cons (codeAny_handlers_test (Calls.Name_function_global I5.ok.kind hgD (Calls.loadGlobal_global (by rw[I5.ok.glob];exact I5.mod.glob.keeps I5.bk) hmD ?_) hdb)) (by intro q;cases q)
  obtain⟨_,_,_,_,_,_,_,_,_,_,_,_,_,_,_,_,_,hD,_,_,TD⟩:=mO eD I5.kIn
  have hDB:=TD.hasType (X:="BaseException") (b:=true) rfl
  obtain⟨ob,_,_,_,_,hob,hcl,_⟩:=id tr5
  refine Fi hD hob hcl (by rw[Ic,hDB,Bool.or_true]) (HV I5.kIn (hCs c hc)) ?_
  refine codeAny_handlers_suite_as ?_
  obtain⟨a5,fl5'⟩:=fly I5 tr5
  refine wpAny_mono (mw (dN _ _) (lands_againW (Q:=fun _ s'=>∃ h6,s'={ s1 with heap:=h6 }/\Heap.FlyingW (hidX X h5 [x,T5]) (X.env::X.outer) x (.ref c) a5 h6/\h5.UpToSlots h6) (E:=fun _ _=>False) (s:={ s1 with heap:=h5 }) fl5' fun h6 a b=>⟨h6,rfl,a,b⟩)) ?_ (fun _ _ q=>q.1.elim)
  rintro _ s6 ⟨⟨h6,rfl,fl6,up6⟩,dk6⟩
  obtain⟨I6,T6,xT6,tr6⟩:=I5.left hx (two xT5) fl6.1 fl6.2.2.2 up6
  have z6:Xd h6 x d:=z5.dk dk6 tr6.there
  obtain⟨oe,vs6,_,_,_,he,hcl6,_,hd6,_⟩:=id tr6
  have hnc:IB oe=true:=by unfold IB;rw[hd6]
  have hdd:oe.dict=d:=by
   obtain⟨o2,e2,d2⟩:=z6
   rw[he]at e2
   cases e2
   exact d2
  have I7:=I6.xtrack (o:=excD x c d) x2 ⟨⟨oe,he,hcl6,hdd,hnc⟩,⟨oe,he⟩,fun h1 h2 ⟨o,z1,z2⟩ kk=>⟨o,kk o z1,z2⟩⟩
  refine my I7 hN hi (.inl hl) (v:=.ref x) rfl (fun s8 I8=>?_) (.inr hl)
  refine wpAny_mono (hs (.ref x) pins s8 _ _ _ (I8.marked _) (hts x x2.trk)) (fun f s9 q9=>?_) fun _ _ z=>z.elim
  cases f with
  |next =>
   obtain⟨σ9,H9,I9,q9⟩:=q9
   have I9':Inv X pins σ9 H9 s9:=Inv.unmarked (hd:=I2.ok.hd) (fr:=I2.ok.frames) I9
   obtain⟨m,hm⟩:=I9'.loc
   refine wpAny_nameGoes_keeps hl hm.1 (by rw[I9'.ok.kind];rfl) fun h' v hn hss=>?_
   exact⟨_,_,I9'.gone hN hi hm hn hss,q9⟩
  |brk=>obtain⟨_,_,_,z⟩:=q9;exact z.elim
  |cont=>obtain⟨_,_,_,z⟩:=q9;exact z.elim
  |ret u=>obtain⟨_,_,_,_,_,z⟩:=q9;exact z.elim
 ·have q':=SP.untried q
  cases f with
  |next=>exact wpAny_execs_nil q'
  |brk=>exact q'
  |cont=>exact q'
  |ret u=>exact q'
end L2
namespace L2
theorem len_0{α:Type}{l:List α}(h:l.length=0):l = []:=IL.mp h
theorem BK{α:Type}{l:List α}{n:Nat}(h:l.length=n+1):∃ x r,l=x::r/\r.length=n:=by
 cases l with
 |nil=>cases h
 |cons x r=>exact⟨x,r,rfl,Nat.succ.inj h⟩
theorem qZ{α:Type}{l:List α}(h:l.length=1):∃ a,l = [a]:=by
 obtain⟨a,r,rfl,e⟩:=BK h
 exact⟨a,by rw[len_0 e]⟩
theorem fu{α:Type}{l:List α}(h:l.length=2):∃ a b,l = [a,b]:=by
 obtain⟨a,r,rfl,e⟩:=BK h
 obtain⟨b,rfl⟩:=qZ e
 exact⟨a,b,rfl⟩
theorem oR{α:Type}{l:List α}(h:l.length=3):∃ a b c,l = [a,b,c]:=by
 obtain⟨a,r,rfl,e⟩:=BK h
 obtain⟨b,c,rfl⟩:=fu e
 exact⟨a,b,c,rfl⟩
theorem E3{α:Type}{l:List α}(h:l.length=4):∃ a b c d,l = [a,b,c,d]:=by
 obtain⟨a,r,rfl,e⟩:=BK h
 obtain⟨b,c,d,rfl⟩:=oR e
 exact⟨a,b,c,d,rfl⟩
theorem len_5{α:Type}{l:List α}(h:l.length=5):∃ a b c d e,l = [a,b,c,d,e]:=by
 obtain⟨a,r,rfl,z⟩:=BK h
 obtain⟨b,c,d,e,rfl⟩:=E3 z
 exact⟨a,b,c,d,e,rfl⟩
end L2
namespace K8
theorem yy:∀{a b:List Nat},a.Nodup->(∀ x∈a,x∈b)->a.length<=b.length
 |[],_,_,_=>GJ _
 |x::a,b,nd,h=>by
  obtain⟨n1,n2⟩:=FT.mp nd
  have hx:=h x (by simp)
  have ih:=yy (a:=a) (b:=b.erase x) n2 fun y hy=>(List.mem_erase_of_ne (fun e:y=x=>n1 (e▸hy))).mpr (h y (FK _ hy))
  rw[List.length_erase_of_mem hx]at ih
  have:0<b.length:=Hj hx
  rw[Ge]
  omega
theorem c5{a:List Nat}{N:Nat}(nd:a.Nodup)(h:∀ x∈a,x<N):a.length<=N:=by
 have:=yy (b:=Hd N) nd fun x hx=>Hz.mpr (h x hx)
 rwa[List.length_range]at this
theorem yK{l:List Nat}(nd:l.Nodup){i j x:Nat}(hi:l[i]?=some x)(hj:l[j]?=some x):i=j:=by
 have p:=List.pairwise_iff_getElem.mp nd
 obtain⟨h1,e1⟩:=Fv.mp hi
 obtain⟨h2,e2⟩:=Fv.mp hj
 rcases Nat.lt_trichotomy i j with z | z | z
 ·exact absurd (e1.trans e2.symm) (p i j h1 h2 z)
 ·exact z
 ·exact absurd (e2.trans e1.symm) (p j i h2 h1 z)
abbrev En:=List (Nat×Nat)
structure bB(m:Nat)(es:En)(ts:List (List Nat)):Prop where
 len:ts.length=m
 ends:∀ e∈es,e.1<m/\e.2<m/\e.1≠e.2
 nd:∀(p:Nat)(l:List Nat),ts[p]?=some l->l.Nodup
 mem:∀(p:Nat)(l:List Nat),ts[p]?=some l->∀ t,t∈l↔∃ e,es[t]?=some e/\(e.1=p∨e.2=p)
theorem CP(m:Nat):bB m [] (G1 m []) where
 len:=by simp
 ends:=fun e h=>by cases h
 nd:=fun p l h=>by
  rw[GY]at h
  split at h
  ·cases h;exact Hy
  ·cases h
 mem:=fun p l h t=>by
  rw[GY]at h
  split at h
  ·cases h;simp
  ·cases h
def ins(l:List Nat)(k x:Nat):List Nat:=l.take k++x::l.drop k
theorem xB{l:List Nat}{k x y:Nat}:y∈ins l k x↔y=x∨y∈l:=by
 unfold ins
 rw[FG,FC]
 have:=Hn k l
 constructor
 ·rintro(h | h | h)
  ·exact .inr (List.mem_of_mem_take h)
  ·exact .inl h
  ·exact .inr (List.mem_of_mem_drop h)
 ·rintro(h | h)
  ·exact .inr (.inl h)
  ·rw[← this]at h
   rcases FG.mp h with z | z
   ·exact .inl z
   ·exact .inr (.inr z)
theorem B5{l:List Nat}{k x:Nat}(nd:l.Nodup)(h:x∉l):(ins l k x).Nodup:=by
 unfold ins
 have e:=Hn k l
 rw[← e]at nd
 obtain⟨a,b,c⟩:=FY.mp nd
 refine FY.mpr ⟨a,FT.mpr ⟨fun z=>h (List.mem_of_mem_drop z),b⟩,fun y hy z hz=>?_⟩
 rcases FC.mp hz with q | q
 ·intro w
  exact h (by rw[← q,← w];exact List.mem_of_mem_take hy)
 ·exact c y hy z q
theorem bB.put{m:Nat}{es:En}{ts:List (List Nat)}{one two k j:Nat}{l l':List Nat}(w:bB m es ts)(h1:one<m)(h2:two<m)(hn:one≠two)(e1:ts[one]?=some l)(e2:ts[two]?=some l') :
  bB m (es++[(one,two)]) ((ts.set one (ins l k es.length)).set two (ins l' j es.length)):=by
 have old:∀{p l},ts[p]?=some l->es.length∉l:=fun{p l} e z=>by
  obtain⟨x,hx,_⟩:=(w.mem p l e es.length).mp z
  have:=(Fv.mp hx).1
  omega
 have get:∀ p q,((ts.set one (ins l k es.length)).set two (ins l' j es.length))[p]?=some q->(p=two/\q=ins l' j es.length)∨(p=one/\p≠two/\q=ins l k es.length)∨(p≠one/\p≠two/\ts[p]?=some q):=fun p q e=>by
  have L:two<(ts.set one (ins l k es.length)).length:=by rw[Gv,w.len];exact h2
  have L1:one<ts.length:=by rw[w.len];exact h1
  rw[Gg]at e
  by_cases z:two=p
  ·rw[if_pos z,if_pos L]at e
   exact .inl ⟨z.symm,(FW e).symm⟩
  ·rw[if_neg z,Gg]at e
   by_cases y:one=p
   ·rw[if_pos y,if_pos L1]at e
    exact .inr (.inl ⟨y.symm,Ne.symm z,(FW e).symm⟩)
   ·rw[if_neg y]at e
    exact .inr (.inr ⟨Ne.symm y,Ne.symm z,e⟩)
 have esg:∀ t x,(es++[(one,two)])[t]?=some x↔(es[t]?=some x)∨(t=es.length/\x=(one,two)):=fun t x=>by
  by_cases z:t<es.length
  ·rw[FA z]
   constructor
   ·exact .inl
   ·rintro(y | y)
    ·exact y
    ·omega
  ·rw[Fz (by omega)]
   constructor
   ·intro y
    have hl:=(Fv.mp y).1
    rw[FI]at hl
    have ht:t=es.length:=by omega
    subst ht
    rw[F5]at y
    cases y
    exact .inr ⟨rfl,rfl⟩
   ·rintro(y | ⟨y,rfl⟩)
    ·have:=(Fv.mp y).1;omega
    ·rw[y,F5];rfl
 refine⟨by rw[Gv,Gv];exact w.len,fun e he=>?_,fun p q e=>?_,fun p q e t=>?_⟩
 ·rcases FG.mp he with z | z
  ·exact w.ends e z
  ·have:e=(one,two):=by simpa using z
   subst this
   exact⟨h1,h2,hn⟩
 ·rcases get p q e with⟨_,rfl⟩ | ⟨_,_,rfl⟩ | ⟨_,_,y⟩
  ·exact B5 (w.nd two l' e2) (old e2)
  ·exact B5 (w.nd one l e1) (old e1)
  ·exact w.nd p q y
 ·rcases get p q e with⟨rfl,rfl⟩ | ⟨rfl,np,rfl⟩ | ⟨n1,n2,y⟩
  ·rw[xB,w.mem p l' e2 t]
   constructor
   ·rintro(z | ⟨x,hx,hp⟩)
    ·exact⟨(one,p),(esg _ _).mpr (.inr ⟨z,rfl⟩),.inr rfl⟩
    ·exact⟨x,(esg _ _).mpr (.inl hx),hp⟩
   ·rintro⟨x,hx,hp⟩
    rcases(esg _ _).mp hx with z | ⟨z,_⟩
    ·exact .inr ⟨x,z,hp⟩
    ·exact .inl z
  ·rw[xB,w.mem p l e1 t]
   constructor
   ·rintro(z | ⟨x,hx,hp⟩)
    ·exact⟨(p,two),(esg _ _).mpr (.inr ⟨z,rfl⟩),.inl rfl⟩
    ·exact⟨x,(esg _ _).mpr (.inl hx),hp⟩
   ·rintro⟨x,hx,hp⟩
    rcases(esg _ _).mp hx with z | ⟨z,_⟩
    ·exact .inr ⟨x,z,hp⟩
    ·exact .inl z
  ·rw[w.mem p q y t]
   constructor
   ·rintro⟨x,hx,hp⟩
    exact⟨x,(esg _ _).mpr (.inl hx),hp⟩
   ·rintro⟨x,hx,hp⟩
    rcases(esg _ _).mp hx with z | ⟨z,rfl⟩
    ·exact⟨x,z,hp⟩
    ·rcases hp with hp | hp
     ·exact absurd hp.symm n1
     ·exact absurd hp.symm n2
def hd(es:En)(d:Nat):Nat:=match es[d/2]? with | some e=>if d%2=0 then e.2 else e.1 | none=>0
def tl(es:En)(d:Nat):Nat:=match es[d/2]? with | some e=>if d%2=0 then e.1 else e.2 | none=>0
def leave(es:En)(t p:Nat):Nat:=match es[t]? with | some e=>if e.1=p then 2*t else 2*t+1 | none=>0
def nxt(l:List Nat)(t:Nat):Nat:=(l[(l.idxOf t+1)%l.length]?).getD 0
def fol(es:En)(ts:List (List Nat))(d:Nat):Nat:=leave es (nxt ((ts[hd es d]?).getD []) (d/2)) (hd es d)
section
variable{m:Nat}{es:En}{ts:List (List Nat)}
theorem xC{l:List Nat}{t:Nat}(h:t∈l):l[l.idxOf t]?=some t:=by
 have hl:=HD.mpr h
 rw[Fu hl,List.getElem_idxOf]
theorem gD{l:List Nat}{t:Nat}(h:t∈l):l[(l.idxOf t+1)%l.length]?=some (nxt l t):=by
 have hl:0<l.length:=Hj h
 have:=HQ (l.idxOf t+1) hl
 unfold nxt
 rw[Fu this]
 rfl
theorem bB.at(w:bB m es ts){d:Nat}(h:d<2*es.length):∃ e l,es[d/2]?=some e/\hd es d=(if d%2=0 then e.2 else e.1)/\tl es d=(if d%2=0 then e.1 else e.2)/\hd es d<m/\ts[hd es d]?=some l/\d/2∈l:=by
 have hl:d/2<es.length:=by omega
 have e1:es[d/2]?=some es[d/2]:=Fu hl
 have q:=w.ends _ (Fx e1)
 generalize es[d/2]=e at e1 q
 have h1:hd es d=(if d%2=0 then e.2 else e.1):=by unfold hd;rw[e1]
 have h2:tl es d=(if d%2=0 then e.1 else e.2):=by unfold tl;rw[e1]
 have h3:hd es d<m:=by rw[h1];split<;>omega
 have h4:ts[hd es d]?=some (ts[hd es d]'(by rw[w.len];exact h3)):=Fu _
 refine⟨e,_,e1,h1,h2,h3,h4,(w.mem _ _ h4 _).mpr ⟨e,e1,?_⟩⟩
 rw[h1]
 split
 ·exact .inr rfl
 ·exact .inl rfl
theorem bB.foll(w:bB m es ts){d:Nat}(h:d<2*es.length):∃ l e,ts[hd es d]?=some l/\d/2∈l/\es[nxt l (d/2)]?=some e/\(e.1=hd es d∨e.2=hd es d)/\e.1≠e.2/\fol es ts d=(if e.1=hd es d then 2*nxt l (d/2) else 2*nxt l (d/2)+1)/\fol es ts d<2*es.length/\fol es ts d/2=nxt l (d/2)/\tl es (fol es ts d)=hd es d:=by
 obtain⟨e0,l,h1,h2,h3,h4,h5,h6⟩:=w.at h
 have hn:=gD h6
 obtain⟨e,he,hp⟩:=(w.mem _ _ h5 _).mp (Fx hn)
 have hlt:=(Fv.mp he).1
 have hne:=(w.ends e (Fx he)).2.2
 have hf:fol es ts d=(if e.1=hd es d then 2*nxt l (d/2) else 2*nxt l (d/2)+1):=by
  unfold fol
  rw[h5]
  show leave es (nxt l (d/2)) (hd es d)=_
  unfold leave
  rw[he]
 refine⟨l,e,h5,h6,he,hp,hne,hf,?_,?_,?_⟩
 ·rw[hf];split<;>omega
 ·rw[hf];split<;>omega
 ·rw[hf]
  by_cases z:e.1=hd es d
  ·have a1:2*nxt l (d/2)/2=nxt l (d/2):=by omega
   have a2:2*nxt l (d/2)%2=0:=by omega
   rw[if_pos z]
   unfold tl
   rw[a1,he]
   show(if 2*nxt l (d/2)%2=0 then e.1 else e.2)=_
   rw[if_pos a2,z]
  ·have a1:(2*nxt l (d/2)+1)/2=nxt l (d/2):=by omega
   have a2:¬ (2*nxt l (d/2)+1)%2=0:=by omega
   rw[if_neg z]
   unfold tl
   rw[a1,he]
   show(if(2*nxt l (d/2)+1)%2=0 then e.1 else e.2)=_
   rw[if_neg a2]
   exact hp.elim (fun y=>absurd y z) id
theorem bB.inj(w:bB m es ts){a b:Nat}(ha:a<2*es.length)(hb:b<2*es.length)(h:fol es ts a=fol es ts b):a=b:=by
 obtain⟨l,e,p1,p2,_,_,_,_,_,p3,p4⟩:=w.foll ha
 obtain⟨l',e',q1,q2,_,_,_,_,_,q3,q4⟩:=w.foll hb
 have hh:hd es a=hd es b:=by rw[← p4,← q4,h]
 rw[hh,q1]at p1
 cases p1
 have hx:nxt l (a/2)=nxt l (b/2):=by rw[← p3,← q3,h]
 have g1:=gD p2
 have g2:=gD q2
 rw[hx]at g1
 have ii:=yK (w.nd _ _ q1) g1 g2
 have i1:=HD.mpr p2
 have i2:=HD.mpr q2
 have ix:l.idxOf (a/2)=l.idxOf (b/2):=by
  generalize l.idxOf (a/2)=x at *
  generalize l.idxOf (b/2)=y at *
  by_cases z1:x+1=l.length
  ·by_cases z2:y+1=l.length
   ·omega
   ·rw[z1,HK,Gz (by omega)]at ii;omega
  ·by_cases z2:y+1=l.length
   ·rw[z2,HK,Gz (by omega)]at ii;omega
   ·rw[Gz (by omega),Gz (by omega)]at ii;omega
 have ht:a/2=b/2:=by
  have g3:=xC p2
  have g4:=xC q2
  rw[ix,g4]at g3
  exact(FW g3).symm
 obtain⟨e1,_,r1,r2,_,_,_,_⟩:=w.at ha
 obtain⟨e2,_,s1,s2,_,_,_,_⟩:=w.at hb
 rw[ht,s1]at r1
 have ee:e2=e1:=FW r1
 rw[ee]at s1 s2
 have hne:=(w.ends e1 (Fx s1)).2.2
 rw[r2,s2]at hh
 have:a%2=b%2:=by
  by_cases z1:a%2=0<;>by_cases z2:b%2=0
  ·omega
  ·rw[if_pos z1,if_neg z2]at hh;exact absurd hh.symm hne
  ·rw[if_neg z1,if_pos z2]at hh;exact absurd hh hne
  ·omega
 omega
end
structure CL(f:Nat->Nat)(N:Nat):Prop where
 lt:∀ d,d<N->f d<N
 inj:∀ a b,a<N->b<N->f a=f b->a=b
structure Path(f:Nat->Nat)(N first:Nat)(r:List Nat):Prop where
 hd:r[0]?=some first
 lt:∀ d∈r,d<N
 nd:r.Nodup
 nx:∀ i x y,r[i]?=some x->r[i+1]?=some y->y=f x
theorem yI{f:Nat->Nat}{N d:Nat}(h:d<N):Path f N d [d] where
 hd:=rfl
 lt:=fun x hx=>by have:x=d:=by simpa using hx
                  rw[this];exact h
 nd:=by simp
 nx:=fun i x y h1 h2=>by
  have:=(Fv.mp h2).1
  rw[FI]at this
  omega
theorem Path.snoc{f:Nat->Nat}{N d x:Nat}{r:List Nat}(p:CL f N)(h:Path f N d (r++[x]))(hn:f x≠d):Path f N d (r++[x]++[f x]) where
 hd:=by rw[FA (by rw[Fy,FI];omega)];exact h.hd
 lt:=fun y hy=>by
  rcases FG.mp hy with z | z
  ·exact h.lt y z
  ·have:y=f x:=by simpa using z
   rw[this];exact p.lt x (h.lt x (by simp))
 nd:=by
  refine FY.mpr ⟨h.nd,by simp,fun a ha b hb e=>?_⟩
  have eb:b=f x:=by simpa using hb
  subst eb
  obtain⟨i,hi⟩:=Gj.mp ha
  rw[e]at hi
  have hil:=(Fv.mp hi).1
  rw[Fy,FI]at hil
  cases i with
  |zero =>
   rw[h.hd]at hi
   exact hn (FW hi).symm
  |succ i =>
   have gi:(r++[x])[i]?=some ((r++[x])[i]'(by rw[Fy,FI];omega)):=Fu _
   have:=h.nx i _ _ gi hi
   have mi:=h.lt _ (Fx gi)
   have mx:=h.lt x (by simp)
   have e2:=p.inj _ _ mx mi this
   rw[← e2]at gi
   have gx:(r++[x])[r.length]?=some x:=by rw[Fz (FD _),F5];rfl
   have:=yK h.nd gi gx
   omega
 nx:=fun i a b h1 h2=>by
  have h2l:=(Fv.mp h2).1
  rw[Fy,Fy,FI,FI]at h2l
  rw[FA (by rw[Fy,FI];omega)]at h1
  by_cases z:i+1<(r++[x]).length
  ·rw[FA z]at h2
   exact h.nx i a b h1 h2
  ·rw[Fy,FI]at z
   have ei:i=r.length:=by omega
   subst ei
   rw[Fz (by rw[Fy,FI];omega)]at h2
   have:r.length+1-(r++[x]).length=0:=by rw[Fy,FI];omega
   rw[this]at h2
   rw[Fz (FD _),F5]at h1
   have e1:x=a:=FW h1
   have e2:f x=b:=FW h2
   rw[← e2,e1]
structure Ring(f:Nat->Nat)(N:Nat)(r:List Nat):Prop where
 lt:∀ d∈r,d<N
 nd:r.Nodup
 ne:0<r.length
 nx:∀ i x,r[i]?=some x->r[(i+1)%r.length]?=some (f x)
theorem Path.ring{f:Nat->Nat}{N d x:Nat}{r:List Nat}(p:CL f N)(h:Path f N d (r++[x]))(he:f x=d):Ring f N (r++[x]) where
 lt:=h.lt
 nd:=h.nd
 ne:=by rw[Fy,FI];omega
 nx:=fun i y hy=>by
  have hl:=(Fv.mp hy).1
  by_cases z:i+1=(r++[x]).length
  ·rw[z,HK]
   have:i=r.length:=by rw[Fy,FI]at z;omega
   subst this
   rw[Fz (FD _),F5]at hy
   have:x=y:=FW hy
   subst this
   rw[he];exact h.hd
  ·have l2:i+1<(r++[x]).length:=by omega
   rw[Gz l2]
   have g:=Fu l2
   rw[g,h.nx i _ _ hy g]
theorem Ring.back{f:Nat->Nat}{N a:Nat}{r:List Nat}(p:CL f N)(h:Ring f N r)(ha:a<N)(hf:f a∈r):a∈r:=by
 obtain⟨i,hi⟩:=Gj.mp hf
 have hl:=(Fv.mp hi).1
 have key:∃ j,j<r.length/\(j+1)%r.length=i:=by
  cases i with
  |zero=>exact⟨r.length-1,by have:=h.ne;omega,by have:=h.ne;rw[show r.length-1+1=r.length by omega,HK]⟩
  |succ i=>exact⟨i,by omega,Gz hl⟩
 obtain⟨j,hj,ej⟩:=key
 have g:=Fu hj
 have q:=h.nx j _ g
 rw[ej,hi]at q
 have mj:=h.lt _ (Fx g)
 have:=p.inj _ _ ha mj (FW q)
 rw[this]
 exact Fx g
structure aU(f:Nat->Nat)(N i:Nat)(rs:List (List Nat)):Prop where
 ring:∀ r∈rs,Ring f N r
 hdl:∀ r∈rs,∀ h,r[0]?=some h->h<i/\∀ d∈r,h<=d
 asc:∀(a b:Nat)(r r':List Nat)(h h':Nat),a<b->rs[a]?=some r->rs[b]?=some r'->r[0]?=some h->r'[0]?=some h'->h<h'
 nd:rs.flatten.Nodup
 all:∀ d,d<i->d∈rs.flatten
theorem pf(f:Nat->Nat)(N:Nat):aU f N 0 [] where
 ring:=fun r h=>by cases h
 hdl:=fun r h=>by cases h
 asc:=fun a b r r' h h' _ e=>by cases e
 nd:=by simp
 all:=fun d h=>by omega
theorem aU.skip{f:Nat->Nat}{N i:Nat}{rs:List (List Nat)}(w:aU f N i rs)(h:i∈rs.flatten):aU f N (i+1) rs where
 ring:=w.ring
 hdl:=fun r hr x hx=>⟨by have:=(w.hdl r hr x hx).1;omega,(w.hdl r hr x hx).2⟩
 asc:=w.asc
 nd:=w.nd
 all:=fun d hd=>by
  by_cases z:d=i
  ·rw[z];exact h
  ·exact w.all d (by omega)
theorem aU.put{f:Nat->Nat}{N i:Nat}{rs:List (List Nat)}{r:List Nat}(p:CL f N)(w:aU f N i rs)(h:i∉rs.flatten)(hi:i<N)(hr:Ring f N r)(pa:Path f N i r):aU f N (i+1) (rs++[r]):=by
 have apart:∀(k x:Nat),r[k]?=some x->x∉rs.flatten:=fun k=>by
  induction k with
  |zero =>
   intro x hx
   rw[pa.hd]at hx
   cases hx
   exact h
  |succ k ih =>
   intro x hx z
   have hl:=(Fv.mp hx).1
   have g:=Fu (show k<r.length by omega)
   have e:=pa.nx k _ _ g hx
   obtain⟨q,hq,zq⟩:=Gi.mp z
   rw[e]at zq
   exact ih _ g (Gi.mpr ⟨q,hq,(w.ring q hq).back p (hr.lt _ (Fx g)) zq⟩)
 have least:∀ d∈r,i<=d:=fun d hd=>by
  obtain⟨k,hk⟩:=Gj.mp hd
  by_cases z:i<=d
  ·exact z
  ·exact absurd (w.all d (by omega)) (apart k d hk)
 refine⟨fun q hq=>?_,fun q hq x hx=>?_,fun a b q q' x x' hab ha hb hx hx'=>?_,?_,fun d hd=>?_⟩
 ·rcases FG.mp hq with z | z
  ·exact w.ring q z
  ·have:q=r:=by simpa using z
   rw[this];exact hr
 ·rcases FG.mp hq with z | z
  ·have:=w.hdl q z x hx
   exact⟨by omega,this.2⟩
  ·have e:q=r:=by simpa using z
   subst e
   rw[pa.hd]at hx
   cases hx
   exact⟨by omega,least⟩
 ·have bl:=(Fv.mp hb).1
  rw[Fy,FI]at bl
  rw[FA (by omega)]at ha
  by_cases z:b<rs.length
  ·rw[FA z]at hb
   exact w.asc a b q q' x x' hab ha hb hx hx'
  ·have eb:b=rs.length:=by omega
   subst eb
   rw[Fz (FD _),F5]at hb
   have e:r=q':=FW hb
   subst e
   rw[pa.hd]at hx'
   cases hx'
   exact(w.hdl q (Fx ha) x hx).1
 ·rw[Gy]
  have e : [r].flatten=r:=by simp
  rw[e]
  refine FY.mpr ⟨w.nd,hr.nd,fun a ha b hb e=>?_⟩
  obtain⟨k,hk⟩:=Gj.mp hb
  exact apart k b hk (e▸ha)
 ·rw[Gy,FG]
  by_cases z:d=i
  ·right
   rw[z]
   simp
   exact Fx pa.hd
  ·exact .inl (w.all d (by omega))
theorem Ff{rs:List (List Nat)}(nd:rs.flatten.Nodup){a b:Nat}{r r':List Nat}{d:Nat}(ha:rs[a]?=some r)(hb:rs[b]?=some r')(h1:d∈r)(h2:d∈r'):a=b:=by
 induction rs generalizing a b with
 |nil=>cases ha
 |cons q rs ih =>
  rw[Gb]at nd
  obtain⟨_,n2,n3⟩:=FY.mp nd
  cases a with
  |zero =>
   cases b with
   |zero=>rfl
   |succ b =>
    have e:q=r:=FW ha
    subst e
    exact absurd rfl (n3 d h1 d (Gi.mpr ⟨r',Fx hb,h2⟩))
  |succ a =>
   cases b with
   |zero =>
    have e:q=r':=FW hb
    subst e
    exact absurd rfl (n3 d h2 d (Gi.mpr ⟨r,Fx ha,h1⟩))
   |succ b=>exact congrArg Nat.succ (ih n2 ha hb)
end K8
namespace K8
def gW(f:Nat->Nat):Nat->List Nat->Nat->Prop
 |x,[],z=>f x=z
 |x,y::l,z=>f x=y/\gW f y l z
theorem gj{f:Nat->Nat}:∀{x:Nat}{l:List Nat}{y:Nat}{k:List Nat}{z:Nat},gW f x (l++y::k) z↔gW f x l y/\gW f y k z
 |x,[],y,k,z=>Iff.rfl
 |x,a::l,y,k,z=>by
  show(f x=a/\gW f a (l++y::k) z)↔(f x=a/\gW f a l y)/\gW f y k z
  rw[gj,and_assoc]
theorem jX{f g:Nat->Nat}:∀{x y:Nat}{l:List Nat}{z:Nat},gW f x l z->g y=f x->(∀ t∈l,g t=f t)->gW g y l z
 |x,y,[],z,h,e,_=>e.trans h
 |x,y,a::l,z,h,e,k=>⟨e.trans h.1,jX h.2 (k a (FP ..)) fun t ht=>k t (FK _ ht)⟩
theorem nH{f g F:Nat->Nat}:∀{x:Nat}{l:List Nat}{z:Nat},gW f x l z->(∀ t∈x::l,g (F t)=F (f t))->gW g (F x) (l.map F) (F z)
 |x,[],z,h,k=>by
  show g (F x)=F z
  rw[k x (FP ..),show f x=z from h]
 |x,a::l,z,h,k=>⟨by rw[k x (FP ..),h.1],nH h.2 fun t ht=>k t (FK _ ht)⟩
theorem nI{f:Nat->Nat}{S:Nat->Prop}:∀{x:Nat}{l:List Nat}{z:Nat},gW f x l z->(∀ t∈x::l,S t->S (f t))->S x->S z/\∀ t∈l,S t
 |x,[],z,h,k,s=>⟨by have:=k x (FP ..) s;rwa[show f x=z from h]at this,fun t ht=>nomatch ht⟩
 |x,a::l,z,h,k,s=>by
  have s1:S a:=by have:=k x (FP ..) s;rwa[h.1]at this
  obtain⟨h1,h2⟩:=nI h.2 (fun t ht=>k t (FK _ ht)) s1
  refine⟨h1,fun t ht=>?_⟩
  rcases FC.mp ht with y | y
  ·rw[y];exact s1
  ·exact h2 t y
structure CR(f:Nat->Nat)(N:Nat)(r:List Nat):Prop where
 ch:∃ x l,r=x::l/\gW f x l x
 lt:∀ d∈r,d<N
 nd:r.Nodup
theorem CR.closed{f:Nat->Nat}{N:Nat}{r:List Nat}(h:CR f N r):∀ d∈r,f d∈r:=by
 obtain⟨x,l,rfl,c⟩:=h.ch
 intro d hd
 rcases FC.mp hd with y | y
 ·subst y
  cases l with
  |nil=>rw[show f d=d from c];exact FP ..
  |cons a l=>rw[c.1];simp
 ·obtain⟨A,B,rfl⟩:=Hw y
  have c2:=(gj.mp c).2
  cases B with
  |nil=>rw[show f d=x from c2];exact FP ..
  |cons a B=>rw[c2.1];simp
theorem CR.sub{f:Nat->Nat}{N:Nat}{r:List Nat}{S:Nat->Prop}(h:CR f N r)(k:∀ t∈r,S t->S (f t)){d:Nat}(hd:d∈r)(s:S d):∀ t∈r,S t:=by
 obtain⟨x,l,rfl,c⟩:=h.ch
 have fromx:S x->∀ t∈x::l,S t:=fun sx t ht=>by
  rcases FC.mp ht with y | y
  ·rw[y];exact sx
  ·exact(nI c k sx).2 t y
 rcases FC.mp hd with y | y
 ·exact fromx (y▸s)
 ·obtain⟨A,B,rfl⟩:=Hw y
  have c2:=(gj.mp c).2
  exact fromx (nI c2 (fun t ht=>k t (by simp only[FC,FG]at ht ⊢;rcases ht with z | z<;>simp[z])) s).1
theorem CR.same{f:Nat->Nat}{N:Nat}{r r':List Nat}(h:CR f N r)(h':CR f N r'){d:Nat}(h1:d∈r)(h2:d∈r'):∀ t∈r,t∈r':=h.sub (S:=fun t=>t∈r') (fun t _=>h'.closed t) h1 h2
theorem CR.ne{f:Nat->Nat}{N:Nat}{r:List Nat}(h:CR f N r):∃ d,d∈r:=by
 obtain⟨x,l,rfl,_⟩:=h.ch
 exact⟨x,FP ..⟩
structure Part(f:Nat->Nat)(N:Nat)(rs:List (List Nat)):Prop where
 cr:∀ r∈rs,CR f N r
 nd:rs.flatten.Nodup
 all:∀ d,d<N->d∈rs.flatten
theorem Part.pick{f:Nat->Nat}{N:Nat}{rs:List (List Nat)}(p:Part f N rs){r:List Nat}(h:CR f N r):∃ rest,Part f N (r::rest)/\rest.length+1=rs.length:=by
 obtain⟨d,hd⟩:=h.ne
 obtain⟨r0,m1,m2⟩:=Gi.mp (p.all d (h.lt d hd))
 have c0:=p.cr r0 m1
 have s1:=h.same c0 hd m2
 have s2:=c0.same h m2 hd
 obtain⟨A,B,rfl⟩:=Hw m1
 have nd:=p.nd
 rw[Gy,Gb]at nd
 obtain⟨n1,n2,n3⟩:=FY.mp nd
 obtain⟨n4,n5,n6⟩:=FY.mp n2
 refine⟨A++B,⟨fun q hq=>?_,?_,fun y hy=>?_⟩,by simp;omega⟩
 ·rcases FC.mp hq with z | z
  ·rw[z];exact h
  ·refine p.cr q ?_
   rcases FG.mp z with z | z
   ·simp[z]
   ·simp[z]
 ·rw[Gb,Gy]
  refine FY.mpr ⟨h.nd,FY.mpr ⟨n1,n5,fun a ha b hb=>n3 a ha b (by simp[hb])⟩,fun a ha b hb=>?_⟩
  rcases FG.mp hb with z | z
  ·exact fun e=>n3 b z a (F3 _ (s1 a ha)) e.symm
  ·exact n6 a (s1 a ha) b z
 ·have:=p.all y hy
  rw[Gy,Gb]at this
  rw[Gb,Gy]
  simp only[FG]at this ⊢
  rcases this with z | z | z
  ·exact .inr (.inl z)
  ·exact .inl (s2 y z)
  ·exact .inr (.inr z)
theorem Part.same:∀{rs qs:List (List Nat)}{f:Nat->Nat}{N:Nat},Part f N rs->Part f N qs->rs.length=qs.length:=by
 have le:∀(k:Nat){rs qs:List (List Nat)}{f:Nat->Nat}{N:Nat},Part f N rs->Part f N qs->rs.length<=qs.length:=by
  intro _ rs qs f N p q
  have g:∀ r∈rs,∃ i,i<qs.length/\∃ r',qs[i]?=some r'/\∀ t∈r',t∈r:=fun r hr=>by
   have c:=p.cr r hr
   obtain⟨d,hd⟩:=c.ne
   obtain⟨r',m1,m2⟩:=Gi.mp (q.all d (c.lt d hd))
   obtain⟨i,hi⟩:=Gj.mp m1
   exact⟨i,(Fv.mp hi).1,r',hi,(q.cr r' m1).same c m2 hd⟩
  have:∀(l:List (List Nat)),(∀ r∈l,r∈rs)->l.flatten.Nodup->∃ is:List Nat,is.length=l.length/\is.Nodup/\∀ i∈is,i<qs.length/\∃ r∈l,∃ r',qs[i]?=some r'/\∀ t∈r',t∈r:=fun l=>by
   induction l with
   |nil=>intro _ _;exact⟨[],rfl,Hy,fun i hi=>nomatch hi⟩
   |cons r l ih =>
    intro h nd
    rw[Gb]at nd
    obtain⟨n1,n2,n3⟩:=FY.mp nd
    obtain⟨is,e1,e2,e3⟩:=ih (fun r hr=>h r (FK _ hr)) n2
    obtain⟨i,h1,r',h2,h3⟩:=g r (h r (FP ..))
    refine⟨i::is,by simp[e1],FT.mpr ⟨fun z=>?_,e2⟩,fun j hj=>?_⟩
    ·obtain⟨_,r2,m2,r3,m3,m4⟩:=e3 i z
     rw[h2]at m3
     cases m3
     obtain⟨d,hd⟩:=(q.cr r' (Fx h2)).ne
     exact n3 d (h3 d hd) d (Gi.mpr ⟨r2,m2,m4 d hd⟩) rfl
    ·rcases FC.mp hj with z | z
     ·subst z;exact⟨h1,r,FP ..,r',h2,h3⟩
     ·obtain⟨k1,r2,k2,k3⟩:=e3 j z
      exact⟨k1,r2,FK _ k2,k3⟩
  obtain⟨is,e1,e2,e3⟩:=this rs (fun _ h=>h) p.nd
  rw[← e1]
  exact c5 e2 fun i hi=>(e3 i hi).1
 intro rs qs f N p q
 exact HL (le 0 p q) (le 0 q p)
theorem Ring.cr{f:Nat->Nat}{N:Nat}{r:List Nat}(h:Ring f N r):CR f N r:=by
 refine⟨?_,h.lt,h.nd⟩
 have ne:=h.ne
 match r,h,ne with
 |x::l,h,_ =>
  refine⟨x,l,rfl,?_⟩
  have key:∀(k i:Nat)(y:Nat),i+k+1=(x::l).length->(x::l)[i]?=some y->gW f y ((x::l).drop (i+1)) x:=fun k=>by
   induction k with
   |zero =>
    intro i y hi hy
    have e:=h.nx i y hy
    rw[show(i+1)%(x::l).length=0 by rw[← hi];simp]at e
    rw[List.drop_of_length_le (by omega)]
    exact(FW e).symm
   |succ k ih =>
    intro i y hi hy
    have e:=h.nx i y hy
    rw[Gz (by omega)]at e
    obtain⟨hl,e2⟩:=Fv.mp e
    rw[IE hl,e2]
    exact⟨rfl,ih (i+1) (f y) (by omega) e⟩
  exact key l.length 0 x (by simp) rfl
theorem aU.part{f:Nat->Nat}{N:Nat}{rs:List (List Nat)}(w:aU f N N rs):Part f N rs:=⟨fun r hr=>(w.ring r hr).cr,w.nd,w.all⟩
end K8
namespace K8
theorem uB{A B:List Nat}{t:Nat}(h:t∉A):(A++t::B).idxOf t=A.length:=by
 rw[List.idxOf_append,if_neg h,List.idxOf_cons_self,Nat.zero_add]
theorem aY{A B:List Nat}{t:Nat}(h:t∉A):nxt (A++t::B) t=((B++(A++t::B)).head?).getD 0:=by
 unfold nxt
 rw[uB h]
 cases B with
 |nil =>
  have e:(A.length+1)%(A++[t]).length=0:=by rw[Fy,FI,HK]
  rw[e,List.nil_append,List.head?_eq_getElem?]
 |cons b B =>
  have e:(A.length+1)%(A++t::b::B).length=A.length+1:=Gz (by simp)
  rw[e,Fz (by omega)]
  rw[show A.length+1-A.length=1 by omega]
  rfl
theorem B4{A B:List Nat}{u n:Nat}(h:u∉A):ins (A++u::B) ((A++u::B).idxOf u+1) n=A++u::n::B:=by
 rw[uB h]
 unfold ins
 have e1:(A++u::B).take (A.length+1)=A++[u]:=by
  rw[List.take_append,G2 (by omega),show A.length+1-A.length=1 by omega]
  rfl
 have e2:(A++u::B).drop (A.length+1)=B:=by simp
 rw[e1,e2]
 simp
theorem fG{l:List Nat}{u:Nat}(h:u∈l):∃ A B,l=A++u::B/\u∉A:=by
 induction l with
 |nil=>exact nomatch h
 |cons a l ih =>
  by_cases z:a=u
  ·subst z;exact⟨[],l,rfl,Il⟩
  ·rcases FC.mp h with y | y
   ·exact absurd y.symm z
   ·obtain⟨A,B,rfl,k⟩:=ih y
    exact⟨a::A,B,rfl,fun w=>by rcases FC.mp w with w | w;exact z w.symm;exact k w⟩
theorem E2{l:List Nat}{u n:Nat}(hu:u∈l)(hn:n∉l) :
  nxt (ins l (l.idxOf u+1) n) u=n/\nxt (ins l (l.idxOf u+1) n) n=nxt l u/\∀ t∈l,t≠u->nxt (ins l (l.idxOf u+1) n) t=nxt l t:=by
 obtain⟨A,B,rfl,k⟩:=fG hu
 rw[B4 k]
 have hnA:n∉A:=fun z=>hn (by simp[z])
 have hnu:n≠u:=fun z=>hn (by simp[z])
 refine⟨?_,?_,fun t ht htu=>?_⟩
 ·rw[aY k];rfl
 ·have e:A++u::n::B=(A++[u])++n::B:=by simp
  rw[e,aY (fun z=>by rcases FG.mp z with z | z;exact hnA z;exact hnu (by simpa using z)),aY k]
  cases B<;>cases A<;>rfl
 ·rcases FG.mp ht with z | z
  ·obtain⟨A1,A2,rfl,k2⟩:=fG z
   have e1:(A1++t::A2)++u::n::B=A1++t::(A2++u::n::B):=by simp
   have e2:(A1++t::A2)++u::B=A1++t::(A2++u::B):=by simp
   rw[e1,e2,aY k2,aY k2]
   cases A2<;>rfl
  ·have z':t∈B:=by
    rcases FC.mp z with z | z
    ·exact absurd z htu
    ·exact z
   by_cases tA:t∈A
   ·obtain⟨A1,A2,rfl,k2⟩:=fG tA
    have e1:(A1++t::A2)++u::n::B=A1++t::(A2++u::n::B):=by simp
    have e2:(A1++t::A2)++u::B=A1++t::(A2++u::B):=by simp
    rw[e1,e2,aY k2,aY k2]
    cases A2<;>rfl
   ·obtain⟨B1,B2,rfl,k2⟩:=fG z'
    have tn:t≠n:=fun y=>hn (by rw[← y];simp)
    have e1:A++u::n::(B1++t::B2)=(A++u::n::B1)++t::B2:=by simp
    have e2:A++u::(B1++t::B2)=(A++u::B1)++t::B2:=by simp
    rw[e1,e2,aY (by simp[tA,htu,tn,k2]),aY (by simp[tA,htu,k2])]
    cases B2<;>cases A<;>rfl
theorem nh{es:En}{e:Nat×Nat}{t p:Nat}(h:t<es.length):leave (es++[e]) t p=leave es t p:=by
 unfold leave
 rw[FA h]
theorem uj{es:En}{e:Nat×Nat}{p:Nat}:leave (es++[e]) es.length p=if e.1=p then 2*es.length else 2*es.length+1:=by
 unfold leave
 rw[Fz (FD _),F5]
 rfl
theorem pq{es:En}{e:Nat×Nat}{d:Nat}(h:d<2*es.length):hd (es++[e]) d=hd es d:=by
 unfold hd
 rw[FA (by omega)]
theorem hd_new{es:En}{e:Nat×Nat}:hd (es++[e]) (2*es.length)=e.2/\hd (es++[e]) (2*es.length+1)=e.1:=by
 have e1:2*es.length/2=es.length:=by omega
 have e2:(2*es.length+1)/2=es.length:=by omega
 constructor
 ·unfold hd
  rw[e1,Fz (FD _),F5]
  show(if 2*es.length%2=0 then e.2 else e.1)=_
  rw[if_pos (by omega)]
 ·unfold hd
  rw[e2,Fz (FD _),F5]
  show(if(2*es.length+1)%2=0 then e.2 else e.1)=_
  rw[if_neg (by omega)]
theorem hd_inj{m:Nat}{es:En}{ts:List (List Nat)}(w:bB m es ts){a b:Nat}(ha:a<2*es.length)(hb:b<2*es.length)(h:hd es a=hd es b)(h2:a/2=b/2):a=b:=by
 obtain⟨e1,_,r1,r2,_⟩:=w.at ha
 obtain⟨e2,_,s1,s2,_⟩:=w.at hb
 rw[h2,s1]at r1
 cases r1
 have hne:=(w.ends e1 (Fx s1)).2.2
 rw[r2,s2]at h
 by_cases z1:a%2=0<;>by_cases z2:b%2=0
 ·omega
 ·rw[if_pos z1,if_neg z2]at h;exact absurd h.symm hne
 ·rw[if_neg z1,if_pos z2]at h;exact absurd h hne
 ·omega
def iM(n:Nat)(e:Nat×Nat)(p:Nat):Nat:=if e.1=p then 2*n else 2*n+1
theorem eW{es:En}{ts:List (List Nat)}{d:Nat}{l:List Nat}(h:ts[hd es d]?=some l):fol es ts d=leave es (nxt l (d/2)) (hd es d):=by
 unfold fol
 rw[h]
 rfl
end K8
namespace K8
theorem bB.flip{m:Nat}{es:En}{ts:List (List Nat)}{a b:Nat}(w:bB m (es++[(a,b)]) ts):bB m (es++[(b,a)]) ts:=by
 have key:∀(x y:Nat)(t p:Nat),(∃ e,(es++[(x,y)])[t]?=some e/\(e.1=p∨e.2=p))->∃ e,(es++[(y,x)])[t]?=some e/\(e.1=p∨e.2=p):=fun x y t p=>by
  rintro⟨e,h1,h2⟩
  by_cases z:t<es.length
  ·rw[FA z]at h1
   exact⟨e,by rw[FA z];exact h1,h2⟩
  ·have hl:=(Fv.mp h1).1
   rw[Fy,FI]at hl
   have z':t=es.length:=by omega
   subst z'
   rw[Fz (FD _),F5]at h1
   cases h1
   exact⟨(y,x),by rw[Fz (FD _),F5];rfl,h2.symm⟩
 refine⟨w.len,fun e he=>?_,w.nd,fun p l h t=>⟨fun z=>key a b t p ((w.mem p l h t).mp z),fun z=>(w.mem p l h t).mpr (key b a t p z)⟩⟩
 rcases FG.mp he with z | z
 ·exact w.ends e (F3 _ z)
 ·have:e=(b,a):=by simpa using z
  subst this
  obtain⟨h1,h2,h3⟩:=w.ends (a,b) (by simp)
  exact⟨h2,h1,fun y=>h3 y.symm⟩
theorem bB.room{m:Nat}{es:En}{ts:List (List Nat)}(w:bB m es ts):bB (m+1) es (ts++[[]]):=by
 refine⟨by rw[Fy,w.len];rfl,fun e he=>?_,fun p l h=>?_,fun p l h t=>?_⟩
 ·obtain⟨h1,h2,h3⟩:=w.ends e he
  exact⟨by omega,by omega,h3⟩
 all_goals by_cases z:p<ts.length
 ·rw[FA z]at h
  exact w.nd p l h
 ·have hl:=(Fv.mp h).1
  rw[Fy,FI]at hl
  have z':p=ts.length:=by omega
  subst z'
  rw[Fz (FD _),F5]at h
  cases h
  exact Hy
 ·rw[FA z]at h
  exact w.mem p l h t
 ·have hl:=(Fv.mp h).1
  rw[Fy,FI]at hl
  have z':p=ts.length:=by omega
  subst z'
  rw[Fz (FD _),F5]at h
  cases h
  refine⟨(fun y=>nomatch y),?_⟩
  rintro⟨e,h1,h2⟩
  obtain⟨k1,k2,_⟩:=w.ends e (Fx h1)
  have:=w.len
  omega
theorem Fj{m:Nat}{es:En}{ts:List (List Nat)}(w:bB m es ts){p:Nat}{l:List Nat}(h:ts[p]?=some l):es.length∉l:=fun z=>by
 obtain⟨x,hx,_⟩:=(w.mem p l h es.length).mp z
 have:=(Fv.mp hx).1
 omega
theorem xG{m:Nat}{es:En}{ts ts':List (List Nat)}{e:Nat×Nat}{p u:Nat}{l:List Nat}(w:bB m es ts)(hl:ts[p]?=some l)(hu:u<2*es.length)(hp:hd es u=p)(hl':ts'[p]?=some (ins l (l.idxOf (u/2)+1) es.length)) :
  fol (es++[e]) ts' u=iM es.length e p/\(∀ b,b/2=es.length->hd (es++[e]) b=p->fol (es++[e]) ts' b=fol es ts u)/\∀ d,d<2*es.length->d≠u->hd es d=p->fol (es++[e]) ts' d=fol es ts d:=by
 obtain⟨_,l0,_,_,_,_,g5,g6⟩:=w.at hu
 rw[hp,hl]at g5
 cases g5
 have nn:=Fj w hl
 obtain⟨n1,n2,n3⟩:=E2 g6 nn
 have lt:∀ t∈l,nxt l t<es.length:=fun t ht=>by
  obtain⟨x,hx,_⟩:=(w.mem p l hl (nxt l t)).mp (Fx (gD ht))
  exact(Fv.mp hx).1
 refine⟨?_,fun b hb hpb=>?_,fun d hd' hne hpd=>?_⟩
 ·rw[eW (l:=ins l (l.idxOf (u/2)+1) es.length) (by rw[pq hu,hp];exact hl'),n1,pq hu,hp,uj]
  rfl
 ·rw[eW (l:=ins l (l.idxOf (u/2)+1) es.length) (by rw[hpb];exact hl'),hb,n2,hpb,nh (lt _ g6),eW (l:=l) (by rw[hp];exact hl),hp]
 ·obtain⟨_,l0,_,_,_,_,k5,k6⟩:=w.at hd'
  rw[hpd,hl]at k5
  cases k5
  have tne:d/2≠u/2:=fun z=>hne (hd_inj w hd' hu (hpd.trans hp.symm) z)
  rw[eW (l:=ins l (l.idxOf (u/2)+1) es.length) (by rw[pq hd',hpd];exact hl'),n3 _ k6 tne,pq hd',hpd,nh (lt _ k6),eW (l:=l) (by rw[hpd];exact hl),hpd]
theorem yR{m:Nat}{es:En}{ts ts':List (List Nat)}{e:Nat×Nat}(w:bB m es ts){d:Nat}(hd':d<2*es.length)(h:ts'[hd es d]?=ts[hd es d]?):fol (es++[e]) ts' d=fol es ts d:=by
 obtain⟨_,l,_,_,_,_,k5,k6⟩:=w.at hd'
 have lt:nxt l (d/2)<es.length:=by
  obtain⟨x,hx,_⟩:=(w.mem _ l k5 (nxt l (d/2))).mp (Fx (gD k6))
  exact(Fv.mp hx).1
 rw[eW (l:=l) (by rw[pq hd',h];exact k5),pq hd',nh lt,eW k5]
theorem b9(n:Nat)(e:Nat×Nat)(p:Nat):iM n e p/2=n:=by
 unfold iM
 split<;>omega
theorem yU{es:En}{one two:Nat}{e:Nat×Nat}(hne:one≠two)(he:e=(one,two)∨e=(two,one)):hd (es++[e]) (iM es.length e one)=two/\hd (es++[e]) (iM es.length e two)=one/\iM es.length e one≠iM es.length e two/\∀ d,d<2*(es.length+1)->d<2*es.length∨d=iM es.length e one∨d=iM es.length e two:=by
 obtain⟨h1,h2⟩:=hd_new (es:=es) (e:=e)
 unfold iM
 rcases he with he | he
 ·have c1:e.1=one:=by rw[he]
  have c2:¬ e.1=two:=by rw[he];exact hne
  have c3:e.2=two:=by rw[he]
  rw[if_pos c1,if_neg c2,h1,h2]
  exact⟨c3,c1,by omega,fun d hd=>by omega⟩
 ·have c1:e.1=two:=by rw[he]
  have c2:¬ e.1=one:=by rw[he];exact fun z=>hne z.symm
  have c3:e.2=one:=by rw[he]
  rw[if_pos c1,if_neg c2,h1,h2]
  exact⟨c1,c3,by omega,fun d hd=>by omega⟩
def par(S:Nat->Bool):List Nat->Bool
 |[]=>false
 |d::l=>S (d/2) ^^ par S l
theorem aF(S:Nat->Bool)(d:Nat)(l:List Nat):par S (d::l)=(S (d/2) ^^ par S l):=rfl
theorem wB(S:Nat->Bool):∀ a b:List Nat,par S (a++b)=(par S a ^^ par S b)
 |[],b=>by show par S b=(false ^^ par S b);rw[IG]
 |x::a,b=>by rw[Im,aF,aF,wB S a b,IF]
theorem qG(S:Nat->Bool){a b:List Nat}(p:a.Perm b):par S a=par S b:=by
 induction p with
 |nil=>rfl
 |cons x _ ih=>rw[aF,aF,ih]
 |swap x y l=>rw[aF,aF,aF,aF,← IF,← IF,IM (S (y/2))]
 |trans _ _ a b=>exact a.trans b
theorem Bn(S:Nat->Bool)(σ:Nat->Nat):∀ l:List Nat,par S (l.map fun d=>2*σ (d/2)+d%2)=par (fun t=>S (σ t)) l
 |[]=>rfl
 |d::l=>by
  rw[F9,aF,aF,Bn S σ l,show(2*σ (d/2)+d%2)/2=σ (d/2) by omega]
def CM(es:En)(S Pl:Nat->Bool):Prop:=∀(t:Nat)(e:Nat×Nat),es[t]?=some e->S t=(Pl e.1 ^^ Pl e.2)
theorem yW{es:En}{S Pl:Nat->Bool}(h:CM es S Pl){d:Nat}(hd':d<2*es.length):S (d/2)=(Pl (tl es d) ^^ Pl (hd es d)):=by
 have e1:es[d/2]?=some (es[d/2]'(by omega)):=Fu _
 rw[h _ _ e1]
 unfold tl hd
 rw[e1]
 show _=(Pl (if d%2=0 then es[d/2].1 else es[d/2].2) ^^ Pl (if d%2=0 then es[d/2].2 else es[d/2].1))
 split
 ·rfl
 ·exact IM _ _
theorem yV{m:Nat}{es:En}{ts:List (List Nat)}{S Pl:Nat->Bool}(w:bB m es ts)(h:CM es S Pl):∀{x:Nat}{l:List Nat}{z:Nat},gW (fol es ts) x l z->x<2*es.length->(∀ t∈l,t<2*es.length)->z<2*es.length->par S (l++[z])=(Pl (hd es x) ^^ Pl (hd es z))
 |x,[],z,c,hx,_,hz=>by
  obtain⟨_,_,_,_,_,_,_,_,_,_,k⟩:=w.foll hx
  have c':fol es ts x=z:=c
  rw[List.nil_append,aF,yW h hz,← c',k]
  exact Bool.xor_false _
 |x,a::l,z,c,hx,hl,hz=>by
  obtain⟨_,_,_,_,_,_,_,_,_,_,k⟩:=w.foll hx
  have ha:=hl a (FP ..)
  rw[Im,aF,yV w h c.2 ha (fun t ht=>hl t (FK _ ht)) hz,yW h ha,← c.1,k]
  cases Pl (hd es x)<;>cases Pl (hd es (fol es ts x))<;>cases Pl (hd es z)<;>rfl
structure Gr(m:Nat)(es:En)(ts:List (List Nat)):Prop where
 w:bB m es ts
 part:∃ rs,Part (fol es ts) (2*es.length) rs/\m+rs.length=es.length+2
 conn:∀ S:Nat->Prop,(∀ e∈es,S e.1↔S e.2)->∀ p q,p<m->q<m->S p->S q
 cut:∀ S:Nat->Bool,(∀ r,CR (fol es ts) (2*es.length) r->par S r=false)->∃ Pl:Nat->Bool,CM es S Pl
theorem CR.mono{f g:Nat->Nat}{N M:Nat}{r:List Nat}(h:CR f N r)(hN:N<=M)(k:∀ t∈r,g t=f t):CR g M r:=by
 obtain⟨x,l,rfl,c⟩:=h.ch
 exact⟨⟨x,l,rfl,jX c (k x (FP ..)) fun t ht=>k t (FK _ ht)⟩,fun d hd=>F2 (h.lt d hd) hN,h.nd⟩
theorem DF{m:Nat}{es:En}{e:Nat×Nat}(c:∀ S:Nat->Prop,(∀ e∈es,S e.1↔S e.2)->∀ p q,p<m->q<m->S p->S q):∀ S:Nat->Prop,(∀ x∈es++[e],S x.1↔S x.2)->∀ p q,p<m->q<m->S p->S q :=
 fun S h=>c S fun x hx=>h x (F3 _ hx)
theorem Gr.join{m:Nat}{es:En}{ts:List (List Nat)}(g:Gr m es ts){left right one two:Nat}{e:Nat×Nat}{l l' tail:List Nat}(hl:left<2*es.length)(hr:CR (fol es ts) (2*es.length) (left::tail))(hch:gW (fol es ts) left tail left)(hm:right∈left::tail)
  (h1:hd es left=one) (h2:hd es right=two) (hne:one≠two) (he:e=(one,two)∨e=(two,one)) (e1:ts[one]?=some l) (e2:ts[two]?=some l') :
  Gr m (es++[e]) ((ts.set one (ins l (l.idxOf (left/2)+1) es.length)).set two (ins l' (l'.idxOf (right/2)+1) es.length)):=by
 have w:=g.w
 have hrt:right<2*es.length:=hr.lt right hm
 have hlen:=w.len
 have o1:one<m:=by rw[← hlen];exact(Fv.mp e1).1
 have o2:two<m:=by rw[← hlen];exact(Fv.mp e2).1
 have W:bB m (es++[e]) ((ts.set one (ins l (l.idxOf (left/2)+1) es.length)).set two (ins l' (l'.idxOf (right/2)+1) es.length)):=by
  rcases he with rfl | rfl
  ·exact w.put o1 o2 hne e1 e2
  ·exact(w.put o1 o2 hne e1 e2).flip
 have r1:((ts.set one (ins l (l.idxOf (left/2)+1) es.length)).set two (ins l' (l'.idxOf (right/2)+1) es.length))[one]?=some (ins l (l.idxOf (left/2)+1) es.length):=by
  rw[Gg,if_neg (fun z=>hne z.symm),Gg,if_pos rfl,if_pos (by rw[hlen];exact o1)]
 have r2:((ts.set one (ins l (l.idxOf (left/2)+1) es.length)).set two (ins l' (l'.idxOf (right/2)+1) es.length))[two]?=some (ins l' (l'.idxOf (right/2)+1) es.length):=by
  rw[Gg,if_pos rfl,if_pos (by rw[Gv,hlen];exact o2)]
 have r3:∀ p,p≠one->p≠two->((ts.set one (ins l (l.idxOf (left/2)+1) es.length)).set two (ins l' (l'.idxOf (right/2)+1) es.length))[p]?=ts[p]?:=fun p n1 n2=>by
  rw[Gg,if_neg (fun z=>n2 z.symm),Gg,if_neg (fun z=>n1 z.symm)]
 generalize (ts.set one (ins l (l.idxOf (left/2)+1) es.length)).set two (ins l' (l'.idxOf (right/2)+1) es.length)=ts' at W r1 r2 r3
 obtain⟨a1,a2,a3⟩:=xG (e:=e) w e1 hl h1 r1
 obtain⟨b1,b2,b3⟩:=xG (e:=e) w e2 hrt h2 r2
 obtain⟨d1,d2,d3,d4⟩:=yU (es:=es) hne he
 have fa:=b2 _ (b9 _ _ _) d1
 have fb:=a2 _ (b9 _ _ _) d2
 have els:∀ d,d<2*es.length->d≠left->d≠right->fol (es++[e]) ts' d=fol es ts d:=fun d hd' n1 n2=>by
  by_cases z1:hd es d=one
  ·exact a3 d hd' n1 z1
  ·by_cases z2:hd es d=two
   ·exact b3 d hd' n2 z2
   ·exact yR w hd' (r3 _ z1 z2)
 generalize ha:iM es.length e one=α at *
 generalize hb:iM es.length e two=β at *
 have hα:α/2=es.length:=by rw[← ha];exact b9 _ _ _
 have hβ:β/2=es.length:=by rw[← hb];exact b9 _ _ _
 have hlr:right≠left:=fun z=>hne (by rw[← h1,← h2,z])
 have hm':right∈tail:=by
  rcases FC.mp hm with z | z
  ·exact absurd z hlr
  ·exact z
 obtain⟨xs,ys,rfl⟩:=Hw hm'
 obtain⟨c1,c2⟩:=gj.mp hch
 have nd:=hr.nd
 have ltx:∀ t∈xs,t<2*es.length/\t≠left/\t≠right:=fun t ht=>by
  refine⟨hr.lt t (by simp[ht]),fun z=>?_,fun z=>?_⟩
  ·subst z;exact(FT.mp nd).1 (by simp[ht])
  ·subst z
   have:=(FY.mp (FT.mp nd).2).2.2 t ht t (by simp)
   exact this rfl
 have lty:∀ t∈ys,t<2*es.length/\t≠left/\t≠right:=fun t ht=>by
  refine⟨hr.lt t (by simp[ht]),fun z=>?_,fun z=>?_⟩
  ·subst z;exact(FT.mp nd).1 (by simp[ht])
  ·subst z
   exact(FT.mp (FY.mp (FT.mp nd).2).2.1).1 ht
 obtain⟨rs,p,cnt⟩:=g.part
 obtain⟨rest,pr,cnt2⟩:=p.pick hr
 have ndr:=pr.nd
 rw[Gb]at ndr
 obtain⟨_,nd2,nd3⟩:=FY.mp ndr
 have ltr:∀ t∈rest.flatten,t<2*es.length/\t≠left/\t≠right:=fun t ht=>by
  obtain⟨q,q1,q2⟩:=Gi.mp ht
  exact⟨(pr.cr q (FK _ q1)).lt t q2,fun z=>nd3 left (by simp) t ht z.symm,fun z=>nd3 right (by simp) t ht z.symm⟩
 have hlen2:(es++[e]).length=es.length+1:=by rw[Fy];rfl
 have PP:Part (fol (es++[e]) ts') (2*(es++[e]).length) ((left::α::ys)::(right::β::xs)::rest):=by
  refine⟨fun q hq=>?_,?_,fun d hd'=>?_⟩
  ·rcases FC.mp hq with z | z
   ·subst z
    refine⟨⟨left,α::ys,rfl,a1,jX c2 fa fun t ht=>els t (lty t ht).1 (lty t ht).2.1 (lty t ht).2.2⟩,fun d hd'=>?_,?_⟩
    ·rw[hlen2]
     simp only[FC]at hd'
     rcases hd' with y | y | y
     ·omega
     ·omega
     ·have:=(lty d y).1;omega
    ·refine FT.mpr ⟨fun y=>?_,FT.mpr ⟨fun y=>?_,?_⟩⟩
     ·rcases FC.mp y with y | y
      ·omega
      ·exact(lty _ y).2.1 rfl
     ·have:=(lty _ y).1;omega
     ·exact(FT.mp (FY.mp (FT.mp nd).2).2.1).2
   ·rcases FC.mp z with z | z
    ·subst z
     refine⟨⟨right,β::xs,rfl,b1,jX c1 fb fun t ht=>els t (ltx t ht).1 (ltx t ht).2.1 (ltx t ht).2.2⟩,fun d hd'=>?_,?_⟩
     ·rw[hlen2]
      simp only[FC]at hd'
      rcases hd' with y | y | y
      ·omega
      ·omega
      ·have:=(ltx d y).1;omega
     ·refine FT.mpr ⟨fun y=>?_,FT.mpr ⟨fun y=>?_,?_⟩⟩
      ·rcases FC.mp y with y | y
       ·omega
       ·exact(ltx _ y).2.2 rfl
      ·have:=(ltx _ y).1;omega
      ·exact(FY.mp (FT.mp nd).2).1
    ·refine(pr.cr q (FK _ z)).mono (by rw[hlen2];omega) fun t ht=>?_
     obtain⟨k1,k2,k3⟩:=ltr t (Gi.mpr ⟨q,z,ht⟩)
     exact els t k1 k2 k3
  ·have dis:∀ x∈xs,∀ y∈ys,x≠y:=fun x hx y hy=>(FY.mp (FT.mp nd).2).2.2 x hx y (by simp[hy])
   rw[Gb,Gb]
   refine FY.mpr ⟨?_,FY.mpr ⟨?_,nd2,fun a ha b hb=>?_⟩,fun a ha b hb=>?_⟩
   ·refine FT.mpr ⟨fun y=>?_,FT.mpr ⟨fun y=>?_,(FT.mp (FY.mp (FT.mp nd).2).2.1).2⟩⟩
    ·rcases FC.mp y with y | y
     ·omega
     ·exact(lty _ y).2.1 rfl
    ·have:=(lty _ y).1;omega
   ·refine FT.mpr ⟨fun y=>?_,FT.mpr ⟨fun y=>?_,(FY.mp (FT.mp nd).2).1⟩⟩
    ·rcases FC.mp y with y | y
     ·omega
     ·exact(ltx _ y).2.2 rfl
    ·have:=(ltx _ y).1;omega
   ·obtain⟨k1,k2,k3⟩:=ltr b hb
    simp only[FC]at ha
    rcases ha with y | y | y
    ·exact fun z=>k3 (z▸y)
    ·omega
    ·exact nd3 a (by simp[y]) b hb
   ·simp only[FC,FG]at ha hb
    rcases hb with(y | y | y) | y
    ·rcases ha with z | z | z
     ·exact fun u=>hlr (by rw[← y,← u,z])
     ·have:=hrt;omega
     ·exact fun u=>(lty a z).2.2 (u.trans y)
    ·rcases ha with z | z | z
     ·omega
     ·omega
     ·have:=(lty a z).1;omega
    ·rcases ha with z | z | z
     ·exact fun u=>(ltx b y).2.1 (u▸z)
     ·have:=(ltx b y).1;omega
     ·exact fun u=>dis b y a z u.symm
    ·obtain⟨k1,k2,k3⟩:=ltr b y
     rcases ha with z | z | z
     ·exact fun u=>k2 (u▸z)
     ·omega
     ·exact nd3 a (by simp[z]) b y
  ·rw[hlen2]at hd'
   simp only[Gb,FG,FC]
   rcases d4 d hd' with y | y | y
   ·have:=pr.all d y
    simp only[Gb,FG,FC]at this
    rcases this with(z | z | z | z) | z
    ·exact .inl (.inl z)
    ·exact .inr (.inl (.inr (.inr z)))
    ·exact .inr (.inl (.inl z))
    ·exact .inl (.inr (.inr z))
    ·exact .inr (.inr z)
   ·exact .inl (.inr (.inl y))
   ·exact .inr (.inl (.inr (.inl y)))
 refine⟨W,⟨_,PP,by rw[hlen2];simp only[Ge]at cnt2 ⊢;omega⟩,DF g.conn,fun S ev=>?_⟩
 have e1:=ev _ (PP.cr _ (FP ..))
 have e2:=ev _ (PP.cr _ (FK _ (FP ..)))
 rw[aF,aF,hα]at e1
 rw[aF,aF,hβ]at e2
 have lr:left∈left::(xs++right::ys):=FP ..
 have rr:right∈left::(xs++right::ys):=by simp
 have old:∀ r,CR (fol es ts) (2*es.length) r->par S r=false:=fun r hr'=>by
  by_cases hin:left∈r
  ·have pm:r.Perm (left::(xs++right::ys)):=(G7 hr'.nd hr.nd).mpr fun t=>⟨hr'.same hr hin lr t,hr.same hr' lr hin t⟩
   rw[qG S pm,aF,wB,aF]
   revert e1 e2
   generalize S (left/2)=a
   generalize S (right/2)=b
   generalize S es.length=c
   generalize par S xs=d
   generalize par S ys=f
   cases a<;>cases b<;>cases c<;>cases d<;>cases f<;>decide
  ·refine ev r (hr'.mono (by rw[hlen2];omega) fun t ht=>els t (hr'.lt t ht) (fun z=>hin (z▸ht)) fun z=>hin (hr.same hr' rr (z▸ht) left lr))
 obtain⟨Pl,hP⟩:=g.cut S old
 refine⟨Pl,fun t x hx=>?_⟩
 by_cases ht:t<es.length
 ·rw[FA ht]at hx
  exact hP t x hx
 ·have ht2:t=es.length:=by
   have:=(Fv.mp hx).1
   rw[hlen2]at this
   omega
  subst ht2
  rw[Fz (FD _),F5]at hx
  have hx':e=x:=FW hx
  subst hx'
  have tw:=yV w hP c1 hl (fun t ht=>(ltx t ht).1) hrt
  rw[h1,h2,wB,aF]at tw
  have goal:S es.length=(Pl one ^^ Pl two):=by
   rw[← tw]
   revert e2
   show _->S es.length=(par S xs ^^ (S (right/2) ^^ false))
   generalize S (right/2)=b
   generalize S es.length=c
   generalize par S xs=d
   cases b<;>cases c<;>cases d<;>decide
  rcases he with z | z
  ·rw[z];exact goal
  ·rw[z];exact goal.trans (IM _ _)
end K8
namespace K8
theorem Gr.leaf{m:Nat}{es:En}{ts:List (List Nat)}(g:Gr m es ts){left one:Nat}{e:Nat×Nat}{l tail:List Nat}(hl:left<2*es.length)(hr:CR (fol es ts) (2*es.length) (left::tail))(hch:gW (fol es ts) left tail left)
  (h1:hd es left=one) (he:e=(one,m)∨e=(m,one)) (e1:ts[one]?=some l) :
  Gr (m+1) (es++[e]) (ts.set one (ins l (l.idxOf (left/2)+1) es.length)++[[es.length]]):=by
 have w:=g.w
 have hlen:=w.len
 have o1:one<m:=by rw[← hlen];exact(Fv.mp e1).1
 have hne:one≠m:=by omega
 have W:bB (m+1) (es++[e]) (ts.set one (ins l (l.idxOf (left/2)+1) es.length)++[[es.length]]):=by
  have q:=w.room.put (one:=one) (two:=m) (k:=l.idxOf (left/2)+1) (j:=0) (l:=l) (l':=[]) (by omega) (by omega) hne (by rw[FA (by omega)];exact e1) (by rw[Fz (by omega),hlen,F5];rfl)
  have q2:((ts++[[]]).set one (ins l (l.idxOf (left/2)+1) es.length)).set m (ins [] 0 es.length)=ts.set one (ins l (l.idxOf (left/2)+1) es.length)++[[es.length]]:=by
   rw[List.set_append_left _ _ (by omega),List.set_append_right _ _ (by rw[Gv];omega),Gv,hlen,F5]
   rfl
  rw[q2]at q
  rcases he with rfl | rfl
  ·exact q
  ·exact q.flip
 have r1:(ts.set one (ins l (l.idxOf (left/2)+1) es.length)++[[es.length]])[one]?=some (ins l (l.idxOf (left/2)+1) es.length):=by
  rw[FA (by rw[Gv];omega),Gg,if_pos rfl,if_pos (by omega)]
 have r2:(ts.set one (ins l (l.idxOf (left/2)+1) es.length)++[[es.length]])[m]?=some [es.length]:=by
  rw[Fz (by rw[Gv];omega),Gv,hlen,F5]
  rfl
 have r3:∀ p,p≠one->p<m->(ts.set one (ins l (l.idxOf (left/2)+1) es.length)++[[es.length]])[p]?=ts[p]?:=fun p n1 n2=>by
  rw[FA (by rw[Gv];omega),Gg,if_neg (fun z=>n1 z.symm)]
 generalize ts.set one (ins l (l.idxOf (left/2)+1) es.length)++[[es.length]]=ts' at W r1 r2 r3
 obtain⟨a1,a2,a3⟩:=xG (e:=e) w e1 hl h1 r1
 obtain⟨d1,d2,d3,d4⟩:=yU (es:=es) hne he
 have fb:=a2 _ (b9 _ _ _) d2
 have fa:fol (es++[e]) ts' (iM es.length e one)=iM es.length e m:=by
  rw[eW (l:=[es.length]) (by rw[d1];exact r2),b9,d1]
  have:nxt [es.length] es.length=es.length:=by
   unfold nxt
   rw[List.idxOf_cons_self]
   simp
  rw[this,uj]
  rfl
 have els:∀ d,d<2*es.length->d≠left->fol (es++[e]) ts' d=fol es ts d:=fun d hd' n1=>by
  by_cases z1:hd es d=one
  ·exact a3 d hd' n1 z1
  ·obtain⟨_,_,_,_,_,k4,_⟩:=w.at hd'
   exact yR w hd' (r3 _ z1 k4)
 generalize ha:iM es.length e one=α at *
 generalize hb:iM es.length e m=β at *
 have hα:α/2=es.length:=by rw[← ha];exact b9 _ _ _
 have hβ:β/2=es.length:=by rw[← hb];exact b9 _ _ _
 have nd:=hr.nd
 have ltt:∀ t∈tail,t<2*es.length/\t≠left:=fun t ht=>⟨hr.lt t (by simp[ht]),fun z=>(FT.mp nd).1 (z▸ht)⟩
 obtain⟨rs,p,cnt⟩:=g.part
 obtain⟨rest,pr,cnt2⟩:=p.pick hr
 have ndr:=pr.nd
 rw[Gb]at ndr
 obtain⟨_,nd2,nd3⟩:=FY.mp ndr
 have ltr:∀ t∈rest.flatten,t<2*es.length/\t≠left:=fun t ht=>by
  obtain⟨q,q1,q2⟩:=Gi.mp ht
  exact⟨(pr.cr q (FK _ q1)).lt t q2,fun z=>nd3 left (by simp) t ht z.symm⟩
 have hlen2:(es++[e]).length=es.length+1:=by rw[Fy];rfl
 have nd4:(left::α::β::tail).Nodup:=by
  refine FT.mpr ⟨fun y=>?_,FT.mpr ⟨fun y=>?_,FT.mpr ⟨fun y=>?_,(FT.mp nd).2⟩⟩⟩
  ·simp only[FC]at y
   rcases y with y | y | y
   ·omega
   ·omega
   ·exact(ltt _ y).2 rfl
  ·simp only[FC]at y
   rcases y with y | y
   ·exact d3 y
   ·have:=(ltt _ y).1;omega
  ·have:=(ltt _ y).1;omega
 have PP:Part (fol (es++[e]) ts') (2*(es++[e]).length) ((left::α::β::tail)::rest):=by
  refine⟨fun q hq=>?_,?_,fun d hd'=>?_⟩
  ·rcases FC.mp hq with z | z
   ·subst z
    refine⟨⟨left,α::β::tail,rfl,a1,fa,jX hch fb fun t ht=>els t (ltt t ht).1 (ltt t ht).2⟩,fun d hd'=>?_,nd4⟩
    rw[hlen2]
    simp only[FC]at hd'
    rcases hd' with y | y | y | y
    ·omega
    ·omega
    ·omega
    ·have:=(ltt d y).1;omega
   ·refine(pr.cr q (FK _ z)).mono (by rw[hlen2];omega) fun t ht=>?_
    obtain⟨k1,k2⟩:=ltr t (Gi.mpr ⟨q,z,ht⟩)
    exact els t k1 k2
  ·rw[Gb]
   refine FY.mpr ⟨nd4,nd2,fun a ha b hb=>?_⟩
   obtain⟨k1,k2⟩:=ltr b hb
   simp only[FC]at ha
   rcases ha with y | y | y | y
   ·exact fun u=>k2 (u▸y)
   ·omega
   ·omega
   ·exact nd3 a (by simp[y]) b hb
  ·rw[hlen2]at hd'
   simp only[Gb,FG,FC]
   rcases d4 d hd' with y | y | y
   ·have:=pr.all d y
    simp only[Gb,FG,FC]at this
    rcases this with(z | z) | z
    ·exact .inl (.inl z)
    ·exact .inl (.inr (.inr (.inr z)))
    ·exact .inr z
   ·exact .inl (.inr (.inl y))
   ·exact .inl (.inr (.inr (.inl y)))
 refine⟨W,⟨_,PP,by rw[hlen2];simp only[Ge]at cnt2 ⊢;omega⟩,fun S hS x y hx hy sx=>?_,fun S ev=>?_⟩
 ·-- in one piece
  have hSe:S one↔S m:=by
   have:=hS e (by simp)
   rcases he with rfl | rfl
   ·exact this
   ·exact this.symm
  have old:=g.conn S fun x hx=>hS x (F3 _ hx)
  have toOne:S one:=by
   by_cases z:x<m
   ·exact old x one z o1 sx
   ·have:x=m:=by omega
    subst this
    exact hSe.mpr sx
  by_cases z:y<m
  ·exact old one y o1 z toOne
  ·have:y=m:=by omega
   subst this
   exact hSe.mp toOne
 ·have e1:=ev _ (PP.cr _ (FP ..))
  rw[aF,aF,aF,hα,hβ]at e1
  have old:∀ r,CR (fol es ts) (2*es.length) r->par S r=false:=fun r hr'=>by
   by_cases hin:left∈r
   ·have pm:r.Perm (left::tail):=(G7 hr'.nd hr.nd).mpr fun t=>⟨hr'.same hr hin (FP ..) t,hr.same hr' (FP ..) hin t⟩
    rw[qG S pm,aF]
    revert e1
    generalize S (left/2)=a
    generalize S es.length=c
    generalize par S tail=d
    cases a<;>cases c<;>cases d<;>decide
   ·exact ev r (hr'.mono (by rw[hlen2];omega) fun t ht=>els t (hr'.lt t ht) fun z=>hin (z▸ht))
  obtain⟨Pl,hP⟩:=g.cut S old
  refine⟨fun p=>if p=m then(Pl one ^^ S es.length) else Pl p,fun t x hx=>?_⟩
  by_cases ht:t<es.length
  ·rw[FA ht]at hx
   obtain⟨b1,b2,_⟩:=w.ends x (Fx hx)
   show S t=((if x.1=m then _ else Pl x.1) ^^ (if x.2=m then _ else Pl x.2))
   rw[if_neg (by omega),if_neg (by omega)]
   exact hP t x hx
  ·have ht2:t=es.length:=by
    have:=(Fv.mp hx).1
    rw[hlen2]at this
    omega
   subst ht2
   rw[Fz (FD _),F5]at hx
   have hx':e=x:=FW hx
   subst hx'
   rcases he with z | z
   ·rw[z]
    show S es.length=((if one=m then _ else Pl one) ^^ (if m=m then(Pl one ^^ S es.length) else _))
    rw[if_neg hne,if_pos rfl]
    cases Pl one<;>cases S es.length<;>rfl
   ·rw[z]
    show S es.length=((if m=m then(Pl one ^^ S es.length) else _) ^^ (if one=m then _ else Pl one))
    rw[if_neg hne,if_pos rfl]
    cases Pl one<;>cases S es.length<;>rfl
theorem gr_two:Gr 2 [(0,1)] [[0],[0]]:=by
 have W:bB 2 [(0,1)] [[0],[0]]:=by
  refine⟨rfl,fun e he=>?_,fun p l h=>?_,fun p l h t=>?_⟩
  ·have:e=(0,1):=by simpa using he
   subst this
   exact⟨by decide,by decide,by decide⟩
  ·match p,h with
   |0,h=>cases h;decide
   |1,h=>cases h;decide
   |p+2,h=>cases h
  ·have key:(∃ e,([(0,1)]:En)[t]?=some e/\(e.1=p∨e.2=p))↔t=0/\(p=0∨p=1):=by
    constructor
    ·rintro⟨e,h1,h2⟩
     match t,h1 with
     |0,h1=>cases h1;exact⟨rfl,h2.imp Eq.symm Eq.symm⟩
     |t+1,h1=>cases h1
    ·rintro⟨rfl,h2⟩
     exact⟨(0,1),rfl,h2.imp Eq.symm Eq.symm⟩
   rw[key]
   match p,h with
   |0,h=>cases h;simp
   |1,h=>cases h;simp
   |p+2,h=>cases h
 refine⟨W,⟨[[0,1]],⟨fun r hr=>?_,by decide,fun d hd=>?_⟩,rfl⟩,fun S hS p q hp hq sp=>?_,fun S ev=>?_⟩
 ·have:r = [0,1]:=by simpa using hr
  subst this
  exact⟨⟨0,[1],rfl,by decide,(by show fol [(0,1)] [[0],[0]] 1=0;decide)⟩,fun d hd=>by simp at hd ⊢;omega,by decide⟩
 ·have hd2:d<2:=hd
  simp
  omega
 ·have:=hS (0,1) (by simp)
  have h01:S 0↔S 1:=this
  have hp':p=0∨p=1:=by omega
  have hq':q=0∨q=1:=by omega
  rcases hp' with rfl | rfl<;>rcases hq' with rfl | rfl
  ·exact sp
  ·exact h01.mp sp
  ·exact h01.mpr sp
  ·exact sp
 ·refine⟨fun p=>if p=1 then S 0 else false,fun t x hx=>?_⟩
  match t,hx with
  |0,hx =>
   cases hx
   show S 0=((if(0:Nat)=1 then S 0 else false) ^^ (if(1:Nat)=1 then S 0 else false))
   rw[if_neg (by decide),if_pos rfl,IG]
  |t+1,hx=>cases hx
end K8
namespace K8
structure Bij(F:Nat->Nat)(n:Nat):Prop where
 lt:∀ k,k<n->F k<n
 inj:∀ a b,a<n->b<n->F a=F b->a=b
 sur:∀ y,y<n->∃ k,k<n/\F k=y
def ofL(o:List Nat)(k:Nat):Nat:=(o[k]?).getD 0
theorem yZ{o:List Nat}{n:Nat}(hl:o.length=n)(nd:o.Nodup)(h:∀ x∈o,x<n):Bij (ofL o) n:=by
 have get:∀ k,k<n->o[k]?=some (ofL o k):=fun k hk=>by
  unfold ofL
  rw[Fu (by omega)]
  rfl
 refine⟨fun k hk=>h _ (Fx (get k hk)),fun a b ha hb e=>yK nd (get a ha) (by rw[get b hb,e]),fun y hy=>?_⟩
 have hm:y∈o:=by
  by_cases z:y∈o
  ·exact z
  ·have:=c5 (a:=y::o) (N:=n) (FT.mpr ⟨z,nd⟩) fun x hx=>by
    rcases FC.mp hx with u | u
    ·omega
    ·exact h x u
   rw[Ge]at this
   omega
 obtain⟨k,hk⟩:=Gj.mp hm
 have hkl:=(Fv.mp hk).1
 refine⟨k,by omega,?_⟩
 have:=get k (by omega)
 rw[hk]at this
 exact(FW this).symm
theorem ua{F:Nat->Nat}:∀{l:List Nat},l.Nodup->(∀ x∈l,∀ y∈l,F x=F y->x=y)->(l.map F).Nodup
 |[],_,_=>Hy
 |a::l,nd,h=>by
  obtain⟨n1,n2⟩:=FT.mp nd
  refine FT.mpr ⟨fun z=>?_,ua n2 fun x hx y hy=>h x (FK _ hx) y (FK _ hy)⟩
  obtain⟨x,hx,e⟩:=Gk.mp z
  have:=h x (FK _ hx) a (FP ..) e
  exact n1 (this▸hx)
theorem E1{F:Nat->Nat}{l:List Nat}{t:Nat}(ht:t∈l)(h:∀ x∈l,F x=F t->x=t):nxt (l.map F) (F t)=F (nxt l t):=by
 obtain⟨A,B,rfl,k⟩:=fG ht
 have k2:F t∉A.map F:=fun z=>by
  obtain⟨x,hx,e⟩:=Gk.mp z
  exact k (h x (by simp[hx]) e▸hx)
 rw[F8,F9,aY k2,aY k]
 cases B<;>cases A<;>rfl
theorem EZ{X Y:List Nat}{t:Nat}(nd:(X++Y).Nodup)(ht:t∈X++Y):nxt (Y++X) t=nxt (X++Y) t:=by
 obtain⟨n1,n2,n3⟩:=FY.mp nd
 rcases FG.mp ht with z | z
 ·have tY:t∉Y:=fun y=>n3 t z t y rfl
  obtain⟨A,B,rfl,k⟩:=fG z
  have e1:Y++(A++t::B)=(Y++A)++t::B:=by simp
  have e2:(A++t::B)++Y=A++t::(B++Y):=by simp
  rw[e1,e2,aY (by simp[tY,k]),aY k]
  cases B<;>cases Y<;>cases A<;>rfl
 ·have tX:t∉X:=fun y=>n3 t y t z rfl
  obtain⟨A,B,rfl,k⟩:=fG z
  have e1:(A++t::B)++X=A++t::(B++X):=by simp
  have e2:X++(A++t::B)=(X++A)++t::B:=by simp
  rw[e1,e2,aY k,aY (by simp[tX,k])]
  cases B<;>cases X<;>cases A<;>rfl
structure Ren(m:Nat)(es es2:En)(ts ts2:List (List Nat))(π σ:Nat->Nat):Prop where
 pi:Bij π m
 si:Bij σ es.length
 l1:es2.length=es.length
 l2:ts2.length=m
 es:∀(k:Nat)(e:Nat×Nat),es[k]?=some e->es2[σ k]?=some (π e.1,π e.2)
 ts:∀(p:Nat)(l:List Nat),ts[p]?=some l->∃ X Y,l=X++Y/\ts2[π p]?=some ((Y++X).map σ)
section
variable{m:Nat}{es es2:En}{ts ts2:List (List Nat)}{π σ:Nat->Nat}
theorem Ren.es'(R:Ren m es es2 ts ts2 π σ){j:Nat}{x:Nat×Nat}(h:es2[j]?=some x):∃ k e,σ k=j/\es[k]?=some e/\x=(π e.1,π e.2):=by
 have hj:=(Fv.mp h).1
 rw[R.l1]at hj
 obtain⟨k,hk,rfl⟩:=R.si.sur j hj
 have e1:es[k]?=some es[k]:=Fu hk
 have:=R.es k _ e1
 rw[h]at this
 exact⟨k,_,rfl,e1,FW this⟩
theorem Ren.ts'(R:Ren m es es2 ts ts2 π σ)(w:bB m es ts){j:Nat}{L:List Nat}(h:ts2[j]?=some L):∃ p l X Y,p<m/\π p=j/\ts[p]?=some l/\l=X++Y/\L=(Y++X).map σ:=by
 have hj:=(Fv.mp h).1
 rw[R.l2]at hj
 obtain⟨p,hp,rfl⟩:=R.pi.sur j hj
 have e1:ts[p]?=some (ts[p]'(by rw[w.len];exact hp)):=Fu _
 obtain⟨X,Y,h1,h2⟩:=R.ts p _ e1
 rw[h]at h2
 exact⟨p,_,X,Y,hp,rfl,e1,h1,FW h2⟩
theorem lh(w:bB m es ts){p:Nat}{l:List Nat}(h:ts[p]?=some l){t:Nat}(ht:t∈l):t<es.length:=by
 obtain⟨x,hx,_⟩:=(w.mem p l h t).mp ht
 exact(Fv.mp hx).1
theorem Ren.turn(R:Ren m es es2 ts ts2 π σ)(w:bB m es ts):bB m es2 ts2:=by
 refine⟨R.l2,fun x hx=>?_,fun j L h=>?_,fun j L h t=>?_⟩
 ·obtain⟨j,hj⟩:=Gj.mp hx
  obtain⟨k,e,_,h1,rfl⟩:=R.es' hj
  obtain⟨a1,a2,a3⟩:=w.ends e (Fx h1)
  exact⟨R.pi.lt _ a1,R.pi.lt _ a2,fun z=>a3 (R.pi.inj _ _ a1 a2 z)⟩
 ·obtain⟨p,l,X,Y,hp,rfl,h1,rfl,rfl⟩:=R.ts' w h
  have nd:=w.nd p _ h1
  obtain⟨n1,n2,n3⟩:=FY.mp nd
  refine ua (FY.mpr ⟨n2,n1,fun a ha b hb z=>n3 b hb a ha z.symm⟩) fun x hx y hy=>R.si.inj x y (lh w h1 ?_) (lh w h1 ?_)
  ·simp only[FG]at hx ⊢;exact hx.symm
  ·simp only[FG]at hy ⊢;exact hy.symm
 ·obtain⟨p,l,X,Y,hp,rfl,h1,rfl,rfl⟩:=R.ts' w h
  constructor
  ·intro z
   obtain⟨k,hk,rfl⟩:=Gk.mp z
   obtain⟨e,h2,h3⟩:=(w.mem p _ h1 k).mp (by simp only[FG]at hk ⊢;exact hk.symm)
   exact⟨_,R.es k e h2,h3.imp (congrArg π) (congrArg π)⟩
  ·rintro⟨x,h2,h3⟩
   obtain⟨k,e,rfl,h4,rfl⟩:=R.es' h2
   obtain⟨a1,a2,a3⟩:=w.ends e (Fx h4)
   have hk:=(w.mem p _ h1 k).mpr ⟨e,h4,h3.imp (R.pi.inj _ _ a1 hp) (R.pi.inj _ _ a2 hp)⟩
   exact Gk.mpr ⟨k,by simp only[FG]at hk ⊢;exact hk.symm,rfl⟩
def Phi(σ:Nat->Nat)(d:Nat):Nat:=2*σ (d/2)+d%2
theorem mP(d:Nat):Phi σ d/2=σ (d/2):=by unfold Phi;omega
theorem Ren.hd(R:Ren m es es2 ts ts2 π σ){d:Nat}(hd':d<2*es.length):hd es2 (Phi σ d)=π (hd es d):=by
 have e1:es[d/2]?=some (es[d/2]'(by omega)):=Fu _
 have e2:=R.es _ _ e1
 unfold K8.hd
 rw[mP,e1,e2]
 have hm:Phi σ d%2=d%2:=by unfold Phi;omega
 show(if Phi σ d%2=0 then π es[d/2].2 else π es[d/2].1)=π (if d%2=0 then es[d/2].2 else es[d/2].1)
 rw[hm]
 split<;>rfl
theorem Ren.fol(R:Ren m es es2 ts ts2 π σ)(w:bB m es ts){d:Nat}(hd':d<2*es.length):fol es2 ts2 (Phi σ d)=Phi σ (fol es ts d):=by
 obtain⟨_,l,_,_,_,k4,k5,k6⟩:=w.at hd'
 obtain⟨X,Y,rfl,h2⟩:=R.ts _ _ k5
 have nd:=w.nd _ _ k5
 rw[eW (l:=(Y++X).map σ) (by rw[R.hd hd'];exact h2),eW k5,mP,R.hd hd']
 have k7:d/2∈Y++X:=by simp only[FG]at k6 ⊢;exact k6.symm
 rw[E1 k7 fun x hx=>R.si.inj x _ (lh w k5 (by simp only[FG]at hx ⊢;exact hx.symm)) (lh w k5 k6),EZ nd k6]
 have hn:=Fx (gD k6)
 have hlt:=lh w k5 hn
 generalize nxt (X++Y) (d/2)=t at hlt
 have e1:es[t]?=some es[t]:=Fu hlt
 have a1:=(w.ends _ (Fx e1)).1
 unfold leave
 rw[R.es _ _ e1,e1]
 show(if π es[t].1=π (K8.hd es d) then 2*σ t else 2*σ t+1)=Phi σ (if es[t].1=K8.hd es d then 2*t else 2*t+1)
 by_cases z:es[t].1=K8.hd es d
 ·rw[if_pos z,if_pos (congrArg π z)]
  unfold Phi
  rw[show 2*t/2=t by omega]
  omega
 ·rw[if_neg z,if_neg (fun y=>z (R.pi.inj _ _ a1 k4 y))]
  unfold Phi
  rw[show(2*t+1)/2=t by omega]
  omega
theorem yt(b:Bij σ es.length){x y:Nat}(hx:x<2*es.length)(hy:y<2*es.length)(e:Phi σ x=Phi σ y):x=y:=by
 have e1:σ (x/2)=σ (y/2):=by
  have h1:=mP (σ:=σ) x
  have h2:=mP (σ:=σ) y
  rw[e]at h1
  exact h1.symm.trans h2
 have:=b.inj _ _ (by omega) (by omega) e1
 unfold Phi at e
 omega
theorem Ren.gr(R:Ren m es es2 ts ts2 π σ)(g:Gr m es ts):Gr m es2 ts2:=by
 obtain⟨rs,p,cnt⟩:=g.part
 have flt:∀ d∈rs.flatten,d<2*es.length:=fun d hd=>by
  obtain⟨r,h1,h2⟩:=Gi.mp hd
  exact(p.cr r h1).lt d h2
 have hfl:(rs.map (List.map (Phi σ))).flatten=rs.flatten.map (Phi σ):=List.map_flatten.symm
 refine⟨R.turn g.w,⟨rs.map (List.map (Phi σ)),⟨fun q hq=>?_,?_,fun d hd=>?_⟩,by rw[FF,R.l1];exact cnt⟩,fun S hS x y hx hy sx=>?_,fun S ev=>?_⟩
 ·obtain⟨r,hr,rfl⟩:=Gk.mp hq
  have c:=p.cr r hr
  obtain⟨x,l,rfl,ch⟩:=c.ch
  refine⟨⟨Phi σ x,l.map (Phi σ),rfl,nH ch fun t ht=>R.fol g.w (c.lt t ht)⟩,fun d hd=>?_,ua c.nd fun a ha b hb=>yt R.si (c.lt a ha) (c.lt b hb)⟩
  obtain⟨t,ht,rfl⟩:=Gk.mp hd
  have h1:=c.lt t ht
  have h2:=R.si.lt (t/2) (by omega)
  rw[R.l1]
  unfold Phi
  omega
 ·rw[hfl]
  exact ua p.nd fun a ha b hb=>yt R.si (flt a ha) (flt b hb)
 ·rw[R.l1]at hd
  obtain⟨k,hk,e⟩:=R.si.sur (d/2) (by omega)
  rw[hfl]
  refine Gk.mpr ⟨2*k+d%2,p.all _ (by omega),?_⟩
  unfold Phi
  rw[show(2*k+d%2)/2=k by omega,e]
  omega
 ·obtain⟨x',hx',rfl⟩:=R.pi.sur x hx
  obtain⟨y',hy',rfl⟩:=R.pi.sur y hy
  refine g.conn (fun p=>S (π p)) (fun e he=>?_) x' y' hx' hy' sx
  obtain⟨k,hk⟩:=Gj.mp he
  exact hS (π e.1,π e.2) (Fx (R.es k e hk))
 ·obtain⟨Pl,hP⟩:=g.cut (fun t=>S (σ t)) fun r hr=>by
   rw[← Bn S σ r]
   refine ev _ ?_
   obtain⟨x,l,rfl,ch⟩:=hr.ch
   refine⟨⟨Phi σ x,l.map (Phi σ),rfl,nH ch fun t ht=>R.fol g.w (hr.lt t ht)⟩,fun d hd=>?_,ua hr.nd fun a ha b hb=>yt R.si (hr.lt a ha) (hr.lt b hb)⟩
   obtain⟨t,ht,rfl⟩:=Gk.mp hd
   have h1:=hr.lt t ht
   have h2:=R.si.lt (t/2) (by omega)
   rw[R.l1]
   omega
  have inv:∀ p,p<m->((Hd m).find? fun q=>decide (π q=π p))=some p:=fun p hp=>by
   cases z:(Hd m).find? fun q=>decide (π q=π p) with
   |none=>exact absurd (decide_eq_true rfl) (List.find?_eq_none.mp z p (Hz.mpr hp))
   |some q =>
    have h0:=List.find?_some z
    have h1:π q=π p:=of_decide_eq_true h0
    rw[R.pi.inj q p (Hz.mp (List.mem_of_find?_eq_some z)) hp h1]
  refine⟨fun y=>Pl (((Hd m).find? fun q=>decide (π q=y)).getD 0),fun j x hx=>?_⟩
  obtain⟨k,e,rfl,h1,rfl⟩:=R.es' hx
  obtain⟨b1,b2,_⟩:=g.w.ends e (Fx h1)
  show S (σ k)=(Pl (((Hd m).find? fun q=>decide (π q=π e.1)).getD 0) ^^ Pl (((Hd m).find? fun q=>decide (π q=π e.2)).getD 0))
  rw[inv _ b1,inv _ b2]
  exact hP k e h1
end
end K8
namespace K8
open PySem L2
local macro_rules | `(tactic| walk_at "cc") => `(tactic| first | exact ⟨by decide, by decide⟩ | (show (0 : Int) < _; decide) | (show (0 : Int) < _; omega) | (show (0 : Int) ≤ _; omega) | exact ⟨by decide, by decide, by decide⟩ | exact ⟨by omega, by omega, by decide⟩ | exact Or.inl ⟨by decide, by decide⟩ | exact Or.inl ⟨by omega, by omega⟩)
local macro_rules | `(tactic| walk_at "rd") => `(tactic| repeat (first | refine ⟨_, rfl, ?_⟩ | refine ⟨_, _, rfl, rfl, ?_⟩ | refine ⟨rfl, ?_⟩ | (refine ⟨?cc, ?_⟩; (case cc => walk_at "cc"))))
def top(i:Nat):Stmt:=PySem.Challenge.pw_spinfloor_k15_whole_layings_of_sets.main.body.getD i (.Pass ⟨0,0,0,0⟩)
abbrev aW:Stmt:=kE (top 7) 0
abbrev fe:Stmt:=top 9
abbrev iu:Stmt:=top 11
abbrev iw:Stmt:=top 12
abbrev bM:Stmt:=top 13
abbrev cD:Stmt:=top 14
abbrev b7:Stmt:=kE (top 16) 0
abbrev dv:Stmt:=kE (top 16) 1
abbrev b6:Stmt:=kE (top 16) 5
abbrev cK:Stmt:=kE (top 18) 0
abbrev pd:Stmt:=top 20
abbrev fi:Stmt:=top 21
abbrev du:Stmt:=top 22
abbrev bX:Stmt:=top 23
abbrev cC:Stmt:=top 24
abbrev di:Stmt:=top 25
abbrev e9:Stmt:=top 27
abbrev bN:Stmt:=top 29
abbrev bD:Stmt:=top 30
abbrev bg:Stmt:=top 31
abbrev b5:Stmt:=kE (top 32) 0
abbrev dt:Stmt:=top 34
abbrev dq:Stmt:=top 35
abbrev b4:Stmt:=top 36
abbrev cF:Stmt:=top 37
abbrev cH:Stmt:=top 38
abbrev cG:Stmt:=top 39
abbrev bb:Stmt:=top 40
abbrev cJ:Stmt:=top 41
abbrev fj:Stmt:=top 42
abbrev cE:Stmt:=top 43
abbrev bh:Stmt:=top 44
abbrev bY:Stmt:=top 45
abbrev bZ:Stmt:=top 46
abbrev dm:Stmt:=top 47
abbrev fk:Stmt:=top 48
abbrev bj:Stmt:=top 49
abbrev dj:Stmt:=top 50
abbrev qp:Stmt:=top 51
def tf(a b s:Int):List (Str×V):=putF "strength" (.int s) (putF "two" (.int b) (putF "one" (.int a) []))
theorem k9(a b s:Int):(tf a b s).lookup ("one" : Str)=some (.int a):=by
 unfold tf
 rw[aw,if_neg (by decide +kernel),aw,if_neg (by decide +kernel),aw,if_pos rfl]
theorem sA(a b s:Int):(tf a b s).lookup ("two" : Str)=some (.int b):=by
 unfold tf
 rw[aw,if_neg (by decide +kernel),aw,if_pos rfl]
theorem za(a b s:Int){m:Str} (h1:¬ m = "strength") (h2:¬ m = "two") (h3:¬ m = "one"):(tf a b s).lookup m=none:=by
 unfold tf
 rw[aw,if_neg h1,aw,if_neg h2,aw,if_neg h3]
 all_goals rfl
theorem f1_len(a:Int):(putF "one" (.int a) []).length<1000:=by show 1<1000;decide
theorem f2_len(a b:Int):(putF "two" (.int b) (putF "one" (.int a) [])).length<1000:=by
 have e:(putF "two" (.int b) (putF "one" (.int a) []):List (Str×V))=([("one",.int a),("two",.int b)]:List (Str×V)):=by
  show(if("one" : Str) = "two" then[(("one" : Str),V.int b)] else(("one" : Str),V.int a)::putF "two" (V.int b) [])=_
  rw[if_neg (by decide +kernel)]
  all_goals rfl
 rw[e]
 show 2<1000
 decide
structure CT(K:Fw)(C:Addr):Prop where
 cl:Cls K C
 n1:eM K C "one"
 n2:eM K C "two"
 n3:eM K C "strength"
def o8(K:Fw):Sp:=fun vs H Q _=>∃(p C dx:Addr)(a b s:Int),vs = [.ref p,.int a,.int b,.int s]/\H p=some (.ins C dx [])/\CT K C/\a≠b/\0<=a/\0<=b/\0<=s /\
 ∀ H',H' p=some (.ins C dx (tf a b s))->(∀ q o,H q=some o->q≠p->H' q=some o)->Q .non H'
theorem ao{H:Hp}{p:Addr}(h:H p=none)(o:HO):Same H (upd H p o):=fun b u q=>by rw[ak (aA q h)];exact q
theorem aM{H H2:Hp}{l:Addr}(h:Same H H2)(hl:H l=none)(o:HO):Same H (upd H2 l o):=fun b u q=>by rw[ak (aA q hl)];exact h b u q
def iV(p:Nat):V:=.int (p:Int)
theorem Fc{hs:List Nat}{k x:Nat}(h:hs[k]?=some x):atI (hs.map iV) (k:Int)=some (iV x):=aI (by rw[F0,h];rfl)
def cA(H:Hp)(ys:List V)(es:En):Prop:=ys.length=es.length/\∀(i:Nat)(e:Nat×Nat),es[i]?=some e->∃ p,ys[i]?=some (.ref p)/\H p=some (.tup [iV e.1,iV e.2])
theorem cA.mono{H H':Hp}{ys:List V}{es:En}(h:cA H ys es)(s:Same H H'):cA H' ys es:=⟨h.1,fun i e q=>by
 obtain⟨p,a,b⟩:=h.2 i e q
 exact⟨p,a,s _ _ b⟩⟩
def c7(K:Fw)(H:Hp)(xs:List V)(es:En):Prop:=xs.length=es.length/\∀(i:Nat)(e:Nat×Nat),es[i]?=some e->∃ p C dx s,xs[i]?=some (.ref p)/\H p=some (.ins C dx (tf (e.1:Int) (e.2:Int) s))/\CT K C
theorem c7.mono{K:Fw}{H H':Hp}{xs:List V}{es:En}(t:c7 K H xs es)(h:Same H H'):c7 K H' xs es:=⟨t.1,fun i e q=>by
 obtain⟨p,C,dx,s,a,b,d⟩:=t.2 i e q
 exact⟨p,C,dx,s,a,h _ _ b,d⟩⟩
def bC(H:Hp)(xs:List V)(ts:List (List Nat)):Prop:=xs.length=ts.length/\∀(i:Nat)(l:List Nat),ts[i]?=some l->∃ p,xs[i]?=some (.ref p)/\H p=some (.lst (l.map iV))
theorem bC.mono{H H':Hp}{xs:List V}{ts:List (List Nat)}(h:bC H xs ts)(s:Same H H'):bC H' xs ts:=⟨h.1,fun i e q=>by
 obtain⟨p,a,b⟩:=h.2 i e q
 exact⟨p,a,s _ _ b⟩⟩
theorem bC.snoc{H:Hp}{xs:List V}{ts:List (List Nat)}{q:Addr}{l:List Nat}(h:bC H xs ts)(e:H q=some (.lst (l.map iV))):bC H (xs++[.ref q]) (ts++[l]):=by
 refine⟨by rw[Fy,Fy,h.1];rfl,fun j k ej=>?_⟩
 by_cases hj:j<ts.length
 ·rw[FA hj]at ej
  obtain⟨p,a1,a2⟩:=h.2 j k ej
  exact⟨p,by rw[FA (by rw[h.1];exact hj)];exact a1,a2⟩
 ·rw[Fz (by omega)]at ej
  have hj2:j=ts.length:=by
   have:=(Fv.mp ej).1
   rw[FI]at this
   omega
  subst hj2
  rw[F5]at ej
  cases ej
  exact⟨q,by rw[← h.1,Fz (FD _),F5];rfl,e⟩
def cP(S:Addr->Prop)(H:Hp)(xs:List V)(ts:List (List Nat)):Prop:=xs.length=ts.length/\∀(i:Nat)(l:List Nat),ts[i]?=some l->∃ p,xs[i]?=some (.ref p)/\¬ S p/\H p=some (.lst (l.map iV))
theorem cP.mono{S:Addr->Prop}{H H':Hp}{xs:List V}{ts:List (List Nat)}(h:cP S H xs ts)(s:∀ b u,¬ S b->H b=some u->H' b=some u):cP S H' xs ts:=⟨h.1,fun i e q=>by
 obtain⟨p,a,n,b⟩:=h.2 i e q
 exact⟨p,a,n,s _ _ n b⟩⟩
theorem cP.off{S:Addr->Prop}{H:Hp}{xs:List V}{ts:List (List Nat)}(h:cP S H xs ts):bC H xs ts:=⟨h.1,fun i e q=>by
 obtain⟨p,a,n,b⟩:=h.2 i e q
 exact⟨p,a,b⟩⟩
theorem cP.snoc{S:Addr->Prop}{H:Hp}{xs:List V}{ts:List (List Nat)}{q:Addr}{l:List Nat}(h:cP S H xs ts)(n:¬ S q)(e:H q=some (.lst (l.map iV))):cP S H (xs++[.ref q]) (ts++[l]):=by
 refine⟨by rw[Fy,Fy,h.1];rfl,fun j k ej=>?_⟩
 by_cases hj:j<ts.length
 ·rw[FA hj]at ej
  obtain⟨p,a1,a2⟩:=h.2 j k ej
  exact⟨p,by rw[FA (by rw[h.1];exact hj)];exact a1,a2⟩
 ·rw[Fz (by omega)]at ej
  have hj2:j=ts.length:=by
   have:=(Fv.mp ej).1
   rw[FI]at this
   omega
  subst hj2
  rw[F5]at ej
  cases ej
  exact⟨q,by rw[← h.1,Fz (FD _),F5];rfl,n,e⟩
theorem mK{f:Nat->Nat}{N i:Nat}{rs:List (List Nat)}(w:aU f N i rs):rs.flatten.length<=N:=c5 w.nd fun x hx=>by
 obtain⟨r,h1,h2⟩:=Gi.mp hx
 exact(w.ring r h1).lt x h2
theorem mB{f:Nat->Nat}{N i:Nat}{rs:List (List Nat)}(w:aU f N i rs):rs.length<=N:=by
 have h:∀(l:List (List Nat)),(∀ r∈l,0<r.length)->l.length<=l.flatten.length:=fun l=>by
  induction l with
  |nil=>intro _;exact FD _
  |cons a l ih =>
   intro h
   rw[Gb,Fy,Ge]
   have h1:=h a (FP ..)
   have h2:=ih fun r hr=>h r (FK _ hr)
   omega
 exact Gs (h rs fun r hr=>(w.ring r hr).ne) (mK w)
structure TT(K:Fw)(H:Hp)(a b:Addr)(m:Nat)(es:En)(ts:List (List Nat)):Prop where
 xs:∃ xs,SqL K H a xs/\c7 K H xs es
 ys:∃ ys,SqL K H b ys/\bC H ys ts
 w:bB m es ts
 few:es.length<=62
theorem TT.mono{K:Fw}{H H':Hp}{a b:Addr}{m:Nat}{es:En}{ts:List (List Nat)}(t:TT K H a b m es ts)(s:Same H H'):TT K H' a b m es ts:=by
 obtain⟨⟨xs,h1,h2⟩,⟨ys,h3,h4⟩,w,f⟩:=t
 exact⟨⟨xs,s.seq h1,h2.mono s⟩,⟨ys,s.seq h3,h4.mono s⟩,w,f⟩
theorem il{m:Nat}{es:En}{ts:List (List Nat)}(w:bB m es ts)(f:es.length<=62){p:Nat}{l:List Nat}(h:ts[p]?=some l):(∀ t∈l,t<62)/\l.length<=62:=by
 have a:∀ t∈l,t<es.length:=fun t ht=>by
  obtain⟨e,he,_⟩:=(w.mem p l h t).mp ht
  exact(Fv.mp he).1
 exact⟨fun t ht=>by have:=a t ht;omega,Gs (c5 (w.nd p l h) a) f⟩
theorem perm{m:Nat}{es:En}{ts:List (List Nat)}(w:bB m es ts):CL (fol es ts) (2*es.length):=⟨fun d h=>by
 obtain⟨_,_,_,_,_,_,_,_,z,_⟩:=w.foll h
 exact z,fun a b ha hb h=>w.inj ha hb h⟩
def AS(K:Fw):Sp:=fun vs H Q _=>∃(a:Addr)(xs:List V)(es:En)(d:Nat),vs = [.ref a,.int (d:Int)]/\SqL K H a xs/\c7 K H xs es/\d<2*es.length/\Q (iV (hd es d)) H
def AQ(K:Fw):Sp:=fun vs H Q _=>∃(a:Addr)(xs:List V)(es:En)(t p:Nat)(e:Nat×Nat),vs = [.ref a,.int (t:Int),.int (p:Int)]/\SqL K H a xs/\c7 K H xs es/\es[t]?=some e/\Q (iV (if e.1=p then 2*t else 2*t+1)) H
def Es(K:Fw):Sp:=fun vs H Q _=>∃(a b:Addr)(m:Nat)(es:En)(ts:List (List Nat))(d:Nat),vs = [.ref a,.ref b,.int (d:Int)]/\TT K H a b m es ts/\d<2*es.length/\Q (iV (fol es ts d)) H
def AU(K:Fw):Sp:=fun vs H Q _=>∃(a b:Addr)(m:Nat)(es:En)(ts:List (List Nat))(d:Nat),vs = [.ref a,.ref b,.int (d:Int)]/\TT K H a b m es ts/\d<2*es.length /\
 ∀ q r H',Same H H'->H q=none->H' q=some (.lst (r.map iV))->Path (fol es ts) (2*es.length) d r->Ring (fol es ts) (2*es.length) r->Q (.ref q) H'
def pW(K:Fw):Sp:=fun vs H Q _=>∃(a b:Addr)(m:Nat)(es:En)(ts:List (List Nat)),vs = [.ref a,.ref b]/\TT K H a b m es ts /\
 ∀ q ys rs H',Same H H'->H' q=some (.lst ys)->bC H' ys rs->aU (fol es ts) (2*es.length) (2*es.length) rs->Q (.ref q) H'
def k8(H:Hp)(ys:List V)(n:Nat)(rs:List (List Nat)):Prop:=ys.length=n/\∀ i,i<n->∃ p a b r r',ys[i]?=some (.ref p)/\H p=some (.tup [iV a,iV b])/\rs[a]?=some r/\2*i∈r/\rs[b]?=some r'/\2*i+1∈r'
def vC(K:Fw):Sp:=fun vs H Q _=>∃(a b:Addr)(xs ys:List V)(es:En)(f:Nat->Nat)(rs:List (List Nat)),vs = [.ref a,.ref b]/\SqL K H a xs/\c7 K H xs es/\es.length<=62/\SqL K H b ys/\bC H ys rs/\aU f (2*es.length) (2*es.length) rs /\
 ∀ q zs H',Same H H'->H' q=some (.lst zs)->k8 H' zs es.length rs->Q (.ref q) H'
def nJ(ns:List Int)(k:Nat):Int:=ns.getD k 0
def yB(K:Fw):Sp:=fun vs H Q _=>∃(a:Addr)(k:Nat)(ns:List Int),vs = [.ref a,.int (k:Int)]/\SqL K H a (ns.map V.int)/\Q (.int (nJ ns k)) H
def qb(K:Fw):Sp:=fun vs H Q _=>∃(a b:Addr)(ys xs:List V)(m:Nat)(es:En)(ts:List (List Nat))(d:Nat),vs = [.ref a,.ref b,.int (d:Int)]/\SqL K H a ys/\cA H ys es/\SqL K H b xs/\bC H xs ts/\bB m es ts/\es.length<=62/\d<2*es.length/\Q (iV (fol es ts d)) H
def Ep:Sp:=fun vs H Q _=>∃ i:Int,vs = [.int i]/\Q (.bl true) H
def CV(K:Fw):Sp:=fun vs H Q _=>∃(a:Addr)(ns:List Int),vs = [.ref a]/\SqL K H a (ns.map V.int)/\ns.length<=63/\∀ H',Q (.bl true) H'
structure Txt(mg:Str->Option Value):Prop where
 n_len:mg "len" = none
 n_int:mg "int" = none
 n_bool:mg "bool" = none
 n_list:mg "list" = none
 n_tuple:mg "tuple" = none
 n_range:mg "range" = none
 n_enumerate:mg "enumerate" = none
 n_isinstance:mg "isinstance" = none
 n_min:mg "min" = none
 n_sum:mg "sum" = none
 n_sorted:mg "sorted" = none
section
variable{P:Program}{w:World}{K:Fw}{mg:Str->Option Value}{base:Heap}
theorem A4:aD ["ties","dart","tie"] ["ties","dart"] (ai pd):=⟨rfl,rfl,rfl,by decide +kernel,rfl,by decide +kernel,by decide +kernel⟩
theorem ET{f:Addr}{fd:FuncData} (F:Fun K "head" "head" pd f fd):FnOk P w K mg base CX0 1 f fd ["ties","dart"] (AS K):=by
 refine F.ok A4 (fun vs H Q E h=>?_) (fun cdv A outer s H vs Q E hr h=>?_)
 ·obtain⟨a,xs,es,d,rfl,_⟩:=h
  rfl
 obtain⟨a,xs,es,d,rfl,hS,hT,hdl,k⟩:=h
 have hl:d/2<es.length:=by omega
 have e1:es[d/2]?=some es[d/2]:=Fu hl
 obtain⟨p,C,dx,s',x1,x2,x3⟩:=hT.2 _ _ e1
 have hh:hd es d=if d%2=0 then es[d/2].2 else es[d/2].1:=by unfold hd;rw[e1]
 have ed:(d:Int)/2=((d/2:Nat):Int):=by omega
 refine⟨_,(ae (ar (i:=2) A4.nd rfl (Or.inl rfl) (ax aG (pv 0) (av cm (pv 1) ag) (fun _ _=>rfl)))
   (aj (aR (qD (aH iW (av bw (pv 1) ag) ag (aP _)) (cT (pv 2) rfl) (cT (pv 2) rfl))))),?_⟩
 refine⟨_,rfl,_,rfl,_,_,rfl,rfl,⟨by decide,by decide⟩,a,xs,_,_,rfl,rfl,hS,(by rw[ed];exact aI x1),?_⟩
 refine⟨_,rfl,_,_,rfl,rfl,(by show(0:Int)<2;decide),rfl,_,rfl,?_⟩
 refine ite2 (fun q=>?_) (fun q=>?_)
 ·have q':(d:Int)%2=0:=V.int.inj (of_decide_eq_true q)
  refine⟨_,rfl,p,C,dx,_,_,rfl,x2,x3.cl,x3.n2,sA _ _ _,?_⟩
  rw[hh,if_pos (by omega)]at k
  exact k
 ·have q':¬ (d:Int)%2=0:=fun z=>q (decide_eq_true (congrArg V.int z))
  refine⟨_,rfl,p,C,dx,_,_,rfl,x2,x3.cl,x3.n1,k9 _ _ _,?_⟩
  rw[hh,if_neg (by omega)]at k
  exact k
theorem zm:aD ["ties","number","place"] ["ties","number","place"] (ai fi):=⟨rfl,rfl,rfl,by decide +kernel,rfl,by decide +kernel,by decide +kernel⟩
theorem zx{f:Addr}{fd:FuncData} (F:Fun K "leaving" "leaving" fi f fd):FnOk P w K mg base CX0 1 f fd ["ties","number","place"] (AQ K):=by
 refine F.ok zm (fun vs H Q E h=>?_) (fun cdv A outer s H vs Q E hr h=>?_)
 ·obtain⟨a,xs,es,t,p,e,rfl,_⟩:=h
  rfl
 obtain⟨a,xs,es,t,pl,e,rfl,hS,hT,he,k⟩:=h
 obtain⟨p,C,dx,s',x1,x2,x3⟩:=hT.2 _ _ he
 have m2:CMul 2 (t:Int):=.inl ⟨by decide,by decide⟩
 refine⟨_,(aj (aR (qD (aH iW (cT (ax aG (pv 0) (pv 1) (fun _ _=>rfl)) rfl) (pv 2) (aP _)) (av dA ag (pv 1)) (av dD (av dA ag (pv 1)) ag)))),?_⟩
 refine⟨_,rfl,_,rfl,a,xs,_,_,rfl,rfl,hS,aI x1,p,C,dx,_,_,rfl,x2,x3.cl,x3.n1,k9 _ _ _,_,rfl,rfl,_,rfl,?_⟩
 refine ite2 (fun q=>?_) (fun q=>?_)
 ·have q':(e.1:Int)=(pl:Int):=V.int.inj (of_decide_eq_true q)
  refine⟨_,rfl,_,_,rfl,rfl,m2,?_⟩
  rw[if_pos (by omega)]at k
  exact k
 ·have q':¬ (e.1:Int)=(pl:Int):=fun z=>q (decide_eq_true (congrArg V.int z))
  refine⟨_,rfl,_,_,rfl,rfl,m2,_,_,rfl,rfl,?_⟩
  rw[if_neg (by omega)]at k
  exact k
theorem fH:aD ["ties","turns","dart","place","about","behind"] ["ties","turns","dart"] (ai du):=⟨rfl,rfl,rfl,by decide +kernel,rfl,by decide +kernel,by decide +kernel⟩
theorem wC{f fh fl:Addr}{fd fdh fdl:FuncData} (F:Fun K "follower" "follower" du f fd) (T:Txt mg) (G_head:Cal P w K mg base 1 "head" ["ties","dart"] (AS K) fh fdh) (G_leaving:Cal P w K mg base 1 "leaving" ["ties","number","place"] (AQ K) fl fdl):FnOk P w K mg base CX0 2 f fd ["ties","turns","dart"] (Es K):=by
 refine F.ok fH (fun vs H Q E h=>?_) (fun cdv A outer s H vs Q E hr h=>?_)
 ·obtain⟨a,b,m,es,ts,d,rfl,_⟩:=h
  rfl
 obtain⟨a,b,m,es,ts,d,rfl,tt,hdl,k⟩:=h
 obtain⟨⟨xs,h1,h2⟩,⟨ys,h3,h4⟩,w',few⟩:=tt
 obtain⟨l,e,p1,p2,p3,p4,p5,p6,p7,p8,p9⟩:=w'.foll hdl
 obtain⟨small,len⟩:=il w' few p1
 obtain⟨q,y1,y2⟩:=h4.2 _ _ p1
 have ed:(d:Int)/2=((d/2:Nat):Int):=by omega
 refine⟨_,(ae (ar (i:=3) fH.nd rfl (Or.inl rfl) (ay G_head.ok (hr.mono (by decide)) rfl G_head.mg G_head.kp G_head.bn .nil aT (aa (pv 0) (aa (pv 2) ah))))
   (ae (ar (i:=4) fH.nd rfl (Or.inl rfl) (ax aG (pv 1) (pv 3) (fun _ _=>rfl)))
   (ae (ar (i:=5) fH.nd rfl (Or.inl rfl) (av bw (av dD (eQ FR Hg Hf mF (pv 4) (aa (av cm (pv 2) ag) ah)) ag) (aB aq (by rfl) T.n_len bf (aa (pv 4) ah))))
   (aj (aR (ay G_leaving.ok (hr.mono (by decide)) rfl G_leaving.mg G_leaving.kp G_leaving.bn .nil aT (aa (pv 0) (aa (ax aG (pv 4) (pv 5) (fun _ _=>rfl)) (aa (pv 3) ah))))))))),?_⟩
 refine⟨_,rfl,_,rfl,a,xs,es,d,rfl,h1,h2,hdl,?_⟩
 refine⟨_,rfl,_,rfl,b,ys,_,_,rfl,rfl,h3,aI y1,?_⟩
 have hlen:(l.map iV).length=l.length:=FF _
 have hl0:0<l.length:=Hj p2
 have hmod:(((l.idxOf (d/2):Nat):Int)+1)%((l.map iV).length:Int)=(((l.idxOf (d/2)+1)%l.length:Nat):Int):=by rw[hlen];rfl
 refine⟨_,rfl,.inl ⟨rfl,_,SqL.of y2⟩,_,rfl,_,_,rfl,rfl,⟨by decide,by decide⟩,q,l,d/2,rfl,congrArg (fun z=>[V.int z]) ed,SqL.of y2,fun p hp=>by have:=small p hp;omega,by omega,p2,_,_,rfl,rfl,_,rfl,q,_,rfl,.inl (SqL.of y2),_,_,rfl,rfl,(by show(0:Int)<((l.map iV).length:Int);rw[hlen];omega),?_⟩
 refine⟨_,rfl,_,rfl,_,rfl,q,_,_,_,rfl,rfl,SqL.of y2,(by rw[hmod];exact Fc (gD p2)),_,rfl,a,xs,es,nxt l (d/2),hd es d,e,rfl,h1,h2,p3,?_⟩
 rw[p6]at k
 exact k
theorem c8:aD ["ties","turns","first","row","dart"] ["ties","turns","first"] (ai bX):=⟨rfl,rfl,rfl,by decide +kernel,rfl,by decide +kernel,by decide +kernel⟩
theorem EU{f ff:Addr}{fd fdf:FuncData} (F:Fun K "round_from" "round_from" bX f fd) (G_follower:Cal P w K mg base 2 "follower" ["ties","turns","dart"] (Es K) ff fdf):FnOk P w K mg base CX0 3 f fd ["ties","turns","first"] (AU K):=by
 refine F.ok c8 (fun vs H Q E h=>?_) (fun cdv A outer s H vs Q E hr h=>?_)
 ·obtain⟨a,b,m,es,ts,d,rfl,_⟩:=h
  rfl
 obtain⟨a,b,m,es,ts,d,rfl,tt,hdl,k⟩:=h
 have pm:=perm tt.w
 refine⟨_,(ae (ar (i:=3) c8.nd rfl (Or.inl rfl) (c4 (aa (pv 2) ah)))
   (ae (ar (i:=4) c8.nd rfl (Or.inl rfl) (ay G_follower.ok (hr.mono (by decide)) rfl G_follower.mg G_follower.kp G_follower.bn .nil aT (aa (pv 0) (aa (pv 1) (aa (pv 2) ah)))))
   (ae (mC PassesOwn.never (aH oK (pv 4) (pv 2) (aP _)) (ae (bc (eQ FR F7 F6 br (pv 3) (aa (pv 4) ah)))
   (aj (ar (i:=4) c8.nd rfl (Or.inl rfl) (ay G_follower.ok (hr.mono (by decide)) rfl G_follower.mg G_follower.kp G_follower.bn .nil aT (aa (pv 0) (aa (pv 1) (aa (pv 4) ah))))))))
   (aj (aR (pv 3)))))),?_⟩
 refine⟨_,rfl,(by show 1<=sizeLine;decide),fun q hq=>?_⟩
 have s1:=ao hq (.lst [.int (d:Int)])
 refine⟨_,rfl,_,rfl,_,rfl,a,b,m,es,ts,d,rfl,tt.mono s1,hdl,?_⟩
 refine pS (fun σ H2=>∃(r:List Nat)(x:Nat),σ = [some (.ref a),some (.ref b),some (.int (d:Int)),some (.ref q),some (iV (fol es ts x))]/\Same H H2/\H2 q=some (.lst ((r++[x]).map iV))/\Path (fol es ts) (2*es.length) d (r++[x]))
  (fun σ H2=>match H2 q with | some (.lst xs)=>200-xs.length | _=>0) ⟨[],d,rfl,s1,af,yI hdl⟩ ?_ ?_
 ·rintro σ H2 ⟨r,x,rfl,s2,hq2,pa⟩
  refine⟨_,rfl,_,rfl,rfl,_,rfl,?_⟩
  have few:=tt.few
  have hlen:=c5 pa.nd pa.lt
  refine ite2 (fun c=>?_) (fun c=>?_)
  ·have c':fol es ts x≠d:=fun z=>by
    rw[decide_eq_true (show iV (fol es ts x)=V.int (d:Int) by rw[z];rfl)]at c
    cases c
   have pa2:=pa.snoc pm c'
   have hlen2:=c5 pa2.nd pa2.lt
   have lt2:fol es ts x<2*es.length:=pa2.lt _ (by simp)
   refine⟨_,rfl,.inl ⟨rfl,_,SqL.of hq2⟩,_,rfl,q,_,_,rfl,rfl,hq2,au (by rw[FF];omega),?_⟩
   have s3:=aM s2 hq (.lst ((r++[x]).map iV++[iV (fol es ts x)]))
   refine⟨_,rfl,_,rfl,_,rfl,a,b,m,es,ts,fol es ts x,rfl,tt.mono s3,lt2,?_⟩
   refine⟨⟨r++[x],fol es ts x,rfl,s3,?_,pa2⟩,?_⟩
   ·rw[af,show((r++[x]++[fol es ts x]).map iV)=(r++[x]).map iV++[iV (fol es ts x)] from by rw[F8];rfl]
   ·show(match(upd H2 q (.lst ((r++[x]).map iV++[iV (fol es ts x)]))) q with | some (.lst xs)=>200-xs.length | _=>0)<(match H2 q with | some (.lst xs)=>200-xs.length | _=>0)
    rw[af,hq2]
    show 200-((r++[x]).map iV++[iV (fol es ts x)]).length<200-((r++[x]).map iV).length
    rw[Fy,FF,FI]
    omega
  ·have c':fol es ts x=d:=by
    by_cases z:fol es ts x=d
    ·exact z
    ·exact absurd (by rw[decide_eq_false (fun y=>z (by have:=V.int.inj y;omega))];rfl) c
   refine⟨_,rfl,?_⟩
   exact k q _ H2 s2 hq hq2 pa (pa.ring pm c')
 ·rintro σ H2 Q1 Q2 hi ⟨v',e,b',e2,z1,c',e3,q'⟩
  exact⟨v',e,b',e2,z1,c',e3,hi _ _ q'⟩
theorem bT:aD ["ties","turns","rounds","seen","dart","row","gone"] ["ties","turns"] (ai cC):=⟨rfl,rfl,rfl,by decide +kernel,rfl,by decide +kernel,by decide +kernel⟩
theorem Bs{f ff:Addr}{fd fdf:FuncData} (F:Fun K "rounds_of" "rounds_of" cC f fd) (T:Txt mg) (G_round_from:Cal P w K mg base 3 "round_from" ["ties","turns","first"] (AU K) ff fdf):FnOk P w K mg base CX0 4 f fd ["ties","turns"] (pW K):=by
 refine F.ok bT (fun vs H Q E h=>?_) (fun cdv A outer s H vs Q E hr h=>?_)
 ·obtain⟨a,b,m,es,ts,rfl,_⟩:=h
  rfl
 obtain⟨a,b,m,es,ts,rfl,tt,k⟩:=h
 have hu:=Fd hr
 have pm:=perm tt.w
 have few:=tt.few
 obtain⟨xs,h1,h2⟩:=tt.xs
 refine⟨_,(ae (ar (i:=2) bT.nd rfl (Or.inl rfl) (c4 ah))
   (ae (ar (i:=3) bT.nd rfl (Or.inl rfl) yG)
   (ae (bP PassesOwn.never rfl (bq rfl T.n_range (aa (av dA ag (aB aq (by rfl) T.n_len bf (aa (pv 0) ah))) ah)) (aQ (i:=4) bT.nd rfl (Or.inl rfl)) (aj (dz (DQ (tF hu (pv 4) (pv 3))) (ae (ar (i:=5) bT.nd rfl (Or.inl rfl) (ay G_round_from.ok (hr.mono (by decide)) rfl G_round_from.mg G_round_from.kp G_round_from.bn .nil aT (aa (pv 0) (aa (pv 1) (aa (pv 4) ah)))))
   (ae (bc (eQ FR F7 F6 br (pv 2) (aa (pv 5) ah)))
   (aj (bP PassesOwn.never rfl (ck (pv 5)) (aQ (i:=6) bT.nd rfl (Or.inl rfl)) (aj (vZ hu (pv 3) (pv 6) C6 rfl)))))) bo)))
   (aj (aR (pv 2)))))),?_⟩
 refine⟨(by show 0<=sizeLine;decide),fun qr hqr=>fun qs hqs=>?_⟩
 have s1:=(ao hqr (.lst [])).trans (ao hqs (.dK []))
 have hqs0:H qs=none:=by
  cases z:H qs with
  |none=>rfl
  |some o=>rw[ao hqr (.lst []) qs o z]at hqs;cases hqs
 have hne:qr≠qs:=fun z=>by rw[← z,af]at hqs;cases hqs
 have hxl:xs.length=es.length:=h2.1
 have hN:(2*(xs.length:Int)).toNat=2*es.length:=by omega
 refine⟨_,rfl,a,xs,rfl,.inl (s1.seq h1),_,_,rfl,rfl,.inl ⟨by decide,by decide⟩,_,rfl,by omega,by omega,bJ (n:=(2*(xs.length:Int)).toNat) (fun i σ H2=>∃ v4 v5 v6 ys rs kvs,σ = [some (.ref a),some (.ref b),some (.ref qr),some (.ref qs),v4,v5,v6]/\Same H H2/\H2 qr=some (.lst ys)/\cP (fun p=>p=qr∨p=qs) H2 ys rs/\H2 qs=some (.dK kvs)/\kvs.length<=rs.flatten.length/\(∀ d:Nat,(valV kvs (Sum.inl (d:Int))).isSome=true↔d∈rs.flatten)/\aU (fol es ts) (2*es.length) i rs)
  ⟨_,_,_,[],[],[],rfl,s1,by rw[ak hne,af],⟨rfl,fun i l e=>by simp at e⟩,af,FD _,fun d=>by simp[valV],pf _ _⟩ ?_ ?_⟩
 ·rintro i σ H2 hi ⟨v4,v5,v6,ys,rs,kvs,rfl,s2,e1,rx,e2,kl,km,ro⟩
  rw[hN]at hi
  have e0:(0:Int)+(i:Int)=(i:Int):=GN _
  rw[e0]
  have fl:=mK ro
  have rl:=mB ro
  refine⟨_,rfl,_,rfl,_,_,rfl,DGet.k (k:=Sum.inl (i:Int)) e2,_,rfl,?_⟩
  refine ite2 (fun c=>?_) (fun c=>?_)
  ·have hni:i∉rs.flatten:=fun z=>by
    rw[(km i).mpr z]at c
    cases c
   refine⟨_,rfl,_,rfl,_,rfl,a,b,m,es,ts,i,rfl,tt.mono s2,hi,fun q r H3 s3 hq hq3 pa ri=>?_⟩
   have s23:=s2.trans s3
   have nq:¬ (q=qr∨q=qs):=by
    rintro(z | z)
    ·rw[z,e1]at hq;cases hq
    ·rw[z,e2]at hq;cases hq
   refine⟨_,rfl,.inl ⟨rfl,_,SqL.of (s3 _ _ e1)⟩,_,rfl,qr,_,_,rfl,rfl,s3 _ _ e1,au (by rw[rx.1];omega),?_⟩
   have s4:=aM s23 hqr (.lst (ys++[.ref q]))
   have hrq:∀{H5:Hp},cP (fun p=>p=qr∨p=qs) H5 (ys++[.ref q]) (rs++[r])->H5 q=some (.lst (r.map iV)):=fun h=>by
    obtain⟨p,z1,_,z2⟩:=h.2 rs.length r (by rw[Fz (FD _),F5];rfl)
    rw[← rx.1,Fz (FD _),F5]at z1
    cases z1
    exact z2
   have rx4:cP (fun p=>p=qr∨p=qs) (upd H3 qr (.lst (ys++[.ref q]))) (ys++[.ref q]) (rs++[r]):=by
    refine(rx.mono fun p o n z=>?_).snoc nq ?_
    ·rw[ak (fun z=>n (.inl z))];exact s3 _ _ z
    ·rw[ak (fun z=>nq (.inl z))];exact hq3
   have rl:r.length<=2*es.length:=c5 ri.nd ri.lt
   refine⟨_,rfl,q,rfl,⟨_,SqL.of (hrq rx4)⟩,eB (xs:=r.map iV) (fun j σ H5=>∃ v6 kvs',σ = [some (.ref a),some (.ref b),some (.ref qr),some (.ref qs),some (.int (i:Int)),some (.ref q),v6]/\Same H H5/\H5 qr=some (.lst (ys++[.ref q]))/\cP (fun p=>p=qr∨p=qs) H5 (ys++[.ref q]) (rs++[r])/\H5 qs=some (.dK kvs')/\kvs'.length<=rs.flatten.length+j/\∀ d:Nat,(valV kvs' (Sum.inl (d:Int))).isSome=true↔d∈rs.flatten∨d∈r.take j)
    ⟨_,kvs,rfl,s4,af,rx4,by rw[ak hne.symm];exact s3 _ _ e2,kl,fun d=>by rw[km d];simp⟩ (fun j σ H5 _ p=>?_) ?_ ?_⟩
   ·obtain⟨_,_,_,_,_,z,_⟩:=p
    exact SqL.of (hrq z)
   ·rintro j x σ H5 hx ⟨v6,kvs',rfl,s5,f1,rx5,f2,kl5,km5⟩
    rw[F0]at hx
    obtain⟨g,hg,rfl⟩:=Gd.mp hx
    have hjl:j<r.length:=(Fv.mp hg).1
    refine⟨_,rfl,_,rfl,qs,_,rfl,DPut.k (k:=Sum.inl (g:Int)) f2 (au (by omega)),?_⟩
    refine⟨_,_,rfl,aM s5 hqs0 _,by rw[ak hne];exact f1,rx5.mono fun p o n z=>by rw[ak (fun z=>n (.inr z))];exact z,af,by have:=dE kvs' (Sum.inl (g:Int)) (V.bl true);omega,fun d=>?_⟩
    rw[pT]
    have tk:r.take (j+1)=r.take j++[g]:=by rw[Gn,hg];rfl
    rw[tk]
    by_cases z:d=g
    ·subst z
     simp
    ·rw[if_neg (fun y=>z (by have:=Sum.inl.inj y;omega)),km5 d]
     simp[z]
   ·rintro σ H5 ⟨v6,kvs',rfl,s5,f1,rx5,f2,kl5,km5⟩
    rw[FF]at kl5 km5
    refine⟨_,_,_,_,rs++[r],kvs',rfl,s5,f1,rx5,f2,by rw[Gy,Fy];simpa using kl5,fun d=>?_,ro.put pm hni hi ri pa⟩
    rw[km5 d,Gu,Gy,FG]
    simp
  ·have hii:i∈rs.flatten:=(km i).mp (by
    cases z:(valV kvs (Sum.inl (i:Int))).isSome with
    |true=>rfl
    |false=>exact absurd (by rw[z];rfl) c)
   exact⟨_,_,_,ys,rs,kvs,rfl,s2,e1,rx,e2,kl,km,ro.skip hii⟩
 ·rintro σ H2 ⟨v4,v5,v6,ys,rs,kvs,rfl,s2,e1,rx,e2,kl,km,ro⟩
  rw[hN]at ro
  exact⟨_,rfl,k qr ys rs H2 s2 e1 rx.off ro⟩
theorem dy:aD ["ties","rounds","number_at","number","row","dart"] ["ties","rounds"] (ai di):=⟨rfl,rfl,rfl,by decide +kernel,rfl,by decide +kernel,by decide +kernel⟩
theorem De{f:Addr}{fd:FuncData} (F:Fun K "sides_of" "sides_of" di f fd) (T:Txt mg):FnOk P w K mg base CX0 1 f fd ["ties","rounds"] (vC K):=by
 refine F.ok dy (fun vs H Q E h=>?_) (fun cdv A outer s H vs Q E hr h=>?_)
 ·obtain⟨a,b,xs,ys,es,g,rs,rfl,_⟩:=h
  rfl
 obtain⟨a,b,xs,ys,es,g,rs,rfl,hS,hT,few,hB,hR,ro,k⟩:=h
 have hu:=Fd hr
 have fl:=mK ro
 refine⟨_,(ae (ar (i:=2) dy.nd rfl (Or.inr rfl) yG)
   (ae (bP PassesOwn.never rfl (wu rfl T.n_enumerate (aa (pv 1) ah)) (yD rfl (d7 (aQ (i:=3) dy.nd rfl (Or.inl rfl)) (d7 (aQ (i:=4) dy.nd rfl (Or.inl rfl)) qC))) (aj (bP PassesOwn.never rfl (ck (pv 4)) (aQ (i:=5) dy.nd rfl (Or.inl rfl)) (aj (vZ hu (pv 2) (pv 5) (pv 3) rfl)))))
   (aj (aR (kh rfl (fr:=[("number_at",2)]) (by exact cB.one (by rfl) (by decide +kernel) (by rfl) (by decide +kernel) (by rfl) (by decide +kernel) (by rfl) (by rfl) (by decide +kernel) (by rfl)) (bq rfl T.n_range (aa (aB aq (by rfl) T.n_len bf (aa (pv 0) ah)) ah)) (fun C ex s H=>(gC (aa (qE hu (pv 1) (av dA ag (pv 0)) (fun _ _=>rfl)) (aa (qE hu (pv 1) (av dD (av dA ag (pv 0)) ag) (fun _ _=>rfl)) ah))))))))),?_⟩
 intro q hq
 have s1:=ao hq (.dK [])
 have kF:∀ i,(rs.take i).flatten.length<=rs.flatten.length:=fun i=>by
  have:=congrArg (fun z=>z.flatten.length) (Hn i rs)
  simp only[Gy,Fy]at this
  omega
 refine⟨_,rfl,b,rfl,⟨_,s1.seq hB⟩,yQ (K:=K) (xs:=ys) (fun i σ H2=>∃ v3 v4 v5 kvs,σ = [some (.ref a),some (.ref b),some (.ref q),v3,v4,v5]/\Same H H2/\H2 q=some (.dK kvs)/\kvs.length<=(rs.take i).flatten.length/\∀(d c:Nat)(r:List Nat),c<i->rs[c]?=some r->d∈r->valV kvs (Sum.inl (d:Int))=some (iV c))
  ⟨_,_,_,[],rfl,s1,af,GJ _,fun d c r z=>absurd z (G3 _)⟩ (fun i σ H2 _ ⟨_,_,_,_,_,s2,_⟩=>s2.seq hB) ?_ ?_⟩
 ·rintro i x σ H2 T2 hx ⟨v3,v4,v5,kvs,rfl,s2,e1,kl,km⟩ hT2
  have hil:i<rs.length:=by
   have:=(Fv.mp hx).1
   rw[hR.1]at this
   exact this
  have hr':rs[i]?=some rs[i]:=Fu hil
  obtain⟨p,x1,x2⟩:=hR.2 i _ hr'
  rw[hx]at x1
  cases x1
  generalize rs[i]=r at hr' x2
  have s3:Same H (upd H2 T2 (.tup [.int (i:Int),.ref p])):=s2.trans (ao hT2 _)
  have f1:(rs.take (i+1)).flatten=(rs.take i).flatten++r:=by rw[Gn,hr'];simp
  have f2:=kF (i+1)
  rw[f1,Fy]at f2
  refine⟨T2,_,rfl,SqT.of af,rfl,_,_,rfl,_,_,rfl,rfl,?_⟩
  refine⟨_,rfl,p,rfl,⟨_,SqL.of (s3 _ _ x2)⟩,eB (xs:=r.map iV) (fun j σ H5=>∃ v5 kvs',σ = [some (.ref a),some (.ref b),some (.ref q),some (.int (i:Int)),some (.ref p),v5]/\Same H H5/\H5 q=some (.dK kvs')/\kvs'.length<=(rs.take i).flatten.length+j/\(∀(d c:Nat)(r:List Nat),c<i->rs[c]?=some r->d∈r->valV kvs' (Sum.inl (d:Int))=some (iV c))/\∀ d∈r.take j,valV kvs' (Sum.inl (d:Int))=some (iV i))
   ⟨_,kvs,rfl,s3,ao hT2 _ _ _ e1,kl,km,fun d hd=>by simp at hd⟩ (fun j σ H5 _ ⟨_,_,_,z,_⟩=>SqL.of (z _ _ x2)) ?_ ?_⟩
  ·rintro j x σ H5 hx2 ⟨v5,kvs',rfl,s5,g1,kl5,km5,kn5⟩
   rw[F0]at hx2
   obtain⟨g,hg,rfl⟩:=Gd.mp hx2
   have hjl:j<r.length:=(Fv.mp hg).1
   refine⟨_,rfl,_,rfl,_,rfl,q,_,rfl,DPut.k (k:=Sum.inl (g:Int)) g1 (au (by omega)),?_⟩
   refine⟨_,_,rfl,aM s5 hq _,af,by have:=dE kvs' (Sum.inl (g:Int)) (V.int (i:Int));omega,fun d c r' hc hrc hd=>?_,fun d hd=>?_⟩
   ·rw[pT,if_neg (fun z=>?_)]
    ·exact km5 d c r' hc hrc hd
    ·have z':d=g:=by have:=Sum.inl.inj z;omega
     subst z'
     have:=Ff ro.nd hrc hr' hd (Fx hg)
     omega
   ·rw[pT]
    by_cases z:d=g
    ·subst z
     rw[if_pos rfl]
     rfl
    ·rw[if_neg (fun y=>z (by have:=Sum.inl.inj y;omega))]
     refine kn5 d ?_
     rw[Gn,hg]at hd
     simpa[z] using hd
  ·rintro σ H5 ⟨v5,kvs',rfl,s5,g1,kl5,km5,kn5⟩
   rw[FF]at kl5 kn5
   rw[Gu]at kn5
   refine⟨_,_,_,kvs',rfl,s5,g1,by rw[f1,Fy];exact kl5,fun d c r' hc hrc hd=>?_⟩
   by_cases z:c=i
   ·subst z
    rw[hr']at hrc
    cases hrc
    exact kn5 d hd
   ·exact km5 d c r' (by omega) hrc hd
 ·rintro σ H2 ⟨v3,v4,v5,kvs,rfl,s2,e1,kl,km⟩
  rw[hR.1]at km
  have get:∀ d,d<2*es.length->∃ c r,rs[c]?=some r/\d∈r/\valV kvs (Sum.inl (d:Int))=some (iV c):=fun d hd=>by
   obtain⟨r,z1,z2⟩:=Gi.mp (ro.all d hd)
   obtain⟨c,z3⟩:=Gj.mp z1
   exact⟨c,r,z3,z2,km d c r (Fv.mp z3).1 z3 z2⟩
  have hxl:xs.length=es.length:=hT.1
  refine⟨_,rfl,a,xs,rfl,.inl (s2.seq hS),_,rfl,by omega,by omega,pB (fun i zs H3=>Same H2 H3/\k8 H3 zs i rs) (by rw[F1,hxl];exact Gw (au (by omega))) ⟨fun _ _ e=>e,rfl,fun i hi=>absurd hi (G3 _)⟩ ?_ ?_⟩
  ·rintro i zs H3 hi ⟨s3,sd⟩
   have e0:(0:Int)+(i:Int)=(i:Int):=GN _
   rw[e0]
   rw[F1,hxl]at hi
   obtain⟨c1,r1,z1,z2,z3⟩:=get (2*i) (by omega)
   obtain⟨c2,r2,y1,y2,y3⟩:=get (2*i+1) (by omega)
   have m2:CMul 2 (i:Int):=.inl ⟨by decide,by decide⟩
   have d1:DGet H3 q (V.int (2*(i:Int))) (some (iV c1)):=by
    rw[← z3,show((2*i:Nat):Int)=2*(i:Int) by omega]
    exact DGet.k (k:=Sum.inl (2*(i:Int))) (s3 _ _ e1)
   have d2:DGet H3 q (V.int (2*(i:Int)+1)) (some (iV c2)):=by
    rw[← y3,show((2*i+1:Nat):Int)=2*(i:Int)+1 by omega]
    exact DGet.k (k:=Sum.inl (2*(i:Int)+1)) (s3 _ _ e1)
   refine⟨_,rfl,_,rfl,_,_,rfl,rfl,m2,q,_,rfl,d1,_,rfl,_,rfl,_,_,rfl,rfl,m2,_,_,rfl,rfl,q,_,rfl,d2,(by show 2<=sizeLine;decide),fun t ht=>?_⟩
   have s4:=ao ht (.tup [iV c1,iV c2])
   refine⟨s3.trans s4,by rw[Fy,sd.1];rfl,fun j hj=>?_⟩
   by_cases z:j=i
   ·subst z
    exact⟨t,c1,c2,r1,r2,by rw[← sd.1,Fz (FD _),F5];rfl,af,z1,z2,y1,y2⟩
   ·obtain⟨p,a',b',r,r',w1,w2,w3⟩:=sd.2 j (by omega)
    exact⟨p,a',b',r,r',by rw[FA (by rw[sd.1];omega)];exact w1,s4 _ _ w2,w3⟩
  ·rintro zs H3 hzl ⟨s3,sd⟩ D hD
   rw[F1,hxl]at sd
   exact k D zs _ ((s2.trans s3).trans (ao hD _)) af ⟨sd.1,fun i hi=>by
    obtain⟨p,a',b',r,r',w1,w2,w3⟩:=sd.2 i hi
    exact⟨p,a',b',r,r',w1,ao hD _ _ _ w2,w3⟩⟩
theorem qo:aD ["self","one","two","strength"] ["self","one","two","strength"] (ai b7):=⟨rfl,rfl,rfl,by decide +kernel,rfl,by decide +kernel,by decide +kernel⟩
theorem ES{f:Addr}{fd:FuncData} (F:Fun K "__init__" "Tie.__init__" b7 f fd):FnOk P w K mg base CX0 1 f fd ["self","one","two","strength"] (o8 K):=by
 refine F.ok qo (fun vs H Q E h=>?_) (fun cdv A outer s H vs Q E hr h=>?_)
 ·obtain⟨p,C,dx,a,b,s,rfl,_⟩:=h
  rfl
 obtain⟨p,C,dx,a,b,st,rfl,hp,T,hne,ha,hb,hs,k⟩:=h
 refine⟨_,(ae (dz (aH iW (pv 1) (pv 2) (aP _)) (aj fJ) bo)
   (ae (dz (PW.pt (vX (aH Bq (pv 1) ag (aP _)) (sU (aH Bq (pv 2) ag (aP _))))) (aj fJ) bo)
   (ae (dz (aH Bq (pv 3) ag (aP _)) (aj fJ) bo)
   (ae (lb (pv 0) (pv 1) rfl)
   (ae (lb (pv 0) (pv 2) rfl)
   (aj (lb (pv 0) (pv 3) rfl))))))),?_⟩
 walk_at "rd"
 refine ite2 (fun c=>absurd (V.int.inj (of_decide_eq_true c)) hne) (fun _=>?_)
 walk_at "rd"
 refine ite2 (fun c=>absurd (of_decide_eq_true c) (by omega)) (fun _=>?_)
 walk_at "rd"
 refine ite2 (fun c=>absurd (of_decide_eq_true c) (by omega)) (fun _=>?_)
 walk_at "rd"
 refine ite2 (fun c=>absurd (of_decide_eq_true c) (by omega)) (fun _=>?_)
 refine⟨_,rfl,_,rfl,p,C,dx,[],rfl,hp,T.cl,T.n1,(by show 0<1000;decide),?_⟩
 refine⟨_,rfl,_,rfl,p,C,dx,_,rfl,af,T.cl,T.n2,f1_len a,?_⟩
 refine⟨_,rfl,_,rfl,p,C,dx,_,rfl,af,T.cl,T.n3,f2_len a b,?_⟩
 exact k _ af fun q o e hq=>by rw[ak hq,ak hq,ak hq];exact e
theorem vT:aD ["script","k"] ["script","k"] (ai dt):=⟨rfl,rfl,rfl,by decide +kernel,rfl,by decide +kernel,by decide +kernel⟩
theorem EV{f:Addr}{fd:FuncData} (F:Fun K "_law_cell" "_law_cell" dt f fd) (T:Txt mg):FnOk P w K mg base CX0 1 f fd ["script","k"] (yB K):=by
 refine F.ok vT (fun vs H Q E h=>?_) (fun cdv A outer s H vs Q E hr h=>?_)
 ·obtain⟨a,k,ns,rfl,_⟩:=h
  rfl
 obtain⟨a,k,ns,rfl,hS,q⟩:=h
 refine⟨_,(ae (dz (aH Bq (pv 1) (aB aq (by rfl) T.n_len bf (aa (pv 0) ah)) (aP _)) (aj (aR (ax aG (pv 0) (pv 1) (fun _ _=>rfl)))) bo)
   (aj (aR ag))),?_⟩
 refine⟨_,rfl,_,rfl,a,_,rfl,.inl hS,_,_,rfl,rfl,_,rfl,?_⟩
 refine ite2 (fun c=>?_) (fun c=>?_)
 ·have c':(k:Int)<((ns.map V.int).length:Int):=of_decide_eq_true c
  rw[FF]at c'
  have hk:k<ns.length:=by omega
  have hat:atI (ns.map V.int) (k:Int)=some (.int (nJ ns k)):=aI (by rw[F0,Fu hk];unfold nJ;rw[Iz,Fu hk];rfl)
  exact⟨_,rfl,_,rfl,a,_,_,_,rfl,rfl,hS,hat,q⟩
 ·have c':¬ (k:Int)<((ns.map V.int).length:Int):=fun z=>c (decide_eq_true z)
  rw[FF]at c'
  have e:nJ ns k=0:=by unfold nJ;rw[Iz,Ho (by omega)];rfl
  rw[e]at q
  exact q
theorem at0{u v:V}:atI [u,v] 0=some u:=rfl
theorem at1{u v:V}:atI [u,v] 1=some v:=rfl
theorem wW{H:Hp}{a:Addr}{ps:List Nat}(h:SqL K H a (ps.map iV)):RdD K H (.ref a) (.list ((ps.map fun(p:Nat)=>((p:Nat):Int)).map PyData.int)):=by
 refine RdD.lst h (by simp) fun i x d e1 e2=>?_
 rw[F0]at e1
 rw[F0,F0]at e2
 cases z:ps[i]? with
 |none=>rw[z]at e1;cases e1
 |some n =>
  rw[z]at e1 e2
  cases e1
  cases e2
  exact .int _
theorem B3(l:List Int):(PyData.list (l.map PyData.int)).canLay0=true/\(PyData.list (l.map PyData.int)).depth<=10:=by
 have h1:∀ d∈l.map PyData.int,d.canLay0=true/\d.depth<=1:=fun d hd=>by
  obtain⟨x,_,rfl⟩:=Gk.mp hd
  exact⟨by simp[PyData.canLay0],by simp[PyData.depth]⟩
 have h2:=gY fun d hd=>(h1 d hd).1
 have h3:=jg fun d hd=>(h1 d hd).2
 exact⟨by simp only[PyData.canLay0];exact h2,by simp only[PyData.depth];omega⟩
theorem nA(l:List Int):SeqAt.shaped (.list (l.map PyData.int))=true:=mS fun d hd=>by
 obtain⟨x,_,rfl⟩:=Gk.mp hd
 exact⟨by simp[PyData.canLay0],by simp[PyData.depth]⟩
theorem cA.put{H:Hp}{ys:List V}{es:En}{q:Addr}{zs:List V}{o:HO}(t:cA H ys es)(h:H q=some (.lst zs)):cA (upd H q o) ys es:=⟨t.1,fun i e z=>by
 obtain⟨p,a,b⟩:=t.2 i e z
 refine⟨p,a,?_⟩
 rw[ak (fun z=>by rw[z,h]at b;cases b)]
 exact b⟩
theorem cA.snoc{H:Hp}{xs:List V}{es:En}{e:Nat×Nat}{p:Addr}(t:cA H xs es)(h:H p=some (.tup [iV e.1,iV e.2])):cA H (xs++[.ref p]) (es++[e]):=by
 refine⟨by rw[Fy,Fy,t.1];rfl,fun j k ej=>?_⟩
 by_cases hj:j<es.length
 ·rw[FA hj]at ej
  obtain⟨p,a1,a2⟩:=t.2 j k ej
  exact⟨p,by rw[FA (by rw[t.1];exact hj)];exact a1,a2⟩
 ·rw[Fz (by omega)]at ej
  have hj2:j=es.length:=by
   have:=(Fv.mp ej).1
   rw[FI]at this
   omega
  subst hj2
  rw[F5]at ej
  cases ej
  exact⟨p,by rw[← t.1,Fz (FD _),F5];rfl,h⟩
theorem Fb{l:List Nat}{k n:Nat}:(ins l k n).length=l.length+1:=by
 unfold ins
 rw[Fy,Ge,GL,G8]
 omega
theorem DX(X:Int)(n:Nat):0<=X%((n:Int)+1)/\X%((n:Int)+1)<=(n:Int):=⟨GO _ (by omega),by have:=GK X (show(0:Int)<(n:Int)+1 by omega);omega⟩
def Dist(xs:List V):Prop:=∀(i j:Nat)(p:Addr),xs[i]?=some (.ref p)->xs[j]?=some (.ref p)->i=j
theorem cP.set{S:Addr->Prop}{H:Hp}{xs:List V}{ts:List (List Nat)}{i:Nat}{p:Addr}{l':List Nat}(h:cP S H xs ts)(D:Dist xs)(e:xs[i]?=some (.ref p)):cP S (upd H p (.lst (l'.map iV))) xs (ts.set i l'):=by
 refine⟨by rw[Gv];exact h.1,fun j l z=>?_⟩
 have hi:i<ts.length:=by rw[← h.1];exact(Fv.mp e).1
 rw[Gg]at z
 by_cases hj:i=j
 ·subst hj
  rw[if_pos rfl,if_pos hi]at z
  cases z
  obtain⟨p',a1,a2,a3⟩:=h.2 i _ (Fu hi)
  rw[e]at a1
  cases a1
  exact⟨p,e,a2,af⟩
 ·rw[if_neg hj]at z
  obtain⟨p',a1,a2,a3⟩:=h.2 j l z
  exact⟨p',a1,a2,by rw[ak (fun y=>by rw[y]at a1;exact hj (D i j p e a1))];exact a3⟩
theorem insV{l:List Nat}{k n:Nat}:(l.map iV).take k++V.int (n:Int)::(l.map iV).drop k=(ins l k n).map iV:=by
 unfold ins
 rw[F8,F9,IJ,IK]
 rfl
theorem qq{H:Hp}{a:Addr}{xs:List V}{ts:List (List Nat)}(h:SqL K H a xs)(hR:bC H xs ts):RdD K H (.ref a) (.list (ts.map fun l=>PyData.list ((l.map fun(p:Nat)=>((p:Nat):Int)).map PyData.int))):=by
 refine RdD.lst h (by rw[FF];exact hR.1) fun i x d e1 e2=>?_
 rw[F0]at e2
 obtain⟨l,hl,rfl⟩:=Gd.mp e2
 obtain⟨p,a1,a2⟩:=hR.2 i l hl
 rw[e1]at a1
 cases a1
 exact wW (SqL.of a2)
theorem mV(ts:List (List Nat)):SeqAt.shaped (.list (ts.map fun l=>PyData.list ((l.map fun(p:Nat)=>((p:Nat):Int)).map PyData.int)))=true:=mS fun d hd=>by
 obtain⟨l,_,rfl⟩:=Gk.mp hd
 exact B3 _
end
end K8
namespace K8
open PySem L2
local macro_rules | `(tactic| walk_at "cc") => `(tactic| first | exact ⟨by decide, by decide⟩ | (show (0 : Int) < _; decide) | (show (0 : Int) < _; omega) | (show (0 : Int) ≤ _; omega) | exact ⟨by decide, by decide, by decide⟩ | exact ⟨by omega, by omega, by decide⟩ | exact Or.inl ⟨by decide, by decide⟩ | exact Or.inl ⟨by omega, by omega⟩)
local macro_rules | `(tactic| walk_at "rd") => `(tactic| repeat (first | refine ⟨_, rfl, ?_⟩ | refine ⟨_, _, rfl, rfl, ?_⟩ | refine ⟨rfl, ?_⟩ | (refine ⟨?cc, ?_⟩; (case cc => walk_at "cc"))))
def pZ(K:Fw):Sp:=fun vs H Q _=>∃(a:Addr)(ys:List V)(es:En)(d:Nat),vs = [.ref a,.int (d:Int)]/\SqL K H a ys/\cA H ys es/\d<2*es.length/\Q (iV (hd es d)) H
def mz(K:Fw):Sp:=fun vs H Q _=>∃(a b:Addr)(ys xs:List V)(m:Nat)(es:En)(ts:List (List Nat))(d:Nat),vs = [.ref a,.ref b,.int (d:Int)]/\SqL K H a ys/\cA H ys es/\SqL K H b xs/\bC H xs ts/\bB m es ts/\es.length<=62/\d<2*es.length /\
 ∀ q r H',Same H H'->H q=none->H' q=some (.lst (r.map iV))->Path (fol es ts) (2*es.length) d r->Ring (fol es ts) (2*es.length) r->Q (.ref q) H'
section
variable{P:Program}{w:World}{K:Fw}{mg:Str->Option Value}{base:Heap}
theorem vS:aD ["ends","dart"] ["ends","dart"] (ai dq):=⟨rfl,rfl,rfl,by decide +kernel,rfl,by decide +kernel,by decide +kernel⟩
theorem Dk{f:Addr}{fd:FuncData} (F:Fun K "_law_head" "_law_head" dq f fd):FnOk P w K mg base CX0 1 f fd ["ends","dart"] (pZ K):=by
 refine F.ok vS (fun vs H Q E h=>?_) (fun cdv A outer s H vs Q E hr h=>?_)
 ·obtain⟨a,ys,es,d,rfl,_⟩:=h
  rfl
 obtain⟨a,ys,es,d,rfl,hS,hE,hdl,k⟩:=h
 have hl:d/2<es.length:=by omega
 have e1:es[d/2]?=some es[d/2]:=Fu hl
 obtain⟨p,x1,x2⟩:=hE.2 _ _ e1
 have hh:hd es d=if d%2=0 then es[d/2].2 else es[d/2].1:=by unfold hd;rw[e1]
 have ed:(d:Int)/2=((d/2:Nat):Int):=by omega
 have hat:atI [iV es[d/2].1,iV es[d/2].2] (1-(d:Int)%2)=some (iV (hd es d)):=by
  by_cases z:d%2=0
  ·rw[hh,if_pos z,show(1-(d:Int)%2)=1 by omega];rfl
  ·rw[hh,if_neg z,show(1-(d:Int)%2)=0 by omega];rfl
 refine⟨_,(aj (aR (ax aE (ax aG (pv 0) (av cm (pv 1) ag) (fun _ _=>rfl)) (av tH ag (av bw (pv 1) ag)) (fun _ _=>rfl)))),?_⟩
 exact⟨_,rfl,_,rfl,_,_,rfl,rfl,⟨by decide,by decide⟩,a,ys,_,_,rfl,rfl,hS,(by rw[ed];exact aI x1),_,rfl,_,_,rfl,rfl,(by show(0:Int)<2;decide),_,_,rfl,rfl,p,_,_,_,rfl,rfl,SqT.of x2,hat,k⟩
theorem da:aD ["ends","turns","dart","place","row","tie"] ["ends","turns","dart"] (ai b4):=⟨rfl,rfl,rfl,by decide +kernel,rfl,by decide +kernel,by decide +kernel⟩
theorem zy{f fh:Addr}{fd fdh:FuncData} (F:Fun K "_law_behind" "_law_behind" b4 f fd) (T:Txt mg) (G_law_head:Cal P w K mg base 1 "_law_head" ["ends","dart"] (pZ K) fh fdh):FnOk P w K mg base CX0 2 f fd ["ends","turns","dart"] (qb K):=by
 refine F.ok da (fun vs H Q E h=>?_) (fun cdv A outer s H vs Q E hr h=>?_)
 ·obtain⟨a,b,ys,xs,m,es,ts,d,rfl,_⟩:=h
  rfl
 obtain⟨a,b,ys,xs,m,es,ts,d,rfl,hS,hE,hB,hR,w',few,hdl,kk⟩:=h
 obtain⟨l,e,p1,p2,p3,p4,p5,p6,p7,p8,p9⟩:=w'.foll hdl
 obtain⟨small,len⟩:=il w' few p1
 obtain⟨q,y1,y2⟩:=hR.2 _ _ p1
 obtain⟨p',x1',x2'⟩:=hE.2 _ _ p3
 have ed:(d:Int)/2=((d/2:Nat):Int):=by omega
 have hl0:0<l.length:=Hj p2
 have hlen:(l.map iV).length=l.length:=FF _
 have hmod:(((l.idxOf (d/2):Nat):Int)+1)%((l.map iV).length:Int)=(((l.idxOf (d/2)+1)%l.length:Nat):Int):=by rw[hlen];rfl
 have m2:CMul 2 ((nxt l (d/2):Nat):Int):=.inl ⟨by decide,by decide⟩
 refine⟨_,(ae (ar (i:=3) da.nd rfl (Or.inl rfl) (ay G_law_head.ok (hr.mono (by decide)) rfl G_law_head.mg G_law_head.kp G_law_head.bn .nil aT (aa (pv 0) (aa (pv 2) ah))))
   (ae (ar (i:=4) da.nd rfl (Or.inl rfl) (ax aG (pv 1) (pv 3) (fun _ _=>rfl)))
   (ae (ar (i:=5) da.nd rfl (Or.inl rfl) (ax aG (pv 4) (av bw (av dD (eQ FR Hg Hf mF (pv 4) (aa (av cm (pv 2) ag) ah)) ag) (aB aq (by rfl) T.n_len bf (aa (pv 4) ah))) (fun _ _=>rfl)))
   (aj (aR (av dD (av dA ag (pv 5)) (fq Cv (by rfl) T.n_int pJ (aa (qF oK (ax aE (ax aG (pv 0) (pv 5) (fun _ _=>rfl)) ag (fun _ _=>rfl)) (pv 3) (aP _)) ah)))))))),?_⟩
 refine⟨_,rfl,_,rfl,a,ys,es,d,rfl,hS,hE,hdl,?_⟩
 refine⟨_,rfl,_,rfl,b,xs,_,_,rfl,rfl,hB,aI y1,?_⟩
 refine⟨_,rfl,_,rfl,.inl ⟨rfl,_,SqL.of y2⟩,_,rfl,_,_,rfl,rfl,⟨by decide,by decide⟩,q,l,d/2,rfl,congrArg (fun z=>[V.int z]) ed,SqL.of y2,fun p hp=>by have:=small p hp;omega,by omega,p2,_,_,rfl,rfl,_,rfl,q,_,rfl,.inl (SqL.of y2),_,_,rfl,rfl,(by show(0:Int)<((l.map iV).length:Int);rw[hlen];omega),q,_,_,_,rfl,rfl,SqL.of y2,(by rw[hmod];exact Fc (gD p2)),?_⟩
 refine⟨_,rfl,_,_,rfl,rfl,m2,_,rfl,_,rfl,a,ys,_,_,rfl,rfl,hS,aI x1',p',_,0,_,rfl,rfl,SqT.of x2',at0,_,rfl,rfl,.inr ⟨_,rfl,_,_,rfl,rfl,?_⟩⟩
 rw[p6]at kk
 by_cases c:e.1=hd es d
 ·rw[if_pos c]at kk
  rw[decide_eq_true (congrArg iV c)]
  simpa[iV] using kk
 ·rw[if_neg c]at kk
  rw[decide_eq_false (fun z=>c (by have:=V.int.inj z;omega))]
  simpa[iV] using kk
theorem d6:aD ["ends","turns","dart","row","at"] ["ends","turns","dart"] (ai cF):=⟨rfl,rfl,rfl,by decide +kernel,rfl,by decide +kernel,by decide +kernel⟩
theorem Bt{f ff:Addr}{fd fdf:FuncData} (F:Fun K "_law_round" "_law_round" cF f fd) (G_law_behind:Cal P w K mg base 2 "_law_behind" ["ends","turns","dart"] (qb K) ff fdf):FnOk P w K mg base CX0 3 f fd ["ends","turns","dart"] (mz K):=by
 refine F.ok d6 (fun vs H Q E h=>?_) (fun cdv A outer s H vs Q E hr h=>?_)
 ·obtain⟨a,b,ys,xs,m,es,ts,d,rfl,_⟩:=h
  rfl
 obtain⟨a,b,ys,xs,m,es,ts,d,rfl,hS,hE,hB,hR,w',few,hdl,k⟩:=h
 have pm:=perm w'
 refine⟨_,(ae (ar (i:=3) d6.nd rfl (Or.inl rfl) (c4 (aa (pv 2) ah)))
   (ae (ar (i:=4) d6.nd rfl (Or.inl rfl) (ay G_law_behind.ok (hr.mono (by decide)) rfl G_law_behind.mg G_law_behind.kp G_law_behind.bn .nil aT (aa (pv 0) (aa (pv 1) (aa (pv 2) ah)))))
   (ae (mC PassesOwn.never (aH oK (pv 4) (pv 2) (aP _)) (ae (bc (eQ FR F7 F6 br (pv 3) (aa (pv 4) ah)))
   (aj (ar (i:=4) d6.nd rfl (Or.inl rfl) (ay G_law_behind.ok (hr.mono (by decide)) rfl G_law_behind.mg G_law_behind.kp G_law_behind.bn .nil aT (aa (pv 0) (aa (pv 1) (aa (pv 4) ah))))))))
   (aj (aR (pv 3)))))),?_⟩
 refine⟨_,rfl,(by show 1<=sizeLine;decide),fun q hq=>?_⟩
 have s1:=ao hq (.lst [.int (d:Int)])
 refine⟨_,rfl,_,rfl,_,rfl,a,b,ys,xs,m,es,ts,d,rfl,s1.seq hS,hE.mono s1,s1.seq hB,hR.mono s1,w',few,hdl,?_⟩
 refine pS (fun σ H2=>∃(r:List Nat)(x:Nat),σ = [some (.ref a),some (.ref b),some (.int (d:Int)),some (.ref q),some (iV (fol es ts x))]/\Same H H2/\H2 q=some (.lst ((r++[x]).map iV))/\Path (fol es ts) (2*es.length) d (r++[x]))
  (fun σ H2=>match H2 q with | some (.lst xs)=>200-xs.length | _=>0) ⟨[],d,rfl,s1,af,yI hdl⟩ ?_ ?_
 ·rintro σ H2 ⟨r,x,rfl,s2,hq2,pa⟩
  refine⟨_,rfl,_,rfl,rfl,_,rfl,?_⟩
  have hlen:=c5 pa.nd pa.lt
  refine ite2 (fun c=>?_) (fun c=>?_)
  ·have c':fol es ts x≠d:=fun z=>by
    rw[decide_eq_true (show iV (fol es ts x)=V.int (d:Int) by rw[z];rfl)]at c
    cases c
   have pa2:=pa.snoc pm c'
   have hlen2:=c5 pa2.nd pa2.lt
   have lt2:fol es ts x<2*es.length:=pa2.lt _ (by simp)
   refine⟨_,rfl,.inl ⟨rfl,_,SqL.of hq2⟩,_,rfl,q,_,_,rfl,rfl,hq2,au (by rw[FF];omega),?_⟩
   have s3:=aM s2 hq (.lst ((r++[x]).map iV++[iV (fol es ts x)]))
   refine⟨_,rfl,_,rfl,_,rfl,a,b,ys,xs,m,es,ts,fol es ts x,rfl,s3.seq hS,hE.mono s3,s3.seq hB,hR.mono s3,w',few,lt2,?_⟩
   refine⟨⟨r++[x],fol es ts x,rfl,s3,?_,pa2⟩,?_⟩
   ·rw[af,show((r++[x]++[fol es ts x]).map iV)=(r++[x]).map iV++[iV (fol es ts x)] from by rw[F8];rfl]
   ·show(match(upd H2 q (.lst ((r++[x]).map iV++[iV (fol es ts x)]))) q with | some (.lst xs)=>200-xs.length | _=>0)<(match H2 q with | some (.lst xs)=>200-xs.length | _=>0)
    rw[af,hq2]
    show 200-((r++[x]).map iV++[iV (fol es ts x)]).length<200-((r++[x]).map iV).length
    rw[Fy,FF,FI]
    omega
  ·have c':fol es ts x=d:=by
    by_cases z:fol es ts x=d
    ·exact z
    ·exact absurd (by rw[decide_eq_false (fun y=>z (by have:=V.int.inj y;omega))];rfl) c
   refine⟨_,rfl,?_⟩
   exact k q _ H2 s2 hq hq2 pa (pa.ring pm c')
 ·rintro σ H2 Q1 Q2 hi ⟨v',e,b',e2,z1,c',e3,q'⟩
  exact⟨v',e,b',e2,z1,c',e3,hi _ _ q'⟩
end
end K8
namespace K8
open PySem L2
local macro_rules | `(tactic| walk_at "cc") => `(tactic| first | exact ⟨by decide, by decide⟩ | (show (0 : Int) < _; decide) | (show (0 : Int) < _; omega) | (show (0 : Int) ≤ _; omega) | exact ⟨by decide, by decide, by decide⟩ | exact ⟨by omega, by omega, by decide⟩ | exact Or.inl ⟨by decide, by decide⟩ | exact Or.inl ⟨by omega, by omega⟩)
local macro_rules | `(tactic| walk_at "rd") => `(tactic| repeat (first | refine ⟨_, rfl, ?_⟩ | refine ⟨_, _, rfl, rfl, ?_⟩ | refine ⟨rfl, ?_⟩ | (refine ⟨?cc, ?_⟩; (case cc => walk_at "cc"))))
def vG:Sp:=fun vs H Q _=>∃(c:Int)(m:Nat),vs = [.int c,.int (m:Int)]/\m<=100/\∀(q:Addr)(o:List Nat)(H':Hp),Same H H'->H q=none->H' q=some (.lst (o.map iV))->o.length=m->o.Nodup->(∀ x∈o,x<m)->Q (.ref q) H'
def vI(K:Fw):Sp:=fun vs H Q _=>∃(a:Addr)(cs:List Int),vs = [.ref a]/\SqL K H a (cs.map V.int)/\cs.length<=30 /\
 ∀(t pe pt:Addr)(ys xs:List V)(m:Nat)(es:En)(ts:List (List Nat))(H':Hp),Same H H'->H' t=some (.tup [.ref pe,.ref pt])->H' pe=some (.lst ys)->cA H' ys es->H' pt=some (.lst xs)->bC H' xs ts->Gr m es ts->es.length=cs.length+1->Q (.ref t) H'
def Ft(H:Hp)(a pe pt:Addr)(i:Nat)(σ:St)(H5:Hp):Prop:=∃ v3 v4 v5 v6 v7 v8 v9 v10 ys xs m es ts,σ = [some (.ref a),some (.ref pe),some (.ref pt),v3,v4,v5,v6,v7,v8,v9,v10]/\Same H H5/\H5 pe=some (.lst ys)/\cA H5 ys es/\H5 pt=some (.lst xs)/\cP (fun p=>p=pe∨p=pt∨H p≠none) H5 xs ts/\Dist xs/\Gr m es ts/\es.length=i+1
theorem mJ{H H7:Hp}{a pe pt:Addr}{i m':Nat}{ys xs:List V}{es:En}{e:Nat×Nat}{ts':List (List Nat)}(npe:pe≠pt)(hpe:H pe=none)(s7:Same H H7)(h1:H7 pe=some (.lst ys))(h2:cA H7 ys es)(h3:H7 pt=some (.lst xs))(h4:cP (fun p=>p=pe∨p=pt∨H p≠none) H7 xs ts')(h5:Dist xs)(h6:Gr m' (es++[e]) ts')(hi:es.length=i+1)
  {t:Addr} (ht:H7 t=none) {x y:V} (hx:x=iV e.1) (hy:y=iV e.2) (v3 v4 v5 v6 v7 v8 v9 v10:Option V):Ft H a pe pt (i+1) [some (.ref a),some (.ref pe),some (.ref pt),v3,v4,v5,v6,v7,v8,v9,v10] (upd (upd H7 t (.tup [x,y])) pe (.lst (ys++[.ref t]))):=by
 subst hx hy
 have sn:=ao ht (.tup [iV e.1,iV e.2])
 refine⟨_,_,_,_,_,_,_,_,_,xs,m',es++[e],ts',rfl,aM (s7.trans sn) hpe _,af,((h2.mono sn).snoc af).put (sn _ _ h1),by rw[ak npe.symm];exact sn _ _ h3,h4.mono fun p o n z=>?_,h5,h6,by rw[Fy,hi];rfl⟩
 rw[ak (fun z=>n (.inl z))]
 exact sn _ _ z
theorem uE{S:Addr->Prop}{H:Hp}{xs:List V}{ts:List (List Nat)}{q:Addr}(h:cP S H xs ts)(D:Dist xs)(hq:H q=none):Dist (xs++[.ref q]):=by
 have old:∀(j:Nat)(p:Addr),j<xs.length->(xs++[V.ref q])[j]?=some (.ref p)->xs[j]?=some (.ref p)/\p≠q:=fun j p hj e=>by
  rw[FA hj]at e
  obtain⟨p',a1,_,a3⟩:=h.2 j _ (Fu (by rw[← h.1];exact hj))
  rw[e]at a1
  cases a1
  exact⟨e,aA a3 hq⟩
 have new:∀(j:Nat)(p:Addr),¬ j<xs.length->(xs++[V.ref q])[j]?=some (.ref p)->j=xs.length/\p=q:=fun j p hj e=>by
  have:=(Fv.mp e).1
  rw[Fy,FI]at this
  have hj2:j=xs.length:=by omega
  subst hj2
  rw[Fz (FD _),F5]at e
  cases e
  exact⟨rfl,rfl⟩
 intro j k p e1 e2
 by_cases hj:j<xs.length
 ·obtain⟨u1,u2⟩:=old j p hj e1
  by_cases hk:k<xs.length
  ·exact D j k p u1 (old k p hk e2).1
  ·exact absurd (new k p hk e2).2 u2
 ·obtain⟨u1,u2⟩:=new j p hj e1
  by_cases hk:k<xs.length
  ·exact absurd u2 (old k p hk e2).2
  ·rw[u1,(new k p hk e2).1]
theorem lj{m:Nat}{es:En}{ts:List (List Nat)}(g:Gr m es ts):m<=es.length+2:=by
 obtain⟨rs,_,c⟩:=g.part
 omega
section
variable{P:Program}{w:World}{K:Fw}{mg:Str->Option Value}{base:Heap}
theorem cS:aD ["cell","many","order","mixed","k"] ["cell","many"] (ai cG):=⟨rfl,rfl,rfl,by decide +kernel,rfl,by decide +kernel,by decide +kernel⟩
theorem Dh{f:Addr}{fd:FuncData} (F:Fun K "_law_order" "_law_order" cG f fd) (T:Txt mg):FnOk P w K mg base CX0 1 f fd ["cell","many"] vG:=by
 refine F.ok cS (fun vs H Q E h=>?_) (fun cdv A outer s H vs Q E hr h=>?_)
 ·obtain⟨c,m,rfl,_⟩:=h
  rfl
 obtain⟨c,m,rfl,hm,k⟩:=h
 refine⟨_,(ae (ar (i:=2) cS.nd rfl (Or.inl rfl) (c4 ah))
   (ae (ar (i:=3) cS.nd rfl (Or.inl rfl) (av bw (pv 0) ag))
   (ae (bP PassesOwn.never rfl (bq rfl T.n_range (aa (pv 1) ah)) (aQ (i:=4) cS.nd rfl (Or.inl rfl)) (ae (ar (i:=3) cS.nd rfl (Or.inl rfl) (av bw (av dA (pv 3) ag) ag))
   (aj (bc (eQ FR HB HA m5 (pv 2) (aa (av bw (pv 3) (av dD (pv 4) ag)) (aa (pv 4) ah)))))))
   (aj (aR (pv 2)))))),?_⟩
 refine⟨(by show 0<=sizeLine;decide),fun q hq=>?_⟩
 refine⟨_,rfl,_,_,rfl,rfl,(by show(0:Int)<1000000007;decide),?_⟩
 refine⟨_,rfl,_,rfl,by omega,by omega,bJ (n:=(m:Int).toNat) (fun i σ H2=>∃(M:Int),∃ v4 o,σ = [some (.int c),some (.int (m:Int)),some (.ref q),some (.int M),v4]/\Same H H2/\H2 q=some (.lst (o.map iV))/\o.length=i/\o.Nodup/\∀ x∈o,x<i) ⟨_,_,[],rfl,ao hq _,af,rfl,Hy,fun x hx=>nomatch hx⟩ ?_ ?_⟩
 ·rintro i σ H2 hi ⟨M,v4,o,rfl,s2,hq2,ol,nd,lt⟩
  rw[F1]at hi
  have e0:(0:Int)+(i:Int)=(i:Int):=GN _
  rw[e0]
  have hlen:(o.map iV).length=i:=by rw[FF];exact ol
  refine⟨_,rfl,_,_,rfl,rfl,.inr ⟨by decide,by decide⟩,_,_,rfl,rfl,(by show(0:Int)<2147483647;decide),?_⟩
  refine⟨_,rfl,.inl ⟨rfl,_,SqL.of hq2⟩,_,rfl,_,rfl,_,_,rfl,rfl,_,_,rfl,rfl,(by show(0:Int)<(i:Int)+1;omega),_,rfl,q,_,_,_,rfl,rfl,hq2,(DX _ _).1,(by rw[hlen];exact(DX _ _).2),au (by omega),?_⟩
  rw[insV]
  refine⟨_,_,_,rfl,aM s2 hq _,af,by rw[Fb,ol],B5 nd fun z=>by have:=lt i z;omega,fun x hx=>?_⟩
  rcases xB.mp hx with z | z
  ·omega
  ·have:=lt x z;omega
 ·rintro σ H2 ⟨M,v4,o,rfl,s2,hq2,ol,nd,lt⟩
  rw[F1]at ol lt
  exact⟨_,rfl,k q o H2 s2 hq hq2 ol nd lt⟩
theorem aO:aD ["cells","ends","turns","cell","mixed","fresh","left","row","right","one","two"] ["cells"] (ai cH):=⟨rfl,rfl,rfl,by decide +kernel,rfl,by decide +kernel,by decide +kernel⟩
theorem Dl{f fr fh:Addr}{fd fdr fdh:FuncData} (F:Fun K "_law_grown" "_law_grown" cH f fd) (T:Txt mg) (G_law_round:Cal P w K mg base 3 "_law_round" ["ends","turns","dart"] (mz K) fr fdr) (G_law_head:Cal P w K mg base 1 "_law_head" ["ends","dart"] (pZ K) fh fdh) :
  FnOk P w K mg base CX0 4 f fd ["cells"] (vI K):=by
 refine F.ok aO (fun vs H Q E h=>?_) (fun cdv A outer s H vs Q E hr h=>?_)
 ·obtain⟨a,cs,rfl,_⟩:=h
  rfl
 obtain⟨a,cs,rfl,hS,h30,kk⟩:=h
 have hcl:(cs.map V.int).length=cs.length:=FF _
 refine⟨_,(ae (ar (i:=1) aO.nd rfl (Or.inl rfl) (c4 (aa (gC (aa ag (aa ag ah))) ah)))
   (ae (ar (i:=2) aO.nd rfl (Or.inl rfl) (c4 (aa (c4 (aa ag ah)) (aa (c4 (aa ag ah)) ah))))
   (ae (bP PassesOwn.never rfl (ck (pv 0)) (aQ (i:=3) aO.nd rfl (Or.inl rfl)) (ae (ar (i:=4) aO.nd rfl (Or.inl rfl) (av bw (av dA (av bw (pv 3) ag) ag) ag))
   (ae (ar (i:=5) aO.nd rfl (Or.inl rfl) (aB aq (by rfl) T.n_len bf (aa (pv 1) ah)))
   (ae (ar (i:=6) aO.nd rfl (Or.inl rfl) (av bw (av cm (pv 4) ag) (av dA ag (pv 5))))
   (ae (ar (i:=7) aO.nd rfl (Or.inl rfl) (ay G_law_round.ok (hr.mono (by decide)) rfl G_law_round.mg G_law_round.kp G_law_round.bn .nil aT (aa (pv 1) (aa (pv 2) (aa (pv 6) ah)))))
   (ae (ar (i:=8) aO.nd rfl (Or.inl rfl) (ax aG (pv 7) (av bw (av bw (av dA (pv 4) (pv 4)) ag) (aB aq (by rfl) T.n_len bf (aa (pv 7) ah))) (fun _ _=>rfl)))
   (ae (ar (i:=9) aO.nd rfl (Or.inl rfl) (ay G_law_head.ok (hr.mono (by decide)) rfl G_law_head.mg G_law_head.kp G_law_head.bn .nil aT (aa (pv 1) (aa (pv 6) ah))))
   (ae (ar (i:=10) aO.nd rfl (Or.inl rfl) (ay G_law_head.ok (hr.mono (by decide)) rfl G_law_head.mg G_law_head.kp G_law_head.bn .nil aT (aa (pv 1) (aa (pv 8) ah))))
   (ae (bc (eQ FR HB HA m5 (ax aG (pv 2) (pv 9) (fun _ _=>rfl)) (aa (av dD (eQ FR Hg Hf mF (ax aG (pv 2) (pv 9) (fun _ _=>rfl)) (aa (av cm (pv 6) ag) ah)) ag) (aa (pv 5) ah))))
   (ae (dz (PW.pt (vX (aH iW (av bw (pv 4) ag) ag (aP _)) (sU (aH iW (pv 9) (pv 10) (aP _))))) (ae (ar (i:=10) aO.nd rfl (Or.inl rfl) (aB aq (by rfl) T.n_len bf (aa (pv 2) ah)))
   (aj (bc (eQ FR F7 F6 br (pv 2) (aa (c4 (aa (pv 5) ah)) ah))))) (aj (bc (eQ FR HB HA m5 (ax aG (pv 2) (pv 10) (fun _ _=>rfl)) (aa (av dD (eQ FR Hg Hf mF (ax aG (pv 2) (pv 10) (fun _ _=>rfl)) (aa (av cm (pv 8) ag) ah)) ag) (aa (pv 5) ah))))))
   (aj (dz (aH iW (av bw (av cm (pv 3) ag) ag) ag (aP _)) (aj (bc (eQ FR F7 F6 br (pv 1) (aa (gC (aa (pv 10) (aa (pv 9) ah))) ah)))) (aj (bc (eQ FR F7 F6 br (pv 1) (aa (gC (aa (pv 9) (aa (pv 10) ah))) ah))))))))))))))))
   (aj (aR (gC (aa (pv 1) (aa (pv 2) ah)))))))),?_⟩
 refine⟨(by show 2<=sizeLine;decide),fun t0 ht0=>⟨(by show 1<=sizeLine;decide),fun pe hpe=>?_⟩⟩
 have s1:=ao ht0 (.tup [.int 0,.int 1])
 have s2:=s1.trans (ao hpe (.lst [.ref t0]))
 refine⟨(by show 1<=sizeLine;decide),fun p0 hp0=>⟨(by show 1<=sizeLine;decide),fun p1 hp1=>⟨(by show 2<=sizeLine;decide),fun pt hpt=>?_⟩⟩⟩
 have s3:=ao hp0 (.lst [.int 0])
 have s4:=ao hp1 (.lst [.int 0])
 have s5:=ao hpt (.lst [.ref p0,.ref p1])
 have s05:=((s2.trans s3).trans s4).trans s5
 have none_of:∀{G:Hp}{p:Addr},Same H G->G p=none->H p=none:=fun{G p} sm z=>by
  cases y:H p with
  |none=>rfl
  |some o=>rw[sm _ _ y]at z;cases z
 have hpe0:=none_of s1 hpe
 have hpt0:=none_of ((s2.trans s3).trans s4) hpt
 have hp00:=none_of s2 hp0
 have hp10:=none_of (s2.trans s3) hp1
 have g1:=s3.trans (s4.trans s5)
 have hpe5:=g1 _ _ (af (H:=upd H t0 (.tup [.int 0,.int 1])) (a:=pe) (o:=.lst [.ref t0]))
 have hp05:=(s4.trans s5) _ _ (af (a:=p0) (o:=.lst [.int 0]))
 have hp15:=s5 _ _ (af (a:=p1) (o:=.lst [.int 0]))
 have n01:p0≠p1:=aA (af (a:=p0) (o:=.lst [.int 0])) hp1
 have npe:pe≠pt:=aA ((s3.trans s4) _ _ (af (a:=pe) (o:=.lst [.ref t0]))) hpt
 have n0e:p0≠pe:=fun z=>by rw[z,af]at hp0;cases hp0
 have n1e:p1≠pe:=fun z=>by rw[z,s3 _ _ (af (a:=pe) (o:=.lst [.ref t0]))]at hp1;cases hp1
 have n0t:p0≠pt:=aA (s4 _ _ (af (a:=p0) (o:=.lst [.int 0]))) hpt
 have n1t:p1≠pt:=aA (af (a:=p1) (o:=.lst [.int 0])) hpt
 have init:Ft H a pe pt 0 [some (.ref a),some (.ref pe),some (.ref pt),none,none,none,none,none,none,none,none] (upd (upd (upd (upd (upd H t0 (.tup [.int 0,.int 1])) pe (.lst [.ref t0])) p0 (.lst [.int 0])) p1 (.lst [.int 0])) pt (.lst [.ref p0,.ref p1])):=by
  refine⟨_,_,_,_,_,_,_,_,[.ref t0],[.ref p0,.ref p1],2,[(0,1)],[[0],[0]],rfl,s05,hpe5,⟨rfl,fun i e z=>?_⟩,af,⟨rfl,fun i l z=>?_⟩,fun i j p z1 z2=>?_,gr_two,rfl⟩
  ·match i,z with
   |0,z=>cases z;exact⟨t0,rfl,((ao hpe _).trans g1) _ _ af⟩
   |i+1,z=>cases z
  ·match i,z with
   |0,z=>cases z;exact⟨p0,rfl,by rintro(y | y | y);exact n0e y;exact n0t y;exact y hp00,hp05⟩
   |1,z=>cases z;exact⟨p1,rfl,by rintro(y | y | y);exact n1e y;exact n1t y;exact y hp10,hp15⟩
   |i+2,z=>cases z
  ·match i,z1,j,z2 with
   |0,z1,0,z2=>rfl
   |1,z1,1,z2=>rfl
   |0,z1,1,z2=>cases z1;cases z2;exact absurd rfl n01
   |1,z1,0,z2=>cases z1;cases z2;exact absurd rfl n01
   |i+2,z1,_,_=>cases z1
   |0,_,j+2,z2=>cases z2
   |1,_,j+2,z2=>cases z2
 refine⟨_,rfl,a,rfl,⟨_,s05.seq hS⟩,eB (xs:=cs.map V.int) (fun i σ H5=>Ft H a pe pt i σ H5) init (fun i σ H5 _ ⟨_,_,_,_,_,_,_,_,_,_,_,_,_,_,z,_⟩=>z.seq hS) ?_ ?_⟩
 ·rintro i x σ H5 hx ⟨v3,v4,v5,v6,v7,v8,v9,v10,ys,xs,m,es,ts,rfl,s5,hpe5,en,hpt5,rx5,D,g,hi⟩
  rw[F0]at hx
  obtain⟨c,hc,rfl⟩:=Gd.mp hx
  have hil:i<cs.length:=(Fv.mp hc).1
  have hyl:ys.length=es.length:=en.1
  have few:es.length<=62:=by omega
  have w':=g.w
  have tlen:=w'.len
  have mfew:=lj g
  have o0:(0:Int)<=c%1000000007*48271%2147483647:=GO _ (by decide)
  have o1:c%1000000007*48271%2147483647<2147483647:=GK _ (by decide)
  refine⟨_,rfl,_,_,rfl,rfl,(by show(0:Int)<1000000007;decide),_,_,rfl,rfl,.inr ⟨by decide,by decide⟩,_,_,rfl,rfl,(by show(0:Int)<2147483647;decide),?_⟩
  refine⟨_,rfl,pe,ys,rfl,.inl (SqL.of hpe5),?_⟩
  have hfr:(0:Int)<2*(ys.length:Int):=by omega
  refine⟨_,rfl,_,_,rfl,rfl,⟨by decide,by decide⟩,_,rfl,_,_,rfl,rfl,.inl ⟨by decide,by decide⟩,_,_,rfl,rfl,hfr,?_⟩
  have l0:=GO (c%1000000007*48271%2147483647/2) (show 2*(ys.length:Int)≠0 by omega)
  have l1:=GK (c%1000000007*48271%2147483647/2) hfr
  obtain⟨L,hL⟩:∃ L:Nat,c%1000000007*48271%2147483647/2%(2*(ys.length:Int))=(L:Int):=⟨_,(Hb l0).symm⟩
  have hLl:L<2*es.length:=by omega
  refine⟨_,rfl,_,rfl,_,rfl,pe,pt,ys,xs,m,es,ts,L,congrArg (fun z=>[V.ref pe,V.ref pt,V.int z]) hL,SqL.of hpe5,en,SqL.of hpt5,rx5.off,w',few,hLl,fun q r H6 s6 hq hq6 pa ri=>?_⟩
  have hrlen:(r.map iV).length=r.length:=FF _
  have hr0:=ri.ne
  have hrp:(0:Int)<((r.map iV).length:Int):=by omega
  have j0:=GO (c%1000000007*48271%2147483647*(c%1000000007*48271%2147483647)%1000003) (show((r.map iV).length:Int)≠0 by omega)
  have j1:=GK (c%1000000007*48271%2147483647*(c%1000000007*48271%2147483647)%1000003) hrp
  obtain⟨J,hJ⟩:∃ J:Nat,c%1000000007*48271%2147483647*(c%1000000007*48271%2147483647)%1000003%((r.map iV).length:Int)=(J:Int):=⟨_,(Hb j0).symm⟩
  have hJl:J<r.length:=by omega
  obtain⟨R,hR⟩:∃ R,r[J]?=some R:=⟨_,Fu hJl⟩
  have hRm:=Fx hR
  have hRl:=ri.lt R hRm
  refine⟨_,rfl,_,rfl,_,rfl,_,_,rfl,rfl,.inl ⟨by show -(2^64:Int)<c%1000000007*48271%2147483647;omega,by show c%1000000007*48271%2147483647<(2^64:Int);omega⟩,_,_,rfl,rfl,(by show(0:Int)<1000003;decide),_,rfl,q,_,rfl,.inl (SqL.of hq6),_,_,rfl,rfl,hrp,q,_,_,_,rfl,rfl,SqL.of hq6,(by rw[hJ];exact Fc hR),?_⟩
  have s06:=s5.trans s6
  have hpe6:=s6 _ _ hpe5
  have hpt6:=s6 _ _ hpt5
  have en6:=en.mono s6
  have rx6:cP (fun p=>p=pe∨p=pt∨H p≠none) H6 xs ts:=rx5.mono fun p o _ z=>s6 _ _ z
  refine⟨_,rfl,_,rfl,pe,ys,es,L,congrArg (fun z=>[V.ref pe,V.int z]) hL,SqL.of hpe6,en6,hLl,?_⟩
  refine⟨_,rfl,_,rfl,pe,ys,es,R,rfl,SqL.of hpe6,en6,hRl,?_⟩
  obtain⟨_,l,_,_,_,k4,k5,k6⟩:=w'.at hLl
  obtain⟨_,l',_,_,_,k4',k5',k6'⟩:=w'.at hRl
  obtain⟨p1,y1,y2,y3⟩:=rx6.2 _ _ k5
  obtain⟨p2,z1,z2,z3⟩:=rx6.2 _ _ k5'
  obtain⟨sm1,f1⟩:=il w' few k5
  obtain⟨sm2,f2⟩:=il w' few k5'
  have len1:(l.map iV).length=l.length:=FF _
  have len2:(l'.map iV).length=l'.length:=FF _
  have ix1:l.idxOf (L/2)<l.length:=Iw k6
  have ix2:l'.idxOf (R/2)<l'.length:=Iw k6'
  have ne_S:∀{p q:Addr},¬ (p=pe∨p=pt∨H p≠none)->(q=pe∨q=pt)->q≠p:=fun n y z=>n (by rw[← z];rcases y with y | y<;>simp[y])
  have no_S:∀{p:Addr},¬ (p=pe∨p=pt∨H p≠none)->H p=none:=fun{p} n=>by
   cases y:H p with
   |none=>rfl
   |some o=>exact absurd (.inr (.inr (by rw[y];exact fun z=>nomatch z))) n
  have hp1:=no_S y2
  have hp2:=no_S z2
  have eL:c%1000000007*48271%2147483647/2%(2*(ys.length:Int))/2=((L/2:Nat):Int):=by rw[hL];omega
  have eR:(R:Int)/2=((R/2:Nat):Int):=by omega
  refine⟨_,rfl,_,rfl,pt,xs,_,_,rfl,rfl,SqL.of hpt6,aI y1,.inl ⟨rfl,_,SqL.of y3⟩,_,rfl,_,rfl,pt,xs,_,_,rfl,rfl,SqL.of hpt6,aI y1,.inl ⟨rfl,_,SqL.of y3⟩,_,rfl,_,_,rfl,rfl,⟨by decide,by decide⟩,p1,l,L/2,rfl,congrArg (fun z=>[V.int z]) eL,SqL.of y3,fun p hp=>by have:=sm1 p hp;omega,by omega,k6,_,_,rfl,rfl,_,rfl,p1,_,_,_,rfl,rfl,y3,by omega,by omega,au (by omega),?_⟩
  rw[hyl,insV,show(((l.idxOf (L/2):Nat):Int)+1).toNat=l.idxOf (L/2)+1 by omega]
  have s07:=aM s06 hp1 (.lst ((ins l (l.idxOf (L/2)+1) es.length).map iV))
  have hpe7:(upd H6 p1 (.lst ((ins l (l.idxOf (L/2)+1) es.length).map iV))) pe=some (.lst ys):=by rw[ak (ne_S y2 (.inl rfl))];exact hpe6
  have hpt7:(upd H6 p1 (.lst ((ins l (l.idxOf (L/2)+1) es.length).map iV))) pt=some (.lst xs):=by rw[ak (ne_S y2 (.inr rfl))];exact hpt6
  have en7:=en6.put (o:=.lst ((ins l (l.idxOf (L/2)+1) es.length).map iV)) y3
  have rx7:=rx6.set (l':=ins l (l.idxOf (L/2)+1) es.length) D y1
  have z7:hd es L≠hd es R->(upd H6 p1 (.lst ((ins l (l.idxOf (L/2)+1) es.length).map iV))) p2=some (.lst (l'.map iV)):=fun n=>by
   rw[ak (fun y=>by rw[y]at z1;exact n (D _ _ p1 y1 z1))];exact z3
  generalize hH7:upd H6 p1 (.lst ((ins l (l.idxOf (L/2)+1) es.length).map iV))=H7 at s07 hpe7 hpt7 en7 rx7 z7
  obtain⟨x0,tail,rfl,ch⟩:=ri.cr.ch
  have hx0:x0=L:=by
   have:=pa.hd
   exact FW this
  subst hx0
  have xl:xs.length=m:=by rw[rx5.1,tlen]
  have hcr:=ri.cr
  refine⟨_,rfl,_,_,rfl,rfl,(by show(0:Int)<2;decide),rfl,_,rfl,ite2 (fun c=>iteT ?_) (fun c=>⟨_,rfl,_,rfl,rfl,_,rfl,ite2 (fun c2=>?_) (fun c2=>?_)⟩)⟩
  rotate_left 2
  ·have n:hd es x0≠hd es R:=fun z=>c2 (decide_eq_true (by rw[z]))
   have z7:=z7 n
   refine⟨_,rfl,_,rfl,pt,xs,_,_,rfl,rfl,SqL.of hpt7,aI z1,.inl ⟨rfl,_,SqL.of z7⟩,_,rfl,_,rfl,pt,xs,_,_,rfl,rfl,SqL.of hpt7,aI z1,.inl ⟨rfl,_,SqL.of z7⟩,_,rfl,_,_,rfl,rfl,⟨by decide,by decide⟩,p2,l',R/2,rfl,congrArg (fun z=>[V.int z]) eR,SqL.of z7,fun p hp=>by have:=sm2 p hp;omega,by omega,k6',_,_,rfl,rfl,_,rfl,p2,_,_,_,rfl,rfl,z7,by omega,by omega,au (by omega),?_⟩
   rw[insV,show(((l'.idxOf (R/2):Nat):Int)+1).toNat=l'.idxOf (R/2)+1 by omega]
   have s08:=aM s07 hp2 (.lst ((ins l' (l'.idxOf (R/2)+1) es.length).map iV))
   have hpe8:(upd H7 p2 (.lst ((ins l' (l'.idxOf (R/2)+1) es.length).map iV))) pe=some (.lst ys):=by rw[ak (ne_S z2 (.inl rfl))];exact hpe7
   have hpt8:(upd H7 p2 (.lst ((ins l' (l'.idxOf (R/2)+1) es.length).map iV))) pt=some (.lst xs):=by rw[ak (ne_S z2 (.inr rfl))];exact hpt7
   have en8:=en7.put (o:=.lst ((ins l' (l'.idxOf (R/2)+1) es.length).map iV)) z7
   have rx8:=rx7.set (l':=ins l' (l'.idxOf (R/2)+1) es.length) D z1
   refine⟨_,rfl,_,_,rfl,rfl,⟨by decide,by decide⟩,_,_,rfl,rfl,(by show(0:Int)<2;decide),rfl,_,rfl,ite2 (fun _=>?_) (fun _=>?_)⟩
   ·refine⟨_,rfl,.inl ⟨rfl,_,SqL.of hpe8⟩,_,rfl,_,rfl,(by show 2<=sizeLine;decide),fun t ht=>⟨pe,ys,_,rfl,rfl,ao ht _ _ _ hpe8,au (by omega),?_⟩⟩
    exact mJ npe hpe0 s08 hpe8 en8 hpt8 rx8 D (g.join (e:=(hd es R,hd es x0)) hLl hcr ch hRm rfl rfl n (.inr rfl) k5 k5') hi ht rfl rfl _ _ _ _ _ _ _ _
   ·refine⟨_,rfl,.inl ⟨rfl,_,SqL.of hpe8⟩,_,rfl,_,rfl,(by show 2<=sizeLine;decide),fun t ht=>⟨pe,ys,_,rfl,rfl,ao ht _ _ _ hpe8,au (by omega),?_⟩⟩
    exact mJ npe hpe0 s08 hpe8 en8 hpt8 rx8 D (g.join (e:=(hd es x0,hd es R)) hLl hcr ch hRm rfl rfl n (.inl rfl) k5 k5') hi ht rfl rfl _ _ _ _ _ _ _ _
  all_goals
   refine⟨_,rfl,pt,xs,rfl,.inl (SqL.of hpt7),?_⟩
   refine⟨_,rfl,.inl ⟨rfl,_,SqL.of hpt7⟩,_,rfl,(by show 1<=sizeLine;decide),fun pn hpn=>⟨pt,xs,_,rfl,rfl,ao hpn _ _ _ hpt7,au (by omega),?_⟩⟩
   have sn:=ao hpn (.lst [V.int (es.length:Int)])
   have s08:=aM (s07.trans sn) hpt0 (.lst (xs++[.ref pn]))
   have hpe8:(upd (upd H7 pn (.lst [V.int (es.length:Int)])) pt (.lst (xs++[.ref pn]))) pe=some (.lst ys):=by rw[ak npe];exact sn _ _ hpe7
   have hpt8:(upd (upd H7 pn (.lst [V.int (es.length:Int)])) pt (.lst (xs++[.ref pn]))) pt=some (.lst (xs++[.ref pn])):=af
   have en8:=(en7.mono sn).put (o:=.lst (xs++[.ref pn])) (sn _ _ hpt7)
   have npt:pn≠pt:=fun z=>by rw[z,hpt7]at hpn;cases hpn
   have npn:pn≠pe:=fun z=>by rw[z,hpe7]at hpn;cases hpn
   have hpn0:H pn=none:=none_of s07 hpn
   have rx8:cP (fun p=>p=pe∨p=pt∨H p≠none) (upd (upd H7 pn (.lst [V.int (es.length:Int)])) pt (.lst (xs++[.ref pn]))) (xs++[.ref pn]) (ts.set (hd es x0) (ins l (l.idxOf (x0/2)+1) es.length)++[[es.length]]):=by
    refine(rx7.mono fun p o n z=>?_).snoc (by rintro(y | y | y);exact npn y;exact npt y;exact y hpn0) ?_
    ·rw[ak (fun z=>n (.inr (.inl z)))];exact sn _ _ z
    ·rw[ak npt];exact af
   have D8:=uE rx7 D hpn
   have hxm:V.int (xs.length:Int)=iV m:=by rw[xl];rfl
   refine⟨_,rfl,_,_,rfl,rfl,⟨by decide,by decide⟩,_,_,rfl,rfl,(by show(0:Int)<2;decide),rfl,_,rfl,ite2 (fun _=>?_) (fun _=>?_)⟩
   ·refine⟨_,rfl,.inl ⟨rfl,_,SqL.of hpe8⟩,_,rfl,_,rfl,(by show 2<=sizeLine;decide),fun t ht=>⟨pe,ys,_,rfl,rfl,ao ht _ _ _ hpe8,au (by omega),?_⟩⟩
    exact mJ npe hpe0 s08 hpe8 en8 hpt8 rx8 D8 (g.leaf (e:=(m,hd es x0)) hLl hcr ch rfl (.inr rfl) k5) hi ht hxm rfl _ _ _ _ _ _ _ _
   ·refine⟨_,rfl,.inl ⟨rfl,_,SqL.of hpe8⟩,_,rfl,_,rfl,(by show 2<=sizeLine;decide),fun t ht=>⟨pe,ys,_,rfl,rfl,ao ht _ _ _ hpe8,au (by omega),?_⟩⟩
    exact mJ npe hpe0 s08 hpe8 en8 hpt8 rx8 D8 (g.leaf (e:=(hd es x0,m)) hLl hcr ch rfl (.inl rfl) k5) hi ht rfl hxm _ _ _ _ _ _ _ _
 ·rintro σ H5 ⟨v3,v4,v5,v6,v7,v8,v9,v10,ys,xs,m,es,ts,rfl,s5,hpe5,en,hpt5,rx5,D,g,hi⟩
  rw[hcl]at hi
  refine⟨_,rfl,_,rfl,(by show 2<=sizeLine;decide),fun t ht=>?_⟩
  have s6:=ao ht (.tup [.ref pe,.ref pt])
  exact kk t pe pt ys xs m es ts _ (s5.trans s6) af (s6 _ _ hpe5) (en.mono s6) (s6 _ _ hpt5) (rx5.off.mono s6) g hi
end
end K8
namespace K8
open PySem L2
local macro_rules | `(tactic| walk_at "cc") => `(tactic| first | exact ⟨by decide, by decide⟩ | (show (0 : Int) < _; decide) | (show (0 : Int) < _; omega) | (show (0 : Int) ≤ _; omega) | exact ⟨by decide, by decide, by decide⟩ | exact ⟨by omega, by omega, by decide⟩ | exact Or.inl ⟨by decide, by decide⟩ | exact Or.inl ⟨by omega, by omega⟩)
local macro_rules | `(tactic| walk_at "rd") => `(tactic| repeat (first | refine ⟨_, rfl, ?_⟩ | refine ⟨_, _, rfl, rfl, ?_⟩ | refine ⟨rfl, ?_⟩ | (refine ⟨?cc, ?_⟩; (case cc => walk_at "cc"))))
def cutp(c:Int)(p n:Nat):Nat:=(c%1009*((p:Int)+1)%(n:Int)).toNat
def rowN(c:Int)(o2:List Nat)(p:Nat)(l:List Nat):List Nat:=(l.drop (cutp c p l.length)++l.take (cutp c p l.length)).map (ofL o2)
def en2(o1 o2:List Nat)(es:En):En:=(Hd es.length).map fun j=>(ofL o1 ((es[o2.idxOf j]?).getD (0,0)).1,ofL o1 ((es[o2.idxOf j]?).getD (0,0)).2)
def ts2(c:Int)(o1 o2:List Nat)(ts:List (List Nat)):List (List Nat):=(Hd ts.length).map fun j=>rowN c o2 (o1.idxOf j) ((ts[o1.idxOf j]?).getD [])
theorem B7{o:List Nat}(nd:o.Nodup){k:Nat}(h:k<o.length):o.idxOf (ofL o k)=k:=by
 have e:o[k]?=some (ofL o k):=by unfold ofL;rw[Fu h];rfl
 exact yK nd (xC (Fx e)) e
theorem ren_of{m:Nat}{es:En}{ts:List (List Nat)}{c:Int}{o1 o2:List Nat}(w:bB m es ts)(l1:o1.length=m)(n1:o1.Nodup)(b1:∀ x∈o1,x<m)(l2:o2.length=es.length)(n2:o2.Nodup)(b2:∀ x∈o2,x<es.length) :
  Ren m es (en2 o1 o2 es) ts (ts2 c o1 o2 ts) (ofL o1) (ofL o2):=by
 have B1:=yZ l1 n1 b1
 have B2:=yZ l2 n2 b2
 refine⟨B1,B2,by simp[en2],by simp[ts2,w.len],fun k e h=>?_,fun p l h=>?_⟩
 ·have hk:=(Fv.mp h).1
  unfold en2
  rw[F0,HY (B2.lt k hk)]
  show some (ofL o1 ((es[o2.idxOf (ofL o2 k)]?).getD (0,0)).1,ofL o1 ((es[o2.idxOf (ofL o2 k)]?).getD (0,0)).2)=_
  rw[B7 n2 (by omega),h]
  rfl
 ·have hp:p<m:=by rw[← w.len];exact(Fv.mp h).1
  refine⟨l.take (cutp c p l.length),l.drop (cutp c p l.length),(Hn _ _).symm,?_⟩
  unfold ts2
  rw[F0,HY (by rw[w.len];exact B1.lt p hp)]
  show some (rowN c o2 (o1.idxOf (ofL o1 p)) ((ts[o1.idxOf (ofL o1 p)]?).getD []))=_
  rw[B7 n1 (by omega),h]
  rfl
theorem Gr.rows{m:Nat}{es:En}{ts:List (List Nat)}(g:Gr m es ts)(h2:2<=m){p:Nat}{l:List Nat}(h:ts[p]?=some l):0<l.length:=by
 have hp:p<m:=by rw[← g.w.len];exact(Fv.mp h).1
 cases l with
 |cons a l=>exact Nat.succ_pos _
 |nil =>
  exfalso
  have no:∀ e∈es,e.1≠p/\e.2≠p:=fun e he=>by
   obtain⟨t,ht⟩:=Gj.mp he
   refine⟨fun z=>?_,fun z=>?_⟩
   ·exact nomatch (g.w.mem p [] h t).mpr ⟨e,ht,.inl z⟩
   ·exact nomatch (g.w.mem p [] h t).mpr ⟨e,ht,.inr z⟩
  have:=g.conn (fun x=>x=p) (fun e he=>⟨fun z=>absurd z (no e he).1,fun z=>absurd z (no e he).2⟩) p (if p=0 then 1 else 0) hp (by split<;>omega) rfl
  have this':(if p=0 then 1 else 0)=p:=this
  split at this'<;>omega
theorem cut_hi{xs:List V}{c:Nat}(h:c<=xs.length):cutV xs (some (c:Int)) none=xs.drop c:=by
 unfold cutV
 rw[HT.sIx_nat,Iu h]
 show(xs.drop c).take (xs.length-c)=_
 exact G2 (by rw[G8];exact FD _)
theorem cut_lo{xs:List V}{c:Nat}(h:c<=xs.length):cutV xs none (some (c:Int))=xs.take c:=by
 unfold cutV
 rw[HT.sIx_nat,Iu h]
 show(xs.drop 0).take (c-0)=_
 rw[List.drop_zero,Nat.sub_zero]
structure WebP(H:Hp)(pe pt:Addr)(m:Nat)(es:En)(ts:List (List Nat)):Prop where
 en:∃ ys,H pe=some (.lst ys)/\cA H ys es
 tu:∃ xs,H pt=some (.lst xs)/\bC H xs ts
 g:Gr m es ts
theorem WebP.mono{H H':Hp}{pe pt:Addr}{m:Nat}{es:En}{ts:List (List Nat)}(h:WebP H pe pt m es ts)(s:Same H H'):WebP H' pe pt m es ts:=by
 obtain⟨⟨ys,a,b⟩,⟨xs,c,d⟩,g⟩:=h
 exact⟨⟨ys,s _ _ a,b.mono s⟩,⟨xs,s _ _ c,d.mono s⟩,g⟩
def Em:Sp:=fun vs H Q _=>∃(t pe pt:Addr)(c:Int)(m:Nat)(es:En)(ts:List (List Nat)),vs = [.ref t,.int c]/\H t=some (.tup [.ref pe,.ref pt])/\WebP H pe pt m es ts/\2<=m/\es.length<=31 /\
 ∀(t' pe' pt':Addr)(es':En)(ts':List (List Nat))(H':Hp),Same H H'->H' t'=some (.tup [.ref pe',.ref pt'])->WebP H' pe' pt' m es' ts'->es'.length=es.length->Q (.ref t') H'
section
variable{P:Program}{w:World}{K:Fw}{mg:Str->Option Value}{base:Heap}
theorem aJ:aD ["grown","cell","places","ties","ends","k","turns","p","row","cut"] ["grown","cell"] (ai bb):=⟨rfl,rfl,rfl,by decide +kernel,rfl,by decide +kernel,by decide +kernel⟩
theorem ok_ren{f fo:Addr}{fd fdo:FuncData} (F:Fun K "_law_renumbered" "_law_renumbered" bb f fd) (T:Txt mg) (G_law_order:Cal P w K mg base 1 "_law_order" ["cell","many"] vG fo fdo):FnOk P w K mg base CX0 2 f fd ["grown","cell"] Em:=by
 refine F.ok aJ (fun vs H Q E h=>?_) (fun cdv A outer s H vs Q E hr h=>?_)
 ·obtain⟨t,pe,pt,c,m,es,ts,rfl,_⟩:=h
  rfl
 obtain⟨t,pe,pt,c,m,es,ts,rfl,ht,⟨⟨ys,hpe,en⟩,⟨xs,hpt,tu⟩,g⟩,h2,h31,kk⟩:=h
 have w':=g.w
 have mf:=lj g
 have hyl:ys.length=es.length:=en.1
 have hxl:xs.length=m:=by rw[tu.1,w'.len]
 refine⟨_,(ae (ar (i:=2) aJ.nd rfl (Or.inl rfl) (ay G_law_order.ok (hr.mono (by decide)) rfl G_law_order.mg G_law_order.kp G_law_order.bn .nil aT (aa (pv 1) (aa (aB aq (by rfl) T.n_len bf (aa (ax aE (pv 0) ag (fun _ _=>rfl)) ah)) ah))))
   (ae (ar (i:=3) aJ.nd rfl (Or.inr rfl) (ay G_law_order.ok (hr.mono (by decide)) rfl G_law_order.mg G_law_order.kp G_law_order.bn .nil aT (aa (av cm (pv 1) ag) (aa (aB aq (by rfl) T.n_len bf (aa (ax aE (pv 0) ag (fun _ _=>rfl)) ah)) ah))))
   (ae (ar (i:=4) aJ.nd rfl (Or.inl rfl) (fq eK (by rfl) T.n_list nY (aa (ax aE (pv 0) ag (fun _ _=>rfl)) ah)))
   (ae (bP PassesOwn.never rfl (bq rfl T.n_range (aa (aB aq (by rfl) T.n_len bf (aa (ax aE (pv 0) ag (fun _ _=>rfl)) ah)) ah)) (aQ (i:=5) aJ.nd rfl (Or.inl rfl)) (aj (DR (gC (aa (ax aG (pv 2) (ax aE (ax aG (ax aE (pv 0) ag (fun _ _=>rfl)) (pv 5) (fun _ _=>rfl)) ag (fun _ _=>rfl)) (fun _ _=>rfl)) (aa (ax aG (pv 2) (ax aE (ax aG (ax aE (pv 0) ag (fun _ _=>rfl)) (pv 5) (fun _ _=>rfl)) ag (fun _ _=>rfl)) (fun _ _=>rfl)) ah))) (DT (pv 4) (ax aG (pv 3) (pv 5) (fun _ _=>rfl)) yC))))
   (ae (ar (i:=6) aJ.nd rfl (Or.inl rfl) (fq eK (by rfl) T.n_list nY (aa (ax aE (pv 0) ag (fun _ _=>rfl)) ah)))
   (ae (bP PassesOwn.never rfl (bq rfl T.n_range (aa (aB aq (by rfl) T.n_len bf (aa (ax aE (pv 0) ag (fun _ _=>rfl)) ah)) ah)) (aQ (i:=7) aJ.nd rfl (Or.inl rfl)) (ae (kf (i:=8) rfl aJ.nd rfl rfl (fr:=[("ties",3)]) (by exact cB.one (by rfl) (by decide +kernel) (by rfl) (by decide +kernel) (by rfl) (by decide +kernel) (by rfl) (by rfl) (by decide +kernel) (by rfl)) (ck (ax aG (ax aE (pv 0) ag (fun _ _=>rfl)) (pv 7) (fun _ _=>rfl))) (fun C ex s H=>(ax (yO (K:=K) rfl) (pv 1) (pv 0) (fun _ _=>rfl))))
   (ae (ar (i:=9) aJ.nd rfl (Or.inl rfl) (av bw (av dA (av bw (pv 1) ag) (av dD (pv 7) ag)) (aB aq (by rfl) T.n_len bf (aa (pv 8) ah))))
   (aj (DR (av op_cat (yE AY (pv 8) (Bb (pv 9)) Bc) (yE AY (pv 8) Bc (Bb (pv 9)))) (DT (pv 6) (ax aG (pv 2) (pv 7) (fun _ _=>rfl)) yC))))))
   (aj (aR (gC (aa (pv 4) (aa (pv 6) ah))))))))))),?_⟩
 refine⟨_,rfl,_,rfl,t,_,1,_,rfl,rfl,SqT.of ht,at1,pt,xs,rfl,.inl (SqL.of hpt),c,m,(by rw[hxl];rfl),by omega,fun q1 o1 H1 s1 _ h1 l1 n1 b1=>?_⟩
 refine⟨_,rfl,_,_,rfl,rfl,⟨by decide,by decide⟩,_,rfl,t,_,0,_,rfl,rfl,SqT.of (s1 _ _ ht),at0,pe,ys,rfl,.inl (SqL.of (s1 _ _ hpe)),_,es.length,(by rw[hyl];rfl),by omega,fun q2 o2 H2 s2 _ h2' l2 n2 b2=>?_⟩
 have s12:=s1.trans s2
 have R:=ren_of (c:=c) w' l1 n1 b1 l2 n2 b2
 have h1':=s2 _ _ h1
 refine⟨_,rfl,t,_,0,_,rfl,rfl,SqT.of (s12 _ _ ht),at0,pe,ys,rfl,.inl (SqL.of (s12 _ _ hpe)),fun qe hqe=>?_⟩
 have s3:=ao hqe (.lst ys)
 have s13:=s12.trans s3
 have h23:=s3 _ _ h2'
 have h13:=s3 _ _ h1'
 have get1:∀ k,k<m->(o1.map iV)[k]?=some (iV (ofL o1 k)):=fun k hk=>by
  rw[F0];unfold ofL;rw[Fu (by omega)];rfl
 have get2:∀ k,k<es.length->(o2.map iV)[k]?=some (iV (ofL o2 k)):=fun k hk=>by
  rw[F0];unfold ofL;rw[Fu (by omega)];rfl
 have hqe0:H qe=none:=by
  cases y:H qe with
  |none=>rfl
  |some o=>rw[s12 _ _ y]at hqe;cases hqe
 refine⟨_,rfl,t,_,0,_,rfl,rfl,SqT.of (s13 _ _ ht),at0,pe,ys,rfl,.inl (SqL.of (s13 _ _ hpe)),_,rfl,by omega,by omega,bJ (n:=(ys.length:Int).toNat) (fun i σ H5=>∃ v5 v6 v7 v8 v9 zs,σ = [some (.ref t),some (.int c),some (.ref q1),some (.ref q2),some (.ref qe),v5,v6,v7,v8,v9]/\Same H2 H5/\H5 qe=some (.lst zs)/\zs.length=es.length/\∀(k:Nat)(e:Nat×Nat),k<i->es[k]?=some e->∃ p,zs[ofL o2 k]?=some (.ref p)/\H5 p=some (.tup [iV (ofL o1 e.1),iV (ofL o1 e.2)]))
  ⟨_,_,_,_,_,ys,rfl,s3,af,hyl,fun k e z=>absurd z (G3 _)⟩ ?_ ?_⟩
 ·rintro i σ H5 hi ⟨v5,v6,v7,v8,v9,zs,rfl,s5,hz,zl,inv⟩
  rw[F1,hyl]at hi
  have e0:(0:Int)+(i:Int)=(i:Int):=GN _
  rw[e0]
  have s15:=s12.trans s5
  obtain⟨e,he⟩:∃ e,es[i]?=some e:=⟨_,Fu hi⟩
  obtain⟨p,x1,x2⟩:=(en.mono s15).2 i e he
  obtain⟨a1,a2,_⟩:=w'.ends e (Fx he)
  have b2':=R.si.lt i hi
  refine⟨_,rfl,_,rfl,t,_,0,_,rfl,rfl,SqT.of (s15 _ _ ht),at0,_,rfl,pe,ys,_,_,rfl,rfl,SqL.of (s15 _ _ hpe),aI x1,p,_,0,_,rfl,rfl,SqT.of x2,at0,q1,_,_,_,rfl,rfl,SqL.of (s5 _ _ h1'),aI (get1 _ a1),_,rfl,_,rfl,t,_,0,_,rfl,rfl,SqT.of (s15 _ _ ht),at0,_,rfl,pe,ys,_,_,rfl,rfl,SqL.of (s15 _ _ hpe),aI x1,p,_,1,_,rfl,rfl,SqT.of x2,at1,q1,_,_,_,rfl,rfl,SqL.of (s5 _ _ h1'),aI (get1 _ a2),(by show 2<=sizeLine;decide),fun tt htt=>?_⟩
  have sn:=ao htt (.tup [iV (ofL o1 e.1),iV (ofL o1 e.2)])
  refine⟨_,rfl,_,rfl,_,rfl,q2,_,_,_,rfl,rfl,SqL.of (sn _ _ (s5 _ _ h2')),aI (get2 _ hi),qe,zs,_,ofL o2 i,rfl,rfl,sn _ _ hz,BW (by omega),?_⟩
  refine⟨_,_,_,_,_,_,rfl,aM (s5.trans sn) hqe _,af,by rw[Gv];exact zl,fun k e' hk hek=>?_⟩
  by_cases z:k=i
  ·subst z
   rw[he]at hek
   cases hek
   exact⟨tt,by rw[Gg,if_pos rfl,if_pos (by omega)],by rw[ak (fun z=>by rw[z,hz]at htt;cases htt)];exact af⟩
  ·obtain⟨p',u1,u2⟩:=inv k e' (by omega) hek
   have hkl:k<es.length:=(Fv.mp hek).1
   refine⟨p',by rw[Gg,if_neg (fun y=>z (R.si.inj _ _ hkl hi y.symm))];exact u1,?_⟩
   rw[ak (fun z=>by rw[z,hz]at u2;cases u2)]
   exact sn _ _ u2
 rintro σ H5 ⟨v5,v6,v7,v8,v9,zs,rfl,s5,hz,zl,inv⟩
 rw[F1,hyl]at inv
 have s15:=s12.trans s5
 have enN:cA H5 zs (en2 o1 o2 es):=⟨by rw[zl,R.l1],fun j x h=>by
  obtain⟨k,e,rfl,h4,rfl⟩:=R.es' h
  exact inv k e (Fv.mp h4).1 h4⟩
 refine⟨_,rfl,t,_,1,_,rfl,rfl,SqT.of (s15 _ _ ht),at1,pt,xs,rfl,.inl (SqL.of (s15 _ _ hpt)),fun qt hqt=>?_⟩
 have s6:=ao hqt (.lst xs)
 have s16:=s15.trans s6
 refine⟨_,rfl,t,_,1,_,rfl,rfl,SqT.of (s16 _ _ ht),at1,pt,xs,rfl,.inl (SqL.of (s16 _ _ hpt)),_,rfl,by omega,by omega,bJ (n:=(xs.length:Int).toNat) (fun i σ H7=>∃ v5 v7 v8 v9 ws,σ = [some (.ref t),some (.int c),some (.ref q1),some (.ref q2),some (.ref qe),v5,some (.ref qt),v7,v8,v9]/\Same H5 H7/\H7 qt=some (.lst ws)/\ws.length=m/\∀(p:Nat)(l:List Nat),p<i->ts[p]?=some l->∃ q,ws[ofL o1 p]?=some (.ref q)/\H7 q=some (.lst ((rowN c o2 p l).map iV))/\q≠qt)
  ⟨_,_,_,_,xs,rfl,s6,af,hxl,fun k e z=>absurd z (G3 _)⟩ ?_ ?_⟩
 ·rintro i σ H7 hi ⟨w5,w7,w8,w9,ws,rfl,s7,hw,wl,inv2⟩
  rw[F1,hxl]at hi
  have e0:(0:Int)+(i:Int)=(i:Int):=GN _
  rw[e0]
  have s17:=s15.trans s7
  have s27:=s5.trans s7
  obtain⟨l,hl⟩:∃ l,ts[i]?=some l:=⟨_,Fu (by rw[w'.len];exact hi)⟩
  obtain⟨p,x1,x2⟩:=(tu.mono s17).2 i l hl
  have lpos:=g.rows h2 hl
  have llt:∀ k∈l,k<es.length:=fun k hk=>lh w' hl hk
  have lle:l.length<=es.length:=c5 (w'.nd _ _ hl) llt
  have llen:(l.map iV).length=l.length:=FF _
  refine⟨_,rfl,t,_,1,_,rfl,rfl,SqT.of (s17 _ _ ht),at1,_,rfl,pt,xs,_,_,rfl,rfl,SqL.of (s17 _ _ hpt),aI x1,p,rfl,⟨_,SqL.of x2⟩,fA (K:=K) (xs:=l.map iV) (fun j zs H8=>H8=H7/\zs=((l.map (ofL o2)).map iV).take j) (by rw[llen];exact Gw (au (by omega))) ⟨rfl,rfl⟩ (fun j zs H8 _ z=>z.1▸SqL.of x2) ?_ ?_⟩
  ·rintro j x zs H8 hx ⟨rfl,rfl⟩
   rw[F0]at hx
   obtain⟨k,hk,rfl⟩:=Gd.mp hx
   refine⟨_,rfl,_,rfl,q2,_,_,_,rfl,rfl,SqL.of (s27 _ _ h2'),aI (get2 _ (llt k (Fx hk))),rfl,?_⟩
   rw[Gn,F0,F0,hk]
   rfl
  rintro zs H8 hzl ⟨rfl,rfl⟩ D hD
  rw[llen,G2 (by rw[FF,FF];exact FD _)]
  have sD:=ao hD (.lst ((l.map (ofL o2)).map iV))
  have dlen:((l.map (ofL o2)).map iV).length=l.length:=by rw[FF,FF]
  have dpos:(0:Int)<(((l.map (ofL o2)).map iV).length:Int):=by omega
  have c0:=GO c (show(1009:Int)≠0 by decide)
  have c1:=GK c (show(0:Int)<1009 by decide)
  refine⟨_,rfl,_,_,rfl,rfl,(by show(0:Int)<1009;decide),_,rfl,_,_,rfl,rfl,_,_,rfl,rfl,.inl ⟨by show -(2^64:Int)<c%1009;omega,by show c%1009<(2^64:Int);omega⟩,_,rfl,D,_,rfl,.inl (SqL.of af),_,_,rfl,rfl,dpos,?_⟩
  have u0:=GO (c%1009*((i:Int)+1)) (show(((l.map (ofL o2)).map iV).length:Int)≠0 by omega)
  have u1:=GK (c%1009*((i:Int)+1)) dpos
  have hcut:c%1009*((i:Int)+1)%(((l.map (ofL o2)).map iV).length:Int)=((cutp c i l.length:Nat):Int):=by
   unfold cutp
   rw[dlen]at u0 ⊢
   exact(Hb u0).symm
  have cle:cutp c i l.length<=((l.map (ofL o2)).map iV).length:=by omega
  refine⟨_,rfl,_,rfl,_,rfl,D,_,rfl,SqL.of af,fun b1' hb1=>?_⟩
  rw[hcut,cut_hi cle]
  have sB:=ao hb1 (.lst (((l.map (ofL o2)).map iV).drop (cutp c i l.length)))
  refine⟨_,rfl,_,rfl,_,rfl,D,_,rfl,SqL.of (sB _ _ af),fun b2' hb2=>?_⟩
  rw[hcut,cut_lo cle]
  have sC:=ao hb2 (.lst (((l.map (ofL o2)).map iV).take (cutp c i l.length)))
  refine⟨b1',b2',_,_,rfl,rfl,sC _ _ af,af,by rw[G8,GL];exact Gw (au (by omega)),fun b3 hb3=>?_⟩
  have hrow:((l.map (ofL o2)).map iV).drop (cutp c i l.length)++((l.map (ofL o2)).map iV).take (cutp c i l.length)=(rowN c o2 i l).map iV:=by
   unfold rowN
   rw[F8,F8,IK,IK,IJ,IJ]
  rw[hrow]
  have sE:=ao hb3 (.lst ((rowN c o2 i l).map iV))
  have sAll:=((sD.trans sB).trans sC).trans sE
  refine⟨_,rfl,_,rfl,_,rfl,q1,_,_,_,rfl,rfl,SqL.of (sAll _ _ (s27 _ _ h1')),aI (get1 _ hi),qt,ws,_,ofL o1 i,rfl,rfl,sAll _ _ hw,BW (by rw[wl];exact R.pi.lt i hi),?_⟩
  have b3t:b3≠qt:=fun z=>by rw[z,((sD.trans sB).trans sC) _ _ hw]at hb3;cases hb3
  refine⟨_,_,_,_,_,rfl,aM (s7.trans sAll) hqt _,af,by rw[Gv];exact wl,fun p' l' hp' hl'=>?_⟩
  by_cases z:p'=i
  ·subst z
   rw[hl]at hl'
   cases hl'
   exact⟨b3,by rw[Gg,if_pos rfl,if_pos (by rw[wl];exact R.pi.lt p' hi)],by rw[ak b3t];exact af,b3t⟩
  ·obtain⟨q,u1,u2,u3⟩:=inv2 p' l' (by omega) hl'
   have hpl:p'<m:=by rw[← w'.len];exact(Fv.mp hl').1
   exact⟨q,by rw[Gg,if_neg (fun y=>z (R.pi.inj _ _ hpl hi y.symm))];exact u1,by rw[ak u3];exact sAll _ _ u2,u3⟩
 rintro σ H7 ⟨w5,w7,w8,w9,ws,rfl,s7,hw,wl,inv2⟩
 rw[F1,hxl]at inv2
 have tuN:bC H7 ws (ts2 c o1 o2 ts):=⟨by rw[wl,R.l2],fun j L h=>by
  have hj:j<m:=by rw[← R.l2];exact(Fv.mp h).1
  obtain⟨p,hp,rfl⟩:=R.pi.sur j hj
  obtain⟨l,hl⟩:∃ l,ts[p]?=some l:=⟨_,Fu (by rw[w'.len];exact hp)⟩
  obtain⟨q,z1,z2,_⟩:=inv2 p l hp hl
  refine⟨q,z1,?_⟩
  unfold ts2 at h
  rw[F0,HY (by rw[w'.len];exact R.pi.lt p hp)]at h
  have h':some (rowN c o2 (o1.idxOf (ofL o1 p)) ((ts[o1.idxOf (ofL o1 p)]?).getD []))=some L:=h
  rw[B7 n1 (by omega),hl]at h'
  cases h'
  exact z2⟩
 refine⟨_,rfl,_,rfl,(by show 2<=sizeLine;decide),fun t' ht'=>?_⟩
 have s8:=ao ht' (.tup [.ref qe,.ref qt])
 exact kk t' qe qt (en2 o1 o2 es) (ts2 c o1 o2 ts) _ ((s15.trans s7).trans s8) af ⟨⟨zs,s8 _ _ (s7 _ _ hz),(enN.mono s7).mono s8⟩,⟨ws,s8 _ _ hw,tuN.mono s8⟩,R.gr g⟩ R.l1
end
end K8
namespace K8
open PySem L2
local macro_rules | `(tactic| walk_at "cc") => `(tactic| first | exact ⟨by decide, by decide⟩ | (show (0 : Int) < _; decide) | (show (0 : Int) < _; omega) | (show (0 : Int) ≤ _; omega) | exact ⟨by decide, by decide, by decide⟩ | exact ⟨by omega, by omega, by decide⟩ | exact Or.inl ⟨by decide, by decide⟩ | exact Or.inl ⟨by omega, by omega⟩)
local macro_rules | `(tactic| walk_at "rd") => `(tactic| repeat (first | refine ⟨_, rfl, ?_⟩ | refine ⟨_, _, rfl, rfl, ?_⟩ | refine ⟨rfl, ?_⟩ | (refine ⟨?cc, ?_⟩; (case cc => walk_at "cc"))))
theorem bt_min:bootBuiltins "min" = some (.builtin "min"):=by decide +kernel
abbrev Kn:=List (Int×Int)
def ib(H:Hp)(ws:List V)(ks:Kn):Prop:=ws.length=ks.length/\∀(i:Nat)(k:Int×Int),ks[i]?=some k->(k.1=0∨k.1=1)/\0<=k.2/\∃ p,ws[i]?=some (.ref p)/\H p=some (.tup [.int k.1,.int k.2])
theorem ib.mono{H H':Hp}{ws:List V}{ks:Kn}(h:ib H ws ks)(s:Same H H'):ib H' ws ks:=⟨h.1,fun i k z=>by
 obtain⟨a,b,p,c,d⟩:=h.2 i k z
 exact⟨a,b,p,c,s _ _ d⟩⟩
theorem ib.put{H:Hp}{ws:List V}{ks:Kn}{q:Addr}{zs:List V}{o:HO}(t:ib H ws ks)(h:H q=some (.lst zs)):ib (upd H q o) ws ks:=⟨t.1,fun i e z=>by
 obtain⟨u,v,p,a,b⟩:=t.2 i e z
 refine⟨u,v,p,a,?_⟩
 rw[ak (fun z=>by rw[z,h]at b;cases b)]
 exact b⟩
theorem ib.snoc{H:Hp}{ws:List V}{ks:Kn}{k:Int×Int}{p:Addr}(t:ib H ws ks)(h:H p=some (.tup [.int k.1,.int k.2]))(h1:k.1=0∨k.1=1)(h2:0<=k.2):ib H (ws++[.ref p]) (ks++[k]):=by
 refine⟨by rw[Fy,Fy,t.1];rfl,fun j x ej=>?_⟩
 by_cases hj:j<ks.length
 ·rw[FA hj]at ej
  obtain⟨u,v,p,a1,a2⟩:=t.2 j x ej
  exact⟨u,v,p,by rw[FA (by rw[t.1];exact hj)];exact a1,a2⟩
 ·rw[Fz (by omega)]at ej
  have hj2:j=ks.length:=by
   have:=(Fv.mp ej).1
   rw[FI]at this
   omega
  subst hj2
  rw[F5]at ej
  cases ej
  exact⟨h1,h2,p,by rw[← t.1,Fz (FD _),F5];rfl,h⟩
structure fF(H:Hp)(t pe pt pk:Addr)(m:Nat)(es:En)(ts:List (List Nat))(ks:Kn):Prop where
 t:H t=some (.tup [.ref pe,.ref pt,.ref pk])
 w:WebP H pe pt m es ts
 k:∃ ws,H pk=some (.lst ws)/\ib H ws ks
 few:es.length<=30
 kl:ks.length=es.length
theorem fF.mono{H H':Hp}{t pe pt pk:Addr}{m:Nat}{es:En}{ts:List (List Nat)}{ks:Kn}(h:fF H t pe pt pk m es ts ks)(s:Same H H'):fF H' t pe pt pk m es ts ks:=by
 obtain⟨a,b,⟨ws,c,d⟩,e,f⟩:=h
 exact⟨s _ _ a,b.mono s,⟨ws,s _ _ c,d.mono s⟩,e,f⟩
theorem Gr.two{m:Nat}{es:En}{ts:List (List Nat)}(g:Gr m es ts)(h:0<es.length):2<=m:=by
 obtain⟨a,b,c⟩:=g.w.ends _ (Fx (Fu h))
 omega
def qa(K:Fw):Sp:=fun vs H Q _=>∃(a:Addr)(ns:List Int),vs = [.ref a,.int 2,.int 24]/\SqL K H a (ns.map V.int)/\ns.length<=63 /\
 ∀(t pe pt pk:Addr)(m:Nat)(es:En)(ts:List (List Nat))(ks:Kn)(H':Hp),Same H H'->fF H' t pe pt pk m es ts ks->Q (.ref t) H'
section
variable{P:Program}{w:World}{K:Fw}{mg:Str->Option Value}{base:Heap}
theorem at30{u v x:V}:atI [u,v,x] 0=some u:=rfl
theorem at31{u v x:V}:atI [u,v,x] 1=some v:=rfl
theorem at32{u v x:V}:atI [u,v,x] 2=some x:=rfl
theorem bW:aD ["script","first","most","cells","grown","told","k","cell"] ["script","first","most"] (ai cJ):=⟨rfl,rfl,rfl,by decide +kernel,rfl,by decide +kernel,by decide +kernel⟩
theorem Bu{f fg fr fc:Addr}{fd fdg fdr fdc:FuncData} (F:Fun K "_law_built" "_law_built" cJ f fd) (T:Txt mg) (G_law_grown:Cal P w K mg base 4 "_law_grown" ["cells"] (vI K) fg fdg) (G_law_renumbered:Cal P w K mg base 2 "_law_renumbered" ["grown","cell"] Em fr fdr) (G_law_cell:Cal P w K mg base 1 "_law_cell" ["script","k"] (yB K) fc fdc) :
  FnOk P w K mg base CX0 5 f fd ["script","first","most"] (qa K):=by
 refine F.ok bW (fun vs H Q E h=>?_) (fun cdv A outer s H vs Q E hr h=>?_)
 ·obtain⟨a,ns,rfl,_⟩:=h
  rfl
 obtain⟨a,ns,rfl,hS,h63,kk⟩:=h
 have hlen:(ns.map V.int).length=ns.length:=FF _
 refine⟨_,(ae (kf (i:=3) rfl bW.nd rfl rfl (fr:=[("script",0)]) (by exact cB.one (by rfl) (by decide +kernel) (by rfl) (by decide +kernel) (by rfl) (by decide +kernel) (by rfl) (by rfl) (by decide +kernel) (by rfl)) (Bg rfl T.n_range (aa (av dD (pv 1) ag) (aa (aB (Ct rfl) (by rfl) T.n_min bt_min (aa (av tH (aB aq (by rfl) T.n_len bf (aa (pv 0) ah)) ag) (aa (av tH (av dD (pv 1) (av dA ag (pv 2))) ag) ah))) (aa ag ah)))) (fun C ex s H=>(ax (yO (K:=K) rfl) (pv 1) (pv 0) (fun _ _=>rfl))))
   (ae (ar (i:=4) bW.nd rfl (Or.inl rfl) (ay G_law_renumbered.ok (hr.mono (by decide)) rfl G_law_renumbered.mg G_law_renumbered.kp G_law_renumbered.bn .nil aT (aa (ay G_law_grown.ok (hr.mono (by decide)) rfl G_law_grown.mg G_law_grown.kp G_law_grown.bn .nil aT (aa (pv 3) ah)) (aa (ay G_law_cell.ok (hr.mono (by decide)) rfl G_law_cell.mg G_law_cell.kp G_law_cell.bn .nil aT (aa (pv 0) (aa (pv 1) ah))) ah))))
   (ae (ar (i:=5) bW.nd rfl (Or.inl rfl) (c4 ah))
   (ae (bP PassesOwn.never rfl (bq rfl T.n_range (aa (aB aq (by rfl) T.n_len bf (aa (ax aE (pv 4) ag (fun _ _=>rfl)) ah)) ah)) (aQ (i:=6) bW.nd rfl (Or.inl rfl)) (ae (ar (i:=7) bW.nd rfl (Or.inl rfl) (ay G_law_cell.ok (hr.mono (by decide)) rfl G_law_cell.mg G_law_cell.kp G_law_cell.bn .nil aT (aa (pv 0) (aa (av dD (pv 1) (av dA ag (pv 6))) ah))))
   (aj (bc (eQ FR F7 F6 br (pv 5) (aa (gC (aa (av bw (pv 7) ag) (aa (av bw (av cm (pv 7) ag) (av dD (av DW ag ag) ag)) ah))) ah))))))
   (aj (aR (gC (aa (ax aE (pv 4) ag (fun _ _=>rfl)) (aa (ax aE (pv 4) ag (fun _ _=>rfl)) (aa (pv 5) ah)))))))))),?_⟩
 have hn:Builtin.Range.rangeSize (2+1) (if(2+2*24-2:Int)<((ns.map V.int).length:Int)-1 then 2+2*24-2 else((ns.map V.int).length:Int)-1) 2=(((Builtin.Range.rangeSize (2+1) (if(2+2*24-2:Int)<((ns.map V.int).length:Int)-1 then 2+2*24-2 else((ns.map V.int).length:Int)-1) 2).toNat:Nat):Int):=by
  refine(Hb ?_).symm
  unfold Builtin.Range.rangeSize
  rw[if_pos (by decide)]
  split<;>omega
 have hb:∀ i:Nat,i<(Builtin.Range.rangeSize (2+1) (if(2+2*24-2:Int)<((ns.map V.int).length:Int)-1 then 2+2*24-2 else((ns.map V.int).length:Int)-1) 2).toNat->i<29/\3+2*i<ns.length:=fun i hi=>by
  rw[hlen]at hi
  unfold Builtin.Range.rangeSize at hi
  rw[if_pos (by decide)]at hi
  split at hi<;>split at hi<;>omega
 have hz:(Builtin.Range.rangeSize (2+1) (if(2+2*24-2:Int)<((ns.map V.int).length:Int)-1 then 2+2*24-2 else((ns.map V.int).length:Int)-1) 2).toNat<=29:=by
  by_cases z:(Builtin.Range.rangeSize (2+1) (if(2+2*24-2:Int)<((ns.map V.int).length:Int)-1 then 2+2*24-2 else((ns.map V.int).length:Int)-1) 2).toNat<=29
  ·exact z
  ·have:=(hb 29 (by omega)).1;omega
 refine⟨_,rfl,_,_,rfl,rfl,_,rfl,a,_,rfl,.inl hS,_,_,rfl,rfl,_,rfl,_,rfl,_,_,rfl,rfl,.inl ⟨by decide,by decide⟩,_,_,rfl,rfl,_,_,rfl,rfl,_,_,rfl,_,_,_,_,rfl,by decide,by decide,(by split<;>omega),(by split<;>omega),⟨by decide,by decide⟩,hn,?_⟩
 generalize (Builtin.Range.rangeSize (2+1) (if(2+2*24-2:Int)<((ns.map V.int).length:Int)-1 then 2+2*24-2 else((ns.map V.int).length:Int)-1) 2).toNat=N at hb hz
 refine x5 (fun i ys H2=>H2=H/\∃ cs:List Int,ys=cs.map V.int/\cs.length=i) (Gw (au (by omega))) ⟨rfl,[],rfl,rfl⟩ ?_ ?_
 ·rintro i ys H2 hi ⟨rfl,cs,rfl,cl⟩
  have hb':=(hb i hi).2
  have e0:(2+1:Int)+(i:Int)*2=((3+2*i:Nat):Int):=by omega
  rw[e0]
  refine⟨_,rfl,_,rfl,a,_,_,_,rfl,rfl,hS,aI (v:=.int ns[3+2*i]) (by rw[F0,Fu hb'];rfl),rfl,cs++[ns[3+2*i]],?_,by rw[Fy,cl];rfl⟩
  rw[F8]
  rfl
 rintro ys H2 _ ⟨rfl,cs,rfl,cl⟩ b hb0
 have s1:=ao hb0 (.lst (cs.map V.int))
 refine⟨_,rfl,b,cs,rfl,SqL.of af,by omega,fun t pe pt ys xs m es ts H3 s3 ht hpe hE hpt hR g hel=>?_⟩
 have s13:=s1.trans s3
 refine⟨_,rfl,_,rfl,a,2,ns,rfl,s13.seq hS,t,pe,pt,_,m,es,ts,rfl,ht,⟨⟨ys,hpe,hE⟩,⟨xs,hpt,hR⟩,g⟩,g.two (by omega),by omega,fun t' pe' pt' es' ts' H4 s4 ht' wp hel'=>?_⟩
 have s14:=s13.trans s4
 have hel2:es'.length<=30:=by omega
 refine⟨(by show 0<=sizeLine;decide),fun q hq=>?_⟩
 have s5:=ao hq (.lst [])
 obtain⟨zs,hz1,hz2⟩:=wp.en
 have hzl:zs.length=es'.length:=hz2.1
 refine⟨_,rfl,t',_,0,_,rfl,rfl,SqT.of (s5 _ _ ht'),at0,pe',zs,rfl,.inl (SqL.of (s5 _ _ hz1)),_,rfl,by omega,by omega,bJ (n:=(zs.length:Int).toNat) (fun i σ H5=>∃ v6 v7 ws ks,σ = [some (.ref a),some (.int 2),some (.int 24),some (.ref b),some (.ref t'),some (.ref q),v6,v7]/\Same H4 H5/\H5 q=some (.lst ws)/\ib H5 ws ks/\ks.length=i) ⟨_,_,[],[],rfl,s5,af,⟨rfl,fun i k z=>by simp at z⟩,rfl⟩ ?_ ?_⟩
 ·rintro i σ H5 hi ⟨v6,v7,ws,ks,rfl,s6,hw,tk,kl⟩
  rw[F1,hzl]at hi
  have e0:(0:Int)+(i:Int)=(i:Int):=GN _
  rw[e0]
  have wl:=tk.1
  refine⟨_,rfl,_,rfl,_,rfl,_,_,rfl,rfl,.inl ⟨by decide,by decide⟩,_,_,rfl,rfl,a,2+2*i,ns,(by rw[show((2+2*i:Nat):Int)=2+2*(i:Int) by omega];rfl),(s14.trans s6).seq hS,?_⟩
  refine⟨_,rfl,.inl ⟨rfl,_,SqL.of hw⟩,_,rfl,_,_,rfl,rfl,(by show(0:Int)<2;decide),_,rfl,_,_,rfl,rfl,⟨by decide,by decide⟩,_,_,rfl,rfl,⟨by decide,by decide,by decide⟩,_,_,rfl,rfl,_,_,rfl,rfl,(by show(0:Int)<10^(30:Int).toNat+1;decide),(by show 2<=sizeLine;decide),fun tt htt=>?_⟩
  have sn:=ao htt (.tup [.int (nJ ns (2+2*i)%2),.int (nJ ns (2+2*i)/2%(10^(30:Int).toNat+1))])
  refine⟨q,ws,_,rfl,rfl,sn _ _ hw,au (by omega),?_⟩
  refine⟨_,_,_,ks++[(nJ ns (2+2*i)%2,nJ ns (2+2*i)/2%(10^(30:Int).toNat+1))],rfl,aM (s6.trans sn) hq _,af,((tk.mono sn).snoc af (by show nJ ns (2+2*i)%2=0∨nJ ns (2+2*i)%2=1;omega) (GO _ (by decide))).put (sn _ _ hw),by rw[Fy,kl];rfl⟩
 ·rintro σ H5 ⟨v6,v7,ws,ks,rfl,s6,hw,tk,kl⟩
  rw[F1,hzl]at kl
  refine⟨_,rfl,t',_,0,_,rfl,rfl,SqT.of (s6 _ _ ht'),at0,_,rfl,t',_,1,_,rfl,rfl,SqT.of (s6 _ _ ht'),at1,_,rfl,(by show 3<=sizeLine;decide),fun tt htt=>?_⟩
  have sn:=ao htt (.tup [.ref pe',.ref pt',.ref q])
  exact kk tt pe' pt' q m es' ts' ks _ ((s14.trans s6).trans sn) ⟨af,(wp.mono s6).mono sn,⟨ws,sn _ _ hw,tk.mono sn⟩,hel2,kl⟩
end
end K8
namespace K8
open PySem L2
local macro_rules | `(tactic| walk_at "cc") => `(tactic| first | exact ⟨by decide, by decide⟩ | (show (0 : Int) < _; decide) | (show (0 : Int) < _; omega) | (show (0 : Int) ≤ _; omega) | exact ⟨by decide, by decide, by decide⟩ | exact ⟨by omega, by omega, by decide⟩ | exact Or.inl ⟨by decide, by decide⟩ | exact Or.inl ⟨by omega, by omega⟩)
local macro_rules | `(tactic| walk_at "rd") => `(tactic| repeat (first | refine ⟨_, rfl, ?_⟩ | refine ⟨_, _, rfl, rfl, ?_⟩ | refine ⟨rfl, ?_⟩ | (refine ⟨?cc, ?_⟩; (case cc => walk_at "cc"))))
theorem andN(a b:Nat):Builtin.bitAnd (a:Int) (b:Int)=((a&&&b:Nat):Int):=by
 rw[PyProof.Rows.bitAnd_pp (Ie _) (Ie _),F1,F1]
theorem orN(a b:Nat):Builtin.bitOr (a:Int) (b:Int)=((a|||b:Nat):Int):=by
 rw[PyProof.Rows.bitOr_and,andN]
 have q:=PyProof.Rows.nat_or_add_and a b
 omega
theorem shlN(p:Nat):(1:Int)*2^((p:Nat):Int).toNat=((2^p:Nat):Int):=by
 rw[Int.one_mul,F1,Iy]
 rfl
theorem CO{M p q:Nat}:(M&&&(2^p|||2^q)=0↔M.testBit p=false/\M.testBit q=false)/\(M|||(2^p|||2^q)=M->M.testBit p=true/\M.testBit q=true):=by
 have b1:∀ i,(2^p|||2^q).testBit i=(decide (p=i)||decide (q=i)):=fun i=>by rw[Hl,Ht,Ht]
 refine⟨⟨fun h=>?_,fun⟨h1,h2⟩=>?_⟩,fun h=>?_⟩
 ·have h1:=congrArg (fun z=>HX z p) h
  have h2:=congrArg (fun z=>HX z q) h
  simp only[HJ,b1,HH]at h1 h2
  constructor
  ·simpa using h1
  ·simpa using h2
 ·refine GV fun i=>?_
  rw[HJ,b1,HH]
  by_cases z1:p=i
  ·subst z1;rw[h1];rfl
  ·by_cases z2:q=i
   ·subst z2;rw[h2];rfl
   ·simp[z1,z2]
 ·have h1:=congrArg (fun z=>HX z p) h
  have h2:=congrArg (fun z=>HX z q) h
  simp only[Hl (x:=M),b1]at h1 h2
  constructor
  ·simpa using h1.symm
  ·simpa using h2.symm
theorem Cb{M m:Nat}(h:M<2^m)(k:∀ p,p<m->M.testBit p=true):M=2^m-1:=by
 refine GV fun i=>?_
 rw[Nat.testBit_two_pow_sub_one]
 by_cases z:i<m
 ·rw[k i z,decide_eq_true z]
 ·rw[decide_eq_false z]
  exact Hi (F2 h (Hq (by decide) (by omega)))
def vD(K:Fw):Sp:=fun vs H Q _=>∃(a:Addr)(ys:List V)(m:Nat)(es:En)(ts:List (List Nat)),vs = [.int 0,.ref a]/\SqL K H a ys/\cA H ys es/\Gr m es ts/\2<=m/\m<=40/\Q (.int ((2^m-1:Nat):Int)) H
section
variable{P:Program}{w:World}{K:Fw}{mg:Str->Option Value}{base:Heap}
theorem bV:aD ["start","pairs","mask","ahead","one","two","ends"] ["start","pairs"] (ai e9):=⟨rfl,rfl,rfl,by decide +kernel,rfl,by decide +kernel,by decide +kernel⟩
theorem zw{f:Addr}{fd:FuncData} (F:Fun K "reached" "reached" e9 f fd):FnOk P w K mg base CX0 1 f fd ["start","pairs"] (vD K):=by
 refine F.ok bV (fun vs H Q E h=>?_) (fun cdv A outer s H vs Q E hr h=>?_)
 ·obtain⟨a,ys,m,es,ts,rfl,_⟩:=h
  rfl
 obtain⟨a,ys,m,es,ts,rfl,hS,hE,g,m2,m40,kk⟩:=h
 refine⟨_,(ae (ar (i:=2) bV.nd rfl (Or.inl rfl) (av iO ag (pv 0)))
   (ae (ar (i:=3) bV.nd rfl (Or.inl rfl) ag)
   (ae (mC PassesOwn.never (aH oK (pv 2) (pv 3) (aP _)) (ae (ar (i:=3) bV.nd rfl (Or.inl rfl) (pv 2))
   (aj (bP PassesOwn.never rfl (ck (pv 1)) (yD rfl (d7 (aQ (i:=4) bV.nd rfl (Or.inl rfl)) (d7 (aQ (i:=5) bV.nd rfl (Or.inl rfl)) qC))) (ae (ar (i:=6) bV.nd rfl (Or.inl rfl) (av Bo (av iO ag (pv 4)) (av iO ag (pv 5))))
   (aj (dz (aH oK (av tJ (pv 2) (pv 6)) ag (aP _)) (aj (ar (i:=2) bV.nd rfl (Or.inl rfl) (av Bo (pv 2) (pv 6)))) bo)))))))
   (aj (aR (pv 2)))))),?_⟩
 refine⟨_,rfl,_,_,rfl,rfl,⟨by decide,by decide,by decide⟩,?_⟩
 have p2:∀ p,p<m->2^p<2^m:=fun p hp=>Nat.pow_lt_pow_right (by decide) hp
 refine pS (fun σ H2=>∃(M Ah:Nat),∃ v4 v5 v6,H2=H/\σ = [some (.int 0),some (.ref a),some (.int (M:Int)),some (.int (Ah:Int)),v4,v5,v6]/\M.testBit 0=true/\M<2^m/\(M=Ah->∀ e∈es,M.testBit e.1=M.testBit e.2))
  (fun σ _=>match σ with | [_,_,some (.int M),some (.int Ah),_,_,_]=>2*((2^m:Nat)-M).toNat+(if M=Ah then 0 else 1) | _=>0) ⟨1,0,_,_,_,rfl,rfl,by decide,Nat.one_lt_two_pow (by omega),fun z=>absurd z (by decide)⟩ ?_ ?_
 ·rintro σ H2 ⟨M,Ah,v4,v5,v6,rfl,rfl,b0,hM,cl⟩
  refine⟨_,rfl,_,rfl,rfl,_,rfl,?_⟩
  refine ite2 (fun c=>?_) (fun c=>?_)
  ·have c':M≠Ah:=fun z=>by
    rw[decide_eq_true (show V.int (M:Int)=V.int (Ah:Int) by rw[z])]at c
    cases c
   refine⟨_,rfl,?_⟩
   refine⟨_,rfl,a,rfl,⟨_,hS⟩,eB (K:=K) (xs:=ys) (fun i σ H3=>∃(M':Nat),∃ v4 v5 v6,H3=H2/\σ = [some (.int 0),some (.ref a),some (.int (M':Int)),some (.int (M:Int)),v4,v5,v6]/\M'.testBit 0=true/\M'<2^m/\M<=M'/\(M'=M->∀(j:Nat)(e:Nat×Nat),j<i->es[j]?=some e->M.testBit e.1=M.testBit e.2)) ⟨M,_,_,_,rfl,rfl,b0,hM,FD _,fun _ j e z=>absurd z (G3 _)⟩ (fun i σ H3 _ ⟨_,_,_,_,z,_⟩=>z▸hS) ?_ ?_⟩
   ·rintro i x σ H3 hx ⟨M',v4,v5,v6,rfl,rfl,b0',hM',hle,cl'⟩
    have hi:i<es.length:=by rw[← hE.1];exact(Fv.mp hx).1
    obtain⟨e,he⟩:∃ e,es[i]?=some e:=⟨_,Fu hi⟩
    obtain⟨p,x1,x2⟩:=hE.2 i e he
    rw[hx]at x1
    cases x1
    obtain⟨e1,e2,_⟩:=g.w.ends e (Fx he)
    obtain⟨t1,t2⟩:=CO (M:=M') (p:=e.1) (q:=e.2)
    refine⟨p,_,rfl,SqT.of x2,rfl,_,_,rfl,_,_,rfl,rfl,?_⟩
    refine⟨_,rfl,_,_,rfl,rfl,⟨by omega,by omega,by decide⟩,_,rfl,_,_,rfl,rfl,⟨by omega,by omega,by decide⟩,_,_,rfl,rfl,?_⟩
    have eo:Builtin.bitOr (1*2^((e.1:Nat):Int).toNat) (1*2^((e.2:Nat):Int).toNat)=((2^e.1|||2^e.2:Nat):Int):=by rw[shlN,shlN,orN]
    refine⟨_,rfl,_,rfl,_,_,rfl,rfl,rfl,_,rfl,?_⟩
    have step:∀ M'':Nat,M'<=M''->(M''=M'->M'.testBit e.1=M'.testBit e.2)->M''=M->∀(j:Nat)(x:Nat×Nat),j<i+1->es[j]?=some x->M.testBit x.1=M.testBit x.2:=fun M'' h1 h2 h3 j x hj hx'=>by
     have e3:M'=M:=by omega
     by_cases z:j=i
     ·subst z
      rw[he]at hx'
      cases hx'
      have:=h2 (by omega)
      rwa[e3]at this
     ·exact cl' e3 j x (by omega) hx'
    refine ite2 (fun c=>?_) (fun c=>?_)
    ·refine⟨_,rfl,_,rfl,_,_,rfl,rfl,?_⟩
     refine⟨M'|||(2^e.1|||2^e.2),some (iV e.1),some (iV e.2),some (V.int (Builtin.bitOr (1*2^((e.1:Nat):Int).toNat) (1*2^((e.2:Nat):Int).toNat))),rfl,?_,?_,Nat.or_lt_two_pow hM' (Nat.or_lt_two_pow (p2 _ e1) (p2 _ e2)),Gs hle Nat.left_le_or,step _ Nat.left_le_or fun z=>?_⟩
     ·show[some (V.int 0),some (V.ref a),some (V.int (Builtin.bitOr (M':Int) (Builtin.bitOr (1*2^((e.1:Nat):Int).toNat) (1*2^((e.2:Nat):Int).toNat)))),some (V.int (M:Int)),some (iV e.1),some (iV e.2),some (V.int (Builtin.bitOr (1*2^((e.1:Nat):Int).toNat) (1*2^((e.2:Nat):Int).toNat)))]=_
      rw[eo,orN]
     ·rw[Hl,b0'];rfl
     ·obtain⟨u1,u2⟩:=t2 z
      rw[u1,u2]
    ·refine⟨M',_,_,_,rfl,rfl,b0',hM',hle,step M' (FD _) fun _=>?_⟩
     have c3:M'&&&(2^e.1|||2^e.2)=0:=by
      by_cases z:M'&&&(2^e.1|||2^e.2)=0
      ·exact z
      ·refine absurd ?_ c
       rw[decide_eq_false (fun y=>z ?_)]
       ·rfl
       ·have y':=V.int.inj y
        rw[eo,andN]at y'
        omega
     obtain⟨u1,u2⟩:=t1.mp c3
     rw[u1,u2]
   ·rintro σ H3 ⟨M',v4,v5,v6,rfl,rfl,b0',hM',hle,cl'⟩
    rw[hE.1]at cl'
    refine⟨⟨M',M,_,_,_,rfl,rfl,b0',hM',fun z e he=>?_⟩,?_⟩
    ·obtain⟨j,hj⟩:=Gj.mp he
     have:=cl' z j e (Fv.mp hj).1 hj
     rw[z]
     exact this
    ·show 2*(((2^m:Nat):Int)-(M':Int)).toNat+(if(M':Int)=(M:Int) then 0 else 1)<2*(((2^m:Nat):Int)-(M:Int)).toNat+(if(M:Int)=(Ah:Int) then 0 else 1)
     rw[if_neg (show ¬ (M:Int)=(Ah:Int) from fun z=>c' (by omega))]
     have hMi:(M':Int)<((2^m:Nat):Int):=by exact_mod_cast hM'
     have hMj:(M:Int)<=(M':Int):=by omega
     generalize ((2^m:Nat):Int)=Z at hMi ⊢
     split<;>omega
  ·have c':M=Ah:=by
    by_cases z:M=Ah
    ·exact z
    ·exact absurd (by rw[decide_eq_false (fun y=>z (by have:=V.int.inj y;omega))];rfl) c
   have full:=Cb hM fun p hp=>by
    have:=g.conn (fun x=>M.testBit x=true) (fun e he=>by rw[cl c' e he]) 0 p (by omega) hp b0
    exact this
   refine⟨_,rfl,?_⟩
   rw[full]
   exact kk
 ·rintro σ H2 Q1 Q2 hi ⟨v',e,b',e2,z1,c',e3,q'⟩
  exact⟨v',e,b',e2,z1,c',e3,hi _ _ q'⟩
end
end K8
namespace K8
open PySem L2
local macro_rules | `(tactic| walk_at "cc") => `(tactic| first | exact ⟨by decide, by decide⟩ | (show (0 : Int) < _; decide) | (show (0 : Int) < _; omega) | (show (0 : Int) ≤ _; omega) | exact ⟨by decide, by decide, by decide⟩ | exact ⟨by omega, by omega, by decide⟩ | exact Or.inl ⟨by decide, by decide⟩ | exact Or.inl ⟨by omega, by omega⟩)
local macro_rules | `(tactic| walk_at "rd") => `(tactic| repeat (first | refine ⟨_, rfl, ?_⟩ | refine ⟨_, _, rfl, rfl, ?_⟩ | refine ⟨rfl, ?_⟩ | (refine ⟨?cc, ?_⟩; (case cc => walk_at "cc"))))
theorem o9:∀{a b:List Int},a.Perm b->a.Pairwise (·<=·)->b.Pairwise (·<=·)->a=b
 |[],b,h,_,_=>(List.nil_perm.mp h).symm▸rfl
 |x::a,[],h,_,_=>absurd h.length_eq (by simp)
 |x::a,y::b,h,pa,pb=>by
  obtain⟨a1,a2⟩:=List.pairwise_cons.mp pa
  obtain⟨b1,b2⟩:=List.pairwise_cons.mp pb
  have h1:x<=y:=by
   rcases FC.mp (h.mem_iff.mpr (FP ..):y∈x::a)with z | z
   ·rw[z];exact Int.le_refl _
   ·exact a1 y z
  have h2:y<=x:=by
   rcases FC.mp (h.mem_iff.mp (FP ..):x∈y::b)with z | z
   ·rw[z];exact Int.le_refl _
   ·exact b1 x z
  have e:x=y:=Int.le_antisymm h1 h2
  subst e
  rw[o9 (List.Perm.cons_inv h) a2 b2]
def cI(l:List Nat):List Int:=l.map fun(p:Nat)=>((p:Nat):Int)
theorem cI_V(l:List Nat):(cI l).map V.int=l.map iV:=by unfold cI;rw[List.map_map];rfl
theorem Et{l r:List Nat}{out:List Int}(hp:out.Perm (cI l))(hs:out.Pairwise (·<=·))(nl:l.Nodup)(pr:r.Pairwise (· < ·))(hm:∀ t,t∈l↔t∈r):out=cI r:=by
 have nr:r.Nodup:=pr.imp fun h=>F4 h
 have q:(cI l).Perm (cI r):=((G7 nl nr).mpr hm).map _
 refine o9 (hp.trans q) hs ?_
 unfold cI
 exact List.Pairwise.map _ (fun a b h=>by omega) pr
theorem B6{l:List Nat}{n:Nat}:ins l l.length n=l++[n]:=by
 unfold ins
 rw[Gu,List.drop_length]
def vF(K:Fw):Sp:=fun vs H Q _=>∃(a:Addr)(xs:List V)(m:Nat)(es:En),vs = [.int (m:Int),.ref a]/\SqL K H a xs/\c7 K H xs es/\(∀ e∈es,e.1<m/\e.2<m)/\Q .non H
def pX(K:Fw):Sp:=fun vs H Q _=>∃(a b:Addr)(xs zs:List V)(m:Nat)(es:En)(ts:List (List Nat)),vs = [.int (m:Int),.ref a,.ref b]/\SqL K H a xs/\c7 K H xs es/\SqL K H b zs/\bC H zs ts/\bB m es ts/\es.length<=30/\m<=40/\∀ H',Same H H'->Q .non H'
def vE(K:Fw):Sp:=fun vs H Q _=>∃(a:Addr)(xs:List V)(m:Nat)(es:En)(ts:List (List Nat)),vs = [.int (m:Int),.ref a]/\SqL K H a xs/\c7 K H xs es/\Gr m es ts/\2<=m/\m<=40/\es.length<=30/\∀ H',Same H H'->Q .non H'
section
variable{P:Program}{w:World}{K:Fw}{mg:Str->Option Value}{base:Heap}
theorem iN:aD ["many","ties","tie"] ["many","ties"] (ai bN):=⟨rfl,rfl,rfl,by decide +kernel,rfl,by decide +kernel,by decide +kernel⟩
theorem Dg{f:Addr}{fd:FuncData} (F:Fun K "refuse_ends" "refuse_ends" bN f fd):FnOk P w K mg base CX0 1 f fd ["many","ties"] (vF K):=by
 refine F.ok iN (fun vs H Q E h=>?_) (fun cdv A outer s H vs Q E hr h=>?_)
 ·obtain⟨a,xs,m,es,rfl,_⟩:=h
  rfl
 obtain⟨a,xs,m,es,rfl,hS,hT,hm,k⟩:=h
 refine⟨_,(aj (bP PassesOwn.never rfl (ck (pv 1)) (aQ (i:=2) iN.nd rfl (Or.inl rfl)) (aj (dz (PW.pt (vX (aH C7 (cT (pv 2) rfl) (pv 0) (aP _)) (sU (aH C7 (cT (pv 2) rfl) (pv 0) (aP _))))) (aj fJ) bo)))),?_⟩
 refine⟨_,rfl,a,rfl,⟨_,hS⟩,eB (K:=K) (xs:=xs) (fun i σ H2=>∃ v2,σ = [some (.int (m:Int)),some (.ref a),v2]/\H2=H) ⟨_,rfl,rfl⟩ (fun i σ H2 _ ⟨_,_,z⟩=>z▸hS) ?_ ?_⟩
 ·rintro i x σ H2 hx ⟨v2,rfl,rfl⟩
  have hi:i<es.length:=by rw[← hT.1];exact(Fv.mp hx).1
  obtain⟨e,he⟩:∃ e,es[i]?=some e:=⟨_,Fu hi⟩
  obtain⟨p,C,dx,st,x1,x2,x3⟩:=hT.2 i e he
  rw[hx]at x1
  cases x1
  obtain⟨e1,e2⟩:=hm e (Fx he)
  refine⟨_,rfl,p,C,dx,_,_,rfl,x2,x3.cl,x3.n1,k9 _ _ _,_,rfl,_,_,rfl,rfl,_,rfl,?_⟩
  refine ite2 (fun c=>absurd (of_decide_eq_true c) (by omega)) (fun _=>?_)
  refine⟨_,rfl,p,C,dx,_,_,rfl,x2,x3.cl,x3.n2,sA _ _ _,_,rfl,_,_,rfl,rfl,_,rfl,?_⟩
  refine ite2 (fun c=>absurd (of_decide_eq_true c) (by omega)) (fun _=>?_)
  exact⟨_,rfl,rfl⟩
 ·rintro σ H2 ⟨v2,rfl,rfl⟩
  exact k
theorem cg:aD ["many","ties","turns","ending","number","tie"] ["many","ties","turns"] (ai bD):=⟨rfl,rfl,rfl,by decide +kernel,rfl,by decide +kernel,by decide +kernel⟩
theorem Br{f:Addr}{fd:FuncData} (F:Fun K "refuse_turns" "refuse_turns" bD f fd) (T:Txt mg):FnOk P w K mg base CX0 1 f fd ["many","ties","turns"] (pX K):=by
 refine F.ok cg (fun vs H Q E h=>?_) (fun cdv A outer s H vs Q E hr h=>?_)
 ·obtain⟨a,b,xs,zs,m,es,ts,rfl,_⟩:=h
  rfl
 obtain⟨a,b,xs,zs,m,es,ts,rfl,hS,hT,hB,hR,w',few,m40,kk⟩:=h
 have hu64:=hr.units
 refine⟨_,(ae (kf (i:=3) rfl cg.nd rfl rfl (fr:=[]) (by exact cB.plain (by rfl) (by decide +kernel) (by rfl) (by decide +kernel) (by rfl) (by decide +kernel)) (bq rfl T.n_range (aa (pv 0) ah)) (fun C ex s H=>(c4 ah)))
   (ae (bP PassesOwn.never rfl (wu rfl T.n_enumerate (aa (pv 1) ah)) (yD rfl (d7 (aQ (i:=4) cg.nd rfl (Or.inl rfl)) (d7 (aQ (i:=5) cg.nd rfl (Or.inl rfl)) qC))) (ae (bc (eQ FR F7 F6 br (ax aG (pv 3) (cT (pv 5) rfl) (fun _ _=>rfl)) (aa (pv 4) ah)))
   (aj (bc (eQ FR F7 F6 br (ax aG (pv 3) (cT (pv 5) rfl) (fun _ _=>rfl)) (aa (pv 4) ah))))))
   (aj (dz (aH (Bp hu64) (kh rfl (fr:=[]) (by exact cB.plain (by rfl) (by decide +kernel) (by rfl) (by decide +kernel) (by rfl) (by decide +kernel)) (ck (pv 2)) (fun C ex s H=>(aB (uY (K:=K) rfl) (by rfl) T.n_sorted Cy (aa (pv 0) ah)))) (pv 3) (aP _)) (aj fJ) bo)))),?_⟩
 refine⟨_,rfl,_,rfl,by omega,by omega,pB (n:=(m:Int).toNat) (fun i ys H2=>Same H H2/\cP (fun p=>H p≠none) H2 ys (G1 i [])/\Dist ys) (by rw[F1];exact Gw (au (by omega))) ⟨fun _ _ e=>e,⟨rfl,fun i l e=>by simp at e⟩,fun i j p e=>by simp at e⟩ ?_ ?_⟩
 ·rintro i ys H2 hi ⟨s2,rx,D⟩
  refine⟨(by show 0<=sizeLine;decide),fun l hl=>?_⟩
  have s3:=ao hl (.lst [])
  refine⟨s2.trans s3,?_,uE rx D hl⟩
  rw[List.replicate_succ']
  refine(rx.mono fun b u _ z=>s3 _ _ z).snoc (fun z=>z ?_) af
  cases y:H l with
  |none=>rfl
  |some o=>rw[s2 _ _ y]at hl;cases hl
 rintro ys H2 hyl ⟨s2,rx,D⟩ pn hpn
 rw[F1]at rx
 have s3:=ao hpn (.lst ys)
 have hpn0:H pn=none:=by
  cases y:H pn with
  |none=>rfl
  |some o=>rw[s2 _ _ y]at hpn;cases hpn
 have rx3:cP (fun p=>p=pn∨H p≠none) (upd H2 pn (.lst ys)) ys (G1 m []):=⟨rx.1,fun i l z=>by
  obtain⟨p,a1,a2,a3⟩:=rx.2 i l z
  have n2:p≠pn:=aA a3 hpn
  exact⟨p,a1,by rintro(y | y);exact n2 y;exact a2 y,s3 _ _ a3⟩⟩
 refine⟨_,rfl,a,rfl,⟨_,(s2.trans s3).seq hS⟩,yQ (K:=K) (xs:=xs) (fun i σ H5=>∃ v4 v5 rows,σ = [some (.int (m:Int)),some (.ref a),some (.ref b),some (.ref pn),v4,v5]/\Same H H5/\H5 pn=some (.lst ys)/\cP (fun p=>p=pn∨H p≠none) H5 ys rows/\bB m (es.take i) rows/\∀ r∈rows,r.Pairwise (· < ·))
  ⟨_,_,_,rfl,s2.trans s3,af,rx3,CP m,fun r hr=>by rw[(List.mem_replicate.mp hr).2];exact List.Pairwise.nil⟩ (fun i σ H5 _ ⟨_,_,_,_,z,_⟩=>z.seq hS) ?_ ?_⟩
 ·rintro i x σ H5 T2 hx ⟨v4,v5,rows,rfl,s5,hpn5,rx5,w5,pw⟩ hT2
  have hi:i<es.length:=by rw[← hT.1];exact(Fv.mp hx).1
  obtain⟨e,he⟩:∃ e,es[i]?=some e:=⟨_,Fu hi⟩
  obtain⟨p,C,dx,st,x1,x2,x3⟩:=hT.2 i e he
  rw[hx]at x1
  cases x1
  have sT:=ao hT2 (.tup [.int (i:Int),.ref p])
  have s6:=s5.trans sT
  have x6:=s6 _ _ x2
  obtain⟨e1,e2,e3⟩:=w'.ends e (Fx he)
  have til:(es.take i).length=i:=by rw[GL];omega
  have rlen:=w5.len
  obtain⟨l,hl⟩:∃ l,rows[e.1]?=some l:=⟨_,Fu (by omega)⟩
  obtain⟨l',hl'⟩:∃ l,rows[e.2]?=some l:=⟨_,Fu (by omega)⟩
  have rx6:cP (fun p=>p=pn∨H p≠none) (upd H5 T2 (.tup [.int (i:Int),.ref p])) ys rows:=rx5.mono fun b u _ z=>sT _ _ z
  obtain⟨p1,y1,y2,y3⟩:=rx6.2 _ _ hl
  obtain⟨p2,z1,z2,z3⟩:=rx6.2 _ _ hl'
  have no_S:∀{p:Addr},¬ (p=pn∨H p≠none)->H p=none/\p≠pn:=fun{p} n=>by
   refine⟨?_,fun z=>n (.inl z)⟩
   cases y:H p with
   |none=>rfl
   |some o=>exact absurd (.inr (by rw[y];exact fun z=>nomatch z)) n
  obtain⟨hp1,np1⟩:=no_S y2
  obtain⟨hp2,np2⟩:=no_S z2
  have n12:p2≠p1:=fun y=>by rw[y]at z1;exact e3 (D _ _ p1 y1 z1)
  have ll:∀{q:Nat}{r:List Nat},rows[q]?=some r->∀ t∈r,t<i:=fun{q r} h t ht=>by
   have:=lh w5 h ht
   omega
  have lle:∀{q:Nat}{r:List Nat},rows[q]?=some r->r.length<=30:=fun{q r} h=>by
   have:=c5 (w5.nd _ _ h) (ll h)
   omega
  have f1:=lle hl
  have f2:=lle hl'
  have hpn6:=sT _ _ hpn5
  refine⟨T2,_,rfl,SqT.of af,rfl,_,_,rfl,_,_,rfl,rfl,?_⟩
  refine⟨_,rfl,_,rfl,p,C,dx,_,_,rfl,x6,x3.cl,x3.n1,k9 _ _ _,pn,ys,_,_,rfl,rfl,SqL.of hpn6,aI y1,.inl ⟨rfl,_,SqL.of y3⟩,_,rfl,p1,_,_,rfl,rfl,y3,au (by rw[FF];omega),?_⟩
  have e1':(l.map iV)++[V.int (i:Int)]=(l++[i]).map iV:=by rw[F8];rfl
  rw[e1']
  have x7:(upd (upd H5 T2 (.tup [.int (i:Int),.ref p])) p1 (.lst ((l++[i]).map iV))) p=some (.ins C dx (tf (e.1:Int) (e.2:Int) st)):=by rw[ak (fun z=>by rw[z]at x2;rw[x2]at hp1;cases hp1)];exact x6
  have hpn7:(upd (upd H5 T2 (.tup [.int (i:Int),.ref p])) p1 (.lst ((l++[i]).map iV))) pn=some (.lst ys):=by rw[ak np1.symm];exact hpn6
  have z7:(upd (upd H5 T2 (.tup [.int (i:Int),.ref p])) p1 (.lst ((l++[i]).map iV))) p2=some (.lst (l'.map iV)):=by rw[ak n12];exact z3
  refine⟨_,rfl,_,rfl,p,C,dx,_,_,rfl,x7,x3.cl,x3.n2,sA _ _ _,pn,ys,_,_,rfl,rfl,SqL.of hpn7,aI z1,.inl ⟨rfl,_,SqL.of z7⟩,_,rfl,p2,_,_,rfl,rfl,z7,au (by rw[FF];omega),?_⟩
  have e2':(l'.map iV)++[V.int (i:Int)]=(l'++[i]).map iV:=by rw[F8];rfl
  rw[e2']
  refine⟨_,_,(rows.set e.1 (l++[i])).set e.2 (l'++[i]),rfl,aM (aM s6 hp1 _) hp2 _,by rw[ak np2.symm];exact hpn7,(rx6.set D y1).set D z1,?_,fun r hr=>?_⟩
  ·have q:=w5.put (k:=l.length) (j:=l'.length) e1 e2 e3 hl hl'
   rw[B6,B6,til]at q
   rw[Gn,he]
   exact q
  ·have app:∀{q:Nat}{r:List Nat},rows[q]?=some r->(r++[i]).Pairwise (· < ·):=fun{q r} h=>List.pairwise_append.mpr ⟨pw r (Fx h),List.pairwise_singleton _ _,fun x hx y hy=>by
    have:=ll h x hx
    have:y=i:=by simpa using hy
    omega⟩
   rcases ID hr with z | z
   ·rcases ID z with z | z
    ·exact pw r z
    ·rw[z];exact app hl
   ·rw[z];exact app hl'
 rintro σ H5 ⟨v4,v5,rows,rfl,s5,hpn5,rx5,w5,pw⟩
 rw[hT.1,Gu]at w5
 have hzl:zs.length=m:=by rw[hR.1,w'.len]
 refine⟨_,rfl,b,rfl,⟨_,s5.seq hB⟩,fA (K:=K) (xs:=zs) (fun i vs H6=>Same H5 H6/\bC H6 vs (rows.take i)) (Gw (au (by omega))) ⟨fun _ _ e=>e,rfl,fun i l e=>by simp at e⟩ (fun i vs H6 _ z=>(s5.trans z.1).seq hB) ?_ ?_⟩
 ·rintro i x vs H6 hx ⟨s6,rz⟩
  have hi:i<ts.length:=by rw[← hR.1];exact(Fv.mp hx).1
  obtain⟨l,hl⟩:∃ l,ts[i]?=some l:=⟨_,Fu hi⟩
  obtain⟨r,hr'⟩:∃ r,rows[i]?=some r:=⟨_,Fu (by rw[w5.len,← w'.len];exact hi)⟩
  obtain⟨p,a1,a2⟩:=(hR.mono (s5.trans s6)).2 i l hl
  rw[hx]at a1
  cases a1
  have hll:l.length<=30:=Gs (c5 (w'.nd _ _ hl) fun t ht=>lh w' hl ht) few
  refine⟨_,rfl,p,cI l,rfl,(by rw[cI_V];exact SqL.of a2),(by unfold cI;rw[FF];omega),fun q out hq hp hs=>?_⟩
  have eo:=Et hp hs (w'.nd _ _ hl) (pw r (Fx hr')) fun t=>(w'.mem i l hl t).trans (w5.mem i r hr' t).symm
  subst eo
  have s7:=ao hq (.lst ((cI r).map V.int))
  refine⟨s6.trans s7,?_⟩
  rw[show rows.take (i+1)=rows.take i++[r] by rw[Gn,hr'];rfl]
  exact(rz.mono s7).snoc (by rw[af,cI_V])
 rintro vs H6 _ ⟨s6,rz⟩ D' hD'
 rw[hzl,← w5.len,Gu]at rz
 have s7:=ao hD' (.lst vs)
 have s67:=s6.trans s7
 refine⟨_,rfl,_,qq (SqL.of af) (rz.mono s7),qq (SqL.of (s67 _ _ hpn5)) (rx5.off.mono s67),mV rows,_,rfl,iteF ?_⟩
 exact kk _ (s5.trans s67)
theorem lO:aD ["many","ties"] ["many","ties"] (ai bg):=⟨rfl,rfl,rfl,by decide +kernel,rfl,by decide +kernel,by decide +kernel⟩
theorem Df{f fr:Addr}{fd fdr:FuncData} (F:Fun K "refuse_parted" "refuse_parted" bg f fd) (G_reached:Cal P w K mg base 1 "reached" ["start","pairs"] (vD K) fr fdr):FnOk P w K mg base CX0 2 f fd ["many","ties"] (vE K):=by
 refine F.ok lO (fun vs H Q E h=>?_) (fun cdv A outer s H vs Q E hr h=>?_)
 ·obtain⟨a,xs,m,es,ts,rfl,_⟩:=h
  rfl
 obtain⟨a,xs,m,es,ts,rfl,hS,hT,g,m2,m40,few,kk⟩:=h
 have hul:xs.length=es.length:=hT.1
 refine⟨_,(aj (dz (aH oK (ay G_reached.ok (hr.mono (by decide)) rfl G_reached.mg G_reached.kp G_reached.bn .nil aT (aa ag (aa (kh rfl (fr:=[]) (by exact cB.plain (by rfl) (by decide +kernel) (by rfl) (by decide +kernel) (by rfl) (by decide +kernel)) (ck (pv 1)) (fun C ex s H=>(gC (aa (Bj (K:=K) rfl (pv 0) rfl) (aa (Bj (K:=K) rfl (pv 0) rfl) ah))))) ah))) (av tH (av iO ag (pv 0)) ag) (aP _)) (aj fJ) bo)),?_⟩
 refine⟨_,rfl,a,rfl,⟨_,hS⟩,fA (K:=K) (xs:=xs) (fun i zs H11=>Same H H11/\cA H11 zs (es.take i)) (Gw (au (by omega))) ⟨fun _ _ e=>e,rfl,fun i l e=>by simp at e⟩ (fun i zs H11 _ z=>z.1.seq hS) ?_ ?_⟩
 ·rintro i x zs H11 hx ⟨s11,ez⟩
  have hi:i<es.length:=by rw[← hT.1];exact(Fv.mp hx).1
  obtain⟨e,he⟩:∃ e,es[i]?=some e:=⟨_,Fu hi⟩
  obtain⟨p,C,dx,st,a1,a2,a3⟩:=(hT.mono s11).2 i e he
  rw[hx]at a1
  cases a1
  refine⟨_,rfl,p,C,dx,_,_,rfl,a2,a3.cl,a3.n1,k9 _ _ _,_,rfl,p,C,dx,_,_,rfl,a2,a3.cl,a3.n2,sA _ _ _,(by show 2<=sizeLine;decide),fun g hg=>?_⟩
  have s12:=ao hg (.tup [iV e.1,iV e.2])
  refine⟨s11.trans s12,?_⟩
  rw[show es.take (i+1)=es.take i++[e] by rw[Gn,he];rfl]
  exact(ez.mono s12).snoc af
 rintro zs H11 _ ⟨s11,ez⟩ D hD
 rw[hT.1,Gu]at ez
 have s12:=ao hD (.lst zs)
 refine⟨D,zs,m,es,ts,rfl,SqL.of af,ez.mono s12,g,m2,m40,_,rfl,_,_,rfl,rfl,⟨by omega,by omega,by decide⟩,_,_,rfl,rfl,rfl,_,rfl,?_⟩
 refine iteNS ?_ (kk _ (s11.trans s12))
 show V.int _=V.int _
 rw[shlN]
 have:=Nat.two_pow_pos m
 congr 1
 omega
end
end K8
namespace K8
open PySem L2
local macro_rules | `(tactic| walk_at "cc") => `(tactic| first | exact ⟨by decide, by decide⟩ | (show (0 : Int) < _; decide) | (show (0 : Int) < _; omega) | (show (0 : Int) ≤ _; omega) | exact ⟨by decide, by decide, by decide⟩ | exact ⟨by omega, by omega, by decide⟩ | exact Or.inl ⟨by decide, by decide⟩ | exact Or.inl ⟨by omega, by omega⟩)
local macro_rules | `(tactic| walk_at "rd") => `(tactic| repeat (first | refine ⟨_, rfl, ?_⟩ | refine ⟨_, _, rfl, rfl, ?_⟩ | refine ⟨rfl, ?_⟩ | (refine ⟨?cc, ?_⟩; (case cc => walk_at "cc"))))
def cls(PL PS:Addr)(push:Bool):Addr:=if push=true then PS else PL
def o6(PL PS:Addr)(H:Hp)(xs:List V)(es:En)(ks:Kn):Prop:=xs.length=es.length/\∀(i:Nat)(e:Nat×Nat)(k:Int×Int),es[i]?=some e->ks[i]?=some k->∃ p dx,xs[i]?=some (.ref p)/\H p=some (.ins (cls PL PS (decide (k.1=1))) dx (tf (e.1:Int) (e.2:Int) k.2))
theorem o6.mono{PL PS:Addr}{H H':Hp}{xs:List V}{es:En}{ks:Kn}(t:o6 PL PS H xs es ks)(h:Same H H'):o6 PL PS H' xs es ks:=⟨t.1,fun i e k q r=>by
 obtain⟨p,dx,a,b⟩:=t.2 i e k q r
 exact⟨p,dx,a,h _ _ b⟩⟩
structure CW(K:Fw)(C:Addr):Prop where
 cl:Cls K C
 n1:eM K C "many"
 n2:eM K C "ties"
 n3:eM K C "turns"
 n4:eM K C "rounds"
 n5:eM K C "sides"
theorem iy(k:Str)(v:V):∀ fs:List (Str×V),(putF k v fs).length<=fs.length+1
 |[]=>FD _
 | (a,b)::r=>by
  show(if a=k then(a,v)::r else(a,b)::putF k v r).length<=_
  have:=iy k v r
  split<;>simp only[Ge]<;>omega
theorem none_of{H H':Hp}{b:Addr}(s:Same H H')(z:H' b=none):H b=none:=by
 cases y:H b with
 |none=>rfl
 |some o=>rw[s _ _ y]at z;cases z
structure WebG(S:Addr->Prop)(H:Hp)(fs:List (Str×V))(m:Nat)(es:En)(ts rs:List (List Nat)):Prop where
 many:fs.lookup ("many" : Str)=some (.int (m:Int))
 turns:∃ q z,fs.lookup ("turns" : Str)=some (.ref q)/\¬ S q/\H q=some (.lst z)/\cP S H z ts
 rounds:∃ q z,fs.lookup ("rounds" : Str)=some (.ref q)/\H q=some (.lst z)/\bC H z rs
 sides:∃ q z,fs.lookup ("sides" : Str)=some (.ref q)/\H q=some (.lst z)/\k8 H z es.length rs
 part:aU (fol es ts) (2*es.length) (2*es.length) rs
theorem k8.mono{H H':Hp}{z:List V}{n:Nat}{rs:List (List Nat)}(h:k8 H z n rs)(s:Same H H'):k8 H' z n rs:=⟨h.1,fun i hi=>by
 obtain⟨t,a,b,r,r',y1,y2,y3⟩:=h.2 i hi
 exact⟨t,a,b,r,r',y1,s _ _ y2,y3⟩⟩
theorem WebG.mono{S S':Addr->Prop}{H H':Hp}{fs:List (Str×V)}{m:Nat}{es:En}{ts rs:List (List Nat)}(h:WebG S H fs m es ts rs)(s:Same H H')(i:∀ a,S' a->S a):WebG S' H' fs m es ts rs:=by
 obtain⟨a,⟨q,z,b1,b0,b2,b3⟩,⟨q',z',c1,c2,c3⟩,⟨q2,z2,d1,d2,d3⟩,e⟩:=h
 refine⟨a,⟨q,z,b1,fun y=>b0 (i _ y),s _ _ b2,b3.1,fun j l y=>?_⟩,⟨q',z',c1,s _ _ c2,c3.mono s⟩,⟨q2,z2,d1,s _ _ d2,d3.mono s⟩,e⟩
 obtain⟨r,y1,y2,y3⟩:=b3.2 j l y
 exact⟨r,y1,fun x=>y2 (i _ x),s _ _ y3⟩
def pV(K:Fw):Sp:=fun vs H Q _=>∃(p C dx qt qh:Addr)(m:Nat)(xs zs:List V)(es:En)(ts:List (List Nat)),vs = [.ref p,.int (m:Int),.ref qt,.ref qh]/\H p=some (.ins C dx [])/\CW K C/\H qt=some (.lst xs)/\c7 K H xs es/\H qh=some (.lst zs)/\bC H zs ts/\Gr m es ts/\0<es.length/\es.length<=30 /\
 ∀(fs:List (Str×V))(q1:Addr)(rs:List (List Nat))(H':Hp),H' p=some (.ins C dx fs)->WebG (fun a=>H a≠none) H' fs m es ts rs->H q1=none->fs.lookup ("ties" : Str)=some (.ref q1)->H' q1=some (.lst xs)->(∀ q o,H q=some o->q≠p->H' q=some o)->Q .non H'
theorem c7.keep{K:Fw}{H G:Hp}{xs:List V}{es:En}{p C dx:Addr}(t:c7 K H xs es)(hp:H p=some (.ins C dx []))(k:∀ q u,q≠p->H q=some u->G q=some u):c7 K G xs es:=⟨t.1,fun i e z=>by
 obtain⟨q,C',dx',s,a,b,d⟩:=t.2 i e z
 refine⟨q,C',dx',s,a,k _ _ (fun z=>?_) b,d⟩
 rw[z,hp]at b
 have e1:([]:List (Str×V))=tf (e.1:Int) (e.2:Int) s:=by
  injection b with b
  injection b
 have e2:=k9 (e.1:Int) (e.2:Int) s
 rw[← e1]at e2
 cases e2⟩
section
variable{P:Program}{w:World}{K:Fw}{mg:Str->Option Value}{base:Heap}
theorem jC:aD ["self","many","ties","turns","rounds"] ["self","many","ties","turns"] (ai b5):=⟨rfl,rfl,rfl,by decide +kernel,rfl,by decide +kernel,by decide +kernel⟩
theorem Dc{f f1 f2 f3 f4 f5:Addr}{fd d1 d2 d3 d4 d5:FuncData} (F:Fun K "__init__" "Web.__init__" b5 f fd) (T:Txt mg) (G_refuse_ends:Cal P w K mg base 1 "refuse_ends" ["many","ties"] (vF K) f1 d1) (G_refuse_turns:Cal P w K mg base 1 "refuse_turns" ["many","ties","turns"] (pX K) f2 d2) (G_refuse_parted:Cal P w K mg base 2 "refuse_parted" ["many","ties"] (vE K) f3 d3) (G_rounds_of:Cal P w K mg base 4 "rounds_of" ["ties","turns"] (pW K) f4 d4) (G_sides_of:Cal P w K mg base 1 "sides_of" ["ties","rounds"] (vC K) f5 d5) :
  FnOk P w K mg base CX0 5 f fd ["self","many","ties","turns"] (pV K):=by
 refine F.ok jC (fun vs H Q E h=>?_) (fun cdv A outer s H vs Q E hr h=>?_)
 ·obtain⟨p,C,dx,qt,qh,m,xs,zs,es,ts,rfl,_⟩:=h
  rfl
 obtain⟨p,C,dx,qt,qh,m,xs,zs,es,ts,rfl,hp,cw,hqt,hT,hqh,hR,g,e0,few,kk⟩:=h
 have w':=g.w
 have m2:=g.two e0
 have mf:=lj g
 have hul:xs.length=es.length:=hT.1
 have hzl:zs.length=m:=by rw[hR.1,w'.len]
 have pl:∀{q:Addr}{ys:List V},H q=some (.lst ys)->q≠p:=fun{q ys} h z=>by rw[z,hp]at h;cases h
 refine⟨_,(ae (bc (ay G_refuse_ends.ok (hr.mono (by decide)) rfl G_refuse_ends.mg G_refuse_ends.kp G_refuse_ends.bn .nil aT (aa (pv 1) (aa (pv 2) ah))))
   (ae (bc (ay G_refuse_turns.ok (hr.mono (by decide)) rfl G_refuse_turns.mg G_refuse_turns.kp G_refuse_turns.bn .nil aT (aa (pv 1) (aa (pv 2) (aa (pv 3) ah)))))
   (ae (bc (ay G_refuse_parted.ok (hr.mono (by decide)) rfl G_refuse_parted.mg G_refuse_parted.kp G_refuse_parted.bn .nil aT (aa (pv 1) (aa (pv 2) ah))))
   (ae (ar (i:=4) jC.nd rfl (Or.inl rfl) (ay G_rounds_of.ok (hr.mono (by decide)) rfl G_rounds_of.mg G_rounds_of.kp G_rounds_of.bn .nil aT (aa (pv 2) (aa (pv 3) ah))))
   (ae (dz (aH oK (av dD (av tH (pv 1) (aB aq (by rfl) T.n_len bf (aa (pv 2) ah))) (aB aq (by rfl) T.n_len bf (aa (pv 4) ah))) ag (aP _)) (aj fJ) bo)
   (ae (lb (pv 0) (pv 1) rfl)
   (ae (lb (pv 0) (fq eK (by rfl) T.n_list nY (aa (pv 2) ah)) rfl)
   (ae (lb (pv 0) (kh rfl (fr:=[]) (by exact cB.plain (by rfl) (by decide +kernel) (by rfl) (by decide +kernel) (by rfl) (by decide +kernel)) (ck (pv 3)) (fun C ex s H=>(fq (pI (K:=K) rfl) (by rfl) T.n_list nY (aa (pv 0) ah)))) rfl)
   (ae (lb (pv 0) (pv 4) rfl)
   (aj (lb (pv 0) (ay G_sides_of.ok (hr.mono (by decide)) rfl G_sides_of.mg G_sides_of.kp G_sides_of.bn .nil aT (aa (pv 2) (aa (pv 4) ah))) rfl))))))))))),?_⟩
 refine⟨_,rfl,_,rfl,qt,xs,m,es,rfl,SqL.of hqt,hT,fun e he=>⟨(w'.ends e he).1,(w'.ends e he).2.1⟩,?_⟩
 refine⟨_,rfl,_,rfl,_,rfl,qt,qh,xs,zs,m,es,ts,rfl,SqL.of hqt,hT,SqL.of hqh,hR,w',few,by omega,fun H1 s1=>?_⟩
 refine⟨_,rfl,_,rfl,qt,xs,m,es,ts,rfl,SqL.of (s1 _ _ hqt),hT.mono s1,g,m2,by omega,few,fun H2 s2=>?_⟩
 have s12:=s1.trans s2
 refine⟨_,rfl,_,rfl,qt,qh,m,es,ts,rfl,⟨⟨xs,SqL.of (s12 _ _ hqt),hT.mono s12⟩,⟨zs,SqL.of (s12 _ _ hqh),hR.mono s12⟩,w',by omega⟩,fun qr vs rs H3 s3 hqr hrs ro=>?_⟩
 have s13:=s12.trans s3
 have cnt:m+rs.length=es.length+2:=by
  obtain⟨rs',p',c⟩:=g.part
  rw[← p'.same ro.part]
  exact c
 have hvl:vs.length=rs.length:=hrs.1
 refine⟨_,rfl,_,rfl,qt,xs,rfl,.inl (SqL.of (s13 _ _ hqt)),_,_,rfl,rfl,_,rfl,qr,vs,rfl,.inl (SqL.of hqr),_,_,rfl,rfl,rfl,_,rfl,?_⟩
 refine iteNS (congrArg V.int (by omega)) ?_
 have hp3:=s13 _ _ hp
 refine⟨_,rfl,_,rfl,p,C,dx,[],rfl,hp3,cw.cl,cw.n1,(by show 0<1000;decide),?_⟩
 have keep:∀{G:Hp}{o:HO}{q:Addr}{u:HO},q≠p->G q=some u->(upd G p o) q=some u:=fun n z=>by rw[ak n];exact z
 refine⟨_,rfl,qt,xs,rfl,.inl (SqL.of (keep (pl hqt) (s13 _ _ hqt))),fun q1 hq1=>?_⟩
 have n1p:q1≠p:=fun z=>by rw[z,af]at hq1;cases hq1
 have t4:=ao hq1 (.lst xs)
 refine⟨_,rfl,p,C,dx,_,rfl,t4 _ _ af,cw.cl,cw.n2,?_,?_⟩
 ·have:=iy "many" (.int (m:Int)) ([]:List (Str×V));simp only[Hu]at this;omega
 have t1:∀ q u,q≠p->H3 q=some u->(upd (upd (upd H3 p (.ins C dx (putF "many" (.int (m:Int)) []))) q1 (.lst xs)) p (.ins C dx (putF "ties" (.ref q1) (putF "many" (.int (m:Int)) [])))) q=some u:=fun q u n z=>keep n (t4 _ _ (keep n z))
 have q1a:(upd (upd (upd H3 p (.ins C dx (putF "many" (.int (m:Int)) []))) q1 (.lst xs)) p (.ins C dx (putF "ties" (.ref q1) (putF "many" (.int (m:Int)) [])))) q1=some (.lst xs):=keep n1p af
 have pa:(upd (upd (upd H3 p (.ins C dx (putF "many" (.int (m:Int)) []))) q1 (.lst xs)) p (.ins C dx (putF "ties" (.ref q1) (putF "many" (.int (m:Int)) [])))) p=some (.ins C dx (putF "ties" (.ref q1) (putF "many" (.int (m:Int)) []))):=af
 generalize upd (upd (upd H3 p (.ins C dx (putF "many" (.int (m:Int)) []))) q1 (.lst xs)) p (.ins C dx (putF "ties" (.ref q1) (putF "many" (.int (m:Int)) [])))=H4 at t1 q1a pa
 have lk:(putF "ties" (.ref q1) (putF "many" (.int (m:Int)) []):List (Str×V)).lookup ("ties" : Str)=some (.ref q1):=by rw[aw,if_pos rfl]
 have ln:(putF "ties" (.ref q1) (putF "many" (.int (m:Int)) []):List (Str×V)).length<=2:=by
  have a1:=iy "many" (.int (m:Int)) ([]:List (Str×V))
  have a2:=iy "ties" (.ref q1) (putF "many" (.int (m:Int)) ([]:List (Str×V)))
  simp only[Hu]at a1
  omega
 have lkm:(putF "ties" (.ref q1) (putF "many" (.int (m:Int)) []):List (Str×V)).lookup ("many" : Str)=some (.int (m:Int)):=by rw[aw,if_neg (by decide +kernel),aw,if_pos rfl]
 generalize (putF "ties" (.ref q1) (putF "many" (.int (m:Int)) []):List (Str×V))=fs at pa lk ln lkm
 have hqh4:=t1 _ _ (pl hqh) (s13 _ _ hqh)
 have new4:∀{b:Addr},H4 b=none->H b=none:=fun{b} z=>by
  cases y:H b with
  |none=>rfl
  |some o =>
   by_cases n:b=p
   ·rw[n,pa]at z;cases z
   ·rw[t1 _ _ n (s13 _ _ y)]at z;cases z
 have new1:H q1=none:=by
  cases y:H q1 with
  |none=>rfl
  |some o=>rw[keep n1p (s13 _ _ y)]at hq1;cases hq1
 refine⟨_,rfl,qh,rfl,⟨_,SqL.of hqh4⟩,fA (K:=K) (xs:=zs) (fun i ys H5=>Same H4 H5/\cP (fun a=>H a≠none) H5 ys (ts.take i)) (Gw (au (by omega))) ⟨fun _ _ e=>e,rfl,fun i l e=>by simp at e⟩ (fun i _ H5 _ z=>SqL.of (z.1 _ _ hqh4)) ?_ ?_⟩
 ·rintro i x ys H5 hx ⟨s5,rz⟩
  have hi:i<ts.length:=by rw[← hR.1];exact(Fv.mp hx).1
  obtain⟨l,hl⟩:∃ l,ts[i]?=some l:=⟨_,Fu hi⟩
  obtain⟨r,a1,a2⟩:=hR.2 i l hl
  rw[hx]at a1
  cases a1
  refine⟨_,rfl,r,_,rfl,.inl (SqL.of (s5 _ _ (t1 _ _ (pl a2) (s13 _ _ a2)))),fun g hg=>⟨s5.trans (ao hg _),?_⟩⟩
  rw[show ts.take (i+1)=ts.take i++[l] by rw[Gn,hl];rfl]
  exact(rz.mono fun b u _ z=>ao hg _ _ _ z).snoc (fun z=>z (new4 (none_of s5 hg))) af
 rintro ys H5 _ ⟨s5,rz⟩ D hD
 rw[hR.1,Gu]at rz
 have hDp:D≠p:=fun z=>by rw[z,s5 _ _ pa]at hD;cases hD
 have s6:=s5.trans (ao hD (.lst ys))
 refine⟨_,rfl,p,C,dx,fs,rfl,s6 _ _ pa,cw.cl,cw.n3,by omega,?_⟩
 have ln1:=iy "turns" (.ref D) fs
 have lk1:(putF "turns" (.ref D) fs).lookup ("ties" : Str)=some (.ref q1):=by rw[aw,if_neg (by decide +kernel)];exact lk
 refine⟨_,rfl,_,rfl,p,C,dx,_,rfl,af,cw.cl,cw.n4,by omega,?_⟩
 have ln2:=iy "rounds" (.ref qr) (putF "turns" (.ref D) fs)
 have lk2:(putF "rounds" (.ref qr) (putF "turns" (.ref D) fs)).lookup ("ties" : Str)=some (.ref q1):=by rw[aw,if_neg (by decide +kernel)];exact lk1
 have t7:∀ q u,q≠p->H3 q=some u->(upd (upd (upd H5 D (.lst ys)) p (.ins C dx (putF "turns" (.ref D) fs))) p (.ins C dx (putF "rounds" (.ref qr) (putF "turns" (.ref D) fs)))) q=some u:=fun q u n z=>keep n (keep n (s6 _ _ (t1 q u n z)))
 have q17:(upd (upd (upd H5 D (.lst ys)) p (.ins C dx (putF "turns" (.ref D) fs))) p (.ins C dx (putF "rounds" (.ref qr) (putF "turns" (.ref D) fs)))) q1=some (.lst xs):=keep n1p (keep n1p (s6 _ _ q1a))
 have p7:(upd (upd (upd H5 D (.lst ys)) p (.ins C dx (putF "turns" (.ref D) fs))) p (.ins C dx (putF "rounds" (.ref qr) (putF "turns" (.ref D) fs)))) p=some (.ins C dx (putF "rounds" (.ref qr) (putF "turns" (.ref D) fs))):=af
 have D7:(upd (upd (upd H5 D (.lst ys)) p (.ins C dx (putF "turns" (.ref D) fs))) p (.ins C dx (putF "rounds" (.ref qr) (putF "turns" (.ref D) fs)))) D=some (.lst ys):=keep hDp (keep hDp af)
 have u7:∀ q u,q≠p->H5 q=some u->(upd (upd (upd H5 D (.lst ys)) p (.ins C dx (putF "turns" (.ref D) fs))) p (.ins C dx (putF "rounds" (.ref qr) (putF "turns" (.ref D) fs)))) q=some u:=fun q u n z=>keep n (keep n (ao hD _ _ _ z))
 generalize upd (upd (upd H5 D (.lst ys)) p (.ins C dx (putF "turns" (.ref D) fs))) p (.ins C dx (putF "rounds" (.ref qr) (putF "turns" (.ref D) fs)))=H7 at t7 q17 p7 D7 u7
 have pl3:∀{q:Addr}{ys:List V},H3 q=some (.lst ys)->q≠p:=fun{q ys} h z=>by rw[z,hp3]at h;cases h
 have rs7:bC H7 vs rs:=⟨hrs.1,fun i l z=>by
  obtain⟨r,a1,a2⟩:=hrs.2 i l z
  exact⟨r,a1,t7 _ _ (pl3 a2) a2⟩⟩
 have T7:c7 K H7 xs es:=(hT.mono s13).keep hp3 t7
 refine⟨_,rfl,_,rfl,qt,qr,xs,vs,es,_,rs,rfl,SqL.of (t7 _ _ (pl hqt) (s13 _ _ hqt)),T7,by omega,SqL.of (t7 _ _ (pl3 hqr) hqr),rs7,ro,fun q5 z5 H8 s8 hq5 hs5=>?_⟩
 refine⟨_,rfl,p,C,dx,_,rfl,s8 _ _ p7,cw.cl,cw.n5,by omega,?_⟩
 have n5p:q5≠p:=fun z=>by rw[z,s8 _ _ p7]at hq5;cases hq5
 have hqr7:=t7 _ _ (pl3 hqr) hqr
 refine kk _ q1 rs _ af ⟨?_,⟨D,ys,?_,fun z=>z (new4 (none_of s5 hD)),keep hDp (s8 _ _ D7),rz.1,fun i l z=>?_⟩,⟨qr,vs,?_,keep (pl3 hqr) (s8 _ _ hqr7),hrs.1,fun i l z=>?_⟩,⟨q5,z5,?_,keep n5p hq5,hs5.1,fun i hi=>?_⟩,ro⟩ new1 (by rw[aw,if_neg (by decide +kernel)];exact lk2) (keep n1p (s8 _ _ q17)) fun q o z n=>keep n (s8 _ _ (t7 q o n (s13 _ _ z)))
 ·rw[aw,if_neg (by decide +kernel),aw,if_neg (by decide +kernel),aw,if_neg (by decide +kernel)]
  exact lkm
 ·rw[aw,if_neg (by decide +kernel),aw,if_neg (by decide +kernel),aw,if_pos rfl]
 ·obtain⟨r,a1,a0,a2⟩:=rz.2 i l z
  have nr:r≠p:=fun z=>by rw[z,s5 _ _ pa]at a2;cases a2
  exact⟨r,a1,a0,keep nr (s8 _ _ (u7 r _ nr a2))⟩
 ·rw[aw,if_neg (by decide +kernel),aw,if_pos rfl]
 ·obtain⟨r,a1,a2⟩:=hrs.2 i l z
  exact⟨r,a1,keep (pl3 a2) (s8 _ _ (t7 _ _ (pl3 a2) a2))⟩
 ·rw[aw,if_pos rfl]
 ·obtain⟨t,a,b,r,r',y1,y2,y3⟩:=hs5.2 i hi
  exact⟨t,a,b,r,r',y1,keep (fun z=>by rw[z,s8 _ _ p7]at y2;cases y2) y2,y3⟩
theorem o6.at{PL PS:Addr}{H:Hp}{xs:List V}{es:En}{ks:Kn}(t:o6 PL PS H xs es ks)(kl:ks.length=es.length)(TL:CT K PL)(TS:CT K PS):c7 K H xs es:=⟨t.1,fun i e z=>by
 have hi:=(Fv.mp z).1
 obtain⟨k,hk⟩:∃ k,ks[i]?=some k:=⟨_,Fu (by omega)⟩
 obtain⟨p,dx,a,b⟩:=t.2 i e k z hk
 refine⟨p,_,dx,k.2,a,b,?_⟩
 unfold cls
 split
 ·exact TS
 ·exact TL⟩
def WebF(S:Addr->Prop)(PL PS WC:Addr)(H:Hp)(p:Addr)(m:Nat)(es:En)(ts rs:List (List Nat))(ks:Kn):Prop:=∃ dx fs q1 xs,H p=some (.ins WC dx fs)/\WebG S H fs m es ts rs/\¬ S q1/\fs.lookup ("ties" : Str)=some (.ref q1)/\H q1=some (.lst xs)/\o6 PL PS H xs es ks
def AR(PL PS WC:Addr):Sp:=fun vs H Q _=>∃(t pe pt pk:Addr)(m:Nat)(es:En)(ts:List (List Nat))(ks:Kn),vs = [.ref t]/\fF H t pe pt pk m es ts ks/\0<es.length /\
 ∀(p:Addr)(rs:List (List Nat))(H':Hp),Same H H'->WebF (fun a=>H a≠none) PL PS WC H' p m es ts rs ks->Q (.ref p) H'
theorem iq:aD ["built","ties","k","end"] ["built"] (ai fj):=⟨rfl,rfl,rfl,by decide +kernel,rfl,by decide +kernel,by decide +kernel⟩
theorem EN{f fI PL PS WC fW:Addr}{fd fdI fdW:FuncData} (F:Fun K "_law_web" "_law_web" fj f fd) (T:Txt mg) (M_Pull:Mak P w K mg base 1 "Pull" ["self","one","two","strength"] (o8 K) PL fI fdI) (M_Push:Mak P w K mg base 1 "Push" ["self","one","two","strength"] (o8 K) PS fI fdI) (TL:CT K PL) (TS:CT K PS)
  (M_Web:Mak P w K mg base 5 "Web" ["self","many","ties","turns"] (pV K) WC fW fdW) (cw:CW K WC):FnOk P w K mg base CX0 7 f fd ["built"] (AR PL PS WC):=by
 refine F.ok iq (fun vs H Q E h=>?_) (fun cdv A outer s H vs Q E hr h=>?_)
 ·obtain⟨t,pe,pt,pk,m,es,ts,ks,rfl,_⟩:=h
  rfl
 obtain⟨t,pe,pt,pk,m,es,ts,ks,rfl,bp,e0',kk⟩:=h
 obtain⟨ht,⟨⟨ys,hpe,hE⟩,⟨xs,hpt,hR⟩,g⟩,⟨ws,hpk,tk⟩,few,kl⟩:=bp
 have hyl:ys.length=es.length:=hE.1
 have mf:=lj g
 have hxm:xs.length=m:=by rw[hR.1,g.w.len]
 refine⟨_,(ae (ar (i:=1) iq.nd rfl (Or.inl rfl) (c4 ah))
   (ae (bP PassesOwn.never rfl (bq rfl T.n_range (aa (aB aq (by rfl) T.n_len bf (aa (ax aE (pv 0) ag (fun _ _=>rfl)) ah)) ah)) (aQ (i:=2) iq.nd rfl (Or.inl rfl)) (ae (ar (i:=3) iq.nd rfl (Or.inl rfl) (ax aG (ax aE (pv 0) ag (fun _ _=>rfl)) (pv 2) (fun _ _=>rfl)))
   (aj (dz (aH iW (ax aE (ax aG (ax aE (pv 0) ag (fun _ _=>rfl)) (pv 2) (fun _ _=>rfl)) ag (fun _ _=>rfl)) ag (aP _)) (aj (bc (eQ FR F7 F6 br (pv 1) (aa (wz M_Push.mkc M_Push.ok (hr.mono (by decide)) rfl M_Push.mg M_Push.bn .nil aT (aa (ax aE (pv 3) ag (fun _ _=>rfl)) (aa (ax aE (pv 3) ag (fun _ _=>rfl)) (aa (ax aE (ax aG (ax aE (pv 0) ag (fun _ _=>rfl)) (pv 2) (fun _ _=>rfl)) ag (fun _ _=>rfl)) ah)))) ah)))) (aj (bc (eQ FR F7 F6 br (pv 1) (aa (wz M_Pull.mkc M_Pull.ok (hr.mono (by decide)) rfl M_Pull.mg M_Pull.bn .nil aT (aa (ax aE (pv 3) ag (fun _ _=>rfl)) (aa (ax aE (pv 3) ag (fun _ _=>rfl)) (aa (ax aE (ax aG (ax aE (pv 0) ag (fun _ _=>rfl)) (pv 2) (fun _ _=>rfl)) ag (fun _ _=>rfl)) ah)))) ah))))))))
   (aj (aR (wz M_Web.mkc M_Web.ok (hr.mono (by decide)) rfl M_Web.mg M_Web.bn .nil aT (aa (aB aq (by rfl) T.n_len bf (aa (ax aE (pv 0) ag (fun _ _=>rfl)) ah)) (aa (pv 1) (aa (kh rfl (fr:=[]) (by exact cB.plain (by rfl) (by decide +kernel) (by rfl) (by decide +kernel) (by rfl) (by decide +kernel)) (ck (ax aE (pv 0) ag (fun _ _=>rfl))) (fun C ex s H=>(fq (pI (K:=K) rfl) (by rfl) T.n_list nY (aa (pv 0) ah)))) ah)))))))),?_⟩
 refine⟨(by show 0<=sizeLine;decide),fun q hq=>?_⟩
 have s1:=ao hq (.lst [])
 refine⟨_,rfl,t,_,0,_,rfl,rfl,SqT.of (s1 _ _ ht),at30,pe,ys,rfl,.inl (SqL.of (s1 _ _ hpe)),_,rfl,by omega,by omega,bJ (n:=(ys.length:Int).toNat) (fun i σ H2=>∃ v2 v3 us,σ = [some (.ref t),some (.ref q),v2,v3]/\Same H H2/\H2 q=some (.lst us)/\o6 PL PS H2 us (es.take i) ks) ⟨_,_,[],rfl,s1,af,rfl,fun i e k z=>by simp at z⟩ ?_ ?_⟩
 ·rintro i σ H2 hi ⟨v2,v3,us,rfl,s2,hq2,tt⟩
  rw[F1,hyl]at hi
  have e0:(0:Int)+(i:Int)=(i:Int):=GN _
  rw[e0]
  obtain⟨e,he⟩:∃ e,es[i]?=some e:=⟨_,Fu hi⟩
  obtain⟨k,hk⟩:∃ k,ks[i]?=some k:=⟨_,Fu (by omega)⟩
  obtain⟨_,_,ne⟩:=g.w.ends e (Fx he)
  obtain⟨p,x1,x2⟩:=(hE.mono s2).2 i e he
  obtain⟨k1,k2,pk',y1,y2⟩:=(tk.mono s2).2 i k hk
  have ul:us.length=i:=by rw[tt.1,GL];omega
  refine⟨_,rfl,t,_,0,_,rfl,rfl,SqT.of (s2 _ _ ht),at30,_,rfl,pe,ys,_,_,rfl,rfl,SqL.of (s2 _ _ hpe),aI x1,?_⟩
  refine⟨_,rfl,t,_,2,_,rfl,rfl,SqT.of (s2 _ _ ht),at32,_,rfl,pk,ws,_,_,rfl,rfl,SqL.of (s2 _ _ hpk),aI y1,pk',_,0,_,rfl,rfl,SqT.of y2,at0,rfl,_,rfl,?_⟩
  have fin:∀(x dx:Addr)(H':Hp),Same H2 H'->H' x=some (.ins (cls PL PS (decide (k.1=1))) dx (tf (e.1:Int) (e.2:Int) k.2))->∃ v2 v3 zs,([some (.ref t),some (.ref q),some (.int (i:Int)),some (.ref p)]:St) = [some (.ref t),some (.ref q),v2,v3]/\Same H (upd H' q (.lst (us++[.ref x])))/\(upd H' q (.lst (us++[.ref x]))) q=some (.lst zs)/\o6 PL PS (upd H' q (.lst (us++[.ref x]))) zs (es.take (i+1)) ks:=fun x dx H' s4 h1=>by
   refine⟨_,_,_,rfl,aM (s2.trans s4) hq _,af,by rw[Fy,ul,GL];simp;omega,fun j e' k' hj hk'=>?_⟩
   have hqn:∀{b:Addr}{C dx:Addr}{fs:List (Str×V)},H' b=some (.ins C dx fs)->b≠q:=fun z y=>by rw[y,s4 _ _ hq2]at z;cases z
   rw[List.getElem?_take]at hj
   by_cases z:j<i
   ·rw[if_pos (by omega)]at hj
    obtain⟨p',dx',a1,a2⟩:=(tt.mono s4).2 j e' k' (by rw[List.getElem?_take,if_pos z];exact hj) hk'
    exact⟨p',dx',by rw[FA (by omega)];exact a1,by rw[ak (hqn a2)];exact a2⟩
   ·by_cases z2:j=i
    ·subst z2
     rw[if_pos (by omega),he]at hj
     cases hj
     rw[hk]at hk'
     cases hk'
     exact⟨x,dx,by rw[← ul,Fz (FD _),F5];rfl,by rw[ak (hqn h1)];exact h1⟩
    ·rw[if_neg (by omega)]at hj
     cases hj
  refine ite2 (fun c=>?_) (fun c=>?_)
  ·have c':k.1=1:=V.int.inj (of_decide_eq_true c)
   refine⟨_,rfl,.inl ⟨rfl,_,SqL.of hq2⟩,_,rfl,p,_,0,_,rfl,rfl,SqT.of x2,at0,_,rfl,p,_,1,_,rfl,rfl,SqT.of x2,at1,_,rfl,t,_,2,_,rfl,rfl,SqT.of (s2 _ _ ht),at32,_,rfl,pk,ws,_,_,rfl,rfl,SqL.of (s2 _ _ hpk),aI y1,pk',_,1,_,rfl,rfl,SqT.of y2,at1,?_⟩
   intro x dx nx ndx nex
   refine⟨x,PS,dx,_,_,_,rfl,af,TS,by omega,by omega,by omega,k2,fun H' h1 h2=>?_⟩
   have s4:Same H2 H':=fun b o z=>h2 b o (by rw[ak (aA z nx),ak (aA z ndx)];exact z) (aA z nx)
   refine⟨rfl,q,us,_,rfl,rfl,s4 _ _ hq2,au (by omega),fin x dx H' s4 ?_⟩
   rw[decide_eq_true c']
   exact h1
  ·have c':¬ k.1=1:=fun z=>c (decide_eq_true (by rw[z]))
   refine⟨_,rfl,.inl ⟨rfl,_,SqL.of hq2⟩,_,rfl,p,_,0,_,rfl,rfl,SqT.of x2,at0,_,rfl,p,_,1,_,rfl,rfl,SqT.of x2,at1,_,rfl,t,_,2,_,rfl,rfl,SqT.of (s2 _ _ ht),at32,_,rfl,pk,ws,_,_,rfl,rfl,SqL.of (s2 _ _ hpk),aI y1,pk',_,1,_,rfl,rfl,SqT.of y2,at1,?_⟩
   intro x dx nx ndx nex
   refine⟨x,PL,dx,_,_,_,rfl,af,TL,by omega,by omega,by omega,k2,fun H' h1 h2=>?_⟩
   have s4:Same H2 H':=fun b o z=>h2 b o (by rw[ak (aA z nx),ak (aA z ndx)];exact z) (aA z nx)
   refine⟨rfl,q,us,_,rfl,rfl,s4 _ _ hq2,au (by omega),fin x dx H' s4 ?_⟩
   rw[decide_eq_false c']
   exact h1
 rintro σ H2 ⟨v2,v3,us,rfl,s2,hq2,tt⟩
 rw[F1,hyl,Gu]at tt
 have hpt2:=s2 _ _ hpt
 refine⟨_,rfl,t,_,1,_,rfl,rfl,SqT.of (s2 _ _ ht),at31,pt,xs,rfl,.inl (SqL.of hpt2),_,rfl,_,rfl,t,_,1,_,rfl,rfl,SqT.of (s2 _ _ ht),at31,pt,rfl,⟨_,SqL.of hpt2⟩,fA (K:=K) (xs:=xs) (fun i zs H3=>Same H2 H3/\bC H3 zs (ts.take i)) (Gw (au (by omega))) ⟨fun _ _ e=>e,rfl,fun i l e=>by simp at e⟩ (fun i zs H3 _ z=>SqL.of (z.1 _ _ hpt2)) ?_ ?_⟩
 ·rintro i x zs H3 hx ⟨s3,rz⟩
  have hi:i<ts.length:=by rw[← hR.1];exact(Fv.mp hx).1
  obtain⟨l,hl⟩:∃ l,ts[i]?=some l:=⟨_,Fu hi⟩
  obtain⟨p,a1,a2⟩:=(hR.mono (s2.trans s3)).2 i l hl
  rw[hx]at a1
  cases a1
  refine⟨_,rfl,p,_,rfl,.inl (SqL.of a2),fun g hg=>?_⟩
  have s4:=ao hg (.lst (l.map iV))
  refine⟨s3.trans s4,?_⟩
  rw[show ts.take (i+1)=ts.take i++[l] by rw[Gn,hl];rfl]
  exact(rz.mono s4).snoc af
 rintro zs H3 _ ⟨s3,rz⟩ D hD
 rw[hR.1,Gu]at rz
 have s4:=ao hD (.lst zs)
 have s24:=s3.trans s4
 intro x dx nx ndx nex
 have up:∀ b o,(upd H3 D (.lst zs)) b=some o->(upd (upd (upd H3 D (.lst zs)) dx (.own x)) x (.ins WC dx [])) b=some o:=fun b o z=>by rw[ak (aA z nx),ak (aA z ndx)];exact z
 refine⟨x,WC,dx,q,D,m,us,zs,es,ts,(by rw[hxm];rfl),af,cw,up _ _ (s24 _ _ hq2),((tt.at kl TL TS).mono s24).mono up,up _ _ af,(rz.mono s4).mono up,g,e0',few,fun fs q1 rs H' h1 hg hn h2 h3 h4=>⟨rfl,?_⟩⟩
 have s5:Same H2 H':=fun b o z=>h4 b o (up _ _ (s24 _ _ z)) (aA (s24 _ _ z) nx)
 have up0:∀ a,H a≠none->(upd (upd (upd H3 D (.lst zs)) dx (.own x)) x (.ins WC dx [])) a≠none:=fun a z y=>z (by
  cases u:H a with
  |none=>rfl
  |some o=>rw[up _ _ (s24 _ _ (s2 _ _ u))]at y;cases y)
 exact kk x rs H' (s2.trans s5) ⟨dx,fs,q1,us,h1,hg.mono (fun _ _ z=>z) up0,fun z=>up0 _ z hn,h2,h3,tt.mono s5⟩
end
end K8
set_option maxHeartbeats 1000000
namespace K8
open PySem L2
local macro_rules | `(tactic| walk_at "cc") => `(tactic| first | exact ⟨by decide, by decide⟩ | (show (0 : Int) < _; decide) | (show (0 : Int) < _; omega) | (show (0 : Int) ≤ _; omega) | exact ⟨by decide, by decide, by decide⟩ | exact ⟨by omega, by omega, by decide⟩ | exact Or.inl ⟨by decide, by decide⟩ | exact Or.inl ⟨by omega, by omega⟩)
local macro_rules | `(tactic| walk_at "rd") => `(tactic| repeat (first | refine ⟨_, rfl, ?_⟩ | refine ⟨_, _, rfl, rfl, ?_⟩ | refine ⟨rfl, ?_⟩ | (refine ⟨?cc, ?_⟩; (case cc => walk_at "cc"))))
theorem bt_sum:bootBuiltins "sum" = some (.builtin "sum"):=by decide +kernel
theorem EG{X:Cx}{e:Expr}{t1 t2:TE}(h1:PE X e t1)(h2:PE X e t2):PE X e (fun σ H Q=>t1 σ H Q∨t2 σ H Q):=fun pins s σ H Q I h=>h.elim (h1 pins s σ H Q I) (h2 pins s σ H Q I)
def bit(l a:Int):Int:=l/2^a.toNat%2
theorem Ef(x y:Int):Builtin.bitAnd (Builtin.bitXor x y) 1=(x%2+y%2)%2:=by
 have e:Builtin.bitAnd (Builtin.bitXor x y) 1=Builtin.bitXor x y%2:=PySem.W.kbt_mask _ 1
 rw[e,PyProof.Rows.bitXor_and]
 omega
def unp(push:Bool)(a b l:Int):Bool:=!decide (V.int ((bit l a+bit l b)%2)=V.int (if push=true then 1 else 0))
def la(push:Bool):Sp:=fun vs H Q _=>∃ p,vs = [.ref p]/\Q (.int (if push=true then 1 else 0)) H
def TieAt(H:Hp)(p C:Addr)(a b s:Int):Prop:=∃ dx,H p=some (.ins C dx (tf a b s))
def U(es:En)(ks:Kn)(l:Int)(t:Nat):Bool:=match es[t]?,ks[t]? with | some e,some k=>unp (decide (k.1=1)) (e.1:Int) (e.2:Int) l | _,_=>false
theorem U_at{es:En}{ks:Kn}{l:Int}{t:Nat}{e:Nat×Nat}{k:Int×Int}(h1:es[t]?=some e)(h2:ks[t]?=some k):U es ks l t=unp (decide (k.1=1)) (e.1:Int) (e.2:Int) l:=by unfold U;rw[h1,h2]
def upL(u:Nat->Bool)(i:Nat):List Nat:=(Hd i).filter u
theorem yv(u:Nat->Bool)(i:Nat):upL u (i+1)=if u i=true then upL u i++[i] else upL u i:=by
 unfold upL
 rw[List.range_succ,Ib]
 by_cases h:u i=true
 ·rw[if_pos h];simp[h]
 ·rw[if_neg h];simp[h]
def m6(ps:List Nat):Nat:=ps.foldl (fun m p=>m|||2^p) 0
theorem kn(ps:List Nat)(p:Nat):m6 (ps++[p])=m6 ps|||2^p:=by unfold m6;rw[List.foldl_append];rfl
def MK(u:Nat->Bool):Nat->Nat
 |0=>0
 |i+1=>if u i=true then MK u i|||2^i else MK u i
theorem w6(u:Nat->Bool):∀ i,m6 (upL u i)=MK u i
 |0=>rfl
 |i+1=>by
  rw[yv]
  show _=if u i=true then MK u i|||2^i else MK u i
  split
  ·rw[kn,w6 u i]
  ·exact w6 u i
theorem y4(u:Nat->Bool)(k:Nat):∀ i,(MK u i).testBit k=(decide (k<i)&&u k)
 |0=>by show HX 0 k=_;simp
 |i+1=>by
  show(if u i=true then MK u i|||2^i else MK u i).testBit k=_
  have ih:=y4 u k i
  by_cases h:u i=true
  ·rw[if_pos h,Hl,ih,Ht]
   by_cases z:i=k
   ·subst z;simp[h]
   ·by_cases z2:k<i
    ·simp[z2,G6 z2,z]
    ·have:¬ k<i+1:=by omega
     simp[z2,z,this]
  ·rw[if_neg h,ih]
   by_cases z2:k<i
   ·simp[z2,G6 z2]
   ·by_cases z:i=k
    ·subst z;simp[h]
    ·have:¬ k<i+1:=by omega
     simp[z2,this]
theorem bitN(N a:Nat):bit (N:Int) (a:Int)=if N.testBit a=true then 1 else 0:=by
 unfold bit
 rw[F1,Ih]
 have e:((N:Int)/2^a%2)=((N/2^a%2:Nat):Int):=by
  rw[Int.natCast_emod,Int.natCast_ediv,Iy]
  rfl
 rw[e]
 by_cases z:N/2^a%2=1
 ·rw[z,decide_eq_true rfl];rfl
 ·rw[decide_eq_false z]
  have:N/2^a%2=0:=by omega
  rw[this]
  rfl
theorem xa(m n:Nat):(m^^^n)+2*(m&&&n)=m+n:=by
 have h:=PyProof.Rows.nat_or_add_and m n
 have h2:(m|||n)=(m^^^n)+(m&&&n):=by
  have e:(m^^^n)+(m&&&n)=(m^^^n)|||(m&&&n):=by
   have q:=PyProof.Rows.nat_or_add_and (m^^^n) (m&&&n)
   have z:(m^^^n)&&&(m&&&n)=0:=by
    apply GV
    intro i
    simp only[HJ,Nat.testBit_xor,HH]
    cases m.testBit i<;>cases n.testBit i<;>rfl
   omega
  rw[e]
  apply GV
  intro i
  simp only[HJ,Nat.testBit_xor,Hl]
  cases m.testBit i<;>cases n.testBit i<;>rfl
 omega
theorem xorN(a b:Nat):Builtin.bitXor (a:Int) (b:Int)=((a^^^b:Nat):Int):=by
 rw[PyProof.Rows.bitXor_and,andN]
 have q:=xa a b
 omega
def yz(K:Fw):Sp:=fun vs H Q _=>∃(a:Addr)(ps:List Nat),vs = [.ref a]/\SqL K H a (ps.map iV)/\(∀ p∈ps,p<80)/\Q (.int ((m6 ps:Nat):Int)) H
def yA:Sp:=fun vs H Q _=>∃(t pe pt pk:Addr)(m:Nat)(es:En)(ts:List (List Nat))(ks:Kn)(l:Int),vs = [.ref t,.int l]/\fF H t pe pt pk m es ts ks/\Q (.int ((MK (U es ks l) es.length:Nat):Int)) H
theorem k_push{k:Int}(h:k=0∨k=1):(if decide (k=1)=true then(1:Int) else 0)=k:=by
 rcases h with h | h<;>subst h<;>rfl
theorem DZ(d:Nat):∀ l:List Nat,inV (iV d) (l.map iV)=decide (d∈l)
 |[]=>rfl
 |x::l=>by
  have ih:=DZ d l
  unfold inV at ih ⊢
  rw[F9,Hr,ih]
  have e:eqV (iV x) (iV d)=decide (x=d):=by
   show((x:Int) == (d:Int))=_
   by_cases h:x=d
   ·subst h;simp
   ·have h2:¬ (x:Int)=(d:Int):=fun z=>h (by omega)
    rw[beq_eq_false_iff_ne.mpr h2,decide_eq_false h]
  rw[e]
  by_cases h:x=d
  ·subst h;simp
  ·have h3:¬ d=x:=fun z=>h z.symm
   simp[h,h3]
theorem Fg(l:List Nat):(l.map iV).all rB=true:=by
 rw[List.all_eq_true]
 intro x hx
 obtain⟨y,_,rfl⟩:=Gk.mp hx
 rfl
def Er:Sp:=fun vs H Q _=>∃(t pe pt pk:Addr)(m:Nat)(es:En)(ts:List (List Nat))(ks:Kn),vs = [.ref t]/\fF H t pe pt pk m es ts ks/\∀ q us rs H',Same H H'->H' q=some (.lst us)->bC H' us rs->aU (fol es ts) (2*es.length) (2*es.length) rs->Q (.ref q) H'
theorem Ring.clos{f:Nat->Nat}{N x:Nat}{r:List Nat}(h:Ring f N r)(hx:x∈r):f x∈r:=by
 obtain⟨i,hi,e⟩:=Ha hx
 exact Fx (h.nx i x (by rw[Fu hi,e]))
theorem Ring.sub{f:Nat->Nat}{N d:Nat}{r r':List Nat}(h:Ring f N r)(h':Ring f N r')(h1:d∈r)(h2:d∈r'):∀ x∈r,x∈r':=by
 obtain⟨i,hi,e⟩:=Ha h1
 have go:∀ j,r[(i+j)%r.length]?=some (r[(i+j)%r.length]'(HQ _ h.ne))/\r[(i+j)%r.length]'(HQ _ h.ne)∈r':=fun j=>by
  induction j with
  |zero =>
   refine⟨Fu _,?_⟩
   have:(i+0)%r.length=i:=by rw[Nat.add_zero];exact Gz hi
   have e2:r[(i+0)%r.length]'(HQ _ h.ne)=d:=by
    rw[← e]
    exact getElem_congr_idx this
   rw[e2]
   exact h2
  |succ j ih =>
   refine⟨Fu _,?_⟩
   have z:=h.nx _ _ ih.1
   have em:((i+j)%r.length+1)%r.length=(i+(j+1))%r.length:=by rw[Nat.mod_add_mod];rfl
   rw[em,Fu (HQ _ h.ne)]at z
   rw[FW z]
   exact h'.clos ih.2
 intro x hx
 obtain⟨k,hk,ek⟩:=Ha hx
 have g:=(go (k+r.length-i)).2
 have:(i+(k+r.length-i))%r.length=k:=by
  rw[show i+(k+r.length-i)=k+r.length by omega,Nat.add_mod_right]
  exact Gz hk
 have e2:r[(i+(k+r.length-i))%r.length]'(HQ _ h.ne)=x:=by
  rw[← ek]
  exact getElem_congr_idx this
 rw[e2]at g
 exact g
theorem aU.at{f:Nat->Nat}{N d:Nat}{rs:List (List Nat)}(w:aU f N N rs)(h:d<N):∃(a:Nat)(r:List Nat),rs[a]?=some r/\d∈r:=by
 obtain⟨r,h1,h2⟩:=Gi.mp (w.all d h)
 obtain⟨a,ha,e⟩:=Ha h1
 exact⟨a,r,by rw[Fu ha,e],h2⟩
theorem aU.no_less{f:Nat->Nat}{N:Nat}{rs rs':List (List Nat)}(w:aU f N N rs)(w':aU f N N rs'):∀(a:Nat)(b d:Nat)(r r':List Nat),rs[a]?=some r->rs'[b]?=some r'->d∈r->d∈r'->a<=b:=by
 intro a
 induction a using Nat.strongRecOn with
 |_ a ih =>
  intro b d r r' ha hb h1 h2
  have m1:=Fx ha
  have m2:=Fx hb
  have R:=w.ring r m1
  have R':=w'.ring r' m2
  have rn:0<r.length:=R.ne
  have rn':0<r'.length:=R'.ne
  have hh:r[0]?=some r[0]:=Fu R.ne
  have hh':r'[0]?=some r'[0]:=Fu R'.ne
  have q1:=(w.hdl r m1 _ hh).2 _ (R'.sub R h2 h1 _ (GQ R'.ne))
  have q2:=(w'.hdl r' m2 _ hh').2 _ (R.sub R' h1 h2 _ (GQ R.ne))
  cases a with
  |zero=>exact GJ _
  |succ a =>
   have hal:a<rs.length:=by have:=(Fv.mp ha).1;omega
   have hp:rs[a]?=some rs[a]:=Fu hal
   generalize rs[a]=p at hp
   have m3:=Fx hp
   have P:=w.ring p m3
   have pn:0<p.length:=P.ne
   have hhp:p[0]?=some p[0]:=Fu P.ne
   have lt:=w.asc a (a+1) p r _ _ (GP _) hp ha hhp hh
   obtain⟨c,pc,hc,hin⟩:=w'.at (P.lt _ (GQ P.ne))
   have le:=ih a (GP _) c p[0] p pc hp hc (GQ P.ne) hin
   have PC:=w'.ring pc (Fx hc)
   have pcn:0<pc.length:=PC.ne
   have hhc:pc[0]?=some pc[0]:=Fu PC.ne
   have q3:=(w'.hdl pc (Fx hc) _ hhc).2 _ hin
   by_cases z:c<b
   ·omega
   ·exfalso
    by_cases z2:c=b
    ·subst z2
     rw[hb]at hc
     cases hc
     omega
    ·have:=w'.asc b c r' pc _ _ (by omega) hb hc hh' hhc
     omega
theorem aU.same{f:Nat->Nat}{N a b d:Nat}{rs rs':List (List Nat)}{r r':List Nat}(w:aU f N N rs)(w':aU f N N rs')(ha:rs[a]?=some r)(hb:rs'[b]?=some r')(h1:d∈r)(h2:d∈r'):a=b :=
 HL (w.no_less w' a b d r r' ha hb h1 h2) (w'.no_less w b a d r' r hb ha h2 h1)
theorem Ring.eq{f:Nat->Nat}{N d:Nat}{r r':List Nat}(h:Ring f N r)(h':Ring f N r')(e:r[0]?=some d)(e':r'[0]?=some d):r=r':=by
 have m1:=Fx e
 have m2:=Fx e'
 have hl:r.length=r'.length:=HL (yy h.nd (h.sub h' m1 m2)) (yy h'.nd (h'.sub h m2 m1))
 have go:∀ i,i<r.length->r[i]?=r'[i]?:=fun i=>by
  induction i with
  |zero=>intro _;rw[e,e']
  |succ i ih =>
   intro hi
   have q:=ih (by omega)
   obtain⟨x,hx⟩:∃ x,r[i]?=some x:=⟨_,Fu (by omega)⟩
   have a:=h.nx i x hx
   rw[q]at hx
   have b:=h'.nx i x hx
   rw[Gz hi]at a
   rw[Gz (by omega)]at b
   rw[a,b]
 apply List.ext_getElem?
 intro i
 by_cases hi:i<r.length
 ·exact go i hi
 ·rw[Ho (by omega),Ho (by omega)]
theorem aU.sub1{f:Nat->Nat}{N:Nat}{rs rs':List (List Nat)}(w:aU f N N rs)(w':aU f N N rs'){k:Nat}{r:List Nat}(hk:rs[k]?=some r):rs'[k]?=some r:=by
 have R:=w.ring r (Fx hk)
 have rn:0<r.length:=R.ne
 have hh:r[0]?=some r[0]:=Fu rn
 obtain⟨b,r',hb,hin⟩:=w'.at (R.lt _ (GQ rn))
 have e:k=b:=w.same w' hk hb (GQ rn) hin
 subst e
 have R':=w'.ring r' (Fx hb)
 have rn':0<r'.length:=R'.ne
 have hh':r'[0]?=some r'[0]:=Fu rn'
 have q1:=(w.hdl r (Fx hk) _ hh).2 _ (R'.sub R hin (GQ rn) _ (GQ rn'))
 have q2:=(w'.hdl r' (Fx hb) _ hh').2 _ hin
 have q3:r'[0]=r[0]:=HL q2 q1
 rw[q3]at hh'
 rw[hb,Ring.eq R R' hh hh']
theorem aU.eq{f:Nat->Nat}{N:Nat}{rs rs':List (List Nat)}(w:aU f N N rs)(w':aU f N N rs'):rs=rs':=by
 apply List.ext_getElem?
 intro k
 cases h:rs[k]? with
 |some r=>exact(w.sub1 w' h).symm
 |none =>
  cases h':rs'[k]? with
  |none=>rfl
  |some r=>rw[w'.sub1 w h']at h;cases h
def sm(l:List Nat)(g:Nat->Nat):Nat:=(l.map g).sum
theorem vJ(x:Nat)(l:List Nat)(g:Nat->Nat):sm (x::l) g=g x+sm l g:=by unfold sm;rw[F9,List.sum_cons]
theorem AV(a b:List Nat)(g:Nat->Nat):sm (a++b) g=sm a g+sm b g:=by unfold sm;rw[F8,List.sum_append]
theorem sm_nil(g:Nat->Nat):sm [] g=0:=rfl
def WebT(PL PS WC:Addr)(H:Hp)(p:Addr)(m:Nat)(es:En)(ts:List (List Nat))(ks:Kn):Prop:=∃ dx fs q1 xs q3 z3,H p=some (.ins WC dx fs)/\fs.lookup ("many" : Str)=some (.int (m:Int))/\fs.lookup ("ties" : Str)=some (.ref q1)/\H q1=some (.lst xs)/\o6 PL PS H xs es ks/\fs.lookup ("turns" : Str)=some (.ref q3)/\H q3=some (.lst z3)/\bC H z3 ts
theorem WebT.mono{PL PS WC p:Addr}{H H':Hp}{m:Nat}{es:En}{ts:List (List Nat)}{ks:Kn}(h:WebT PL PS WC H p m es ts ks)(s:Same H H'):WebT PL PS WC H' p m es ts ks:=by
 obtain⟨dx,fs,q1,xs,q3,z3,a,b,c,d,e,f,g,i⟩:=h
 exact⟨dx,fs,q1,xs,q3,z3,s _ _ a,b,c,s _ _ d,e.mono s,f,s _ _ g,i.mono s⟩
theorem WebF.t{S:Addr->Prop}{PL PS WC p:Addr}{H:Hp}{m:Nat}{es:En}{ts rs:List (List Nat)}{ks:Kn}(h:WebF S PL PS WC H p m es ts rs ks):WebT PL PS WC H p m es ts ks:=by
 obtain⟨dx,fs,q1,xs,a,b,_,c,d,e⟩:=h
 obtain⟨q3,z3,b1,_,b2,b3⟩:=b.turns
 exact⟨dx,fs,q1,xs,q3,z3,a,b.many,c,d,e,b1,b2,b3.off⟩
def pY:Sp:=fun vs H Q _=>∃(c:Int)(m:Nat),vs = [.int c,.int (m:Int)]/\m<=40/\∀ N:Nat,N<2^m->Q (.int (N:Int)) H
section
variable{P:Program}{w:World}{K:Fw}{mg:Str->Option Value}{base:Heap}
theorem vU:aD ["self"] ["self"] (ai dv):=⟨rfl,rfl,rfl,by decide +kernel,rfl,by decide +kernel,by decide +kernel⟩
theorem C9{f:Addr}{fd:FuncData} (F:Fun K "wish" "Tie.wish" dv f fd):FnOk P w K mg base CX0 1 f fd ["self"] (la false):=by
 refine F.ok vU (fun vs H Q E h=>?_) (fun cdv A outer s H vs Q E hr h=>?_)
 ·obtain⟨p,rfl,_⟩:=h
  rfl
 obtain⟨p,rfl,k⟩:=h
 exact⟨_,(aj (aR ag)),k⟩
theorem sS:aD ["self"] ["self"] (ai cK):=⟨rfl,rfl,rfl,by decide +kernel,rfl,by decide +kernel,by decide +kernel⟩
theorem C8{f:Addr}{fd:FuncData} (F:Fun K "wish" "Push.wish" cK f fd):FnOk P w K mg base CX0 1 f fd ["self"] (la true):=by
 refine F.ok sS (fun vs H Q E h=>?_) (fun cdv A outer s H vs Q E hr h=>?_)
 ·obtain⟨p,rfl,_⟩:=h
  rfl
 obtain⟨p,rfl,k⟩:=h
 exact⟨_,(aj (aR ag)),k⟩
theorem ip:aD ["places","mask","place"] ["places"] (ai fe):=⟨rfl,rfl,rfl,by decide +kernel,rfl,by decide +kernel,by decide +kernel⟩
theorem EM{f:Addr}{fd:FuncData} (F:Fun K "mask_of" "mask_of" fe f fd):FnOk P w K mg base CX0 1 f fd ["places"] (yz K):=by
 refine F.ok ip (fun vs H Q E h=>?_) (fun cdv A outer s H vs Q E hr h=>?_)
 ·obtain⟨a,ps,rfl,_⟩:=h
  rfl
 obtain⟨a,ps,rfl,hS,h80,kk⟩:=h
 refine⟨_,(ae (ar (i:=1) ip.nd rfl (Or.inl rfl) ag)
   (ae (bP PassesOwn.never rfl (ck (pv 0)) (aQ (i:=2) ip.nd rfl (Or.inl rfl)) (aj (ar (i:=1) ip.nd rfl (Or.inl rfl) (av Bo (pv 1) (av iO ag (pv 2))))))
   (aj (aR (pv 1))))),?_⟩
 refine⟨_,rfl,a,rfl,⟨_,hS⟩,eB (K:=K) (xs:=ps.map iV) (fun i σ H2=>∃ v2,σ = [some (.ref a),some (.int ((m6 (ps.take i):Nat):Int)),v2]/\H2=H) ⟨_,rfl,rfl⟩ (fun i σ H2 _ ⟨_,_,z⟩=>z▸hS) ?_ ?_⟩
 ·rintro i x σ H2 hx ⟨v2,rfl,rfl⟩
  rw[F0]at hx
  obtain⟨p,hp,rfl⟩:=Gd.mp hx
  have hp80:=h80 p (Fx hp)
  refine⟨_,rfl,_,rfl,_,_,rfl,rfl,⟨by omega,by omega,by decide⟩,_,_,rfl,rfl,some (iV p),?_,rfl⟩
  show[some (V.ref a),some (V.int (Builtin.bitOr ((m6 (ps.take i):Nat):Int) (1*2^((p:Nat):Int).toNat))),some (iV p)]=_
  rw[shlN,orN,Gn,hp]
  show _ = [some (V.ref a),some (V.int ((m6 (ps.take i++[p]):Nat):Int)),some (iV p)]
  rw[kn]
 ·rintro σ H2 ⟨v2,rfl,rfl⟩
  rw[FF,Gu]
  exact⟨_,rfl,kk⟩
theorem sR:aD ["found"] ["found"] (ai cE):=⟨rfl,rfl,rfl,by decide +kernel,rfl,by decide +kernel,by decide +kernel⟩
theorem Dd{f:Addr}{fd:FuncData} (F:Fun K "_law_whole" "_law_whole" cE f fd) (T:Txt mg):FnOk P w K mg base CX0 1 f fd ["found"] Ep:=by
 refine F.ok sR (fun vs H Q E h=>?_) (fun cdv A outer s H vs Q E hr h=>?_)
 ·obtain⟨i,rfl,_⟩:=h
  rfl
 obtain⟨i,rfl,k⟩:=h
 refine⟨_,(aj (aR (tE (aB yY (by rfl) T.n_isinstance dh (aa (pv 0) (aa (wA (v:=.ty "int") rfl T.n_int pJ rfl) ah))) (yF (pe_not (aB yY (by rfl) T.n_isinstance dh (aa (pv 0) (aa (wA (v:=.ty "bool") rfl T.n_bool Fp rfl) ah)))))))),?_⟩
 refine⟨_,rfl,_,_,_,_,_,rfl,TyOf.int i,Or.inl ⟨_,rfl,rfl⟩,kit_ii K,_,rfl,iteT ?_⟩
 exact⟨_,rfl,_,_,_,_,_,rfl,TyOf.int i,Or.inl ⟨_,rfl,rfl⟩,kit_ib K,_,rfl,k⟩
theorem a9:aD ["built","laying","found","k","end","unlike"] ["built","laying"] (ai bh):=⟨rfl,rfl,rfl,by decide +kernel,rfl,by decide +kernel,by decide +kernel⟩
theorem EO{f:Addr}{fd:FuncData} (F:Fun K "_law_unpleased" "_law_unpleased" bh f fd) (T:Txt mg):FnOk P w K mg base CX0 1 f fd ["built","laying"] yA:=by
 refine F.ok a9 (fun vs H Q E h=>?_) (fun cdv A outer s H vs Q E hr h=>?_)
 ·obtain⟨t,pe,pt,pk,m,es,ts,ks,l,rfl,_⟩:=h
  rfl
 obtain⟨t,pe,pt,pk,m,es,ts,ks,l,rfl,⟨ht,⟨⟨ys,hpe,hE⟩,_,_⟩,⟨ws,hpk,tk⟩,few,kl⟩,kk⟩:=h
 have hyl:ys.length=es.length:=hE.1
 refine⟨_,(ae (ar (i:=2) a9.nd rfl (Or.inl rfl) ag)
   (ae (bP PassesOwn.never rfl (bq rfl T.n_range (aa (aB aq (by rfl) T.n_len bf (aa (ax aE (pv 0) ag (fun _ _=>rfl)) ah)) ah)) (aQ (i:=3) a9.nd rfl (Or.inl rfl)) (ae (ar (i:=4) a9.nd rfl (Or.inl rfl) (ax aG (ax aE (pv 0) ag (fun _ _=>rfl)) (pv 3) (fun _ _=>rfl)))
   (ae (ar (i:=5) a9.nd rfl (Or.inl rfl) (av tJ (av tG (av ph (pv 1) (ax aE (pv 4) ag (fun _ _=>rfl))) (av ph (pv 1) (ax aE (pv 4) ag (fun _ _=>rfl)))) ag))
   (aj (dz (aH oK (pv 5) (ax aE (ax aG (ax aE (pv 0) ag (fun _ _=>rfl)) (pv 3) (fun _ _=>rfl)) ag (fun _ _=>rfl)) (aP _)) (aj (ar (i:=2) a9.nd rfl (Or.inl rfl) (av Bo (pv 2) (av iO ag (pv 3))))) bo)))))
   (aj (aR (pv 2))))),?_⟩
 refine⟨_,rfl,t,_,0,_,rfl,rfl,SqT.of ht,at30,pe,ys,rfl,.inl (SqL.of hpe),_,rfl,by omega,by omega,bJ (n:=(ys.length:Int).toNat) (fun i σ H2=>∃ v3 v4 v5,σ = [some (.ref t),some (.int l),some (.int ((MK (U es ks l) i:Nat):Int)),v3,v4,v5]/\H2=H) ⟨_,_,_,rfl,rfl⟩ ?_ ?_⟩
 ·rintro i σ H2 hi ⟨v3,v4,v5,rfl,rfl⟩
  rw[F1,hyl]at hi
  have e0:(0:Int)+(i:Int)=(i:Int):=GN _
  rw[e0]
  obtain⟨e,he⟩:∃ e,es[i]?=some e:=⟨_,Fu hi⟩
  obtain⟨k,hk⟩:∃ k,ks[i]?=some k:=⟨_,Fu (by omega)⟩
  obtain⟨p,x1,x2⟩:=hE.2 i e he
  obtain⟨k1,k2,pk',y1,y2⟩:=tk.2 i k hk
  refine⟨_,rfl,t,_,0,_,rfl,rfl,SqT.of ht,at30,_,rfl,pe,ys,_,_,rfl,rfl,SqL.of hpe,aI x1,?_⟩
  refine⟨_,rfl,_,rfl,p,_,0,_,rfl,rfl,SqT.of x2,at0,_,_,rfl,rfl,(show(0:Int)<=(e.1:Int) by omega),_,rfl,_,rfl,p,_,1,_,rfl,rfl,SqT.of x2,at1,_,_,rfl,rfl,(show(0:Int)<=(e.2:Int) by omega),_,_,rfl,rfl,_,_,rfl,rfl,?_⟩
  refine⟨_,rfl,_,rfl,t,_,2,_,rfl,rfl,SqT.of ht,at32,_,rfl,pk,ws,_,_,rfl,rfl,SqL.of hpk,aI y1,pk',_,0,_,rfl,rfl,SqT.of y2,at0,rfl,_,rfl,?_⟩
  have hU:(!decide (V.int (Builtin.bitAnd (Builtin.bitXor (l/2^((e.1:Nat):Int).toNat) (l/2^((e.2:Nat):Int).toNat)) 1)=V.int k.1))=U es ks l i:=by
   rw[U_at he hk,Ef]
   unfold unp bit
   rw[k_push k1]
  refine ite2 (fun c=>?_) (fun c=>?_)
  ·have c':U es ks l i=true:=hU.symm.trans c
   refine⟨_,rfl,_,rfl,_,_,rfl,rfl,⟨by omega,by omega,by decide⟩,_,_,rfl,rfl,some (.int (i:Int)),some (.ref p),some (V.int (Builtin.bitAnd (Builtin.bitXor (l/2^((e.1:Nat):Int).toNat) (l/2^((e.2:Nat):Int).toNat)) 1)),?_,rfl⟩
   show[some (V.ref t),some (V.int l),some (V.int (Builtin.bitOr ((MK (U es ks l) i:Nat):Int) (1*2^((i:Nat):Int).toNat))),some (.int (i:Int)),some (.ref p),_] = [some (V.ref t),some (V.int l),some (V.int ((if U es ks l i=true then MK (U es ks l) i|||2^i else MK (U es ks l) i:Nat):Int)),some (.int (i:Int)),some (.ref p),_]
   rw[if_pos c',shlN,orN]
  ·have c':¬ U es ks l i=true:=fun z=>c (hU.trans z)
   refine⟨some (.int (i:Int)),some (.ref p),some (V.int (Builtin.bitAnd (Builtin.bitXor (l/2^((e.1:Nat):Int).toNat) (l/2^((e.2:Nat):Int).toNat)) 1)),?_,rfl⟩
   show[some (V.ref t),some (V.int l),some (V.int ((MK (U es ks l) i:Nat):Int)),some (.int (i:Int)),some (.ref p),_] = [some (V.ref t),some (V.int l),some (V.int ((if U es ks l i=true then MK (U es ks l) i|||2^i else MK (U es ks l) i:Nat):Int)),some (.int (i:Int)),some (.ref p),_]
   rw[if_neg c']
 ·rintro σ H2 ⟨v3,v4,v5,rfl,rfl⟩
  rw[F1,hyl]
  exact⟨_,rfl,kk⟩
theorem mT:aD ["cell","many","mixed"] ["cell","many"] (ai dm):=⟨rfl,rfl,rfl,by decide +kernel,rfl,by decide +kernel,by decide +kernel⟩
theorem Dj{f:Addr}{fd:FuncData} (F:Fun K "_law_mask" "_law_mask" dm f fd):FnOk P w K mg base CX0 1 f fd ["cell","many"] pY:=by
 refine F.ok mT (fun vs H Q E h=>?_) (fun cdv A outer s H vs Q E hr h=>?_)
 ·obtain⟨c,m,rfl,_⟩:=h
  rfl
 obtain⟨c,m,rfl,m40,kk⟩:=h
 have hp:(0:Int)<1*2^((m:Nat):Int).toNat:=by
  rw[shlN]
  have:=Nat.two_pow_pos m
  omega
 refine⟨_,(ae (ar (i:=2) mT.nd rfl (Or.inl rfl) (av dA (av bw (pv 0) (av DW ag ag)) ag))
   (aj (aR (av bw (av tG (pv 2) (av ph (pv 2) ag)) (av iO ag (pv 1)))))),?_⟩
 refine⟨_,rfl,_,_,rfl,rfl,⟨by decide,by decide,by decide⟩,_,_,rfl,rfl,(by show(0:Int)<10^(24:Int).toNat;decide),_,_,rfl,rfl,.inr ⟨by decide,by decide⟩,?_⟩
 refine⟨_,rfl,_,rfl,_,_,rfl,rfl,(by show(0:Int)<=17;decide),_,_,rfl,rfl,_,rfl,_,_,rfl,rfl,⟨by omega,by omega,by decide⟩,_,_,rfl,rfl,hp,?_⟩
 have h0:=GO (Builtin.bitXor (c%10^(24:Int).toNat*2654435761) (c%10^(24:Int).toNat*2654435761/2^(17:Int).toNat)) (Int.ne_of_gt hp)
 have q:=kk (Builtin.bitXor (c%10^(24:Int).toNat*2654435761) (c%10^(24:Int).toNat*2654435761/2^(17:Int).toNat)%(1*2^((m:Nat):Int).toNat)).toNat
 rw[Hb h0]at q
 refine q ?_
 have h1:=GK (Builtin.bitXor (c%10^(24:Int).toNat*2654435761) (c%10^(24:Int).toNat*2654435761/2^(17:Int).toNat)) hp
 rw[shlN]at h0 h1 ⊢
 omega
theorem cj:aD ["built","found","seen","dart","row"] ["built"] (ai bY):=⟨rfl,rfl,rfl,by decide +kernel,rfl,by decide +kernel,by decide +kernel⟩
theorem ok_lrs{f ff:Addr}{fd fdf:FuncData} (F:Fun K "_law_rounds" "_law_rounds" bY f fd) (T:Txt mg) (G_law_round:Cal P w K mg base 3 "_law_round" ["ends","turns","dart"] (mz K) ff fdf):FnOk P w K mg base CX0 4 f fd ["built"] Er:=by
 refine F.ok cj (fun vs H Q E h=>?_) (fun cdv A outer s H vs Q E hr h=>?_)
 ·obtain⟨t,pe,pt,pk,m,es,ts,ks,rfl,_⟩:=h
  rfl
 obtain⟨t,pe,pt,pk,m,es,ts,ks,rfl,bp,kk⟩:=h
 obtain⟨ht,⟨⟨ys,hpe,hE⟩,⟨xs,hpt,hR⟩,g⟩,_,few,kl⟩:=bp
 have pm:=perm g.w
 have hyl:ys.length=es.length:=hE.1
 refine⟨_,(ae (ar (i:=1) cj.nd rfl (Or.inl rfl) (c4 ah))
   (ae (ar (i:=2) cj.nd rfl (Or.inl rfl) (c4 ah))
   (ae (bP PassesOwn.never rfl (bq rfl T.n_range (aa (av dA ag (aB aq (by rfl) T.n_len bf (aa (ax aE (pv 0) ag (fun _ _=>rfl)) ah))) ah)) (aQ (i:=3) cj.nd rfl (Or.inl rfl)) (aj (dz (aH tI (pv 3) (pv 2) (by with_unfolding_all rfl)) (ae (ar (i:=4) cj.nd rfl (Or.inl rfl) (ay G_law_round.ok (hr.mono (by decide)) rfl G_law_round.mg G_law_round.kp G_law_round.bn .nil aT (aa (ax aE (pv 0) ag (fun _ _=>rfl)) (aa (ax aE (pv 0) ag (fun _ _=>rfl)) (aa (pv 3) ah)))))
   (ae (bc (eQ FR PySem.F.slot_list_extend PySem.F.type_list_extend BD (pv 2) (aa (pv 4) ah)))
   (aj (bc (eQ FR F7 F6 br (pv 1) (aa (pv 4) ah)))))) bo)))
   (aj (aR (pv 1)))))),?_⟩
 refine⟨(by show 0<=sizeLine;decide),fun q hq=>⟨(by show 0<=sizeLine;decide),fun sn hsn=>?_⟩⟩
 have s1:=(ao hq (.lst [])).trans (ao hsn (.lst []))
 have hsn0:H sn=none:=by
  cases z:H sn with
  |none=>rfl
  |some o=>rw[ao hq (.lst []) sn o z]at hsn;cases hsn
 have hne:q≠sn:=fun z=>by rw[← z,af]at hsn;cases hsn
 have hN:(2*(ys.length:Int)).toNat=2*es.length:=by omega
 refine⟨_,rfl,t,_,0,_,rfl,rfl,SqT.of (s1 _ _ ht),at30,pe,ys,rfl,.inl (SqL.of (s1 _ _ hpe)),_,_,rfl,rfl,.inl ⟨by decide,by decide⟩,_,rfl,by omega,by omega,bJ (n:=(2*(ys.length:Int)).toNat) (fun i σ H2=>∃ v3 v4 us rs,σ = [some (.ref t),some (.ref q),some (.ref sn),v3,v4]/\Same H H2/\H2 q=some (.lst us)/\H2 sn=some (.lst (rs.flatten.map iV))/\cP (fun p=>p=q∨p=sn) H2 us rs/\aU (fol es ts) (2*es.length) i rs)
  ⟨_,_,[],[],rfl,s1,by rw[ak hne,af],af,⟨rfl,fun i l e=>by simp at e⟩,pf _ _⟩ ?_ ?_⟩
 ·rintro i σ H2 hi ⟨v3,v4,us,rs,rfl,s2,e1,e2,rx,ro⟩
  rw[hN]at hi
  have e0:(0:Int)+(i:Int)=(i:Int):=GN _
  rw[e0]
  have fl:=mK ro
  have rl:=mB ro
  refine⟨_,rfl,_,rfl,sn,_,rfl,.inl (SqL.of e2),rfl,Fg _,_,rfl,?_⟩
  have ein:inV (V.int (i:Int)) (rs.flatten.map iV)=decide (i∈rs.flatten):=DZ i rs.flatten
  refine ite2 (fun c=>?_) (fun c=>?_)
  ·have hni:i∉rs.flatten:=fun z=>by
    have c2:(!inV (V.int (i:Int)) (rs.flatten.map iV))=true:=c
    rw[ein,decide_eq_true z]at c2
    cases c2
   refine⟨_,rfl,t,_,0,_,rfl,rfl,SqT.of (s2 _ _ ht),at30,_,rfl,t,_,1,_,rfl,rfl,SqT.of (s2 _ _ ht),at31,_,rfl,pe,pt,ys,xs,m,es,ts,i,rfl,SqL.of (s2 _ _ hpe),hE.mono s2,SqL.of (s2 _ _ hpt),hR.mono s2,g.w,by omega,hi,fun p r H3 s3 hp0 hp3 pa ri=>?_⟩
   have s23:=s2.trans s3
   have nq:¬ (p=q∨p=sn):=by
    rintro(z | z)
    ·rw[z,e1]at hp0;cases hp0
    ·rw[z,e2]at hp0;cases hp0
   have rl':r.length<=2*es.length:=c5 ri.nd ri.lt
   refine⟨_,rfl,.inl ⟨rfl,_,SqL.of (s3 _ _ e2)⟩,_,rfl,sn,p,_,_,rfl,rfl,s3 _ _ e2,hp3,Gw (au (by rw[FF,FF];omega)),?_⟩
   have a1:(upd H3 sn (.lst (rs.flatten.map iV++r.map iV))) q=some (.lst us):=by rw[ak hne];exact s3 _ _ e1
   refine⟨_,rfl,.inl ⟨rfl,_,SqL.of a1⟩,_,rfl,q,us,_,rfl,rfl,a1,au (by rw[rx.1];omega),?_⟩
   refine⟨_,_,us++[.ref p],rs++[r],rfl,?_,af,?_,?_,ro.put pm hni hi ri pa⟩
   ·exact aM (aM s23 hsn0 _) hq _
   ·rw[ak (fun z=>hne z.symm),af,Gy,F8]
    simp
   ·refine(rx.mono fun b o n z=>?_).snoc nq ?_
    ·rw[ak (fun z=>n (.inl z)),ak (fun z=>n (.inr z))];exact s3 _ _ z
    ·rw[ak (fun z=>nq (.inl z)),ak (fun z=>nq (.inr z))];exact hp3
  ·have hii:i∈rs.flatten:=by
    by_cases z:i∈rs.flatten
    ·exact z
    ·exfalso
     apply c
     show(!inV (V.int (i:Int)) (rs.flatten.map iV))=true
     rw[ein,decide_eq_false z]
     rfl
   exact⟨_,_,us,rs,rfl,s2,e1,e2,rx,ro.skip hii⟩
 ·rintro σ H2 ⟨v3,v4,us,rs,rfl,s2,e1,e2,rx,ro⟩
  rw[hN]at ro
  exact⟨_,rfl,kk q us rs H2 s2 e1 rx.off ro⟩
end
end K8
set_option maxHeartbeats 1000000
namespace K8
open PySem L2
local macro_rules | `(tactic| walk_at "cc") => `(tactic| first | exact ⟨by decide, by decide⟩ | (show (0 : Int) < _; decide) | (show (0 : Int) < _; omega) | (show (0 : Int) ≤ _; omega) | exact ⟨by decide, by decide, by decide⟩ | exact ⟨by omega, by omega, by decide⟩ | exact Or.inl ⟨by decide, by decide⟩ | exact Or.inl ⟨by omega, by omega⟩)
local macro_rules | `(tactic| walk_at "rd") => `(tactic| repeat (first | refine ⟨_, rfl, ?_⟩ | refine ⟨_, _, rfl, rfl, ?_⟩ | refine ⟨rfl, ?_⟩ | (refine ⟨?cc, ?_⟩; (case cc => walk_at "cc"))))
def bt(M t:Nat):Nat:=M/2^t%2
theorem nX(M t:Nat):bt M t=if M.testBit t=true then 1 else 0:=by
 unfold bt
 rw[Ih]
 by_cases z:M/2^t%2=1
 ·rw[z,decide_eq_true rfl,if_pos rfl]
 ·rw[decide_eq_false z,if_neg FV];omega
theorem pJ(M t:Nat):Builtin.bitAnd ((M:Int)/2^((t:Nat):Int).toNat) 1=((bt M t:Nat):Int):=by
 have e:Builtin.bitAnd ((M:Int)/2^((t:Nat):Int).toNat) 1=((M:Int)/2^((t:Nat):Int).toNat)%2:=PySem.W.kbt_mask _ 1
 rw[e,F1]
 unfold bt
 rw[Int.natCast_emod,Int.natCast_ediv,Iy]
 rfl
theorem D6(L a:Nat):bit (L:Int) (a:Int)=((bt L a:Nat):Int):=by
 rw[bitN,nX]
 split<;>rfl
def parR(M:Nat)(r:List Nat):Nat:=sm r (fun d=>bt M (d/2))%2
theorem CU(l:List Nat)(g:Nat->Nat):(l.map fun d=>((g d:Nat):Int)).sum=((sm l g:Nat):Int):=by
 induction l with
 |nil=>rfl
 |cons x l ih=>rw[F9,List.sum_cons,ih,vJ];omega
def bu(ks:Kn)(t:Nat):Bool:=match ks[t]? with | some k=>decide (k.1=1) | none=>false
theorem qu{ks:Kn}{t:Nat}{k:Int×Int}(h:ks[t]?=some k):bu ks t=decide (k.1=1):=by unfold bu;rw[h]
def WebR(PL PS WC:Addr)(H:Hp)(p:Addr)(es:En)(ks:Kn)(rs:List (List Nat)):Prop:=∃ dx fs q1 xs q5 z5,H p=some (.ins WC dx fs)/\fs.lookup ("ties" : Str)=some (.ref q1)/\H q1=some (.lst xs)/\o6 PL PS H xs es ks/\fs.lookup ("rounds" : Str)=some (.ref q5)/\H q5=some (.lst z5)/\bC H z5 rs
theorem WebR.mono{PL PS WC:Addr}{H H':Hp}{p:Addr}{es:En}{ks:Kn}{rs:List (List Nat)}(h:WebR PL PS WC H p es ks rs)(s:Same H H'):WebR PL PS WC H' p es ks rs:=by
 obtain⟨dx,fs,q1,xs,q5,z5,a,b,c,d,e,f,g⟩:=h
 exact⟨dx,fs,q1,xs,q5,z5,s _ _ a,b,s _ _ c,d.mono s,e,s _ _ f,g.mono s⟩
def AO(PL PS WC:Addr):Sp:=fun vs H Q _=>∃(p:Addr)(es:En)(ks:Kn)(rs:List (List Nat)),vs = [.ref p]/\WebR PL PS WC H p es ks rs/\ks.length=es.length/\es.length<=30/\∀ H',Same H H'->Q (.int ((MK (bu ks) es.length:Nat):Int)) H'
def vH(PL PS WC:Addr):Sp:=fun vs H Q _=>∃(p:Addr)(M k:Nat)(es:En)(ks:Kn)(rs:List (List Nat))(r:List Nat),vs = [.ref p,.int (M:Int),.int (k:Int)]/\WebR PL PS WC H p es ks rs/\rs[k]?=some r/\r.length<=900/\∀ H',Same H H'->Q (.int ((parR M r:Nat):Int)) H'
def Eo(K:Fw):Sp:=fun vs H Q _=>∃(M:Nat)(q:Addr)(r:List Nat),vs = [.int (M:Int),.ref q]/\SqL K H q (r.map iV)/\Q (.int ((parR M r:Nat):Int)) H
theorem WebF.r{S:Addr->Prop}{PL PS WC p:Addr}{H:Hp}{m:Nat}{es:En}{ts rs:List (List Nat)}{ks:Kn}(h:WebF S PL PS WC H p m es ts rs ks):WebR PL PS WC H p es ks rs:=by
 obtain⟨dx,fs,q1,xs,a,g,_,b,c,d⟩:=h
 obtain⟨q5,z5,l5,h5,r5⟩:=g.rounds
 exact⟨dx,fs,q1,xs,q5,z5,a,b,c,d,l5,h5,r5⟩
section
variable{P:Program}{w:World}{K:Fw}{mg:Str->Option Value}{base:Heap}
theorem A0:aD ["web"] ["web"] (ai iu):=⟨rfl,rfl,rfl,by decide +kernel,rfl,by decide +kernel,by decide +kernel⟩
theorem EL{f fm PL PS WC f0 f1:Addr}{fd fdm d0 d1:FuncData} (F:Fun K "pushes" "pushes" iu f fd) (T:Txt mg) (cw:CW K WC) (TL:CT K PL) (TS:CT K PS) (G_mask_of:Cal P w K mg base 1 "mask_of" ["places"] (yz K) fm fdm) (u0:Met P w K mg base 1 PL "wish" ["self"] (la false) f0 d0) (u1:Met P w K mg base 1 PS "wish" ["self"] (la true) f1 d1) :
  FnOk P w K mg base CX0 2 f fd ["web"] (AO PL PS WC):=by
 refine F.ok A0 (fun vs H Q E h=>?_) (fun cdv A outer s H vs Q E hr h=>?_)
 ·obtain⟨p,es,ks,rs,rfl,_⟩:=h
  rfl
 obtain⟨p,es,ks,rs,rfl,⟨dx,fs,q1,xs,q5,z5,hp,hlk,hq1,tk,_⟩,kl,few,kk⟩:=h
 have CL0:=TL.cl
 have CL1:=TS.cl
 have hxl:xs.length=es.length:=tk.1
 refine⟨_,(aj (aR (ay G_mask_of.ok (hr.mono (by decide)) rfl G_mask_of.mg G_mask_of.kp G_mask_of.bn .nil aT (aa (yH rfl (fr:=[]) (xs:=["number","tie"]) (su.of (by rfl) (by decide +kernel) (by rfl) (by decide +kernel) (fun p hp=>nomatch hp) (by decide +kernel) (fun p hp=>nomatch hp)) (wu rfl T.n_enumerate (aa (cT (pv 0) rfl) ah)) (fun C ex s H=>(EF (n:=2) (K:=K) rfl rfl (d7 (aQ (i:=0) (show(["number","tie"]:List Str).Nodup from by decide +kernel) rfl (Or.inl rfl)) (d7 (aQ (i:=1) (show(["number","tie"]:List Str).Nodup from by decide +kernel) rfl (Or.inl rfl)) qC)))) (fun C ex s H=>(A8 (aH iW (EG (mD (pv 1) CL0 u0.me u0.ok (hr.mono (by decide)) u0.bn .nil aT) (mD (pv 1) CL1 u1.me u1.ok (hr.mono (by decide)) u1.bn .nil aT)) ag (aP _)))) (fun C ex s H=>(pv 0))) ah)))),?_⟩
 refine⟨_,rfl,p,WC,dx,fs,_,rfl,hp,cw.cl,cw.n2,hlk,q1,rfl,⟨_,SqL.of hq1⟩,Am (K:=K) (xs:=xs) (fun i ys H2=>Same H H2/\ys=(upL (bu ks) i).map iV) (Gw (au (by omega))) ⟨fun _ _ e=>e,rfl⟩ (fun i ys H2 _ z=>SqL.of (z.1 _ _ hq1)) ?_ ?_ ?_⟩
 ·rintro i x ys H2 T2 hx ⟨s2,rfl⟩ hT2
  have hi:i<es.length:=by rw[← tk.1];exact(Fv.mp hx).1
  obtain⟨e,he⟩:∃ e,es[i]?=some e:=⟨_,Fu hi⟩
  obtain⟨k,hk⟩:∃ k,ks[i]?=some k:=⟨_,Fu (by omega)⟩
  have s3:=s2.trans (ao hT2 (.tup [.int (i:Int),x]))
  obtain⟨p',dx',x1,x2⟩:=(tk.mono s3).2 i e k he hk
  rw[hx]at x1
  cases x1
  refine⟨T2,_,rfl,SqT.of af,rfl,_,_,rfl,_,_,rfl,rfl,rfl,?_⟩
  have hU:=qu hk
  have tail:∀ b:Bool,b=bu ks i->(if b=true then tVar 0 ([some (.int (i:Int)),some (.ref p')]:St) (upd H2 T2 (.tup [.int (i:Int),.ref p'])) (fun y H4=>Same H H4/\(upL (bu ks) i).map iV++[y]=(upL (bu ks) (i+1)).map iV) else Same H (upd H2 T2 (.tup [.int (i:Int),.ref p']))/\(upL (bu ks) i).map iV=(upL (bu ks) (i+1)).map iV):=fun b hb=>by
   rw[yv,← hb]
   cases b with
   |true =>
    refine iteT ⟨_,rfl,s3,?_⟩
    rw[if_pos rfl,F8]
    rfl
   |false =>
    refine iteF ⟨s3,?_⟩
    rw[if_neg (by decide)]
  by_cases c:k.1=1
  ·rw[decide_eq_true c]at x2 hU
   refine .inr ⟨_,rfl,p',dx',_,rfl,x2,za _ _ _ (by decide +kernel) (by decide +kernel) (by decide +kernel),p',rfl,rfl,_,rfl,?_⟩
   exact tail _ hU.symm
  ·rw[decide_eq_false c]at x2 hU
   refine .inl ⟨_,rfl,p',dx',_,rfl,x2,za _ _ _ (by decide +kernel) (by decide +kernel) (by decide +kernel),p',rfl,rfl,_,rfl,?_⟩
   exact tail _ hU.symm
 ·rintro ys H2 ⟨s2,rfl⟩ D hD
  rw[hxl]
  refine⟨D,upL (bu ks) es.length,rfl,SqL.of af,fun p hp=>?_,?_⟩
  ·have:=Hz.mp (G5.mp hp).1;omega
  ·rw[w6]
   exact kk _ (s2.trans (ao hD _))
 ·rintro i ys H2 ⟨_,rfl⟩
  rw[FF]
  exact Gs (List.length_filter_le _ _) (by rw[List.length_range];exact FD _)
theorem A3:aD ["web","ties","number"] ["web","ties","number"] (ai iw):=⟨rfl,rfl,rfl,by decide +kernel,rfl,by decide +kernel,by decide +kernel⟩
theorem Di{f PL PS WC:Addr}{fd:FuncData} (F:Fun K "odd_at" "odd_at" iw f fd) (T:Txt mg) (cw:CW K WC):FnOk P w K mg base CX0 1 f fd ["web","ties","number"] (vH PL PS WC):=by
 refine F.ok A3 (fun vs H Q E h=>?_) (fun cdv A outer s H vs Q E hr h=>?_)
 ·obtain⟨p,M,k,es,ks,rs,r,rfl,_⟩:=h
  rfl
 obtain⟨p,M,k,es,ks,rs,r,rfl,⟨dx,fs,q1,xs,q5,z5,hp,_,_,_,l5,hq5,hR⟩,hk,hl,kk⟩:=h
 obtain⟨pr,x1,x2⟩:=hR.2 k r hk
 refine⟨_,(aj (aR (av bw (aB (DG rfl) (by rfl) T.n_sum bt_sum (aa (kh rfl (fr:=[("ties",1)]) (by exact cB.one (by rfl) (by decide +kernel) (by rfl) (by decide +kernel) (by rfl) (by decide +kernel) (by rfl) (by rfl) (by decide +kernel) (by rfl)) (ck (ax aG (cT (pv 0) rfl) (pv 2) (fun _ _=>rfl))) (fun C ex s H=>(av tJ (av ph (pv 1) (av cm (pv 0) ag)) ag))) ah)) ag))),?_⟩
 refine⟨_,rfl,p,WC,dx,fs,_,rfl,hp,cw.cl,cw.n4,l5,_,rfl,q5,z5,_,_,rfl,rfl,SqL.of hq5,aI x1,pr,rfl,⟨_,SqL.of x2⟩,fA (K:=K) (xs:=r.map iV) (fun i ys H2=>Same H H2/\ys=((r.take i).map fun d=>((bt M (d/2):Nat):Int)).map V.int) (Gw (au (by rw[FF];omega))) ⟨fun _ _ e=>e,rfl⟩ (fun i ys H2 _ z=>SqL.of (z.1 _ _ x2)) ?_ ?_⟩
 ·rintro i x ys H2 hx ⟨s2,rfl⟩
  rw[F0]at hx
  obtain⟨d,hd',rfl⟩:=Gd.mp hx
  have ed:(d:Int)/2=((d/2:Nat):Int):=by omega
  refine⟨_,rfl,_,rfl,_,_,rfl,rfl,⟨by decide,by decide⟩,_,_,rfl,rfl,(show(0:Int)<=(d:Int)/2 by omega),_,_,rfl,rfl,s2,?_⟩
  rw[Gn,hd',F8,F8]
  show _++[V.int (Builtin.bitAnd ((M:Int)/2^((d:Int)/2).toNat) 1)]=_++[V.int ((bt M (d/2):Nat):Int)]
  rw[ed,pJ]
 rintro ys H2 _ ⟨s2,rfl⟩ D hD
 rw[FF,Gu]
 refine⟨D,_,rfl,SqL.of af,_,_,rfl,rfl,(by show(0:Int)<2;decide),?_⟩
 have e:(r.map fun d=>((bt M (d/2):Nat):Int)).sum%2=((parR M r:Nat):Int):=by
  rw[CU r fun d=>bt M (d/2)]
  unfold parR
  omega
 show Q (V.int ((r.map fun d=>((bt M (d/2):Nat):Int)).sum%2)) _
 rw[e]
 exact kk _ (s2.trans (ao hD _))
theorem c9:aD ["ties","row","count","dart"] ["ties","row"] (ai bZ):=⟨rfl,rfl,rfl,by decide +kernel,rfl,by decide +kernel,by decide +kernel⟩
theorem ER{f:Addr}{fd:FuncData} (F:Fun K "_law_parity" "_law_parity" bZ f fd) (T:Txt mg):FnOk P w K mg base CX0 1 f fd ["ties","row"] (Eo K):=by
 refine F.ok c9 (fun vs H Q E h=>?_) (fun cdv A outer s H vs Q E hr h=>?_)
 ·obtain⟨M,q,r,rfl,_⟩:=h
  rfl
 obtain⟨M,q,r,rfl,hq,kk⟩:=h
 refine⟨_,(ae (ar (i:=2) c9.nd rfl (Or.inl rfl) ag)
   (ae (bP PassesOwn.never rfl (ck (pv 1)) (aQ (i:=3) c9.nd rfl (Or.inl rfl)) (aj (ar (i:=2) c9.nd rfl (Or.inl rfl) (av dD (pv 2) (av tJ (av ph (pv 0) (av cm (pv 3) ag)) ag)))))
   (aj (aR (av bw (pv 2) ag))))),?_⟩
 refine⟨_,rfl,q,rfl,⟨_,hq⟩,eB (K:=K) (xs:=r.map iV) (fun i σ H2=>∃ v3,σ = [some (.int (M:Int)),some (.ref q),some (.int ((sm (r.take i) (fun d=>bt M (d/2)):Nat):Int)),v3]/\H2=H) ⟨_,rfl,rfl⟩ (fun i σ H2 _ ⟨_,_,z⟩=>by rw[z];exact hq) ?_ ?_⟩
 ·rintro i x σ H2 hx ⟨v3,rfl,rfl⟩
  rw[F0]at hx
  obtain⟨d,hd',rfl⟩:=Gd.mp hx
  have ed:(d:Int)/2=((d/2:Nat):Int):=by omega
  refine⟨_,rfl,_,rfl,_,rfl,_,_,rfl,rfl,⟨by decide,by decide⟩,_,_,rfl,rfl,(show(0:Int)<=(d:Int)/2 by omega),_,_,rfl,rfl,_,_,rfl,rfl,?_⟩
  refine⟨some (iV d),?_,rfl⟩
  show[some (V.int (M:Int)),some (V.ref q),some (V.int (((sm (r.take i) (fun d=>bt M (d/2)):Nat):Int)+Builtin.bitAnd ((M:Int)/2^((d:Int)/2).toNat) 1)),some (iV d)] = [some (V.int (M:Int)),some (V.ref q),some (V.int ((sm (r.take (i+1)) (fun d=>bt M (d/2)):Nat):Int)),some (iV d)]
  rw[ed,pJ,Gn,hd',AV]
  have e:sm (some d).toList (fun d=>bt M (d/2))=bt M (d/2):=by
   show sm [d] (fun d=>bt M (d/2))=_
   rw[vJ,sm_nil];omega
  rw[e]
  rfl
 ·rintro σ H2 ⟨v3,rfl,rfl⟩
  rw[FF,Gu]
  refine⟨_,rfl,_,_,rfl,rfl,(by show(0:Int)<2;decide),?_⟩
  exact kk
theorem shlK{k:Int}(h:k=0∨k=1)(i:Nat):k*2^((i:Nat):Int).toNat=(((if k=1 then 2^i else 0:Nat)):Int):=by
 rcases h with z | z
 ·subst z
  rw[Int.zero_mul]
  rfl
 ·subst z
  rw[shlN]
  rfl
theorem MK_put{u:Nat->Bool}{k:Int}{i:Nat}(h:k=0∨k=1)(hu:u i=decide (k=1)):Builtin.bitOr ((MK u i:Nat):Int) (k*2^((i:Nat):Int).toNat)=((MK u (i+1):Nat):Int):=by
 rw[shlK h,orN]
 show _=(((if u i=true then MK u i|||2^i else MK u i:Nat)):Int)
 rw[hu]
 by_cases c:k=1
 ·rw[if_pos c,decide_eq_true c,if_pos rfl]
 ·rw[if_neg c,decide_eq_false c,if_neg FV,Nat.or_zero]
end
end K8
set_option maxHeartbeats 1000000
namespace K8
open PySem L2
local macro_rules | `(tactic| walk_at "cc") => `(tactic| first | exact ⟨by decide, by decide⟩ | (show (0 : Int) < _; decide) | (show (0 : Int) < _; omega) | (show (0 : Int) ≤ _; omega) | exact ⟨by decide, by decide, by decide⟩ | exact ⟨by omega, by omega, by decide⟩ | exact Or.inl ⟨by decide, by decide⟩ | exact Or.inl ⟨by omega, by omega⟩)
local macro_rules | `(tactic| walk_at "rd") => `(tactic| repeat (first | refine ⟨_, rfl, ?_⟩ | refine ⟨_, _, rfl, rfl, ?_⟩ | refine ⟨rfl, ?_⟩ | (refine ⟨?cc, ?_⟩; (case cc => walk_at "cc"))))
def spEI(K:Fw)(fI:Addr):Sp:=fun vs H Q _=>∃(x C:Addr)(v:V),vs = [.ref x,v]/\H x=some (excN x C none)/\ErS K C fI "at"/\∀ d,H d=none->d≠x->Q .non (upd (upd H x (excN x C (some d))) d (.xd [("at",v)]))
structure OwnI(P:Program)(w:World)(K:Fw)(mg:Str->Option Value)(base:Heap)(n:Str)(C fI:Addr)(fd:FuncData):Prop where
 er:ErS K C fI "at"
 fn:GU K (.ref fI)=true
 ok:FnOk P w K mg base CX0 1 fI fd ["self","at"] (spEI K fI)
 bn:gz K fd ["self","at"] []
 mg:mg n=some (.ref C)
def so(rs:List (List Nat))(S M k:Nat):Prop:=(∃ r,rs[k]?=some r/\parR S r≠parR M r)/\∀ j r,j<k->rs[j]?=some r->parR S r=parR M r
def vw(rs:List (List Nat))(S M:Nat):Prop:=∀(k:Nat)(r:List Nat),rs[k]?=some r->parR S r=parR M r
theorem Bv{rs:List (List Nat)}{S M k k':Nat}(h:so rs S M k)(h':so rs S M k'):k=k':=by
 rcases Nat.lt_trichotomy k k' with z | z | z
 ·obtain⟨r,a,b⟩:=h.1
  exact absurd (h'.2 k r z a) b
 ·exact z
 ·obtain⟨r,a,b⟩:=h'.1
  exact absurd (h.2 k' r z a) b
def spRT(PL PS WC NL:Addr):Sp:=fun vs H Q E=>∃(p:Addr)(S:Nat)(es:En)(ks:Kn)(rs:List (List Nat)),vs = [.ref p,.int (S:Int)]/\WebR PL PS WC H p es ks rs/\ks.length=es.length/\es.length<=30/\rs.length<=70/\(∀ r∈rs,r.length<=900) /\
 (∀ k,so rs S (MK (bu ks) es.length) k->∀ d H',Same H H'->H' d=some (.xd [("at",.int (k:Int))])->E (.ref NL) (some d) H')/\(vw rs S (MK (bu ks) es.length)->∀ H',Same H H'->Q .non H')
structure LayS(m:Nat)(es:En)(ks:Kn)(S L:Nat):Prop where
 lt:L<2^m
 up:L.testBit 0=false
 un:∀(t:Nat)(e:Nat×Nat),es[t]?=some e->S.testBit t=(L.testBit e.1 ^^ L.testBit e.2 ^^ bu ks t)
def spLO(PL PS WC NL:Addr):Sp:=fun vs H Q E=>∃(p:Addr)(S m:Nat)(es:En)(ts:List (List Nat))(ks:Kn)(rs:List (List Nat)),vs = [.ref p,.int (S:Int)]/\WebT PL PS WC H p m es ts ks/\WebR PL PS WC H p es ks rs/\Gr m es ts/\aU (fol es ts) (2*es.length) (2*es.length) rs/\ks.length=es.length/\0<m/\m<=40/\es.length<=30/\(∀ k∈ks,k.1=0∨k.1=1) /\
 (∀ k,so rs S (MK (bu ks) es.length) k->∀ d H',Same H H'->H' d=some (.xd [("at",.int (k:Int))])->E (.ref NL) (some d) H')/\(vw rs S (MK (bu ks) es.length)->∀ L H',Same H H'->LayS m es ks S L->Q (.int (L:Int)) H')
theorem Bm(S:Nat):∀ r:List Nat,par (fun t=>S.testBit t) r=decide (parR S r=1)
 |[]=>rfl
 |d::r=>by
  have ih:=Bm S r
  rw[aF,ih]
  unfold parR
  rw[vJ,nX]
  cases S.testBit (d/2) with
  |true =>
   rw[if_pos rfl,Bool.true_xor]
   by_cases c:sm r (fun d=>bt S (d/2))%2=1
   ·rw[decide_eq_true c,decide_eq_false (by omega)];rfl
   ·rw[decide_eq_false c,decide_eq_true (by omega)];rfl
  |false =>
   rw[if_neg FV,IG,Nat.zero_add]
theorem Bl(A B:Nat->Bool):∀ r:List Nat,par (fun t=>A t ^^ B t) r=(par A r ^^ par B r)
 |[]=>rfl
 |d::r=>by
  rw[aF,aF,aF,Bl A B r]
  cases A (d/2)<;>cases B (d/2)<;>cases par A r<;>cases par B r<;>rfl
theorem DV{A B:Nat->Bool}:∀{r:List Nat},(∀ d∈r,A (d/2)=B (d/2))->par A r=par B r
 |[],_=>rfl
 |d::r,h=>by rw[aF,aF,h d (FP ..),DV fun x hx=>h x (FK _ hx)]
theorem CZ{m:Nat}{es:En}{ts:List (List Nat)}{ks:Kn}{rs:List (List Nat)}{S:Nat}(g:Gr m es ts)(ro:aU (fol es ts) (2*es.length) (2*es.length) rs)(ev:vw rs S (MK (bu ks) es.length)):∃ Pl:Nat->Bool,Pl 0=false/\CM es (fun t=>S.testBit t ^^ bu ks t) Pl:=by
 obtain⟨Pl,h⟩:=g.cut (fun t=>S.testBit t ^^ bu ks t) fun r hr=>by
  obtain⟨d,hd⟩:=hr.ne
  obtain⟨q,q1,q2⟩:=Gi.mp (ro.all d (hr.lt d hd))
  have cq:=(ro.ring q q1).cr
  have pm:r.Perm q:=(G7 hr.nd cq.nd).mpr fun t=>⟨hr.same cq hd q2 t,cq.same hr q2 hd t⟩
  rw[qG _ pm,Bl]
  have e1:par (bu ks) q=par (fun t=>(MK (bu ks) es.length).testBit t) q:=DV fun x hx=>by
   have:=cq.lt x hx
   rw[y4,decide_eq_true (by omega),HF]
  obtain⟨k,hk⟩:=HS q1
  rw[e1,Bm,Bm,ev k q hk]
  exact Bool.xor_self _
 refine⟨fun p=>Pl p ^^ Pl 0,Bool.xor_self _,fun t e he=>?_⟩
 rw[h t e he]
 show _=((Pl e.1 ^^ Pl 0) ^^ (Pl e.2 ^^ Pl 0))
 cases Pl e.1<;>cases Pl e.2<;>cases Pl 0<;>rfl
theorem yP{x y:Nat}(h:(Sum.inl (x:Int):Key)=Sum.inl (y:Int)):x=y:=by
 have:=Sum.inl.inj h
 omega
def sI(b:Bool):Int:=if b=true then 1 else 0
def kvS(Pl:Nat->Bool)(ps:List Nat):List (Key×V):=ps.map fun(p:Nat)=>((.inl ((p:Nat):Int):Key),V.int (sI (Pl p)))
theorem uk{Pl:Nat->Bool}{ps:List Nat}{p:Nat}(nd:ps.Nodup)(h:p∈ps):valV (kvS Pl ps) (.inl (p:Int))=some (.int (sI (Pl p))):=by
 induction ps with
 |nil=>cases h
 |cons x r ih =>
  rw[FT]at nd
  show valV (((.inl (x:Int):Key),V.int (sI (Pl x)))::kvS Pl r) _=_
  rcases FC.mp h with e | h
  ·subst e;exact bQ rfl
  ·have ne:¬ (Sum.inl (x:Int):Key)=Sum.inl (p:Int):=fun z=>nd.1 (by rw[yP z];exact h)
   rw[bL ne]
   exact ih nd.2 h
theorem BN{Pl:Nat->Bool}{ps:List Nat}{p:Nat}(h:p∉ps):valV (kvS Pl ps) (.inl (p:Int))=none:=by
 induction ps with
 |nil=>rfl
 |cons x r ih =>
  show valV (((.inl (x:Int):Key),V.int (sI (Pl x)))::kvS Pl r) _=_
  have ne:¬ (Sum.inl (x:Int):Key)=Sum.inl (p:Int):=fun z=>h (by rw[← yP z];exact FP ..)
  rw[bL ne]
  exact ih fun z=>h (FK _ z)
theorem BM{Pl:Nat->Bool}{ps:List Nat}{p:Nat}(h:p∉ps):putK (kvS Pl ps) (.inl (p:Int)) (.int (sI (Pl p)))=kvS Pl (ps++[p]):=by
 rw[C2 _ (BN h)]
 unfold kvS
 rw[F8]
 rfl
def oth(e:Nat×Nat)(p:Nat):Nat:=if p=e.1 then e.2 else e.1
structure Met'(m:Nat)(es:En)(ps wl:List Nat)(x:Nat)(rw':List Nat):Prop where
 nd:ps.Nodup
 lt:∀ p∈ps,p<m
 z:0∈ps
 wn:∀ p∈wl,p∈ps
 cl:∀ p∈ps,p∉wl->∀(t:Nat)(e:Nat×Nat),es[t]?=some e->(e.1=p∨e.2=p)->oth e p∈ps∨(p=x/\t∈rw')
theorem BB{H H':Hp}(s:Same H H'){b:Addr}(h:H' b=none):H b=none:=by
 cases z:H b with
 |none=>rfl
 |some u=>rw[s _ _ z]at h;cases h
theorem ub(x:Nat):∀(n:Nat)(ps:List Nat),ps.length=n->(m6 ps).testBit x=decide (x∈ps)
 |0,ps,h=>by
  rw[IL.mp h]
  show(0:Nat).testBit x=_
  rw[HH]
  rfl
 |n+1,ps,h=>by
  have ne:ps≠[]:=fun e=>by rw[e]at h;cases h
  have eq:ps.dropLast++[ps.getLast ne]=ps:=Io ne
  have hl:ps.dropLast.length=n:=by rw[List.length_dropLast,h];rfl
  rw[← eq,kn,Hl,ub x n _ hl,Ht]
  generalize ps.dropLast=r
  generalize ps.getLast ne=q
  by_cases a:x∈r
  ·rw[decide_eq_true a,decide_eq_true (F3 _ a),Bool.true_or]
  ·rw[decide_eq_false a,Bool.false_or]
   by_cases b:q=x
   ·rw[decide_eq_true b,decide_eq_true (by rw[b];simp)]
   ·rw[decide_eq_false b,decide_eq_false (by simp only[FG,GB];exact fun z=>z.elim a fun y=>b y.symm)]
theorem Al{o:Obj}{kvs:List (Key×V)}{d:Addr}{g:TG}{tt:L2.TT}{te:TE}{n:Nat}{fv:St}{H1:Hp}{QQ:List V->Hp->Prop}(Pv:Nat->List V->Hp->Prop)(hz:kvs.length<=sizeLine)(h0:Pv 0 [] H1)(hl:∀ i ys H,i<=kvs.length->Pv i ys H->H d=some (.frz o (.dK kvs)))
  (hs:∀ i k y ys H,kvs[i]?=some (k,y)->Pv i ys H->g (kV k) (G1 n none++fv) H fun σ2 H2=>σ2.drop n=fv/\tt σ2 H2 fun b H3=>if b=true then te σ2 H3 (fun y H4=>Pv (i+1) (ys++[y]) H4) else Pv (i+1) ys H3) (hd:∀ ys H,Pv kvs.length ys H->QQ ys H) (hy:∀ i ys H,Pv i ys H->ys.length<=i)
  : yw g tt te n fv (Itk o kvs d) H1 QQ:=by
 refine⟨fun i m ys H=>m=kvs.length-i/\i<=kvs.length/\Pv i ys H,⟨kvs.length,by simp,GJ _,h0⟩,?_⟩
 rintro i m ys H ⟨rfl,hi,p⟩
 have q:=hl i ys H hi p
 have hyl:=hy i ys H p
 refine⟨by omega,?_⟩
 by_cases hlt:i<kvs.length
 ·refine .inr ⟨⟨q,hlt⟩,fun zs H2=>Pv (i+1) zs H2,fun zs H2 p2=>⟨kvs.length-(i+1),by omega,rfl,hlt,p2⟩,fun x H' y=>?_⟩
  obtain⟨k,y,e1,rfl,rfl⟩:=y
  exact hs i k y ys _ e1 p
 ·have e:i=kvs.length:=by omega
  subst e
  exact .inl ⟨⟨q,FD _⟩,hd ys H p⟩
theorem xor3(a b c:Bool):Builtin.bitXor (Builtin.bitXor (sI a) (if b=true then 1 else 0)) (sI c)=sI (a ^^ b ^^ c):=by cases a<;>cases b<;>cases c<;>decide
theorem bt_sI(S t:Nat):Builtin.bitAnd ((S:Int)/2^((t:Nat):Int).toNat) 1=sI (S.testBit t):=by
 rw[pJ,nX]
 unfold sI
 split<;>rfl
theorem BC{ps:List Nat}{m:Nat}(nd:ps.Nodup)(h:∀ p∈ps,p<m):ps.length<=m:=c5 nd h
theorem E5{m:Nat}{es:En}{ts:List (List Nat)}{ks:Kn}{S:Nat}{Pl:Nat->Bool}{ps:List Nat}(g:Gr m es ts)(m0:0<m)(h0:Pl 0=false)(cb:CM es (fun t=>S.testBit t ^^ bu ks t) Pl)(mt:Met' m es ps [] 0 []):LayS m es ks S (m6 (ps.filter Pl)):=by
 have all:∀ q,q<m->q∈ps:=fun q hq=>by
  refine g.conn (fun p=>p∈ps) (fun e he=>?_) 0 q m0 hq mt.z
  obtain⟨t,ht⟩:=HS he
  have ne:=(g.w.ends e he).2.2
  constructor
  ·intro h
   rcases mt.cl e.1 h (by simp) t e ht (.inl rfl)with z | z
   ·unfold oth at z;rw[if_pos rfl]at z;exact z
   ·cases z.2
  ·intro h
   rcases mt.cl e.2 h (by simp) t e ht (.inr rfl)with z | z
   ·unfold oth at z;rw[if_neg (Ne.symm ne)]at z;exact z
   ·cases z.2
 have bit:∀ q,(m6 (ps.filter Pl)).testBit q=(decide (q<m)&&Pl q):=fun q=>by
  rw[ub q _ _ rfl]
  by_cases c:q<m
  ·rw[decide_eq_true c,HF]
   cases hp:Pl q with
   |true=>exact decide_eq_true (G5.mpr ⟨all q c,hp⟩)
   |false=>exact decide_eq_false fun z=>by rw[(G5.mp z).2]at hp;cases hp
  ·rw[decide_eq_false c,Hm]
   exact decide_eq_false fun z=>c (mt.lt q (G5.mp z).1)
 refine⟨IC _ fun x hx=>?_,by rw[bit,h0,Bool.and_false],fun t e he=>?_⟩
 ·rw[bit,decide_eq_false (by omega)];rfl
 ·obtain⟨b1,b2,_⟩:=g.w.ends e (Fx he)
  have this:(S.testBit t ^^ bu ks t)=(Pl e.1 ^^ Pl e.2):=cb t e he
  rw[bit,bit,decide_eq_true b1,decide_eq_true b2,HF,HF,← this]
  cases S.testBit t<;>cases bu ks t<;>rfl
theorem own_at{K:Fw}{C fI:Addr} (er:ErS K C fI "at") {n:Int} {H:Hp} {W:Option Addr->Hp->Prop} (hW:∀ d H',Same H H'->H' d=some (.xd [("at",.int n)])->W (some d) H') (x:Addr) (hx:H x=none):spEI K fI [.ref x,.int n] (upd H x (excN x C none)) (fun v H2=>v=.non/\∃ d,H2 x=some (excN x C d)/\W d (del H2 x)) E0:=by
 refine⟨x,C,.int n,rfl,af,er,fun d hd ne=>⟨rfl,some d,?_,hW d _ (fun b u q=>?_) ?_⟩⟩
 ·rw[ak (Ne.symm ne),af]
 ·have bx:b≠x:=aA q hx
  have bd:b≠d:=fun z=>by
   rw[ak ne]at hd
   rw[z,hd]at q
   cases q
  rw[jU bx,ak bd,ak bx,ak bx]
  exact q
 ·rw[jU ne,af]
def jA(C:Addr):Sp:=fun vs H Q _=>∃ p a b s x,vs = [.ref p,.int x]/\TieAt H p C a b s/\Q (.int (if x=a then b else a)) H
theorem Met'.old{m:Nat}{es:En}{ps wl:List Nat}{x t:Nat}{e:Nat×Nat}{A B:List Nat}(h:Met' m es ps wl x A)(hin:oth e x∈ps)(he:es[t]?=some e)(hA:A=t::B):Met' m es ps wl x B:=by
 refine⟨h.nd,h.lt,h.z,h.wn,fun y hy ny t' e' he' hy2=>?_⟩
 rcases h.cl y hy ny t' e' he' hy2 with z | ⟨z,z2⟩
 ·exact .inl z
 ·subst z
  rw[hA]at z2
  rcases FC.mp z2 with y3 | y3
  ·subst y3
   rw[he]at he'
   cases he'
   exact .inl hin
  ·exact .inr ⟨rfl,y3⟩
theorem Met'.new{m:Nat}{es:En}{ps wl:List Nat}{x t:Nat}{e:Nat×Nat}{A B:List Nat}(h:Met' m es ps wl x A)(hin:oth e x∉ps)(om:oth e x<m)(he:es[t]?=some e)(hA:A=t::B):Met' m es (ps++[oth e x]) (wl++[oth e x]) x B:=by
 have ap:∀ y,y∈ps->y∈ps++[oth e x]:=fun y hy=>F3 _ hy
 refine⟨FY.mpr ⟨h.nd,by simp,fun a ha b hb z=>hin (by rw[← GB.mp hb,← z];exact ha)⟩,fun y hy=>?_,ap _ h.z,fun y hy=>?_,fun y hy ny t' e' he' hy2=>?_⟩
 ·rcases FG.mp hy with z | z
  ·exact h.lt y z
  ·rw[GB.mp z];exact om
 ·rcases FG.mp hy with z | z
  ·exact ap y (h.wn y z)
  ·exact FN _ z
 ·rcases FG.mp hy with z | z
  ·rcases h.cl y z (fun q=>ny (F3 _ q)) t' e' he' hy2 with z | ⟨z,z2⟩
   ·exact .inl (ap _ z)
   ·subst z
    rw[hA]at z2
    rcases FC.mp z2 with y3 | y3
    ·subst y3
     rw[he]at he'
     cases he'
     exact .inl (FN _ (by simp))
    ·exact .inr ⟨rfl,y3⟩
  ·exact absurd (FN _ z) ny
section
variable{P:Program}{w:World}{K:Fw}{mg:Str->Option Value}{base:Heap}
theorem jD:aD ["self","at"] ["self","at"] (ai aW):=⟨rfl,rfl,rfl,by decide +kernel,rfl,by decide +kernel,by decide +kernel⟩
theorem ok_nli{f:Addr}{fd:FuncData} (F:Fun K "__init__" "NoLaying.__init__" aW f fd):FnOk P w K mg base CX0 1 f fd ["self","at"] (spEI K f):=by
 refine F.ok jD (fun vs H Q E h=>?_) (fun cdv A outer s H vs Q E hr h=>?_)
 ·obtain⟨x,C,v,rfl,_⟩:=h
  rfl
 obtain⟨x,C,v,rfl,hx,es,kk⟩:=h
 refine⟨_,(aj (EB (fI:=f) rfl (pv 0) (pv 1) rfl)),?_⟩
 exact⟨_,rfl,_,rfl,x,C,rfl,hx,es,kk⟩
theorem eP:aD ["web","ties","pushing","number"] ["web","ties"] (ai bM):=⟨rfl,rfl,rfl,by decide +kernel,rfl,by decide +kernel,by decide +kernel⟩
theorem ok_rt{f f1 f2 g2 PL PS WC NL:Addr}{fd d1 d2 e2:FuncData} (F:Fun K "refuse_ties" "refuse_ties" bM f fd) (T:Txt mg) (cw:CW K WC) (S_NoLaying:OwnI P w K mg base "NoLaying" NL g2 e2) (G_pushes:Cal P w K mg base 2 "pushes" ["web"] (AO PL PS WC) f1 d1) (G_odd_at:Cal P w K mg base 1 "odd_at" ["web","ties","number"] (vH PL PS WC) f2 d2):FnOk P w K mg base (CXd P w) 3 f fd ["web","ties"] (spRT PL PS WC NL):=by
 refine F.okD eP (fun vs H Q E h=>?_) (fun cdv A outer s H vs Q E hr h=>?_)
 ·obtain⟨p,S,es,ks,rs,rfl,_⟩:=h
  rfl
 obtain⟨p,S,es,ks,rs,rfl,wb,kl,few,h70,h900,kx,kk⟩:=h
 refine⟨_,(ae (ar (i:=2) eP.nd rfl (Or.inl rfl) (ay G_pushes.ok (hr.mono (by decide)) rfl G_pushes.mg G_pushes.kp G_pushes.bn .nil aT (aa (pv 0) ah)))
   (aj (bP PassesOwn.leaving rfl (bq rfl T.n_range (aa (aB aq (by rfl) T.n_len bf (aa (cT (pv 0) rfl) ah)) ah)) (aQ (i:=3) eP.nd rfl (Or.inl rfl)) (aj (dz (aH oK (ay G_odd_at.ok (hr.mono (by decide)) rfl G_odd_at.mg G_odd_at.kp G_odd_at.bn .nil aT (aa (pv 0) (aa (pv 1) (aa (pv 3) ah)))) (ay G_odd_at.ok (hr.mono (by decide)) rfl G_odd_at.mg G_odd_at.kp G_odd_at.bn .nil aT (aa (pv 0) (aa (pv 2) (aa (pv 3) ah)))) (aP _)) (aj (A9 S_NoLaying.er S_NoLaying.fn S_NoLaying.ok S_NoLaying.bn (hr.mono (by decide)) S_NoLaying.mg rfl AG rfl rfl (aa (pv 3) ah))) bo))))),?_⟩
 refine⟨_,rfl,p,es,ks,rs,rfl,wb,kl,few,fun H1 s1=>?_⟩
 have wb1:=wb.mono s1
 obtain⟨dx,fs,q1,xs,q5,z5,hp,_,_,_,l5,hq5,hR⟩:=id wb1
 have hzl:z5.length=rs.length:=hR.1
 generalize hM:MK (bu ks) es.length=M at *
 refine⟨_,rfl,p,WC,dx,fs,_,rfl,hp,cw.cl,cw.n4,l5,q5,z5,rfl,.inl (SqL.of hq5),_,rfl,by omega,by omega,bJ (n:=(z5.length:Int).toNat) (fun i σ H2=>∃ v3,σ = [some (.ref p),some (.int (S:Int)),some (.int (M:Int)),v3]/\Same H1 H2/\∀ j r,j<i->rs[j]?=some r->parR S r=parR M r) ⟨_,rfl,fun _ _ e=>e,fun j r h=>absurd h (G3 _)⟩ ?_ ?_⟩
 ·rintro i σ H2 hi ⟨v3,rfl,s2,al⟩
  have e0:(0:Int)+(i:Int)=(i:Int):=GN _
  rw[e0]
  obtain⟨r,hr'⟩:∃ r,rs[i]?=some r:=⟨_,Fu (by omega)⟩
  refine⟨_,rfl,_,rfl,_,rfl,p,S,i,es,ks,rs,r,rfl,wb1.mono s2,hr',h900 r (Fx hr'),fun H3 s3=>?_⟩
  refine⟨_,rfl,_,rfl,_,rfl,p,M,i,es,ks,rs,r,rfl,wb1.mono (s2.trans s3),hr',h900 r (Fx hr'),fun H4 s4=>?_⟩
  have s24:=(s2.trans s3).trans s4
  refine⟨rfl,_,rfl,ite2 (fun c=>?_) (fun c=>?_)⟩
  ·have c':parR S r≠parR M r:=fun z=>by rw[z,decide_eq_true rfl]at c;cases c
   refine⟨_,rfl,(by decide:(1:Nat)<=sizeLine),fun x hx=>own_at S_NoLaying.er (W:=fun d H'=>E (.ref NL) d H') (fun d H' s' hd=>kx i ⟨⟨r,hr',c'⟩,al⟩ d H' ((s1.trans s24).trans s') hd) x hx⟩
  ·have c':parR S r=parR M r:=by
    by_cases z:parR S r=parR M r
    ·exact z
    ·exact absurd (by rw[decide_eq_false (fun y=>z (by have:=V.int.inj y;omega))];rfl) c
   refine⟨_,rfl,s24,fun j r2 hj hr2=>?_⟩
   by_cases e:j=i
   ·subst e
    rw[hr']at hr2
    cases hr2
    exact c'
   ·exact al j r2 (by omega) hr2
 ·rintro σ H2 ⟨v3,rfl,s2,al⟩
  rw[F1,hzl]at al
  exact kk (fun k r hk=>al k r (Fv.mp hk).1 hk) _ (s1.trans s2)
theorem qm:aD ["self","place"] ["self","place"] (ai b6):=⟨rfl,rfl,rfl,by decide +kernel,rfl,by decide +kernel,by decide +kernel⟩
theorem tK{f C:Addr}{fd:FuncData} (F:Fun K "across" "Tie.across" b6 f fd) (T:CT K C):FnOk P w K mg base CX0 1 f fd ["self","place"] (jA C):=by
 refine F.ok qm (fun vs H Q E h=>?_) (fun cdv A outer s H vs Q E hr h=>?_)
 ·obtain⟨p,a,b,s,x,rfl,_⟩:=h
  rfl
 obtain⟨p,a,b,st,x,rfl,⟨dx,hp⟩,k⟩:=h
 refine⟨_,(aj (aR (qD (aH iW (pv 1) (cT (pv 0) rfl) (aP _)) (cT (pv 0) rfl) (cT (pv 0) rfl)))),?_⟩
 refine⟨_,rfl,_,rfl,p,C,dx,_,_,rfl,hp,T.cl,T.n1,k9 _ _ _,rfl,_,rfl,?_⟩
 refine ite2 (fun c=>?_) (fun c=>?_)
 ·refine⟨_,rfl,p,C,dx,_,_,rfl,hp,T.cl,T.n2,sA _ _ _,?_⟩
  rw[if_pos (V.int.inj (of_decide_eq_true c))]at k
  exact k
 ·refine⟨_,rfl,p,C,dx,_,_,rfl,hp,T.cl,T.n1,k9 _ _ _,?_⟩
  rw[if_neg (fun z=>c (decide_eq_true (by rw[z])))]at k
  exact k
theorem bG:aD ["web","ties","signs","waiting","place","number","tie","there"] ["web","ties"] (ai cD):=⟨rfl,rfl,rfl,by decide +kernel,rfl,by decide +kernel,by decide +kernel⟩
theorem ok_lo{f f1 f2 f0' f1' g0 g1 PL PS WC NL:Addr}{fd d1 d2 d0' d1' e0' e1':FuncData} (F:Fun K "laying_of" "laying_of" cD f fd) (T:Txt mg) (cw:CW K WC) (TL:CT K PL) (TS:CT K PS) (G_refuse_ties:CalD P w K mg base 3 "refuse_ties" ["web","ties"] (spRT PL PS WC NL) f1 d1) (G_mask_of:Cal P w K mg base 1 "mask_of" ["places"] (yz K) f2 d2)
  (a0:Met P w K mg base 1 PL "across" ["self","place"] (jA PL) f0' d0') (a1:Met P w K mg base 1 PS "across" ["self","place"] (jA PS) f1' d1') (u0:Met P w K mg base 1 PL "wish" ["self"] (la false) g0 e0') (u1:Met P w K mg base 1 PS "wish" ["self"] (la true) g1 e1'):FnOk P w K mg base (CXd P w) 4 f fd ["web","ties"] (spLO PL PS WC NL):=by
 refine F.okD bG (fun vs H Q E h=>?_) (fun cdv A outer s H vs Q E hr h=>?_)
 ·obtain⟨p,S,m,es,ts,ks,rs,rfl,_⟩:=h
  rfl
 obtain⟨p,S,m,es,ts,ks,rs,rfl,wt,wr,g,ro,kl,m0,m40,few,kin,kx,kk⟩:=h
 have hu:=Fd hr
 have hu64:=hr.units
 have CL0:=TL.cl
 have CL1:=TS.cl
 have mf:=lj g
 have rlen:=mB ro
 have r900:∀ r∈rs,r.length<=900:=fun r hr=>by
  have:=c5 (ro.ring r hr).nd (ro.ring r hr).lt
  omega
 obtain⟨dx,fs,q1,xs,q3,z3,hp,lm,l1,h1,tk,l3,h3,rw3⟩:=id wt
 refine⟨_,(ae (bc (C5 G_refuse_ties.ok (hr.mono (by decide)) rfl G_refuse_ties.mg G_refuse_ties.kp G_refuse_ties.bn .nil AG rfl (aa (pv 0) (aa (pv 1) ah))))
   (ae (ar (i:=2) bG.nd rfl (Or.inr rfl) (EJ (C3 ag ag EC) rfl rfl (fun z=>by cases z) (by decide)))
   (ae (ar (i:=3) bG.nd rfl (Or.inl rfl) (c4 (aa ag ah)))
   (ae (mC PassesOwn.leaving (aH (op_neG hu64) (pv 3) (c4 ah) (aP _)) (ae (ar (i:=4) bG.nd rfl (Or.inl rfl) (pe_bm0 FR PySem.F.slot_list_pop PySem.F.type_list_pop mt_pop (pv 3)))
   (aj (bP PassesOwn.leaving rfl (ck (ax aG (cT (pv 0) rfl) (pv 4) (fun _ _=>rfl))) (aQ (i:=5) bG.nd rfl (Or.inl rfl)) (ae (ar (i:=6) bG.nd rfl (Or.inl rfl) (ax aG (cT (pv 0) rfl) (pv 5) (fun _ _=>rfl)))
   (ae (ar (i:=7) bG.nd rfl (Or.inl rfl) (EG (Bi (pv 6) CL0 a0.me a0.ok (hr.mono (by decide)) a0.bn .nil aT (aa (pv 4) ah)) (Bi (pv 6) CL1 a1.me a1.ok (hr.mono (by decide)) a1.bn .nil aT (aa (pv 4) ah))))
   (aj (dz (DQ (tF hu (pv 7) (pv 2))) (ae (vZ hu (pv 2) (pv 7) (av tG (av tG (qE hu (pv 2) (pv 4) (fun _ _=>rfl)) (EG (mD (pv 6) CL0 u0.me u0.ok (hr.mono (by decide)) u0.bn .nil aT) (mD (pv 6) CL1 u1.me u1.ok (hr.mono (by decide)) u1.bn .nil aT))) (av tJ (av ph (pv 1) (pv 5)) ag)) rfl)
   (aj (bc (eQ FR F7 F6 br (pv 3) (aa (pv 7) ah))))) bo))))))))
   (aj (aR (ay G_mask_of.ok (hr.mono (by decide)) rfl G_mask_of.mg G_mask_of.kp G_mask_of.bn .nil aT (aa (yH rfl (fr:=[("signs",2)]) (xs:=["place"]) (su.of (by rfl) (by decide +kernel) (by rfl) (by decide +kernel) (by intro p hp;simp only[FC,Il,or_false]at hp;rcases hp with rfl<;>exact⟨rfl,rfl⟩) (by decide +kernel) (by intro p hp;simp only[FC,Il,or_false]at hp;rcases hp with rfl<;>rfl)) (EE (pv 2)) (fun C ex s H=>(aQ (i:=0) (show(["place","signs"]:List Str).Nodup from by decide +kernel) rfl (Or.inl rfl))) (fun C ex s H=>(A8 (aH iW (qE hu (pv 1) (pv 0) (fun _ _=>rfl)) ag (aP _)))) (fun C ex s H=>(pv 0))) ah)))))))),?_⟩
 refine⟨_,rfl,_,rfl,p,S,es,ks,rs,rfl,wr,kl,few,by omega,r900,kx,fun ev H1 s1=>?_⟩
 obtain⟨Pl,hP0,cb⟩:=CZ g ro ev
 intro d hd
 refine⟨af,[(.inl ((0:Nat):Int),.int 0)],rfl,(by show 1<=15;decide),?_⟩
 have sd:Same H1 (upd (upd H1 d (.dK [])) d (.dK (lg [] [(.inl ((0:Nat):Int),.int 0)]))):=aM (ao hd _) hd _
 have hd1:(upd (upd H1 d (.dK [])) d (.dK (lg [] [(.inl ((0:Nat):Int),.int 0)]))) d=some (.dK (kvS Pl [0])):=by
  rw[af]
  have e:sI (Pl 0)=0:=by rw[hP0];rfl
  show some (HO.dK [(.inl ((0:Nat):Int),.int 0)])=some (HO.dK [(.inl ((0:Nat):Int),.int (sI (Pl 0)))])
  rw[e]
 generalize upd (upd H1 d (.dK [])) d (.dK (lg [] [(.inl ((0:Nat):Int),.int 0)]))=H2 at sd hd1
 refine⟨(by show 1<=sizeLine;decide),fun q hq=>?_⟩
 have sq:=ao hq (.lst [.int 0])
 have nqd:q≠d:=fun z=>by rw[z,hd1]at hq;cases hq
 have hq1:H1 q=none:=BB sd hq
 refine⟨fun mm σ H'=>∃(ps wl:List Nat)(v4 v5 v6 v7:Option V),mm=2*(m-ps.length)+wl.length/\mm<=80/\σ = [some (.ref p),some (.int (S:Int)),some (.ref d),some (.ref q),v4,v5,v6,v7]/\Same H1 H'/\H' d=some (.dK (kvS Pl ps))/\H' q=some (.lst (wl.map iV))/\Met' m es ps wl 0 [],⟨_,[0],[0],_,_,_,_,rfl,(by show 2*(m-1)+1<=80;omega),rfl,sd.trans sq,sq _ _ hd1,af,⟨(by simp),fun x hx=>by rw[GB.mp hx];exact m0,(by simp),fun x hx=>hx,fun x hx nx=>absurd hx nx⟩⟩,?_⟩
 rintro mm σ H3 ⟨ps,wl,v4,v5,v6,v7,rfl,m80,rfl,s3,hd3,hq3,mt⟩
 refine⟨_,rfl,(by show 0<=sizeLine;exact GJ _),fun l hl=>?_⟩
 have sl:=ao hl (.lst [])
 refine⟨_,_,wW (SqL.of (sl _ _ hq3)),wW (ps:=[]) (SqL.of af),nA _,nA _,_,rfl,?_⟩
 rw[DB]
 have s3l:=s3.trans sl
 have hd4:=sl _ _ hd3
 have hq4:=sl _ _ hq3
 generalize upd H3 l (.lst [])=H4 at s3l hd4 hq4
 refine ite2 (fun c=>?_) (fun c=>?_)
 ·have ne:wl≠[]:=fun z=>by rw[z,decide_eq_true rfl]at c;cases c
  have eqw:wl.dropLast++[wl.getLast ne]=wl:=Io ne
  obtain⟨x,hx⟩:∃ x,x=wl.getLast ne:=⟨_,rfl⟩
  obtain⟨wl',hw⟩:∃ wl',wl'=wl.dropLast:=⟨_,rfl⟩
  rw[← hx,← hw]at eqw
  subst eqw
  clear hx hw ne c
  have xps:=mt.wn x (by simp)
  have xm:=mt.lt x xps
  obtain⟨row,hrow⟩:∃ row,ts[x]?=some row:=⟨_,Fu (by rw[g.w.len];exact xm)⟩
  have pl0:=BC mt.nd mt.lt
  refine⟨fun σ' H'=>∃(ps2 wl2:List Nat)(v4 v5 v6 v7:Option V),2*(m-ps2.length)+wl2.length<2*(m-ps.length)+(wl'++[x]).length/\σ' = [some (.ref p),some (.int (S:Int)),some (.ref d),some (.ref q),v4,v5,v6,v7]/\Same H1 H'/\H' d=some (.dK (kvS Pl ps2))/\H' q=some (.lst (wl2.map iV))/\Met' m es ps2 wl2 0 [],fun σ' H' ⟨ps2,wl2,a4,a5,a6,a7,lt,e1,e2,e3,e4,e5⟩=>⟨_,lt,ps2,wl2,a4,a5,a6,a7,rfl,Gs (Gw lt) m80,e1,e2,e3,e4,e5⟩,?_⟩
  have elast:((wl'++[x]).map iV)[((wl'++[x]).map iV).length-1]?=some (iV x):=by
   rw[F8,Fy,FF]
   show(wl'.map iV++[iV x])[wl'.length+1-1]?=_
   rw[Nat.add_sub_cancel,Fz (by rw[FF];exact FD _),FF,F5]
   rfl
  refine⟨_,rfl,.inl ⟨rfl,_,SqL.of hq4⟩,q,_,iV x,rfl,rfl,hq4,elast,?_⟩
  have edrop:((wl'++[x]).map iV).dropLast=wl'.map iV:=by
   rw[F8]
   exact List.dropLast_concat
  rw[edrop]
  have s5:Same H1 (upd H4 q (.lst (wl'.map iV))):=aM s3l hq1 _
  have hd5:(upd H4 q (.lst (wl'.map iV))) d=some (.dK (kvS Pl ps)):=by rw[ak (Ne.symm nqd)];exact hd4
  have hq5:(upd H4 q (.lst (wl'.map iV))) q=some (.lst (wl'.map iV)):=af
  generalize upd H4 q (.lst (wl'.map iV))=H5 at s5 hd5 hq5
  obtain⟨r,r1,r2⟩:=rw3.2 x row hrow
  have s15:=s1.trans s5
  have rl:row.length<=es.length:=c5 (g.w.nd x row hrow) fun t ht=>by
   obtain⟨e,he,_⟩:=(g.w.mem x row hrow t).mp ht
   exact(Fv.mp he).1
  refine⟨_,rfl,p,WC,dx,fs,_,rfl,s15 _ _ hp,cw.cl,cw.n3,l3,_,rfl,q3,z3,_,_,rfl,rfl,SqL.of (s15 _ _ h3),aI r1,r,rfl,⟨_,SqL.of (s15 _ _ r2)⟩,eB (K:=K) (xs:=row.map iV) (fun j σ H6=>∃(ps2 wl2:List Nat)(v5 v6 v7:Option V),σ = [some (.ref p),some (.int (S:Int)),some (.ref d),some (.ref q),some (iV x),v5,v6,v7]/\Same H1 H6/\H6 d=some (.dK (kvS Pl ps2))/\H6 q=some (.lst (wl2.map iV))/\Met' m es ps2 wl2 x (row.drop j)/\x∈ps2/\2*(m-ps2.length)+wl2.length<2*(m-ps.length)+(wl'++[x]).length) ⟨ps,wl',_,_,_,rfl,s5,hd5,hq5,⟨mt.nd,mt.lt,mt.z,fun y hy=>mt.wn y (by simp[hy]),fun y hy ny t e he hy2=>?_⟩,xps,by rw[Fy,FI];omega⟩ (fun j σ H6 _ ⟨_,_,_,_,_,_,z,_⟩=>SqL.of (z _ _ (s1 _ _ r2))) ?_ ?_⟩
  ·by_cases yx:y=x
   ·subst yx
    exact .inr ⟨rfl,by rw[List.drop_zero];exact(g.w.mem y row hrow t).mpr ⟨e,he,hy2⟩⟩
   ·rcases mt.cl y hy (fun z=>(FG.mp z).elim ny fun z=>yx (GB.mp z)) t e he hy2 with z | z
    ·exact .inl z
    ·cases z.2
  ·rintro j v σ H6 hx' ⟨ps2,wl2,v5,v6,v7,rfl,s6,hd6,hq6,mt6,xin,lt6⟩
   rw[F0]at hx'
   obtain⟨t,ht,rfl⟩:=Gd.mp hx'
   have htj:row.drop j=t::row.drop (j+1):=by
    obtain⟨h1',h2'⟩:=Fv.mp ht
    rw[← h2']
    exact IE h1'
   obtain⟨e,he,hend⟩:=(g.w.mem x row hrow t).mp (Fx ht)
   obtain⟨k,hk⟩:∃ k,ks[t]?=some k:=⟨_,Fu (by have:=(Fv.mp he).1;omega)⟩
   have s16:=s1.trans s6
   obtain⟨p',dx',x1,x2⟩:=(tk.mono s16).2 t e k he hk
   obtain⟨b1,b2,bne⟩:=g.w.ends e (Fx he)
   have om:oth e x<m:=by unfold oth;split<;>assumption
   have pl2:=BC mt6.nd mt6.lt
   have eoth:(if(x:Int)=(e.1:Int) then(e.2:Int) else(e.1:Int))=((oth e x:Nat):Int):=by
    unfold oth
    by_cases c:x=e.1
    ·rw[if_pos (by omega),if_pos c]
    ·rw[if_neg (by omega),if_neg c]
   have hpu:bu ks t=decide (k.1=1):=qu hk
   have eval:Pl (oth e x)=(Pl x ^^ bu ks t ^^ S.testBit t):=by
    have q0:(S.testBit t ^^ bu ks t)=(Pl e.1 ^^ Pl e.2):=cb t e he
    unfold oth
    by_cases c:x=e.1
    ·rw[if_pos c,c]
     revert q0
     cases S.testBit t<;>cases bu ks t<;>cases Pl e.1<;>cases Pl e.2<;>decide
    ·have c2:e.2=x:=hend.resolve_left fun z=>c z.symm
     rw[if_neg c,← c2]
     revert q0
     cases S.testBit t<;>cases bu ks t<;>cases Pl e.1<;>cases Pl e.2<;>decide
   refine⟨_,rfl,p,WC,dx,fs,_,rfl,s16 _ _ hp,cw.cl,cw.n2,l1,_,rfl,q1,xs,_,_,rfl,rfl,SqL.of (s16 _ _ h1),aI x1,?_⟩
   by_cases c:k.1=1
   ·rw[decide_eq_true c]at x2 hpu
    refine .inr ⟨_,rfl,p',dx',_,rfl,x2,za _ _ _ (by decide +kernel) (by decide +kernel) (by decide +kernel),_,rfl,p',_,_,_,(x:Int),rfl,⟨dx',x2⟩,?_⟩
    rw[eoth]
    refine⟨_,rfl,_,rfl,d,_,rfl,.inl ⟨_,.inl ((oth e x:Nat):Int),.inl hd6,rfl,rfl⟩,_,rfl,?_⟩
    by_cases hin:oth e x∈ps2
    ·rw[uk mt6.nd hin]
     exact iteF ⟨ps2,wl2,_,_,_,rfl,s6,hd6,hq6,mt6.old hin he htj,xin,lt6⟩
    ·rw[BN hin]
     refine iteT ?_
     refine⟨_,rfl,_,rfl,d,_,rfl,.inl ⟨_,.inl (x:Int),.inl hd6,rfl,(uk mt6.nd xin).symm⟩,?_⟩
     refine .inr ⟨_,rfl,p',dx',_,rfl,x2,za _ _ _ (by decide +kernel) (by decide +kernel) (by decide +kernel),p',rfl,_,_,rfl,rfl,_,rfl,_,rfl,_,_,rfl,rfl,(show(0:Int)<=(t:Int) by omega),_,_,rfl,rfl,_,_,rfl,rfl,?_⟩
     have ev':Builtin.bitXor (Builtin.bitXor (sI (Pl x)) (if true=true then 1 else 0)) (Builtin.bitAnd ((S:Int)/2^((t:Nat):Int).toNat) 1)=sI (Pl (oth e x)):=by
      rw[bt_sI,xor3]
      congr 1
      rw[← hpu]
      exact eval.symm
     refine⟨_,rfl,_,rfl,d,_,rfl,DPut.k (k:=.inl ((oth e x:Nat):Int)) hd6 (au (by unfold kvS;rw[FF];omega)),?_⟩
     have eput:putK (kvS Pl ps2) (.inl ((oth e x:Nat):Int)) (.int (Builtin.bitXor (Builtin.bitXor (sI (Pl x)) (if true=true then 1 else 0)) (Builtin.bitAnd ((S:Int)/2^((t:Nat):Int).toNat) 1)))=kvS Pl (ps2++[oth e x]):=by rw[ev'];exact BM hin
     have hq7:(upd H6 d (.dK (putK (kvS Pl ps2) (.inl ((oth e x:Nat):Int)) (.int (Builtin.bitXor (Builtin.bitXor (sI (Pl x)) (if true=true then 1 else 0)) (Builtin.bitAnd ((S:Int)/2^((t:Nat):Int).toNat) 1)))))) q=some (.lst (wl2.map iV)):=by rw[ak nqd];exact hq6
     refine⟨_,rfl,.inl ⟨rfl,_,SqL.of hq7⟩,_,rfl,q,_,_,rfl,rfl,hq7,au (by rw[FF];omega),?_⟩
     refine⟨ps2++[oth e x],wl2++[oth e x],_,_,_,rfl,aM (aM s6 hd _) hq1 _,?_,?_,mt6.new hin om he htj,F3 _ xin,?_⟩
     ·rw[ak (Ne.symm nqd),af,eput]
     ·rw[af,F8];rfl
     ·simp only[Fy,FI]at lt6 ⊢
      have:=BC (FY.mpr ⟨mt6.nd,(by simp),fun a ha b hb z=>hin (by rw[← GB.mp hb,← z];exact ha)⟩:(ps2++[oth e x]).Nodup) (m:=m) (fun y hy=>(FG.mp hy).elim (mt6.lt y) fun z=>by rw[GB.mp z];exact om)
      rw[Fy,FI]at this
      omega
   ·rw[decide_eq_false c]at x2 hpu
    refine .inl ⟨_,rfl,p',dx',_,rfl,x2,za _ _ _ (by decide +kernel) (by decide +kernel) (by decide +kernel),_,rfl,p',_,_,_,(x:Int),rfl,⟨dx',x2⟩,?_⟩
    rw[eoth]
    refine⟨_,rfl,_,rfl,d,_,rfl,.inl ⟨_,.inl ((oth e x:Nat):Int),.inl hd6,rfl,rfl⟩,_,rfl,?_⟩
    by_cases hin:oth e x∈ps2
    ·rw[uk mt6.nd hin]
     exact iteF ⟨ps2,wl2,_,_,_,rfl,s6,hd6,hq6,mt6.old hin he htj,xin,lt6⟩
    ·rw[BN hin]
     refine iteT ?_
     refine⟨_,rfl,_,rfl,d,_,rfl,.inl ⟨_,.inl (x:Int),.inl hd6,rfl,(uk mt6.nd xin).symm⟩,?_⟩
     refine .inl ⟨_,rfl,p',dx',_,rfl,x2,za _ _ _ (by decide +kernel) (by decide +kernel) (by decide +kernel),p',rfl,_,_,rfl,rfl,_,rfl,_,rfl,_,_,rfl,rfl,(show(0:Int)<=(t:Int) by omega),_,_,rfl,rfl,_,_,rfl,rfl,?_⟩
     have ev':Builtin.bitXor (Builtin.bitXor (sI (Pl x)) (if false=true then 1 else 0)) (Builtin.bitAnd ((S:Int)/2^((t:Nat):Int).toNat) 1)=sI (Pl (oth e x)):=by
      rw[bt_sI,xor3]
      congr 1
      rw[← hpu]
      exact eval.symm
     refine⟨_,rfl,_,rfl,d,_,rfl,DPut.k (k:=.inl ((oth e x:Nat):Int)) hd6 (au (by unfold kvS;rw[FF];omega)),?_⟩
     have eput:putK (kvS Pl ps2) (.inl ((oth e x:Nat):Int)) (.int (Builtin.bitXor (Builtin.bitXor (sI (Pl x)) (if false=true then 1 else 0)) (Builtin.bitAnd ((S:Int)/2^((t:Nat):Int).toNat) 1)))=kvS Pl (ps2++[oth e x]):=by rw[ev'];exact BM hin
     have hq7:(upd H6 d (.dK (putK (kvS Pl ps2) (.inl ((oth e x:Nat):Int)) (.int (Builtin.bitXor (Builtin.bitXor (sI (Pl x)) (if false=true then 1 else 0)) (Builtin.bitAnd ((S:Int)/2^((t:Nat):Int).toNat) 1)))))) q=some (.lst (wl2.map iV)):=by rw[ak nqd];exact hq6
     refine⟨_,rfl,.inl ⟨rfl,_,SqL.of hq7⟩,_,rfl,q,_,_,rfl,rfl,hq7,au (by rw[FF];omega),?_⟩
     refine⟨ps2++[oth e x],wl2++[oth e x],_,_,_,rfl,aM (aM s6 hd _) hq1 _,?_,?_,mt6.new hin om he htj,F3 _ xin,?_⟩
     ·rw[ak (Ne.symm nqd),af,eput]
     ·rw[af,F8];rfl
     ·simp only[Fy,FI]at lt6 ⊢
      have:=BC (FY.mpr ⟨mt6.nd,(by simp),fun a ha b hb z=>hin (by rw[← GB.mp hb,← z];exact ha)⟩:(ps2++[oth e x]).Nodup) (m:=m) (fun y hy=>(FG.mp hy).elim (mt6.lt y) fun z=>by rw[GB.mp z];exact om)
      rw[Fy,FI]at this
      omega
  ·rintro σ H6 ⟨ps2,wl2,v5,v6,v7,rfl,s6,hd6,hq6,mt6,xin,lt6⟩
   rw[FF,List.drop_length]at mt6
   exact⟨ps2,wl2,_,_,_,_,lt6,rfl,s6,hd6,hq6,⟨mt6.nd,mt6.lt,mt6.z,mt6.wn,fun y hy ny t e he hy2=>(mt6.cl y hy ny t e he hy2).elim .inl fun z=>by cases z.2⟩⟩
 ·have e0:wl = []:=by
   cases wl with
   |nil=>rfl
   |cons a b=>exact absurd (by rw[decide_eq_false (by simp)];rfl) c
  subst e0
  refine⟨_,rfl,d,_,rfl,hd4,fun o=>?_⟩
  have pl2:=BC mt.nd mt.lt
  refine Al (kvs:=kvS Pl ps) (d:=d) (o:=o) (fun i ys H5=>H5=upd H4 d (.frz o (.dK (kvS Pl ps)))/\ys=((ps.take i).filter Pl).map iV) (Gw (au (by unfold kvS;rw[FF];omega))) ⟨rfl,rfl⟩ (fun i ys H5 _ z=>by rw[z.1];exact af) ?_ ?_ ?_
  ·rintro i ky y ys H5 hki ⟨rfl,rfl⟩
   unfold kvS at hki
   rw[F0]at hki
   obtain⟨x,hx,e2⟩:=Gd.mp hki
   cases e2
   have et:ps.take (i+1)=ps.take i++[x]:=by rw[Gn,hx];rfl
   refine⟨rfl,_,rfl,_,rfl,d,_,rfl,.inl ⟨_,.inl (x:Int),.inr ⟨o,af⟩,rfl,(uk mt.nd (Fx hx)).symm⟩,rfl,_,rfl,?_⟩
   cases hp1:Pl x with
   |true =>
    refine iteT ⟨_,rfl,rfl,?_⟩
    rw[et,Ib,F8,List.filter_cons_of_pos hp1]
    rfl
   |false =>
    refine iteF ⟨rfl,?_⟩
    rw[et,Ib,F8,List.filter_cons_of_neg (by rw[hp1];exact FV)]
    simp
  ·rintro ys H5 ⟨rfl,rfl⟩ D hD
   have el:(kvS Pl ps).length=ps.length:=by unfold kvS;rw[FF]
   rw[el,Gu]
   refine⟨D,ps.filter Pl,rfl,SqL.of af,fun x hx=>?_,?_⟩
   ·have:=mt.lt x (G5.mp hx).1
    omega
   ·have sF:Same H1 (upd (upd H4 d (.frz o (.dK (kvS Pl ps)))) D (.lst (((ps.filter Pl)).map iV))):=(aM s3l hd _).trans (ao hD _)
    exact kk ev _ _ (s1.trans sF) (E5 g m0 hP0 cb mt)
  ·rintro i ys H5 ⟨_,rfl⟩
   rw[FF]
   exact Gs (List.length_filter_le _ _) (by rw[GL];exact Nat.min_le_left _ _)
end
end K8
set_option maxHeartbeats 1000000
namespace K8
open PySem L2
local macro_rules | `(tactic| walk_at "cc") => `(tactic| first | exact ⟨by decide, by decide⟩ | (show (0 : Int) < _; decide) | (show (0 : Int) < _; omega) | (show (0 : Int) ≤ _; omega) | exact ⟨by decide, by decide, by decide⟩ | exact ⟨by omega, by omega, by decide⟩ | exact Or.inl ⟨by decide, by decide⟩ | exact Or.inl ⟨by omega, by omega⟩)
local macro_rules | `(tactic| walk_at "rd") => `(tactic| repeat (first | refine ⟨_, rfl, ?_⟩ | refine ⟨_, _, rfl, rfl, ?_⟩ | refine ⟨rfl, ?_⟩ | (refine ⟨?cc, ?_⟩; (case cc => walk_at "cc"))))
def El:Sp:=fun vs H Q _=>∃(t pe pt pk:Addr)(m:Nat)(es:En)(ts:List (List Nat))(ks:Kn)(c l:Int),vs = [.ref t,.int c,.int l]/\fF H t pe pt pk m es ts ks/\0<es.length/\∀ S:Nat,S<2^es.length->Q (.int (S:Int)) H
def spFO:Sp:=fun vs H Q _=>∃(t pe pt pk:Addr)(m S:Nat)(es:En)(ts:List (List Nat))(ks:Kn),vs = [.ref t,.int (S:Int)]/\fF H t pe pt pk m es ts ks/\∀ rs:List (List Nat),aU (fol es ts) (2*es.length) (2*es.length) rs ->
 (∀ k,so rs S (MK (bu ks) es.length) k->∀ H',Same H H'->Q (.int (k:Int)) H')/\(vw rs S (MK (bu ks) es.length)->∀ H',Same H H'->Q (.int (-1)) H')
def AN(PL PS WC:Addr):Sp:=fun vs H Q _=>∃(p:Addr)(S m:Nat)(es:En)(ts:List (List Nat))(ks:Kn)(rs:List (List Nat)),vs = [.ref p,.int (S:Int)]/\WebT PL PS WC H p m es ts ks/\WebR PL PS WC H p es ks rs/\Gr m es ts/\aU (fol es ts) (2*es.length) (2*es.length) rs/\ks.length=es.length/\0<m/\m<=40/\es.length<=30/\(∀ k∈ks,k.1=0∨k.1=1) /\
 (∀ k,so rs S (MK (bu ks) es.length) k->∀ t H',Same H H'->H' t=some (.tup [.non,.int (k:Int),.bl true])->Q (.ref t) H')/\(vw rs S (MK (bu ks) es.length)->∀ L t H',Same H H'->LayS m es ks S L->H' t=some (.tup [.int (L:Int),.non,.bl false])->Q (.ref t) H')
theorem MK_lt(u:Nat->Bool)(n:Nat):MK u n<2^n:=IC _ fun x hx=>by rw[y4,decide_eq_false (by omega)];rfl
theorem lay_un{m:Nat}{es:En}{ks:Kn}{S L:Nat}(h:LayS m es ks S L)(hS:S<2^es.length)(kl:ks.length=es.length)(kin:∀ k∈ks,k.1=0∨k.1=1):MK (U es ks (L:Int)) es.length=S:=by
 refine GV fun t=>?_
 rw[y4]
 by_cases c:t<es.length
 ·obtain⟨e,he⟩:∃ e,es[t]?=some e:=⟨_,Fu c⟩
  obtain⟨k,hk⟩:∃ k,ks[t]?=some k:=⟨_,Fu (by omega)⟩
  rw[decide_eq_true c,HF,h.un t e he,U_at he hk,qu hk]
  unfold unp
  rw[D6,D6,nX,nX]
  rcases kin k (Fx hk)with z | z<;>rw[z]<;>cases L.testBit e.1<;>cases L.testBit e.2<;>rfl
 ·rw[decide_eq_false c,Hm,Hi (F2 hS (Hq (by decide) (by omega)))]
structure ErF(K:Fw)(mg:Str->Option Value)(NL FE:Addr):Prop where
 er:ErC K NL
 na:FJ K (.ref NL) "at" = some none
 up:GX K NL (.ref NL)=some true
 k0:GF K (.ref NL) (.ref FE)=some true
 kv:GF K (.ref NL) (.type "ValueError")=some true
structure TxtE(mg:Str->Option Value)(FE:Addr):Prop extends Txt mg where
 n_ValueError:mg "ValueError" = none
 g_FloorError:mg "FloorError" = some (.ref FE)
theorem rX:bootBuiltins "ValueError" = some (.type "ValueError"):=by decide +kernel
def restS:TS:=fun D σ H=>∃(t pe pt pk:Addr)(m S:Nat)(es:En)(ts:List (List Nat))(ks:Kn)(c l:Int),σ = [some (.ref t),some (.int c),some (.int l),some (.int (S:Int))]/\fF H t pe pt pk m es ts ks/\0<es.length/\S<2^es.length/\∀ S':Nat,S'<2^es.length->D.rt (.int (S':Int)) H
theorem xorP{S n t:Nat}(h:S<2^n)(ht:t<n):Builtin.bitXor (S:Int) (1*2^((t:Nat):Int).toNat)=((S^^^2^t:Nat):Int)/\S^^^2^t<2^n:=by
 rw[shlN]
 exact⟨xorN _ _,Nat.xor_lt_two_pow h (Nat.pow_lt_pow_right (by decide) ht)⟩
theorem Ao{X:Cx}{K:Fw}(hK:X.K=K):jy X (.builtin "isinstance") (fun xs H Q=>∃ x c dx d b,xs = [.ref x,.ref d]/\H x=some (excD x c dx)/\ErC K c/\GF K (.ref c) (.ref d)=some b/\Q (.bl b) H):=by subst hK;exact Cu
theorem x9{X:Cx}{K:Fw}(hK:X.K=K):jy X (.builtin "isinstance") (fun xs H Q=>∃ x c dx T b,xs = [.ref x,.ty T]/\H x=some (excD x c dx)/\ErC K c/\GF K (.ref c) (.type T)=some b/\Q (.bl b) H):=by subst hK;exact An
theorem C4{X:Cx}{K:Fw}{f:Str}{e:Expr}{ta:TE}{pos:Pos}(hK:X.K=K)(he:PE X e ta)(hb:attributeBase e f X.env (eval e X.env)=eval e X.env):PE X (.Attribute e f pos) (tFldE K ta f):=by subst hK;exact EI he hb
section
variable{P:Program}{w:World}{K:Fw}{mg:Str->Option Value}{base:Heap}
theorem ir:aD ["built","cell","laying","some"] ["built","cell","laying"] (ai fk):=⟨rfl,rfl,rfl,by decide +kernel,rfl,by decide +kernel,by decide +kernel⟩
theorem ok_set{f f1 f2:Addr}{fd d1 d2:FuncData} (F:Fun K "_law_set" "_law_set" fk f fd) (T:Txt mg) (G_law_unpleased:Cal P w K mg base 1 "_law_unpleased" ["built","laying"] yA f1 d1) (G_law_mask:Cal P w K mg base 1 "_law_mask" ["cell","many"] pY f2 d2):FnOk P w K mg base CX0 2 f fd ["built","cell","laying"] El:=by
 refine F.ok ir (fun vs H Q E h=>?_) (fun cdv A outer s H vs Q E hr h=>?_)
 ·obtain⟨t,pe,pt,pk,m,es,ts,ks,c,l,rfl,_⟩:=h
  rfl
 obtain⟨t,pe,pt,pk,m,es,ts,ks,c,l,rfl,bp,e0,kk⟩:=h
 have few:=bp.few
 obtain⟨ht,⟨⟨ys,hpe,hE⟩,_,_⟩,_,_,_⟩:=id bp
 have hyl:ys.length=es.length:=hE.1
 refine⟨_,(ae (ar (i:=3) ir.nd rfl (Or.inl rfl) (ay G_law_unpleased.ok (hr.mono (by decide)) rfl G_law_unpleased.mg G_law_unpleased.kp G_law_unpleased.bn .nil aT (aa (pv 0) (aa (pv 2) ah))))
   (ae (dz (aH iW (av bw (pv 1) ag) ag (aP _)) (aj (ar (i:=3) ir.nd rfl (Or.inl rfl) (av tG (pv 3) (av iO ag (av bw (av cm (pv 1) ag) (aB aq (by rfl) T.n_len bf (aa (ax aE (pv 0) ag (fun _ _=>rfl)) ah))))))) bo)
   (vY (t2:=restS) (ae (dz (aH iW (av bw (pv 1) ag) ag (aP _)) (aj (ar (i:=3) ir.nd rfl (Or.inl rfl) (ay G_law_mask.ok (hr.mono (by decide)) rfl G_law_mask.mg G_law_mask.kp G_law_mask.bn .nil aT (aa (av cm (pv 1) ag) (aa (aB aq (by rfl) T.n_len bf (aa (ax aE (pv 0) ag (fun _ _=>rfl)) ah)) ah))))) bo)
   (aj (aR (pv 3)))) (fun D0 S0 H0 h0=>?resta)))),?_⟩
 case resta =>
  obtain⟨t,pe,pt,pk,m,S,es,ts,ks,c,l,rfl,bp,e0,hS,kk⟩:=h0
  have few:=bp.few
  obtain⟨ht,⟨⟨ys,hpe,hE⟩,_,_⟩,_,_,_⟩:=id bp
  have hyl:ys.length=es.length:=hE.1
  refine⟨_,rfl,_,_,rfl,rfl,(by show(0:Int)<3;decide),rfl,_,rfl,ite2 (fun _=>?_) (fun _=>?_)⟩
  ·refine⟨_,rfl,_,_,rfl,rfl,⟨by decide,by decide⟩,_,rfl,t,_,0,_,rfl,rfl,SqT.of ht,at30,pe,ys,rfl,.inl (SqL.of hpe),_,es.length,(by rw[hyl];rfl),by omega,fun N hN=>?_⟩
   exact⟨_,rfl,kk N hN⟩
  ·exact⟨_,rfl,kk S hS⟩
 refine⟨_,rfl,_,rfl,t,pe,pt,pk,m,es,ts,ks,l,rfl,bp,?_⟩
 have lt0:=MK_lt (U es ks l) es.length
 generalize MK (U es ks l) es.length=S0 at lt0
 refine⟨_,rfl,_,_,rfl,rfl,(by show(0:Int)<3;decide),rfl,_,rfl,ite2 (fun _=>?_) (fun _=>?_)⟩
 ·obtain⟨n,en,hn⟩:∃ n:Nat,c/3%((ys.length:Nat):Int)=(n:Int)/\n<es.length:=by
   have h1:=GO (c/3) (show((ys.length:Nat):Int)≠0 by omega)
   have h2:=GK (c/3) (show(0:Int)<((ys.length:Nat):Int) by omega)
   exact⟨(c/3%((ys.length:Nat):Int)).toNat,by omega,by omega⟩
  refine⟨_,rfl,_,rfl,_,_,rfl,rfl,⟨by decide,by decide⟩,_,rfl,t,_,0,_,rfl,rfl,SqT.of ht,at30,pe,ys,rfl,.inl (SqL.of hpe),_,_,rfl,rfl,(by omega),_,_,rfl,rfl,⟨by omega,by omega,by decide⟩,_,_,rfl,rfl,?_⟩
  obtain⟨x1,x2⟩:=xorP lt0 hn
  refine⟨t,pe,pt,pk,m,S0^^^2^n,es,ts,ks,c,l,?_,bp,e0,x2,kk⟩
  rw[← x1,← en]
  rfl
 ·exact⟨t,pe,pt,pk,m,S0,es,ts,ks,c,l,rfl,bp,e0,lt0,kk⟩
theorem ba:aD ["built","some","pushing","k","rounds"] ["built","some"] (ai bj):=⟨rfl,rfl,rfl,by decide +kernel,rfl,by decide +kernel,by decide +kernel⟩
theorem ok_fo{f f1 f2:Addr}{fd d1 d2:FuncData} (F:Fun K "_law_first_off" "_law_first_off" bj f fd) (T:Txt mg) (G_law_rounds:Cal P w K mg base 4 "_law_rounds" ["built"] Er f1 d1) (G_law_parity:Cal P w K mg base 1 "_law_parity" ["ties","row"] (Eo K) f2 d2):FnOk P w K mg base CX0 5 f fd ["built","some"] spFO:=by
 refine F.ok ba (fun vs H Q E h=>?_) (fun cdv A outer s H vs Q E hr h=>?_)
 ·obtain⟨t,pe,pt,pk,m,S,es,ts,ks,rfl,_⟩:=h
  rfl
 obtain⟨t,pe,pt,pk,m,S,es,ts,ks,rfl,bp,kboth⟩:=h
 have few:=bp.few
 have kl:=bp.kl
 obtain⟨ht,_,⟨ws,hpk,tk⟩,_,_⟩:=id bp
 have hwl:ws.length=ks.length:=tk.1
 refine⟨_,(ae (ar (i:=2) ba.nd rfl (Or.inl rfl) ag)
   (ae (bP PassesOwn.never rfl (bq rfl T.n_range (aa (aB aq (by rfl) T.n_len bf (aa (ax aE (pv 0) ag (fun _ _=>rfl)) ah)) ah)) (aQ (i:=3) ba.nd rfl (Or.inl rfl)) (aj (ar (i:=2) ba.nd rfl (Or.inl rfl) (av Bo (pv 2) (av iO (ax aE (ax aG (ax aE (pv 0) ag (fun _ _=>rfl)) (pv 3) (fun _ _=>rfl)) ag (fun _ _=>rfl)) (pv 3))))))
   (ae (ar (i:=4) ba.nd rfl (Or.inl rfl) (ay G_law_rounds.ok (hr.mono (by decide)) rfl G_law_rounds.mg G_law_rounds.kp G_law_rounds.bn .nil aT (aa (pv 0) ah)))
   (ae (bP PassesOwn.never rfl (bq rfl T.n_range (aa (aB aq (by rfl) T.n_len bf (aa (pv 4) ah)) ah)) (aQ (i:=3) ba.nd rfl (Or.inl rfl)) (aj (dz (aH oK (ay G_law_parity.ok (hr.mono (by decide)) rfl G_law_parity.mg G_law_parity.kp G_law_parity.bn .nil aT (aa (pv 1) (aa (ax aG (pv 4) (pv 3) (fun _ _=>rfl)) ah))) (ay G_law_parity.ok (hr.mono (by decide)) rfl G_law_parity.mg G_law_parity.kp G_law_parity.bn .nil aT (aa (pv 2) (aa (ax aG (pv 4) (pv 3) (fun _ _=>rfl)) ah))) (aP _)) (aj (aR (pv 3))) bo)))
   (aj (aR (pe_un un_neg ag))))))),?_⟩
 refine⟨_,rfl,t,_,2,_,rfl,rfl,SqT.of ht,at32,pk,ws,rfl,.inl (SqL.of hpk),_,rfl,by omega,by omega,bJ (n:=(ws.length:Int).toNat) (fun i σ H3=>∃ v3,σ = [some (.ref t),some (.int (S:Int)),some (.int ((MK (bu ks) i:Nat):Int)),v3,none]/\H3=H) ⟨_,rfl,rfl⟩ ?_ ?_⟩
 ·rintro i σ H3 hi ⟨v3,rfl,rfl⟩
  have e0':(0:Int)+(i:Int)=(i:Int):=GN _
  rw[e0']
  obtain⟨k,hk⟩:∃ k,ks[i]?=some k:=⟨_,Fu (by omega)⟩
  obtain⟨k1,k2,pk',y1,y2⟩:=tk.2 i k hk
  refine⟨_,rfl,_,rfl,t,_,2,_,rfl,rfl,SqT.of ht,at32,_,rfl,pk,ws,_,_,rfl,rfl,SqL.of hpk,aI y1,pk',_,0,_,rfl,rfl,SqT.of y2,at0,_,rfl,_,_,rfl,rfl,⟨by omega,by omega,?_⟩,_,_,rfl,rfl,?_⟩
  ·show(k.1).natAbs<2^64
   rcases k1 with z | z<;>rw[z]<;>decide
  refine⟨some (.int (i:Int)),?_,rfl⟩
  show[some (V.ref t),some (V.int (S:Int)),some (V.int (Builtin.bitOr ((MK (bu ks) i:Nat):Int) (k.1*2^((i:Nat):Int).toNat))),some (.int (i:Int)),none]=_
  rw[MK_put k1 (qu hk)]
 rintro σ H3 ⟨v3,rfl,rfl⟩
 rw[F1,hwl,kl]
 generalize hM:MK (bu ks) es.length=M at *
 refine⟨_,rfl,t,pe,pt,pk,m,es,ts,ks,rfl,bp,fun qr vr rs H4 s4 hqr hrs ro=>?_⟩
 obtain⟨kx,kk⟩:=kboth rs ro
 have rlen:=mB ro
 have hvl:vr.length=rs.length:=hrs.1
 refine⟨_,rfl,qr,vr,rfl,.inl (SqL.of hqr),_,rfl,by omega,by omega,bJ (n:=(vr.length:Int).toNat) (fun i σ H5=>∃ v3,σ = [some (.ref t),some (.int (S:Int)),some (.int (M:Int)),v3,some (.ref qr)]/\H5=H4/\∀ j r,j<i->rs[j]?=some r->parR S r=parR M r) ⟨_,rfl,rfl,fun j r h=>absurd h (G3 _)⟩ ?_ ?_⟩
 ·rintro i σ H5 hi ⟨v3,rfl,rfl,al⟩
  have e0':(0:Int)+(i:Int)=(i:Int):=GN _
  rw[e0']
  obtain⟨r,hr'⟩:∃ r,rs[i]?=some r:=⟨_,Fu (by omega)⟩
  obtain⟨pr,x1,x2⟩:=hrs.2 i r hr'
  refine⟨_,rfl,_,rfl,_,rfl,qr,vr,_,_,rfl,rfl,SqL.of hqr,aI x1,S,pr,r,rfl,SqL.of x2,?_⟩
  refine⟨_,rfl,_,rfl,_,rfl,qr,vr,_,_,rfl,rfl,SqL.of hqr,aI x1,M,pr,r,rfl,SqL.of x2,?_⟩
  refine⟨rfl,_,rfl,ite2 (fun c=>?_) (fun c=>?_)⟩
  ·have c':parR S r≠parR M r:=fun z=>by rw[z,decide_eq_true rfl]at c;cases c
   exact⟨_,rfl,kx i ⟨⟨r,hr',c'⟩,al⟩ _ s4⟩
  ·have c':parR S r=parR M r:=by
    by_cases z:parR S r=parR M r
    ·exact z
    ·exact absurd (by rw[decide_eq_false (fun y=>z (by have:=V.int.inj y;omega))];rfl) c
   refine⟨_,rfl,rfl,fun j r2 hj hr2=>?_⟩
   by_cases e:j=i
   ·subst e
    rw[hr']at hr2
    cases hr2
    exact c'
   ·exact al j r2 (by omega) hr2
 ·rintro σ H5 ⟨v3,rfl,rfl,al⟩
  rw[F1,hvl]at al
  exact⟨_,rfl,kk (fun k r hk=>al k r (Fv.mp hk).1 hk) _ s4⟩
theorem bH:aD ["web","some","told","at","by_value","e"] ["web","some"] (ai dj):=⟨rfl,rfl,rfl,by decide +kernel,rfl,by decide +kernel,by decide +kernel⟩
theorem EK{f f1 g2 PL PS WC NL FE:Addr}{fd d1 e2:FuncData} (F:Fun K "_law_told" "_law_told" dj f fd) (T:TxtE mg FE) (S_NoLaying:OwnI P w K mg base "NoLaying" NL g2 e2) (ef:ErF K mg NL FE) (G_laying_of:CalD P w K mg base 4 "laying_of" ["web","ties"] (spLO PL PS WC NL) f1 d1):FnOk P w K mg base CX0 5 f fd ["web","some"] (AN PL PS WC):=by
 have hCs:∀ x,x=NL->GX K x (.ref NL)=some true:=fun x e=>by subst e;exact ef.up
 refine F.ok bH (fun vs H Q E h=>?_) (fun cdv A outer s H vs Q E hr h=>?_)
 ·obtain⟨p,S,m,es,ts,ks,rs,rfl,_⟩:=h
  rfl
 obtain⟨p,S,m,es,ts,ks,rs,rfl,wt,wr,g,ro,kl,m0,m40,few,kin,kx,kk⟩:=h
 refine⟨_,(ae (ar (i:=2) bH.nd rfl (Or.inl rfl) DU)
   (ae (ar (i:=3) bH.nd rfl (Or.inl rfl) DU)
   (ae (ar (i:=4) bH.nd rfl (Or.inl rfl) C6)
   (ae (zo (ie:=5) (Cs:=(fun c=>c=NL)) rfl rfl rfl bH.nd rfl rfl rfl S_NoLaying.mg S_NoLaying.er.ei hCs (fun pins XE W ws=>(aj (ar (i:=2) bH.nd rfl (Or.inl rfl) (Bk G_laying_of.ok (hr.mono (by decide)) rfl G_laying_of.mg G_laying_of.kp G_laying_of.bn .nil ws rfl (aa (pv 0) (aa (pv 1) ah)))))) (fun v=>(ae (ar (i:=3) bH.nd rfl (Or.inl rfl) (C4 (K:=K) rfl (pv 5) rfl))
   (aj (ar (i:=4) bH.nd rfl (Or.inl rfl) (tE (aB (Ao (K:=K) rfl) (by rfl) T.n_isinstance dh (aa (pv 5) (aa (EH (v:=.ref _) rfl T.g_FloorError rfl) ah))) (yF (aB (x9 (K:=K) rfl) (by rfl) T.n_isinstance dh (aa (pv 5) (aa (wA (v:=.ty "ValueError") rfl T.n_ValueError rX rfl) ah))))))))))
   (aj (aR (gC (aa (pv 2) (aa (pv 3) (aa (pv 4) ah)))))))))),?_⟩
 refine⟨_,rfl,_,rfl,p,S,m,es,ts,ks,rs,rfl,wt,wr,g,ro,kl,m0,m40,few,kin,fun k hk d H' s' hd=>⟨NL,rfl,rfl,fun x hx=>?_⟩,fun ev L H' s' ly=>?_⟩
 ·have sx:=ao hx (excD x NL (some d))
  have hdx:=sx _ _ hd
  refine⟨_,rfl,x,NL,d,_,_,rfl,af,ef.er,ef.na,hdx,rfl,?_⟩
  refine⟨_,rfl,x,NL,some d,FE,_,rfl,af,ef.er,ef.k0,_,rfl,iteT ?_⟩
  refine⟨_,rfl,x,NL,some d,"ValueError",_,rfl,af,ef.er,ef.kv,?_⟩
  refine⟨_,rfl,_,rfl,_,rfl,(by show 3<=sizeLine;decide),fun t ht=>?_⟩
  exact kx k hk t _ ((s'.trans sx).trans (ao ht _)) af
 ·refine⟨_,rfl,_,rfl,_,rfl,(by show 3<=sizeLine;decide),fun t ht=>?_⟩
  exact kk ev L t _ (s'.trans (ao ht _)) ly af
end
end K8
set_option maxHeartbeats 1000000
namespace K8
open PySem L2
local macro_rules | `(tactic| walk_at "cc") => `(tactic| first | exact ⟨by decide, by decide⟩ | (show (0 : Int) < _; decide) | (show (0 : Int) < _; omega) | (show (0 : Int) ≤ _; omega) | exact ⟨by decide, by decide, by decide⟩ | exact ⟨by omega, by omega, by decide⟩ | exact Or.inl ⟨by decide, by decide⟩ | exact Or.inl ⟨by omega, by omega⟩)
local macro_rules | `(tactic| walk_at "rd") => `(tactic| repeat (first | refine ⟨_, rfl, ?_⟩ | refine ⟨_, _, rfl, rfl, ?_⟩ | refine ⟨rfl, ?_⟩ | (refine ⟨?cc, ?_⟩; (case cc => walk_at "cc"))))
def Which(rs:List (List Nat))(S M:Nat)(off:Int):Prop:=(∃ k:Nat,so rs S M k/\off=(k:Int))∨(vw rs S M/\off = -1)
def restA(K:Fw):TS:=fun D σ H=>∃(a t pe pt pk:Addr)(L:Int)(S m:Nat)(off:Int)(es:En)(ts:List (List Nat))(ks:Kn)(rs:List (List Nat)),σ = [some (.ref a),some (.ref t),some (.int L),some (.int (S:Int)),some (.int off),none,none] /\
 fF H t pe pt pk m es ts ks/\0<es.length/\S<2^es.length/\aU (fol es ts) (2*es.length) (2*es.length) rs/\Which rs S (MK (bu ks) es.length) off/\∀ H',D.rt (.bl true) H'
def restB(K:Fw)(PL PS WC:Addr):TS:=fun D σ H=>∃(a t pe pt pk p tt:Addr)(L:Int)(S m:Nat)(off:Int)(es:En)(ts:List (List Nat))(ks:Kn)(rs:List (List Nat)),σ = [some (.ref a),some (.ref t),some (.int L),some (.int (S:Int)),some (.int off),some (.ref p),some (.ref tt)] /\
 fF H t pe pt pk m es ts ks/\0<es.length/\S<2^es.length/\aU (fol es ts) (2*es.length) (2*es.length) rs/\WebT PL PS WC H p m es ts ks/\WebR PL PS WC H p es ks rs/\((∃ k:Nat,so rs S (MK (bu ks) es.length) k/\off=(k:Int)/\H tt=some (.tup [.non,.int (k:Int),.bl true]))∨(vw rs S (MK (bu ks) es.length)/\off = -1/\∃ N:Nat,LayS m es ks S N/\H tt=some (.tup [.int (N:Int),.non,.bl false])))/\∀ H',D.rt (.bl true) H'
theorem yJ{rs:List (List Nat)}{S M k:Nat}(h:so rs S M k)(e:vw rs S M):False:=by
 obtain⟨r,a,b⟩:=h.1
 exact b (e k r a)
theorem E4{m:Nat}{es:En}{ts:List (List Nat)}{ks:Kn}{S L L':Nat}(g:Gr m es ts)(m0:0<m)(h:LayS m es ks S L)(h':LayS m es ks S L'):L=L':=by
 have key:∀ q,q<m->(L.testBit q ^^ L'.testBit q)=false:=fun q hq=>by
  refine g.conn (fun p=>(L.testBit p ^^ L'.testBit p)=false) (fun e he=>?_) 0 q m0 hq (by rw[h.up,h'.up];rfl)
  obtain⟨t,ht⟩:=HS he
  have q1:=h.un t e ht
  have q2:=h'.un t e ht
  rw[q1]at q2
  revert q2
  cases L.testBit e.1<;>cases L.testBit e.2<;>cases L'.testBit e.1<;>cases L'.testBit e.2<;>cases bu ks t<;>decide
 refine GV fun q=>?_
 by_cases c:q<m
 ·have:=key q c
  revert this
  cases L.testBit q<;>cases L'.testBit q<;>decide
 ·rw[Hi (F2 h.lt (Hq (by decide) (by omega))),Hi (F2 h'.lt (Hq (by decide) (by omega)))]
section
variable{P:Program}{w:World}{K:Fw}{mg:Str->Option Value}{base:Heap}
theorem CS{H:Hp}{p:Addr}{u v x:V}{a b c:PyData}(h:H p=some (.tup [u,v,x]))(h1:RdD K H u a)(h2:RdD K H v b)(h3:RdD K H x c):RdD K H (.ref p) (.tuple [a,b,c]):=by
 refine RdD.tup (SqT.of h) rfl fun j y d' q1 q2=>?_
 match j with
 |0=>cases q1;cases q2;exact h1
 |1=>cases q1;cases q2;exact h2
 |2=>cases q1;cases q2;exact h3
 |j+3=>cases q1
theorem zc(k:Int):SeqAt.shaped (.tuple [.none,.int k,.bool true])=true:=by
 simp[SeqAt.shaped,PyData.canLay0,PyData.canLayAll0,PyData.depth,PyData.depthAll]
theorem zb(k:Int):SeqAt.shaped (.tuple [.int k,.none,.bool false])=true:=by
 simp[SeqAt.shaped,PyData.canLay0,PyData.canLayAll0,PyData.depth,PyData.depthAll]
theorem mU:aD ["script","built","laying","some","off","web","told"] ["script"] (ai qp):=⟨rfl,rfl,rfl,by decide +kernel,rfl,by decide +kernel,by decide +kernel⟩
theorem ok_law{f fB fC fM fW fU fS fO fT fw PL PS WC:Addr}{fd dB dC dM dW dU dS dO dT dw:FuncData} (F:Fun K "law" "law" qp f fd) (T:Txt mg) (cw:CW K WC) (G_law_built:Cal P w K mg base 5 "_law_built" ["script","first","most"] (qa K) fB dB) (G_law_cell:Cal P w K mg base 1 "_law_cell" ["script","k"] (yB K) fC dC) (G_law_mask:Cal P w K mg base 1 "_law_mask" ["cell","many"] pY fM dM)
  (G_law_web:Cal P w K mg base 7 "_law_web" ["built"] (AR PL PS WC) fW dW) (G_law_unpleased:Cal P w K mg base 1 "_law_unpleased" ["built","laying"] yA fU dU) (G_law_set:Cal P w K mg base 2 "_law_set" ["built","cell","laying"] El fS dS) (G_law_first_off:Cal P w K mg base 5 "_law_first_off" ["built","some"] spFO fO dO)
  (G_law_told:Cal P w K mg base 5 "_law_told" ["web","some"] (AN PL PS WC) fT dT) (G_law_whole:Cal P w K mg base 1 "_law_whole" ["found"] Ep fw dw):FnOk P w K mg base CX0 8 f fd ["script"] (CV K):=by
 refine F.ok mU (fun vs H Q E h=>?_) (fun cdv A outer s H vs Q E hr h=>?_)
 ·obtain⟨a,ns,rfl,_⟩:=h
  rfl
 obtain⟨a,ns,rfl,hS,h63,kk⟩:=h
 have hu64:=hr.units
 have kinOf:∀{H:Hp}{t pe pt pk:Addr}{m:Nat}{es:En}{ts:List (List Nat)}{ks:Kn},fF H t pe pt pk m es ts ks->∀ k∈ks,k.1=0∨k.1=1:=fun{H t pe pt pk m es ts ks} bp k hk=>by
  obtain⟨_,_,⟨ws,_,tk⟩,_,_⟩:=bp
  obtain⟨i,hi,e⟩:=Ha hk
  exact(tk.2 i k (by rw[Fu hi,e])).1
 have mpos:∀{m:Nat}{es:En}{ts:List (List Nat)},Gr m es ts->0<es.length->0<m:=fun{m es ts} g e0=>by
  obtain⟨e,he⟩:∃ e,es[0]?=some e:=⟨_,Fu e0⟩
  have:=(g.w.ends e (Fx he)).1
  omega
 refine⟨_,(ae (ar (i:=1) mU.nd rfl (Or.inl rfl) (ay G_law_built.ok (hr.mono (by decide)) rfl G_law_built.mg G_law_built.kp G_law_built.bn .nil aT (aa (pv 0) (aa ag (aa ag ah)))))
   (ae (ar (i:=2) mU.nd rfl (Or.inl rfl) (ay G_law_mask.ok (hr.mono (by decide)) rfl G_law_mask.mg G_law_mask.kp G_law_mask.bn .nil aT (aa (ay G_law_cell.ok (hr.mono (by decide)) rfl G_law_cell.mg G_law_cell.kp G_law_cell.bn .nil aT (aa (pv 0) (aa ag ah))) (aa (aB aq (by rfl) T.n_len bf (aa (ax aE (pv 1) ag (fun _ _=>rfl)) ah)) ah))))
   (ae (ar (i:=3) mU.nd rfl (Or.inl rfl) (ay G_law_set.ok (hr.mono (by decide)) rfl G_law_set.mg G_law_set.kp G_law_set.bn .nil aT (aa (pv 1) (aa (ay G_law_cell.ok (hr.mono (by decide)) rfl G_law_cell.mg G_law_cell.kp G_law_cell.bn .nil aT (aa (pv 0) (aa ag ah))) (aa (pv 2) ah)))))
   (ae (ar (i:=4) mU.nd rfl (Or.inl rfl) (ay G_law_first_off.ok (hr.mono (by decide)) rfl G_law_first_off.mg G_law_first_off.kp G_law_first_off.bn .nil aT (aa (pv 1) (aa (pv 3) ah))))
   (vY (t2:=restA K) (ae (ar (i:=5) mU.nd rfl (Or.inl rfl) (ay G_law_web.ok (hr.mono (by decide)) rfl G_law_web.mg G_law_web.kp G_law_web.bn .nil aT (aa (pv 1) ah)))
   (ae (ar (i:=6) mU.nd rfl (Or.inl rfl) (ay G_law_told.ok (hr.mono (by decide)) rfl G_law_told.mg G_law_told.kp G_law_told.bn .nil aT (aa (pv 5) (aa (pv 3) ah))))
   (vY (t2:=restB K PL PS WC) (ae (dz (PW.pt (vX (aH (Bp hu64) (cT (pv 5) rfl) (ax aE (pv 1) ag (fun _ _=>rfl)) (aP _)) (sU (aH (Bp hu64) (ay G_law_told.ok (hr.mono (by decide)) rfl G_law_told.mg G_law_told.kp G_law_told.bn .nil aT (aa (pv 5) (aa (pv 3) ah))) (pv 6) (aP _))))) (aj (aR C6)) bo)
   (ae (dz (aH C7 (pv 4) ag (aP _)) (aj (aR (tE (ax aE (pv 6) ag (fun _ _=>rfl)) (tE (ay G_law_whole.ok (hr.mono (by decide)) rfl G_law_whole.mg G_law_whole.kp G_law_whole.bn .nil aT (aa (ax aE (pv 6) ag (fun _ _=>rfl)) ah)) (yF (qF iW (ax aE (pv 6) ag (fun _ _=>rfl)) (pv 4) (aP _))))))) bo)
   (ae (dz (PW.pt (vX (DP (ax aE (pv 6) ag (fun _ _=>rfl))) (vX (pt_not (DP (ay G_law_whole.ok (hr.mono (by decide)) rfl G_law_whole.mg G_law_whole.kp G_law_whole.bn .nil aT (aa (ax aE (pv 6) ag (fun _ _=>rfl)) ah)))) (vX (aH Bq (ax aE (pv 6) ag (fun _ _=>rfl)) ag (aP _)) (sU (aH C7 (ax aE (pv 6) ag (fun _ _=>rfl)) (av iO ag (aB aq (by rfl) T.n_len bf (aa (ax aE (pv 1) ag (fun _ _=>rfl)) ah))) (aP _))))))) (aj (aR C6)) bo)
   (aj (aR (tE (qF iW (av bw (ax aE (pv 6) ag (fun _ _=>rfl)) ag) ag (aP _)) (yF (qF iW (ay G_law_unpleased.ok (hr.mono (by decide)) rfl G_law_unpleased.mg G_law_unpleased.kp G_law_unpleased.bn .nil aT (aa (pv 1) (aa (ax aE (pv 6) ag (fun _ _=>rfl)) ah))) (pv 3) (aP _))))))))) (fun D0 S0 H0 h0=>?restb)))) (fun D0 S0 H0 h0=>?resta)))))),?_⟩
 case restb =>
  obtain⟨a,t,pe,pt,pk,p,tt,L,S,m,off,es,ts,ks,rs,rfl,bp,e0,hS2,ro,wt,wr,wh,kk⟩:=h0
  have g:=bp.w.g
  have mf:=lj g
  have few:=bp.few
  have kl:=bp.kl
  have kin:=kinOf bp
  have m0:=mpos g e0
  obtain⟨ht,⟨_,⟨xs,hpt,hR⟩,_⟩,_,_,_⟩:=id bp
  have hxm:xs.length=m:=by rw[hR.1,g.w.len]
  obtain⟨dx,fs,q1,us,q3,z3,hp,lm,l1,h1,tk,l3,h3,rw3⟩:=id wt
  refine⟨_,rfl,p,WC,dx,fs,_,rfl,hp,cw.cl,cw.n3,l3,_,rfl,t,_,1,_,rfl,rfl,SqT.of ht,at31,_,qq (SqL.of h3) rw3,qq (SqL.of hpt) hR,mV _,_,rfl,iteF ?_⟩
  refine⟨_,rfl,_,rfl,p,S,m,es,ts,ks,rs,rfl,wt,wr,g,ro,kl,m0,by omega,by omega,kin,fun k hk t2 H2 s2 ht2=>?_,fun ev N2 t2 H2 s2 ly2 ht2=>?_⟩
  ·rcases wh with⟨k',hk',eo,htt⟩ | ⟨ev,_⟩
   ·have ek:=Bv hk hk'
    subst ek
    subst eo
    have htt2:=s2 _ _ htt
    refine⟨_,rfl,_,CS ht2 .non (.int _) (.bl _),CS htt2 .non (.int _) (.bl _),zc _,_,rfl,iteF ?_⟩
    refine⟨_,rfl,_,_,rfl,rfl,_,rfl,ite2 (fun _=>?_) (fun c=>absurd (decide_eq_true (show(0:Int)<=(k:Int) by omega)) c)⟩
    refine⟨_,rfl,tt,_,2,_,rfl,rfl,SqT.of htt2,at32,_,rfl,iteT ?_⟩
    refine⟨_,rfl,tt,_,1,_,rfl,rfl,SqT.of htt2,at31,(k:Int),rfl,_,rfl,iteT ?_⟩
    refine⟨_,rfl,tt,_,1,_,rfl,rfl,SqT.of htt2,at31,_,rfl,rfl,?_⟩
    rw[decide_eq_true rfl]
    exact kk _
   ·exact(yJ hk ev).elim
  ·rcases wh with⟨k',hk',_⟩ | ⟨_,eo,N,ly,htt⟩
   ·exact(yJ hk' ev).elim
   have eN:=E4 g m0 ly2 ly
   subst eN
   subst eo
   have htt2:=s2 _ _ htt
   have ht3:=s2 _ _ ht
   have hpt3:=s2 _ _ hpt
   have nlt:=ly.lt
   have eshl:(1:Int)*2^((m:Nat):Int).toNat=((2^m:Nat):Int):=shlN m
   have even:(N2:Int)%2=0:=by
    have:=ly.up
    rw[Nat.testBit_zero]at this
    have:¬ N2%2=1:=fun z=>by rw[decide_eq_true z]at this;cases this
    omega
   refine⟨_,rfl,_,CS ht2 (.int _) .non (.bl _),CS htt2 (.int _) .non (.bl _),zb _,_,rfl,iteF ?_⟩
   refine⟨_,rfl,_,_,rfl,rfl,_,rfl,ite2 (fun c=>absurd (of_decide_eq_true c) (by decide)) (fun _=>?_)⟩
   refine⟨_,rfl,tt,_,2,_,rfl,rfl,SqT.of htt2,at32,_,rfl,iteF ?_⟩
   refine⟨_,rfl,tt,_,0,_,rfl,rfl,SqT.of htt2,at30,(N2:Int),rfl,_,rfl,iteF ?_⟩
   refine⟨_,rfl,tt,_,0,_,rfl,rfl,SqT.of htt2,at30,_,_,rfl,rfl,_,rfl,ite2 (fun c=>absurd (of_decide_eq_true c) (by omega)) (fun _=>?_)⟩
   refine⟨_,rfl,tt,_,0,_,rfl,rfl,SqT.of htt2,at30,_,rfl,t,_,1,_,rfl,rfl,SqT.of ht3,at31,pt,xs,rfl,.inl (SqL.of hpt3),_,_,rfl,rfl,⟨by omega,by omega,by decide⟩,_,_,rfl,rfl,_,rfl,ite2 (fun c=>absurd (of_decide_eq_true c) ?_) (fun _=>?_)⟩
   ·rw[hxm,eshl]
    have:(N2:Int)<((2^m:Nat):Int):=Int.ofNat_lt.mpr nlt
    omega
   refine⟨_,rfl,tt,_,0,_,rfl,rfl,SqT.of htt2,at30,_,_,rfl,rfl,(by show(0:Int)<2;decide),rfl,_,rfl,?_⟩
   have e2:decide (V.int ((N2:Int)%2)=V.int 0)=true:=decide_eq_true (congrArg V.int even)
   show if decide (V.int ((N2:Int)%2)=V.int 0)=true then _ else _
   rw[e2]
   refine iteT ?_
   refine⟨_,rfl,_,rfl,tt,_,0,_,rfl,rfl,SqT.of htt2,at30,t,pe,pt,pk,m,es,ts,ks,(N2:Int),rfl,bp.mono s2,?_⟩
   rw[lay_un ly hS2 kl kin]
   refine⟨_,rfl,rfl,?_⟩
   rw[decide_eq_true rfl]
   exact kk _
 case resta =>
  obtain⟨a,t,pe,pt,pk,L,S,m,off,es,ts,ks,rs,rfl,bp,e0,hS2,ro,wh,kk⟩:=h0
  have g:=bp.w.g
  have mf:=lj g
  have few:=bp.few
  have kl:=bp.kl
  have kin:=kinOf bp
  have m0:=mpos g e0
  refine⟨_,rfl,t,pe,pt,pk,m,es,ts,ks,rfl,bp,e0,fun p rs2 H3 s3 wf=>?_⟩
  have er:rs=rs2:=by
   obtain⟨_,_,_,_,_,wg,_⟩:=id wf
   exact ro.eq wg.part
  subst er
  refine⟨_,rfl,_,rfl,p,S,m,es,ts,ks,rs,rfl,wf.t,wf.r,g,ro,kl,m0,by omega,by omega,kin,fun k hk t2 H4 s4 ht2=>?_,fun ev N t2 H4 s4 ly ht2=>?_⟩
  ·rcases wh with⟨k',hk',eo⟩ | ⟨ev,_⟩
   ·have ek:=Bv hk hk'
    subst ek
    exact⟨a,t,pe,pt,pk,p,t2,L,S,m,off,es,ts,ks,rs,rfl,bp.mono (s3.trans s4),e0,hS2,ro,wf.t.mono s4,wf.r.mono s4,.inl ⟨k,hk,eo,ht2⟩,kk⟩
   ·exact(yJ hk ev).elim
  ·rcases wh with⟨k',hk',_⟩ | ⟨_,eo⟩
   ·exact(yJ hk' ev).elim
   ·exact⟨a,t,pe,pt,pk,p,t2,L,S,m,off,es,ts,ks,rs,rfl,bp.mono (s3.trans s4),e0,hS2,ro,wf.t.mono s4,wf.r.mono s4,.inr ⟨ev,eo,N,ly,ht2⟩,kk⟩
 refine⟨_,rfl,a,ns,rfl,hS,h63,fun t pe pt pk m es ts ks H1 s1 bp=>?_⟩
 have g:=bp.w.g
 have few:=bp.few
 obtain⟨ht,⟨_,⟨xs,hpt,hR⟩,_⟩,_,_,_⟩:=id bp
 have mf:=lj g
 have hxm:xs.length=m:=by rw[hR.1,g.w.len]
 have e0:0<es.length:=by
  cases es with
  |nil =>
   exfalso
   obtain⟨rs,p,c⟩:=g.part
   have:rs.length=0∨0<rs.length:=by omega
   rcases this with z | z
   ·have m2:m=2:=by simpa[z] using c
    have:=g.conn (fun x=>x=0) (fun e he=>nomatch he) 0 1 (by omega) (by omega) rfl
    cases this
   ·obtain⟨d,hd⟩:=(p.cr _ (Fx (Fu z))).ne
    have:=(p.cr _ (Fx (Fu z))).lt d hd
    cases this
  |cons e es=>exact Nat.succ_pos _
 refine⟨_,rfl,a,1,ns,rfl,s1.seq hS,_,rfl,t,_,1,_,rfl,rfl,SqT.of ht,at31,pt,xs,rfl,.inl (SqL.of hpt),_,m,(by rw[hxm];rfl),by omega,fun L _=>?_⟩
 refine⟨_,rfl,_,rfl,a,0,ns,rfl,s1.seq hS,_,rfl,t,pe,pt,pk,m,es,ts,ks,_,_,rfl,bp,e0,fun S hS2=>?_⟩
 refine⟨_,rfl,_,rfl,t,pe,pt,pk,m,S,es,ts,ks,rfl,bp,fun rs ro=>⟨fun k hk H2 s2=>?_,fun ev H2 s2=>?_⟩⟩
 ·exact⟨a,t,pe,pt,pk,_,S,m,_,es,ts,ks,rs,rfl,bp.mono s2,e0,hS2,ro,.inl ⟨k,hk,rfl⟩,fun H'=>kk H'⟩
 ·exact⟨a,t,pe,pt,pk,_,S,m,_,es,ts,ks,rs,rfl,bp.mono s2,e0,hS2,ro,.inr ⟨ev,rfl⟩,fun H'=>kk H'⟩
end
end K8
namespace K8
open PySem L2
def ercB(K:Fw)(D:Addr):Bool:=FJ K (.ref D) "__getattribute__" == some (some (.builtin "BaseException.__getattribute__"))&&FJ K (.ref D) "__getattr__" == some none&&GX K D (.type "BaseException") == some true&&GD K D
 && FJ K (.ref D) "__class__" == some (some (.builtin "object.__class__"))&&Ii K (.builtin "object.__class__") "__get__" == some (some (.builtin "getset_descriptor.__get__"))&&Ip K (.builtin "object.__class__") == some true&&GX K D (.type "object") == some true
theorem erc_of{K:Fw}{D:Addr}(h:ercB K D=true):ErC K D:=by
 unfold ercB at h
 simp only[G0,beq_iff_eq]at h
 obtain⟨⟨⟨⟨⟨⟨⟨a,b⟩,c⟩,d⟩,e⟩,f⟩,g⟩,i⟩:=h
 exact⟨a,b,c,d,e,f,g,i⟩
def ersB(K:Fw)(C fI:Addr):Bool:=pA K C fI&&FJ K (.ref C) "__setattr__" == some (some (.builtin "object.__setattr__"))&&FJ K (.ref C) "at" == some none&&GD K C
theorem ers_of{K:Fw}{C fI:Addr}(h:ersB K C fI=true):ErS K C fI "at":=by
 unfold ersB at h
 simp only[G0,beq_iff_eq]at h
 obtain⟨⟨⟨a,b⟩,c⟩,d⟩:=h
 exact⟨a,b,c,d⟩
def nlB(K:Fw)(NL FE:Addr):Bool:=ercB K NL&&FJ K (.ref NL) "at" == some none&&GX K NL (.ref NL) == some true&&GF K (.ref NL) (.ref FE) == some true&&GF K (.ref NL) (.type "ValueError") == some true
theorem nl_of{K:Fw}{mg:Str->Option Value}{NL FE:Addr}(h:nlB K NL FE=true):ErF K mg NL FE:=by
 unfold nlB at h
 simp only[G0,beq_iff_eq]at h
 obtain⟨⟨⟨⟨a,b⟩,c⟩,d⟩,e⟩:=h
 exact⟨erc_of a,b,c,d,e⟩
theorem all_mk{l:Ir}{w:World}{K:Fw}{h:Heap}{mg:Str->Option Value}{fa eO cf bF bE e8 aX jQ mL mM df f9 bz fz bK dJ yS jR iL eE f7 iG jP dg cR cv b8 iK iJ eI gc gf gd bS gg jS gb cx eF eG iI jT cy iH Fh:Addr}(X:K.In h)(G:h.Ns mainGlobals mg) (hfa:mg "law" = some (.ref fa))
  {jF ka zB Az Bx CH By CI oM o4 tM vg qN sh wK yp qM sg tS vn EX Fq zC AA wJ yo qH r6 tL vf wD yj zA Ay oN o5 mY n9 lS mq qL sf wI yn wH ym qK se tO vi tQ vk tP vj ki kS tR vm zD AB tN vh lT mr qI r8 qJ r9 wG yl zE AD lU mv wF yk od_law D9:Option Addr} {jB zf AW AX oF sJ ql vQ qk sQ Eu zg vP qd sH vK ze oG mR lL qj vO vN qi sM sO sN kd sP zh sL lM qf qg vM zi lN vL sl_law:Array (Option Value)} {jG jN jV jE eJ jW zG zX Aa zr pD Af Bz BR Ci Be uW Cn BA BS Cj Bf uX Co oO oS oW oH iP oY tV uq uG sW lq uO qU rp rM qB j9 rT wV xA xQ wq nQ x4 qT rm rL qA j8 rS t9 uy uM tq lC uU EY E9 Fl ED Cr Fn zH zY Ab zt pE Ag wU xy xP wo nP xZ qO rb rF qv jY rN tU uo uF sV lp uN wM xq xJ wd nK xU zF zW z9 zp pC Ae oP oU oX oJ iQ oZ mZ nz nF mX gX nG lV lZ l8 lP gu md qS rj rK qz j7 rR wR xw xO wm nO xY wQ xu xN wk nN xX qR rh rJ qy j6 rQ tZ uu uI sY lx uQ t6 uw uK tj lA uS t5 uv uJ sZ lz uR kj kD kI kg fD kJ t8 ux uL tm lB uT zI zZ Ac zu pF Ai tW ur uH sX lu uP lW l6 l9 lQ gv mh qP rf rG qw jZ rO qQ rg rH qx j4 rP wO xt xM wj nM xW zJ z0 Ad zv pG Aj lX l7 ma lR gw ml wN xr xK we nL xV oc_law DY D4 DS Cq D5:Value}
  (gq:FL K mainGlobals "FloorError" = some (some (.ref eO)))
  (jx:FL K mainGlobals "NoLaying" = some (some (.ref cf)))
  (yr:FL K mainGlobals "Pull" = some (some (.ref bF)))
  (yq:FL K mainGlobals "Push" = some (some (.ref bE)))
  (CK:FL K mainGlobals "Web" = some (some (.ref e8)))
  (gs:FJ K (.ref cf) "__init__" = some (some (.ref aX)))
  (gJ:FJ K (.ref bF) "__init__" = some (some (.ref bz)))
  (gI:FJ K (.ref bF) "wish" = some (some (.ref fz)))
  (eT:FJ K (.ref bF) "across" = some (some (.ref bK)))
  (gH:FJ K (.ref bE) "__init__" = some (some (.ref bz)))
  (gG:FJ K (.ref bE) "wish" = some (some (.ref dJ)))
  (eS:FJ K (.ref bE) "across" = some (some (.ref bK)))
  (i5:FJ K (.ref e8) "__init__" = some (some (.ref b8)))
  (cL:K.lookup aX=some ⟨jG,jF,.func (FU "__init__" "NoLaying.__init__" (aC aW) (az aW) (ai aW) .none jN jV jE ka eJ jW),jB⟩)
  (cO:FO K eJ "NoLaying.__init__" = true)
  (cM:FH K (.ref aX)=true)
  (cN:GU K (.ref aX)=true)
  (og:FL K mainGlobals "mask_of" = some (some (.ref jQ)))
  (nj:K.lookup jQ=some ⟨zG,zB,.func (FU "mask_of" "mask_of" (aC fe) (az fe) (ai fe) .none zX Aa zr Az pD Af),zf⟩)
  (nS:FO K pD "mask_of" = true)
  (jJ:FH K (.ref jQ)=true)
  (sj:FL K mainGlobals "pushes" = some (some (.ref mL)))
  (q8:K.lookup mL=some ⟨Bz,Bx,.func (FU "pushes" "pushes" (aC iu) (az iu) (ai iu) .none BR Ci Be CH uW Cn),AW⟩)
  (rV:FO K uW "pushes" = true)
  (mG:FH K (.ref mL)=true)
  (sk:FL K mainGlobals "odd_at" = some (some (.ref mM)))
  (ra:K.lookup mM=some ⟨BA,By,.func (FU "odd_at" "odd_at" (aC iw) (az iw) (ai iw) .none BS Cj Bf CI uX Co),AX⟩)
  (rW:FO K uX "odd_at" = true)
  (mH:FH K (.ref mM)=true)
  (gn:FL K mainGlobals "refuse_ties" = some (some (.ref df)))
  (fL:K.lookup df=some ⟨oO,oM,.func (FU "refuse_ties" "refuse_ties" (aC bM) (az bM) (ai bM) .none oS oW oH o4 iP oY),oF⟩)
  (gk:FO K iP "refuse_ties" = true)
  (dc:FH K (.ref df)=true)
  (jr:FL K mainGlobals "laying_of" = some (some (.ref f9)))
  (i7:K.lookup f9=some ⟨tV,tM,.func (FU "laying_of" "laying_of" (aC cD) (az cD) (ai cD) .none uq uG sW vg lq uO),sJ⟩)
  (ji:FO K lq "laying_of" = true)
  (fQ:FH K (.ref f9)=true)
  (gQ:K.lookup bz=some ⟨qU,qN,.func (FU "__init__" "Tie.__init__" (aC b7) (az b7) (ai b7) .none rp rM qB sh j9 rT),ql⟩)
  (hX:FO K j9 "Tie.__init__" = true)
  (gS:FH K (.ref bz)=true)
  (eA:GU K (.ref bz)=true)
  (kC:K.lookup fz=some ⟨wV,wK,.func (FU "wish" "Tie.wish" (aC dv) (az dv) (ai dv) .none xA xQ wq yp nQ x4),vQ⟩)
  (kQ:FO K nQ "Tie.wish" = true)
  (iF:FH K (.ref fz)=true)
  (kG:GU K (.ref fz)=true)
  (gP:K.lookup bK=some ⟨qT,qM,.func (FU "across" "Tie.across" (aC b6) (az b6) (ai b6) .none rm rL qA sg j8 rS),qk⟩)
  (hV:FO K j8 "Tie.across" = true)
  (cU:FH K (.ref bK)=true)
  (eu:GU K (.ref bK)=true)
  (jd:K.lookup dJ=some ⟨t9,tS,.func (FU "wish" "Push.wish" (aC cK) (az cK) (ai cK) .none uy uM tq vn lC uU),sQ⟩)
  (jo:FO K lC "Push.wish" = true)
  (f6:FH K (.ref dJ)=true)
  (je:GU K (.ref dJ)=true)
  (CJ:FL K mainGlobals "head" = some (some (.ref yS)))
  (BL:K.lookup yS=some ⟨EY,EX,.func (FU "head" "head" (aC pd) (az pd) (ai pd) .none E9 Fl ED Fq Cr Fn),Eu⟩)
  (Cw:FO K Cr "head" = true)
  (k_head:FH K (.ref yS)=true)
  (oh:FL K mainGlobals "leaving" = some (some (.ref jR)))
  (nk:K.lookup jR=some ⟨zH,zC,.func (FU "leaving" "leaving" (aC fi) (az fi) (ai fi) .none zY Ab zt AA pE Ag),zg⟩)
  (nU:FO K pE "leaving" = true)
  (jK:FH K (.ref jR)=true)
  (kZ:FL K mainGlobals "follower" = some (some (.ref iL)))
  (kB:K.lookup iL=some ⟨wU,wJ,.func (FU "follower" "follower" (aC du) (az du) (ai du) .none xy xP wo yo nP xZ),vP⟩)
  (kP:FO K nP "follower" = true)
  (iE:FH K (.ref iL)=true)
  (hZ:FL K mainGlobals "round_from" = some (some (.ref eE)))
  (gK:K.lookup eE=some ⟨qO,qH,.func (FU "round_from" "round_from" (aC bX) (az bX) (ai bX) .none rb rF qv r6 jY rN),qd⟩)
  (gZ:FO K jY "round_from" = true)
  (d8:FH K (.ref eE)=true)
  (jq:FL K mainGlobals "rounds_of" = some (some (.ref f7)))
  (i6:K.lookup f7=some ⟨tU,tL,.func (FU "rounds_of" "rounds_of" (aC cC) (az cC) (ai cC) .none uo uF sV vf lp uN),sH⟩)
  (jh:FO K lp "rounds_of" = true)
  (fP:FH K (.ref f7)=true)
  (kT:FL K mainGlobals "sides_of" = some (some (.ref iG)))
  (kq:K.lookup iG=some ⟨wM,wD,.func (FU "sides_of" "sides_of" (aC di) (az di) (ai di) .none xq xJ wd yj nK xU),vK⟩)
  (kK:FO K nK "sides_of" = true)
  (iz:FH K (.ref iG)=true)
  (oa:FL K mainGlobals "reached" = some (some (.ref jP)))
  (ni:K.lookup jP=some ⟨zF,zA,.func (FU "reached" "reached" (aC e9) (az e9) (ai e9) .none zW z9 zp Ay pC Ae),ze⟩)
  (nR:FO K pC "reached" = true)
  (jI:FH K (.ref jP)=true)
  (gp:FL K mainGlobals "refuse_ends" = some (some (.ref dg)))
  (fN:K.lookup dg=some ⟨oP,oN,.func (FU "refuse_ends" "refuse_ends" (aC bN) (az bN) (ai bN) .none oU oX oJ o5 iQ oZ),oG⟩)
  (gm:FO K iQ "refuse_ends" = true)
  (de:FH K (.ref dg)=true)
  (eZ:FL K mainGlobals "refuse_turns" = some (some (.ref cR)))
  (eV:K.lookup cR=some ⟨mZ,mY,.func (FU "refuse_turns" "refuse_turns" (aC bD) (az bD) (ai bD) .none nz nF mX n9 gX nG),mR⟩)
  (eY:FO K gX "refuse_turns" = true)
  (cQ:FH K (.ref cR)=true)
  (dX:FL K mainGlobals "refuse_parted" = some (some (.ref cv)))
  (dG:K.lookup cv=some ⟨lV,lS,.func (FU "refuse_parted" "refuse_parted" (aC bg) (az bg) (ai bg) .none lZ l8 lP mq gu md),lL⟩)
  (dP:FO K gu "refuse_parted" = true)
  (cn:FH K (.ref cv)=true)
  (gO:K.lookup b8=some ⟨qS,qL,.func (FU "__init__" "Web.__init__" (aC b5) (az b5) (ai b5) .none rj rK qz sf j7 rR),qj⟩)
  (hG:FO K j7 "Web.__init__" = true)
  (gR:FH K (.ref b8)=true)
  (gT:GU K (.ref b8)=true)
  (kY:FL K mainGlobals "_law_cell" = some (some (.ref iK)))
  (kA:K.lookup iK=some ⟨wR,wI,.func (FU "_law_cell" "_law_cell" (aC dt) (az dt) (ai dt) .none xw xO wm yn nO xY),vO⟩)
  (kO:FO K nO "_law_cell" = true)
  (iD:FH K (.ref iK)=true)
  (kX:FL K mainGlobals "_law_head" = some (some (.ref iJ)))
  (kz:K.lookup iJ=some ⟨wQ,wH,.func (FU "_law_head" "_law_head" (aC dq) (az dq) (ai dq) .none xu xN wk ym nN xX),vN⟩)
  (kN:FO K nN "_law_head" = true)
  (iC:FH K (.ref iJ)=true)
  (ia:FL K mainGlobals "_law_behind" = some (some (.ref eI)))
  (gN:K.lookup eI=some ⟨qR,qK,.func (FU "_law_behind" "_law_behind" (aC b4) (az b4) (ai b4) .none rh rJ qy se j6 rQ),qi⟩)
  (g9:FO K j6 "_law_behind" = true)
  (eh:FH K (.ref eI)=true)
  (jt:FL K mainGlobals "_law_round" = some (some (.ref gc)))
  (i9:K.lookup gc=some ⟨tZ,tO,.func (FU "_law_round" "_law_round" (aC cF) (az cF) (ai cF) .none uu uI sY vi lx uQ),sM⟩)
  (jk:FO K lx "_law_round" = true)
  (fV:FH K (.ref gc)=true)
  (jv:FL K mainGlobals "_law_grown" = some (some (.ref gf)))
  (jb:K.lookup gf=some ⟨t6,tQ,.func (FU "_law_grown" "_law_grown" (aC cH) (az cH) (ai cH) .none uw uK tj vk lA uS),sO⟩)
  (jm:FO K lA "_law_grown" = true)
  (fY:FH K (.ref gf)=true)
  (ju:FL K mainGlobals "_law_order" = some (some (.ref gd)))
  (ja:K.lookup gd=some ⟨t5,tP,.func (FU "_law_order" "_law_order" (aC cG) (az cG) (ai cG) .none uv uJ sZ vj lz uR),sN⟩)
  (jl:FO K lz "_law_order" = true)
  (fX:FH K (.ref gd)=true)
  (cZ:FL K mainGlobals "_law_renumbered" = some (some (.ref bS)))
  (cX:K.lookup bS=some ⟨kj,ki,.func (FU "_law_renumbered" "_law_renumbered" (aC bb) (az bb) (ai bb) .none kD kI kg kS fD kJ),kd⟩)
  (cY:FO K fD "_law_renumbered" = true)
  (bR:FH K (.ref bS)=true)
  (jw:FL K mainGlobals "_law_built" = some (some (.ref gg)))
  (jc:K.lookup gg=some ⟨t8,tR,.func (FU "_law_built" "_law_built" (aC cJ) (az cJ) (ai cJ) .none ux uL tm vm lB uT),sP⟩)
  (jn:FO K lB "_law_built" = true)
  (fZ:FH K (.ref gg)=true)
  (oi:FL K mainGlobals "_law_web" = some (some (.ref jS)))
  (nt:K.lookup jS=some ⟨zI,zD,.func (FU "_law_web" "_law_web" (aC fj) (az fj) (ai fj) .none zZ Ac zu AB pF Ai),zh⟩)
  (nV:FO K pF "_law_web" = true)
  (jL:FH K (.ref jS)=true)
  (js:FL K mainGlobals "_law_whole" = some (some (.ref gb)))
  (i8:K.lookup gb=some ⟨tW,tN,.func (FU "_law_whole" "_law_whole" (aC cE) (az cE) (ai cE) .none ur uH sX vh lu uP),sL⟩)
  (jj:FO K lu "_law_whole" = true)
  (fR:FH K (.ref gb)=true)
  (dY:FL K mainGlobals "_law_unpleased" = some (some (.ref cx)))
  (dH:K.lookup cx=some ⟨lW,lT,.func (FU "_law_unpleased" "_law_unpleased" (aC bh) (az bh) (ai bh) .none l6 l9 lQ mr gv mh),lM⟩)
  (dQ:FO K gv "_law_unpleased" = true)
  (cp:FH K (.ref cx)=true)
  (h7:FL K mainGlobals "_law_rounds" = some (some (.ref eF)))
  (gL:K.lookup eF=some ⟨qP,qI,.func (FU "_law_rounds" "_law_rounds" (aC bY) (az bY) (ai bY) .none rf rG qw r8 jZ rO),qf⟩)
  (g7:FO K jZ "_law_rounds" = true)
  (d9:FH K (.ref eF)=true)
  (h9:FL K mainGlobals "_law_parity" = some (some (.ref eG)))
  (gM:K.lookup eG=some ⟨qQ,qJ,.func (FU "_law_parity" "_law_parity" (aC bZ) (az bZ) (ai bZ) .none rg rH qx r9 j4 rP),qg⟩)
  (g8:FO K j4 "_law_parity" = true)
  (eg:FH K (.ref eG)=true)
  (kW:FL K mainGlobals "_law_mask" = some (some (.ref iI)))
  (ku:K.lookup iI=some ⟨wO,wG,.func (FU "_law_mask" "_law_mask" (aC dm) (az dm) (ai dm) .none xt xM wj yl nM xW),vM⟩)
  (kM:FO K nM "_law_mask" = true)
  (iB:FH K (.ref iI)=true)
  (oj:FL K mainGlobals "_law_set" = some (some (.ref jT)))
  (nu:K.lookup jT=some ⟨zJ,zE,.func (FU "_law_set" "_law_set" (aC fk) (az fk) (ai fk) .none z0 Ad zv AD pG Aj),zi⟩)
  (nW:FO K pG "_law_set" = true)
  (jM:FH K (.ref jT)=true)
  (dZ:FL K mainGlobals "_law_first_off" = some (some (.ref cy)))
  (dI:K.lookup cy=some ⟨lX,lU,.func (FU "_law_first_off" "_law_first_off" (aC bj) (az bj) (ai bj) .none l7 ma lR mv gw ml),lN⟩)
  (dR:FO K gw "_law_first_off" = true)
  (cu:FH K (.ref cy)=true)
  (kU:FL K mainGlobals "_law_told" = some (some (.ref iH)))
  (kr:K.lookup iH=some ⟨wN,wF,.func (FU "_law_told" "_law_told" (aC dj) (az dj) (ai dj) .none xr xK we yk nL xV),vL⟩)
  (kL:FO K nL "_law_told" = true)
  (iA:FH K (.ref iH)=true)
  (DL:FL K mainGlobals "law" = some (some (.ref Fh)))
  (E6:K.lookup Fh=some ⟨oc_law,od_law,.func (FU "law" "law" (aC qp) (az qp) (ai qp) .none DY D4 DS D9 Cq D5),sl_law⟩)
  (Fo:FO K Cq "law" = true)
  (E8:FH K (.ref Fh)=true)
  (wy:GZ K bF Str.empty=true)
  (xE:GD K bF=true)
  (wc:Hk K bF=true)
  (vW:FJ K (.ref bF) "__setattr__" = some (some (.builtin "object.__setattr__")))
  (wY:Hs K bF=true)
  (xp:FH K (.ref bF)=true)
  (i4:FJ K (.ref bF) "one" = some none)
  (i3:FJ K (.ref bF) "two" = some none)
  (cW:FJ K (.ref bF) "strength" = some none)
  (wx:GZ K bE Str.empty=true)
  (xD:GD K bE=true)
  (wa:Hk K bE=true)
  (vV:FJ K (.ref bE) "__setattr__" = some (some (.builtin "object.__setattr__")))
  (wX:Hs K bE=true)
  (xk:FH K (.ref bE)=true)
  (i0:FJ K (.ref bE) "one" = some none)
  (iZ:FJ K (.ref bE) "two" = some none)
  (cV:FJ K (.ref bE) "strength" = some none)
  (Bh:GZ K e8 Str.empty=true)
  (Ca:GD K e8=true)
  (Bd:Hk K e8=true)
  (A5:FJ K (.ref e8) "__setattr__" = some (some (.builtin "object.__setattr__")))
  (BE:Hs K e8=true)
  (BQ:FH K (.ref e8)=true)
  (iY:FJ K (.ref e8) "many" = some none)
  (iX:FJ K (.ref e8) "ties" = some none)
  (gE:FJ K (.ref e8) "turns" = some none)
  (fK:FJ K (.ref e8) "rounds" = some none)
  (gF:FJ K (.ref e8) "sides" = some none)
  (kb_:nlB K cf eO=true)
  (es2_:ersB K cf aX=true)
  (Ed:FL K mainGlobals "len" = some none)
  (Ee:FL K mainGlobals "int" = some none)
  (AF:FL K mainGlobals "bool" = some none)
  (AE:FL K mainGlobals "list" = some none)
  (vx:FL K mainGlobals "tuple" = some none)
  (vy:FL K mainGlobals "range" = some none)
  (iT:FL K mainGlobals "enumerate" = some none)
  (gA:FL K mainGlobals "isinstance" = some none)
  (Ec:FL K mainGlobals "min" = some none)
  (Eb:FL K mainGlobals "sum" = some none)
  (pR:FL K mainGlobals "sorted" = some none)
  (gB:FL K mainGlobals "ValueError" = some none)
  : ∃ fd:FuncData,(∀(s:Shared)(v:Value),BindsTo s fd ⟨[v],[]⟩ [("script",v)])/\∀ base:Heap,K.In base->base.Ns mainGlobals mg->FnOk l.prog w K mg base CX0 8 fa fd ["script"] (CV K):=by
 have e:=hfa.symm.trans (FX X G DL)
 cases e
 have fE:=aN (st:=aW) cL cO cM
 have kR:=fE.binds (ps:=["self","at"]) fun _ _ _ _ _ _ us hl=>by obtain⟨x0,x1,rfl⟩:=fu hl;rfl
 have vp:=aN (st:=fe) nj nS jJ
 have CA:=vp.binds (ps:=["places"]) fun _ _ _ _ _ _ us hl=>by obtain⟨x0,rfl⟩:=qZ hl;rfl
 have y6:=aN (st:=iu) q8 rV mG
 have DI:=y6.binds (ps:=["web"]) fun _ _ _ _ _ _ us hl=>by obtain⟨x0,rfl⟩:=qZ hl;rfl
 have y7:=aN (st:=iw) ra rW mH
 have DJ:=y7.binds (ps:=["web","ties","number"]) fun _ _ _ _ _ _ us hl=>by obtain⟨x0,x1,x2,rfl⟩:=oR hl;rfl
 have kb:=aN (st:=bM) fL gk dc
 have rY:=kb.binds (ps:=["web","ties"]) fun _ _ _ _ _ _ us hl=>by obtain⟨x0,x1,rfl⟩:=fu hl;rfl
 have ot:=aN (st:=cD) i7 ji fQ
 have yb:=ot.binds (ps:=["web","ties"]) fun _ _ _ _ _ _ us hl=>by obtain⟨x0,x1,rfl⟩:=fu hl;rfl
 have lK:=aN (st:=b7) gQ hX gS
 have lE:=lK.binds (ps:=["self","one","two","strength"]) fun _ _ _ _ _ _ us hl=>by obtain⟨x0,x1,x2,x3,rfl⟩:=E3 hl;rfl
 have pQ:=aN (st:=dv) kC kQ iF
 have Ax:=pQ.binds (ps:=["self"]) fun _ _ _ _ _ _ us hl=>by obtain⟨x0,rfl⟩:=qZ hl;rfl
 have ik:=aN (st:=b6) gP hV cU
 have lD:=ik.binds (ps:=["self","place"]) fun _ _ _ _ _ _ us hl=>by obtain⟨x0,x1,rfl⟩:=fu hl;rfl
 have oB:=aN (st:=cK) jd jo f6
 have yh:=oB.binds (ps:=["self"]) fun _ _ _ _ _ _ us hl=>by obtain⟨x0,rfl⟩:=qZ hl;rfl
 have Ea:=aN (st:=pd) BL Cw k_head
 have b_head:=Ea.binds (ps:=["ties","dart"]) fun _ _ _ _ _ _ us hl=>by obtain⟨x0,x1,rfl⟩:=fu hl;rfl
 have vq:=aN (st:=fi) nk nU jK
 have CB:=vq.binds (ps:=["ties","number","place"]) fun _ _ _ _ _ _ us hl=>by obtain⟨x0,x1,x2,rfl⟩:=oR hl;rfl
 have pP:=aN (st:=du) kB kP iE
 have Aw:=pP.binds (ps:=["ties","turns","dart"]) fun _ _ _ _ _ _ us hl=>by obtain⟨x0,x1,x2,rfl⟩:=oR hl;rfl
 have lF:=aN (st:=bX) gK gZ d8
 have va:=lF.binds (ps:=["ties","turns","first"]) fun _ _ _ _ _ _ us hl=>by obtain⟨x0,x1,x2,rfl⟩:=oR hl;rfl
 have oq:=aN (st:=cC) i6 jh fP
 have ya:=oq.binds (ps:=["ties","turns"]) fun _ _ _ _ _ _ us hl=>by obtain⟨x0,x1,rfl⟩:=fu hl;rfl
 have pK:=aN (st:=di) kq kK iz
 have Aq:=pK.binds (ps:=["ties","rounds"]) fun _ _ _ _ _ _ us hl=>by obtain⟨x0,x1,rfl⟩:=fu hl;rfl
 have vo:=aN (st:=e9) ni nR jI
 have Cz:=vo.binds (ps:=["start","pairs"]) fun _ _ _ _ _ _ us hl=>by obtain⟨x0,x1,rfl⟩:=fu hl;rfl
 have kc:=aN (st:=bN) fN gm de
 have rZ:=kc.binds (ps:=["many","ties"]) fun _ _ _ _ _ _ us hl=>by obtain⟨x0,x1,rfl⟩:=fu hl;rfl
 have iS:=aN (st:=bD) eV eY cQ
 have o3:=iS.binds (ps:=["many","ties","turns"]) fun _ _ _ _ _ _ us hl=>by obtain⟨x0,x1,x2,rfl⟩:=oR hl;rfl
 have ic:=aN (st:=bg) dG dP cn
 have nZ:=ic.binds (ps:=["many","ties"]) fun _ _ _ _ _ _ us hl=>by obtain⟨x0,x1,rfl⟩:=fu hl;rfl
 have lJ:=aN (st:=b5) gO hG gR
 have ve:=lJ.binds (ps:=["self","many","ties","turns"]) fun _ _ _ _ _ _ us hl=>by obtain⟨x0,x1,x2,x3,rfl⟩:=E3 hl;rfl
 have pO:=aN (st:=dt) kA kO iD
 have Av:=pO.binds (ps:=["script","k"]) fun _ _ _ _ _ _ us hl=>by obtain⟨x0,x1,rfl⟩:=fu hl;rfl
 have pN:=aN (st:=dq) kz kN iC
 have Au:=pN.binds (ps:=["ends","dart"]) fun _ _ _ _ _ _ us hl=>by obtain⟨x0,x1,rfl⟩:=fu hl;rfl
 have lI:=aN (st:=b4) gN g9 eh
 have vd:=lI.binds (ps:=["ends","turns","dart"]) fun _ _ _ _ _ _ us hl=>by obtain⟨x0,x1,x2,rfl⟩:=oR hl;rfl
 have ox:=aN (st:=cF) i9 jk fV
 have yd:=ox.binds (ps:=["ends","turns","dart"]) fun _ _ _ _ _ _ us hl=>by obtain⟨x0,x1,x2,rfl⟩:=oR hl;rfl
 have oz:=aN (st:=cH) jb jm fY
 have yf:=oz.binds (ps:=["cells"]) fun _ _ _ _ _ _ us hl=>by obtain⟨x0,rfl⟩:=qZ hl;rfl
 have oy:=aN (st:=cG) ja jl fX
 have ye:=oy.binds (ps:=["cell","many"]) fun _ _ _ _ _ _ us hl=>by obtain⟨x0,x1,rfl⟩:=fu hl;rfl
 have gy:=aN (st:=bb) cX cY bR
 have mn:=gy.binds (ps:=["grown","cell"]) fun _ _ _ _ _ _ us hl=>by obtain⟨x0,x1,rfl⟩:=fu hl;rfl
 have oA:=aN (st:=cJ) jc jn fZ
 have yg:=oA.binds (ps:=["script","first","most"]) fun _ _ _ _ _ _ us hl=>by obtain⟨x0,x1,x2,rfl⟩:=oR hl;rfl
 have vt:=aN (st:=fj) nt nV jL
 have CC:=vt.binds (ps:=["built"]) fun _ _ _ _ _ _ us hl=>by obtain⟨x0,rfl⟩:=qZ hl;rfl
 have ou:=aN (st:=cE) i8 jj fR
 have yc:=ou.binds (ps:=["found"]) fun _ _ _ _ _ _ us hl=>by obtain⟨x0,rfl⟩:=qZ hl;rfl
 have ig:=aN (st:=bh) dH dQ cp
 have n0:=ig.binds (ps:=["built","laying"]) fun _ _ _ _ _ _ us hl=>by obtain⟨x0,x1,rfl⟩:=fu hl;rfl
 have lG:=aN (st:=bY) gL g7 d9
 have vb:=lG.binds (ps:=["built"]) fun _ _ _ _ _ _ us hl=>by obtain⟨x0,rfl⟩:=qZ hl;rfl
 have lH:=aN (st:=bZ) gM g8 eg
 have vc:=lH.binds (ps:=["ties","row"]) fun _ _ _ _ _ _ us hl=>by obtain⟨x0,x1,rfl⟩:=fu hl;rfl
 have pM:=aN (st:=dm) ku kM iB
 have As:=pM.binds (ps:=["cell","many"]) fun _ _ _ _ _ _ us hl=>by obtain⟨x0,x1,rfl⟩:=fu hl;rfl
 have vv:=aN (st:=fk) nu nW jM
 have CD:=vv.binds (ps:=["built","cell","laying"]) fun _ _ _ _ _ _ us hl=>by obtain⟨x0,x1,x2,rfl⟩:=oR hl;rfl
 have ij:=aN (st:=bj) dI dR cu
 have n8:=ij.binds (ps:=["built","some"]) fun _ _ _ _ _ _ us hl=>by obtain⟨x0,x1,rfl⟩:=fu hl;rfl
 have pL:=aN (st:=dj) kr kL iA
 have Ar:=pL.binds (ps:=["web","some"]) fun _ _ _ _ _ _ us hl=>by obtain⟨x0,x1,rfl⟩:=fu hl;rfl
 have F_law:=aN (st:=qp) E6 Fo E8
 refine⟨FU "law" "law" (aC qp) (az qp) (ai qp) .none DY D4 DS D9 Cq D5,fun s v=>.of_eq rfl,fun base _ _=>?_⟩
 have BG:=FX X G og
 have Dp:=FX X G sj
 have Dq:=FX X G sk
 have qX:=FX X G gn
 have xc:=FX X G jr
 have m_head:=FX X G CJ
 have BH:=FX X G oh
 have zU:=FX X G kZ
 have uc:=FX X G hZ
 have xb:=FX X G jq
 have zP:=FX X G kT
 have BF:=FX X G oa
 have qY:=FX X G gp
 have oQ:=FX X G eZ
 have m7:=FX X G dX
 have zT:=FX X G kY
 have zS:=FX X G kX
 have uf:=FX X G ia
 have xg:=FX X G jt
 have xi:=FX X G jv
 have xh:=FX X G ju
 have lY:=FX X G cZ
 have xj:=FX X G jw
 have BI:=FX X G oi
 have xf:=FX X G js
 have m8:=FX X G dY
 have ud:=FX X G h7
 have ue:=FX X G h9
 have zR:=FX X G kW
 have BJ:=FX X G oj
 have m9:=FX X G dZ
 have zQ:=FX X G kU
 have m_law:=FX X G DL
 have ug:=FX X G gq
 have zV:=FX X G jx
 have m_Pull:=FX X G yr
 have m_Push:=FX X G yq
 have m_Web:=FX X G CK
 have n_len:=Gq X G Ed
 have n_int:=Gq X G Ee
 have n_bool:=Gq X G AF
 have n_list:=Gq X G AE
 have n_tuple:=Gq X G vx
 have n_range:=Gq X G vy
 have n_enumerate:=Gq X G iT
 have n_isinstance:=Gq X G gA
 have n_min:=Gq X G Ec
 have n_sum:=Gq X G Eb
 have n_sorted:=Gq X G pR
 have n_ValueError:=Gq X G gB
 have TL:CT K bF:=⟨⟨wy,xE,wc,vW⟩,i4,i3,cW⟩
 have TS:CT K bE:=⟨⟨wx,xD,wa,vV⟩,i0,iZ,cV⟩
 have cw:CW K e8:=⟨⟨Bh,Ca,Bd,A5⟩,iY,iX,gE,fK,gF⟩
 have T:Txt mg:=⟨n_len,n_int,n_bool,n_list,n_tuple,n_range,n_enumerate,n_isinstance,n_min,n_sum,n_sorted⟩
 have GI:FnOk l.prog w K mg base CX0 1 bz _ _ (o8 K):=ES lK
 have ML:Mak l.prog w K mg base 1 "Pull" _ (o8 K) bF bz _:=⟨⟨wY,gJ,eA,xp⟩,GI,lE,m_Pull⟩
 have MS:Mak l.prog w K mg base 1 "Push" _ (o8 K) bE bz _:=⟨⟨wX,gH,eA,xk⟩,GI,lE,m_Push⟩
 have Gh:Cal l.prog w K mg base 1 "head" _ (AS K) yS _:=⟨ET Ea,b_head,m_head,k_head⟩
 have Gl:Cal l.prog w K mg base 1 "leaving" _ (AQ K) jR _:=⟨zx vq,CB,BH,jK⟩
 have Gf:Cal l.prog w K mg base 2 "follower" _ (Es K) iL _:=⟨wC pP T Gh Gl,Aw,zU,iE⟩
 have Gr:Cal l.prog w K mg base 3 "round_from" _ (AU K) eE _:=⟨EU lF Gf,va,uc,d8⟩
 have GR:Cal l.prog w K mg base 4 "rounds_of" _ (pW K) f7 _:=⟨Bs oq T Gr,ya,xb,fP⟩
 have GS:Cal l.prog w K mg base 1 "sides_of" _ (vC K) iG _:=⟨De pK T,Aq,zP,iz⟩
 have wL:Met l.prog w K mg base 1 bF "wish" _ (la false) fz _:=⟨⟨gI,kG,iF⟩,C9 pQ,Ax⟩
 have wS:Met l.prog w K mg base 1 bE "wish" _ (la true) dJ _:=⟨⟨gG,je,f6⟩,C8 oB,yh⟩
 have Gm:Cal l.prog w K mg base 1 "mask_of" _ (yz K) jQ _:=⟨EM vp,CA,BG,jJ⟩
 have Gp:Cal l.prog w K mg base 2 "pushes" _ (AO bF bE e8) mL _:=⟨EL y6 T cw TL TS Gm wL wS,DI,Dp,mG⟩
 have Go:Cal l.prog w K mg base 1 "odd_at" _ (vH bF bE e8) mM _:=⟨Di y7 T cw,DJ,Dq,mH⟩
 have Ga:Cal l.prog w K mg base 1 "reached" _ (vD K) jP _:=⟨zw vo,Cz,BF,jI⟩
 have R1:Cal l.prog w K mg base 1 "refuse_ends" _ (vF K) dg _:=⟨Dg kc,rZ,qY,de⟩
 have R2:Cal l.prog w K mg base 1 "refuse_turns" _ (pX K) cR _:=⟨Br iS T,o3,oQ,cQ⟩
 have R3:Cal l.prog w K mg base 2 "refuse_parted" _ (vE K) cv _:=⟨Df ic Ga,nZ,m7,cn⟩
 have WI:FnOk l.prog w K mg base CX0 5 b8 _ _ (pV K):=Dc lJ T R1 R2 R3 GR GS
 have MW:Mak l.prog w K mg base 5 "Web" _ (pV K) e8 b8 _:=⟨⟨BE,i5,gT,BQ⟩,WI,ve,m_Web⟩
 have Gc:Cal l.prog w K mg base 1 "_law_cell" _ (yB K) iK _:=⟨EV pO T,Av,zT,iD⟩
 have L1:Cal l.prog w K mg base 1 "_law_head" _ (pZ K) iJ _:=⟨Dk pN,Au,zS,iC⟩
 have L2':Cal l.prog w K mg base 2 "_law_behind" _ (qb K) eI _:=⟨zy lI T L1,vd,uf,eh⟩
 have L3:Cal l.prog w K mg base 3 "_law_round" _ (mz K) gc _:=⟨Bt ox L2',yd,xg,fV⟩
 have L4:Cal l.prog w K mg base 4 "_law_grown" _ (vI K) gf _:=⟨Dl oz T L3 L1,yf,xi,fY⟩
 have L5:Cal l.prog w K mg base 1 "_law_order" _ vG gd _:=⟨Dh oy T,ye,xh,fX⟩
 have L6:Cal l.prog w K mg base 2 "_law_renumbered" _ Em bS _:=⟨ok_ren gy T L5,mn,lY,bR⟩
 have L7:Cal l.prog w K mg base 5 "_law_built" _ (qa K) gg _:=⟨Bu oA T L4 L6 Gc,yg,xj,fZ⟩
 have L8:Cal l.prog w K mg base 7 "_law_web" _ (AR bF bE e8) jS _:=⟨EN vt T ML MS TL TS MW cw,CC,BI,jL⟩
 have L9:Cal l.prog w K mg base 1 "_law_whole" _ Ep gb _:=⟨Dd ou T,yc,xf,fR⟩
 have La:Cal l.prog w K mg base 4 "_law_rounds" _ Er eF _:=⟨ok_lrs lG T L3,vb,ud,d9⟩
 have Lu:Cal l.prog w K mg base 1 "_law_unpleased" _ yA cx _:=⟨EO ig T,n0,m8,cp⟩
 have Lm:Cal l.prog w K mg base 1 "_law_mask" _ pY iI _:=⟨Dj pM,As,zR,iB⟩
 have Lp:Cal l.prog w K mg base 1 "_law_parity" _ (Eo K) eG _:=⟨ER lH T,vc,ue,eg⟩
 have ef:ErF K mg cf eO:=nl_of kb_
 have TE:TxtE mg eO:={ T with n_ValueError:=n_ValueError,g_FloorError:=ug }
 have SN:OwnI l.prog w K mg base "NoLaying" cf aX _:=⟨ers_of es2_,cN,ok_nli fE,kR,zV⟩
 have aL:Met l.prog w K mg base 1 bF "across" _ (jA bF) bK _:=⟨⟨eT,eu,cU⟩,tK ik TL,lD⟩
 have aS:Met l.prog w K mg base 1 bE "across" _ (jA bE) bK _:=⟨⟨eS,eu,cU⟩,tK ik TS,lD⟩
 have Grt:CalD l.prog w K mg base 3 "refuse_ties" _ (spRT bF bE e8 cf) df _:=⟨ok_rt kb T cw SN Gp Go,rY,qX,dc⟩
 have Glo:CalD l.prog w K mg base 4 "laying_of" _ (spLO bF bE e8 cf) f9 _:=⟨ok_lo ot T cw TL TS Grt Gm aL aS wL wS,yb,xc,fQ⟩
 have Lt:Cal l.prog w K mg base 5 "_law_told" _ (AN bF bE e8) iH _:=⟨EK pL TE SN ef Glo,Ar,zQ,iA⟩
 have Ls:Cal l.prog w K mg base 2 "_law_set" _ El jT _:=⟨ok_set vv T Lu Lm,CD,BJ,jM⟩
 have Lf:Cal l.prog w K mg base 5 "_law_first_off" _ spFO cy _:=⟨ok_fo ij T La Lp,n8,m9,cu⟩
 exact ok_law F_law T cw L7 Gc Lm L8 Lu Ls Lf Lt L9
theorem walk{l:Ir}{q:Program}{loose:List Str}{XP:(Str->Option Value)->Heap->Prop}{YP:World->Heap->Prop}{d:DefRec}{K:Params->Fw}(hn:l.most=some 63)(hdf:d.params.defaults = [])
  (hY:∀(w:World)(h:Heap),YP w h->(K w.params).In h)
  (F:∀(w:World)(mg:Str->Option Value)(fa:Addr)(h:Heap),(K w.params).In h->h.Ns mainGlobals mg->mg d.name=some (.ref fa) ->
   ∃ fd:FuncData,(∀(s:Shared)(u:Value),BindsTo s fd ⟨[u],[]⟩ [("script",u)])/\∀ base:Heap,(K w.params).In base->base.Ns mainGlobals mg->FnOk l.prog w (K w.params) mg base CX0 8 fa fd ["script"] (CV (K w.params))) :
  PySem.W.WalkO q loose XP YP l.row.toRowW d [] (fun f vs=>PySem.call f vs) :=
 L2.walk_of (n:=63) (k:=8) (x:="script") (CX:=fun _=>CX0) (sp:=fun w=>CV (K w.params)) hn (by decide) hdf ⟨rfl,by decide,by decide⟩ hY F (fun _ _ a ns hl _ hS=>⟨a,ns,rfl,hS,hl,fun _=>rfl⟩) fun _ _ _ _ _ z=>z
end K8
def PySem.W.Fast.tw11377030300410270497:Nat:=0
def PySem.W.Fast.tw3478575909639713665:Nat:=0
def PySem.W.Fast.tw11113792382473554562:Nat:=0
def PySem.W.Fast.tw262903309412586982:Nat:=0
def PySem.W.Fast.tw17495142914259367846:Nat:=0
def PySem.W.Fast.tw11115865776229941514:Nat:=0
def PySem.W.Fast.tw36803677600719403:Nat:=0
def PySem.W.Fast.tw1322741656382669870:Nat:=0
def PySem.W.Fast.tw16733515408590870447:Nat:=0
def PySem.W.Fast.tw10806741047664392784:Nat:=0
def PySem.W.Fast.tw3597787645061239025:Nat:=0
def PySem.W.Fast.tw6528634540653946708:Nat:=0
def PySem.W.Fast.tw13351873107423173077:Nat:=0
def PySem.W.Fast.tw7218192422045849718:Nat:=0
def PySem.W.Fast.tw10610591252196241975:Nat:=0
def PySem.W.Fast.tw15974803839230848472:Nat:=0
def PySem.W.Fast.tw8638640978195844379:Nat:=0
def PySem.W.Fast.tw9321670608720517020:Nat:=0
namespace PySem.W.Fast
def tw17901514936374298624:=0
def tw11117245287564359776:=0
def tw13532540288424652960:=0
def tw8079442064801747200:=0
def tw17892441457684614432:=0
def tw7583415752605457696:=0
def tw14162842711863953856:=0
def tw1107162493210929664:=0
def tw1784168270700185184:=0
def tw6813396779396328032:=0
def tw8057393191699103392:=0
def tw8395970514239412960:=0
def tw16646197328463565600:=0
def tw1336180498128188288:=0
def tw12908544636510714752:=0
def tw3610252474209521985:=0
def tw6579564488162203105:=0
def tw13546626387773837889:=0
def tw4380617452702949057:=0
def tw12694950386074631905:=0
def tw6306993900533864385:=0
def tw5105689239369755650:=0
def tw9604242805337075714:=0
def tw2640865657209347074:=0
def tw11170957445658443874:=0
def tw16697312001707580546:=0
def tw17621221624215043202:=0
def tw2366171945278761122:=0
def tw8216990732742893794:=0
def tw7289354558103680354:=0
def tw6904782911016884674:=0
def tw15782950444413655682:=0
def tw2143897955367498370:=0
def tw3674756898665909890:=0
def tw1253495351569206946:=0
def tw5081643098827125410:=0
def tw4851557486289709890:=0
def tw3207532002531111746:=0
def tw569857382762551138:=0
def tw1188040842942601090:=0
def tw340501141155419267:=0
def tw2058856519303404771:=0
def tw3620148088180554979:=0
def tw12289176326600031555:=0
def tw1156337797704667459:=0
def tw11611077533526927811:=0
def tw16133253754675477059:=0
def tw15927592563444963907:=0
def tw14235025966040858211:=0
def tw14221391923756919459:=0
def tw1206212033617299171:=0
def tw2300583225891154723:=0
def tw12998246846043372387:=0
def tw15219403293138421699:=0
def tw3263975167741681668:=0
def tw14488326567703989348:=0
def tw3365435772355174596:=0
def tw6757996191127140644:=0
def tw16463901632099435972:=0
def tw13909471629860065732:=0
def tw4200295333576696260:=0
def tw2586100265100087908:=0
def tw15219004204511921892:=0
def tw537695032841712356:=0
def tw11777513532983198532:=0
def tw13331525228641778789:=0
def tw11444001972640879877:=0
def tw11173208744363356453:=0
def tw497893516669248901:=0
def tw10230878930227681701:=0
def tw2312306720631767493:=0
def tw17935607926317776453:=0
def tw17631905387282214469:=0
def tw9895358507512234725:=0
def tw12331717849469234917:=0
def tw14538701579273088773:=0
def tw8236403528318057285:=0
def tw1137968020954690566:=0
def tw15261689212059701350:=0
def tw14775528822755128518:=0
def tw10865434724227340550:=0
def tw538469155555612070:=0
def tw5205043878483662342:=0
def tw8045256908270151174:=0
def tw4626581777424194118:=0
def tw4262162213290461862:=0
def tw1783219879229627046:=0
def tw4092964305814791942:=0
def tw12658541408087371590:=0
def tw10906800749516918630:=0
def tw6683693811751115686:=0
def tw5854775308423129127:=0
def tw8276282851470337159:=0
def tw16799190352406301863:=0
def tw2757640963331773607:=0
def tw5289193049117323463:=0
def tw17192453235612150023:=0
def tw6552096086022309159:=0
def tw11000948433587406151:=0
def tw2188822658580206951:=0
def tw8193658128293255:=0
def tw851033767925607911:=0
def tw13855196849600860679:=0
def tw17818643056208780807:=0
def tw7648833450977496839:=0
def tw5283566331548741479:=0
def tw9360086214352836519:=0
def tw5949499414542281671:=0
def tw5134057851956272136:=0
def tw9083020981161987208:=0
def tw9327763196929201352:=0
def tw9038783681149551848:=0
def tw455579196285111560:=0
def tw5285711217787649288:=0
def tw13031737749515412808:=0
def tw13524412725976251784:=0
def tw12690886015790069192:=0
def tw796251581543690696:=0
def tw5722236374643650120:=0
def tw4983424065705071208:=0
def tw11118076087923553928:=0
def tw18326783118300336840:=0
def tw7476087394445434568:=0
def tw4828765502541831944:=0
def tw987793233603483464:=0
def tw2300533966260968296:=0
def tw6699459649051437960:=0
def tw2300485334712204264:=0
def tw4794125984282076233:=0
def tw5099925461631878249:=0
def tw530931376610457801:=0
def tw3550777906185061609:=0
def tw15647324905113647401:=0
def tw8319440835366543721:=0
def tw128162430417821033:=0
def tw16531596229217645961:=0
def tw5651893143419892457:=0
def tw8296043177175125801:=0
def tw4456416554462540585:=0
def tw6795551441171841865:=0
def tw10760895443358643049:=0
def tw3356633317547082794:=0
def tw5205049267924574282:=0
def tw16269994523177701450:=0
def tw6244023807443561546:=0
def tw9298071066851119242:=0
def tw6247780624338445770:=0
def tw14378547389576060458:=0
def tw17244970624777543338:=0
def tw14666065908368382730:=0
def tw10907492697152013066:=0
def tw14788473105583681579:=0
def tw16517982161552410795:=0
def tw17708583672554557643:=0
def tw11008285177408302283:=0
def tw4711706411615173867:=0
def tw8690681943003651339:=0
def tw8952804735150429515:=0
def tw11810080457876898155:=0
def tw18273451988004458891:=0
def tw4893407451727614379:=0
def tw8978295852012408299:=0
def tw9771221127293689419:=0
def tw17186923484844449387:=0
def tw4720591263923897995:=0
def tw5253903650580711083:=0
def tw1635802353432210315:=0
def tw17350928971379491755:=0
def tw1016156923999699212:=0
def tw17876441717755481356:=0
def tw17775161418140511596:=0
def tw8931774892183319084:=0
def tw851822198563208812:=0
def tw16663637073413672620:=0
def tw12906860899095841612:=0
def tw3842132968648221644:=0
def tw5124465815574673388:=0
def tw11656360775817777229:=0
def tw5419336453920063629:=0
def tw3359987505663612077:=0
def tw5472818875281798349:=0
def tw1871626509829700813:=0
def tw7157095352908047629:=0
def tw16633379486612291949:=0
def tw17578349198119602541:=0
def tw10662698698608041357:=0
def tw15620593746154282445:=0
def tw2505958577258201581:=0
def tw6762656080119022125:=0
def tw11310308632471205453:=0
def tw4000166889621637805:=0
def tw9243291836992263917:=0
def tw8820272858140900141:=0
def tw592288281099179821:=0
def tw17228324255851031405:=0
def tw17778465158652850125:=0
def tw6003954366271055853:=0
def tw1487592163986135086:=0
def tw3784817025181841646:=0
def tw3361463223808658766:=0
def tw5475840966366226798:=0
def tw13255859759259330990:=0
def tw16803618308186102190:=0
def tw11859523673311214030:=0
def tw7852940992074503694:=0
def tw9955634853740780078:=0
def tw5760784457241342542:=0
def tw5449761581900380782:=0
def tw11468522548310492782:=0
def tw10293460825338397326:=0
def tw7602785737562067726:=0
def tw13770397639927150478:=0
def tw10954775866589610063:=0
def tw4059762590076193999:=0
def tw7247952105549220079:=0
def tw16379563413198903567:=0
def tw7227290250789439791:=0
def tw4269163214321925423:=0
def tw17910997295781961071:=0
def tw6275196918677886447:=0
def tw981630892000440847:=0
def tw12297435307937631791:=0
def tw8903472820412828303:=0
def tw15867264982399392431:=0
def tw18366915535855518447:=0
def tw2502412018942120719:=0
def tw16323176510943147855:=0
def tw9587926207673327503:=0
def tw17240451236215574447:=0
def tw4261329922929150959:=0
def tw4619903274757424176:=0
def tw14473464453219935312:=0
def tw5120716333958472816:=0
def tw14365204368242835600:=0
def tw4128463298460309904:=0
def tw266934771411979696:=0
def tw15125065995227176464:=0
def tw18093990356739603024:=0
def tw6851414828017342128:=0
def tw3459296779133654864:=0
def tw15821404877884585009:=0
def tw7004243787522068721:=0
def tw14625084482045034769:=0
def tw8092674257289581873:=0
def tw11236847954127358385:=0
def tw5459730002849279441:=0
def tw5117731114880927185:=0
def tw4635125234930955889:=0
def tw17943654594944879249:=0
def tw15849381247191473873:=0
def tw14928711166606856017:=0
def tw16851029614734582673:=0
def tw15689896186236736401:=0
def tw14784725341338270641:=0
def tw12223713782589632433:=0
def tw3197099373649630290:=0
def tw13307285527144810738:=0
def tw11507103795803266322:=0
def tw9924816099094009138:=0
def tw11759267604170744434:=0
def tw14844952424813340402:=0
def tw11447472499272744690:=0
def tw15461586118451336178:=0
def tw13719977510801757203:=0
def tw17329546517083819027:=0
def tw6943308980040521971:=0
def tw2972274605274913043:=0
def tw14860922512195707315:=0
def tw4556694806856237555:=0
def tw13990223842580706995:=0
def tw15309345942552453843:=0
def tw1862519327719080691:=0
def tw14445807022772844467:=0
def tw2065589496423315411:=0
def tw15742117933844429811:=0
def tw353475306514678804:=0
def tw10601292528538544276:=0
def tw17130705333652104340:=0
def tw13800159517147529428:=0
def tw6926925441778437428:=0
def tw6286237303961363892:=0
def tw18128455561958872500:=0
def tw3764664976943698452:=0
def tw14480988310064797236:=0
def tw9185535126217573972:=0
def tw5979291436040962644:=0
def tw14873757256572865140:=0
def tw5452755737838029460:=0
def tw7585604122151618228:=0
def tw11722363046908177140:=0
def tw3449277986959874004:=0
def tw14465763285830879317:=0
def tw14594441885864946901:=0
def tw13028820552956942581:=0
def tw10472300259918896405:=0
def tw3503031402455680309:=0
def tw7898312497125365205:=0
def tw15500752542025489941:=0
def tw17511333961814800021:=0
def tw8439585808365177525:=0
def tw16833015426478044917:=0
def tw4823812919056384022:=0
def tw1787004806066603094:=0
def tw8546460441060743254:=0
def tw6755232825825146966:=0
def tw14394418968095474870:=0
def tw15514325916663672022:=0
def tw5794937542595321078:=0
def tw4619776249050707190:=0
def tw16743188679396451606:=0
def tw5001921978422817078:=0
def tw2596042511596837174:=0
def tw8395654042936700214:=0
def tw4755892222131340662:=0
def tw6226904760144116086:=0
def tw598799631378463126:=0
def tw17402470795663442326:=0
def tw14468532034822906390:=0
def tw9835278102924146198:=0
def tw2493975992982386198:=0
def tw13001268981537657398:=0
def tw11527405924573084310:=0
def tw14503073885872342678:=0
def tw847667431976128150:=0
def tw10629671761690014518:=0
def tw9619040141771715446:=0
def tw4870990327266435990:=0
def tw9486559974274363382:=0
def tw17740486733994528758:=0
def tw16025192765954909271:=0
def tw7005621693395955831:=0
def tw13868527776890881175:=0
def tw13665105946172711095:=0
def tw9195239754979305719:=0
def tw10599121807312550135:=0
def tw17124330348117760343:=0
def tw2898572397967723863:=0
def tw8024669131144702327:=0
def tw13168130161907681719:=0
def tw3723073717357455831:=0
def tw12857654799257171447:=0
def tw9441634890413029047:=0
def tw12145250384545697527:=0
def tw5799509875666368471:=0
def tw2016729172950590455:=0
def tw15242619860836416536:=0
def tw3879948829376067736:=0
def tw7476314279494976696:=0
def tw15170803662790045016:=0
def tw4259995550101026296:=0
def tw14872716026586704504:=0
def tw13630041606661618456:=0
def tw11094992026344533816:=0
def tw11121412053444955992:=0
def tw13919717263851328376:=0
def tw18187920636860321656:=0
def tw13841284261697334168:=0
def tw12032020787685038008:=0
def tw753604527052093400:=0
def tw14974484397671987353:=0
def tw5326178352485037209:=0
def tw10028035938785948921:=0
def tw15433223203095950585:=0
def tw1020920946552703225:=0
def tw13917461468266639737:=0
def tw6105781001315905945:=0
def tw3116624692566660601:=0
def tw6160675043176299001:=0
def tw5004253801462514329:=0
def tw6526342862908226297:=0
def tw11101222911709219641:=0
def tw1360998817765317497:=0
def tw10742803932499775353:=0
def tw10054275334453172346:=0
def tw9390476625806560410:=0
def tw4564035830741943482:=0
def tw2443596769217243610:=0
def tw1462327802113224282:=0
def tw7181626535662966394:=0
def tw12558106642629018266:=0
def tw3052955295947759386:=0
def tw6680155262817276730:=0
def tw4558006624181304347:=0
def tw16902666617347549243:=0
def tw17750405685956757627:=0
def tw6823005238359709883:=0
def tw14596160909380488635:=0
def tw16058856758901129723:=0
def tw17342564172468467259:=0
def tw2475978320086288987:=0
def tw18178588894770403035:=0
def tw12742302604930556699:=0
def tw15563558986418559803:=0
def tw4437326593960125275:=0
def tw6686442398764064603:=0
def tw18116460942006842235:=0
def tw816043463188895675:=0
def tw13308866119371433915:=0
def tw7261563015193285563:=0
def tw15217288074805091291:=0
def tw4163972283597090779:=0
def tw18371237447794486332:=0
def tw11713909014431646812:=0
def tw3723416293747977692:=0
def tw12515162942209696444:=0
def tw7258599014235522812:=0
def tw7075432316249982748:=0
def tw7217414495227384636:=0
def tw10978563247980235644:=0
def tw1908076120393777116:=0
def tw16926718291062493148:=0
def tw374065212655813628:=0
def tw13450154494571808797:=0
def tw11115502299004911901:=0
def tw2346176209001149757:=0
def tw7565105037276574077:=0
def tw1161417041717642877:=0
def tw4318887262873729661:=0
def tw2350370654299452061:=0
def tw13919426739496179485:=0
def tw4528602524757705533:=0
def tw15740973331825557405:=0
def tw16465048898453867421:=0
def tw8757676313311855581:=0
def tw9207322809710852126:=0
def tw7035166015696309374:=0
def tw15387991098318189726:=0
def tw4450797491689019646:=0
def tw13416972484002469214:=0
def tw1434329278178846110:=0
def tw15447106629849279902:=0
def tw18283178768454143422:=0
def tw3584031619764310494:=0
def tw1132333121228417502:=0
def tw13871306329966577150:=0
def tw5139766014633103934:=0
def tw17640657011061270174:=0
def tw15312865774661496606:=0
def tw18102713087260732222:=0
def tw7766207468886361022:=0
def tw13265360104658027454:=0
def tw8422886741735839742:=0
def tw14771405678925646911:=0
def tw16709873850718224479:=0
def tw5117357423390838975:=0
def tw3659616102449736895:=0
def tw6384506042822690047:=0
def tw12882720576458786111:=0
def tw5738166362610393439:=0
def tw7513709719056139679:=0
def tw6641137287133156895:=0
def tw13703765815681458719:=0
def tw13025967125217480255:=0
def tw8603049203509921343:=0
def tw7945947038792713887:=0
def tw14612118288000340671:=0
def tw12960494228765625023:=0
def tw13173824367661771711:=0
def tw17465610929585774559:=0
def tw2452810732247187824:=0
end PySem.W.Fast
open PySem PySem.W PyProof.Rows
set_option maxRecDepth 100000 in
set_option maxHeartbeats 0 in
theorem PySem.Challenge.cw_spinfloor_k15_whole_layings_of_sets_holds : PySem.Challenge.rw_spinfloor_k15_whole_layings_of_sets.Holds := by
 w_on;o_law;k_head;(case hw=>w_witness2)
 k_fill
 refine K8.walk (l:=PySem.Challenge.rw_spinfloor_k15_whole_layings_of_sets) rfl rfl (fun w h Y=>PySem.W.kIn_of Y) ?F
 case F =>
  intro w mg fa h KX G hmg
  refine' K8.all_mk KX G hmg ?gq ?jx ?yr ?yq ?CK ?gs ?gJ ?gI ?eT ?gH ?gG ?eS ?i5 ?cL ?cO ?cM ?cN ?og ?nj ?nS ?jJ ?sj ?q8 ?rV ?mG ?sk ?ra ?rW ?mH ?gn ?fL ?gk ?dc ?jr ?i7 ?ji ?fQ ?gQ ?hX ?gS ?eA ?kC ?kQ ?iF ?kG ?gP ?hV ?cU ?eu ?jd ?jo ?f6 ?je ?CJ ?BL ?Cw ?k_head ?oh ?nk ?nU ?jK ?kZ ?kB ?kP ?iE ?hZ ?gK ?gZ ?d8 ?jq ?i6 ?jh ?fP ?kT ?kq ?kK ?iz ?oa ?ni ?nR ?jI ?gp ?fN ?gm ?de ?eZ ?eV ?eY ?cQ ?dX ?dG ?dP ?cn ?gO ?hG ?gR ?gT ?kY ?kA ?kO ?iD ?kX ?kz ?kN ?iC ?ia ?gN ?g9 ?eh ?jt ?i9 ?jk ?fV ?jv ?jb ?jm ?fY ?ju ?ja ?jl ?fX ?cZ ?cX ?cY ?bR ?jw ?jc ?jn ?fZ ?oi ?nt ?nV ?jL ?js ?i8 ?jj ?fR ?dY ?dH ?dQ ?cp ?h7 ?gL ?g7 ?d9 ?h9 ?gM ?g8 ?eg ?kW ?ku ?kM ?iB ?oj ?nu ?nW ?jM ?dZ ?dI ?dR ?cu ?kU ?kr ?kL ?iA ?DL ?E6 ?Fo ?E8 ?wy ?xE ?wc ?vW ?wY ?xp ?i4 ?i3 ?cW ?wx ?xD ?wa ?vV ?wX ?xk ?i0 ?iZ ?cV ?Bh ?Ca ?Bd ?A5 ?BE ?BQ ?iY ?iX ?gE ?fK ?gF ?kb_ ?es2_ ?Ed ?Ee ?AF ?AE ?vx ?vy ?iT ?gA ?Ec ?Eb ?pR ?gB
  (case gq=>k_is)
  (case jx=>k_is)
  (case yr=>k_is)
  (case yq=>k_is)
  (case CK=>k_is)
  (case gs=>k_is)
  (case gJ=>k_is)
  (case gI=>k_is)
  (case eT=>k_is)
  (case gH=>k_is)
  (case gG=>k_is)
  (case eS=>k_is)
  (case i5=>k_is)
  (case cL=>k_is)
  (case cO=>k_is)
  (case cM=>k_is)
  (case cN=>k_is)
  (case og=>k_is)
  (case nj=>k_is)
  (case nS=>k_is)
  (case jJ=>k_is)
  (case sj=>k_is)
  (case q8=>k_is)
  (case rV=>k_is)
  (case mG=>k_is)
  (case sk=>k_is)
  (case ra=>k_is)
  (case rW=>k_is)
  (case mH=>k_is)
  (case gn=>k_is)
  (case fL=>k_is)
  (case gk=>k_is)
  (case dc=>k_is)
  (case jr=>k_is)
  (case i7=>k_is)
  (case ji=>k_is)
  (case fQ=>k_is)
  (case gQ=>k_is)
  (case hX=>k_is)
  (case gS=>k_is)
  (case eA=>k_is)
  (case kC=>k_is)
  (case kQ=>k_is)
  (case iF=>k_is)
  (case kG=>k_is)
  (case gP=>k_is)
  (case hV=>k_is)
  (case cU=>k_is)
  (case eu=>k_is)
  (case jd=>k_is)
  (case jo=>k_is)
  (case f6=>k_is)
  (case je=>k_is)
  (case CJ=>k_is)
  (case BL=>k_is)
  (case Cw=>k_is)
  (case k_head=>k_is)
  (case oh=>k_is)
  (case nk=>k_is)
  (case nU=>k_is)
  (case jK=>k_is)
  (case kZ=>k_is)
  (case kB=>k_is)
  (case kP=>k_is)
  (case iE=>k_is)
  (case hZ=>k_is)
  (case gK=>k_is)
  (case gZ=>k_is)
  (case d8=>k_is)
  (case jq=>k_is)
  (case i6=>k_is)
  (case jh=>k_is)
  (case fP=>k_is)
  (case kT=>k_is)
  (case kq=>k_is)
  (case kK=>k_is)
  (case iz=>k_is)
  (case oa=>k_is)
  (case ni=>k_is)
  (case nR=>k_is)
  (case jI=>k_is)
  (case gp=>k_is)
  (case fN=>k_is)
  (case gm=>k_is)
  (case de=>k_is)
  (case eZ=>k_is)
  (case eV=>k_is)
  (case eY=>k_is)
  (case cQ=>k_is)
  (case dX=>k_is)
  (case dG=>k_is)
  (case dP=>k_is)
  (case cn=>k_is)
  (case gO=>k_is)
  (case hG=>k_is)
  (case gR=>k_is)
  (case gT=>k_is)
  (case kY=>k_is)
  (case kA=>k_is)
  (case kO=>k_is)
  (case iD=>k_is)
  (case kX=>k_is)
  (case kz=>k_is)
  (case kN=>k_is)
  (case iC=>k_is)
  (case ia=>k_is)
  (case gN=>k_is)
  (case g9=>k_is)
  (case eh=>k_is)
  (case jt=>k_is)
  (case i9=>k_is)
  (case jk=>k_is)
  (case fV=>k_is)
  (case jv=>k_is)
  (case jb=>k_is)
  (case jm=>k_is)
  (case fY=>k_is)
  (case ju=>k_is)
  (case ja=>k_is)
  (case jl=>k_is)
  (case fX=>k_is)
  (case cZ=>k_is)
  (case cX=>k_is)
  (case cY=>k_is)
  (case bR=>k_is)
  (case jw=>k_is)
  (case jc=>k_is)
  (case jn=>k_is)
  (case fZ=>k_is)
  (case oi=>k_is)
  (case nt=>k_is)
  (case nV=>k_is)
  (case jL=>k_is)
  (case js=>k_is)
  (case i8=>k_is)
  (case jj=>k_is)
  (case fR=>k_is)
  (case dY=>k_is)
  (case dH=>k_is)
  (case dQ=>k_is)
  (case cp=>k_is)
  (case h7=>k_is)
  (case gL=>k_is)
  (case g7=>k_is)
  (case d9=>k_is)
  (case h9=>k_is)
  (case gM=>k_is)
  (case g8=>k_is)
  (case eg=>k_is)
  (case kW=>k_is)
  (case ku=>k_is)
  (case kM=>k_is)
  (case iB=>k_is)
  (case oj=>k_is)
  (case nu=>k_is)
  (case nW=>k_is)
  (case jM=>k_is)
  (case dZ=>k_is)
  (case dI=>k_is)
  (case dR=>k_is)
  (case cu=>k_is)
  (case kU=>k_is)
  (case kr=>k_is)
  (case kL=>k_is)
  (case iA=>k_is)
  (case DL=>k_is)
  (case E6=>k_is)
  (case Fo=>k_is)
  (case E8=>k_is)
  (case wy=>k_is)
  (case xE=>k_is)
  (case wc=>k_is)
  (case vW=>k_is)
  (case wY=>k_is)
  (case xp=>k_is)
  (case i4=>k_is)
  (case i3=>k_is)
  (case cW=>k_is)
  (case wx=>k_is)
  (case xD=>k_is)
  (case wa=>k_is)
  (case vV=>k_is)
  (case wX=>k_is)
  (case xk=>k_is)
  (case i0=>k_is)
  (case iZ=>k_is)
  (case cV=>k_is)
  (case Bh=>k_is)
  (case Ca=>k_is)
  (case Bd=>k_is)
  (case A5=>k_is)
  (case BE=>k_is)
  (case BQ=>k_is)
  (case iY=>k_is)
  (case iX=>k_is)
  (case gE=>k_is)
  (case fK=>k_is)
  (case gF=>k_is)
  (case kb_=>kernel_rfl)
  (case es2_=>kernel_rfl)
  (case Ed=>k_is)
  (case Ee=>k_is)
  (case AF=>k_is)
  (case AE=>k_is)
  (case vx=>k_is)
  (case vy=>k_is)
  (case iT=>k_is)
  (case gA=>k_is)
  (case Ec=>k_is)
  (case Eb=>k_is)
  (case pR=>k_is)
  (case gB=>k_is)
