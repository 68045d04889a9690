import PyProof.Rows.All
import Wide.All
import OpenK.AllK
import Wide.FinOn
import Lean
import PyProof.EqAt
import PyProof.EqKinds
import PyProof.TupleCall
import PySem.Challenge.RW_spinfloor_k72_whole_any_order
open Array renaming length_toList → Nb, getElem?_toList → N7, getElem?_eq_some_iff → Pb
open Bool renaming false_ne_true → Mp, and_eq_true_iff → M9, or_false → Oa, eq_iff_iff → OF, false_and → OI, or_eq_true_iff → OO, true_and → OU, false_eq_true → OV, and_false → Pe
open Int renaming toNat_natCast → Mv, zero_add → Nf, emod_nonneg → Nw, emod_lt_of_pos → ND, le_refl → NT, toNat_of_nonneg → Oh, natCast_nonneg → OT, fdiv_eq_ediv_of_nonneg → Pa
open List renaming getElem?_eq_some_iff → LR, getElem?_eq_getElem → LS, mem_of_getElem? → LV, length_map → LW, length_append → LX, getElem?_append_right → LY, mem_cons → LZ, getElem?_append_left → L0, getElem?_map → Mb, mem_append → Mc, length_singleton → Me, mem_append_right → Mh, mem_map → Mj, mem_cons_of_mem → Ml, nodup_cons → Mo, nodup_append → Mt, mem_singleton → Mu, take_add_one → Mx, mem_cons_self → MB, mem_append_left → MC, map_append → MD, size_toArray → MG, range → MH, take_length → MI, length_cons → MJ, mem_range → MK, getD_eq_getElem?_getD → MN, getElem?_set → MO, not_mem_nil → MP, map_cons → MQ, length_set → MR, length_take → MT, flatten_cons → MV, take_of_length_le → MY, mem_iff_getElem? → M4, mem_flatten → M5, length_range → M6, flatten_append → Nd, replicate → Ng, mem_filter → Ni, getElem?_take → Nj, map_map → Nk, pairwise_iff_getElem → Nm, length_drop → Np, getElem?_set_ne → Nq, getElem?_of_mem → Nr, getElem?_replicate → Nt, length_pos_of_mem → Ny, any_eq_true → NB, getElem?_eq_none → NC, append_nil → NH, nodup_range → NK, getElem?_set_self → NL, perm_ext_iff_of_nodup → NP, mem_of_mem_take → NQ, getElem?_range → NS, length_nil → NX, length_eq_zero_iff → NY, find?_cons → NZ, filter_append → N0, nodup_nil → N4, take_append_drop → N5, length_filter_le → N6, Pairwise → N9, map_congr_left → Of, lookup → Og, pairwise_cons → Oj, append_of_mem → Ol, take_zero → Oo, idxOf_lt_length_iff → Ou, filter_cons_of_pos → Ox, filter_cons_of_neg → Oy, any_cons → Oz, map_nil → OD, length_replicate → OE, replicate_succ' → OG, filterMap_cons → ON, mem_filterMap → OQ, map_take → OR, map_drop → OS, pairwise_map → OX, flatMap_cons → OY, ext_getElem? → OZ, append_assoc → O0, dropLast_concat_getLast → O4, of_mem_zip → O8, idxOf_lt_length_of_mem → O9, mem_or_eq_of_mem_set → Pd, length_erase_of_mem → Pg
open List.Pairwise renaming nil → Ov
open List.Perm renaming refl → NR
open Nat renaming le_refl → Ma, sub_self → Mw, ne_of_lt → ME, lt_of_lt_of_le → MF, testBit_two_pow → MM, le_of_lt → MX, le_trans → MZ, eq_of_testBit_eq → M1, zero_testBit → M3, lt_irrefl → M7, testBit_or → M8, zero_le → Na, testBit_and → Nn, ne_of_gt → Nu, testBit_two_pow_sub_one → Nv, testBit_lt_two_pow → Nx, mod_eq_of_lt → Nz, lt_succ_self → NA, pow_le_pow_right → NF, lt_succ_of_lt → NO, le_succ → N3, le_add_right → N8, testBit_xor → Oc, not_lt_zero → Od, min_eq_left → Oe, and_zero → Oi, two_pow_pos → OB, mod_self → OC, or_zero → OM, lt_of_le_of_lt → OP, pow_succ → O2, testBit → O7, lt_pow_two_of_testBit → Pc
open Nat.succ renaming inj → O1
open Option renaming map_eq_some_iff → Ms, map_some → OA, isSome_iff_exists → Pf
open Option.some renaming inj → Mq
open PySem renaming Spec → Mr, mem_of_lookup → Nc
open PySem.F renaming plainAttrs_list → Mn, type_list_append → My, slot_list_append → Mz, type_list_index → NV, slot_list_index → NW, type_list_insert → Oq, slot_list_insert → Ot, slot_dict_setdefault → O3, slot_dict_items → Ph, plainAttrs_dict → Pj
open PySem.W renaming Frag → LU, keepIn → Md, codeIn → Mf, nsIn → Mg, fnOf → Mi, mg_of → Mm, findIn → MA, mg_none_of → MU, kia_one → Nh, emptyDict → Nl, instObj → NG, mroIn → NI, plainGet → NJ, isFn → NM, hasDictIn → NN, callWith_K → NU, plainOver → N1, makesIn → Ob, kitOne → Om, excIn → Ow, lookIn → OH, plainGet_of → OJ, hideAll_get → OL, methodObj → OW, takerIn → O5, OpenLaw → O6
set_option Elab.async false
set_option linter.all false
set_option maxRecDepth 100000
local macro_rules | `(tactic| omega) => `(tactic| first | assumption | lia | omega +splitDisjunctions)
namespace L2
open PySem PySem.Spec PyProof.Rows
abbrev Key:=Sum Int Str
def vS:Key->Value->Bool
 |.inl k,v=>Value.isInt k v
 |.inr x,v=>Value.isStrOf x v
def keyH(w:World):Key->Int
 |.inl k=>hashInt k
 |.inr x=>hashStr w x
theorem aZ:∀{k:Key}{v:Value},vS k v=true->(∃ i t,k=Sum.inl i/\v=Value.int i t)∨(∃ x t,k=Sum.inr x/\v=Value.str x t)
 |.inl i,v,h=>by
  obtain⟨t,e⟩:=Value.isInt_shape (k:=i) (v:=v) h
  exact .inl ⟨i,t,rfl,e⟩
 |.inr x,v,h=>by
  obtain⟨t,e⟩:=Value.isStrOf_shape (x:=x) (v:=v) h
  exact .inr ⟨x,t,rfl,e⟩
theorem Gm(i:Int)(t:Tok):vS (.inl i) (.int i t)=true:=by simp[vS,Value.isInt]
theorem Gk(x:Str)(t:Tok):vS (.inr x) (.str x t)=true:=by simp[vS,Value.isStrOf]
theorem key_ll(a b:Int):decide ((Sum.inl a:Key)=Sum.inl b)=(a == b):=by
 by_cases e:a=b
 ·subst e;simp
 ·have h:¬ (Sum.inl a:Key)=Sum.inl b:=fun q=>e (Sum.inl.inj q)
  rw[decide_eq_false h]
  exact(beq_eq_false_iff_ne.mpr e).symm
theorem key_rr(a b:Str):decide ((Sum.inr a:Key)=Sum.inr b)=decide (a=b):=by
 by_cases e:a=b
 ·subst e;simp
 ·have h:¬ (Sum.inr a:Key)=Sum.inr b:=fun q=>e (Sum.inr.inj q)
  rw[decide_eq_false h,decide_eq_false e]
theorem key_lr(a:Int)(b:Str):decide ((Sum.inl a:Key)=Sum.inr b)=false:=decide_eq_false (fun q=>nomatch q)
theorem key_rl(a:Str)(b:Int):decide ((Sum.inr a:Key)=Sum.inl b)=false:=decide_eq_false (fun q=>nomatch q)
def bM(prog:Program)(w:World):PySem.KeyKind prog w Key where
 is:=vS
 hash:=keyH w
 inj:=fun v a b ha hb=>by
  rcases aZ ha with⟨i,t,rfl,rfl⟩ | ⟨x,t,rfl,rfl⟩
  ·rcases aZ hb with⟨j,u,rfl,e⟩ | ⟨y,u,rfl,e⟩
   ·injection e with e1 _;rw[e1]
   ·exact nomatch e
  ·rcases aZ hb with⟨j,u,rfl,e⟩ | ⟨y,u,rfl,e⟩
   ·exact nomatch e
   ·injection e with e1 _;rw[e1]
 byValue:=fun k v h=>by
  rcases aZ h with⟨i,t,rfl,rfl⟩ | ⟨x,t,rfl,rfl⟩<;>rfl
 pyHash:=fun hv h=>by
  rcases aZ hv with⟨i,t,rfl,rfl⟩ | ⟨x,t,rfl,rfl⟩
  ·exact wpAny_pyHash_int h
  ·exact wpAny_pyHash_str h
 eqBool:=fun hu hv h=>by
  rcases aZ hu with⟨i,t,rfl,rfl⟩ | ⟨x,t,rfl,rfl⟩
  ·rcases aZ hv with⟨j,u,rfl,rfl⟩ | ⟨y,u,rfl,rfl⟩
   ·rw[key_ll]at h;exact wpAny_eqBool_int h
   ·rw[key_lr]at h;exact SeqAt.EqAt.int_str i t y u _ _ _ _ h
  ·rcases aZ hv with⟨j,u,rfl,rfl⟩ | ⟨y,u,rfl,rfl⟩
   ·rw[key_rl]at h;exact SeqAt.EqAt.str_int x t j u _ _ _ _ h
   ·rw[key_rr]at h;exact wpAny_eqBool_str h
 «strs»:=fun k x t v h=>by
  rcases aZ h with⟨i,u,rfl,e⟩ | ⟨y,u,rfl,e⟩
  ·exact nomatch e
  ·injection e with e1 _
   subst e1
   cases v<;>rfl
theorem Bv(prog:Program)(w:World)(i:Int)(t:Tok):(bM prog w).is (.inl i) (.int i t)=true:=Gm i t
theorem Bu(prog:Program)(w:World)(x:Str)(t:Tok):(bM prog w).is (.inr x) (.str x t)=true:=Gk x t
end L2
namespace L2
open PySem PySem.Spec PyProof.Rows
inductive V where
 |non | bl (b:Bool) | int (i:Int) | str (x:Str) | byt (b:Array UInt8) | flt (b:UInt64) | ref (a:Addr) | ty (n:String)
 deriving DecidableEq
def RelV:V->Value->Prop
 |.non,u=>u=Value.none
 |.bl b,u=>u=Value.bool b
 |.int i,u=>∃ t,u=Value.int i t
 |.str x,u=>∃ t,u=Value.str x t
 |.byt b,u=>∃ t,u=Value.bytes b t
 |.flt b,u=>∃ t,u=Value.float b t
 |.ref a,u=>u=Value.ref a
 |.ty n,u=>u=Value.type n
abbrev Vals:List V->List Value->Prop:=Paired RelV
theorem Vals.length{xs:List V}{us:List Value}(r:Vals xs us):xs.length=us.length:=Paired.length r
theorem Vals.get:∀{xs:List V}{us:List Value}{i:Nat}{x:V},Vals xs us->xs[i]?=some x->∃ u,us[i]?=some u/\RelV x u
 |_,_,_,_,.nil,e=>by simp at e
 |_,_,0,_,.cons r _,e=>by simp at e;subst e;exact⟨_,rfl,r⟩
 |_,_,i+1,x,.cons _ t,e=>by
  obtain⟨u,h1,h2⟩:=Vals.get (i:=i) (x:=x) t (by simpa using e)
  exact⟨u,by simpa using h1,h2⟩
theorem Vals.set{x:V}{u:Value}(r:RelV x u):∀{xs:List V}{us:List Value}(i:Nat),Vals xs us->Vals (xs.set i x) (us.set i u)
 |_,_,_,.nil=>.nil
 |_,_,0,.cons _ t=>.cons r t
 |_,_,i+1,.cons q t=>.cons q (Vals.set r i t)
theorem Vals.append:∀{xs ys:List V}{us ws:List Value},Vals xs us->Vals ys ws->Vals (xs++ys) (us++ws)
 |_,_,_,_,.nil,s=>s
 |_,_,_,_,.cons r t,s=>.cons r (Vals.append t s)
theorem Vals.take:∀{xs:List V}{us:List Value}(n:Nat),Vals xs us->Vals (xs.take n) (us.take n)
 |_,_,0,_=>.nil
 |_,_,_+1,.nil=>.nil
 |_,_,n+1,.cons r t=>.cons r (Vals.take n t)
theorem Vals.drop:∀{xs:List V}{us:List Value}(n:Nat),Vals xs us->Vals (xs.drop n) (us.drop n)
 |_,_,0,r=>r
 |_,_,_+1,.nil=>.nil
 |_,_,n+1,.cons _ t=>Vals.drop n t
def RelO:Option V->Option Value->Prop
 |some v,some u=>RelV v u
 |none,none=>True
 |_,_=>False
def KV{κ:Type}:List (κ×V)->List (κ×Value)->Prop:=Paired fun(p:κ×V) (q:κ×Value)=>p.1=q.1/\RelV p.2 q.2
def kV:Key->V
 |.inl i=>.int i
 |.inr x=>.str x
inductive HO where
  |lst (xs:List V)
  |tup (xs:List V)
  |dK (kvs:List (Key×V)) | dT (kvs:List (List Key×V))
  |set (S:Int->Bool) (n:Nat)
  |ins (C dx:Addr) (fs:List (Str×V))
  |own (x:Addr)
  |xd (fs:List (Str×V))
  |met (f x:Addr)
  |rng (lo hi:Int)
  |frz (o:Obj) (u:HO)
  |tbl (ps:Array Value)
  |ext (φ:Heap->Prop)
abbrev Hp:=Addr->Option HO
def upd(H:Hp)(a:Addr)(o:HO):Hp:=fun b=>if b=a then some o else H b
theorem ae{H:Hp}{a:Addr}{o:HO}:upd H a o a=some o:=by unfold upd;rw[if_pos rfl]
theorem aq{H:Hp}{a b:Addr}{o:HO}(h:b≠a):upd H a o b=H b:=by unfold upd;rw[if_neg h]
theorem D4{H:Hp}{a b:Addr}{o u:HO}(h:H a=some o)(h':H b=some u)(d:o≠u):a≠b:=by
 intro e;subst e;rw[h]at h';exact d (Mq h')
theorem aB{H:Hp}{a b:Addr}{o:HO}(h:H a=some o)(h':H b=none):a≠b:=by
 intro e;subst e;rw[h]at h';cases h'
section
variable(P:Program)(w:World)
def bJ(H:Hp)(h:Heap)(a:Addr):HO->Prop
 |.lst xs=>xs.length<=sizeLine/\∃(its:List Value)(n:Nat),Vals xs its/\h.get? a=some { cls:=.type "list",data:=.seq its.toArray n }
 |.tup xs=>xs.length<=sizeLine/\∃ its:List Value,Vals xs its/\IsTup h a its.toArray
 |.dK kvs=>kvs.length<=sizeLine/\(a == sysModules)=false/\∃ vs,KV kvs vs/\h.DictOf (bM P w) a vs
 |.dT kvs=>kvs.length<=sizeLine/\(a == sysModules)=false/\∃ xs:List (List Key×Addr×Value),
   Paired (fun(p:List Key×V) (q:List Key×Addr×Value)=>p.1=q.1/\H q.2.1=some (.tup (p.1.map kV))/\RelV p.2 q.2.2) kvs xs /\
   ∃ o es ep,h.get? a=some o/\o.ExactDict/\o.data=.dict es ep/\es.toList=xs.map (entryOfKey (tupleKind (bM P w)))/\(xs.map (·.1)).Nodup
 |.set S n=>h.SetOf (intKind P w) a S n
 |.ins C dx fs=>H dx=some (.own a)/\fs.length<=1000/\dx≠a/\h.get? a=some (NG C dx) /\
   ∃ mA,h.Ns1 dx mA/\(∀ f,RelO (fs.lookup f) (mA f))/\PySem.Within mA (fs.map (·.1))
 |.own _=>∃ o,h.get? a=some o
 |.xd fs=>∃ mA,h.Ns1 a mA/\∀ f,RelO (fs.lookup f) (mA f)
 |.rng lo hi=>∃ t u v,h.get? a=some { cls:=.type "range",data:=.fields #[.int lo t,.int hi u,.int 1 v] }
 |.frz o u=>h.get? a=some o/\bJ H h a u
 |.tbl ps=>h.get? a=some { cls:=.none,data:=.fields ps }
 |.met f x=>h.get? a=some (OW (.ref f) (.ref x))
 |.ext φ=>φ h/\(∃ o,h.get? a=some o)/\∀ h1 h2:Heap,φ h1->(∀ o,h1.get? a=some o->h2.get? a=some o)->φ h2
def HOk(H:Hp)(h:Heap):Prop:=∀ a o,H a=some o->bJ P w H h a o
end
section
variable{P:Program}{w:World}{H H':Hp}{h h':Heap}{a:Addr}{o:HO}
theorem bJ.lt(x:bJ P w H h a o):a<h.objs.size:=by
 cases o with
 |lst xs=>obtain⟨_,_,_,_,e⟩:=x;exact Heap.lt_size e
 |tup xs=>obtain⟨_,_,_,p⟩:=x;exact p.lt
 |dK kvs=>obtain⟨_,_,_,_,o,_,_,e,_⟩:=x;exact Heap.lt_size e
 |dT kvs=>obtain⟨_,_,_,_,o,_,_,e,_⟩:=x;exact Heap.lt_size e
 |set S n=>obtain⟨o,_,_,_,e,_⟩:=x;exact Heap.lt_size e
 |ins C dx fs=>obtain⟨_,_,_,e,_⟩:=x;exact Heap.lt_size e
 |own y=>obtain⟨_,e⟩:=x;exact Heap.lt_size e
 |xd fs=>obtain⟨_,⟨_,_,_,e,_⟩,_⟩:=x;exact Heap.lt_size e
 |rng lo hi=>obtain⟨_,_,_,e⟩:=x;exact Heap.lt_size e
 |frz ob u=>obtain⟨e,_⟩:=x;exact Heap.lt_size e
 |tbl ps=>exact Heap.lt_size (show h.get? a=some _ from x)
 |met f y=>exact Heap.lt_size (show h.get? a=some _ from x)
 |ext φ=>obtain⟨_,⟨_,e⟩,_⟩:=x;exact Heap.lt_size e
theorem Paired.mapP{α β:Type}{F G:α->β->Prop}:∀{l₁:List α}{l₂:List β},Paired F l₁ l₂->(∀ a b,F a b->G a b)->Paired G l₁ l₂
 |_,_,.nil,_=>.nil
 |_,_,.cons r t,f=>.cons (f _ _ r) (Paired.mapP t f)
theorem bJ.stay(x:bJ P w H h a o)(k:∀ b u,(b=a∨H b=some (.own a))->h.get? b=some u->h'.get? b=some u)
  (ho:∀ b,H b=some (.own a)->H' b=some (.own a)) (ht:∀ b xs,H b=some (.tup xs)->H' b=some (.tup xs)):bJ P w H' h' a o:=by
 induction o with
 |lst xs=>obtain⟨z,its,n,r,e⟩:=x;exact⟨z,its,n,r,k _ _ (.inl rfl) e⟩
 |tup xs=>obtain⟨z,its,r,ob,e,c⟩:=x;exact⟨z,its,r,ob,k _ _ (.inl rfl) e,c⟩
 |dK kvs=>obtain⟨z,y,vs,r,ob,es,ep,e,c⟩:=x;exact⟨z,y,vs,r,ob,es,ep,k _ _ (.inl rfl) e,c⟩
 |dT kvs =>
  obtain⟨z,y,xs,r,ob,es,ep,e,c⟩:=x
  exact⟨z,y,xs,Paired.mapP r fun p q z=>⟨z.1,ht _ _ z.2.1,z.2.2⟩,ob,es,ep,k _ _ (.inl rfl) e,c⟩
 |set S n=>obtain⟨ob,es,ep,t,e,c⟩:=x;exact⟨ob,es,ep,t,k _ _ (.inl rfl) e,c⟩
 |ins C dx fs =>
  obtain⟨d,z,ne,e,mA,⟨od,es,ep,e2,c⟩,r⟩:=x
  exact⟨ho _ d,z,ne,k _ _ (.inl rfl) e,mA,⟨od,es,ep,k _ _ (.inr d) e2,c⟩,r⟩
 |own y=>obtain⟨ob,e⟩:=x;exact⟨ob,k _ _ (.inl rfl) e⟩
 |xd fs=>obtain⟨mA,⟨od,es,ep,e,c⟩,r⟩:=x;exact⟨mA,⟨od,es,ep,k _ _ (.inl rfl) e,c⟩,r⟩
 |rng lo hi=>obtain⟨t,u,v,e⟩:=x;exact⟨t,u,v,k _ _ (.inl rfl) e⟩
 |frz ob u ih=>obtain⟨e,q⟩:=x;exact⟨k _ _ (.inl rfl) e,ih q⟩
 |tbl ps =>
  have e:h.get? a=some { cls:=.none,data:=.fields ps }:=x
  show h'.get? a=some { cls:=.none,data:=.fields ps }
  exact k a _ (.inl rfl) e
 |met f y =>
  have e:h.get? a=some (OW (.ref f) (.ref y)):=x
  show h'.get? a=some (OW (.ref f) (.ref y))
  exact k a _ (.inl rfl) e
 |ext φ=>obtain⟨p,⟨o,e⟩,st⟩:=x;exact⟨st _ _ p fun o q=>k _ _ (.inl rfl) q,⟨o,k _ _ (.inl rfl) e⟩,st⟩
theorem HOk.lt(x:HOk P w H h)(e:H a=some o):a<h.objs.size:=(x a o e).lt
theorem HOk.fresh(x:HOk P w H h)(e:h.objs.size<=a):H a=none:=by
 cases q:H a with
 |none=>rfl
 |some u=>exact absurd (MF (x.lt q) e) (M7 _)
theorem HOk.kept(x:HOk P w H h)(k:∀ b u,h.get? b=some u->h'.get? b=some u):HOk P w H h':=fun a o e =>
 (x a o e).stay (fun b u _ q=>k b u q) (fun _ q=>q) fun _ _ q=>q
theorem HOk.laid(x:HOk P w H h)(k:∀ b u,h.get? b=some u->h'.get? b=some u)(hp:h.objs.size<=a)(new:bJ P w (upd H a o) h' a o):HOk P w (upd H a o) h':=fun b u e=>by
 have hn:=x.fresh hp
 by_cases hb:b=a
 ·subst hb;rw[ae]at e;cases e;exact new
 ·rw[aq hb]at e
  exact(x b u e).stay (fun c v _ q=>k c v q) (fun c q=>by rw[aq (aB q hn)];exact q) fun c xs q=>by rw[aq (aB q hn)];exact q
end
def Rd(H:Hp)(a:Addr)(u:HO):Prop:=H a=some u∨∃ o,H a=some (.frz o u)
theorem Rd.ok{P:Program}{w:World}{H:Hp}{h:Heap}{a:Addr}{u:HO}(r:Rd H a u)(x:HOk P w H h):bJ P w H h a u:=by
 rcases r with r | ⟨o,r⟩
 ·exact x a u r
 ·obtain⟨_,q⟩:=x a _ r
  exact q
def Mut:Option HO->Prop
 |some (.lst _)=>True
 |some (.dK _)=>True
 |some (.dT _)=>True
 |some (.set _ _)=>True
 |some (.ins _ _ _)=>True
 |some (.ext _)=>True
 |_=>False
section
variable{P:Program}{w:World}{H:Hp}{h h':Heap}{x e:Addr}{o':HO}
theorem HOk.write(ok:HOk P w H h)(mu:Mut (H x))(he:e=x∨H e=some (.own x))(k:∀ b u,b≠e->h.get? b=some u->h'.get? b=some u)(heo:∃ u,h'.get? e=some u)
  (new:bJ P w (upd H x o') h' x o'):HOk P w (upd H x o') h':=fun b u q=>by
 have nown:∀ c y,H c=some (.own y)->c≠x:=fun c y r z=>by subst z;rw[r]at mu;exact mu
 have ntup:∀ c xs,H c=some (.tup xs)->c≠x:=fun c xs r z=>by subst z;rw[r]at mu;exact mu
 by_cases hb:b=x
 ·subst hb;rw[ae]at q;cases q;exact new
 ·rw[aq hb]at q
  by_cases hbe:b=e
  ·have q':H b=some (.own x):=by
    rcases he with z | z
    ·exact absurd (hbe.trans z) hb
    ·rw[hbe];exact z
   rw[q]at q';cases q'
   obtain⟨v,hv⟩:=heo
   exact⟨v,by rw[hbe];exact hv⟩
  ·refine(ok b u q).stay (fun c v hc r=>k c v ?_ r) (fun c r=>by rw[aq (nown c b r)];exact r) fun c xs r=>by rw[aq (ntup c xs r)];exact r
   rcases hc with rfl | hc
   ·exact hbe
   ·rintro rfl
    rcases he with z | z
    ·exact nown c b hc z
    ·rw[hc]at z;cases z;exact hb rfl
end
structure Un(fs ex:List Addr)(H H':Hp)(h h':Heap):Prop where
 keep:∀ b o,h.get? b=some o->H b=none->b∉fs->b∉ex->h'.get? b=some o
 slot:∀ b o,h.get? b=some o->H b=none->b∈fs->b∉ex->∃ sl,h'.get? b=some { o with slots:=sl }
 free:∀ b o,h.get? b=some o->H b=none->b∉ex->H' b=none
 there:∀ b o,h.get? b=some o->b∉ex->∃ o',h'.get? b=some o'
 tups:∀ b xs,H b=some (.tup xs)->H' b=some (.tup xs)
 frzs:∀ b o u,H b=some (.frz o u)->H' b=some (.frz o u)
 tbls:∀ b ps,H b=some (.tbl ps)->∃ more,H' b=some (.tbl (ps++more))
section
variable{fs fs' ex ex':List Addr}{H H1 H2:Hp}{h h1 h2 h':Heap}{a x e:Addr}{o:HO}
theorem Un.any(u:Un fs ex H H1 h h1){b:Addr}{ob:Obj}(q:h.get? b=some ob)(n:H b=none)(hx:b∉ex):∃ sl,h1.get? b=some { ob with slots:=sl }:=by
 by_cases hb:b∈fs
 ·exact u.slot b ob q n hb hx
 ·exact⟨ob.slots,u.keep b ob q n hb hx⟩
theorem Un.kept(k:∀ b u,h.get? b=some u->h'.get? b=some u):Un fs ex H H h h' :=
 ⟨fun b ob q _ _ _=>k b ob q,fun b ob q _ _ _=>⟨ob.slots,k b ob q⟩,fun _ _ _ n _=>n,fun b ob q _=>⟨ob,k b ob q⟩,fun _ _ q=>q,fun _ _ _ q=>q,fun _ ps q=>⟨#[],by rw[q];simp⟩⟩
theorem Un.refl:Un fs ex H H h h:=Un.kept fun _ _ q=>q
theorem Un.laid(k:∀ b u,h.get? b=some u->h'.get? b=some u)(hp:h.objs.size<=a)(hn:H a=none):Un fs ex H (upd H a o) h h' where
 keep:=fun b u q _ _ _=>k b u q
 slot:=fun b u q _ _ _=>⟨u.slots,k b u q⟩
 free:=fun b u q n _=>by rw[aq (ME (MF (Heap.lt_size q) hp))];exact n
 there:=fun b u q _=>⟨u,k b u q⟩
 tups:=fun b xs q=>by rw[aq (aB q hn)];exact q
 frzs:=fun b u xs q=>by rw[aq (aB q hn)];exact q
 tbls:=fun b ps q=>⟨#[],by rw[aq (aB q hn),q];simp⟩
theorem Un.write(mu:Mut (H x))(he:e=x∨H e=some (.own x))(k:∀ b u,b≠e->h.get? b=some u->h'.get? b=some u)(heo:∃ u,h'.get? e=some u):Un fs ex H (upd H x o) h h':=by
 have hx:∀ b,H b=none->b≠x:=fun b n z=>by subst z;rw[n]at mu;exact mu
 have hb:∀ b,H b=none->b≠e:=fun b n z=>by
  subst z
  rcases he with r | r
  ·exact hx b n r
  ·rw[n]at r;cases r
 have hm:∀ b u,H b=some u->¬ Mut (some u)->b≠x:=fun b u q nm z=>by subst z;rw[q]at mu;exact nm mu
 refine⟨fun b u q n _ _=>k b u (hb b n) q,fun b u q n _ _=>⟨u.slots,k b u (hb b n) q⟩,fun b u q n _=>by rw[aq (hx b n)];exact n,fun b u q _=>?_,
  fun b xs q=>by rw[aq (hm b _ q fun z=>z)];exact q,fun b u xs q=>by rw[aq (hm b _ q fun z=>z)];exact q,fun b ps q=>⟨#[],by rw[aq (hm b _ q fun z=>z),q];simp⟩⟩
 by_cases hbe:b=e
 ·subst hbe;exact heo
 ·exact⟨u,k b u hbe q⟩
end
def trk(h:Heap)(H:Hp):List Addr:=(MH h.objs.size).filter fun a=>(H a).isSome
def hidT(h:Heap)(H:Hp):Heap:=PySem.W.hideAll h (trk h H)
theorem GJ(h:Heap)(H:Hp):(hidT h H).objs.size=h.objs.size:=PySem.W.hideAll_size _ _
theorem Jc{h:Heap}{H:Hp}{b:Addr}{o:Obj}(e:h.get? b=some o)(n:H b=none):(hidT h H).get? b=some o :=
 OL _ e fun hm=>by
  have q:(H b).isSome=true:=(Ni.mp hm).2
  rw[n]at q;simp at q
theorem K7{h:Heap}{H:Hp}{b:Addr}{o:Obj}(e:(hidT h H).get? b=some o):h.get? b=some o/\H b=none:=by
 have e':h.get? b=some o:=PySem.W.of_hideAll (trk h H) e
 refine⟨e',?_⟩
 cases q:H b with
 |none=>rfl
 |some x =>
  have hm:b∈trk h H:=Ni.mpr ⟨MK.mpr (Heap.lt_size e'),by simp[q]⟩
  have z:(hidT h H).get? b=none:=PySem.W.hideAll_none (trk h H) hm
  rw[z]at e;cases e
end L2
namespace L2
open PySem PySem.Spec PyProof.Rows
structure Mod(K:LU)(mg:Str->Option Value)(base:Heap):Prop where
 kin:K.In base
 glob:base.Ns mainGlobals mg
 blt:∃ mb,base.Ns builtinsNs mb/\∀ x:Str,x≠"__name__"->mb x=bootBuiltins x
 nolimit:base.NoLimit
structure Cx where
 prog:Program
 w:World
 K:LU
 mg:Str->Option Value
 base:Heap
 A:Around
 N:List Str
 s₀:Shared
 H₀:Hp
 env:Env
 outer:List Env
 stack:List Env
 ex:List Addr
 fn:Str->Bool
 calm:Bool
 pn:List (Addr×Obj)
 xe:Value->Shared->Prop
def frs(l:List Env):List Addr:=l.filterMap (·.frame)
abbrev Cx.fs(X:Cx):List Addr:=frs X.outer
def Vis(sc:Scope)(x:Str):Prop:=sc.names.lookup x=some .local∨sc.names.lookup x=some .cell∨sc.names.lookup x=some .free
def Loc(sc:Scope)(x:Str):Prop:=sc.names.lookup x=some .local∨sc.names.lookup x=some .cell
def Look(env:Env)(h:Heap)(m:Str->Option Value)(x:Str)(u:Value):Prop :=
 (env.kindOf x=some .local/\m x=some u)∨((env.kindOf x=some .cell∨env.kindOf x=some .free)/\∃ c,env.cells.lookup x=some c/\h.IsCell c (some u))
structure Cx.Ok(X:Cx):Prop where
 mod:Mod X.K X.mg X.base
 kind:X.env.scope.kind=.function
 glob:X.env.globals=mainGlobals
 blt:X.env.builtins=builtinsNs
 above:X.s₀.heap.objs.size<=X.env.locals
 inj:∀ x y c,X.env.cells.lookup x=some c->X.env.cells.lookup y=some c->x=y
 has:∀ x,(X.env.kindOf x=some .cell∨X.env.kindOf x=some .free)->∃ c,X.env.cells.lookup x=some c
 cab:∀ x c,X.fn x=true->X.env.cells.lookup x=some c->X.s₀.heap.objs.size<=c
 hd:X.calm=true->X.A.handled=none
 frames:X.A.frames=some X.stack
 stk:X.stack=X.outer∨(X.stack=X.env::X.outer/\X.env.frame=some X.env.locals)
 exf:∀ b∈X.ex,b≠X.env.locals/\∀ x c,X.env.cells.lookup x=some c->c≠b
 bs:∀ b o,X.base.get? b=some o->X.s₀.heap.get? b=some o/\X.H₀ b=none
 bsz:X.base.objs.size<=X.s₀.heap.objs.size
 noex:∀ b o,X.base.get? b=some o->b∉X.ex
 exfs:∀ b∈X.ex,b∉X.fs
 funs:X.s₀.heap.FunFrames X.base X.outer
 frf:∀ b∈X.fs,X.H₀ b=none
structure Inv(X:Cx)(pins:List (Addr×Obj))(σ:List (Option V))(H:Hp)(s:Shared):Prop where
 ok:X.Ok
 os:s.os=X.s₀.os
 bare:AllBare s.gens
 base:Un X.fs X.ex X.H₀ H X.s₀.heap s.heap
 loc:∃ m,s.heap.Ns X.env.locals m/\∀(i:Nat)(x:Str)(v:V),X.N[i]?=some x->σ[i]?=some (some v)->Vis X.env.scope x->∃ u,RelV v u/\Look X.env s.heap m x u
 cell:∀ x c,X.env.cells.lookup x=some c->∃ v,s.heap.IsCell c v
 free:H X.env.locals=none
 freeC:∀ x c,X.env.cells.lookup x=some c->H c=none
 pin:∀ p∈X.pn++pins,s.heap.get? p.1=some p.2/\H p.1=none/\p.1≠X.env.locals/\p.1∉X.fs/\∀ v,p.2.data≠.cell v
 hok:HOk X.prog X.w H s.heap
 len:σ.length=X.N.length
section
variable{X:Cx}{pins:List (Addr×Obj)}{σ:List (Option V)}{H H':Hp}{s:Shared}{h':Heap}
theorem Cx.Ok.nofr(ok:X.Ok){b:Addr}{o:Obj}(e:X.base.get? b=some o):b∉X.fs:=fun hb=>by
 have:=(ok.funs.mem hb).1
 rw[e]at this;cases this
theorem Inv.bs(I:Inv X pins σ H s):∀ b o,X.base.get? b=some o->s.heap.get? b=some o/\H b=none:=fun b o e =>
 ⟨I.base.keep b o (I.ok.bs b o e).1 (I.ok.bs b o e).2 (I.ok.nofr e) (I.ok.noex b o e),I.base.free b o (I.ok.bs b o e).1 (I.ok.bs b o e).2 (I.ok.noex b o e)⟩
theorem Inv.bk(I:Inv X pins σ H s):∀ b o,X.base.get? b=some o->s.heap.get? b=some o:=fun b o e=>(I.bs b o e).1
theorem Inv.mod(I:Inv X pins σ H s):Mod X.K X.mg X.base:=I.ok.mod
theorem Inv.kIn(I:Inv X pins σ H s):X.K.In s.heap:=I.ok.mod.kin.keeps I.bk
theorem Inv.lt(I:Inv X pins σ H s):X.env.locals<s.heap.objs.size:=let ⟨_,hn,_⟩:=I.loc;hn.lt
theorem Inv.sz(I:Inv X pins σ H s):X.s₀.heap.objs.size<=s.heap.objs.size:=MZ I.ok.above (MX I.lt)
theorem Inv.nofs(I:Inv X pins σ H s){a:Addr}(h:s.heap.objs.size<=a):a∉X.fs:=fun hb=>by
 obtain⟨_,o,ho,_⟩:=I.ok.funs.mem hb
 exact absurd (MF (Heap.lt_size ho) (MZ I.sz h)) (M7 _)
theorem Inv.cne(I:Inv X pins σ H s):∀ x c,X.env.cells.lookup x=some c->c≠X.env.locals:=fun x c e z=>by
 obtain⟨v,o,ho,hd⟩:=I.cell x c e
 obtain⟨m,⟨o',es,ep,ho',hd',_⟩,_⟩:=I.loc
 rw[z,ho']at ho;cases ho;rw[hd']at hd;cases hd
theorem Inv.funs(I:Inv X pins σ H s):s.heap.FunFrames X.base X.outer:=by
 have all:∀(l:List Env),(∀ b∈frs l,b∈X.fs)->X.s₀.heap.FunFrames X.base l->s.heap.FunFrames X.base l:=by
  intro l
  induction l with
  |nil=>intro _ _;trivial
  |cons env r ih =>
   intro hs hl
   obtain⟨hk,⟨L,o,hf,hn,ho,hd⟩,hr⟩:=hl
   have hL:L∈X.fs:=hs L (by unfold frs;rw[ON,hf];exact MB)
   obtain⟨sl,e⟩:=I.base.slot L o ho (I.ok.frf L hL) hL fun z=>I.ok.exfs L z hL
   exact⟨hk,⟨L,_,hf,hn,e,hd⟩,ih (fun b hb=>hs b (by unfold frs;rw[ON,hf];exact Ml _ hb)) hr⟩
 exact all X.outer (fun _ hb=>hb) I.ok.funs
theorem Inv.stack(I:Inv X pins σ H s):s.heap.FunFrames X.base X.stack:=by
 rcases I.ok.stk with e | ⟨e,hf⟩
 ·rw[e];exact I.funs
 ·rw[e]
  obtain⟨m,hn,_⟩:=I.loc
  refine .cons (by rw[I.ok.kind];decide) hf hn ?_ I.funs
  exact Heap.get?_none_of_le (MZ I.ok.bsz I.ok.above)
theorem Inv.stkSub(I:Inv X pins σ H s):∀ b∈frs X.stack,b∈X.env.locals::X.fs:=fun b hb=>by
 rcases I.ok.stk with e | ⟨e,hf⟩
 ·rw[e]at hb;exact Ml _ hb
 ·rw[e]at hb
  unfold frs at hb
  rw[ON,hf]at hb
  exact hb
theorem Inv.stkFree(I:Inv X pins σ H s):∀ b∈frs X.stack,H b=none:=fun b hb=>by
 rcases LZ.mp (I.stkSub b hb)with e | hb
 ·rw[e];exact I.free
 ·obtain⟨_,o,ho,_⟩:=I.ok.funs.mem hb
  exact I.base.free b o ho (I.ok.frf b hb) fun z=>I.ok.exfs b z hb
theorem Inv.step{g':Array GenState}{t':Nat}{d':Drawn}{ch:List Addr}(I:Inv X pins σ H s)
  (hch:∀ b∈ch,(b∈X.ex∨X.s₀.heap.objs.size<=b)/\b≠X.env.locals/\(∀ x c,X.env.cells.lookup x=some c->c≠b)/\∀ p∈X.pn++pins,p.1≠b)
  (keep:∀ b o,b≠X.env.locals->b∉X.fs->b∉ch->s.heap.get? b=some o->H b=none->h'.get? b=some o)
  (slot:∀ b o,b≠X.env.locals->b∈X.fs->b∉ch->s.heap.get? b=some o->H b=none->∃ sl,h'.get? b=some { o with slots:=sl }) (free:∀ b o,b∉ch->s.heap.get? b=some o->H b=none->H' b=none)
  (there:∀ b o,b∉ch->s.heap.get? b=some o->∃ o',h'.get? b=some o')
  (tups:∀ b xs,H b=some (.tup xs)->H' b=some (.tup xs)) (frzs:∀ b o u,H b=some (.frz o u)->H' b=some (.frz o u)) (tbls:∀ b ps,H b=some (.tbl ps)->∃ more,H' b=some (.tbl (ps++more)))
  (ns:∀ m,s.heap.Ns X.env.locals m->h'.Ns X.env.locals m) (hok:HOk X.prog X.w H' h') (hg:AllBare g') :
  Inv X pins σ H' { s with heap:=h',gens:=g',drawn:=d',toks:=t' }:=by
 have neL:∀ b o,X.s₀.heap.get? b=some o->b≠X.env.locals:=fun b o e=>ME (MF (Heap.lt_size e) I.ok.above)
 have neC:∀ b o,X.s₀.heap.get? b=some o->b∉X.ex->b∉ch:=fun b o e hx hb=>by
  rcases(hch b hb).1 with z | z
  ·exact hx z
  ·exact absurd (MF (Heap.lt_size e) z) (M7 _)
 have cellK:∀ x c,X.env.cells.lookup x=some c->∀ v,s.heap.IsCell c v->h'.IsCell c v:=fun x c e v ⟨o,ho,hd⟩=>by
  have nch:c∉ch:=fun z=>(hch c z).2.2.1 x c e rfl
  by_cases hc:c∈X.fs
  ·obtain⟨sl,q⟩:=slot c o (I.cne x c e) hc nch ho (I.freeC x c e)
   exact⟨_,q,hd⟩
  ·exact⟨o,keep c o (I.cne x c e) hc nch ho (I.freeC x c e),hd⟩
 refine⟨I.ok,I.os,hg,⟨fun b o e n hb hx=>?_,fun b o e n hb hx=>?_,fun b o e n hx=>?_,fun b o e hx=>?_,fun b xs e=>tups b xs (I.base.tups b xs e),fun b o xs e=>frzs b o xs (I.base.frzs b o xs e),fun b ps e=>?_⟩,?_,fun x c e=>?_,?_,fun x c e=>?_,fun p hp=>?_,hok,I.len⟩
 ·exact keep b o (neL b o e) hb (neC b o e hx) (I.base.keep b o e n hb hx) (I.base.free b o e n hx)
 ·obtain⟨sl,e1⟩:=I.base.slot b o e n hb hx
  obtain⟨sl',e2⟩:=slot b _ (neL b o e) hb (neC b o e hx) e1 (I.base.free b o e n hx)
  exact⟨sl',e2⟩
 ·obtain⟨o',e1⟩:=I.base.there b o e hx
  exact free b o' (neC b o e hx) e1 (I.base.free b o e n hx)
 ·obtain⟨o',e1⟩:=I.base.there b o e hx
  exact there b o' (neC b o e hx) e1
 ·obtain⟨m1,e1⟩:=I.base.tbls b ps e
  obtain⟨m2,e2⟩:=tbls b _ e1
  exact⟨m1++m2,by rw[e2,Array.append_assoc]⟩
 ·obtain⟨m,hn,hl⟩:=I.loc
  refine⟨m,ns m hn,fun i x v e1 e2 e3=>?_⟩
  obtain⟨u,r,l⟩:=hl i x v e1 e2 e3
  refine⟨u,r,?_⟩
  rcases l with l | ⟨k,c,e,z⟩
  ·exact .inl l
  ·exact .inr ⟨k,c,e,cellK x c e _ z⟩
 ·obtain⟨v,z⟩:=I.cell x c e
  exact⟨v,cellK x c e v z⟩
 ·obtain⟨m,⟨o,_,_,ho,_⟩,_⟩:=I.loc
  exact free _ o (fun z=>(hch _ z).2.1 rfl) ho I.free
 ·obtain⟨v,o,ho,hd⟩:=I.cell x c e
  exact free c o (fun z=>(hch c z).2.2.1 x c e rfl) ho (I.freeC x c e)
 ·obtain⟨e,n,ne,nf,d⟩:=I.pin p hp
  have nch:p.1∉ch:=fun z=>(hch p.1 z).2.2.2 p hp rfl
  exact⟨keep p.1 p.2 ne nf nch e n,free p.1 p.2 nch e n,ne,nf,d⟩
theorem Inv.un{t':Nat}(I:Inv X pins σ H s)(u:Un X.fs [] H H' s.heap h')(hok:HOk X.prog X.w H' h'):Inv X pins σ H' { s with heap:=h',toks:=t' }:=by
 obtain⟨m,⟨o,es,ep,ho,r⟩,_⟩:=id I.loc
 obtain⟨sl,hL⟩:=u.any ho I.free (by simp)
 exact I.step (g':=s.gens) (d':=s.drawn) (ch:=[]) (fun _ z=>nomatch z) (fun b o _ hb _ e n=>u.keep b o e n hb (by simp)) (fun b o _ hb _ e n=>u.slot b o e n hb (by simp)) (fun b o _ e n=>u.free b o e n (by simp)) (fun b o _ e=>u.there b o e (by simp)) u.tups u.frzs u.tbls (fun m' hm=>by
  obtain⟨o',es',ep',ho',r'⟩:=hm
  rw[ho]at ho';cases ho'
  exact⟨_,es',ep',hL,r'⟩) hok I.bare
theorem Inv.call{g':Array GenState}{t':Nat}{d':Drawn}{ch:List Addr}(I:Inv X pins σ H s)(u:Un (frs X.stack) ch H H' s.heap h')(hok:HOk X.prog X.w H' h')(hg:AllBare g')
  (hch:∀ b∈ch,(b∈X.ex∨X.s₀.heap.objs.size<=b)/\b≠X.env.locals/\(∀ x c,X.env.cells.lookup x=some c->c≠b)/\∀ p∈X.pn++pins,p.1≠b) :
  Inv X pins σ H' { s with heap:=h',gens:=g',drawn:=d',toks:=t' }:=by
 obtain⟨m,⟨o,es,ep,ho,r⟩,_⟩:=id I.loc
 obtain⟨sl,hL⟩:=u.any ho I.free fun z=>(hch _ z).2.1 rfl
 exact I.step (ch:=ch) hch (fun b o hL hb hc e n=>u.keep b o e n (fun z=>(LZ.mp (I.stkSub b z)).elim hL hb) hc) (fun b o _ _ hc e n=>u.any e n hc) (fun b o hc e n=>u.free b o e n hc) (fun b o hc e=>u.there b o e hc) u.tups u.frzs u.tbls (fun m' hm=>by
  obtain⟨o',es',ep',ho',r'⟩:=hm
  rw[ho]at ho';cases ho'
  exact⟨_,es',ep',hL,r'⟩) hok hg
theorem Inv.turned{t':Nat}{it:Addr}(I:Inv X pins σ H s)(k:∀ b o,b≠it->s.heap.get? b=some o->h'.get? b=some o)(hn:H it=none)(hL:it≠X.env.locals)
  (h1:it∈X.ex∨X.s₀.heap.objs.size<=it) (h2:∀ x c,X.env.cells.lookup x=some c->c≠it) (h3:∀ p∈X.pn++pins,p.1≠it):Inv X pins σ H { s with heap:=h',toks:=t' }:=by
 have nit:∀ b u,H b=some u->b≠it:=fun b u e z=>by rw[z,hn]at e;cases e
 refine I.step (g':=s.gens) (d':=s.drawn) (ch:=[it]) (fun b hb=>?_) (fun b o _ _ hc e _=>k b o (fun z=>hc (by simp[z])) e) (fun b o _ _ hc e _=>⟨o.slots,k b o (fun z=>hc (by simp[z])) e⟩) (fun _ _ _ _ n=>n)
  (fun b o hc e=>⟨o,k b o (fun z=>hc (by simp[z])) e⟩) (fun _ _ e=>e) (fun _ _ _ e=>e) (fun b ps e=>⟨#[],by rw[e];simp⟩) (fun m hm=>?_) (fun b u e=>?_) I.bare
 ·have e:b=it:=by simpa using hb
  subst e
  exact⟨h1,hL,h2,h3⟩
 ·obtain⟨o,es,ep,ho,r⟩:=hm
  exact⟨o,es,ep,k _ o (Ne.symm hL) ho,r⟩
 ·refine(I.hok b u e).stay (fun c v hc q=>k c v ?_ q) (fun _ q=>q) fun _ _ q=>q
  rcases hc with z | z
  ·rw[z];exact nit b u e
  ·exact nit c _ z
theorem Inv.tok(I:Inv X pins σ H s)(t:Nat):Inv X pins σ H { s with toks:=t }:=I.un (h':=s.heap) (t':=t) Un.refl I.hok
theorem Inv.kept{t':Nat}(I:Inv X pins σ H s)(k:∀ b u,s.heap.get? b=some u->h'.get? b=some u):Inv X pins σ H { s with heap:=h',toks:=t' }:=I.un (Un.kept k) (I.hok.kept k)
theorem Inv.laid{a:Addr}{o:HO}{t':Nat}(I:Inv X pins σ H s)(k:∀ b u,s.heap.get? b=some u->h'.get? b=some u)(hp:s.heap.objs.size<=a)(new:bJ X.prog X.w (upd H a o) h' a o) :
  Inv X pins σ (upd H a o) { s with heap:=h',toks:=t' }:=I.un (Un.laid k hp (I.hok.fresh hp)) (I.hok.laid k hp new)
theorem Inv.write{x e:Addr}{o:HO}{t':Nat}(I:Inv X pins σ H s)(mu:Mut (H x))(he:e=x∨H e=some (.own x))(k:∀ b u,b≠e->s.heap.get? b=some u->h'.get? b=some u)(heo:∃ u,h'.get? e=some u)
  (new:bJ X.prog X.w (upd H x o) h' x o):Inv X pins σ (upd H x o) { s with heap:=h',toks:=t' }:=I.un (Un.write mu he k heo) (I.hok.write mu he k heo new)
theorem Inv.weak{σ':List (Option V)}(I:Inv X pins σ H s)(hl:σ'.length=σ.length)(w:∀ (i:Nat) v,σ'[i]?=some (some v)->σ[i]?=some (some v)):Inv X pins σ' H s :=
 ⟨I.ok,I.os,I.bare,I.base,let ⟨m,hn,hl'⟩:=I.loc;⟨m,hn,fun i x v e1 e2 e3=>hl' i x v e1 (w i v e2) e3⟩,I.cell,I.free,I.freeC,I.pin,I.hok,hl.trans I.len⟩
theorem Inv.pins_of{pins':List (Addr×Obj)}(I:Inv X pins σ H s)(h:∀ p∈pins',s.heap.get? p.1=some p.2/\H p.1=none/\p.1≠X.env.locals/\p.1∉X.fs/\∀ v,p.2.data≠.cell v):Inv X pins' σ H s :=
 ⟨I.ok,I.os,I.bare,I.base,I.loc,I.cell,I.free,I.freeC,fun p hp=>(Mc.mp hp).elim (fun z=>I.pin p (MC _ z)) (h p),I.hok,I.len⟩
theorem vI{N:List Str}(hN:N.Nodup){i j:Nat}{x:Str}(a:N[i]?=some x)(b:N[j]?=some x):i=j:=by
 obtain⟨h1,e1⟩:=LR.mp a
 obtain⟨h2,e2⟩:=LR.mp b
 exact(List.getElem_inj hN).mp (e1.trans e2.symm)
theorem E8{M:Model}{A:Around}{E:Value->Shared->Prop}{i:Nat}{x:Str}{v:V}{u:Value}{Q:Unit->Shared->Prop}(I:Inv X pins σ H s)(hN:X.N.Nodup)(hi:X.N[i]?=some x)(hx:Loc X.env.scope x)(r:RelV v u)
  (h:∀ s',Inv X pins (σ.set i (some v)) H s'->(∃ a,Heap.SameBut a s.heap s'.heap/\(a=X.env.locals∨X.env.cells.lookup x=some a))->Q () s') (hf:X.fn x=true∨X.env.scope.names.lookup x=some .local:=by first | exact .inl rfl | exact .inr rfl | assumption):wpAny M A (storeName X.env x u) Q E s:=by
 obtain⟨m,hn,hl⟩:=id I.loc
 have hcls:(X.env.scope.kind == .class||(X.env.scope.kind == .module&&X.env.locals != X.env.globals))=false:=by rw[I.ok.kind];rfl
 have hiσ:i<σ.length:=by rw[I.len];exact(LR.mp hi).1
 have cne:=I.cne
 have tracked:∀{a:Addr}{h':Heap},(∃ o,s.heap.get? a=some o/\H a=none)->Heap.SameBut a s.heap h'->HOk X.prog X.w H h':=fun{a h'} ha hs b ob e=>by
  obtain⟨_,_,hfree⟩:=ha
  refine(I.hok b ob e).stay (fun c w' hc q=>(hs.2 c ?_).trans q) (fun _ q=>q) fun _ _ q=>q
  rintro rfl
  rcases hc with rfl | hc
  ·rw[hfree]at e;cases e
  ·rw[hfree]at hc;cases hc
 rcases hx with hk | hk
 ·refine wpAny_storeName_local hk hn (fun h' hn' hs=>?_) hcls
  obtain⟨oL,_,_,hoL,_⟩:=id hn
  refine h _ ⟨I.ok,I.os,I.bare,⟨fun b o e n hb hx=>?_,fun b o e n hb hx=>?_,I.base.free,fun b o e hx=>?_,I.base.tups,I.base.frzs,I.base.tbls⟩,⟨_,hn',fun j y v' e1 e2 e3=>?_⟩,fun y c e=>?_,I.free,I.freeC,fun p hp=>?_,tracked ⟨oL,hoL,I.free⟩ hs,by simpa using I.len⟩ ⟨_,hs,.inl rfl⟩
  ·exact(hs.2 b (ME (MF (Heap.lt_size e) I.ok.above))).trans (I.base.keep b o e n hb hx)
  ·obtain⟨sl,e1⟩:=I.base.slot b o e n hb hx
   exact⟨sl,(hs.2 b (ME (MF (Heap.lt_size e) I.ok.above))).trans e1⟩
  ·obtain⟨o',e1⟩:=I.base.there b o e hx
   exact⟨o',(hs.2 b (ME (MF (Heap.lt_size e) I.ok.above))).trans e1⟩
  ·by_cases hj:j=i
   ·subst hj
    rw[hi]at e1;cases e1
    rw[NL hiσ]at e2
    cases e2
    exact⟨u,r,.inl ⟨hk,by simp⟩⟩
   ·rw[Nq (Ne.symm hj)]at e2
    obtain⟨u',r',q⟩:=hl j y v' e1 e2 e3
    refine⟨u',r',?_⟩
    rcases q with⟨k,e⟩ | ⟨k,c,e,z⟩
    ·refine .inl ⟨k,?_⟩
     have:y≠x:=fun e=>hj (vI hN e1 (e▸hi))
     simp[this,e]
    ·exact .inr ⟨k,c,e,z.sameBut hs (cne y c e)⟩
  ·obtain⟨w',z⟩:=I.cell y c e
   exact⟨w',z.sameBut hs (cne y c e)⟩
  ·obtain⟨e,n,ne,nf,d⟩:=I.pin p hp
   exact⟨(hs.2 p.1 ne).trans e,n,ne,nf,d⟩
 ·have hfn:X.fn x=true:=by
   rcases hf with z | z
   ·exact z
   ·rw[z]at hk;cases hk
  obtain⟨c,hc⟩:=I.ok.has x (.inl hk)
  obtain⟨w',z⟩:=I.cell x c hc
  refine wpAny_storeName_cell I.ok.kind hk hc z (fun h' hc' hs=>?_)
  obtain⟨oc,hoc,hocd⟩:=id z
  refine h { s with heap:=h' } ⟨I.ok,I.os,I.bare,⟨fun b o e n hb hx=>?_,fun b o e n hb hx=>?_,I.base.free,fun b o e hx=>?_,I.base.tups,I.base.frzs,I.base.tbls⟩,⟨m,hn.sameBut hs (Ne.symm (cne x c hc)),fun j y v' e1 e2 e3=>?_⟩,fun y c' e=>?_,I.free,I.freeC,fun p hp=>?_,tracked ⟨oc,hoc,I.freeC x c hc⟩ hs,by simpa using I.len⟩ ⟨c,hs,.inr hc⟩
  ·exact(hs.2 b (ME (MF (Heap.lt_size e) (I.ok.cab x c hfn hc)))).trans (I.base.keep b o e n hb hx)
  ·obtain⟨sl,e1⟩:=I.base.slot b o e n hb hx
   exact⟨sl,(hs.2 b (ME (MF (Heap.lt_size e) (I.ok.cab x c hfn hc)))).trans e1⟩
  ·obtain⟨o',e1⟩:=I.base.there b o e hx
   exact⟨o',(hs.2 b (ME (MF (Heap.lt_size e) (I.ok.cab x c hfn hc)))).trans e1⟩
  ·by_cases hj:j=i
   ·subst hj
    rw[hi]at e1;cases e1
    rw[NL hiσ]at e2
    cases e2
    exact⟨u,r,.inr ⟨.inl hk,c,hc,hc'⟩⟩
   ·rw[Nq (Ne.symm hj)]at e2
    obtain⟨u',r',q⟩:=hl j y v' e1 e2 e3
    refine⟨u',r',?_⟩
    rcases q with q | ⟨k,c',e,z'⟩
    ·exact .inl q
    ·refine .inr ⟨k,c',e,z'.sameBut hs ?_⟩
     rintro rfl
     exact hj (vI hN e1 (I.ok.inj _ _ _ e hc▸hi))
  ·by_cases hcc:c'=c
   ·subst hcc;exact⟨_,hc'⟩
   ·obtain⟨w2,z2⟩:=I.cell y c' e
    exact⟨w2,z2.sameBut hs hcc⟩
  ·obtain⟨e,n,ne,nf,d⟩:=I.pin p hp
   refine⟨(hs.2 p.1 ?_).trans e,n,ne,nf,d⟩
   intro q
   rw[q,hoc]at e
   have q':oc=p.2:=Mq e
   exact d w' (by rw[← q'];exact hocd)
theorem pL{M:Model}{A:Around}{E:Value->Shared->Prop}{i:Nat}{x:Str}{v:V}{u:Value}{Q:Unit->Shared->Prop}(I:Inv X pins σ H s)(hN:X.N.Nodup)(hi:X.N[i]?=some x)(hx:Loc X.env.scope x)(r:RelV v u)
  (h:∀ s',Inv X pins (σ.set i (some v)) H s'->Q () s') (hf:X.fn x=true∨X.env.scope.names.lookup x=some .local:=by first | exact .inl rfl | exact .inr rfl | assumption):wpAny M A (storeName X.env x u) Q E s :=
 E8 I hN hi hx r (fun s' I' _=>h s' I') hf
theorem Inv.call'{s':Shared}{ch:List Addr}(I:Inv X pins σ H s)(ho:s'.os=s.os)(u:Un (frs X.stack) ch H H' s.heap s'.heap)(hok:HOk X.prog X.w H' s'.heap)(hg:AllBare s'.gens)
  (hch:∀ b∈ch,(b∈X.ex∨X.s₀.heap.objs.size<=b)/\b≠X.env.locals/\(∀ x c,X.env.cells.lookup x=some c->c≠b)/\∀ p∈X.pn++pins,p.1≠b):Inv X pins σ H' s':=by
 obtain⟨h',g',d',t',o'⟩:=s'
 have e:o'=s.os:=ho
 subst e
 exact I.call (g':=g') (t':=t') (d':=d') u hok hg hch
end
abbrev XK:=Value->Option Addr->Hp->Prop
abbrev St:=List (Option V)
abbrev VK:=V->Hp->Prop
abbrev TE:=St->Hp->VK->Prop
abbrev TT:=St->Hp->(Bool->Hp->Prop)->Prop
abbrev TA:=St->Hp->(List V->Hp->Prop)->Prop
structure Ends where
 nx:St->Hp->Prop
 rt:VK
 bk:St->Hp->Prop:=fun _ _=>False
 ct:St->Hp->Prop:=fun _ _=>False
abbrev TS:=Ends->St->Hp->Prop
def EP(X:Cx)(pins:List (Addr×Obj))(σ:St)(Q:VK)(u:Value)(s':Shared):Prop:=∃ v H',Inv X pins σ H' s'/\RelV v u/\Q v H'
def TP(X:Cx)(pins:List (Addr×Obj))(σ:St)(Q:Bool->Hp->Prop)(b:Bool)(s':Shared):Prop:=∃ H',Inv X pins σ H' s'/\Q b H'
def AP(X:Cx)(pins:List (Addr×Obj))(σ:St)(Q:List V->Hp->Prop)(us:List Value)(s':Shared):Prop:=∃ vs H',Inv X pins σ H' s'/\Vals vs us/\Q vs H'
def SP(X:Cx)(pins:List (Addr×Obj))(D:Ends)(f:Flow)(s':Shared):Prop :=
 match f with
 |.next=>∃ σ' H',Inv X pins σ' H' s'/\D.nx σ' H'
 |.brk=>∃ σ' H',Inv X pins σ' H' s'/\D.bk σ' H'
 |.cont=>∃ σ' H',Inv X pins σ' H' s'/\D.ct σ' H'
 |.ret u=>∃ v σ' H',Inv X pins σ' H' s'/\RelV v u/\D.rt v H'
def PE(X:Cx)(e:Expr)(t:TE):Prop :=
 ∀(pins:List (Addr×Obj))(s:Shared)(σ:St)(H:Hp)(Q:VK),Inv X pins σ H s->t σ H Q->wpAny (model X.prog X.w) X.A (eval e X.env) (EP X pins σ Q) X.xe s
def PT(X:Cx)(e:Expr)(t:TT):Prop :=
 ∀(pins:List (Addr×Obj))(s:Shared)(σ:St)(H:Hp)(Q:Bool->Hp->Prop),Inv X pins σ H s->t σ H Q->wpAny (model X.prog X.w) X.A (isTrue e X.env (eval e X.env)) (TP X pins σ Q) X.xe s
def PW(X:Cx)(e:Expr)(t:TT):Prop :=
 ∀(whole:Sem Value)(pins:List (Addr×Obj))(s:Shared)(σ:St)(H:Hp)(Q:Bool->Hp->Prop),Inv X pins σ H s->t σ H Q->wpAny (model X.prog X.w) X.A (isTrue e X.env whole) (TP X pins σ Q) X.xe s
theorem PW.pt{X:Cx}{e:Expr}{t:TT}(h:PW X e t):PT X e t:=h _
def PA(X:Cx)(es:List Expr)(t:TA):Prop :=
 ∀(pos:Pos)(pins:List (Addr×Obj))(s:Shared)(σ:St)(H:Hp)(Q:List V->Hp->Prop),Inv X pins σ H s->t σ H Q->wpAny (model X.prog X.w) X.A (spliced (backTo pos (starEach es X.env))) (AP X pins σ Q) X.xe s
def PS(X:Cx)(st:Stmt)(t:TS):Prop :=
 ∀(pins:List (Addr×Obj))(s:Shared)(σ:St)(H:Hp)(D:Ends),Inv X pins σ H s->t D σ H->wpAny (model X.prog X.w) X.A (exec st X.env) (SP X pins D) X.xe s
def PSs(X:Cx)(st:List Stmt)(t:TS):Prop :=
 ∀(pins:List (Addr×Obj))(s:Shared)(σ:St)(H:Hp)(D:Ends),Inv X pins σ H s->t D σ H->wpAny (model X.prog X.w) X.A (execs st X.env) (SP X pins D) X.xe s
theorem thn{α:Type}{t:Sem α}{Q Q':α->Shared->Prop}{M:Model}{A:Around}{E:Value->Shared->Prop}{s:Shared}(h:wpAny M A t Q E s)(hQ:∀ a s,Q a s->Q' a s):wpAny M A t Q' E s:=wpAny_mono h hQ fun _ _ x=>x
end L2
namespace L2
open PySem PySem.Spec PyProof.Rows
section
variable{X:Cx}
def tVar(i:Nat):TE:=fun σ H Q=>∃ v,σ[i]?=some (some v)/\Q v H
def tC(v:V):TE:=fun _ H Q=>Q v H
theorem pe_var{i:Nat}{x:Str}{pos:Pos}(hN:X.N[i]?=some x)(hv:Vis X.env.scope x) (hd:(x == ("__debug__" : Str))=false:=by decide) (hcd:(x == ("__classdict__" : Str))=false:=by decide):PE X (.Name x pos) (tVar i):=by
 intro pins s σ H Q I h
 obtain⟨v,e,h⟩:=h
 obtain⟨m,hn,hl⟩:=I.loc
 obtain⟨u,r,l⟩:=hl i x v hN e hv
 have fin:EP X pins σ Q u s:=⟨v,H,I,r,h⟩
 rcases l with⟨hk,hm⟩ | ⟨hk,c,hc,hcell⟩
 ·exact wpAny_Name (wpAny_loadName_local I.ok.kind hk hn hm fin) hd
 ·rcases hk with hk | hk
  ·exact wpAny_Name (wpAny_loadName_cell I.ok.kind hk hc hcell fin) hd
  ·exact wpAny_Name (wpAny_loadName_free I.ok.kind hk hc hcell fin hcd) hd
theorem ah{i j pos}:PE X (.Constant (.int i) j pos) (tC (.int i)):=fun _ _ _ H _ I h=>wpAny_Constant_int ⟨.int i,H,I.tok _,⟨_,rfl⟩,h⟩
theorem IC{b j pos}:PE X (.Constant (.bool b) j pos) (tC (.bl b)):=fun _ _ _ H _ I h=>Constant_bool ⟨.bl b,H,I,rfl,h⟩
theorem FJ{j pos}:PE X (.Constant .none j pos) (tC .non):=fun _ _ _ H _ I h=>Constant_none ⟨.non,H,I,rfl,h⟩
theorem Jz{x j pos}:PE X (.Constant (.str x) j pos) (tC (.str x)):=fun _ _ _ H _ I h=>Calls.Constant_str ⟨.str x,H,I.tok _,⟨_,rfl⟩,h⟩
def Gl(X:Cx)(x:Str):Prop:=X.env.kindOf x=some .globalImplicit
theorem m5{E:Value->Shared->Prop}{pins:List (Addr×Obj)}{s:Shared}{σ:St}{H:Hp}{x:Str}{u:Value}{pos:Pos}{Q:Value->Shared->Prop}(I:Inv X pins σ H s)(hg:Gl X x)(hm:X.mg x=some u)(h:Q u s)
  (hd:(x == ("__debug__" : Str))=false:=by decide):wpAny (model X.prog X.w) X.A (eval (.Name x pos) X.env) Q E s :=
 Calls.Name_function_global I.ok.kind hg (Calls.loadGlobal_global (by rw[I.ok.glob];exact I.mod.glob.keeps I.bk) hm h) hd
theorem j9{E:Value->Shared->Prop}{pins:List (Addr×Obj)}{s:Shared}{σ:St}{H:Hp}{x:Str}{u:Value}{pos:Pos}{Q:Value->Shared->Prop}(I:Inv X pins σ H s)(hg:Gl X x)(hm:X.mg x=none)(hv:bootBuiltins x=some u)(h:Q u s)
  (hn:x≠"__name__":=by decide) (hd:(x == ("__debug__" : Str))=false:=by decide):wpAny (model X.prog X.w) X.A (eval (.Name x pos) X.env) Q E s:=by
 obtain⟨mb,h1,h2⟩:=I.mod.blt
 exact Calls.Name_function_global I.ok.kind hg (Calls.loadGlobal_builtin (by rw[I.ok.glob];exact I.mod.glob.keeps I.bk) hm (by rw[I.ok.blt];exact h1.keeps I.bk) ((h2 x hn).trans hv) h) hd
theorem FK{x:Str}{v:V}{u:Value}{pos:Pos}(hg:Gl X x)(hm:X.mg x=some u)(r:RelV v u) (hd:(x == ("__debug__" : Str))=false:=by decide):PE X (.Name x pos) (tC v) :=
 fun _ _ _ H _ I h=>m5 I hg hm ⟨v,H,I,r,h⟩ hd
theorem A0{x:Str}{v:V}{u:Value}{pos:Pos}(hg:Gl X x)(hm:X.mg x=none)(hv:bootBuiltins x=some u)(r:RelV v u) (hn:x≠"__name__":=by decide) (hd:(x == ("__debug__" : Str))=false:=by decide):PE X (.Name x pos) (tC v) :=
 fun _ _ _ H _ I h=>j9 I hg hm hv ⟨v,H,I,r,h⟩ hn hd
variable{a b:Expr}{ta tb:TE}{pos:Pos}
def PC(X:Cx)(op:CmpOp)(a b:Expr)(t:TE):Prop :=
 ∀(pins:List (Addr×Obj))(s:Shared)(σ:St)(H:Hp)(Q:VK),Inv X pins σ H s->t σ H Q ->
  wpAny (model X.prog X.w) X.A (eval a X.env) (fun v s₁=>wpAny (model X.prog X.w) X.A (eval b X.env) (fun u s₂=>wpAny (model X.prog X.w) X.A (compareOp op v u) (EP X pins σ Q) X.xe s₂) X.xe s₁) X.xe s
def tB(t:TE):TT:=fun σ H Q=>t σ H fun x H1=>∃ c,x=.bl c/\Q c H1
theorem pt_cmp{op:CmpOp}{t:TE}(h:PC X op a b t)(h1:behindInMarks op b=false:=by first | exact nobehind _ (by decide) (by decide) | rfl):PT X (.Compare a [op] [b] pos) (tB t):=by
 intro pins s σ H Q I hw
 refine wpAny_isTrue_Compare1 (thn (h pins s σ H _ I hw) fun v s1 h1=>thn h1 fun u s2 h2=>thn h2 fun c s3 ⟨x,H1,I1,r1,q1⟩=>?_) h1
 obtain⟨d,rfl,q⟩:=q1
 cases r1
 exact wpAny_truthy_bool ⟨H1,I1,q⟩
theorem Fx{e:Expr}{t:TE}(h:PE X e t)(he:∀ whole,isTrue e X.env whole=(do let v ← whole;standAt e.pos;holding [v] (truthy v)):=by intro _;rfl):PT X e (tB t):=by
 intro pins s σ H Q I hw
 refine isTrue_plain (thn (h pins s σ H _ I hw) fun v s1 ⟨x,H1,I1,r1,q1⟩=>?_) (he _)
 obtain⟨d,rfl,q⟩:=q1
 cases r1
 exact wpAny_truthy_bool ⟨H1,I1,q⟩
variable{tA tB':TT}{rest:List Expr}
def tOr(t u:TT):TT:=fun σ H Q=>t σ H fun c H1=>if c=true then Q true H1 else u σ H1 Q
def tNot(t:TT):TT:=fun σ H Q=>t σ H fun c H1=>Q (!c) H1
theorem C7(ha:PT X a tA):PW X (.BoolOp .Or [a] pos) tA:=by
 intro wh pins s σ H Q I h
 refine isTrue_or (thn (ha pins s σ H Q I h) fun c s1 e=>?_)
 cases c with
 |false=>exact isTrue_or_nil e
 |true=>exact e
theorem Iq(ha:PT X a tA)(hb:PW X (.BoolOp .Or (b::rest) pos) tB'):PW X (.BoolOp .Or (a::b::rest) pos) (tOr tA tB'):=by
 intro wh pins s σ H Q I h
 refine isTrue_or (thn (ha pins s σ H _ I h) fun c s1 ⟨H1,I1,q1⟩=>?_)
 cases c with
 |true=>exact⟨H1,I1,q1⟩
 |false=>exact hb wh pins s1 σ H1 Q I1 q1
theorem Jx(ha:PT X a tA):PT X (.UnaryOp .Not a pos) (tNot tA):=by
 intro pins s σ H Q I h
 exact isTrue_not (ha pins s σ H (fun c H1=>Q (!c) H1) I h)
def tAndV(ta tb:TE):TE:=fun σ H Q=>ta σ H fun x H1=>∃ c,x=.bl c/\if c=true then tb σ H1 Q else Q (.bl false) H1
def tNotV(ta:TE):TE:=fun σ H Q=>ta σ H fun x H1=>∃ c,x=.bl c/\Q (.bl (!c)) H1
theorem yc{op}{t:TE}(h:PE X a t):PE X (.BoolOp op [a] pos) t:=fun pins s σ H Q I hw=>BoolOp_one (h pins s σ H Q I hw)
theorem qj(ha:PE X a ta)(hb:PE X (.BoolOp .And (b::rest) pos) tb):PE X (.BoolOp .And (a::b::rest) pos) (tAndV ta tb):=by
 intro pins s σ H Q I h
 refine BoolOp_and (thn (ha pins s σ H _ I h) fun v s1 ⟨x,H1,I1,r1,q1⟩=>?_)
 obtain⟨c,rfl,q1⟩:=q1
 cases r1
 refine wpAny_truthy_bool ?_
 cases c with
 |true=>exact hb pins s1 σ H1 Q I1 q1
 |false=>exact⟨.bl false,H1,I1,rfl,q1⟩
theorem pe_not(ha:PE X a ta):PE X (.UnaryOp .Not a pos) (tNotV ta):=by
 intro pins s σ H Q I h
 refine UnaryOp_ (thn (ha pins s σ H _ I h) fun v s1 ⟨x,H1,I1,r1,q1⟩=>?_)
 obtain⟨c,rfl,q1⟩:=q1
 cases r1
 exact not_of (wpAny_truthy_bool ⟨.bl (!c),H1,I1,rfl,q1⟩)
def tIf(t:TT)(ta tb:TE):TE:=fun σ H Q=>t σ H fun c H1=>if c=true then ta σ H1 Q else tb σ H1 Q
theorem vh{c:Expr}(hc:PT X c tA)(ha:PE X a ta)(hb:PE X b tb):PE X (.IfExp c a b pos) (tIf tA ta tb):=by
 intro pins s σ H Q I h
 refine wpAny_IfExp (thn (hc pins s σ H _ I h) fun d s1 ⟨H1,I1,q1⟩=>?_)
 cases d with
 |true=>exact ha pins s1 σ H1 Q I1 q1
 |false=>exact hb pins s1 σ H1 Q I1 q1
end
end L2
namespace L2
open PySem PySem.Spec PyProof.Rows
def SqL(K:LU)(H:Hp)(a:Addr)(xs:List V):Prop :=
 Rd H a (.lst xs) ∨
  ∃(o:Obj)(its:Array Value)(n:Nat),K.lookup a=some o/\o.cls=.type "list"/\o.dict=none/\o.data=.seq its n/\its.size<=sizeLine/\Vals xs its.toList
def SqT(K:LU)(H:Hp)(a:Addr)(xs:List V):Prop :=
 Rd H a (.tup xs) ∨
  ∃(o:Obj)(its:Array Value)(n:Nat),K.lookup a=some o/\o.cls=.type "tuple"/\o.data=.seq its n/\its.size<=sizeLine/\Vals xs its.toList
def absV:Value->Option V
 |.none=>some .non
 |.bool b=>some (.bl b)
 |.int i _=>some (.int i)
 |.str x _=>some (.str x)
 |.bytes b _=>some (.byt b)
 |.float b _=>some (.flt b)
 |.ref a=>some (.ref a)
 |.type n=>some (.ty n)
 |_=>none
theorem RelV.abs{x:V}{u:Value}(r:RelV x u):absV u=some x:=by
 cases x with
 |non=>cases r;rfl
 |bl _=>cases r;rfl
 |int _=>obtain⟨t,rfl⟩:=r;rfl
 |str _=>obtain⟨t,rfl⟩:=r;rfl
 |byt _=>obtain⟨t,rfl⟩:=r;rfl
 |flt _=>obtain⟨t,rfl⟩:=r;rfl
 |ref _=>cases r;rfl
 |ty _=>cases r;rfl
theorem RelV.inj{x y:V}{u:Value}(r:RelV x u)(q:RelV y u):x=y:=Mq (r.abs.symm.trans q.abs)
theorem Vals.inj:∀{xs ys:List V}{us:List Value},Vals xs us->Vals ys us->xs=ys
 |_,_,_,.nil,.nil=>rfl
 |_,_,_,.cons r t,.cons r' t'=>by rw[r.inj r',Vals.inj t t']
section
variable{X:Cx}{pins:List (Addr×Obj)}{σ:St}{H:Hp}{s:Shared}{a:Addr}{xs ys:List V}
theorem SqL.of{K:LU}(h:H a=some (.lst xs)):SqL K H a xs:=.inl (.inl h)
theorem SqT.of{K:LU}(h:H a=some (.tup xs)):SqT K H a xs:=.inl (.inl h)
theorem Inv.list(I:Inv X pins σ H s)(h:SqL X.K H a xs):∃ its:List Value,Vals xs its/\PlainL s.heap a its.toArray/\xs.length<=sizeLine:=by
 rcases h with h | ⟨o,its,n,hk,hc,hd,hs,hz,r⟩
 ·obtain⟨z,its,n,r,e⟩:=h.ok I.hok
  exact⟨its,r,⟨_,n,e,rfl,rfl,rfl⟩,z⟩
 ·refine⟨its.toList,r,⟨o,n,I.kIn a o hk,hc,hd,by simpa using hs⟩,?_⟩
  have e:=r.length
  simp only[Nb]at e
  omega
theorem Inv.tuple(I:Inv X pins σ H s)(h:SqT X.K H a xs):∃ its:List Value,Vals xs its/\IsTup s.heap a its.toArray/\xs.length<=sizeLine:=by
 rcases h with h | ⟨o,its,n,hk,hc,hs,hz,r⟩
 ·obtain⟨z,its,r,p⟩:=h.ok I.hok
  exact⟨its,r,p,z⟩
 ·refine⟨its.toList,r,⟨o,I.kIn a o hk,hc,n,by simpa using hs⟩,?_⟩
  have e:=r.length
  simp only[Nb]at e
  omega
theorem Inv.list_inj(I:Inv X pins σ H s)(h:SqL X.K H a xs)(h':SqL X.K H a ys):xs=ys:=by
 obtain⟨its,r,⟨o,n,e,_,_,d⟩,_⟩:=I.list h
 obtain⟨its',r',⟨o',n',e',_,_,d'⟩,_⟩:=I.list h'
 rw[e]at e';cases e'
 rw[d]at d'
 injection d' with d1 _
 have:its=its':=by simpa using congrArg Array.toList d1
 subst this
 exact r.inj r'
end
abbrev Cx.wish(X:Cx)(E:Value->Shared->Prop):Cx:={ X with xe:=E }
abbrev Cx.nox(X:Cx):Cx:=X.wish fun _ _=>False
theorem Cx.Ok.wish{X:Cx}(ok:X.Ok)(E:Value->Shared->Prop):(X.wish E).Ok :=
 ⟨ok.mod,ok.kind,ok.glob,ok.blt,ok.above,ok.inj,ok.has,ok.cab,ok.hd,ok.frames,ok.stk,ok.exf,ok.bs,ok.bsz,ok.noex,ok.exfs,ok.funs,ok.frf⟩
theorem Cx.Ok.unwish{X:Cx}{E:Value->Shared->Prop}(ok:(X.wish E).Ok):X.Ok :=
 ⟨ok.mod,ok.kind,ok.glob,ok.blt,ok.above,ok.inj,ok.has,ok.cab,ok.hd,ok.frames,ok.stk,ok.exf,ok.bs,ok.bsz,ok.noex,ok.exfs,ok.funs,ok.frf⟩
section
variable{X:Cx}{pins:List (Addr×Obj)}{σ:St}{H:Hp}{s:Shared}{E:Value->Shared->Prop}
theorem Inv.wish(I:Inv X pins σ H s)(E:Value->Shared->Prop):Inv (X.wish E) pins σ H s:=⟨I.ok.wish E,I.os,I.bare,I.base,I.loc,I.cell,I.free,I.freeC,I.pin,I.hok,I.len⟩
theorem Inv.unwish(I:Inv (X.wish E) pins σ H s):Inv X pins σ H s:=⟨I.ok.unwish,I.os,I.bare,I.base,I.loc,I.cell,I.free,I.freeC,I.pin,I.hok,I.len⟩
theorem SP.unwish{D:Ends}{f:Flow}{s':Shared}(h:SP (X.wish E) pins D f s'):SP X pins D f s':=by
 cases f with
 |next=>obtain⟨σ',H',I,q⟩:=h;exact⟨σ',H',I.unwish,q⟩
 |brk=>obtain⟨σ',H',I,q⟩:=h;exact⟨σ',H',I.unwish,q⟩
 |cont=>obtain⟨σ',H',I,q⟩:=h;exact⟨σ',H',I.unwish,q⟩
 |ret u=>obtain⟨v,σ',H',I,r,q⟩:=h;exact⟨v,σ',H',I.unwish,r,q⟩
theorem PSs.nox{st:List Stmt}{t:TS}(h:PSs X.nox st t):PSs X st t:=fun pins s σ H D I hw =>
 wpAny_mono (h pins s σ H D (I.wish _) hw) (fun _ _ q=>q.unwish) fun _ _ z=>False.elim z
end
section
variable{X:Cx}{st:Stmt}{rest:List Stmt}{t u:TS}{e:Expr}{te:TE}{pos:Pos}
def tNext:TS:=fun D σ H=>D.nx σ H
def tSeq(t u:TS):TS:=fun D σ H=>t { D with nx:=u D } σ H
theorem bc:PSs X [] tNext:=fun _ _ σ H _ I h=>wpAny_execs_nil ⟨σ,H,I,h⟩
theorem af(h1:PS X st t)(h2:PSs X rest u):PSs X (st::rest) (tSeq t u):=by
 intro pins s σ H D I h
 refine wpAny_execs_cons (thn (h1 pins s σ H { D with nx:=u D } I h) fun f s1 q=>?_)
 cases f with
 |next =>
  obtain⟨σ',H',I',q⟩:=q
  exact h2 pins s1 σ' H' D I' q
 |ret v=>exact q
 |brk=>exact q
 |cont=>exact q
theorem ao(h1:PS X st t):PSs X [st] t:=by
 intro pins s σ H D I h
 refine wpAny_execs_cons (thn (h1 pins s σ H D I h) fun f s1 q=>?_)
 cases f with
 |next=>exact wpAny_execs_nil q
 |ret v=>exact q
 |brk=>exact q
 |cont=>exact q
theorem Inv.quiet{pins:List (Addr×Obj)}{σ:St}{H:Hp}{s:Shared}(I:Inv X pins σ H s):interactive X.env=false:=by simp[interactive,I.ok.kind]
def tDrop(te:TE):TS:=fun D σ H=>te σ H fun _ H1=>D.nx σ H1
theorem aX(he:PE X e te)(hs:swapsWith e none pos.line X.env=pure false:=by rfl):PS X (.Expr e pos) (tDrop te):=by
 intro pins s σ H D I h
 exact wpAny_Expr_any (thn (he pins s σ H _ I h) fun v s1 ⟨x,H1,I1,r1,q1⟩=>⟨σ,H1,I1,q1⟩) I.quiet hs
def tRet(te:TE):TS:=fun D σ H=>te σ H D.rt
theorem aO(he:PE X e te):PS X (.Return (some e) pos) (tRet te):=by
 intro pins s σ H D I h
 exact wpAny_Return_some (thn (he pins s σ H _ I h) fun v s1 ⟨x,H1,I1,r1,q1⟩=>⟨x,σ,H1,I1,r1,q1⟩)
def tIfS(c:TT)(t u:TS):TS:=fun D σ H=>c σ H fun b H1=>if b=true then t D σ H1 else u D σ H1
theorem dm{c:Expr}{a b:List Stmt}{tc:TT}(hc:PT X c tc)(ha:PSs X a t)(hb:PSs X b u):PS X (.If c a b pos) (tIfS tc t u):=by
 intro pins s σ H D I h
 refine wpAny_If (thn (hc pins s σ H _ I h) fun d s1 ⟨H1,I1,q1⟩=>?_)
 cases d with
 |true=>exact ha pins s1 σ H1 D I1 q1
 |false=>exact hb pins s1 σ H1 D I1 q1
def tNever:TS:=fun _ _ _=>False
theorem gD:PS X st tNever:=fun _ _ _ _ _ _ h=>h.elim
end
abbrev TG:=V->St->Hp->(St->Hp->Prop)->Prop
abbrev TGs:=List V->St->Hp->(St->Hp->Prop)->Prop
def PG(X:Cx)(target:Expr)(t:TG):Prop :=
 ∀(pins:List (Addr×Obj))(s:Shared)(σ:St)(H:Hp)(v:V)(u:Value)(Q:St->Hp->Prop),Inv X pins σ H s->RelV v u->t v σ H Q ->
  wpAny (model X.prog X.w) X.A (assign target X.env u) (fun _ s'=>∃ σ' H',Inv X pins σ' H' s'/\Q σ' H') X.xe s
def PGs(X:Cx)(ts:List Expr)(t:TGs):Prop :=
 ∀(pins:List (Addr×Obj))(s:Shared)(σ:St)(H:Hp)(vs:List V)(us:List Value)(Q:St->Hp->Prop),Inv X pins σ H s->Vals vs us->t vs σ H Q ->
  wpAny (model X.prog X.w) X.A (assignInOrder ((assignEach ts X.env).map (·.2)) us) (fun _ s'=>∃ σ' H',Inv X pins σ' H' s'/\Q σ' H') X.xe s
abbrev TSet:=V->V->V->Hp->(Hp->Prop)->Prop
def PSet(X:Cx)(t:TSet):Prop :=
 ∀(pins:List (Addr×Obj))(s:Shared)(σ:St)(H:Hp)(o i v:V)(ov iv u:Value)(Q:Hp->Prop),Inv X pins σ H s->RelV o ov->RelV i iv->RelV v u->t o i v H Q ->
  wpAny (model X.prog X.w) X.A (setItem ov iv u) (fun _ s'=>∃ H',Inv X pins σ H' s'/\Q H') X.xe s
section
variable{X:Cx}{pos:Pos}
def gName(i:Nat):TG:=fun v σ H Q=>Q (σ.set i (some v)) H
theorem aJ{i:Nat}{x:Str}(hN:X.N.Nodup)(hi:X.N[i]?=some x)(hx:Loc X.env.scope x)(hf:X.fn x=true∨X.env.scope.names.lookup x=some .local:=by first | exact .inl rfl | exact .inr rfl | assumption):PG X (.Name x pos) (gName i):=by
 intro pins s σ H v u Q I r h
 exact wpAny_assign_Name (pL I hN hi hx r (fun s' I'=>⟨_,H,I',h⟩) hf)
def gNil:TGs:=fun vs σ H Q=>vs = []/\Q σ H
def gCons(t:TG)(u:TGs):TGs:=fun vs σ H Q=>∃ v r,vs=v::r/\t v σ H fun σ' H'=>u r σ' H' Q
theorem kr:PGs X [] gNil:=by
 intro pins s σ H vs us Q I r h
 obtain⟨e,h⟩:=h
 subst e
 cases r
 exact assignInOrder_nil ⟨σ,H,I,h⟩
theorem bG{e:Expr}{es:List Expr}{t:TG}{u:TGs}(h1:PG X e t)(h2:PGs X es u)
  (hs:(assignEach (e::es) X.env).map (·.2)=assign e X.env::(assignEach es X.env).map (·.2):=by rfl):PGs X (e::es) (gCons t u):=by
 intro pins s σ H vs us Q I r h
 obtain⟨v,vr,e1,h⟩:=h
 subst e1
 cases r with
 |cons r rr =>
  rw[hs]
  refine assignInOrder_cons (thn (h1 pins s σ H _ _ _ I r h) fun _ s1 ⟨σ1,H1,I1,q1⟩=>?_)
  exact h2 pins s1 σ1 H1 _ _ Q I1 rr q1
def gTup(K:LU)(n:Nat)(t:TGs):TG:=fun v σ H Q=>∃ a xs,v=.ref a/\SqT K H a xs/\xs.length=n/\t xs σ H Q
theorem qg{es:List Expr}{k:Nat}{t:TGs}{n:Nat}(hc:X.calm=true)(h:PGs X es t)
  (hn:(assignEach es X.env).length=n:=by rfl) (hst:(assignEach es X.env).findIdx? (·.1)=none:=by rfl):PG X (.Tuple es k pos) (gTup X.K n t):=by
 intro pins s σ H v u Q I r hw
 obtain⟨a,xs,e1,hq,hl,hw⟩:=hw
 subst e1
 cases r
 obtain⟨its,rv,ht,hz⟩:=I.tuple hq
 refine assign_Tuple_tuple (I.ok.hd hc) ht (by simp[hn,← hl,rv.length]) hst fun h' hx=>?_
 have I1:Inv X pins σ H { s with heap:=h' }:=I.kept (t':=s.toks) fun b o e=>hx b o (ME (Heap.lt_size e)) e
 exact h pins _ σ H xs _ Q I1 (by simpa using rv) hw
def gSub(to ti:TE)(t:TSet):TG:=fun v σ H Q=>to σ H fun o H1=>ti σ H1 fun i H2=>t o i v H2 fun H3=>Q σ H3
theorem yb{o i:Expr}{to ti:TE}{t:TSet}(ho:PE X o to)(hi:PE X i ti)(hs:PSet X t)
  (ha:∀ v,assign (.Subscript o i pos) X.env v=(do
   let ov ← holding [v] (eval o X.env)
   let iv ← holding [v,ov] (eval i X.env)
   standAt pos
   holding [v,ov,iv] (setItem ov iv v)
   release [v,ov,iv] []):=by intro _;rfl):PG X (.Subscript o i pos) (gSub to ti t):=by
 intro pins s σ H v u Q I r h
 rw[ha]
 refine wpAny_bind (wpAny_holding (thn (ho pins s σ H _ I h) fun ov s1 ⟨x,H1,I1,r1,q1⟩=>?_))
 refine wpAny_bind (wpAny_holding (thn (hi pins s1 σ H1 _ I1 q1) fun iv s2 ⟨y,H2,I2,r2,q2⟩=>?_))
 refine wpAny_bind (wpAny_standAt (wpAny_bind (wpAny_holding (thn (hs pins s2 σ H2 x y v ov iv u _ I2 r1 r2 r q2) fun _ s3 ⟨H3,I3,q3⟩=>?_))))
 exact wpAny_release ⟨σ,H3,I3,q3⟩
def tAsg(te:TE)(g:TG):TS:=fun D σ H=>te σ H fun x H1=>g x σ H1 D.nx
theorem xQ{tg e:Expr}{te:TE}{g:TG}(he:PE X e te)(hg:PG X tg g)(hs:swapsWithSole [tg] e pos.line X.env=pure false:=by rfl)(hw:swappedStores [tg] e X.env=pure none:=by rfl)
  (h1:(assignEach [tg] X.env).map (·.2) = [assign tg X.env]:=by rfl):PS X (.Assign [tg] e pos) (tAsg te g):=by
 intro pins s σ H D I h
 refine wpAny_Assign_stores (thn (he pins s σ H _ I h) fun v s1 ⟨x,H1,I1,r1,q1⟩=>?_) hs hw
 rw[h1]
 exact thn (hg pins s1 σ H1 x v _ I1 r1 q1) fun _ s2 q=>q
theorem au{i:Nat}{x:Str}{e:Expr}{te:TE}{pos':Pos}(hN:X.N.Nodup)(hi:X.N[i]?=some x)(hx:Loc X.env.scope x)(he:PE X e te)(hs:swapsWith e (some (.Name x pos')) pos.line X.env=pure false:=by rfl)(hf:X.fn x=true∨X.env.scope.names.lookup x=some .local:=by first | exact .inl rfl | exact .inr rfl | assumption) :
  PS X (.Assign [.Name x pos'] e pos) (tAsg te (gName i)):=by
 intro pins s σ H D I h
 refine wpAny_Assign_Name (thn (he pins s σ H _ I h) fun v s1 ⟨y,H1,I1,r1,q1⟩=>?_) hs
 exact pL I1 hN hi hx r1 (fun s2 I2=>⟨_,H1,I2,q1⟩) hf
end
section
variable{X:Cx}{pos:Pos}
def Ju(c:TT)(tb:TS):TS:=fun D σ H=>∃ W:Nat->St->Hp->Prop,(∃ m,W m σ H)/\∀ m σ H,W m σ H ->
 c σ H fun b H1=>if b=true then ∃ N:St->Hp->Prop,(∀ σ' H',N σ' H'->∃ m',m'<m/\W m' σ' H')/\tb { D with nx:=N,ct:=N,bk:=D.nx } σ H1 else D.nx σ H1
theorem pN{c:Expr}{body:List Stmt}{tc:TT}{tb:TS}(hp:PassesOwn (model X.prog X.w) X.A X.env X.xe)(hc:PT X c tc)(hb:PSs X body tb):PS X (.While c body [] pos) (Ju tc tb):=by
 intro pins s σ H D I h
 obtain⟨W,⟨m0,w0⟩,turn⟩:=h
 refine wpAny_While (codeAny_whileLoop (fun n s'=>∃ σ' H',Inv X pins σ' H' s'/\W n σ' H') ?_ m0 ⟨σ,H,I,w0⟩)
 rintro n s1 ⟨σ1,H1,I1,w1⟩
 refine wpAny_passesOwn hp (thn (hc pins s1 σ1 H1 _ I1 (turn n σ1 H1 w1)) fun b s2 ⟨H2,I2,q2⟩=>?_)
 cases b with
 |true =>
  obtain⟨N,hN,q2⟩:=q2
  rw[if_pos rfl]
  refine wpAny_passesOwn hp (thn (hb pins s2 σ1 H2 _ I2 q2) fun f s3 q3=>?_)
  cases f with
  |next =>
   obtain⟨σ3,H3,I3,n3⟩:=q3
   obtain⟨m',hm,w3⟩:=hN σ3 H3 n3
   exact⟨m',hm,σ3,H3,I3,w3⟩
  |cont =>
   obtain⟨σ3,H3,I3,n3⟩:=q3
   obtain⟨m',hm,w3⟩:=hN σ3 H3 n3
   exact⟨m',hm,σ3,H3,I3,w3⟩
  |brk=>exact q3
  |ret v=>exact q3
 |false =>
  rw[if_neg Mp]
  exact wpAny_execs_nil ⟨σ1,H2,I2,q2⟩
end
structure It where
 go:Nat->Hp->Prop
 yld:Nat->Hp->V->Hp->Prop
 stop:Nat->Hp->Prop
def FpOk(X:Cx)(pins:List (Addr×Obj))(H:Hp)(b:Addr):Prop :=
 H b=none/\b≠X.env.locals/\b∉X.fs/\(b∈X.ex∨X.s₀.heap.objs.size<=b)/\(∀ x c,X.env.cells.lookup x=some c->c≠b)/\∀ p∈X.pn++pins,p.1≠b
theorem Inv.fpOk{X:Cx}{pins:List (Addr×Obj)}{σ:St}{H H':Hp}{s:Shared}{b:Addr}(I:Inv X pins σ H s)(hb:s.heap.objs.size<=b)(hn:H' b=none):FpOk X pins H' b:=by
 refine⟨hn,Nu (MF I.lt hb),I.nofs hb,.inr (MZ I.sz hb),fun x c e z=>?_,fun p hp z=>?_⟩
 ·obtain⟨v,q⟩:=I.cell x c e
  exact absurd (MF q.lt (by rw[z];exact hb)) (M7 _)
 ·exact absurd (MF (Heap.lt_size (I.pin p hp).1) (by rw[z];exact hb)) (M7 _)
structure Turn(P:Program)(w:World)(K:LU)(tg:Expr)(J:It)(fp:List Addr)(it:Addr)(tn:Nat->Heap->Prop):Prop where
 mem:it∈fp
 obj:∀ i h,tn i h->∀ b∈fp,∃ o,h.get? b=some o/\∀ v,o.data≠.cell v
 keep:∀ i h h',tn i h->(∀ b∈fp,∀ o,h.get? b=some o->h'.get? b=some o)->tn i h'
 item:∀(X:Cx),X.prog=P->X.w=w->X.K=K->X.calm=true->∀(i:Nat)(pins:List (Addr×Obj))(s:Shared)(σ:St)(H:Hp)(E:Value->Shared->Prop),Inv X pins σ H s->(∀ b∈fp,FpOk X pins H b)->tn i s.heap->J.go i H ->
  wpAny (model P w) X.A (pyNext (.ref it)) (fun r s1=>∃ u,r=some u /\
   wpAny (model P w) X.A (letOwnedTupleGo tg (.ref it) u) (fun _ s2=>∃ x H',Inv X pins σ H' s2/\RelV x u/\J.yld i H x H'/\tn (i+1) s2.heap/\∀ b∈fp,H' b=none) E s1) E s
 done:∀(X:Cx),X.prog=P->X.w=w->X.K=K->X.calm=true->∀(i:Nat)(pins:List (Addr×Obj))(s:Shared)(σ:St)(H:Hp)(E:Value->Shared->Prop),Inv X pins σ H s->(∀ b∈fp,FpOk X pins H b)->tn i s.heap->J.stop i H ->
  wpAny (model P w) X.A (pyNext (.ref it)) (fun r s1=>r=none/\Inv X pins σ H s1) E s
 self:∀(A:Around)(i:Nat)(s:Shared)(Q:Value->Shared->Prop)(E:Value->Shared->Prop),tn i s.heap->Q (.ref it) s->wpAny (model P w) A (pyIter (.ref it)) Q E s
abbrev TI:=St->Hp->(It->Hp->Prop)->Prop
def PIE(X:Cx)(pins:List (Addr×Obj))(σ:St)(tg:Expr)(R:It->Hp->Prop)(itv:Value)(s2:Shared):Prop :=
 ∃(it:Addr)(fp:List Addr)(tn:Nat->Heap->Prop)(J:It)(H':Hp),itv=.ref it/\Inv X pins σ H' s2/\Turn X.prog X.w X.K tg J fp it tn/\tn 0 s2.heap/\(∀ b∈fp,FpOk X pins H' b)/\R J H'
def PI(X:Cx)(tg iter:Expr)(wi:TI):Prop :=
 ∀(pins:List (Addr×Obj))(s:Shared)(σ:St)(H:Hp)(R:It->Hp->Prop),Inv X pins σ H s->wi σ H R ->
  wpAny (model X.prog X.w) X.A (eval iter X.env) (fun v s1=>wpAny (model X.prog X.w) X.A (pyIter v) (PIE X pins σ tg R) X.xe s1) X.xe s
theorem Jd{M:Model}{A:Around}{E:Value->Shared->Prop}{s:Shared}{tg:Expr}{it:Addr}{u:Value}{o:Obj}{n:String}{vs:Array Value}{Q:Unit->Shared->Prop}(ho:s.heap.get? it=some o)(hc:o.cls=.type n)(hd:o.data=.fields vs)
  (hn : ["enumerate","zip","dict_itemiterator","dict_reverseitemiterator","odict_iterator","itertools.zip_longest","itertools.pairwise"].contains n=false) (hQ:Q () s):wpAny M A (letOwnedTupleGo tg (.ref it) u) Q E s:=by
 unfold letOwnedTupleGo
 cases tg<;>first
  |exact wpAny_pure hQ
  | (cases u<;>first
    |exact wpAny_pure hQ
    | (refine wpAny_bind (wpAny_load ho ?_)
       rw[hc,hd]
       show wpAny M A (if(["enumerate","zip","dict_itemiterator","dict_reverseitemiterator","odict_iterator","itertools.zip_longest","itertools.pairwise"].contains n&&vs[0]? == some (rawInt _))=true then _ else _) Q E s
       rw[if_neg (by intro h;rw[hn,OI]at h;cases h)]
       exact wpAny_pure hQ))
def Itl(K:LU)(a:Addr):It :=
 ⟨fun i H=>∃ xs x,SqL K H a xs/\xs[i]?=some x,fun i H x H'=>H'=H/\∀ xs,SqL K H a xs->xs[i]?=some x,fun i H=>∃ xs,SqL K H a xs/\xs.length<=i⟩
def Itr(lo:Int)(n:Nat):It:=⟨fun i _=>i<n,fun i H x H'=>H'=H/\x=.int (lo+i),fun i _=>n<=i⟩
theorem E1{P:Program}{w:World}{K:LU}{tg:Expr}(a it:Addr):Turn P w K tg (Itl K a) [it] it (fun i h=>h.IsListIter it a i) where
 mem:=by simp
 obj:=fun i h st b hb=>by
  have e:b=it:=by simpa using hb
  subst e
  obtain⟨o,e,c,d⟩:=st
  exact⟨o,e,fun v z=>by rw[d]at z;cases z⟩
 keep:=fun i h h' st k=>st.at fun o e=>k it (by simp) o e
 item:=by
  intro X hP hw hK hc i pins s σ H E I hf st hg
  subst hP hw hK
  obtain⟨xs,x,hq,hx⟩:=hg
  obtain⟨its,rv,p,hz⟩:=I.list hq
  obtain⟨u,hu,ru⟩:=rv.get hx
  obtain⟨f0,f1,f2,f3,f4,f5⟩:=hf it (by simp)
  refine wpAny_pyNext_list_item st p.isList (x:=u) (by simpa using hu) fun h' st' sb=>?_
  have I1:Inv X pins σ H { s with heap:=h' }:=I.turned (t':=s.toks) (fun b o hb e=>(sb.2 b hb).trans e) f0 f1 f3 f4 f5
  obtain⟨o,e,c,d⟩:=id st'
  exact⟨u,rfl,Jd (s:={ s with heap:=h' }) e c d (by decide) ⟨x,H,I1,ru,⟨rfl,fun ys hy=>by rw[I.list_inj hy hq];exact hx⟩,st',fun b hb=>(hf b hb).1⟩⟩
 done:=by
  intro X hP hw hK hc i pins s σ H E I hf st hg
  subst hP hw hK
  obtain⟨xs,hq,hx⟩:=hg
  obtain⟨its,rv,p,hz⟩:=I.list hq
  obtain⟨f0,f1,f2,f3,f4,f5⟩:=hf it (by simp)
  have hl:=rv.length
  exact wpAny_pyNext_list_end (I.ok.hd hc) st p.isList (by simp;omega) fun h' eb=>⟨rfl,I.turned (t':=s.toks) (fun b o hb e=>eb b o hb e) f0 f1 f3 f4 f5⟩
 self:=fun _ _ _ _ _ st h=>wpAny_pyIter_listiter st h
theorem DB{P:Program}{w:World}{K:LU}{tg:Expr}(it:Addr)(lo:Int)(n:Nat):Turn P w K tg (Itr lo n) [it] it (fun i h=>IsRangeIter h it (lo+(i:Nat)*1) ((n:Int)-(i:Nat)) 1) where
 mem:=by simp
 obj:=fun i h st b hb=>by
  have e:b=it:=by simpa using hb
  subst e
  exact⟨_,st,fun v z=>by
   have z':Data.fields _=Data.cell v:=z
   cases z'⟩
 keep:=fun i h h' st k=>k it (by simp) _ st
 item:=by
  intro X hP hw hK hc i pins s σ H E I hf st hg
  subst hP hw hK
  obtain⟨f0,f1,f2,f3,f4,f5⟩:=hf it (by simp)
  have W:=Walks.range (prog:=X.prog) (w:=X.w) (I.ok.hd hc) it lo 1 n
  refine W.item i s _ _ hg st fun v h' tk hv st' kk=>?_
  obtain⟨t,rfl⟩:=hv
  have I1:Inv X pins σ H { s with heap:=h',toks:=tk }:=I.turned (fun b o hb e=>kk b o (by simpa using hb) e) f0 f1 f3 f4 f5
  refine⟨_,rfl,Jd (s:={ s with heap:=h',toks:=tk }) (n:="range_iterator") st' rfl rfl (by decide) ⟨.int (lo+i),H,I1,⟨t,?_⟩,⟨rfl,rfl⟩,st',fun b hb=>(hf b hb).1⟩⟩
  rw[Int.mul_one]
 done:=by
  intro X hP hw hK hc i pins s σ H E I hf st hg
  subst hP hw hK
  obtain⟨f0,f1,f2,f3,f4,f5⟩:=hf it (by simp)
  exact wpAny_pyNext_range_end (I.ok.hd hc) st (by have:n<=i:=hg;omega) fun h' eb=>⟨rfl,I.turned (t':=s.toks) (fun b o hb e=>eb b o hb e) f0 f1 f3 f4 f5⟩
 self:=fun _ _ _ _ _ st h=>wpAny_pyIter_rangeiter st h
end L2
namespace L2
open PySem PySem.Spec PyProof.Rows
section
variable{X:Cx}{tg:Expr}
def iList(K:LU)(tl:TE):TI:=fun σ H R=>tl σ H fun x H1=>∃ a,x=.ref a/\(∃ xs,SqL K H1 a xs)/\R (Itl K a) H1
theorem aV{l:Expr}{tl:TE}(hl:PE X l tl):PI X tg l (iList X.K tl):=by
 intro pins s σ H R I h
 refine thn (hl pins s σ H _ I h) fun v s1 ⟨x,H1,I1,r1,q1⟩=>?_
 obtain⟨a,e,⟨xs,hq⟩,q⟩:=q1
 subst e
 cases r1
 obtain⟨its,rv,p,hz⟩:=I1.list hq
 refine wpAny_pyIter_list p.isList ?_
 refine⟨s1.heap.objs.size,[s1.heap.objs.size],_,_,H1,rfl,I1.kept (t':=s1.toks) fun b o e=>Heap.get?_push_of_some _ e,E1 a _,⟨_,Heap.get?_push_size _ rfl,rfl,rfl⟩,fun b hb=>?_,q⟩
 have e:b=s1.heap.objs.size:=by simpa using hb
 subst e
 exact I1.fpOk (Ma _) (I1.hok.fresh (Ma _))
theorem C5{pins:List (Addr×Obj)}{σ:St}{H:Hp}{s:Shared}{R:It->Hp->Prop}{E:Value->Shared->Prop}{lo hi:Int}{t u v:Tok}{tk:Nat}(I:Inv X pins σ H s)(h1 : -(2^62)<=lo)(h2:lo<2^62)(h3 : -(2^62)<=hi)(h4:hi<2^62)
  (q:R (Itr lo (hi-lo).toNat) H):wpAny (model X.prog X.w) X.A (pyIter (.ref s.heap.objs.size)) (PIE X pins σ tg R) E { s with heap:=s.heap.push { cls:=.type "range",data:=.fields #[.int lo t,.int hi u,.int 1 v] },toks:=tk }:=by
 refine wpAny_pyIter_range (IsRange.new ..) (small_one h1 h2 h3 h4) ?_
 have I1:Inv X pins σ H { s with heap:=s.heap.push { cls:=.type "range",data:=.fields #[.int lo t,.int hi u,.int 1 v] },toks:=tk }:=I.kept fun b o e=>Heap.get?_push_of_some _ e
 refine⟨(s.heap.push { cls:=.type "range",data:=.fields #[.int lo t,.int hi u,.int 1 v] }).objs.size,[(s.heap.push { cls:=.type "range",data:=.fields #[.int lo t,.int hi u,.int 1 v] }).objs.size],_,_,H,rfl,
  I1.kept (t':=tk) fun b o e=>Heap.get?_push_of_some _ e,DB _ lo (hi-lo).toNat,?_,fun b hb=>?_,q⟩
 ·have e1:lo+((0:Nat):Int)*1=lo:=by simp
  have e2:(((hi-lo).toNat:Nat):Int)-((0:Nat):Int)=Builtin.Range.rangeSize lo hi 1:=by rw[rangeSize_one];split<;>omega
  show IsRangeIter _ _ (lo+((0:Nat):Int)*1) ((((hi-lo).toNat:Nat):Int)-((0:Nat):Int)) 1
  rw[e1,e2]
  exact Heap.get?_push_size _ rfl
 ·have e:b=(s.heap.push { cls:=.type "range",data:=.fields #[.int lo t,.int hi u,.int 1 v] }).objs.size:=by simpa using hb
  subst e
  exact I1.fpOk (Ma _) (I1.hok.fresh (Ma _))
def iRng1(ta:TA):TI:=fun σ H R=>ta σ H fun vs H1=>∃ j:Int,vs = [.int j]/\-(2^62)<=j/\j<2^62/\R (Itr 0 j.toNat) H1
def iRng2(ta:TA):TI:=fun σ H R=>ta σ H fun vs H1=>∃ i j:Int,vs = [.int i,.int j]/\(-(2^62)<=i/\i<2^62/\-(2^62)<=j/\j<2^62)/\R (Itr i (j-i).toNat) H1
theorem bP{a:Expr}{ta:TA}{p pos:Pos} (hg:Gl X "range") (hm:X.mg "range" = none) (ha:PA X [a] ta) (hs:starEach [a] X.env = [(false,eval a X.env)]:=by rfl):PI X tg (.Call (.Name "range" p) [a] [] pos) (iRng1 ta):=by
 intro pins s σ H R I h
 refine Call_ (j9 I hg hm boot_range (PyProof.Rows.callWith_type1 (thn (ha pos pins s σ H _ I h) fun us s1 ⟨vs,H1,I1,r1,q1⟩=>?_) hs rfl))
 obtain⟨j,e,q1,q2,q⟩:=q1
 subst e
 cases r1 with
 |cons r rr =>
  cases rr
  obtain⟨t,rfl⟩:=r
  exact call_range_1 (C5 I1 (by omega) (by omega) q1 q2 (by simpa using q))
theorem FF{a b:Expr}{ta:TA}{p pos:Pos} (hg:Gl X "range") (hm:X.mg "range" = none) (ha:PA X [a,b] ta) (hs:starEach [a,b] X.env = [(false,eval a X.env),(false,eval b X.env)]:=by rfl) (hs2:starEach [b] X.env = [(false,eval b X.env)]:=by rfl) :
  PI X tg (.Call (.Name "range" p) [a,b] [] pos) (iRng2 ta):=by
 intro pins s σ H R I h
 refine Call_ (j9 I hg hm boot_range (PyProof.Rows.callWith_type1 (thn (ha pos pins s σ H _ I h) fun us s1 ⟨vs,H1,I1,r1,q1⟩=>?_) (by rw[hs,hs2]) (by rw[hs2];rfl)))
 obtain⟨i,j,e,⟨q1,q2,q3,q4⟩,q⟩:=q1
 subst e
 cases r1 with
 |cons r rr =>
  cases rr with
  |cons r' rr =>
   cases rr
   obtain⟨t,rfl⟩:=r
   obtain⟨t',rfl⟩:=r'
   exact call_range_2 (C5 I1 q1 q2 q3 q4 q)
def tFor(wi:TI)(g:TG)(tb:TS):TS:=fun D σ H=>wi σ H fun J H1=>∃ W:Nat->Nat->St->Hp->Prop,(∃ m,W 0 m σ H1)/\∀ i m σ H,W i m σ H ->
 (J.stop i H/\D.nx σ H)∨(J.go i H/\∃ N:St->Hp->Prop,(∀ σ' H',N σ' H'->∃ m',m'<m/\W (i+1) m' σ' H')/\∀ x H',J.yld i H x H'->g x σ H' fun σ2 H2=>tb { D with nx:=N,ct:=N,bk:=D.nx } σ2 H2)
def tU(fp:List Addr)(h:Heap):List (Addr×Obj):=fp.filterMap fun b=>(h.get? b).map fun o=>(b,o)
theorem dq{fp:List Addr}{h:Heap}{b:Addr}{o:Obj}(hb:b∈fp)(e:h.get? b=some o):(b,o)∈tU fp h:=OQ.mpr ⟨b,hb,by rw[e];rfl⟩
theorem FX{fp:List Addr}{h:Heap}{p:Addr×Obj}(hp:p∈tU fp h):p.1∈fp/\h.get? p.1=some p.2:=by
 obtain⟨b,hb,e⟩:=OQ.mp hp
 cases q:h.get? b with
 |none=>rw[q]at e;cases e
 |some o =>
  rw[q]at e
  have e':(b,o)=p:=Mq e
  subst e'
  exact⟨hb,q⟩
theorem Inv.pinned{pins:List (Addr×Obj)}{σ:St}{H:Hp}{s:Shared}{fp:List Addr}(I:Inv X pins σ H s)(hf:∀ b∈fp,FpOk X pins H b)(ho:∀ b∈fp,∃ o,s.heap.get? b=some o/\∀ v,o.data≠.cell v):Inv X (pins++tU fp s.heap) σ H s :=
 I.pins_of fun p hp=>(Mc.mp hp).elim (fun z=>I.pin p (Mh _ z)) fun z=>by
  obtain⟨hb,e⟩:=FX z
  obtain⟨f0,f1,f2,_⟩:=hf p.1 hb
  obtain⟨o,e',d⟩:=ho p.1 hb
  rw[e]at e';cases e'
  exact⟨e,f0,f1,f2,d⟩
theorem Inv.unpinned{pins pl:List (Addr×Obj)}{σ:St}{H:Hp}{s:Shared}(I:Inv X (pins++pl) σ H s):Inv X pins σ H s:=I.pins_of fun p hp=>I.pin p (Mh _ (MC _ hp))
theorem bC{iter:Expr}{body:List Stmt}{wi:TI}{g:TG}{tb:TS}{pos:Pos}(hp:PassesOwn (model X.prog X.w) X.A X.env X.xe)(hc:X.calm=true)(hi:PI X tg iter wi)(hg:PG X tg g)(hb:PSs X body tb)
  (hs:∀ x,foldedSetIterable iter X.env x=pure x:=by intro _;rfl):PS X (.For tg iter body [] pos) (tFor wi g tb):=by
 intro pins s σ H D I h
 refine wpAny_For (thn (hi pins s σ H _ I h) fun v s1 h1=>thn h1 fun itv s2 h2=>?_) hs
 obtain⟨it,fp,tn,J,H2,e,I2,T,st2,f2,W,⟨m0,w0⟩,turn⟩:=h2
 subst e
 have stat:∀{H':Hp},(∀ b∈fp,H' b=none)->∀ b∈fp,FpOk X pins H' b:=fun hn b hb=>⟨hn b hb,(f2 b hb).2⟩
 refine codeAny_forLoop_any (fun n s'=>∃ i σ' H',Inv X pins σ' H' s'/\tn i s'.heap/\(∀ b∈fp,H' b=none)/\W i n σ' H') ?_ m0 ⟨0,σ,H2,I2,st2,fun b hb=>(f2 b hb).1,w0⟩
 rintro n s3 ⟨i,σ3,H3,I3,st3,fr3,w3⟩
 rcases turn i n σ3 H3 w3 with⟨stop,qn⟩ | ⟨go,N,hN,step⟩
 ·refine wpAny_passesOwn hp (thn (T.done X rfl rfl rfl hc i pins s3 σ3 H3 X.xe I3 (stat fr3) st3 stop) fun r s4 ⟨hr,I4⟩=>?_)
  subst hr
  exact wpAny_execs_nil ⟨σ3,H3,I4,qn⟩
 ·refine wpAny_passesOwn hp (thn (T.item X rfl rfl rfl hc i pins s3 σ3 H3 X.xe I3 (stat fr3) st3 go) fun r s4 ⟨u,hr,h4⟩=>?_)
  subst hr
  refine wpAny_passesOwn hp (thn h4 fun _ s5 ⟨x,H5,I5,r5,y5,st5,fr5⟩=>?_)
  have I5':=I5.pinned (stat fr5) (T.obj _ _ st5)
  refine wpAny_passesOwn hp (thn (hg _ s5 σ3 H5 x u _ I5' r5 (step x H5 y5)) fun _ s6 ⟨σ6,H6,I6,q6⟩=>?_)
  refine wpAny_passesOwn hp (thn (hb _ s6 σ6 H6 _ I6 q6) fun f s7 q7=>?_)
  have again:∀{σ7:St}{H7:Hp},Inv X (pins++tU fp s5.heap) σ7 H7 s7->N σ7 H7->∃ m,m<n/\∃ i σ' H',Inv X pins σ' H' s7/\tn i s7.heap/\(∀ b∈fp,H' b=none)/\W i m σ' H':=fun{σ7 H7} I7 n7=>by
   obtain⟨m',hm,w7⟩:=hN σ7 H7 n7
   refine⟨m',hm,i+1,σ7,H7,I7.unpinned,T.keep _ _ _ st5 fun b hb o e=>(I7.pin (b,o) (Mh _ (Mh _ (dq hb e)))).1,fun b hb=>?_,w7⟩
   obtain⟨o,e,d⟩:=T.obj _ _ st5 b hb
   exact(I7.pin (b,o) (Mh _ (Mh _ (dq hb e)))).2.1
  cases f with
  |next=>obtain⟨σ7,H7,I7,n7⟩:=q7;exact again I7 n7
  |cont=>obtain⟨σ7,H7,I7,n7⟩:=q7;exact again I7 n7
  |brk=>obtain⟨σ7,H7,I7,q7⟩:=q7;exact⟨σ7,H7,I7.unpinned,q7⟩
  |ret v=>obtain⟨x7,σ7,H7,I7,r7,q7⟩:=q7;exact⟨x7,σ7,H7,I7.unpinned,r7,q7⟩
end
theorem cn{K:LU}{a:Addr}{xs:List V}{g:TG}{tb:TS}{D:Ends}{σ:St}{H:Hp}(Pv:Nat->St->Hp->Prop)(h0:Pv 0 σ H)(hl:∀ i σ H,i<=xs.length->Pv i σ H->SqL K H a xs)
  (hs:∀ i x σ H,xs[i]?=some x->Pv i σ H->g x σ H fun σ2 H2=>tb { D with nx:=Pv (i+1),ct:=Pv (i+1),bk:=D.nx } σ2 H2) (hd:∀ σ H,Pv xs.length σ H->D.nx σ H) :
  ∃ W:Nat->Nat->St->Hp->Prop,(∃ m,W 0 m σ H)/\∀ i m σ H,W i m σ H ->
   ((Itl K a).stop i H/\D.nx σ H)∨((Itl K a).go i H/\∃ N:St->Hp->Prop,(∀ σ' H',N σ' H'->∃ m',m'<m/\W (i+1) m' σ' H')/\∀ x H',(Itl K a).yld i H x H'->g x σ H' fun σ2 H2=>tb { D with nx:=N,ct:=N,bk:=D.nx } σ2 H2):=by
 refine⟨fun i m σ H=>m=xs.length-i/\i<=xs.length/\Pv i σ H,⟨xs.length,by simp,Na _,h0⟩,?_⟩
 rintro i m σ H ⟨rfl,hi,p⟩
 have q:=hl i σ H hi p
 by_cases hlt:i<xs.length
 ·refine .inr ⟨⟨xs,xs[i],q,by simp[hlt]⟩,Pv (i+1),fun σ' H' p'=>⟨xs.length-(i+1),by omega,rfl,hlt,p'⟩,fun x H' y=>?_⟩
  obtain⟨e,y⟩:=y
  subst e
  exact hs i x σ _ (y xs q) p
 ·have e:i=xs.length:=by omega
  subst e
  exact .inl ⟨⟨xs,q,Ma _⟩,hd σ H p⟩
theorem cf{lo:Int}{n:Nat}{g:TG}{tb:TS}{D:Ends}{σ:St}{H:Hp}(Pv:Nat->St->Hp->Prop)(h0:Pv 0 σ H)
  (hs:∀ i σ H,i<n->Pv i σ H->g (.int (lo+i)) σ H fun σ2 H2=>tb { D with nx:=Pv (i+1),ct:=Pv (i+1),bk:=D.nx } σ2 H2) (hd:∀ σ H,Pv n σ H->D.nx σ H) :
  ∃ W:Nat->Nat->St->Hp->Prop,(∃ m,W 0 m σ H)/\∀ i m σ H,W i m σ H ->
   ((Itr lo n).stop i H/\D.nx σ H)∨((Itr lo n).go i H/\∃ N:St->Hp->Prop,(∀ σ' H',N σ' H'->∃ m',m'<m/\W (i+1) m' σ' H')/\∀ x H',(Itr lo n).yld i H x H'->g x σ H' fun σ2 H2=>tb { D with nx:=N,ct:=N,bk:=D.nx } σ2 H2):=by
 refine⟨fun i m σ H=>m=n-i/\i<=n/\Pv i σ H,⟨n,by simp,Na _,h0⟩,?_⟩
 rintro i m σ H ⟨rfl,hi,p⟩
 by_cases hlt:i<n
 ·refine .inr ⟨hlt,Pv (i+1),fun σ' H' p'=>⟨n-(i+1),by omega,rfl,hlt,p'⟩,fun x H' y=>?_⟩
  obtain⟨e,y⟩:=y
  subst e y
  exact hs i σ _ hlt p
 ·have e:i=n:=by omega
  subst e
  exact .inl ⟨Ma _,hd σ H p⟩
theorem pH{c:TT}{tb:TS}{D:Ends}{σ:St}{H:Hp}(Pv:St->Hp->Prop)(μ:St->Hp->Nat)(h0:Pv σ H)
  (hs:∀ σ H,Pv σ H->c σ H fun b H1=>if b=true then tb { D with nx:=fun σ' H'=>Pv σ' H'/\μ σ' H'<μ σ H,ct:=fun σ' H'=>Pv σ' H'/\μ σ' H'<μ σ H,bk:=D.nx } σ H1 else D.nx σ H1)
  (mono:∀ σ H Q Q',(∀ b H1,Q b H1->Q' b H1)->c σ H Q->c σ H Q'):Ju c tb D σ H:=by
 refine⟨fun m σ H=>m=μ σ H/\Pv σ H,⟨_,rfl,h0⟩,?_⟩
 rintro m σ H ⟨rfl,p⟩
 refine mono σ H _ _ (fun b H1 q=>?_) (hs σ H p)
 cases b with
 |true=>exact⟨_,fun σ' H' ⟨p',l⟩=>⟨_,l,rfl,p'⟩,q⟩
 |false=>exact q
end L2
namespace L2
open PySem PySem.Spec PyProof.Rows
abbrev R2:=V->V->Hp->VK->Prop
def OpR(X:Cx)(f:Value->Value->Sem Value)(r:R2):Prop :=
 ∀(pins:List (Addr×Obj))(s:Shared)(σ:St)(H:Hp)(x y:V)(v u:Value)(Q:VK),Inv X pins σ H s->RelV x v->RelV y u->r x y H Q ->
  wpAny (model X.prog X.w) X.A (f v u) (EP X pins σ Q) X.xe s
def j4(X:Cx)(f:Value)(r:List V->Hp->VK->Prop):Prop :=
 ∀(pins:List (Addr×Obj))(s:Shared)(σ:St)(H:Hp)(xs:List V)(us:List Value)(Q:VK),Inv X pins σ H s->Vals xs us->r xs H Q ->
  wpAny (model X.prog X.w) X.A (call f us) (EP X pins σ Q) X.xe s
def tOp(r:R2)(ta tb:TE):TE:=fun σ H Q=>ta σ H fun x H1=>tb σ H1 fun y H2=>r x y H2 Q
def rI(C:Int->Int->Prop)(g:Int->Int->V):R2:=fun x y H Q=>∃ i j,x=.int i/\y=.int j/\C i j/\Q (g i j) H
def rI0(g:Int->Int->V):R2:=fun x y H Q=>∃ i j,x=.int i/\y=.int j/\Q (g i j) H
section
variable{X:Cx}{a b c:Expr}{ta tb tc:TE}{pos:Pos}
theorem binT(ha:PE X a ta)(hb:PE X b tb){pins:List (Addr×Obj)}{s:Shared}{σ:St}{H:Hp}{R:V->V->Hp->Prop}(I:Inv X pins σ H s)
  (h:ta σ H fun x H1=>tb σ H1 fun y H2=>R x y H2) {Q:Value->Shared->Prop} {f:Value->Value->Sem Value}
  (hf:∀ v u s2 x y H2,Inv X pins σ H2 s2->RelV x v->RelV y u->R x y H2->wpAny (model X.prog X.w) X.A (f v u) Q X.xe s2) :
  wpAny (model X.prog X.w) X.A (eval a X.env) (fun v s₁=>wpAny (model X.prog X.w) X.A (eval b X.env) (fun u s₂=>wpAny (model X.prog X.w) X.A (f v u) Q X.xe s₂) X.xe s₁) X.xe s:=by
 refine thn (ha pins s σ H _ I h) fun v s1 ⟨x,H1,I1,r1,q1⟩=>?_
 refine thn (hb pins s1 σ H1 _ I1 q1) fun u s2 ⟨y,H2,I2,r2,q2⟩=>?_
 exact hf v u s2 x y H2 I2 r1 r2 q2
theorem ay{op:Operator}{r:R2}(ho:OpR X (binaryOp op) r)(ha:PE X a ta)(hb:PE X b tb):PE X (.BinOp a op b pos) (tOp r ta tb):=by
 intro pins s σ H Q I h
 exact wpAny_BinOp (binT ha hb I h fun v u s2 x y H2 I2 rx ry q=>ho pins s2 σ H2 x y v u Q I2 rx ry q)
theorem opI{f:Value->Value->Sem Value}{C:Int->Int->Prop}{g:Int->Int->Int}
  (rule:∀(i j:Int)(t u:Tok)(s:Shared)(Q:Value->Shared->Prop)(E:Value->Shared->Prop),C i j->Q (.int (g i j) s.toks) { s with toks:=s.toks+1 }->wpAny (model X.prog X.w) X.A (f (.int i t) (.int j u)) Q E s) :
  OpR X f (rI C fun i j=>.int (g i j)):=by
 intro pins s σ H x y v u Q I rx ry h
 obtain⟨i,j,rfl,rfl,hc,q⟩:=h
 obtain⟨t,rfl⟩:=rx
 obtain⟨t',rfl⟩:=ry
 exact rule i j t t' s _ _ hc ⟨.int (g i j),H,I.tok _,⟨_,rfl⟩,q⟩
theorem opI0{f:Value->Value->Sem Value}{g:Int->Int->Int}
  (rule:∀(i j:Int)(t u:Tok)(s:Shared)(Q:Value->Shared->Prop)(E:Value->Shared->Prop),Q (.int (g i j) s.toks) { s with toks:=s.toks+1 }->wpAny (model X.prog X.w) X.A (f (.int i t) (.int j u)) Q E s) :
  OpR X f (rI0 fun i j=>.int (g i j)):=by
 intro pins s σ H x y v u Q I rx ry h
 obtain⟨i,j,rfl,rfl,q⟩:=h
 obtain⟨t,rfl⟩:=rx
 obtain⟨t',rfl⟩:=ry
 exact rule i j t t' s _ _ ⟨.int (g i j),H,I.tok _,⟨_,rfl⟩,q⟩
theorem opB0{f:Value->Value->Sem Value}{g:Int->Int->Bool}
  (rule:∀(i j:Int)(t u:Tok)(s:Shared)(Q:Value->Shared->Prop)(E:Value->Shared->Prop),Q (.bool (g i j)) s->wpAny (model X.prog X.w) X.A (f (.int i t) (.int j u)) Q E s) :
  OpR X f (rI0 fun i j=>.bl (g i j)):=by
 intro pins s σ H x y v u Q I rx ry h
 obtain⟨i,j,rfl,rfl,q⟩:=h
 obtain⟨t,rfl⟩:=rx
 obtain⟨t',rfl⟩:=ry
 exact rule i j t t' s _ _ ⟨.bl (g i j),H,I,rfl,q⟩
def CDiv(i j:Int):Prop:=0<j/\j<1073741824
def CPow(i j:Int):Prop:=0<=j/\j<=1000000/\i.natAbs<2^64
def CMul(i j:Int):Prop:=(-(2^64)<i/\i<2^64)∨(-(2^64)<j/\j<2^64)
theorem CMul.ok{i j:Int}(h:CMul i j):IntMulOk i j:=by
 rcases h with⟨h1,h2⟩ | ⟨h1,h2⟩
 ·exact .of_left (intBits_le_64 h1 h2)
 ·exact .of_right (intBits_le_64 h1 h2)
theorem DA(k:Nat):(0:Int)<=2^k:=by
 rw[two_pow_cast]
 exact OT _
theorem b7:OpR X (binaryOp .Add) (rI0 fun i j=>.int (i+j)):=opI0 fun _ _ _ _ _ _ _ q=>add_int q
theorem ye:OpR X (binaryOp .Sub) (rI0 fun i j=>.int (i-j)):=opI0 fun _ _ _ _ _ _ _ q=>sub_int q
theorem gq:OpR X (binaryOp .Mult) (rI CMul fun i j=>.int (i*j)):=opI fun _ _ _ _ _ _ _ hc q=>mul_int q hc.ok
theorem cQ:OpR X (binaryOp .FloorDiv) (rI CDiv fun i j=>.int (i/j)):=opI fun i j _ _ _ _ _ hc q=>by
 have h1:(0:Int)<j:=hc.1
 have h2:j<1073741824:=hc.2
 exact floordiv_int (by omega) (by rw[Pa i (by omega)];exact q) (.inl (PyProof.noPylong_small (by omega)))
theorem bD:OpR X (binaryOp .Mod) (rI (fun _ j=>0<j) fun i j=>.int (i%j)):=opI fun i j _ _ _ _ _ hc q=>by
 have h1:(0:Int)<j:=hc
 exact mod_int' (by omega) (by rw[Int.fmod_eq_emod_of_nonneg i (by omega)];exact q)
theorem op_pow:OpR X (binaryOp .Pow) (rI CPow fun i j=>.int (i^j.toNat)):=opI fun _ _ _ _ _ _ _ hc q=>pow_int_small hc.1 hc.2.1 hc.2.2 q
theorem iK:OpR X (binaryOp .LShift) (rI CPow fun i j=>.int (i*2^j.toNat)):=opI fun _ _ _ _ _ _ _ hc q=>lshift_int_small hc.1 hc.2.1 hc.2.2 q
theorem qk:OpR X (binaryOp .RShift) (rI (fun _ j=>0<=j) fun i j=>.int (i/2^j.toNat)):=opI fun i j _ _ _ _ _ hc q =>
 rshift_int hc (by rw[Pa i (DA _)];exact q)
theorem tV:OpR X (binaryOp .BitAnd) (rI0 fun i j=>.int (Builtin.bitAnd i j)):=opI0 fun _ _ _ _ _ _ _ q=>and_int q
theorem A3:OpR X (binaryOp .BitOr) (rI0 fun i j=>.int (Builtin.bitOr i j)):=opI0 fun _ _ _ _ _ _ _ q=>or_int q
theorem op_xor:OpR X (binaryOp .BitXor) (rI0 fun i j=>.int (Builtin.bitXor i j)):=opI0 fun _ _ _ _ _ _ _ q=>xor_int q
end
def scal:V->V->Bool
 |.non,.non=>true | .non,.int _=>true | .int _,.non=>true | .non,.bl _=>true | .bl _,.non=>true | .non,.str _=>true | .str _,.non=>true
 |.int _,.int _=>true | .bl _,.bl _=>true | .str _,.str _=>true | .byt _,.byt _=>true
 |.int _,.str _=>true | .str _,.int _=>true | .bl _,.str _=>true | .str _,.bl _=>true
 |_,_=>false
def rEq:R2:=fun x y H Q=>scal x y=true/\Q (.bl (decide (x=y))) H
def rNe:R2:=fun x y H Q=>scal x y=true/\Q (.bl (!decide (x=y))) H
theorem G2{i j:Int}:decide (V.int i=V.int j)=(i == j):=by
 rw[OF]
 simp
theorem JE{i j:Bool}:decide (V.bl i=V.bl j)=(i == j):=by
 rw[OF]
 simp
theorem G1{i j:Str}:decide (V.str i=V.str j)=(i == j):=by
 rw[OF]
 simp
theorem G3{i j:Array UInt8}:decide (V.byt i=V.byt j)=(i.toList == j.toList):=by
 rw[OF]
 cases i
 cases j
 simp
section
variable{X:Cx}{a b c:Expr}{ta tb tc:TE}{pos:Pos}
theorem bg{pins:List (Addr×Obj)}{σ:St}{H:Hp}{s:Shared}{Q:VK}{k k':Bool}(I:Inv X pins σ H s)(q:Q (.bl k) H)(e:k=k'):EP X pins σ Q (.bool k') s:=by
 subst e
 exact⟨.bl k,H,I,rfl,q⟩
theorem jW:OpR X (compareOp .Eq) rEq:=by
 intro pins s σ H x y v u Q I rx ry h
 obtain⟨hs,q⟩:=h
 cases x with
 |non =>
  cases rx
  cases y with
  |non=>cases ry;exact PySem.EqNone.eq_none_none (bg I q (by simp))
  |bl j=>cases ry;exact PySem.EqNone.eq_none_bool (bg I q (by simp))
  |int j=>obtain⟨t',rfl⟩:=ry;exact PySem.EqNone.eq_none_int (bg I q (by simp))
  |str j=>obtain⟨t',rfl⟩:=ry;exact PySem.EqNone.eq_none_str (bg I q (by simp))
  |_=>exact absurd (show false=true from hs) Mp
 |bl i =>
  cases rx
  cases y with
  |non=>cases ry;exact PySem.EqNone.eq_bool_none (bg I q (by simp))
  |bl j=>cases ry;exact eq_bool (bg I q JE)
  |str j=>obtain⟨t',rfl⟩:=ry;exact PySem.EqMixed.eq_bool_str (bg I q (by simp))
  |_=>exact absurd (show false=true from hs) Mp
 |int i =>
  obtain⟨t,rfl⟩:=rx
  cases y with
  |non=>cases ry;exact PySem.EqNone.eq_int_none (bg I q (by simp))
  |int j=>obtain⟨t',rfl⟩:=ry;exact eq_int (bg I q G2)
  |str j=>obtain⟨t',rfl⟩:=ry;exact PySem.EqMixed.eq_int_str (bg I q (by simp))
  |_=>exact absurd (show false=true from hs) Mp
 |str i =>
  obtain⟨t,rfl⟩:=rx
  cases y with
  |non=>cases ry;exact PySem.EqNone.eq_str_none (bg I q (by simp))
  |bl j=>cases ry;exact PySem.EqMixed.eq_str_bool (bg I q (by simp))
  |int j=>obtain⟨t',rfl⟩:=ry;exact PySem.EqMixed.eq_str_int (bg I q (by simp))
  |str j=>obtain⟨t',rfl⟩:=ry;exact eq_str (bg I q G1)
  |_=>exact absurd (show false=true from hs) Mp
 |byt i =>
  obtain⟨t,rfl⟩:=rx
  cases y with
  |byt j=>obtain⟨t',rfl⟩:=ry;exact PySem.W.eq_bytes (bg I q G3)
  |_=>exact absurd (show false=true from hs) Mp
 |_=>cases y<;>exact absurd (show false=true from hs) Mp
theorem vk:OpR X (compareOp .NotEq) rNe:=by
 intro pins s σ H x y v u Q I rx ry h
 obtain⟨hs,q⟩:=h
 cases x with
 |non =>
  cases rx
  cases y with
  |non=>cases ry;exact PySem.EqNone.ne_none_none (bg I q (by simp))
  |bl j=>cases ry;exact PySem.EqNone.ne_none_bool (bg I q (by simp))
  |int j=>obtain⟨t',rfl⟩:=ry;exact PySem.EqNone.ne_none_int (bg I q (by simp))
  |str j=>obtain⟨t',rfl⟩:=ry;exact PySem.EqNone.ne_none_str (bg I q (by simp))
  |_=>exact absurd (show false=true from hs) Mp
 |bl i =>
  cases rx
  cases y with
  |non=>cases ry;exact PySem.EqNone.ne_bool_none (bg I q (by simp))
  |bl j=>cases ry;exact ne_bool (bg I q (congrArg not JE))
  |str j=>obtain⟨t',rfl⟩:=ry;exact PySem.EqMixed.ne_bool_str (bg I q (by simp))
  |_=>exact absurd (show false=true from hs) Mp
 |int i =>
  obtain⟨t,rfl⟩:=rx
  cases y with
  |non=>cases ry;exact PySem.EqNone.ne_int_none (bg I q (by simp))
  |int j=>obtain⟨t',rfl⟩:=ry;exact ne_int (bg I q (congrArg not G2))
  |str j=>obtain⟨t',rfl⟩:=ry;exact PySem.EqMixed.ne_int_str (bg I q (by simp))
  |_=>exact absurd (show false=true from hs) Mp
 |str i =>
  obtain⟨t,rfl⟩:=rx
  cases y with
  |non=>cases ry;exact PySem.EqNone.ne_str_none (bg I q (by simp))
  |bl j=>cases ry;exact PySem.EqMixed.ne_str_bool (bg I q (by simp))
  |int j=>obtain⟨t',rfl⟩:=ry;exact PySem.EqMixed.ne_str_int (bg I q (by simp))
  |str j=>obtain⟨t',rfl⟩:=ry;exact ne_str (bg I q (congrArg not G1))
  |_=>exact absurd (show false=true from hs) Mp
 |byt i =>
  obtain⟨t,rfl⟩:=rx
  cases y with
  |byt j=>obtain⟨t',rfl⟩:=ry;exact PySem.W.ne_bytes (bg I q (congrArg not G3))
  |_=>exact absurd (show false=true from hs) Mp
 |_=>cases y<;>exact absurd (show false=true from hs) Mp
theorem FN:OpR X (compareOp .Lt) (rI0 fun i j=>.bl (decide (i<j))):=opB0 fun _ _ _ _ _ _ _ q=>lt_int q
theorem op_le:OpR X (compareOp .LtE) (rI0 fun i j=>.bl (decide (i<=j))):=opB0 fun _ _ _ _ _ _ _ q=>le_int q
theorem FO:OpR X (compareOp .Gt) (rI0 fun i j=>.bl (decide (j<i))):=opB0 fun _ _ _ _ _ _ _ q=>gt_int q
theorem KQ:OpR X (compareOp .GtE) (rI0 fun i j=>.bl (decide (j<=i))):=opB0 fun _ _ _ _ _ _ _ q=>ge_int q
theorem op_isN:OpR X (compareOp .Is) (fun x y H Q=>y=.non/\Q (.bl (decide (x=.non))) H):=by
 intro pins s σ H x y v u Q I rx ry h
 obtain⟨rfl,q⟩:=h
 cases ry
 refine is_none_gen (bg I q ?_)
 cases x<;>first
  | (cases rx;rfl)
  | (obtain⟨t,rfl⟩:=rx;rfl)
theorem aR(b:Expr){op:CmpOp}(h:op≠.In:=by decide)(h2:op≠.NotIn:=by decide):behindInMarks op b=false:=by
 have e1:(op == CmpOp.In)=false:=by cases op<;>first | rfl | exact absurd rfl h
 have e2:(op == CmpOp.NotIn)=false:=by cases op<;>first | rfl | exact absurd rfl h2
 cases b<;>simp[behindInMarks,e1,e2]
theorem iJ{op:CmpOp}{r:R2}(ho:OpR X (compareOp op) r)(ha:PE X a ta)(hb:PE X b tb)(hm:behindInMarks op b=false):PE X (.Compare a [op] [b] pos) (tOp r ta tb):=by
 intro pins s σ H Q I h
 exact wpAny_Compare1 (binT ha hb I h fun v u s2 x y H2 I2 rx ry q=>ho pins s2 σ H2 x y v u Q I2 rx ry q) hm
def tTest(t:TE):TT:=fun σ H Q=>t σ H fun x H'=>∃ k,x=.bl k/\Q k H'
theorem aM{op:CmpOp}{r:R2}(ho:OpR X (compareOp op) r)(ha:PE X a ta)(hb:PE X b tb)(hm:behindInMarks op b=false):PT X (.Compare a [op] [b] pos) (tTest (tOp r ta tb)):=by
 intro pins s σ H Q I h
 refine wpAny_isTrue_Compare1 (thn (ha pins s σ H _ I h) fun v s1 ⟨x,H1,I1,r1,q1⟩=>thn (hb pins s1 σ H1 _ I1 q1) fun u s2 ⟨y,H2,I2,r2,q2⟩ =>
  thn (ho pins s2 σ H2 x y v u _ I2 r1 r2 q2) fun c s3 ⟨z,H3,I3,r3,k,e,q3⟩=>?_) hm
 subst e
 cases r3
 exact wpAny_truthy_bool ⟨H3,I3,q3⟩
theorem yK:(sizeLine:Nat)<2^63:=by rw[sizeLine_eq];decide
theorem rQ{x:V}{us:List Value}(r:Vals [x] us):∃ u,us = [u]/\RelV x u:=by
 cases r with
 |cons r1 r2=>cases r2;exact⟨_,rfl,r1⟩
theorem HY{x y:V}{us:List Value}(r:Vals [x,y] us):∃ u w',us = [u,w']/\RelV x u/\RelV y w':=by
 cases r with
 |cons r1 r2 =>
  cases r2 with
  |cons r3 r4=>cases r4;exact⟨_,_,rfl,r1,r3⟩
theorem qZ(hc:X.calm=true):j4 X (.builtin "max") (fun xs H Q=>∃ i j,xs = [.int i,.int j]/\Q (.int (if j > i then j else i)) H):=by
 intro pins s σ H xs us Q I r h
 obtain⟨i,j,rfl,q⟩:=h
 obtain⟨u,w',rfl,⟨t,rfl⟩,⟨t',rfl⟩⟩:=HY r
 refine max_two_ints (I.ok.hd hc) fun h' tk k=>⟨_,H,I.kept k,?_,q⟩
 by_cases hj:j > i
 ·rw[if_pos hj,if_pos hj];exact⟨_,rfl⟩
 ·rw[if_neg hj,if_neg hj];exact⟨_,rfl⟩
theorem Hl(hc:X.calm=true):j4 X (.builtin "min") (fun xs H Q=>∃ i j,xs = [.int i,.int j]/\Q (.int (if j<i then j else i)) H):=by
 intro pins s σ H xs us Q I r h
 obtain⟨i,j,rfl,q⟩:=h
 obtain⟨u,w',rfl,⟨t,rfl⟩,⟨t',rfl⟩⟩:=HY r
 refine min_two_ints (I.ok.hd hc) fun h' tk k=>⟨_,H,I.kept k,?_,q⟩
 by_cases hj:j<i
 ·rw[if_pos hj,if_pos hj];exact⟨_,rfl⟩
 ·rw[if_neg hj,if_neg hj];exact⟨_,rfl⟩
theorem zD:j4 X (.type "int") (fun xs H Q=>(∃ i,xs = [.int i]/\Q (.int i) H)∨∃ k,xs = [.bl k]/\Q (.int (if k then 1 else 0)) H):=by
 intro pins s σ H xs us Q I r h
 rcases h with⟨i,rfl,q⟩ | ⟨k,rfl,q⟩
 ·obtain⟨u,rfl,t,rfl⟩:=rQ r
  exact call_int_int ⟨.int i,H,I,⟨_,rfl⟩,q⟩
 ·obtain⟨u,rfl,r1⟩:=rQ r
  cases r1
  exact call_int_bool ⟨.int (if k then 1 else 0),H,I.tok _,⟨_,rfl⟩,q⟩
end
end L2
namespace L2
open PySem PySem.Spec PyProof.Rows
structure ObjM(h:Heap)(x dx C:Addr)(mA:Str->Option Value):Prop where
 obj:h.get? x=some (NG C dx)
 ns:h.Ns1 dx mA
 ne:dx≠x
theorem F7{h:Heap}{dx:Addr}{mA:Str->Option Value}(n:h.Ns1 dx mA):∃ od,h.get? dx=some od/\∀ name,OH name od=some (mA name):=by
 obtain⟨o,es,ep,ho,hd,hk,_,hm⟩:=n
 refine⟨o,ho,fun name=>?_⟩
 have e:=hm name
 unfold nsFind findBy at e
 rw[← Array.find?_toList]at e
 unfold OH
 rw[hd]
 dsimp only
 split
 ·rename_i y q
  rw[q]at e
  exact congrArg some e
 ·rename_i q
  rw[q]at e
  have a:es.toList.any (·.refKey)=false:=by
   rw[List.any_eq_false]
   intro y hy
   obtain⟨z,t,hkey⟩:=hk y (Array.mem_toList_iff.mp hy)
   simp[DictEntry.refKey,hkey]
  have a':¬ es.toList.any (·.refKey)=true:=by rw[a];exact Mp
  rw[if_neg a']
  exact congrArg some e
theorem ObjM.look{h:Heap}{x dx C:Addr}{mA:Str->Option Value}(I:ObjM h x dx C mA):∃ od,PySem.W.InstAt h x (NG C dx) C (some od)/\∀ name,OH name od=some (mA name) :=
 let ⟨od,ho,hl⟩:=F7 I.ns
 ⟨od,⟨I.obj,rfl,rfl,ho⟩,hl⟩
section
variable{prog:Program}{w:World}{A:Around}{E:Value->Shared->Prop}{s:Shared}{K:LU}{x dx C f:Addr}{mA:Str->Option Value}{name:Str}{v:Value}
theorem Lv{expr:Bool}{Q:Value->Shared->Prop}(X:K.In s.heap)(I:ObjM s.heap x dx C mA)(hg:NJ K C name=true)(hh:NN K C=true)
  (ha:MA K (.ref C) name=some none) (hv:mA name=some v) (hv':PySem.W.handedIn v=true) (h:Q v { s with toks:=s.toks+1 }) :
  wpAny (model prog w) A (getAttr (.ref x) name expr) Q E s:=by
 obtain⟨od,J,hl⟩:=I.look
 exact PySem.W.get_value X J (OJ hg).1 (PySem.W.findObj_own hh ha rfl (by rw[hl,hv])) hv' h
theorem Je{pl:Sem Bool}{Q:Value×List Value->Shared->Prop}(X:K.In s.heap)(I:ObjM s.heap x dx C mA)(hg:NJ K C name=true)
  (hf:MA K (.ref C) name=some (some (.ref f))) (ht:NM K (.ref f)=true) (hv:mA name=none) (h:Q (.ref f,[.ref x]) s) :
  wpAny (model prog w) A (getMethod (.ref x) name pl) Q E s:=by
 obtain⟨od,J,hl⟩:=I.look
 exact PySem.W.method_fn X J (OJ hg).1 (OJ hg).2 hf (beq_iff_eq.mp ht) (by show(OH name od).map (·.isSome)=some false;rw[hl,hv];rfl) h
theorem Ku{ns:List Str}{Q:Unit->Shared->Prop}(X:K.In s.heap)(I:ObjM s.heap x dx C mA)
  (hs:MA K (.ref C) "__setattr__" = some (some (.builtin "object.__setattr__"))) (hp:N1 K C=true) (ht:O5 K C name=some none) (hh:NN K C=true)
  (hw:PySem.Within mA ns) (hsz:ns.length<=sizeLine)
  (h:∀ h',ObjM h' x dx C (fun y=>if y=name then some v else mA y)->Heap.SameBut dx s.heap h'->Q () { s with heap:=h',toks:=s.toks+2 }) :
  wpAny (model prog w) A (setAttr (.ref x) name v) Q E s:=by
 obtain⟨od,J,hl⟩:=I.look
 refine PySem.W.set_plain X J hs (PySem.W.osa_open (s:={ s with toks:=s.toks+1 }) (r:=none) X J hp ht fun b=>?_)
 obtain⟨cd,hc,hd'⟩:=PySem.W.any_some hh
 have hx:s.heap.get? x=some ⟨.ref C,some dx,.plain,#[]⟩:=I.obj
 refine wpAny_bind (wpAny_pure (wpAny_bind (wpAny_bind (wpAny_loadPart hx (wpAny_bind (PySem.W.Looks.here (s:={ s with toks:=s.toks+1 }) (PySem.W.looks_clsIn X hc) ?_))))))
 rw[hd']
 refine wpAny_pure (a:=some dx) (wpAny_bind (wpAny_pure (wpAny_bind ?_)))
 refine wpAny_nsSet1 (s:={ s with toks:=s.toks+1 }) I.ns fun h' hn2 hs2=>?_
 obtain⟨oD,esD,epD,hoD,hdD,hcD⟩:=hn2.count (PySem.Within.cons name v hw)
 refine wpAny_bind (wpAny_lookBehind hoD (by rw[hdD];exact pastItsLine_dict (MZ hcD (by rw[MJ];omega))) ?_)
 exact wpAny_pure (h _ ⟨(hs2.2 _ (Ne.symm I.ne)).trans I.obj,hn2,I.ne⟩ hs2)
theorem IT{R:Result->Shared->Prop}{vs:List Value}{kw:List (Str×Value)}(X:K.In s.heap)(hm:Ob K C=true)
  (hi:MA K (.ref C) "__init__" = some (some (.ref f))) (hf:PySem.W.typeIn K (.ref f)=some (.type "function"))
  (h:codeAny (model prog w) (A.under (.builtin "type.__call__" ⟨.ref C::vs,kw⟩)) (.call (.ref f) ⟨.ref (s.heap.objs.size+1)::vs,kw⟩) (PySem.W.InitBack (s.heap.objs.size+1) R)
   { s with heap:=(s.heap.push Nl).push (NG C s.heap.objs.size) }) :
  codeAny (model prog w) A (.call (.ref C) ⟨vs,kw⟩) R s:=by
 obtain⟨hh,g,d,t,os⟩:=s
 exact PySem.W.make_core (PySem.W.makes_of X hm) (PySem.W.looks_findIn X hi) (fun self=>PySem.W.bind_fn X self hf) (.inl rfl) h
end
def putF(f:Str)(v:V):List (Str×V)->List (Str×V)
 |[]=>[(f,v)]
 | (g,x)::r=>if g=f then(g,v)::r else(g,x)::putF f v r
theorem aC(f g:Str)(v:V):∀ fs:List (Str×V),(putF f v fs).lookup g=if g=f then some v else fs.lookup g
 |[]=>by
  show Og g [(f,v)]=_
  by_cases h:g=f
  ·have hb:(g == f)=true:=beq_iff_eq.mpr h
   simp only[Og,hb,if_pos h]
  ·have hb:(g == f)=false:=beq_eq_false_iff_ne.mpr h
   simp only[Og,hb,if_neg h]
 | (k,x)::r=>by
  have ih:=aC f g v r
  rw[show putF f v ((k,x)::r)=(if k=f then(k,v)::r else(k,x)::putF f v r) from rfl]
  by_cases hk:k=f
  ·rw[if_pos hk]
   by_cases h:g=k
   ·have hb:(g == k)=true:=beq_iff_eq.mpr h
    simp only[Og,hb,if_pos (h.trans hk)]
   ·have hb:(g == k)=false:=beq_eq_false_iff_ne.mpr h
    simp only[Og,hb,if_neg (fun e:g=f=>h (e.trans hk.symm))]
  ·rw[if_neg hk]
   by_cases h:g=k
   ·have hb:(g == k)=true:=beq_iff_eq.mpr h
    simp only[Og,hb,if_neg (fun e:g=f=>hk (h.symm.trans e))]
   ·have hb:(g == k)=false:=beq_eq_false_iff_ne.mpr h
    simp only[Og,hb]
    exact ih
theorem qH(f:Str)(v:V):∀ fs:List (Str×V),f∈(putF f v fs).map (·.1)/\∀ g,g∈fs.map (·.1)->g∈(putF f v fs).map (·.1)
 |[]=>⟨by simp[putF],fun g h=>by simp at h⟩
 | (k,x)::r=>by
  obtain⟨i1,i2⟩:=qH f v r
  rw[show putF f v ((k,x)::r)=(if k=f then(k,v)::r else(k,x)::putF f v r) from rfl]
  by_cases hk:k=f
  ·rw[if_pos hk]
   subst hk
   exact⟨by simp,fun g h=>by simpa using h⟩
  ·rw[if_neg hk]
   refine⟨?_,fun g h=>?_⟩
   ·rw[MQ]
    exact Ml _ i1
   ·rw[MQ]at h ⊢
    rcases LZ.mp h with e | e
    ·exact LZ.mpr (.inl e)
    ·exact Ml _ (i2 g e)
theorem qz(f:Str)(v:V):∀ fs:List (Str×V),(putF f v fs).length<=fs.length+1
 |[]=>by simp[putF]
 | (k,x)::r=>by
  have ih:=qz f v r
  rw[show putF f v ((k,x)::r)=(if k=f then(k,v)::r else(k,x)::putF f v r) from rfl]
  by_cases hk:k=f
  ·rw[if_pos hk,MJ,MJ];omega
  ·rw[if_neg hk,MJ,MJ];omega
theorem RelO.some_of{v:V}{o:Option Value}(r:RelO (some v) o):∃ u,o=some u/\RelV v u:=by
 cases o with
 |none=>exact(show False from r).elim
 |some u=>exact⟨u,rfl,r⟩
theorem RelO.none_of{o:Option Value}(r:RelO none o):o=none:=by
 cases o with
 |none=>rfl
 |some u=>exact(show False from r).elim
theorem GL{v:V}{u:Value}(r:RelV v u):PySem.W.handedIn u=true:=by
 cases v with
 |non=>cases (show u=Value.none from r);rfl
 |bl b=>cases (show u=Value.bool b from r);rfl
 |int i=>obtain⟨t,e⟩:=(show ∃ t,u=Value.int i t from r);cases e;rfl
 |str x=>obtain⟨t,e⟩:=(show ∃ t,u=Value.str x t from r);cases e;rfl
 |byt b=>obtain⟨t,e⟩:=(show ∃ t,u=Value.bytes b t from r);cases e;rfl
 |flt b=>obtain⟨t,e⟩:=(show ∃ t,u=Value.float b t from r);cases e;rfl
 |ref a=>cases (show u=Value.ref a from r);rfl
 |ty n=>cases (show u=Value.type n from r);rfl
section
variable{P:Program}{w:World}{H H':Hp}{h h':Heap}{a C dx:Addr}{fs fs':List (Str×V)}
theorem wc(hok:HOk P w H h)(e:H a=some (.ins C dx fs)):∃ mA,ObjM h a dx C mA/\(∀ f,RelO (fs.lookup f) (mA f))/\PySem.Within mA (fs.map (·.1))/\fs.length<=1000/\H dx=some (.own a):=by
 obtain⟨d,z,ne,ob,mA,n,r,q⟩:=(show bJ P w H h a (.ins C dx fs) from hok a _ e)
 exact⟨mA,⟨ob,n,ne⟩,r,q,z,d⟩
end
structure Cls(K:LU)(C:Addr):Prop where
 pg:NJ K C Str.empty=true
 hd:NN K C=true
 po:N1 K C=true
 sa:MA K (.ref C) "__setattr__" = some (some (.builtin "object.__setattr__"))
theorem Cls.get{K:LU}{C:Addr}(c:Cls K C)(f:Str):NJ K C f=true:=c.pg
def fU(K:LU)(C:Addr)(f:Str):Prop:=MA K (.ref C) f=some none
theorem fU.taker{K:LU}{C:Addr}{f:Str}(n:fU K C f):O5 K C f=some none:=by
 unfold O5
 rw[show MA K (.ref C) f=some none from n]
 rfl
structure Meth(K:LU)(C:Addr)(m:Str)(f:Addr):Prop where
 at_:MA K (.ref C) m=some (some (.ref f))
 fn:NM K (.ref f)=true
 kp:Md K (.ref f)=true
section
variable{X:Cx}{pins:List (Addr×Obj)}{σ:St}{H:Hp}{s:Shared}{a C dx:Addr}{fs:List (Str×V)}{f:Str}{v:V}{A:Around}{E:Value->Shared->Prop}
theorem Es{b:Bool}{Q:Value->Shared->Prop}(I:Inv X pins σ H s)(e:H a=some (.ins C dx fs))(c:Cls X.K C)(n:fU X.K C f)(l:fs.lookup f=some v)
  (h:∀ u s',Inv X pins σ H s'->RelV v u->Q u s'):wpAny (model X.prog X.w) A (getAttr (.ref a) f b) Q E s:=by
 obtain⟨mA,O,r,_,_,_⟩:=wc I.hok e
 obtain⟨u,hu,ru⟩:=RelO.some_of (v:=v) (o:=mA f) (by rw[← l];exact r f)
 exact Lv I.kIn O (c.get f) c.hd n hu (GL ru) (h u _ (I.tok _) ru)
theorem t8{m:Str}{g:Addr}{pl:Sem Bool}{Q:Value×List Value->Shared->Prop}(I:Inv X pins σ H s)(e:H a=some (.ins C dx fs))(c:Cls X.K C)(k:Meth X.K C m g)(l:fs.lookup m=none)
  (h:Q (.ref g,[.ref a]) s):wpAny (model X.prog X.w) A (getMethod (.ref a) m pl) Q E s:=by
 obtain⟨mA,O,r,_,_,_⟩:=wc I.hok e
 have hn:mA m=none:=RelO.none_of (by rw[← l];exact r m)
 exact Je I.kIn O (c.get m) k.at_ k.fn hn h
theorem DI{y:V}{u:Value}{Q:Unit->Shared->Prop}(I:Inv X pins σ H s)(e:H a=some (.ins C dx fs))(c:Cls X.K C)(n:fU X.K C f)(hl:fs.length<1000)(ry:RelV y u)
  (h:∀ s',Inv X pins σ (upd H a (.ins C dx (putF f y fs))) s'->Q () s'):wpAny (model X.prog X.w) A (setAttr (.ref a) f u) Q E s:=by
 obtain⟨mA,O,r,wi,_,ho⟩:=wc I.hok e
 have hz:(fs.map (·.1)).length<=sizeLine:=by rw[LW,sizeLine_eq];omega
 refine Ku I.kIn O c.sa c.po n.taker c.hd wi hz fun h' O' sb=>h _ ?_
 have hd:∃ o,h'.get? dx=some o:=let ⟨o,_,_,e',_⟩:=O'.ns;⟨o,e'⟩
 refine I.write (x:=a) (e:=dx) (by rw[e];exact True.intro) (.inr ho) (fun b q hb z=>(sb.2 b hb).trans z) hd ?_
 refine⟨by rw[aq O.ne];exact ho,?_,O.ne,O'.obj,_,O'.ns,fun g=>?_,fun g hg=>?_⟩
 ·have:=qz f y fs;omega
 ·show RelO ((putF f y fs).lookup g) (if g=f then some u else mA g)
  rw[aC]
  by_cases q:g=f
  ·rw[if_pos q,if_pos q];exact ry
  ·rw[if_neg q,if_neg q];exact r g
 ·by_cases q:g=f
  ·rw[q];exact(qH f y fs).1
  ·refine(qH f y fs).2 g (wi g fun z=>hg ?_)
   show(if g=f then some u else mA g)=none
   rw[if_neg q];exact z
theorem Inv.made(I:Inv X pins σ H s):Inv X pins σ (upd (upd H s.heap.objs.size (.own (s.heap.objs.size+1))) (s.heap.objs.size+1) (.ins C s.heap.objs.size []))
  { s with heap:=(s.heap.push Nl).push (NG C s.heap.objs.size) }:=by
 have e1:(s.heap.push Nl).get? s.heap.objs.size=some Nl:=Heap.get?_push_size s.heap rfl
 have e2:((s.heap.push Nl).push (NG C s.heap.objs.size)).get? (s.heap.objs.size+1)=some (NG C s.heap.objs.size):=by
  have:=Heap.get?_push_size (s.heap.push Nl) (o:=NG C s.heap.objs.size) rfl
  rwa[Heap.size_push]at this
 have e3:(s.heap.push Nl).Ns s.heap.objs.size (fun _=>none):=⟨Nl,#[],_,e1,rfl,(fun e he=>absurd he (by simp)),fun _=>rfl⟩
 have I1:=I.laid (a:=s.heap.objs.size) (o:=.own (s.heap.objs.size+1)) (h':=s.heap.push Nl) (t':=s.toks) (fun b u q=>Heap.get?_push_of_some _ q) (Ma _) ⟨_,e1⟩
 refine I1.laid (a:=s.heap.objs.size+1) (o:=.ins C s.heap.objs.size []) (t':=s.toks) (fun b u q=>Heap.get?_push_of_some _ q) (Nat.le_of_eq (Heap.size_push _ _)) ?_
 have ne:s.heap.objs.size≠s.heap.objs.size+1:=ME (NA _)
 refine⟨by rw[aq ne,ae],Na _,ne,e2,fun _=>none,(Heap.Ns1.of_empty e3).at fun o q=>Heap.get?_push_of_some _ q,fun _=>True.intro,fun y hy=>absurd rfl hy⟩
theorem LL{prog:Program}{w:World}{env:Env}{e:Expr}{f:Str}{pos:Pos}{s:Shared}{Q:Value->Shared->Prop}(hb:attributeBase e f env (eval e env)=eval e env)
  (h:wpAny (model prog w) A (eval e env) (fun o s₁=>wpAny (model prog w) A (getAttr o f true) Q E s₁) E s):wpAny (model prog w) A (eval (.Attribute e f pos) env) Q E s :=
 Attribute_any_ h (by rw[arm_eval_Attribute,hb])
end
def tFld(K:LU)(ta:TE)(f:Str):TE:=fun σ H Q=>ta σ H fun x H1=>∃ a C dx fs v,x=.ref a/\H1 a=some (.ins C dx fs)/\Cls K C/\fU K C f/\fs.lookup f=some v/\Q v H1
def sFld(K:LU)(ta tv:TE)(f:Str):TS:=fun D σ H=>tv σ H fun y H1=>ta σ H1 fun x H2=>∃ a C dx fs,x=.ref a/\H2 a=some (.ins C dx fs)/\Cls K C/\fU K C f/\fs.length<1000 /\
 D.nx σ (upd H2 a (.ins C dx (putF f y fs)))
section
variable{X:Cx}{o e value:Expr}{f:Str}{pos pos' tpos:Pos}{ta tv:TE}
theorem cP(he:PE X e ta)(hb:attributeBase e f X.env (eval e X.env)=eval e X.env):PE X (.Attribute e f pos) (tFld X.K ta f):=by
 intro pins s σ H Q I h
 refine LL hb (thn (he pins s σ H _ I h) fun u s1 ⟨x,H1,I1,rx,a,C,dx,fs,v,ex,ea,c,n,l,q⟩=>?_)
 subst ex
 obtain rfl:u=Value.ref a:=rx
 exact Es I1 ea c n l fun u' s2 I2 ru=>⟨v,H1,I2,ru,q⟩
theorem oo(ha:PE X o ta)(hv:PE X value tv)(hs:swapsWith value (some (.Attribute o f pos')) pos.line X.env=pure false):PS X (.Assign [.Attribute o f pos'] value pos) (sFld X.K ta tv f):=by
 intro pins s σ H D I h
 refine plainObj_wpAny_Assign_Attribute (thn (hv pins s σ H _ I h) fun u s1 ⟨y,H1,I1,ry,q⟩=>thn (ha pins s1 σ H1 _ I1 q) fun ov s2 ⟨x,H2,I2,rx,a,C,dx,fs,ex,ea,c,n,l,q2⟩=>?_) hs
 subst ex
 obtain rfl:ov=Value.ref a:=rx
 exact DI I2 ea c n l ry fun s3 I3=>⟨σ,_,I3,q2⟩
end
section
variable{X:Cx}{pins:List (Addr×Obj)}{σ:St}{H:Hp}{s:Shared}{A:Around}{E:Value->Shared->Prop}{Q:Value->Shared->Prop}{c:Value}{b:Bool}
inductive TyOf(K:LU)(H:Hp):V->Value->Prop where
 |non:TyOf K H .non (.type "NoneType")
 |bl (x:Bool):TyOf K H (.bl x) (.type "bool")
 |int (i:Int):TyOf K H (.int i) (.type "int")
 |str (x:Str):TyOf K H (.str x) (.type "str")
 |flt (x:UInt64):TyOf K H (.flt x) (.type "float")
 |lst {a:Addr} {xs:List V} (e:H a=some (.lst xs)):TyOf K H (.ref a) (.type "list")
 |frz {a:Addr} {o:Obj} {xs:List V} (e:H a=some (.frz o (.lst xs))):TyOf K H (.ref a) (.type "list")
 |tup {a:Addr} {xs:List V} (e:H a=some (.tup xs)):TyOf K H (.ref a) (.type "tuple")
 |dK {a:Addr} {kvs:List (Key×V)} (e:H a=some (.dK kvs)):TyOf K H (.ref a) (.type "dict")
 |dT {a:Addr} {kvs:List (List Key×V)} (e:H a=some (.dT kvs)):TyOf K H (.ref a) (.type "dict")
 |ins {a C dx:Addr} {fs:List (Str×V)} (e:H a=some (.ins C dx fs)) (cl:Cls K C) (ha:MA K (.ref C) "__class__" = some (some (.builtin "object.__class__")))
   (hn:PySem.W.specialIn K (.builtin "object.__class__") "__get__" = some (some (.builtin "getset_descriptor.__get__"))) (htk:PySem.W.takesIn K (.builtin "object.__class__")=some true)
   (hm:NI K C (.type "object")=some true):TyOf K H (.ref a) (.ref C)
theorem Gs{x:V}{u t:Value}(I:Inv X pins σ H s)(rx:RelV x u)(ty:TyOf X.K H x t)(e:Om X.K t c=some b)(h:∀ tk,Q (.bool b) { s with toks:=tk }) :
  wpAny (model X.prog X.w) A (call (.builtin "isinstance") [u,c]) Q E s:=by
 cases ty with
 |non=>cases (show u=Value.none from rx);exact Nh PySem.W.kitx_none I.kIn True.intro e (fun z=>nomatch z) h
 |bl y=>cases (show u=Value.bool y from rx);exact Nh PySem.W.kitx_bool I.kIn True.intro e (fun z=>nomatch z) h
 |int i=>obtain⟨t,q⟩:=(show ∃ t,u=Value.int i t from rx);cases q;exact Nh PySem.W.kitx_int I.kIn True.intro e (fun z=>nomatch z) h
 |str y=>obtain⟨t,q⟩:=(show ∃ t,u=Value.str y t from rx);cases q;exact Nh PySem.W.kitx_str I.kIn True.intro e (fun z=>nomatch z) h
 |flt y=>obtain⟨t,q⟩:=(show ∃ t,u=Value.float y t from rx);cases q;exact Nh PySem.W.kitx_float I.kIn True.intro e (fun z=>nomatch z) h
 | @lst a xs ea =>
  cases (show u=Value.ref a from rx)
  obtain⟨_,_,n,_,h1⟩:=(show bJ X.prog X.w H s.heap a (.lst xs) from I.hok a _ ea)
  exact Nh PySem.W.kitx_list I.kIn ⟨_,h1,rfl⟩ e (fun z=>nomatch z) h
 | @frz a ob xs ea =>
  cases (show u=Value.ref a from rx)
  obtain⟨_,_,_,n,_,h1⟩:=(show bJ X.prog X.w H s.heap a (.frz ob (.lst xs)) from I.hok a _ ea)
  exact Nh PySem.W.kitx_list I.kIn ⟨_,h1,rfl⟩ e (fun z=>nomatch z) h
 | @tup a xs ea =>
  cases (show u=Value.ref a from rx)
  obtain⟨_,_,_,p⟩:=(show bJ X.prog X.w H s.heap a (.tup xs) from I.hok a _ ea)
  obtain⟨o,h1,h2,_⟩:=p
  exact Nh PySem.W.kitx_tuple I.kIn ⟨o,h1,h2⟩ e (fun z=>nomatch z) h
 | @dK a kvs ea =>
  cases (show u=Value.ref a from rx)
  obtain⟨_,_,vs,_,p⟩:=(show bJ X.prog X.w H s.heap a (.dK kvs) from I.hok a _ ea)
  obtain⟨o,es,ep,h1,h2,_⟩:=p
  exact Nh PySem.W.kitx_dict I.kIn ⟨o,h1,h2.1⟩ e (fun z=>nomatch z) h
 | @dT a kvs ea =>
  cases (show u=Value.ref a from rx)
  obtain⟨_,_,xs,_,o,es,ep,h1,h2,_⟩:=(show bJ X.prog X.w H s.heap a (.dT kvs) from I.hok a _ ea)
  exact Nh PySem.W.kitx_dict I.kIn ⟨o,h1,h2.1⟩ e (fun z=>nomatch z) h
 | @ins a C dx fs ea cl ha hn htk hm =>
  cases (show u=Value.ref a from rx)
  obtain⟨mA,O,_⟩:=wc I.hok ea
  obtain⟨od,J,_⟩:=O.look
  exact Nh (PySem.W.kitx_own (cl.get _) cl.hd ha hn htk hm) I.kIn J e (fun z=>nomatch z) h
end
end L2
namespace L2
open PySem PySem.Spec PyProof.Rows
structure Room(k:Nat)(A:Around):Prop where
 hd:A.handled=none
 dp:A.depth+3*k+5<recursionLimit
 un:A.units+16*k+200<cLine
theorem Room.mono{j k:Nat}{A:Around}(r:Room k A)(h:j<=k):Room j A:=⟨r.hd,by have:=r.dp;omega,by have:=r.un;omega⟩
theorem Room.deeper{k:Nat}{A:Around}(r:Room (k+1) A)(env:Env):Room k (A.deeper env) :=
 ⟨r.hd,by have:=r.dp;show A.depth+1+3*k+5<_;omega,by have:=r.un;show A.units+3+16*k+200<_;omega⟩
theorem Eb{A:Around}{C:Addr}{us:List Value}{kw:List (Str×Value)}:(A.under (.builtin "type.__call__" ⟨.ref C::us,kw⟩)).depth=A.depth+1:=by
 first | rfl | simp[Around.under,Code.weight,Code.isCreation,Code.isGuard,Code.isCaller,Code.frames,Code.isFrame,guardIds]
theorem Ea{A:Around}{C:Addr}{us:List Value}{kw:List (Str×Value)}:(A.under (.builtin "type.__call__" ⟨.ref C::us,kw⟩)).units=A.units+1:=by
 first | rfl | simp[Around.under,Code.cUnits,Code.frames,Code.isFrame]
theorem Room.make{k:Nat}{A:Around}(r:Room (k+1) A)(C:Addr)(us:List Value)(kw:List (Str×Value)):Room k (A.under (.builtin "type.__call__" ⟨.ref C::us,kw⟩)) :=
 ⟨r.hd,by have:=r.dp;rw[Eb];omega,by have:=r.un;rw[Ea];omega⟩
theorem Room.depth{k:Nat}{A:Around}(r:Room k A):A.depth<recursionLimit:=by have:=r.dp;omega
theorem Room.units{k:Nat}{A:Around}(r:Room k A):A.units+64<cLine:=by have:=r.un;omega
def tNil:TA:=fun _ H Q=>Q [] H
def tCons(ta:TE)(tr:TA):TA:=fun σ H Q=>ta σ H fun x H1=>tr σ H1 fun xs H2=>Q (x::xs) H2
section
variable{X:Cx}{e:Expr}{es:List Expr}{te:TE}{t:TA}{pos:Pos}
theorem ag:PA X [] tNil:=fun _ _ _ _ H Q I h=>Calls.spliced_nil ⟨[],H,I,.nil,h⟩
theorem aa(ha:PE X e te)(hr:PA X es t)(hs:starEach (e::es) X.env=(false,eval e X.env)::starEach es X.env:=by rfl):PA X (e::es) (tCons te t):=by
 intro pos pins s σ H Q I h
 rw[hs]
 show wpAny _ _ (spliced ((false,eval e X.env)::backTo pos (starEach es X.env))) _ _ s
 refine Calls.spliced_cons (thn (ha pins s σ H _ I h) fun u s1 ⟨x,H1,I1,r1,q1⟩=>?_)
 exact thn (hr pos pins s1 σ H1 _ I1 q1) fun us s2 ⟨xs,H2,I2,r2,q2⟩=>⟨x::xs,H2,I2,.cons r1 r2,q2⟩
def tTup(t:TA):TE:=fun σ H Q=>t σ H fun xs H1=>xs.length<=sizeLine/\∀ p,H1 p=none->Q (.ref p) (upd H1 p (.tup xs))
def tLst(t:TA):TE:=fun σ H Q=>t σ H fun xs H1=>xs.length<=sizeLine/\∀ p,H1 p=none->Q (.ref p) (upd H1 p (.lst xs))
theorem b9{x1}(h:PA X es t):PE X (.Tuple es x1 pos) (tTup t):=by
 intro pins s σ H Q I hq
 refine wpAny_Tuple_spliced (thn (h pos pins s σ H _ I hq) fun us s1 ⟨xs,H1,I1,r,z,q⟩=>⟨by rw[← r.length];exact z,?_⟩)
 have hf:H1 s1.heap.objs.size=none:=I1.hok.fresh (Ma _)
 refine⟨.ref s1.heap.objs.size,upd H1 s1.heap.objs.size (.tup xs),I1.laid (t':=s1.toks) (fun b u e=>Heap.get?_push_of_some _ e) (Ma _) ?_,rfl,q _ hf⟩
 exact⟨z,us,r,⟨_,Heap.get?_push_size _ rfl,rfl,_,rfl⟩⟩
theorem cH(h:PA X es t):PE X (.List es pos) (tLst t):=by
 intro pins s σ H Q I hq
 refine wpAny_List_spliced (thn (h pos pins s σ H _ I hq) fun us s1 ⟨xs,H1,I1,r,z,q⟩=>⟨by rw[← r.length];exact z,?_⟩)
 have hf:H1 s1.heap.objs.size=none:=I1.hok.fresh (Ma _)
 refine⟨.ref s1.heap.objs.size,upd H1 s1.heap.objs.size (.lst xs),I1.laid (t':=s1.toks) (fun b u e=>Heap.get?_push_of_some _ e) (Ma _) ?_,rfl,q _ hf⟩
 exact⟨z,us,0,r,Heap.get?_push_size _ rfl⟩
end
abbrev Sp:=List V->Hp->VK->XK->Prop
abbrev CXT:=List Env->Hp->Shared->XK->Value->Shared->Prop
structure Env0(P:Program)(w:World)(K:LU)(mg:Str->Option Value)(base:Heap)(A:Around)(outer:List Env)(s:Shared)(H:Hp):Prop where
 frames:A.frames=some outer
 mod:Mod K mg base
 bs:∀ b o,base.get? b=some o->s.heap.get? b=some o/\H b=none
 bsz:base.objs.size<=s.heap.objs.size
 funs:s.heap.FunFrames base outer
 frf:∀ b∈frs outer,H b=none
 hok:HOk P w H s.heap
 bare:AllBare s.gens
def CE(outer:List Env)(P:Program)(w:World)(H:Hp)(s:Shared)(Q:VK)(u:Value)(s':Shared):Prop :=
 ∃ v H',s'.os=s.os/\AllBare s'.gens/\Un (frs outer) [] H H' s.heap s'.heap/\HOk P w H' s'.heap/\RelV v u/\Q v H'
def CR(CX:CXT)(outer:List Env)(P:Program)(w:World)(H:Hp)(s:Shared)(Q:VK)(E:XK)(r:Result)(s':Shared):Prop :=
 match r with
 |.ok (.ret u)=>CE outer P w H s Q u s'
 |.ok _=>False
 |.error e=>CX outer H s E e s'
structure FnOk(P:Program)(w:World)(K:LU)(mg:Str->Option Value)(base:Heap)(CX:CXT)(k:Nat)(f:Addr)(fd:FuncData)(ps:List Str)(sp:Sp):Prop where
 len:∀ vs H Q E,sp vs H Q E->vs.length=ps.length
 run:∀(A:Around)(outer:List Env)(s:Shared)(H:Hp)(args:Args)(us:List Value)(vs:List V)(Q:VK)(E:XK),Room k A->Env0 P w K mg base A outer s H->BindsTo s fd args (ps.zip us)->Vals vs us->sp vs H Q E ->
  codeAny (model P w) A (.call (.ref f) args) (CR CX outer P w H s Q E) s
theorem Env0.make{P:Program}{w:World}{K:LU}{mg:Str->Option Value}{base:Heap}{A:Around}{outer:List Env}{s:Shared}{H:Hp}(e:Env0 P w K mg base A outer s H)(C:Addr)(us:List Value)(kw:List (Str×Value)) :
  Env0 P w K mg base (A.under (.builtin "type.__call__" ⟨.ref C::us,kw⟩)) outer s H:=⟨by first | exact e.frames | (simpa[Around.under,Code.envs,Code.isFrame,pushEnvs] using e.frames),e.mod,e.bs,e.bsz,e.funs,e.frf,e.hok,e.bare⟩
section
variable{X:Cx}{pins:List (Addr×Obj)}{σ:St}{H:Hp}{s s':Shared}
theorem Inv.env0(I:Inv X pins σ H s):Env0 X.prog X.w X.K X.mg X.base X.A X.stack s H :=
 ⟨I.ok.frames,I.ok.mod,I.bs,MZ I.ok.bsz I.sz,I.stack,I.stkFree,I.hok,I.bare⟩
theorem Inv.after{Q:VK}{u:Value}(I:Inv X pins σ H s)(h:CE X.stack X.prog X.w H s Q u s'):EP X pins σ Q u s':=by
 obtain⟨v,H',os,bare,un,hok,r,q⟩:=h
 obtain⟨hh,g,d,t,os'⟩:=s'
 obtain rfl:os'=s.os:=os
 exact⟨v,H',I.call (h':=hh) (g':=g) (d':=d) (t':=t) (ch:=[]) un hok bare (fun b z=>absurd z (by simp)),r,q⟩
end
def tCall(sp:Sp)(dvs:List V)(E:XK)(t:TA):TE:=fun σ H Q=>t σ H fun vs H1=>sp (vs++dvs) H1 Q E
def tMeth(C:Addr)(m:Str)(sp:Sp)(dvs:List V)(E:XK)(ta:TE)(t:TA):TE:=fun σ H Q=>ta σ H fun x H1=>∃ a dx fs,x=.ref a/\H1 a=some (.ins C dx fs)/\fs.lookup m=none /\
 t σ H1 fun vs H2=>sp (x::(vs++dvs)) H2 Q E
def tMake(C:Addr)(sp:Sp)(dvs:List V)(E:XK)(t:TA):TE:=fun σ H Q=>t σ H fun vs H1=>∀ x dx,H1 x=none->H1 dx=none->dx≠x ->
 sp (.ref x::(vs++dvs)) (upd (upd H1 dx (.own x)) x (.ins C dx [])) (fun v H2=>v=.non/\Q (.ref x) H2) E
def iG(K:LU)(fd:FuncData)(ps:List Str)(ds:List Value):Prop :=
 ∀(s:Shared)(us:List Value),K.In s.heap->(us++ds).length=ps.length->BindsTo s fd ⟨us,[]⟩ (ps.zip (us++ds))
theorem iG.all{K:LU}{fd:FuncData}{ps:List Str}(h:∀ us:List Value,us.length=ps.length->bindArgs fd ⟨us,[]⟩=pure (ps.zip us)):iG K fd ps []:=fun s us _ hl=>by
 rw[NH]at hl ⊢
 exact .of_eq (h us hl)
def oM(CX:CXT)(X:Cx)(E:XK):Prop:=∀(pins:List (Addr×Obj))(σ:St)(H:Hp)(s:Shared)(e:Value)(s':Shared),Inv X pins σ H s->CX X.stack H s E e s'->X.xe e s'
section
variable{X:Cx}{CX:CXT}{k:Nat}{f C:Addr}{fd:FuncData}{ps:List Str}{sp:Sp}{dvs:List V}{ds:List Value}{E:XK}{x m:Str}{p pos apos:Pos}{e o:Expr}{es:List Expr}{ta:TE}{t:TA}
theorem Ft{pins:List (Addr×Obj)}{σ:St}{H:Hp}{s:Shared}{Q:VK}{us:List Value}{vs:List V}(F:FnOk X.prog X.w X.K X.mg X.base CX k f fd ps sp)(hr:Room k X.A)(hb:iG X.K fd ps ds)(hd:Vals dvs ds)(hx:oM CX X E)
  (I:Inv X pins σ H s) (r:Vals vs us) (h:sp (vs++dvs) H Q E):wpAny (model X.prog X.w) X.A (call (.ref f) us) (EP X pins σ Q) X.xe s:=by
 have r2:Vals (vs++dvs) (us++ds):=r.append hd
 have hl:(us++ds).length=ps.length:=by rw[← r2.length];exact F.len _ _ _ _ h
 refine wpAny_call (codeAny_mono (F.run X.A X.stack s H ⟨us,[]⟩ (us++ds) (vs++dvs) Q E hr I.env0 (hb s us I.kIn hl) r2 h) fun r s' hq=>?_)
 cases r with
 |error e=>exact hx pins σ H s e s' I hq
 |ok fl =>
  cases fl with
  |ret u=>exact I.after hq
  |next=>exact False.elim hq
  |brk=>exact False.elim hq
  |cont=>exact False.elim hq
theorem aF(F:FnOk X.prog X.w X.K X.mg X.base CX k f fd ps sp)(hr:Room k X.A)(hg:Gl X x)(hm:X.mg x=some (.ref f))(hk:Md X.K (.ref f)=true)(hb:iG X.K fd ps ds)(hd:Vals dvs ds)(hx:oM CX X E)
  (ha:PA X (e::es) t) (hdb:(x == ("__debug__" : Str))=false:=by decide) (he:starEach (e::es) X.env=(false,eval e X.env)::starEach es X.env:=by rfl) (hpl:(backTo pos (starEach es X.env)).any (·.1)=false:=by rfl) :
  PE X (.Call (.Name x p) (e::es) [] pos) (tCall sp dvs E t):=by
 intro pins s σ H Q I h
 refine wpAny_Call_Name_kw (m5 I hg hm ?_ hdb)
 refine NU (h₀:=X.base) I.ok.mod.kin hk (thn (ha pos pins s σ H _ I h) fun us s1 ⟨vs,H1,I1,r,q⟩=>⟨I1.kIn,?_⟩) he hpl
 exact Ft F hr hb hd hx I1 r q
theorem AY{pl:Sem Bool}(he:PE X o ta)(c:Cls X.K C)(hm:Meth X.K C m f)(F:FnOk X.prog X.w X.K X.mg X.base CX k f fd ps sp)(hr:Room k X.A)(hb:iG X.K fd ps ds)(hd:Vals dvs ds)(hx:oM CX X E)(ha:PA X (e::es) t)
  (hst:starEach (e::es) X.env=(false,eval e X.env)::starEach es X.env:=by rfl) (hpl:(backTo pos (starEach es X.env)).any (·.1)=false:=by rfl)
  (ht:eval (.Call (.Attribute o m apos) (e::es) [] pos) X.env=(do
   let ov ← eval o X.env
   standAt apos.atName
   let (f,first) ← holding [ov] (getMethod ov m pl)
   callWith pos f first (backTo pos (starEach (e::es) X.env)) (backToKw pos (keywordEach [] X.env))):=by rfl) :
  PE X (.Call (.Attribute o m apos) (e::es) [] pos) (tMeth C m sp dvs E ta t):=by
 intro pins s σ H Q I h
 refine PySem.W.methodCall_KW (pl:=pl) (thn (he pins s σ H _ I h) fun u s1 ⟨x,H1,I1,rx,a,dx,fs,ex,ea,l,q⟩=>?_) ht
 subst ex
 obtain rfl:u=Value.ref a:=rx
 refine t8 I1 ea c hm l ?_
 refine NU (first:=[.ref a]) (h₀:=X.base) I.ok.mod.kin hm.kp (thn (ha pos pins s1 σ H1 _ I1 q) fun us s2 ⟨vs,H2,I2,r,q2⟩=>⟨I2.kIn,?_⟩) hst hpl
 exact Ft (us:=.ref a::us) (vs:=.ref a::vs) F hr hb hd hx I2 (.cons rfl r) q2
theorem Iz{pl:Sem Bool}(he:PE X o ta)(c:Cls X.K C)(hm:Meth X.K C m f)(F:FnOk X.prog X.w X.K X.mg X.base CX k f fd ps sp)(hr:Room k X.A)(hb:iG X.K fd ps ds)(hd:Vals dvs ds)(hx:oM CX X E)
  (ht:eval (.Call (.Attribute o m apos) [] [] pos) X.env=(do
   let ov ← eval o X.env
   standAt apos.atName
   let (f,first) ← holding [ov] (getMethod ov m pl)
   callWith pos f first (backTo pos (starEach [] X.env)) (backToKw pos (keywordEach [] X.env))):=by rfl) :
  PE X (.Call (.Attribute o m apos) [] [] pos) (tMeth C m sp dvs E ta tNil):=by
 intro pins s σ H Q I h
 refine PySem.W.methodCall_KW (pl:=pl) (thn (he pins s σ H _ I h) fun u s1 ⟨x,H1,I1,rx,a,dx,fs,ex,ea,l,q⟩=>?_) ht
 subst ex
 obtain rfl:u=Value.ref a:=rx
 refine t8 I1 ea c hm l ?_
 exact PySem.W.callWith_K0 (first:=[.ref a]) I1.kIn hm.kp (Ft (us:=[.ref a]) (vs:=[.ref a]) F hr hb hd hx I1 (.cons rfl .nil) q)
structure Mk(K:LU)(C f:Addr):Prop where
 makes:Ob K C=true
 init:MA K (.ref C) "__init__" = some (some (.ref f))
 fn:NM K (.ref f)=true
 kp:Md K (.ref C)=true
theorem Io{pins:List (Addr×Obj)}{σ:St}{H:Hp}{s:Shared}{Q:VK}{us:List Value}{vs:List V}(M:Mk X.K C f)(F:FnOk X.prog X.w X.K X.mg X.base CX k f fd ps sp)(hr:Room (k+1) X.A)(hb:iG X.K fd ps ds)(hd:Vals dvs ds)
  (hx:oM CX X E) (I:Inv X pins σ H s) (r:Vals vs us)
  (h:∀ x dx,H x=none->H dx=none->dx≠x->sp (.ref x::(vs++dvs)) (upd (upd H dx (.own x)) x (.ins C dx [])) (fun v H2=>v=.non/\Q (.ref x) H2) E) :
  wpAny (model X.prog X.w) X.A (call (.ref C) us) (EP X pins σ Q) X.xe s:=by
 have hq:=h (s.heap.objs.size+1) s.heap.objs.size (I.hok.fresh (N3 _)) (I.hok.fresh (Ma _)) (ME (NA _))
 have I2:=Inv.made (C:=C) I
 have r2:Vals (V.ref (s.heap.objs.size+1)::(vs++dvs)) (Value.ref (s.heap.objs.size+1)::(us++ds)):=.cons rfl (r.append hd)
 have hl:(Value.ref (s.heap.objs.size+1)::us++ds).length=ps.length:=by
  have e:=r2.length
  rw[F.len _ _ _ _ hq]at e
  exact e.symm
 refine wpAny_call (IT (f:=f) I.kIn M.makes M.init (beq_iff_eq.mp M.fn) (codeAny_mono (F.run _ X.stack _ _ ⟨Value.ref (s.heap.objs.size+1)::us,[]⟩ (Value.ref (s.heap.objs.size+1)::(us++ds)) _ _ E (hr.make C us [])
  (I2.env0.make C us []) (hb _ (Value.ref (s.heap.objs.size+1)::us) I2.kIn hl) r2 hq) fun r s' hq'=>?_))
 cases r with
 |error e=>exact hx pins σ _ _ e s' I2 hq'
 |ok fl =>
  cases fl with
  |ret u =>
   obtain⟨v,H',I3,rv,ev,q3⟩:=I2.after hq'
   subst ev
   exact⟨rv,⟨V.ref (s.heap.objs.size+1),H',I3,rfl,q3⟩⟩
  |next=>exact False.elim hq'
  |brk=>exact False.elim hq'
  |cont=>exact False.elim hq'
theorem AZ(M:Mk X.K C f)(F:FnOk X.prog X.w X.K X.mg X.base CX k f fd ps sp)(hr:Room (k+1) X.A)(hg:Gl X x)(hm:X.mg x=some (.ref C))(hb:iG X.K fd ps ds)(hd:Vals dvs ds)(hx:oM CX X E)
  (ha:PA X (e::es) t) (hdb:(x == ("__debug__" : Str))=false:=by decide) (he:starEach (e::es) X.env=(false,eval e X.env)::starEach es X.env:=by rfl) (hpl:(backTo pos (starEach es X.env)).any (·.1)=false:=by rfl) :
  PE X (.Call (.Name x p) (e::es) [] pos) (tMake C sp dvs E t):=by
 intro pins s σ H Q I h
 refine wpAny_Call_Name_kw (m5 I hg hm ?_ hdb)
 refine NU (h₀:=X.base) I.ok.mod.kin M.kp (thn (ha pos pins s σ H _ I h) fun us s1 ⟨vs,H1,I1,r,q⟩=>⟨I1.kIn,?_⟩) he hpl
 exact Io M F hr hb hd hx I1 r q
end
section
variable{X:Cx}{CX:CXT}{k:Nat}{f C:Addr}{fd:FuncData}{ps ks:List Str}{sp:Sp}{E:XK}{x m:Str}{p pos apos kpos:Pos}{e o:Expr}{es:List Expr}{kws:List Keyword}{te ta:TE}{t tk:TA}{nm:Option Str}
variable{g:List Value->List Value->List Value}{gV:List V->List V->List V}
end
structure aE(N P:List Str)(sc:Scope):Prop where
 kind:sc.kind=.function
 co:sc.isCoroutine=false
 gen:sc.isGenerator=false
 nd:N.Nodup
 pre:N.take P.length=P
 par:∀ x∈P,sc.names.lookup x=some .local∨sc.names.lookup x=some .cell
 nofree:∀ y∈sc.names,y.2≠.free
theorem zG{kindOf:Str->Option NameKind}{x:Str}:∀{binds:List (Str×Value)}{m:Str->Option Value},(∀ v,(x,v)∉binds)->bindL kindOf binds m x=m x
 |[],_,_=>rfl
 | (n,v)::r,m,h=>by
  unfold bindL
  rw[zG fun w hw=>h w (Ml _ hw)]
  split
  ·have:x≠n:=by rintro rfl;exact h v MB
   simp[this]
  ·rfl
theorem zI{kindOf:Str->Option NameKind}{x:Str}:∀{binds:List (Str×Value)}{m:Str->Option Value},(∀ v,(x,v)∉binds)->bindC kindOf binds m x=m x
 |[],_,_=>rfl
 | (n,v)::r,m,h=>by
  unfold bindC
  rw[zI fun w hw=>h w (Ml _ hw)]
  split
  ·rfl
  ·have:x≠n:=by rintro rfl;exact h v MB
   simp[this]
theorem zH{kindOf:Str->Option NameKind}{x:Str}{v:Value}:∀{P:List Str}{vs:List Value}{i:Nat}{m:Str->Option Value},P.Nodup->P[i]?=some x->vs[i]?=some v->kindOf x=some .local ->
  bindL kindOf (P.zip vs) m x=some v
 |[],_,_,_,_,h,_,_=>by simp at h
 |_::_,[],_,_,_,_,h,_=>by simp at h
 |p::P,w::vs,0,m,nd,h1,h2,hk=>by
  simp at h1 h2;subst h1;subst h2
  show bindL kindOf ((p,w)::P.zip vs) m p=_
  unfold bindL
  rw[zG fun v hv=>(Mo.mp nd).1 (O8 hv).1,if_pos hk]
  simp
 |p::P,w::vs,i+1,m,nd,h1,h2,hk=>by
  show bindL kindOf ((p,w)::P.zip vs) m x=_
  unfold bindL
  exact zH (i:=i) (Mo.mp nd).2 (by simpa using h1) (by simpa using h2) hk
theorem zJ{kindOf:Str->Option NameKind}{x:Str}{v:Value}:∀{P:List Str}{vs:List Value}{i:Nat}{m:Str->Option Value},P.Nodup->P[i]?=some x->vs[i]?=some v->kindOf x≠some .local ->
  bindC kindOf (P.zip vs) m x=some v
 |[],_,_,_,_,h,_,_=>by simp at h
 |_::_,[],_,_,_,_,h,_=>by simp at h
 |p::P,w::vs,0,m,nd,h1,h2,hk=>by
  simp at h1 h2;subst h1;subst h2
  show bindC kindOf ((p,w)::P.zip vs) m p=_
  unfold bindC
  rw[zI fun v hv=>(Mo.mp nd).1 (O8 hv).1,if_neg hk]
  simp
 |p::P,w::vs,i+1,m,nd,h1,h2,hk=>by
  show bindC kindOf ((p,w)::P.zip vs) m x=_
  unfold bindC
  exact zJ (i:=i) (Mo.mp nd).2 (by simpa using h1) (by simpa using h2) hk
def rT(N:List Str)(vs:List V):St:=vs.map some++Ng (N.length-vs.length) none
def cxOf(CX:CXT)(P:Program)(w:World)(K:LU)(mg:Str->Option Value)(base:Heap)(N:List Str)(qual:Str)(scope:Scope)(f:Addr)(cd:Value)(A:Around)(outer:List Env)(s:Shared)(H:Hp)(E:XK):Cx where
 prog:=P
 w:=w
 K:=K
 mg:=mg
 base:=base
 A:=A.deeper (envOfC qual scope s.heap.objs.size f cd)
 N:=N
 s₀:=s
 H₀:=H
 env:=envOfC qual scope s.heap.objs.size f cd
 outer:=outer
 stack:=envOfC qual scope s.heap.objs.size f cd::outer
 ex:=[]
 calm:=true
 fn:=fun _=>true
 pn:=[]
 xe:=fun e s'=>wpAny (model P w) (A.deeper (envOfC qual scope s.heap.objs.size f cd)) (leaving (envOfC qual scope s.heap.objs.size f cd) e) (fun _ s''=>CX outer H s E e s'') (fun e' s''=>CX outer H s E e' s'') s'
theorem Dy{sc:Scope}{n:Nat}{x:Str}(h:sc.names.lookup x=some .cell):∃ c,(cellsFrom n sc.names []).lookup x=some c:=by
 have q:=PySem.W.cellsFrom_some sc.names n [] (.inl h)
 exact Pf.mp q
theorem Gv{CX:CXT}{P:Program}{w:World}{K:LU}{mg:Str->Option Value}{base:Heap}{N ps:List Str}{qual:Str}{scope:Scope}{f:Addr}{cd:Value}{A:Around}{outer:List Env}{s s1:Shared}{H:Hp}{E:XK}{us:List Value}{vs:List V}
  (S:aE N ps scope) (hd:A.handled=none) (e0:Env0 P w K mg base A outer s H) (hl:vs.length=ps.length) (r:Vals vs us)
  (x:InCallC s s.heap.objs.size (bindL (envOfC qual scope s.heap.objs.size f cd).kindOf (ps.zip us) fun _=>none) (cellsFrom (s.heap.objs.size+1) scope.names []) (bindC (envOfC qual scope s.heap.objs.size f cd).kindOf (ps.zip us) fun _=>none) s1) :
  Inv (cxOf CX P w K mg base N qual scope f cd A outer s H E) [] (rT N vs) H s1:=by
 have hpl:ps.length<=N.length:=by have:=congrArg List.length S.pre;rw[MT]at this;omega
 obtain⟨h1,tk,rfl,hk⟩:=x.done
 have noA:∀ b:Addr,b∉(cxOf CX P w K mg base N qual scope f cd A outer s H E).ex:=fun b z=>absurd (show b∈([]:List Addr) from z) (by simp)
 refine⟨⟨e0.mod,S.kind,rfl,rfl,Ma _,fun y z c h1 h2=>?_,fun y hy=>?_,fun y c _ h=>?_,fun _=>hd,Around.frames_deeper e0.frames,.inr ⟨rfl,rfl⟩,fun b z=>absurd z (noA b),e0.bs,e0.bsz,fun b _ _=>noA b,fun b z=>absurd z (noA b),e0.funs,e0.frf⟩,
  rfl,e0.bare,Un.kept hk,⟨_,x.toInCall.ns,fun i y v h1 h2 h3=>?_⟩,fun y c h=>⟨_,x.cell y c h⟩,e0.hok.fresh (Ma _),fun y c h=>?_,fun p hp=>absurd (show p∈([]:List (Addr×Obj)) from hp) (by simp),e0.hok.kept hk,?_⟩
 ·exact name_of_addr x.apart (Nc h1) (Nc h2)
 ·have hy:scope.names.lookup y=some .cell∨scope.names.lookup y=some .free:=hy
  rcases hy with hy | hy
  ·exact Dy hy
  ·exact absurd rfl (S.nofree _ (Nc hy))
 ·exact MX (x.above y c (Nc h))
 ·have hi:i<vs.length:=by
   unfold rT at h2
   by_cases hi:i<vs.length
   ·exact hi
   ·rw[LY (by simpa using hi)]at h2
    rw[Nt]at h2
    split at h2<;>cases h2
  have ha:vs[i]?=some v:=by
   unfold rT at h2
   rw[L0 (by simpa using hi),Mb]at h2
   cases e:vs[i]? with
   |none=>rw[e]at h2;cases h2
   |some a=>rw[e]at h2;cases h2;rfl
  obtain⟨u,hu,rv⟩:=r.get ha
  have hp:ps[i]?=some y:=by
   rw[← S.pre,List.getElem?_take_of_lt (by omega)];exact h1
  have ndP:ps.Nodup:=by rw[← S.pre];exact S.nd.sublist (List.take_sublist _ _)
  refine⟨u,rv,?_⟩
  rcases S.par y (LV hp)with k | k
  ·exact .inl ⟨k,zH ndP hp hu k⟩
  ·obtain⟨c,e⟩:=Dy (n:=s.heap.objs.size+1) k
   refine .inr ⟨.inl k,c,e,?_⟩
   have q:=x.cell y c e
   rw[zJ ndP hp hu (by show scope.names.lookup y≠_;rw[k];decide)]at q
   exact q
 ·exact e0.hok.fresh (MX (x.above y c (Nc h)))
 ·unfold rT
  show _=N.length
  rw[LX,LW,OE]
  omega
theorem Lw{CX:CXT}{P:Program}{w:World}{K:LU}{mg:Str->Option Value}{base:Heap}{k:Nat}{f:Addr}{name qual:Str}{params:Arguments}{body:List Stmt}{scope:Scope}{dV kV doc pm cdv ct oc:Value}{an od:Option Addr}
  {osl:Array (Option Value)} {N ps:List Str} {sp:Sp} (lk:K.lookup f=some ⟨oc,od,.func (Mi name qual params body scope dV kV doc pm an cdv ct),osl⟩) (hcd:Mf K cdv qual=true) (S:aE N ps scope)
  (len:∀ vs H Q E,sp vs H Q E->vs.length=ps.length)
  (hbody:∀(A:Around)(outer:List Env)(s:Shared)(H:Hp)(vs:List V)(Q:VK)(E:XK),Room k (A.deeper (envOfC qual scope s.heap.objs.size f cdv))->sp vs H Q E ->
   ∃ t,PSs (cxOf CX P w K mg base N qual scope f cdv A outer s H E) body t/\t { nx:=fun _ H'=>Q .non H',rt:=Q } (rT N vs) H) :
  FnOk P w K mg base CX (k+1) f (Mi name qual params body scope dV kV doc pm an cdv ct) ps sp:=by
 refine⟨len,fun A outer s H args us vs Q E hr e0 hb r hsp=>?_⟩
 have hl:=len _ _ _ _ hsp
 have KX:K.In s.heap:=e0.mod.kin.keeps fun b o e=>(e0.bs b o e).1
 have lim:s.heap.NoLimit:=e0.mod.nolimit.keeps fun b o e=>(e0.bs b o e).1
 have hkind:∀ y∈ps.zip us,scope.names.lookup y.1=some .local∨(scope.names.lookup y.1=some .cell/\((cellsFrom (s.heap.objs.size+1) scope.names []).lookup y.1).isSome=true):=fun⟨n,v⟩ hy=>by
  rcases S.par n (O8 hy).1 with q | q
  ·exact .inl q
  ·exact .inr ⟨q,PySem.W.cellsFrom_some _ _ _ (.inl q)⟩
 refine codeAny_call_function hr.depth (KX _ _ lk) rfl S.co S.gen rfl (PySem.W.codeRec_of KX hcd) (hb _ _ _ _ ?_)
 refine wpAny_newFunctionEnv_cells S.kind hkind fun env he s1 x=>?_
 subst he
 refine⟨lim.keeps x.toInCall.keep,codeAny_func ?_⟩
 obtain⟨t,ht,hq⟩:=hbody A outer s H vs Q E (hr.deeper _) hsp
 have I:Inv (cxOf CX P w K mg base N qual scope f cdv A outer s H E) [] (rT N vs) H s1:=Gv S hr.hd e0 hl r x
 refine wpAny_mono (ht [] s1 (rT N vs) H _ I hq) (fun fl s' hs=>?_) fun e s' hs=>hs
 have fin:∀{σ':St}{H':Hp}{v:V}{u:Value},Inv (cxOf CX P w K mg base N qual scope f cdv A outer s H E) [] σ' H' s'->RelV v u->Q v H'->CE outer P w H s Q u s' :=
  fun{σ' H' v u} J rv q=>⟨v,H',J.os,J.bare,J.base,J.hok,rv,q⟩
 cases fl with
 |ret u =>
  obtain⟨v,σ',H',J,rv,q⟩:=hs
  exact fin J rv q
 |next =>
  obtain⟨σ',H',J,q⟩:=hs
  exact fin (v:=V.non) (u:=Value.none) J rfl q
 |brk =>
  obtain⟨_,_,_,q⟩:=hs
  exact False.elim q
 |cont =>
  obtain⟨_,_,_,q⟩:=hs
  exact False.elim q
end L2
namespace L2
open PySem PySem.Spec PyProof.Rows
section
variable{X:Cx}{x:Str}{p pos:Pos}{e:Expr}{es:List Expr}{t:TA}{id T:String}{r:List V->Hp->VK->Prop}
def tCB(r:List V->Hp->VK->Prop)(t:TA):TE:=fun σ H Q=>t σ H fun vs H1=>r vs H1 Q
theorem az(hc:j4 X (.builtin id) r)(hg:Gl X x)(hm:X.mg x=none)(hv:bootBuiltins x=some (.builtin id))(ha:PA X (e::es) t) (hn:x≠"__name__":=by decide) (hdb:(x == ("__debug__" : Str))=false:=by decide)
  (he:starEach (e::es) X.env=(false,eval e X.env)::starEach es X.env:=by rfl) (hpl:(backTo pos (starEach es X.env)).any (·.1)=false:=by rfl):PE X (.Call (.Name x p) (e::es) [] pos) (tCB r t):=by
 intro pins s σ H Q I h
 refine wpAny_Call_Name_kw (j9 I hg hm hv ?_ hn hdb)
 exact PyProof.Rows.callWith_builtin1 (thn (ha pos pins s σ H _ I h) fun us s1 ⟨vs,H1,I1,r1,q1⟩=>hc pins s1 σ H1 vs us Q I1 r1 q1) he hpl
theorem cb(hc:j4 X (.type T) r)(hg:Gl X x)(hm:X.mg x=none)(hv:bootBuiltins x=some (.type T))(ha:PA X (e::es) t) (hn:x≠"__name__":=by decide) (hdb:(x == ("__debug__" : Str))=false:=by decide)
  (he:starEach (e::es) X.env=(false,eval e X.env)::starEach es X.env:=by rfl) (hpl:(backTo pos (starEach es X.env)).any (·.1)=false:=by rfl):PE X (.Call (.Name x p) (e::es) [] pos) (tCB r t):=by
 intro pins s σ H Q I h
 refine wpAny_Call_Name_kw (j9 I hg hm hv ?_ hn hdb)
 exact PyProof.Rows.callWith_type1 (thn (ha pos pins s σ H _ I h) fun us s1 ⟨vs,H1,I1,r1,q1⟩=>hc pins s1 σ H1 vs us Q I1 r1 q1) he hpl
end
end L2
namespace HT
open PySem PyProof.Rows
section
open PySem.SeqAt
open PySem.AutoSeq1 (wpAny_loadPart')
open PySem.MeetsSeq PySem.MeetsSeq2 PySem.MeetsSeq3
end
section
variable{prog:Program}{w:World}{A:Around}{E:Value->Shared->Prop}{s:Shared}
def sIx(n d:Nat):Option Int->Nat
 |none=>d
 |some v=>if v<0 then(v+(n:Int)).toNat else min v.toNat n
theorem sIx_none(n d:Nat):sIx n d none=d:=rfl
theorem sIx_nat(n d k:Nat):sIx n d (some (k:Int))=min k n:=by
 show(if(k:Int)<0 then((k:Int)+(n:Int)).toNat else min (k:Int).toNat n)=min k n
 rw[if_neg (by omega),Mv]
end
end HT
namespace L2
open PySem PySem.Spec PyProof.Rows
abbrev TO:=St->Hp->(Option Int->Hp->Prop)->Prop
def PO(X:Cx)(e:Option Expr)(t:TO):Prop :=
 ∀(pins:List (Addr×Obj))(s:Shared)(σ:St)(H:Hp)(Q:Option Int->Hp->Prop),Inv X pins σ H s->t σ H Q ->
  wpAny (model X.prog X.w) X.A (evalPart e X.env) (fun u s'=>∃ o H',Inv X pins σ H' s'/\IsPart u o/\Q o H') X.xe s
def Kc:TO:=fun _ H Q=>Q none H
def tPart(t:TE):TO:=fun σ H Q=>t σ H fun x H1=>∃ i,x=.int i/\Q (some i) H1
section
variable{X:Cx}{e:Expr}{te:TE}{lo hi:Option Expr}{tl th:TO}{pos p2:Pos}
theorem u4:PO X none Kc:=by
 intro pins s σ H Q I h
 rw[evalPart_none]
 exact wpAny_pure ⟨none,H,I,.none,h⟩
theorem uZ(h:PE X e te):PO X (some e) (tPart te):=by
 intro pins s σ H Q I hw
 rw[evalPart_some]
 refine thn (h pins s σ H _ I hw) fun u s1 ⟨x,H1,I1,r1,q1⟩=>?_
 obtain⟨i,rfl,q⟩:=q1
 obtain⟨t,rfl⟩:=r1
 exact⟨some i,H1,I1,.int i t,q⟩
def SlR(X:Cx)(r:V->Option Int->Option Int->Hp->VK->Prop):Prop :=
 ∀(pins:List (Addr×Obj))(s:Shared)(σ:St)(H:Hp)(x:V)(v vl vu:Value)(lo hi:Option Int)(sl:Addr)(Q:VK),Inv X pins σ H s->RelV x v->s.heap.IsSliceOf sl vl vu .none->IsPart vl lo->IsPart vu hi->r x lo hi H Q ->
  ∃ T id,typeLookup (.type T) "__getitem__" = pure (some (.builtin id))/\s.TypeIs v T/\wpAny (model X.prog X.w) X.A (getItem v (.ref sl)) (EP X pins σ Q) X.xe s
def tSl(r:V->Option Int->Option Int->Hp->VK->Prop)(te:TE)(tl th:TO):TE:=fun σ H Q=>te σ H fun x H1=>tl σ H1 fun l H2=>th σ H2 fun u H3=>r x l u H3 Q
theorem pO{r:V->Option Int->Option Int->Hp->VK->Prop}(hr:SlR X r)(he:PE X e te)(hl:PO X lo tl)(hu:PO X hi th):PE X (.Subscript e (.Slice lo hi none p2) pos) (tSl r te tl th):=by
 intro pins s σ H Q I h
 refine Subscript_ (thn (he pins s σ H _ I h) fun v s1 ⟨x,H1,I1,r1,q1⟩=>?_)
 refine wpAny_Slice (thn (hl pins s1 σ H1 _ I1 q1) fun vl s2 ⟨l,H2,I2,pl,q2⟩=>thn (hu pins s2 σ H2 _ I2 q2) fun vu s3 ⟨u,H3,I3,pu,q3⟩=>?_)
 rw[evalPart_none]
 refine wpAny_pure ?_
 have I4:Inv X pins σ H3 { s3 with heap:=s3.heap.push { cls:=.type "slice",data:=.fields #[vl,vu,.none] } }:=I3.kept (t':=s3.toks) fun b ob q=>Heap.get?_push_of_some _ q
 obtain⟨T,id,hT,ht,hg⟩:=hr pins { s3 with heap:=s3.heap.push { cls:=.type "slice",data:=.fields #[vl,vu,.none] } } σ H3 x v vl vu l u s3.heap.objs.size Q I4 r1 (Heap.IsSliceOf.new ..) pl pu q3
 show wpAny (model X.prog X.w) X.A (subscriptTail e (.Slice lo hi none p2) v (.ref s3.heap.objs.size)) (EP X pins σ Q) X.xe { s3 with heap:=s3.heap.push { cls:=.type "slice",data:=.fields #[vl,vu,.none] } }
 exact tail_any (ops:=[.ref s3.heap.objs.size,v]) ht hT hg (by with_unfolding_all rfl)
def cutV(xs:List V)(lo hi:Option Int):List V:=(xs.drop (HT.sIx xs.length 0 lo)).take (HT.sIx xs.length xs.length hi-HT.sIx xs.length 0 lo)
theorem Cb(xs:List V)(lo hi:Option Int):(cutV xs lo hi).length<=xs.length:=by
 unfold cutV
 rw[MT,Np]
 omega
end
end L2
namespace L2
open PySem PySem.Spec PyProof.Rows
def ixN(n:Nat)(i:Int):Option Nat:=if 0<=i then(if i<n then some i.toNat else none) else if -(n:Int)<=i then some (i+n).toNat else none
def atI{α:Type}(xs:List α)(i:Int):Option α:=(ixN xs.length i).bind fun j=>xs[j]?
theorem Gq{n:Nat}{i:Int}{j:Nat}(h:ixN n i=some j):seqIndex? i n=some j/\j<n/\-(n:Int)<=i/\i<n:=by
 unfold ixN at h
 by_cases h0:0<=i
 ·rw[if_pos h0]at h
  by_cases h1:i<n
  ·rw[if_pos h1]at h
   have e:i.toNat=j:=Mq h
   exact⟨by rw[seqIndex_of h0 h1,e],by omega,by omega,h1⟩
  ·rw[if_neg h1]at h;cases h
 ·rw[if_neg h0]at h
  by_cases h1 : -(n:Int)<=i
  ·rw[if_pos h1]at h
   have e:(i+n).toNat=j:=Mq h
   exact⟨by rw[seqIndex_neg (by omega) h1,e],by omega,h1,by omega⟩
  ·rw[if_neg h1]at h;cases h
theorem HJ{α:Type}{xs:List α}{i:Int}{v:α}(h:atI xs i=some v):∃ j,seqIndex? i xs.length=some j/\xs[j]?=some v/\j<xs.length/\-(xs.length:Int)<=i/\i<xs.length:=by
 unfold atI at h
 cases e:ixN xs.length i with
 |none=>rw[e]at h;cases h
 |some j =>
  rw[e]at h
  obtain⟨h1,h2,h3,h4⟩:=Gq e
  exact⟨j,h1,h,h2,h3,h4⟩
theorem aG{α:Type}{xs:List α}{j:Nat}{v:α}(h:xs[j]?=some v):atI xs (j:Int)=some v:=by
 have hj:j<xs.length:=(LR.mp h).1
 have e:ixN xs.length (j:Int)=some j:=by
  unfold ixN
  rw[if_pos (by omega),if_pos (by omega)];simp
 unfold atI;rw[e];exact h
def LP(b:Expr):Prop:=∀ o i,subscripted b false o i=operate [o,i] (getItem o i)
def IxR(X:Cx)(r:R2):Prop :=
 ∀(value slice:Expr)(pins:List (Addr×Obj))(s:Shared)(σ:St)(H:Hp)(x y:V)(v u:Value)(Q:VK),Inv X pins σ H s->RelV x v->RelV y u->r x y H Q ->
  subscripted slice false v u=operate [v,u] (getItem v u)->wpAny (model X.prog X.w) X.A (subscriptTail value slice v u) (EP X pins σ Q) X.xe s
def MtR(X:Cx)(id:String)(r:V->List V->Hp->VK->Prop):Prop :=
 ∀(pins:List (Addr×Obj))(s:Shared)(σ:St)(H:Hp)(x:V)(xs:List V)(v:Value)(us:List Value)(Q:VK),Inv X pins σ H s->RelV x v->Vals xs us->r x xs H Q ->
  wpAny (model X.prog X.w) X.A (call (.builtin id) (v::us)) (EP X pins σ Q) X.xe s
section
variable{X:Cx}{a b:Expr}{ta tb:TE}{pos:Pos}
theorem aD{r:R2}(hr:IxR X r)(ha:PE X a ta)(hb:PE X b tb)(hs:LP b):PE X (.Subscript a b pos) (tOp r ta tb):=by
 intro pins s σ H Q I h
 exact Subscript_ (binT ha hb I h fun v u s2 x y H2 I2 rx ry q=>hr a b pins s2 σ H2 x y v u Q I2 rx ry q (hs _ _))
def rIxL(K:LU):R2:=fun x y H Q=>∃ p xs i v,x=.ref p/\y=.int i/\SqL K H p xs/\atI xs i=some v/\Q v H
def rIxT(K:LU):R2:=fun x y H Q=>∃ p xs i v,x=.ref p/\y=.int i/\SqT K H p xs/\atI xs i=some v/\Q v H
theorem aK:IxR X (rIxL X.K):=by
 intro value slice pins s σ H x y v u Q I rx ry h hs
 obtain⟨p,xs,i,z,rfl,rfl,hq,he,q⟩:=h
 cases rx
 obtain⟨t,rfl⟩:=ry
 obtain⟨its,r,pl,hz⟩:=I.list hq
 obtain⟨j,h1,h2,h3,h4,h5⟩:=HJ he
 obtain⟨w,ew,rw'⟩:=r.get h2
 have hl:=r.length
 have hn:=yK
 have fin:EP X pins σ Q w s:=⟨z,H,I,rw',q⟩
 by_cases h0:0<=i
 ·have hj:i.toNat=j:=by
   rw[seqIndex_of h0 h5]at h1
   exact Mq h1
  exact item_listR pl.isList h0 (by omega) (by rw[hj];simpa using ew) fin hs
 ·have hj:(i+(its.toArray.size:Int)).toNat=j:=by
   rw[seqIndex_neg (by omega) h4]at h1
   rw[MG,← hl]
   exact Mq h1
  exact subscriptTail_builtinR (x:=w) pl.isList.typeIs slot_list_getitem.lookup
   (wpAny_getItem_list_neg (Q:=fun r s'=>r=w/\EP X pins σ Q r s') pl.isList (by omega) (by rw[MG]<;>omega) (by omega) (by rw[hj];simpa using ew) ⟨rfl,fin⟩) hs
theorem aI:IxR X (rIxT X.K):=by
 intro value slice pins s σ H x y v u Q I rx ry h hs
 obtain⟨p,xs,i,z,rfl,rfl,hq,he,q⟩:=h
 cases rx
 obtain⟨t,rfl⟩:=ry
 obtain⟨its,r,pl,hz⟩:=I.tuple hq
 obtain⟨j,h1,h2,h3,h4,h5⟩:=HJ he
 obtain⟨w,ew,rw'⟩:=r.get h2
 have hl:=r.length
 have hn:=yK
 have fin:EP X pins σ Q w s:=⟨z,H,I,rw',q⟩
 exact subscriptTail_builtinR (x:=w) pl.typeIs slot_tuple_getitem.lookup
  (getItem_tuple (j:=j) (Q:=fun r s'=>r=w/\EP X pins σ Q r s') pl (by omega) (by omega) (by rw[MG,← hl];exact h1) (by simpa using ew) ⟨rfl,fin⟩) hs
theorem D9(its:List Value)(n j:Nat)(u:Value):Obj.mapSeq (·.setIfInBounds j u) { cls:=.type "list",data:=.seq its.toArray n }={ cls:=.type "list",data:=.seq (its.set j u).toArray n }:=by
 simp[Obj.mapSeq]
theorem Inv.lst{pins:List (Addr×Obj)}{σ:St}{H:Hp}{s:Shared}{p:Addr}{xs:List V}(I:Inv X pins σ H s)(h:H p=some (.lst xs)) :
  ∃(its:List Value)(n:Nat),Vals xs its/\s.heap.get? p=some { cls:=.type "list",data:=.seq its.toArray n }/\xs.length<=sizeLine:=by
 obtain⟨z,its,n,r,e⟩:=I.hok p _ h
 exact⟨its,n,r,e,z⟩
theorem Inv.lstUpd{pins:List (Addr×Obj)}{σ:St}{H:Hp}{s:Shared}{p:Addr}{xs ys:List V}{its its':List Value}{n n':Nat}{f:Obj->Obj}(I:Inv X pins σ H s)(h:H p=some (.lst xs))
  (ho:s.heap.get? p=some { cls:=.type "list",data:=.seq its.toArray n }) (hf:f { cls:=.type "list",data:=.seq its.toArray n }={ cls:=.type "list",data:=.seq its'.toArray n' }) (r:Vals ys its') (hz:ys.length<=sizeLine) (t:Nat) :
  Inv X pins σ (upd H p (.lst ys)) { s with heap:=s.heap.update p f,toks:=t }:=by
 have e:(s.heap.update p f).get? p=some { cls:=.type "list",data:=.seq its'.toArray n' }:=by
  rw[Heap.get?_update_self f ho (by rw[hf]<;>rfl),hf]
 refine I.write (x:=p) (e:=p) (by rw[h];trivial) (.inl rfl) (fun b u hb q=>(Heap.get?_update_other _ _ (Ne.symm hb)).trans q) ⟨_,e⟩ ?_
 exact⟨hz,its',n',r,e⟩
def rSetL:V->V->V->Hp->(Hp->Prop)->Prop:=fun o i v H Q=>∃ p xs k j,o=.ref p/\i=.int k/\H p=some (.lst xs)/\ixN xs.length k=some j/\Q (upd H p (.lst (xs.set j v)))
theorem lR:PSet X rSetL:=by
 intro pins s σ H o i v ov iv u Q I ro ri rv h
 obtain⟨p,xs,k,j,rfl,rfl,hp,hj,q⟩:=h
 cases ro
 obtain⟨t,rfl⟩:=ri
 obtain⟨its,n,r,ho,hz⟩:=I.lst hp
 obtain⟨h1,h2,h3,h4⟩:=Gq hj
 have hl:=r.length
 have hn:=yK
 have I':Inv X pins σ (upd H p (.lst (xs.set j v))) { s with heap:=s.heap.update p (Obj.mapSeq (·.setIfInBounds j u)) } :=
  I.lstUpd hp ho (D9 its n j u) (r.set rv j) (by rw[MR];exact hz) s.toks
 by_cases h0:0<=k
 ·have hk:k.toNat=j:=by
   rw[seqIndex_of h0 h4]at h1
   exact Mq h1
  exact PySem.W.ki_setAt ho h0 (by omega) (by rw[MG,← hl];exact h4) (by rw[hk];exact⟨_,I',q⟩)
 ·have hk:(k+(its.toArray.size:Int)).toNat=j:=by
   rw[seqIndex_neg (by omega) h3]at h1
   rw[MG,← hl]
   exact Mq h1
  exact PySem.W.ki_setBack ho (by omega) (by rw[MG,← hl];exact h3) (by omega) (by rw[hk];exact⟨_,I',q⟩)
theorem xy(lo hi:Option Int)(n:Nat):(sliceBounds lo hi none n).1=((HT.sIx n 0 lo:Nat):Int)/\(sliceBounds lo hi none n).2.1=((HT.sIx n n hi:Nat):Int)/\(sliceBounds lo hi none n).2.2=1:=by
 refine⟨?_,?_,rfl⟩
 ·cases lo with
  |none=>simp[sliceBounds,HT.sIx]
  |some i =>
   simp only[sliceBounds,HT.sIx,Option.getD_none,show(1:Int) > 0 by decide,if_true]
   by_cases h:i<0
   ·simp only[h,if_true]<;>omega
   ·simp only[h,if_false]<;>omega
 ·cases hi with
  |none=>simp[sliceBounds,HT.sIx]
  |some i =>
   simp only[sliceBounds,HT.sIx,Option.getD_none,show(1:Int) > 0 by decide,if_true]
   by_cases h:i<0
   ·simp only[h,if_true]<;>omega
   ·simp only[h,if_false]<;>omega
theorem uJ(its:List Value)(lo hi:Option Int):slicePick its.toArray lo hi none=((its.drop (HT.sIx its.length 0 lo)).take (HT.sIx its.length its.length hi-HT.sIx its.length 0 lo)).toArray:=by
 obtain⟨h1,h2,h3⟩:=xy lo hi its.toArray.size
 unfold slicePick
 rw[h1,h2,h3]
 simp only[sliceRange_one,pick_run,MG]<;>rfl
def rSlL(K:LU):V->Option Int->Option Int->Hp->VK->Prop:=fun x lo hi H Q=>∃ a xs,x=.ref a/\SqL K H a xs/\∀ p,H p=none->Q (.ref p) (upd H p (.lst (cutV xs lo hi)))
theorem uN:SlR X (rSlL X.K):=by
 intro pins s σ H x v vl vu lo hi sl Q I rx hs pl pu h
 obtain⟨a,xs,rfl,hx,q⟩:=h
 cases rx
 obtain⟨its,r,ht,hz⟩:=I.list hx
 have hlen:=r.length
 refine⟨"list",_,slot_list_getitem.lookup,ht.isList.typeIs,?_⟩
 refine wpAny_getItem_list_slice ht.isList hs pl pu .none (by simp) ?_ (by rw[MG]<;>omega)
 rw[uJ,← hlen]
 refine⟨.ref s.heap.objs.size,_,I.laid (t':=s.toks) (o:=.lst (cutV xs lo hi)) (fun b ob q=>Heap.get?_push_of_some _ q) (Ma _) ?_,rfl,q _ (I.hok.fresh (Ma _))⟩
 exact⟨MZ (Cb xs lo hi) hz,_,0,(r.drop (HT.sIx xs.length 0 lo)).take (HT.sIx xs.length xs.length hi-HT.sIx xs.length 0 lo),Heap.get?_push_size _ rfl⟩
theorem aw:j4 X (.builtin "len") (fun xs H Q=>∃ p ys,xs = [.ref p]/\(SqL X.K H p ys∨SqT X.K H p ys)/\Q (.int ys.length) H):=by
 intro pins s σ H xs us Q I r h
 obtain⟨p,ys,rfl,hq,q⟩:=h
 obtain⟨u,rfl,rx⟩:=rQ r
 cases rx
 have hn:=yK
 rcases hq with hq | hq
 ·obtain⟨its,r',pl,hz⟩:=I.list hq
  have hlen:=r'.length
  exact Calls.call_len_list pl.isList (by simp only[MG]<;>omega) ⟨.int ys.length,H,I.tok _,⟨s.toks+1,by rw[MG,hlen]⟩,q⟩
 ·obtain⟨its,r',pl,hz⟩:=I.tuple hq
  have hlen:=r'.length
  exact len_tuple pl (by simp only[MG]<;>omega) ⟨.int ys.length,H,I.tok _,⟨s.toks+1,by rw[MG,hlen]⟩,q⟩
theorem bT:j4 X (.type "list") (fun xs H Q=>∃ p ys,xs = [.ref p]/\(SqL X.K H p ys∨SqT X.K H p ys)/\∀ l,H l=none->Q (.ref l) (upd H l (.lst ys))):=by
 intro pins s σ H xs us Q I r h
 obtain⟨p,ys,rfl,hq,q⟩:=h
 obtain⟨u,rfl,rx⟩:=rQ r
 cases rx
 have fin:∀(its:List Value),Vals ys its->ys.length<=sizeLine->∀(h':Heap)(c':Nat),(∀ b o',s.heap.get? b=some o'->h'.get? b=some o') ->
   h'.get? s.heap.objs.size=some { cls:=.type "list",dict:=none,data:=.seq its.toArray c',slots:=#[] }->EP X pins σ Q (.ref s.heap.objs.size) { s with heap:=h' }:=fun its r' hz h' c' kp e =>
  ⟨.ref s.heap.objs.size,_,I.laid (t':=s.toks) kp (Ma _) (show bJ X.prog X.w _ h' _ (.lst ys) from⟨hz,its,c',r',e⟩),rfl,q _ (I.hok.fresh (Ma _))⟩
 rcases hq with hq | hq
 ·obtain⟨its,r',pl,hz⟩:=I.list hq
  have hlen:=r'.length
  obtain⟨o,ho,hc,n,hd⟩:=pl.isList
  exact call_list_seq p (.inl rfl) ho hc hd (fun h' c' kp e=>fin its r' hz h' c' kp e) (by simp only[MG]<;>omega)
 ·obtain⟨its,r',pl,hz⟩:=I.tuple hq
  have hlen:=r'.length
  obtain⟨o,ho,hc,n,hd⟩:=pl
  exact call_list_seq p (.inr rfl) ho hc hd (fun h' c' kp e=>fin its r' hz h' c' kp e) (by simp only[MG]<;>omega)
def tyV(K:LU)(T:String)(x:V)(H:Hp):Prop:=match x with
 |.str _=>T = "str"
 |.int _=>T = "int"
 |.ref p=>(T = "list"/\∃ xs,SqL K H p xs)∨(T = "tuple"/\∃ o,K.lookup p=some o/\o.cls=.type "tuple"/\o.dict=none) ∨
   (T = "dict"/\((∃ kvs,H p=some (.dK kvs))∨∃ kvs,H p=some (.dT kvs)))∨(T = "set"/\∃ S n,H p=some (.set S n))
 |_=>False
theorem Jt{pins:List (Addr×Obj)}{σ:St}{H:Hp}{s:Shared}{T:String}{x:V}{v:Value}(I:Inv X pins σ H s)(r:RelV x v)(ty:tyV X.K T x H) :
  s.TypeIs v T/\∀ a,v=.ref a->∃ ob,s.heap.get? a=some ob/\ob.dict=none:=by
 cases x with
 |str z =>
  obtain⟨t,rfl⟩:=r
  cases (show T = "str" from ty)
  exact⟨typeIs_str s z t,fun _ e=>nomatch e⟩
 |int i =>
  obtain⟨t,rfl⟩:=r
  cases (show T = "int" from ty)
  exact⟨typeIs_int s i t,fun _ e=>nomatch e⟩
 |ref p =>
  cases r
  rcases ty with⟨rfl,xs,hq⟩ | ⟨rfl,o,hk,hc,hd⟩ | ⟨rfl,hk⟩ | ⟨rfl,S,n,hk⟩
  ·obtain⟨its,_,pl,_⟩:=I.list hq
   refine⟨pl.isList.typeIs,fun a e=>?_⟩
   cases e
   obtain⟨o,n,e,c,hd,_⟩:=pl
   exact⟨o,e,hd⟩
  ·refine⟨⟨o,I.kIn p o hk,hc⟩,fun a e=>?_⟩
   cases e
   exact⟨o,I.kIn _ o hk,hd⟩
  ·have z:∃ o,s.heap.get? p=some o/\o.ExactDict:=by
    rcases hk with⟨kvs,hk⟩ | ⟨kvs,hk⟩
    ·obtain⟨_,_,_,_,o,_,_,e,ex,_⟩:=I.hok p _ hk
     exact⟨o,e,ex⟩
    ·obtain⟨_,_,_,_,o,_,_,e,ex,_⟩:=I.hok p _ hk
     exact⟨o,e,ex⟩
   obtain⟨o,e,ex⟩:=z
   refine⟨⟨o,e,ex.1⟩,fun a e2=>?_⟩
   cases e2
   exact⟨o,e,ex.2.1⟩
  ·obtain⟨o,_,_,_,e,ex,_⟩:=I.hok p _ hk
   refine⟨⟨o,e,ex.1⟩,fun a e2=>?_⟩
   cases e2
   exact⟨o,e,ex.2.1⟩
 |_=>exact False.elim ty
def tBM0(K:LU)(T:String)(r:V->List V->Hp->VK->Prop)(to:TE):TE:=fun σ H Q=>to σ H fun x H1=>tyV K T x H1/\r x [] H1 Q
def tBM(K:LU)(T:String)(r:V->List V->Hp->VK->Prop)(to:TE)(t:TA):TE:=fun σ H Q=>to σ H fun x H1=>tyV K T x H1/\t σ H1 fun xs H2=>r x xs H2 Q
variable{o e:Expr}{es:List Expr}{to:TE}{t:TA}{name:Str}{apos cpos:Pos}{T id:String}{r:V->List V->Hp->VK->Prop}
theorem pe_bm0(pa:PlainAttrs T)(slot:Slot T name id) (hty:typeOf (.builtin id)=pure (.type "method_descriptor")) (hm:MtR X id r) (ho:PE X o to)
  (hbase:attributeBase o name X.env (eval o X.env)=eval o X.env:=by rfl) (hline:(apos.endLine == cpos.line)=true:=by rfl):PE X (.Call (.Attribute o name apos) [] [] cpos) (tBM0 X.K T r to):=by
 intro pins s σ H Q I h
 refine wpAny_Call_method0_late hbase hline (thn (ho pins s σ H _ I h) fun v s1 ⟨x,H1,I1,r1,ty,q1⟩=>?_)
 obtain⟨h1,h2⟩:=Jt I1 r1 ty
 exact⟨T,id,pa,slot,hty,h1,h2,Calls.callWith_builtin rfl (PySem.evalArgs_none (hm pins s1 σ H1 x [] v [] Q I1 r1 .nil q1))⟩
theorem dI(pa:PlainAttrs T)(slot:Slot T name id) (hty:typeOf (.builtin id)=pure (.type "method_descriptor")) (hm:MtR X id r) (ho:PE X o to) (ha:PA X (e::es) t)
  (hbase:attributeBase o name X.env (eval o X.env)=eval o X.env:=by rfl)
  (hfew:((backTo cpos (starEach (e::es) X.env)).all (fun x=>!x.1)&&(backToKw cpos (keywordEach [] X.env)).all (fun x=>x.1.isSome)
   && decide ((e::es).length+([]:List Keyword).length+(if([]:List Keyword).isEmpty then 0 else 1)<30))=true:=by rfl)
  (hline:(apos.endLine == cpos.line)=true:=by rfl) (hs:starEach (e::es) X.env=(false,eval e X.env)::starEach es X.env:=by rfl) (hplain:(backTo cpos (starEach es X.env)).any (·.1)=false:=by rfl) :
  PE X (.Call (.Attribute o name apos) (e::es) [] cpos) (tBM X.K T r to t):=by
 intro pins s σ H Q I h
 refine wpAny_Call_method_late hbase hfew hline rfl (thn (ho pins s σ H _ I h) fun v s1 ⟨x,H1,I1,r1,ty,q1⟩=>?_)
 obtain⟨h1,h2⟩:=Jt I1 r1 ty
 refine⟨T,id,pa,slot,hty,h1,h2,?_⟩
 have hA:=ha cpos pins s1 σ H1 _ I1 q1
 rw[hs]at hA ⊢
 refine Calls.callWith_builtin (by show(false||(backTo cpos (starEach es X.env)).any (·.1))=false;rw[hplain]<;>rfl) (Calls.evalArgs_plain ?_)
 exact thn hA fun us s2 ⟨vs,H2,I2,r2,q2⟩=>hm pins s2 σ H2 x vs v us Q I2 r1 r2 q2
end
end L2
namespace L2
open PySem PySem.Spec PyProof.Rows
def MtM(X:Cx)(id:String)(r:V->List V->Hp->VK->Prop):Prop :=
 ∀(pins:List (Addr×Obj))(s:Shared)(σ:St)(H:Hp)(x:V)(xs:List V)(v:Value)(us:List Value)(Q:VK),Inv X pins σ H s->RelV x v->Vals xs us->r x xs H Q ->
  wpAny (model X.prog X.w) X.A (call (.builtin id) (v::us)) (EP X pins σ Q) X.xe s
theorem Vals.one:∀{x:V}{us:List Value},Vals [x] us->∃ u,us = [u]/\RelV x u
 |_,_,.cons r .nil=>⟨_,rfl,r⟩
theorem Vals.two:∀{x y:V}{us:List Value},Vals [x,y] us->∃ u v,us = [u,v]/\RelV x u/\RelV y v
 |_,_,_,.cons r (.cons q .nil)=>⟨_,_,rfl,r,q⟩
theorem Vals.zero:∀{us:List Value},Vals [] us->us = []
 |_,.nil=>rfl
section
variable{X:Cx}{pins:List (Addr×Obj)}{σ:St}{H:Hp}{s:Shared}{l b:Addr}{xs ys zs:List V}
theorem Inv.lset{its its':List Value}{n:Nat}{f:Array Value->Array Value}{t':Nat}(I:Inv X pins σ H s)(hH:H l=some (.lst xs))
  (e:s.heap.get? l=some { cls:=.type "list",data:=.seq its.toArray n }) (hf:f its.toArray=its'.toArray) (hv:Vals ys its') (hz:ys.length<=sizeLine) :
  Inv X pins σ (upd H l (.lst ys)) { s with heap:=s.heap.update l (Obj.mapSeq f),toks:=t' }:=by
 have q:=PySem.IsL.update e f
 rw[hf]at q
 refine I.write (x:=l) (e:=l) (by rw[hH];exact trivial) (.inl rfl) (fun b' u hb hu=>(Heap.get?_update_other s.heap (Obj.mapSeq f) (Ne.symm hb)).trans hu) ⟨_,q⟩ ?_
 exact⟨hz,its',_,hv,q⟩
theorem Inv.lnew{its:List Value}{t':Nat}(I:Inv X pins σ H s)(hv:Vals ys its)(hz:ys.length<=sizeLine) :
  Inv X pins σ (upd H s.heap.objs.size (.lst ys)) { s with heap:=s.heap.push { cls:=.type "list",data:=.seq its.toArray },toks:=t' } :=
 I.laid (fun _ _ q=>Heap.get?_push_of_some _ q) (Ma _) ⟨hz,its,0,hv,Heap.get?_push_size _ rfl⟩
theorem Inv.fresh(I:Inv X pins σ H s):H s.heap.objs.size=none:=I.hok.fresh (Ma _)
theorem Inv.lstM(I:Inv X pins σ H s)(hH:H l=some (.lst xs)):xs.length<=sizeLine/\∃(its:List Value)(n:Nat),Vals xs its/\xs.length=its.length/\s.heap.get? l=some { cls:=.type "list",data:=.seq its.toArray n }:=by
 obtain⟨z,its,n,r,e⟩:=I.hok l _ hH
 exact⟨z,its,n,r,r.length,e⟩
end
section
variable{X:Cx}
def Kz:V->List V->Hp->VK->Prop:=fun x vs H Q=>∃ l xs y,x=.ref l/\vs = [y]/\H l=some (.lst xs)/\xs.length<sizeLine/\Q .non (upd H l (.lst (xs++[y])))
theorem aU:MtM X "list.append" Kz:=by
 intro pins s σ H x vs v us Q I rx rv h
 obtain⟨l,xs,y,rfl,rfl,hH,hz,q⟩:=h
 cases rx
 obtain⟨u,rfl,ru⟩:=rv.one
 obtain⟨z,its,n,r,hl,e⟩:=I.lstM hH
 refine call_meets F.slot_list_append ⟨_,e,rfl⟩ F.entry_list_append (F.args_list_append_2 _ _) (PySem.list_append l its.toArray n u (by rw[MG];omega)) ⟨e,?_⟩
 refine⟨.non,_,I.lset (its':=its++[u]) hH e (by simp) (r.append (.cons ru .nil)) ?_,rfl,q⟩
 rw[LX,Me]
 omega
def rCat:R2:=fun x y H Q=>∃ l b xs zs,x=.ref l/\y=.ref b/\H l=some (.lst xs)/\H b=some (.lst zs)/\xs.length+zs.length<=sizeLine/\∀ p,H p=none->Q (.ref p) (upd H p (.lst (xs++zs)))
theorem op_cat:OpR X (binaryOp .Add) rCat:=by
 intro pins s σ H x y v u Q I rx ry h
 obtain⟨l,b,xs,zs,rfl,rfl,hH,hB,hz,q⟩:=h
 cases rx
 cases ry
 obtain⟨z,its,n,r,hl,e⟩:=I.lstM hH
 obtain⟨z2,its2,n2,r2,hl2,e2⟩:=I.lstM hB
 refine PySem.P.add_list e e2 ?_ (by rw[MG,MG];omega)
 have ea:its.toArray++its2.toArray=(its++its2).toArray:=by simp
 rw[ea]
 exact⟨.ref _,_,I.lnew (t':=s.toks) (r.append r2) (by rw[LX];omega),rfl,q _ I.fresh⟩
end
section
variable{prog:Program}{w:World}{A:Around}{E:Value->Shared->Prop}{s:Shared}
end
section
variable{X:Cx}
end
end L2
namespace Att
open PySem PySem.W PySem.Calls PyProof.Rows
theorem qK{P:Params}{h:Heap}:∀(ns:List Int)(vs:List Value),WellAll P h vs (ns.map WData.int)->IntsAre vs ns:=by
 intro ns
 induction ns with
 |nil =>
  intro vs w
  rw[OD]at w
  cases w
  exact .nil
 |cons n ns ih =>
  intro vs w
  rw[MQ]at w
  cases w with
  |cons a b =>
   cases a
   exact .cons _ _ (ih _ b)
theorem Fp{l:OpenLaw}{n:Nat}(hn:l.most=some n){P:Params}{h:Heap}{args:List WData}{vals:List Value}
  (hpre:l.row.toRowW.claim.pre args=true) (hwl:WellAll P h vals args) :
  ∃ a vs ns,vals = [Value.ref a]/\args = [WData.list (ns.map WData.int)]/\h.get? a=some { cls:=.type "list",data:=.seq vs.toArray }/\IntsAre vs ns/\ns.length<=n:=by
 have hsh:WShape.hasAll [] args [.list .int]=true:=(pre_splitW hpre).1
 have hc:l.pre.holds [] { args:=args }=true:=(pre_splitW hpre).2
 obtain⟨d,r,rfl,h1,h2⟩:=hasAllW_cons hsh
 obtain rfl:=hasAllW_nil h2
 obtain⟨xs,rfl,h3⟩:=hasW_list h1
 obtain⟨ns,rfl⟩:=items_int h3
 have hlen:ns.length<=n:=by
  unfold OpenLaw.pre at hc
  have h4:(WTm.not (.lt (.lit (.int (n:Int))) (.len (.arg 0)))).holds [] { args:=[.list (ns.map .int)] }=true:=by
   have h4:=(holds_andW hc).1
   rw[hn]at h4
   exact h4
  have h5:=condW_of h4 (w_not (w_lt w_lit (w_len_list (w_arg rfl))))
  rw[LW]at h5
  refine Nat.le_of_not_lt fun q=>?_
  have q':(n:Int)<((ns.length:Nat):Int):=by omega
  first
   | (rw[decide_eq_true q']at h5;exact absurd h5 (by decide))
   | (simp at h5;omega)
 cases hwl with
 |cons w1 w2 =>
  cases w2
  cases w1 with
  |list ho hall=>exact⟨_,_,ns,rfl,rfl,ho,qK ns _ hall,hlen⟩
theorem Fz(l:OpenLaw)(args:List WData):l.row.toRowW.claim.post args (.bool true) args=true :=
 postW_of (r:=l.row.toRowW) (X:=(true == true))
  (show WShape.has [] (.bool true) .bool=true by first | rfl | decide | simp[WShape.has,WShape.arms,WShape.armsAll])
  (show(WTm.eq .res (.lit (.bool true))).value [] { args:=args,res:=some (.bool true),after:=args }=some (.bool (true == true)) from w_eq_bool (w_res rfl) w_lit) rfl
theorem attach_call{l:OpenLaw}{n:Nat}{q:Program}{loose:List Str}{XP:(Str->Option Value)->Heap->Prop}{YP:World->Heap->Prop}{d:DefRec}
  (hn:l.most=some n) (hdf:d.params.defaults = [])
  (call:∀(w:World)(s₀ s₁:Shared)(mg mb:Str->Option Value)(fa:Addr)(o:Obj)(pm cd doc:Value)(a:Addr)(vs:List Value)(ns:List Int),
   Ground q loose [] XP w s₀ mg mb s₁.heap->YP w s₁.heap ->
   s₁.heap.get? fa=some o->o.data=.func (docDef d.name d.params d.body d.scope pm cd doc)->s₁.heap.CodeRec cd d.name->mg d.name=some (.ref fa) ->
   s₁.heap.get? a=some { cls:=.type "list",data:=.seq vs.toArray }->IntsAre vs ns->ns.length<=n->s₁.gens=#[] ->
   codeAny (model l.prog w) callerA (.call (.ref fa) ⟨[.ref a],[]⟩) (fun r s'=>r=.ok (.ret (.bool true))/\OldK s₁.heap s'.heap/\s'.os=s₁.os/\AllBare s'.gens) s₁) :
  WalkO q loose XP YP l.row.toRowW d [] (fun f vs=>PySem.call f vs):=by
 intro w s₀ s₁ mg mb G Y fa o pm cd doc dV kV ho hd hcd hD hmg hg args vals as hpre hlay hrd hwl hlo
 obtain rfl:dV=.none:=Dflts.none hD hdf
 obtain rfl:kV=.none:=Dflts.noKw hD
 obtain⟨a,vs,ns,rfl,rfl,hobj,hints,hlen⟩:=Fp hn hpre hwl
 refine enter_call (codeAny_mono (call w s₀ s₁ mg mb fa o pm cd doc a vs ns G Y ho (fd_plain hd) hcd hmg hobj hints hlen hg) fun r s' hq=>?_)
 obtain⟨rfl,h2,h3,h4⟩:=hq
 exact⟨.inl ⟨.bool true,.bool true,[],rfl,fun _=>rfl,.bool true,Fz l _,fun _=>⟨Ov,fun _ hm=>(nomatch hm)⟩⟩,h2,h3,h4⟩
section
variable{prog:Program}{w:World}{A:Around}{E:Value->Shared->Prop}{s:Shared}{K:Frag}
end
end Att
namespace L2
open PySem PySem.Spec PyProof.Rows
theorem xp:∀{vs:List Value}{ns:List Int},IntsAre vs ns->Vals (ns.map V.int) vs
 |_,_,.nil=>.nil
 |_,_,.cons n t h=>.cons ⟨t,rfl⟩ (xp h)
def Only(H:Hp):Prop:=∀ b,H b=none∨∃ o xs,H b=some (.frz o (.lst xs))
theorem IZ{P:Program}{w:World}{K:LU}{mg mb:Str->Option Value}{CX:CXT}{k:Nat}{fa a:Addr}{fd:FuncData}{x:Str}{sp:Sp}{s₁:Shared}{vs:List Value}{ns:List Int}
  (KX:K.In s₁.heap) (hns:s₁.heap.Ns mainGlobals mg) (hb:s₁.heap.Ns builtinsNs mb) (hbb:∀ x:Str,x≠"__name__"->mb x=bootBuiltins x) (hlim:s₁.heap.NoLimit) (hg:s₁.gens=#[])
  (ha:s₁.heap.get? a=some { cls:=.type "list",data:=.seq vs.toArray }) (hi:IntsAre vs ns) (hl:ns.length<=sizeLine) (hr:Room k callerA)
  (F:∀ base:Heap,K.In base->base.Ns mainGlobals mg->FnOk P w K mg base CX k fa fd [x] sp) (hbind:∀(s:Shared)(u:Value),BindsTo s fd ⟨[u],[]⟩ [(x,u)])
  (hsp:∀ H:Hp,Only H->SqL K H a (ns.map V.int)->sp [.ref a] H (fun v _=>v=.bl true) fun _ _ _=>False)
  (hCX:∀ H e s',CX [] H s₁ (fun _ _ _=>False) e s'->False) :
  codeAny (model P w) callerA (.call (.ref fa) ⟨[.ref a],[]⟩) (fun r s'=>r=.ok (.ret (.bool true))/\OldK s₁.heap s'.heap/\s'.os=s₁.os/\AllBare s'.gens) s₁:=by
 have rv:=xp hi
 have lenV:=hi.length
 have core:∀ H:Hp,Only H->SqL K H a (ns.map V.int)->HOk P w H s₁.heap->(∀ b,H b≠none->b=a)->(H a≠none->K.lookup a=none) ->
   codeAny (model P w) callerA (.call (.ref fa) ⟨[.ref a],[]⟩) (fun r s'=>r=.ok (.ret (.bool true))/\OldK s₁.heap s'.heap/\s'.os=s₁.os/\AllBare s'.gens) s₁:=by
  intro H hO hS hok hA hK
  have base_of:∀{b:Addr}{o:Obj},s₁.heap.get? b=some o->H b=none->(hidT s₁.heap H).get? b=some o:=fun e n=>Jc e n
  have noA:∀{b:Addr}{o:Obj}{es:Array DictEntry}{ep:Nat},s₁.heap.get? b=some o->o.data=.dict es ep->H b=none:=fun{b o es ep} e d=>by
   cases q:H b with
   |none=>rfl
   |some u =>
    have e':b=a:=hA b (by rw[q];simp)
    subst e'
    rw[ha]at e;cases e
    have d':Data.seq vs.toArray _=Data.dict es ep:=d
    cases d'
  have nsK:∀{b:Addr}{m:Str->Option Value},s₁.heap.Ns b m->(hidT s₁.heap H).Ns b m:=fun{b m} ⟨o,es,ep,e,d,r⟩=>⟨o,es,ep,base_of e (noA e d),d,r⟩
  have hKb:K.In (hidT s₁.heap H):=fun b o e=>base_of (KX b o e) (by
   cases q:H b with
   |none=>rfl
   |some u =>
    have e':b=a:=hA b (by rw[q];simp)
    subst e'
    rw[hK (by rw[q];simp)]at e;cases e)
  have hM:Mod K mg (hidT s₁.heap H):=⟨hKb,nsK hns,⟨mb,nsK hb,hbb⟩,let ⟨mc,h1,h2⟩:=hlim;⟨mc,nsK h1,h2⟩⟩
  have e0:Env0 P w K mg (hidT s₁.heap H) callerA [] s₁ H:=⟨rfl,hM,fun b o e=>K7 e,Nat.le_of_eq (GJ _ _),trivial,fun b hb=>absurd (show b∈([]:List Addr) from hb) (by simp),hok,.of_eq hg⟩
  refine codeAny_mono ((F _ hKb (nsK hns)).run callerA [] s₁ H ⟨[.ref a],[]⟩ [.ref a] [.ref a] _ _ hr e0 (hbind s₁ (.ref a)) (.cons rfl .nil) (hsp H hO hS)) fun r s' h=>?_
  cases r with
  |error e=>exact(hCX H e s' h).elim
  |ok fl =>
   cases fl with
   |next=>exact False.elim h
   |brk=>exact False.elim h
   |cont=>exact False.elim h
   |ret u =>
    obtain⟨v,H',os,bare,un,hok',r',q⟩:=h
    have q':v=.bl true:=q
    subst q'
    obtain rfl:u=Value.bool true:=r'
    refine⟨rfl,OldK.of_keep fun b o e=>?_,os,bare⟩
    cases q:H b with
    |none=>exact un.keep b o e q (by intro z;exact absurd (show b∈([]:List Addr) from z) (by simp)) (by simp)
    |some u =>
     rcases hO b with z | ⟨ob,xs,z⟩
     ·rw[q]at z;cases z
     ·have z2:=un.frzs b ob _ z
      obtain⟨e1,_⟩:=hok b _ z
      obtain⟨e2,_⟩:=hok' b _ z2
      rw[e]at e1;cases e1
      exact e2
 cases hk:K.lookup a with
 |some o =>
  have e:=KX a o hk
  rw[ha]at e
  cases e
  refine core (fun _=>none) (fun _=>.inl rfl) (.inr ⟨_,vs.toArray,_,hk,rfl,rfl,rfl,by rw[MG,lenV];exact hl,by simpa using rv⟩) (fun b u z=>by have z':(none:Option HO)=some u:=z;cases z') (fun b z=>absurd rfl z) fun z=>absurd rfl z
 |none =>
  refine core (fun b=>if b=a then some (.frz { cls:=.type "list",data:=.seq vs.toArray } (.lst (ns.map V.int))) else none) (fun b=>?_) (.inl (.inr ⟨{ cls:=.type "list",data:=.seq vs.toArray },if_pos rfl⟩)) (fun b u z=>?_) (fun b z=>?_) fun _=>hk
  ·by_cases hb:b=a
   ·exact .inr ⟨_,_,if_pos hb⟩
   ·exact .inl (if_neg hb)
  ·by_cases hb:b=a
   ·have z':=(if_pos hb).symm.trans z
    cases z'
    subst hb
    exact⟨ha,by rw[LW];exact hl,vs,_,rv,ha⟩
   ·have z':=(if_neg hb).symm.trans z
    cases z'
  ·by_cases hb:b=a
   ·exact hb
   ·exact absurd (if_neg hb) z
end L2
namespace L2
open PySem PySem.Spec PyProof.Rows
theorem walk_of{l:O6}{n k:Nat}{q:Program}{loose:List Str}{XP:(Str->Option Value)->Heap->Prop}{YP:World->Heap->Prop}{d:DefRec}{K:Params->LU}{CX:World->CXT}{sp:World->Sp}{x:Str}
  (hn:l.most=some n) (hn2:n<=sizeLine) (hdf:d.params.defaults = []) (hr:Room k callerA)
  (hY:∀(w:World)(h:Heap),YP w h->(K w.params).In h)
  (F:∀(w:World)(mg:Str->Option Value)(fa:Addr)(h:Heap),(K w.params).In h->h.Ns mainGlobals mg->mg d.name=some (.ref fa) ->
   ∃ fd:FuncData,(∀(s:Shared)(u:Value),BindsTo s fd ⟨[u],[]⟩ [(x,u)]) /\
    ∀ base:Heap,(K w.params).In base->base.Ns mainGlobals mg->FnOk l.prog w (K w.params) mg base (CX w) k fa fd [x] (sp w))
  (hsp:∀(w:World)(H:Hp)(a:Addr)(ns:List Int),ns.length<=n->Only H->SqL (K w.params) H a (ns.map V.int)->sp w [.ref a] H (fun v _=>v=.bl true) fun _ _ _=>False)
  (hCX:∀(w:World)(H:Hp)(s:Shared)(e:Value)(s':Shared),CX w [] H s (fun _ _ _=>False) e s'->False) :
  PySem.W.WalkO q loose XP YP l.row.toRowW d [] (fun f vs=>PySem.call f vs):=by
 refine Att.attach_call hn hdf fun w s₀ s₁ mg mb fa o pm cd doc a vs ns G Y ho hd hcd hmg hobj hints hlen hg=>?_
 have KX:=hY w _ Y
 obtain⟨fd,hb,hF⟩:=F w mg fa _ KX G.T.g hmg
 exact IZ KX G.T.g G.T.b G.T.builtins G.T.nolimit hg hobj hints (MZ hlen hn2) hr hF hb (fun H hO hS=>hsp w H a ns hlen hO hS) fun H e s'=>hCX w H s₁ e s'
end L2
namespace L2
open PySem PySem.Spec PyProof.Rows
def nB(s:Stmt)(j:Nat):Stmt:=match s with
 |.ClassDef _ _ _ body _ _ _ _ _ _ _=>body.getD j (.Pass ⟨0,0,0,0⟩)
 |_=>.Pass ⟨0,0,0,0⟩
def aA(s:Stmt):Arguments:=match s with
 |.FunctionDef _ a _ _ _ _ _ _ _ _=>a
 |_=>{ posonlyargs:=[],args:=[],vararg:=none,kwonlyargs:=[],kw_defaults:=[],kwarg:=none,defaults:=[] }
def ax(s:Stmt):List Stmt:=match s with
 |.FunctionDef _ _ b _ _ _ _ _ _ _=>b
 |_=>[]
def ai(s:Stmt):Scope:=match s with
 |.FunctionDef _ _ _ _ _ _ sc _ _ _=>sc
 |_=>{ kind:=.function,names:=[],isGenerator:=false,isCoroutine:=false }
abbrev CX0:CXT:=fun _ _ _ _ _ _=>False
abbrev E0:XK:=fun _ _ _=>False
theorem aW{X:Cx}:oM CX0 X E0:=fun _ _ _ _ _ _ _ h=>h.elim
structure Fun(K:LU)(x qual:Str)(st:Stmt)(f:Addr)(fd:FuncData):Prop where
 ex:∃(oc:Value)(od:Option Addr)(kV doc pm:Value)(an:Option Addr)(cdv ct:Value)(osl:Array (Option Value)),
  fd=Mi x qual (aA st) (ax st) (ai st) .none kV doc pm an cdv ct/\K.lookup f=some ⟨oc,od,.func fd,osl⟩/\Mf K cdv qual=true
 kp:Md K (.ref f)=true
section
variable{P:Program}{w:World}{K:LU}{mg:Str->Option Value}{base:Heap}
theorem Fun.ok{x qual:Str}{st:Stmt}{f:Addr}{fd:FuncData}{N ps:List Str}{k:Nat}{sp:Sp}(F:Fun K x qual st f fd)(S:aE N ps (ai st))(len:∀ vs H Q E,sp vs H Q E->vs.length=ps.length)
  (hbody:∀(cdv:Value)(A:Around)(outer:List Env)(s:Shared)(H:Hp)(vs:List V)(Q:VK)(E:XK),Room k (A.deeper (envOfC qual (ai st) s.heap.objs.size f cdv))->sp vs H Q E ->
   ∃ t,PSs (cxOf CX0 P w K mg base N qual (ai st) f cdv A outer s H E).nox (ax st) t/\t { nx:=fun _ H'=>Q .non H',rt:=Q } (rT N vs) H):FnOk P w K mg base CX0 (k+1) f fd ps sp:=by
 obtain⟨oc,od,kV,doc,pm,an,cdv,ct,osl,rfl,lk,hcd⟩:=F.ex
 refine Lw lk hcd S len fun A outer s H vs Q E hr hsp=>?_
 obtain⟨t,h,q⟩:=hbody cdv A outer s H vs Q E hr hsp
 exact⟨t,h.nox,q⟩
theorem Fun.binds{x qual:Str}{st:Stmt}{f:Addr}{fd:FuncData}{ps:List Str}(F:Fun K x qual st f fd)
  (h:∀(kV doc pm:Value)(an:Option Addr)(cdv ct:Value)(us:List Value),us.length=ps.length->bindArgs (Mi x qual (aA st) (ax st) (ai st) .none kV doc pm an cdv ct) ⟨us,[]⟩=pure (ps.zip us)):iG K fd ps []:=by
 obtain⟨oc,od,kV,doc,pm,an,cdv,ct,osl,rfl,lk,hcd⟩:=F.ex
 exact .all (h kV doc pm an cdv ct)
theorem aQ{x qual:Str}{st:Stmt}{f:Addr}{oc:Value}{od an:Option Addr}{osl:Array (Option Value)}{kV doc pm cdv ct:Value}(l:K.lookup f=some ⟨oc,od,.func (Mi x qual (aA st) (ax st) (ai st) .none kV doc pm an cdv ct),osl⟩)
  (c:Mf K cdv qual=true) (k:Md K (.ref f)=true):Fun K x qual st f (Mi x qual (aA st) (ax st) (ai st) .none kV doc pm an cdv ct):=⟨⟨oc,od,kV,doc,pm,an,cdv,ct,osl,rfl,l,c⟩,k⟩
end
theorem GG{A:Around}{k:Nat}(hr:Room k A):A.units+1<cLine:=OP (Nat.add_le_add_left (by decide:1<=64) _) hr.units
theorem ar{n:Nat}(h:n<=1000):n<sizeLine:=OP h (by decide)
section
variable{X:Cx}
theorem pv(i:Nat){x:Str}{pos:Pos}(hN:X.N[i]?=some x:=by rfl)(hv:Vis X.env.scope x:=by first | exact Or.inl rfl | exact Or.inr (Or.inl rfl) | exact Or.inr (Or.inr rfl)) (hd:(x == ("__debug__" : Str))=false:=by decide)
  (hcd:(x == ("__classdict__" : Str))=false:=by decide):PE X (.Name x pos) (tVar i):=pe_var hN hv hd hcd
end
theorem iteF{A B:Prop}(h:B):if false=true then A else B:=by
 rw[if_neg Mp]
 exact h
theorem iteT{A B:Prop}(h:A):if true=true then A else B:=by
 rw[if_pos rfl]
 exact h
theorem ite2{c A B:Prop} [Decidable c] (h1:c->A) (h2:¬ c->B):if c then A else B:=by
 by_cases h:c
 ·rw[if_pos h]
  exact h1 h
 ·rw[if_neg h]
  exact h2 h
theorem Lr{c A B:Prop} [Decidable c] (hc:c) (h:B):if(!decide c)=true then A else B:=by
 rw[decide_eq_true hc]
 exact iteF h
def Same(H H':Hp):Prop:=∀ b o,H b=some o->H' b=some o
theorem Same.trans{H H1 H2:Hp}(a:Same H H1)(b:Same H1 H2):Same H H2:=fun c o h=>b c o (a c o h)
theorem Same.seq{K:LU}{H H':Hp}{a:Addr}{xs:List V}(e:Same H H')(h:SqL K H a xs):SqL K H' a xs:=by
 rcases h with(h | ⟨o,h⟩) | h
 ·exact .inl (.inl (e _ _ h))
 ·exact .inl (.inr ⟨o,e _ _ h⟩)
 ·exact .inr h
end L2
set_option maxRecDepth 100000
set_option maxHeartbeats 4000000
namespace L2
open PySem PySem.Spec PyProof.Rows
end L2
namespace L2
open PySem PySem.Spec PyProof.Rows
section
variable(P:Program)(w:World)
end
section
variable{P:Program}{w:World}{H H':Hp}{h h':Heap}{a:Addr}{o:HO}
end
section
variable{P:Program}{w:World}{H:Hp}{h h':Heap}{x e:Addr}{o':HO}
end
section
variable{fs fs' ex ex':List Addr}{H H1 H2:Hp}{h h1 h2 h':Heap}{a x e:Addr}{o:HO}
end
end L2
namespace L2
open PySem PySem.Spec PyProof.Rows
section
variable{X:Cx}{pins:List (Addr×Obj)}{σ:List (Option V)}{H H':Hp}{s:Shared}{h':Heap}
end
end L2
namespace L2
open PySem PySem.Spec PyProof.Rows
section
variable{X:Cx}
variable{a b:Expr}{ta tb:TE}{pos:Pos}
variable{tA tB':TT}{rest:List Expr}
end
end L2
namespace L2
open PySem PySem.Spec PyProof.Rows
section
variable{X:Cx}{pins:List (Addr×Obj)}{σ:St}{H:Hp}{s:Shared}{a:Addr}{xs ys:List V}
end
section
variable{X:Cx}{pins:List (Addr×Obj)}{σ:St}{H:Hp}{s:Shared}{E:Value->Shared->Prop}
end
section
variable{X:Cx}{st:Stmt}{rest:List Stmt}{t u:TS}{e:Expr}{te:TE}{pos:Pos}
end
section
variable{X:Cx}{pos:Pos}
end
section
variable{X:Cx}{pos:Pos}
end
end L2
namespace L2
open PySem PySem.Spec PyProof.Rows
section
variable{X:Cx}{tg:Expr}
end
end L2
namespace L2
open PySem PySem.Spec PyProof.Rows
section
variable{X:Cx}{a b c:Expr}{ta tb tc:TE}{pos:Pos}
end
section
variable{X:Cx}{a b c:Expr}{ta tb tc:TE}{pos:Pos}
end
end L2
namespace L2
open PySem PySem.Spec PyProof.Rows
section
variable{prog:Program}{w:World}{A:Around}{E:Value->Shared->Prop}{s:Shared}{K:LU}{x dx C f:Addr}{mA:Str->Option Value}{name:Str}{v:Value}
end
section
variable{P:Program}{w:World}{H H':Hp}{h h':Heap}{a C dx:Addr}{fs fs':List (Str×V)}
end
section
variable{X:Cx}{pins:List (Addr×Obj)}{σ:St}{H:Hp}{s:Shared}{a C dx:Addr}{fs:List (Str×V)}{f:Str}{v:V}{A:Around}{E:Value->Shared->Prop}
end
section
variable{X:Cx}{o e value:Expr}{f:Str}{pos pos' tpos:Pos}{ta tv:TE}
end
section
variable{X:Cx}{pins:List (Addr×Obj)}{σ:St}{H:Hp}{s:Shared}{A:Around}{E:Value->Shared->Prop}{Q:Value->Shared->Prop}{c:Value}{b:Bool}
end
end L2
namespace L2
open PySem PySem.Spec PyProof.Rows
section
variable{X:Cx}{e:Expr}{es:List Expr}{te:TE}{t:TA}{pos:Pos}
end
section
variable{X:Cx}{pins:List (Addr×Obj)}{σ:St}{H:Hp}{s s':Shared}
end
section
variable{X:Cx}{CX:CXT}{k:Nat}{f C:Addr}{fd:FuncData}{ps:List Str}{sp:Sp}{dvs:List V}{ds:List Value}{E:XK}{x m:Str}{p pos apos:Pos}{e o:Expr}{es:List Expr}{ta:TE}{t:TA}
end
section
variable{X:Cx}{CX:CXT}{k:Nat}{f C:Addr}{fd:FuncData}{ps ks:List Str}{sp:Sp}{E:XK}{x m:Str}{p pos apos kpos:Pos}{e o:Expr}{es:List Expr}{kws:List Keyword}{te ta:TE}{t tk:TA}{nm:Option Str}
variable{g:List Value->List Value->List Value}{gV:List V->List V->List V}
end
end L2
namespace L2
open PySem PySem.Spec PyProof.Rows
section
variable{X:Cx}{x:Str}{p pos:Pos}{e:Expr}{es:List Expr}{t:TA}{id T:String}{r:List V->Hp->VK->Prop}
end
end L2
namespace L2
open PySem PySem.Spec PyProof.Rows
section
variable{κ:Type} [DecidableEq κ]
def valV(kvs:List (κ×V))(k:κ):Option V:=(kvs.find? fun kv=>decide (kv.1=k)).map (·.2)
def putK(kvs:List (κ×V))(k:κ)(v:V):List (κ×V) :=
 if(kvs.any fun kv=>decide (kv.1=k))=true then kvs.map (fun kv=>if kv.1=k then(kv.1,v) else kv) else kvs++[(k,v)]
theorem bW{p:κ×V}{r:List (κ×V)}{k:κ}(e:p.1=k):valV (p::r) k=some p.2:=by simp[valV,NZ,e]
theorem bX{p:κ×V}{r:List (κ×V)}{k:κ}(e:¬ p.1=k):valV (p::r) k=valV r k:=by simp[valV,NZ,e]
theorem jx(k:κ):∀ kvs:List (κ×V),(kvs.any fun kv=>decide (kv.1=k))=(valV kvs k).isSome
 |[]=>rfl
 |p::r=>by
  rw[Oz]
  by_cases e:p.1=k
  ·simp only[bW e,decide_eq_true e,Bool.true_or,Option.isSome_some]
  ·rw[bX e,decide_eq_false e,Bool.false_or];exact jx k r
theorem C0(k j:κ)(y:V):∀ kvs:List (κ×V),valV (kvs.map fun kv=>if kv.1=k then(kv.1,y) else kv) j=(valV kvs j).map fun x=>if j=k then y else x
 |[]=>rfl
 |p::r=>by
  have ih:=C0 k j y r
  rw[MQ]
  by_cases h:p.1=k
  ·rw[if_pos h]
   by_cases e:p.1=j
   ·rw[bW (p:=(p.1,y)) e,bW e,OA,if_pos (e.symm.trans h)]
   ·rw[bX (p:=(p.1,y)) e,bX e,ih]
  ·rw[if_neg h]
   by_cases e:p.1=j
   ·rw[bW (p:=p) e,bW e,OA,if_neg (fun z=>h (e.trans z))]
   ·rw[bX (p:=p) e,bX e,ih]
theorem xq(k j:κ)(y:V):∀ kvs:List (κ×V),valV kvs k=none->valV (kvs++[(k,y)]) j=if j=k then some y else valV kvs j
 |[],_=>by
  by_cases e:k=j
  ·rw[if_pos e.symm];exact bW (p:=(k,y)) e
  ·rw[if_neg (fun z=>e z.symm)];exact bX (p:=(k,y)) e
 |p::r,hn=>by
  rw[List.cons_append]
  have hk:¬ p.1=k:=fun z=>by rw[bW z]at hn;cases hn
  rw[bX hk]at hn
  have ih:=xq k j y r hn
  by_cases e:p.1=j
  ·rw[bW e,bW e,if_neg (fun z=>hk (e.trans z))]
  ·rw[bX e,bX e,ih]
theorem uz(kvs:List (κ×V))(k j:κ)(y:V):valV (putK kvs k y) j=if j=k then some y else valV kvs j:=by
 unfold putK
 by_cases a:(kvs.any fun kv=>decide (kv.1=k))=true
 ·rw[if_pos a,C0]
  rw[jx]at a
  by_cases e:j=k
  ·obtain⟨x,hx⟩:=Pf.mp a
   rw[if_pos e,e,hx,OA,if_pos rfl]
  ·rw[if_neg e]
   cases valV kvs j with
   |none=>rfl
   |some x=>rw[OA,if_neg e]
 ·rw[if_neg a]
  refine xq k j y kvs ?_
  rw[jx]at a
  cases q:valV kvs k with
  |none=>rfl
  |some x=>rw[q]at a;exact(a rfl).elim
theorem dy(kvs:List (κ×V))(k:κ)(v:V):(putK kvs k v).length<=kvs.length+1:=by
 unfold putK
 split
 ·rw[LW];omega
 ·rw[LX,MJ,NX];omega
theorem uY{kvs:List (κ×V)}{k:κ}(v:V)(h:valV kvs k=none):putK kvs k v=kvs++[(k,v)]:=by
 unfold putK
 rw[jx,h]
 exact if_neg (by decide)
theorem RelO.isSome_eq{o:Option V}{u:Option Value}(r:RelO o u):o.isSome=u.isSome:=by
 cases o with
 |none=>cases u with
  |none=>rfl
  |some _=>exact(show False from r).elim
 |some _=>cases u with
  |none=>exact(show False from r).elim
  |some _=>rfl
theorem KV.val{kvs:List (κ×V)}{vs:List (κ×Value)}(r:KV kvs vs)(k:κ):RelO (valV kvs k) (valueAt vs k):=by
 unfold KV at r
 induction r with
 |nil=>exact True.intro
 | @cons p q ps qs h t ih =>
  obtain⟨h1,h2⟩:=h
  by_cases e:p.1=k
  ·have e':q.1=k:=h1.symm.trans e
   have b:valueAt (q::qs) k=some q.2:=by simp[valueAt,NZ,e']
   rw[bW e,b];exact h2
  ·have e':¬ q.1=k:=fun z=>e (h1.trans z)
   have b:valueAt (q::qs) k=valueAt qs k:=by simp[valueAt,NZ,e']
   rw[bX e,b];exact ih
theorem KV.any{kvs:List (κ×V)}{vs:List (κ×Value)}(r:KV kvs vs)(k:κ):(kvs.any fun kv=>decide (kv.1=k))=vs.any fun kv=>decide (kv.1=k):=by
 unfold KV at r
 induction r with
 |nil=>rfl
 |cons h t ih=>rw[Oz,Oz,ih,h.1]
theorem KV.repl{kvs:List (κ×V)}{vs:List (κ×Value)}(r:KV kvs vs)(k:κ){y:V}{u:Value}(ry:RelV y u) :
  KV (kvs.map fun kv=>if kv.1=k then(kv.1,y) else kv) (vs.map fun kv=>if kv.1=k then(kv.1,u) else kv):=by
 unfold KV at r ⊢
 induction r with
 |nil=>exact .nil
 | @cons p q ps qs h t ih =>
  rw[MQ,MQ]
  refine .cons ?_ ih
  obtain⟨h1,h2⟩:=h
  by_cases e:p.1=k
  ·rw[if_pos e,if_pos (h1.symm.trans e)];exact⟨h1,ry⟩
  ·rw[if_neg e,if_neg (fun z=>e (h1.trans z))];exact⟨h1,h2⟩
theorem KV.put{kvs:List (κ×V)}{vs:List (κ×Value)}(r:KV kvs vs)(k:κ){y:V}{u:Value}(ry:RelV y u):KV (putK kvs k y) (stored vs k u):=by
 unfold putK stored
 rw[r.any k]
 by_cases e:(vs.any fun kv=>decide (kv.1=k))=true
 ·rw[if_pos e,if_pos e];exact r.repl k ry
 ·rw[if_neg e,if_neg e];exact Paired.snoc r ⟨rfl,ry⟩
theorem KV.length{kvs:List (κ×V)}{vs:List (κ×Value)}(r:KV kvs vs):kvs.length=vs.length:=Paired.length r
end
theorem Er{P:Program}{w:World}{k:Key}{u:Value}(r:RelV (kV k) u):(bM P w).is k u=true:=by
 cases k with
 |inl i=>obtain⟨t,e⟩:=(show ∃ t,u=Value.int i t from r);subst e;exact Bv P w i t
 |inr x=>obtain⟨t,e⟩:=(show ∃ t,u=Value.str x t from r);subst e;exact Bu P w x t
theorem yX{P:Program}{w:World}:∀{ks:List Key}{us:List Value},Vals (ks.map kV) us->ItemsAre (bM P w) ks us
 |[],_,r=>by rw[OD]at r;cases r;exact .nil
 |k::ks,_,r=>by
  rw[MQ]at r
  cases r with
  |cons h t=>exact .cons (Er h) (yX t)
abbrev KT(H:Hp):List (List Key×V)->List (List Key×Addr×Value)->Prop:=Paired fun p q=>p.1=q.1/\H q.2.1=some (.tup (p.1.map kV))/\RelV p.2 q.2.2
theorem KT.val{H:Hp}{kvs:List (List Key×V)}{xs:List (List Key×Addr×Value)}(r:KT H kvs xs)(k:List Key):RelO (valV kvs k) ((atKey xs k).map (·.2)):=by
 induction r with
 |nil=>exact True.intro
 | @cons p q ps qs h t ih =>
  obtain⟨h1,_,h2⟩:=h
  by_cases e:p.1=k
  ·have e':q.1=k:=h1.symm.trans e
   have b:atKey (q::qs) k=some q.2:=by simp[atKey,NZ,e']
   rw[bW e,b];exact h2
  ·have e':¬ q.1=k:=fun z=>e (h1.trans z)
   have b:atKey (q::qs) k=atKey qs k:=by simp[atKey,NZ,e']
   rw[bX e,b];exact ih
theorem KT.repl{H:Hp}{kvs:List (List Key×V)}{xs:List (List Key×Addr×Value)}(r:KT H kvs xs)(k:List Key){y:V}{u:Value}(ry:RelV y u) :
  KT H (kvs.map fun kv=>if kv.1=k then(kv.1,y) else kv) (xs.map (putAt k u)):=by
 induction r with
 |nil=>exact .nil
 | @cons p q ps qs h t ih =>
  rw[MQ,MQ]
  refine .cons ?_ ih
  obtain⟨h1,h2,h3⟩:=h
  unfold putAt
  by_cases e:p.1=k
  ·rw[if_pos e,if_pos (h1.symm.trans e)];exact⟨h1,h2,ry⟩
  ·rw[if_neg e,if_neg (fun z=>e (h1.trans z))];exact⟨h1,h2,h3⟩
theorem KT.put{H:Hp}{kvs:List (List Key×V)}{xs:List (List Key×Addr×Value)}(r:KT H kvs xs)(k:List Key){b:Addr}{y:V}{u:Value}(hb:H b=some (.tup (k.map kV)))(ry:RelV y u) :
  KT H (putK kvs k y) (storedH xs k b u):=by
 have e:(kvs.any fun kv=>decide (kv.1=k))=(atKey xs k).isSome:=by
  rw[jx,(r.val k).isSome_eq,Option.isSome_map]
 unfold putK storedH
 rw[e]
 by_cases q:(atKey xs k).isSome=true
 ·rw[if_pos q,if_pos q];exact r.repl k ry
 ·rw[if_neg q,if_neg q];exact Paired.snoc r ⟨rfl,hb,ry⟩
theorem KT.keeps{H H':Hp}{kvs:List (List Key×V)}{xs:List (List Key×Addr×Value)}(r:KT H kvs xs)(ht:∀ b ys,H b=some (.tup ys)->H' b=some (.tup ys)):KT H' kvs xs :=
 Paired.mapP r fun _ _ z=>⟨z.1,ht _ _ z.2.1,z.2.2⟩
section
variable{P:Program}{w:World}{H:Hp}{h:Heap}{a:Addr}
theorem rd_of{u:HO}(ok:HOk P w H h)(e:Rd H a u):bJ P w H h a u:=e.ok ok
theorem Eu{kvs:List (Key×V)}(ok:HOk P w H h)(e:Rd H a (.dK kvs)):kvs.length<=sizeLine/\(a == sysModules)=false/\∃ vs,KV kvs vs/\h.DictOf (bM P w) a vs :=
 show bJ P w H h a (.dK kvs) from rd_of ok e
theorem LA{kvs:List (Key×V)}(ok:HOk P w H h)(e:H a=some (.dK kvs)):kvs.length<=sizeLine/\(a == sysModules)=false/\∃ vs,KV kvs vs/\h.DictOf (bM P w) a vs:=Eu ok (.inl e)
theorem Di{ks:List Key}(ok:HOk P w H h)(e:H a=some (.tup (ks.map kV))):(tupleKind (bM P w)).is h ks a:=by
 obtain⟨_,its,r,o,h1,h2,n,h3⟩:=(show bJ P w H h a (.tup (ks.map kV)) from ok a _ e)
 exact⟨o,its.toArray,n,h1,h2,h3,by simpa using yX r⟩
theorem GZ{kvs:List (List Key×V)}(ok:HOk P w H h)(e:Rd H a (.dT kvs)):kvs.length<=sizeLine/\(a == sysModules)=false /\
  ∃ xs,KT H kvs xs/\h.DictOfH (tupleKind (bM P w)) a xs:=by
 obtain⟨z,y,xs,r,o,es,ep,h1,h2,h3,h4,h5⟩:=(show bJ P w H h a (.dT kvs) from rd_of ok e)
 refine⟨z,y,xs,r,o,es,ep,h1,h2,h3,h4,fun x hx=>?_,h5⟩
 have all:∀{l:List (List Key×V)}{m:List (List Key×Addr×Value)},KT H l m->∀ x∈m,(tupleKind (bM P w)).is h x.1 x.2.1:=by
  intro l m q
  induction q with
  |nil=>intro x hx;exact nomatch hx
  | @cons p q ps qs hq t ih =>
   intro x hx
   rcases LZ.mp hx with e | hx
   ·subst e
    exact Di ok (by rw[← hq.1];exact hq.2.1)
   ·exact ih x hx
 exact all r x hx
theorem dt_of{kvs:List (List Key×V)}(ok:HOk P w H h)(e:H a=some (.dT kvs)):kvs.length<=sizeLine/\(a == sysModules)=false /\
  ∃ xs,KT H kvs xs/\h.DictOfH (tupleKind (bM P w)) a xs:=GZ ok (.inl e)
end
def DGet(H:Hp)(a:Addr)(y:V)(r:Option V):Prop :=
 (∃ kvs k,Rd H a (.dK kvs)/\y=kV k/\r=valV kvs k)∨∃ kvs k b,Rd H a (.dT kvs)/\y=.ref b/\H b=some (.tup (k.map kV))/\r=valV kvs k
def DPut(H:Hp)(a:Addr)(y v:V)(H':Hp):Prop :=
 (∃ kvs k,H a=some (.dK kvs)/\y=kV k/\kvs.length<sizeLine/\H'=upd H a (.dK (putK kvs k v))) ∨
 ∃ kvs k b,H a=some (.dT kvs)/\y=.ref b/\H b=some (.tup (k.map kV))/\kvs.length<sizeLine/\H'=upd H a (.dT (putK kvs k v))
theorem DGet.k{H:Hp}{a:Addr}{kvs:List (Key×V)}{k:Key}(e:H a=some (.dK kvs)):DGet H a (kV k) (valV kvs k):=.inl ⟨kvs,k,.inl e,rfl,rfl⟩
theorem DPut.k{H:Hp}{a:Addr}{kvs:List (Key×V)}{k:Key}{v:V}(e:H a=some (.dK kvs))(hl:kvs.length<sizeLine):DPut H a (kV k) v (upd H a (.dK (putK kvs k v))):=.inl ⟨kvs,k,e,rfl,hl,rfl⟩
section
variable{X:Cx}{pins:List (Addr×Obj)}{σ:St}{H:Hp}{s:Shared}{a:Addr}{y v:V}{u r:Value}{o:Option V}{A:Around}{E:Value->Shared->Prop}
theorem Inv.big(I:Inv X pins σ H s):sysModules<s.heap.objs.size:=by
 have h:mainGlobals<s.heap.objs.size:=(I.mod.glob.keeps I.bk).lt
 exact Nat.lt_trans (by decide) h
theorem G6{Q:Value->Shared->Prop}(hu:A.units+1<cLine)(I:Inv X pins σ H s)(g:DGet H a y (some v))(ry:RelV y u)(h:∀ w' s',Inv X pins σ H s'->RelV v w'->Q w' s') :
  wpAny (model X.prog X.w) A (getItem (.ref a) u) Q E s:=by
 rcases g with⟨kvs,k,e,ey,l⟩ | ⟨kvs,k,b,e,ey,eb,l⟩
 ·subst ey
  obtain⟨z,hd,vs,rel,dd⟩:=Eu I.hok e
  obtain⟨w',hw,rw'⟩:=RelO.some_of (v:=v) (o:=valueAt vs k) (by rw[l];exact rel.val k)
  exact wpAny_getItem_of (Er ry) dd.mapOf hw (h w' _ (I.tok _) rw')
 ·subst ey
  cases (show u=Value.ref b from ry)
  obtain⟨z,hd,xs,rel,dd⟩:=GZ I.hok e
  obtain⟨w',hw,rw'⟩:=RelO.some_of (v:=v) (o:=(atKey xs k).map (·.2)) (by rw[l];exact rel.val k)
  obtain⟨p,hp,hp2⟩:=Ms.mp hw
  refine wpAny_getItem_heap (tupleKind_room_in1 hu) (Di I.hok eb) dd hp ?_
  rw[hp2]
  exact h w' _ (I.tok _) rw'
theorem LF{Q:Value->Shared->Prop}(hu:A.units+1<cLine)(I:Inv X pins σ H s)(g:DGet H a y o)(ry:RelV y u)(h:∀ s',Inv X pins σ H s'->Q (.bool (!o.isSome)) s') :
  wpAny (model X.prog X.w) A (compareOp .NotIn u (.ref a)) Q E s:=by
 rcases g with⟨kvs,k,e,ey,l⟩ | ⟨kvs,k,b,e,ey,eb,l⟩
 ·subst ey
  obtain⟨z,hd,vs,rel,dd⟩:=Eu I.hok e
  refine wpAny_notIn_of (Er ry) hd dd.mapOf ?_
  rw[← (rel.val k).isSome_eq,← l]
  exact h _ (I.tok _)
 ·subst ey
  cases (show u=Value.ref b from ry)
  obtain⟨z,hd,xs,rel,dd⟩:=GZ I.hok e
  refine wpAny_notIn_heap (tupleKind_room_in1 hu) (Di I.hok eb) hd dd ?_
  have q:=(rel.val k).isSome_eq
  rw[Option.isSome_map]at q
  rw[← q,← l]
  exact h _ (I.tok _)
theorem wz{h':Heap}{t':Nat}{ob:HO}(I:Inv X pins σ H s)(mu:Mut (H a))(hs:Heap.SameBut a s.heap h')(he:∃ q,h'.get? a=some q)(new:bJ X.prog X.w (upd H a ob) h' a ob) :
  Inv X pins σ (upd H a ob) { s with heap:=h',toks:=t' } :=
 I.write (x:=a) (e:=a) mu (.inl rfl) (fun b q hb z=>(hs.2 b hb).trans z) he new
theorem G0{P:Program}{w:World}{H':Hp}{h':Heap}{kvs:List (Key×V)}{vs:List (Key×Value)}(z:kvs.length<=sizeLine)(hd:(a == sysModules)=false)(rel:KV kvs vs)(dd:h'.DictOf (bM P w) a vs) :
  bJ P w H' h' a (.dK kvs):=⟨z,hd,vs,rel,dd⟩
theorem G5{H':Hp}{Q:Unit->Shared->Prop}(hu:A.units+1<cLine)(I:Inv X pins σ H s)(g:DPut H a y v H')(ry:RelV y u)(rv:RelV v r)(h:∀ s',Inv X pins σ H' s'->Q () s') :
  wpAny (model X.prog X.w) A (setItem (.ref a) u r) Q E s:=by
 rcases g with⟨kvs,k,e,ey,l,eH⟩ | ⟨kvs,k,b,e,ey,eb,l,eH⟩
 ·subst ey eH
  obtain⟨z,hd,vs,rel,dd⟩:=LA I.hok e
  have hz:vs.length<=sizeLine:=by rw[← rel.length];exact z
  have hl:(putK kvs k v).length<=sizeLine:=by have:=dy kvs k v;omega
  refine wpAny_setItem_pairs (hsz:=hz) (Er ry) dd fun h' dd' hs=>h _ ?_
  have he:∃ q,h'.get? a=some q:=let ⟨q,_,_,hq,_⟩:=dd';⟨q,hq⟩
  exact wz I (by rw[e];exact True.intro) hs he (G0 hl hd (rel.put k rv) dd')
 ·subst ey eH
  cases (show u=Value.ref b from ry)
  obtain⟨z,hd,xs,rel,dd⟩:=dt_of I.hok e
  have hz:xs.length<=sizeLine:=by rw[← Paired.length rel];exact z
  have hl:(putK kvs k v).length<=sizeLine:=by have:=dy kvs k v;omega
  refine wpAny_setItem_heap (hsz:=hz) (tupleKind_room_in1 hu) (Di I.hok eb) dd fun h' dd' hs=>h _ ?_
  obtain⟨q,es,ep,hq,h2,h3,h4,_,h5⟩:=dd'
  refine wz I (by rw[e];exact True.intro) hs ⟨q,hq⟩ ⟨hl,hd,_,(rel.put k eb rv).keeps fun c ys ec=>?_,q,es,ep,hq,h2,h3,h4,h5⟩
  rw[aq (D4 ec e (fun z=>nomatch z))]
  exact ec
end
section
variable{X:Cx}{pins:List (Addr×Obj)}{σ:St}{H:Hp}{s:Shared}{a:Addr}{kvs:List (Key×V)}{k:Key}{u:Value}{A:Around}{E:Value->Shared->Prop}
end
def NoSl(i:Expr):Prop:=∀ ov iv,subscripted i false ov iv=operate [ov,iv] (getItem ov iv)
theorem Kg{prog:Program}{w:World}{A:Around}{E:Value->Shared->Prop}{s:Shared}{env:Env}{value slice:Expr}{pos:Pos}{T id:String}{Q:Value->Shared->Prop}
  (hl:typeLookup (.type T) "__getitem__" = pure (some (.builtin id))) (hs:NoSl slice)
  (h:wpAny (model prog w) A (eval value env) (fun o s₁=>wpAny (model prog w) A (eval slice env) (fun i s₂=>s₂.TypeIs o T/\wpAny (model prog w) A (getItem o i) Q E s₂) E s₁) E s) :
  wpAny (model prog w) A (eval (.Subscript value slice pos) env) Q E s:=by
 refine Subscript_ (wpAny_mono h (fun o s₁ h₁=>wpAny_mono h₁ (fun i s₂ h₂=>?_) fun _ _ x=>x) fun _ _ x=>x)
 obtain⟨hT,h₂⟩:=h₂
 unfold subscriptTail
 refine wpAny_bind ?_
 rw[getitemInPython_of_ne hT.not_modules]
 refine wpAny_bind (wpAny_specialOf hT hl ?_)
 have fin:wpAny (model prog w) A (subscripted slice false o i) (fun r s₃=>wpAny (model prog w) A (letTemporaryGo value o r >>= fun _=>pure r) Q E s₃) E s₂:=by
  rw[hs o i]
  exact wpAny_operating (wpAny_mono h₂ (fun r s₃ h₃=>wpAny_bind (wpAny_letTemporaryGo (wpAny_pure h₃))) fun _ _ x=>x)
 first
  |exact wpAny_pure (wpAny_bind fin)
  |exact wpAny_bind (wpAny_pure (wpAny_bind fin))
  |exact wpAny_bind fin
theorem BZ{X:Cx}{pins:List (Addr×Obj)}{σ:St}{H:Hp}{s:Shared}{a:Addr}{y:V}{o:Option V}(I:Inv X pins σ H s)(g:DGet H a y o):s.TypeIs (.ref a) "dict":=by
 rcases g with⟨kvs,k,e,_,_⟩ | ⟨kvs,k,b,e,_,_,_⟩
 ·obtain⟨_,_,vs,_,dd⟩:=Eu I.hok e
  exact dd.typeIs
 ·obtain⟨_,_,xs,_,dd⟩:=GZ I.hok e
  exact dd.typeIs
def tDGet(td ty:TE):TE:=fun σ H Q=>td σ H fun x H1=>ty σ H1 fun y H2=>∃ a v,x=.ref a/\DGet H2 a y (some v)/\Q v H2
def Kd(ty td:TE):TE:=fun σ H Q=>ty σ H fun y H1=>td σ H1 fun x H2=>∃ a o,x=.ref a/\DGet H2 a y o/\Q (.bl (!o.isSome)) H2
def sDPut(td ty tv:TE):TS:=fun D σ H=>tv σ H fun v H1=>td σ H1 fun x H2=>ty σ H2 fun y H3=>∃ a H4,x=.ref a/\DPut H3 a y v H4/\D.nx σ H4
section
variable{X:Cx}{o i e value:Expr}{pos pos' tpos:Pos}{td ty tv:TE}
theorem qi(hu:X.A.units+1<cLine)(ho:PE X o td)(hi:PE X i ty)(hs:NoSl i):PE X (.Subscript o i pos) (tDGet td ty):=by
 intro pins s σ H Q I h
 refine Kg PySem.F.slot_dict_getitem.lookup hs (thn (ho pins s σ H _ I h) fun u s1 ⟨x,H1,I1,rx,q1⟩=>thn (hi pins s1 σ H1 _ I1 q1) fun iv s2 ⟨y,H2,I2,ry,a,v,ex,g,q2⟩=>?_)
 subst ex
 obtain rfl:u=Value.ref a:=rx
 exact⟨BZ I2 g,G6 hu I2 g ry fun w' s3 I3 rw'=>⟨v,H2,I3,rw',q2⟩⟩
theorem FL(hu:X.A.units+1<cLine)(hi:PE X i ty)(ho:PE X o td):PC X .NotIn i o (Kd ty td):=by
 intro pins s σ H Q I h
 refine thn (hi pins s σ H _ I h) fun iv s1 ⟨y,H1,I1,ry,q1⟩=>thn (ho pins s1 σ H1 _ I1 q1) fun u s2 ⟨x,H2,I2,rx,a,ov,ex,g,q2⟩=>?_
 subst ex
 obtain rfl:u=Value.ref a:=rx
 exact LF hu I2 g ry fun s3 I3=>⟨.bl (!ov.isSome),H2,I3,rfl,q2⟩
theorem AI(hu:X.A.units+1<cLine)(ho:PE X o td)(hi:PE X i ty)(hv:PE X value tv)(hs:swapsWith value (some (.Subscript o i pos')) pos.line X.env=pure false) :
  PS X (.Assign [.Subscript o i pos'] value pos) (sDPut td ty tv):=by
 intro pins s σ H D I h
 refine wpAny_Assign_Subscript (thn (hv pins s σ H _ I h) fun r s1 ⟨v,H1,I1,rv,q1⟩=>thn (ho pins s1 σ H1 _ I1 q1) fun u s2 ⟨x,H2,I2,rx,q2⟩=>thn (hi pins s2 σ H2 _ I2 q2) fun iv s3 ⟨y,H3,I3,ry,a,H4,ex,g,q3⟩=>?_) hs
 subst ex
 obtain rfl:u=Value.ref a:=rx
 exact G5 hu I3 g ry rv fun s4 I4=>⟨σ,H4,I4,q3⟩
end
theorem Dv{P:Program}{w:World}{H:Hp}(h:Heap)(hb:sysModules<h.objs.size):bJ P w H (h.push { cls:=.type "dict",data:=.dict #[] }) h.objs.size (.dK []) :=
 ⟨Na _,beq_eq_false_iff_ne.mpr (Ne.symm (ME hb)),[],.nil,Heap.DictOf.new h⟩
def tDNewK:TE:=fun _ H Q=>∀ p,H p=none->Q (.ref p) (upd H p (.dK []))
section
variable{X:Cx}{pos:Pos}
theorem pP:PE X (.Dict [] [] pos) tDNewK:=fun pins s σ H Q I h =>
 wpAny_Dict_empty ⟨.ref s.heap.objs.size,_,I.laid (a:=s.heap.objs.size) (o:=.dK []) (t':=s.toks) (fun _ _ q=>Heap.get?_push_of_some _ q) (Ma _) (Dv s.heap I.big),rfl,h _ (I.hok.fresh (Ma _))⟩
end
def E5:List (TE×TE)->St->Hp->(List (V×V)->Hp->Prop)->Prop
 |[],_,H,Q=>Q [] H
 | (tk,tv)::r,σ,H,Q=>tk σ H fun x H1=>tv σ H1 fun y H2=>E5 r σ H2 fun ps H3=>Q ((x,y)::ps) H3
abbrev VV:List (V×V)->List (Value×Value)->Prop:=Paired fun p q=>RelV p.1 q.1/\RelV p.2 q.2
def PPs(X:Cx)(pos:Pos)(keys:List (Option Expr))(values:List Expr)(trs:List (TE×TE)):Prop :=
 ∀(pins:List (Addr×Obj))(s:Shared)(σ:St)(H:Hp)(Q:List (V×V)->Hp->Prop),Inv X pins σ H s->E5 trs σ H Q ->
  wpAny (model X.prog X.w) X.A (evalPairs (pairTrees keys values X.env pos)) (fun vs s'=>∃ ps H',Inv X pins σ H' s'/\VV ps vs/\Q ps H') X.xe s
theorem KG{X:Cx}{pos:Pos}:PPs X pos [] [] []:=fun pins s σ H Q I h=>pairTrees_nil_walk ⟨[],H,I,.nil,h⟩
theorem Iw{X:Cx}{pos:Pos}{k v:Expr}{ks:List (Option Expr)}{vs:List Expr}{tk tv:TE}{trs:List (TE×TE)}(hk:PE X k tk)(hv:PE X v tv)(hr:PPs X pos ks vs trs) :
  PPs X pos (some k::ks) (v::vs) ((tk,tv)::trs):=fun pins s σ H Q I h =>
 pairTrees_cons_walk (thn (hk pins s σ H _ I h) fun u s1 ⟨x,H1,I1,rx,q1⟩=>thn (hv pins s1 σ H1 _ I1 q1) fun w2 s2 ⟨y,H2,I2,ry,q2⟩ =>
  thn (hr pins s2 σ H2 _ I2 q2) fun ws s3 ⟨ps,H3,I3,rel,q3⟩=>⟨(x,y)::ps,H3,I3,.cons ⟨rx,ry⟩ rel,q3⟩)
def tW(kvs more:List (Key×V)):List (Key×V):=more.foldl (fun acc kv=>putK acc kv.1 kv.2) kvs
theorem KV.merge:∀{more:List (Key×V)}{rs:List (Key×Value)}{kvs:List (Key×V)}{vs:List (Key×Value)},KV more rs->KV kvs vs->KV (tW kvs more) (merged vs rs):=by
 intro more rs kvs vs r
 unfold KV at r
 induction r generalizing kvs vs with
 |nil=>intro q;exact q
 | @cons p q ps qs h t ih =>
  intro r0
  have e:KV (putK kvs p.1 p.2) (stored vs q.1 q.2):=by
   have:=r0.put p.1 h.2
   rw[← h.1];exact this
  exact ih e
theorem lW:∀(more kvs:List (Key×V)),(tW kvs more).length<=kvs.length+more.length
 |[],kvs=>by show kvs.length<=kvs.length+0;omega
 |p::r,kvs=>by
  have h1:=lW r (putK kvs p.1 p.2)
  have h2:=dy kvs p.1 p.2
  show(tW (putK kvs p.1 p.2) r).length<=_
  rw[MJ];omega
theorem uf{P:Program}{w:World}:∀{kvs:List (Key×V)}{ws:List (Value×Value)},VV (kvs.map fun kv=>(kV kv.1,kv.2)) ws->∃ rs,Carries (bM P w) ws rs/\KV kvs rs
 |[],_,r=>by rw[OD]at r;cases r;exact⟨[],True.intro,.nil⟩
 |p::kvs,_,r=>by
  rw[MQ]at r
  cases r with
  | @cons a b as bs h t =>
   obtain⟨rs,c,q⟩:=uf (P:=P) (w:=w) t
   obtain⟨b1,b2⟩:=b
   exact⟨(p.1,b2)::rs,⟨Er h.1,rfl,c⟩,.cons ⟨rfl,h.2⟩ q⟩
def tDisp(trs:List (TE×TE)):TE:=fun σ H Q=>∀ p,H p=none->E5 trs σ (upd H p (.dK [])) fun ps H2=>H2 p=some (.dK [])/\∃ kvs:List (Key×V),ps=kvs.map (fun kv=>(kV kv.1,kv.2))/\kvs.length<=15/\Q (.ref p) (upd H2 p (.dK (tW [] kvs)))
theorem KP{X:Cx}{pos:Pos}{keys:List (Option Expr)}{values:List Expr}{trs:List (TE×TE)}(h:PPs X pos keys values trs)(hall:keys.all (·.isSome)=true)(hl:keys.length=values.length)(h0:keys≠[])
  (h15:keys.length<=15):PE X (.Dict keys values pos) (tDisp trs):=by
 intro pins s σ H Q I q
 have hn:=I.hok.fresh (Ma s.heap.objs.size)
 have I1:=I.laid (a:=s.heap.objs.size) (o:=.dK []) (h':=s.heap.push { cls:=.type "dict",data:=.dict #[] }) (t':=s.toks) (fun _ _ q=>Heap.get?_push_of_some _ q) (Ma _) (Dv s.heap I.big)
 refine wpAny_Dict_walk (knd:=bM X.prog X.w) hall hl h0 h15 (thn (h pins _ σ _ _ I1 (q _ hn)) fun ws s2 ⟨ps,H2,I2,rel,e,kvs,ep,lk,q2⟩=>?_)
 subst ep
 obtain⟨rs,c,rk⟩:=uf (P:=X.prog) (w:=X.w) rel
 obtain⟨z,hd,vs0,r0,dd⟩:=LA I2.hok e
 cases r0
 refine⟨rs,c,dd,fun h' dd' hs=>⟨.ref s.heap.objs.size,_,?_,rfl,q2⟩⟩
 have hz:(tW [] kvs).length<=sizeLine:=by
  have h1:=lW kvs []
  rw[NX]at h1
  rw[sizeLine_eq];omega
 have he:∃ q,h'.get? s.heap.objs.size=some q:=let ⟨q,_,_,hq,_⟩:=dd';⟨q,hq⟩
 exact wz I2 (by rw[e];exact True.intro) hs he (G0 hz hd (rk.merge .nil) dd')
structure M2(X:Cx)(o:Expr)(m:Str)(apos:Pos)(e f:Expr)(cpos:Pos):Prop where
 base:attributeBase o m X.env (eval o X.env)=eval o X.env
 few:((backTo cpos (starEach [e,f] X.env)).all (fun x=>!x.1)&&(backToKw cpos (keywordEach [] X.env)).all (fun x=>x.1.isSome)
  && decide (([e,f]:List Expr).length+([]:List Keyword).length+(if([]:List Keyword).isEmpty then 0 else 1)<30))=true
 line:(apos.endLine == cpos.line)=true
 trees:backTo cpos (starEach [e,f] X.env) = [(false,eval e X.env),(false,eval f X.env)]
def IsD(H:Hp)(a:Addr):Prop:=(∃ kvs,Rd H a (.dK kvs))∨∃ kvs,Rd H a (.dT kvs)
theorem isD_at{X:Cx}{pins:List (Addr×Obj)}{σ:St}{H:Hp}{s:Shared}{a:Addr}(I:Inv X pins σ H s)(d:IsD H a) :
  s.TypeIs (.ref a) "dict"/\(∀ b,Value.ref a=.ref b->∃ ob,s.heap.get? b=some ob/\ob.dict=none)/\(a == sysModules)=false:=by
 rcases d with⟨kvs,e⟩ | ⟨kvs,e⟩
 ·obtain⟨_,hd,vs,_,dd⟩:=Eu I.hok e
  refine⟨dd.typeIs,fun b q=>?_,hd⟩
  cases q
  obtain⟨ob,_,_,h1,h2,_⟩:=dd
  exact⟨ob,h1,h2.2.1⟩
 ·obtain⟨_,hd,xs,_,dd⟩:=GZ I.hok e
  refine⟨dd.typeIs,fun b q=>?_,hd⟩
  cases q
  obtain⟨ob,_,_,h1,h2,_⟩:=dd
  exact⟨ob,h1,h2.2.1⟩
section
variable{X:Cx}{pins:List (Addr×Obj)}{σ:St}{H:Hp}{s:Shared}{a:Addr}{y d:V}{u r:Value}{o:Option V}{A:Around}{E:Value->Shared->Prop}
end
section
variable{X:Cx}{o e f:Expr}{apos cpos:Pos}{td ty tx:TE}
end
section
variable{X:Cx}{pins:List (Addr×Obj)}{σ:St}{H:Hp}{s:Shared}{a:Addr}{kvs:List (Key×V)}{A:Around}{E:Value->Shared->Prop}
end
section
variable{X:Cx}{pins:List (Addr×Obj)}{σ:St}{H:Hp}{s:Shared}{a:Addr}{y:V}{u:Value}{A:Around}{E:Value->Shared->Prop}
end
end L2
namespace Att
open PySem PySem.W PySem.Calls PyProof.Rows
section
variable{prog:Program}{w:World}{A:Around}{E:Value->Shared->Prop}{s:Shared}{K:Frag}
end
end Att
namespace L2
open PySem PySem.Spec PyProof.Rows
end L2
namespace L2
open PySem PySem.Spec PyProof.Rows
end L2
namespace L2
open PySem PySem.Spec PyProof.Rows
section
variable{P:Program}{w:World}{K:LU}{mg:Str->Option Value}{base:Heap}
end
section
variable{X:Cx}
end
section
variable{κ:Type} [DecidableEq κ]
theorem HZ{kvs:List (κ×V)}{k:κ}(h:valV kvs k=none):¬ k∈kvs.map (·.1):=by
 intro m
 obtain⟨p,hp,e⟩:=Mj.mp m
 have q:(kvs.any fun kv=>decide (kv.1=k))=true:=NB.mpr ⟨p,hp,decide_eq_true e⟩
 rw[jx,h]at q
 exact absurd q (by simp)
end
end L2
namespace L2
open PySem PySem.Spec PyProof.Rows
def clOf(env:Env)(fr:List (Str×Nat)):List (Str×Addr):=fr.map fun p=>(p.1,(env.cells.lookup p.1).getD 0)
def frOf(fr:List (Str×Nat))(σ:St):St:=fr.map fun p=>(σ[p.2]?).join
def dY(X:Cx)(scope:Scope)(fr:List (Str×Nat))(x:Str)(C:Addr)(ex:List Addr)(s:Shared)(H:Hp):Cx where
 prog:=X.prog
 w:=X.w
 K:=X.K
 mg:=X.mg
 base:=X.base
 A:=X.A
 N:=x::fr.map (·.1)
 s₀:=s
 H₀:=H
 env:=compEnvC scope (clOf X.env fr) C X.env
 outer:=X.stack
 stack:=X.stack
 ex:=ex
 fn:=fun _=>false
 calm:=X.calm
 pn:=[]
 xe:=fun _ _=>False
structure bK(X:Cx)(scope:Scope)(fr:List (Str×Nat))(x:Str):Prop where
 clos:closureFor scope X.env=pure (clOf X.env fr)
 cell:∀ y∈scope.names,y.2≠.cell
 kind:scope.kind=.function
 names:∀ y∈scope.names,y.2=.local->scope.names.lookup y.1=some .local
 xl:scope.names.lookup x=some .local
 nd:(x::fr.map (·.1)).Nodup
 slot:∀ p∈fr,X.N[p.2]?=some p.1/\X.env.kindOf p.1=some .cell
 has:∀ y∈(relabel scope X.env).names,(y.2=.cell∨y.2=.free)->y.1∈fr.map (·.1)
 frk:∀ p∈fr,(relabel scope X.env).names.lookup p.1=some .cell
theorem bK.plain{X:Cx}{scope:Scope}{x:Str}(clos:closureFor scope X.env=pure [])(cell:∀ y∈scope.names,y.2≠.cell)(kind:scope.kind=.function)(names:∀ y∈scope.names,y.2=.local->scope.names.lookup y.1=some .local)
  (hx:scope.names.lookup x=some .local) (nf:∀ y∈scope.names,y.2≠.free):bK X scope [] x where
 clos:=clos
 cell:=cell
 kind:=kind
 names:=names
 xl:=hx
 nd:=by simp
 slot:=fun p hp=>nomatch hp
 has:=fun y hy hk=>by
  obtain⟨⟨n,k⟩,hz,e⟩:=Mj.mp (show y∈scope.names.map _ from hy)
  have h1:=nf _ hz
  have h2:=cell _ hz
  dsimp only at e h1 h2
  have hf:(k == NameKind.free)=false:=by simpa using h1
  rw[hf]at e
  simp only[OI,OV,if_false]at e
  subst e
  exact(hk.elim h2 h1).elim
 frk:=fun p hp=>nomatch hp
theorem bK.one{X:Cx}{scope:Scope}{x y:Str}{j:Nat}(clos:closureFor scope X.env=pure (clOf X.env [(y,j)]))(cell:∀ y∈scope.names,y.2≠.cell)(kind:scope.kind=.function)(names:∀ y∈scope.names,y.2=.local->scope.names.lookup y.1=some .local)
  (hx:scope.names.lookup x=some .local) (nd:([x,y]:List Str).Nodup) (hN:X.N[j]?=some y) (hk:X.env.kindOf y=some .cell) (nf:∀ z∈scope.names,z.2=.free->z.1=y) (hr:(relabel scope X.env).names.lookup y=some .cell):bK X scope [(y,j)] x where
 clos:=clos
 cell:=cell
 kind:=kind
 names:=names
 xl:=hx
 nd:=nd
 slot:=fun p hp=>by
  have e:p=(y,j):=by simpa using hp
  subst e
  exact⟨hN,hk⟩
 has:=fun z hz hk=>by
  obtain⟨⟨n,k⟩,hm,e⟩:=Mj.mp (show z∈scope.names.map _ from hz)
  have h2:=cell _ hm
  dsimp only at e h2
  have hn:z.1=n:=by rw[← e];split<;>rfl
  have hf:k=.free:=by
   by_cases q:k=.free
   ·exact q
   ·have hb:(k == NameKind.free)=false:=by simpa using q
    rw[hb]at e
    simp only[OI,OV,if_false]at e
    subst e
    exact(hk.elim h2 q).elim
  have:=nf _ hm hf
  rw[hn]
  simp[← this]
 frk:=fun p hp=>by
  have e:p=(y,j):=by simpa using hp
  subst e
  exact hr
theorem fX{env:Env}:∀{fr:List (Str×Nat)}{y:Str}{c:Addr},(clOf env fr).lookup y=some c->y∈fr.map (·.1)/\c=(env.cells.lookup y).getD 0
 |[],_,_,h=>by cases h
 |p::r,y,c,h=>by
  unfold clOf at h
  rw[MQ,List.lookup_cons]at h
  cases e:y == p.1 with
  |true =>
   rw[e]at h
   have ey:y=p.1:=eq_of_beq e
   cases h
   exact⟨by rw[ey];exact MB,by rw[ey]⟩
  |false =>
   rw[e]at h
   obtain⟨a,b⟩:=fX (env:=env) (fr:=r) h
   exact⟨Ml _ a,b⟩
theorem bR{env:Env}:∀{fr:List (Str×Nat)}{y:Str},y∈fr.map (·.1)->(clOf env fr).lookup y=some ((env.cells.lookup y).getD 0)
 |[],_,h=>by cases h
 |p::r,y,h=>by
  unfold clOf
  rw[MQ,List.lookup_cons]
  cases e:y == p.1 with
  |true =>
   have ey:y=p.1:=eq_of_beq e
   rw[ey]
  |false =>
   have ny:y≠p.1:=fun z=>by rw[z]at e;simp at e
   rcases LZ.mp h with z | z
   ·exact absurd z ny
   ·exact bR (env:=env) (fr:=r) z
section
variable{X:Cx}{pins:List (Addr×Obj)}{σ:St}{H:Hp}{s:Shared}{scope:Scope}{fr:List (Str×Nat)}{x:Str}
theorem bK.cells(O:bK X scope fr x)(I:Inv X pins σ H s){y:Str}{c:Addr}(h:(clOf X.env fr).lookup y=some c):X.env.cells.lookup y=some c:=by
 obtain⟨hm,e⟩:=fX h
 obtain⟨p,hp,ep⟩:=Mj.mp hm
 have k:=(O.slot p hp).2
 rw[ep]at k
 obtain⟨c',e'⟩:=I.ok.has y (.inl k)
 rw[e']at e
 rw[e',e]
 rfl
theorem Ja{fp:List Addr}(O:bK X scope fr x)(I:Inv X pins σ H s)(hf:∀ b∈fp,FpOk X pins H b)(hfs:∀ b∈fp,b<s.heap.objs.size){g h':Heap}{tk:Nat}(hg:g=s.heap.push (LCg.lst []))
  (hk:∀ b o,g.get? b=some o->h'.get? b=some o) (hC:h'.Ns g.objs.size fun _=>none) :
  Inv (dY X scope fr x g.objs.size (s.heap.objs.size::fp) { s with heap:=g } H) (X.pn++pins++[(s.heap.objs.size,LCg.lst [])]) (none::frOf fr σ) H { s with heap:=h',toks:=tk }:=by
 have hsz:g.objs.size=s.heap.objs.size+1:=by rw[hg,Heap.size_push]
 have kp:∀ b o,s.heap.get? b=some o->g.get? b=some o:=fun b o e=>by rw[hg];exact Heap.get?_push_of_some _ e
 have hk0:∀ b o,s.heap.get? b=some o->h'.get? b=some o:=fun b o e=>hk b o (kp b o e)
 have hDo:h'.get? s.heap.objs.size=some (LCg.lst []):=hk _ _ (by rw[hg];exact Heap.get?_push_size _ rfl)
 have neC:∀ b,b<s.heap.objs.size->b≠g.objs.size:=fun b e=>by rw[hsz];exact ME (NO e)
 have hDC:s.heap.objs.size≠g.objs.size:=by rw[hsz];exact ME (NA _)
 have hfr:H g.objs.size=none:=I.hok.fresh (by rw[hsz];exact N3 _)
 have hfD:H s.heap.objs.size=none:=I.hok.fresh (Ma _)
 have cne:∀ y c,X.env.cells.lookup y=some c->c<s.heap.objs.size:=fun y c e=>by
  obtain⟨v,q⟩:=I.cell y c e
  exact q.lt
 have nst:∀ b,b≠X.env.locals->b∉X.fs->b∉frs X.stack:=fun b h1 h2 z=>(LZ.mp (I.stkSub b z)).elim h1 h2
 have nstD:s.heap.objs.size∉frs X.stack:=nst _ (Nu I.lt) (I.nofs (Ma _))
 refine⟨⟨I.ok.mod,O.kind,I.ok.glob,I.ok.blt,Ma _,?_,?_,fun _ _ z _=>(by cases z),I.ok.hd,I.ok.frames,.inl rfl,?_,?_,?_,?_,?_,?_,I.stkFree⟩,rfl,I.bare,Un.kept hk,?_,?_,hfr,?_,?_,I.hok.kept hk0,?_⟩
 ·intro y z c h1 h2
  exact I.ok.inj y z c (O.cells I h1) (O.cells I h2)
 ·intro y hy
  have hm:y∈fr.map (·.1):=by
   rcases hy with hy | hy
   ·exact O.has (y,_) (Nc hy) (.inl rfl)
   ·exact O.has (y,_) (Nc hy) (.inr rfl)
  exact⟨_,bR hm⟩
 ·intro b hb
  rcases LZ.mp hb with rfl | hb
  ·exact⟨hDC,fun y c e=>ME (cne y c (O.cells I e))⟩
  ·exact⟨neC b (hfs b hb),fun y c e=>(hf b hb).2.2.2.2.1 y c (O.cells I e)⟩
 ·intro b o e
  exact⟨kp b o (I.bs b o e).1,(I.bs b o e).2⟩
 ·show X.base.objs.size<=g.objs.size
  rw[hsz]
  exact Nat.le_succ_of_le (MZ I.ok.bsz I.sz)
 ·intro b o e hb
  rcases LZ.mp hb with z | hb
  ·have:=Heap.lt_size (I.bs b o e).1
   rw[z]at this
   exact M7 _ this
  ·rcases(hf b hb).2.2.2.1 with z | z
   ·exact I.ok.noex b o e z
   ·exact absurd (MF (Heap.lt_size (I.ok.bs b o e).1) z) (M7 _)
 ·intro b hb
  rcases LZ.mp hb with z | hb
  ·rw[z];exact nstD
  ·exact nst b (hf b hb).2.1 (hf b hb).2.2.1
 ·exact(I.kept (h':=g) (t':=s.toks) kp).stack
 ·refine⟨_,hC,fun i y v e1 e2 e3=>?_⟩
  cases i with
  |zero=>cases e2
  |succ k =>
   have e1':(fr.map (·.1))[k]?=some y:=e1
   have e2':(frOf fr σ)[k]?=some (some v):=e2
   unfold frOf at e2'
   rw[Mb]at e1' e2'
   cases q:fr[k]? with
   |none=>rw[q]at e1';cases e1'
   |some p =>
    rw[q]at e1' e2'
    have ey:p.1=y:=Mq e1'
    have ev:(σ[p.2]?).join=some v:=Mq e2'
    have hp:p∈fr:=LV q
    obtain⟨hN,hK⟩:=O.slot p hp
    have hkk:=O.frk p hp
    rw[ey]at hN hK hkk
    have ev':σ[p.2]?=some (some v):=by
     cases q2:σ[p.2]? with
     |none=>rw[q2]at ev;cases ev
     |some w=>rw[q2]at ev;exact congrArg some ev
    obtain⟨m,hn,hl⟩:=I.loc
    obtain⟨u,r,l⟩:=hl p.2 y v hN ev' (.inr (.inl hK))
    refine⟨u,r,?_⟩
    rcases l with⟨k1,_⟩ | ⟨_,c,ec,z⟩
    ·rw[hK]at k1;cases k1
    ·have hm:y∈fr.map (·.1):=by rw[← ey];exact Mj.mpr ⟨p,hp,rfl⟩
     have el:=bR (env:=X.env) hm
     rw[ec]at el
     exact .inr ⟨.inl hkk,c,el,by obtain⟨o,ho,hd⟩:=z;exact⟨o,hk0 _ _ ho,hd⟩⟩
 ·intro y c e
  obtain⟨v,o,ho,hd⟩:=I.cell y c (O.cells I e)
  exact⟨v,o,hk0 _ _ ho,hd⟩
 ·intro y c e
  exact I.freeC y c (O.cells I e)
 ·intro p hp
  rcases Mc.mp hp with hp | hp
  ·cases hp
  ·rcases Mc.mp hp with hp | hp
   ·obtain⟨e,n,ne,nf,d⟩:=I.pin p hp
    exact⟨hk0 _ _ e,n,neC _ (Heap.lt_size e),nst _ ne nf,d⟩
   ·have ep:p=(s.heap.objs.size,LCg.lst []):=by simpa using hp
    subst ep
    exact⟨hDo,hfD,hDC,nstD,fun v z=>by cases z⟩
 ·show(none::frOf fr σ).length=(x::fr.map (·.1)).length
  unfold frOf
  simp
theorem yZ{fp:List Addr}{g:Heap}{s':Shared}{H':Hp}{σ':St}{ys:List V}{us:List Value}(I:Inv X pins σ H s)(hf:∀ b∈fp,FpOk X pins H b)(hg:g=s.heap.push (LCg.lst []))
  (J:Inv (dY X scope fr x g.objs.size (s.heap.objs.size::fp) { s with heap:=g } H) (X.pn++pins++[(s.heap.objs.size,LCg.lst us)]) σ' H' s') (hv:Vals ys us) (hl:ys.length<=sizeLine) :
  Inv X pins σ (upd H' s.heap.objs.size (.lst ys)) s'/\H' s.heap.objs.size=none/\FpOk X pins (upd H' s.heap.objs.size (.lst ys)) g.objs.size/\∃ m,s'.heap.Ns g.objs.size m:=by
 have hsz:g.objs.size=s.heap.objs.size+1:=by rw[hg,Heap.size_push]
 have kp:∀ b o,s.heap.get? b=some o->g.get? b=some o:=fun b o e=>by rw[hg];exact Heap.get?_push_of_some _ e
 obtain⟨eD,nD,_,_,_⟩:=J.pin (s.heap.objs.size,LCg.lst us) (by simp)
 have hDC:g.objs.size≠s.heap.objs.size:=by rw[hsz];exact Nu (NA _)
 have nD':∀ b u,H' b=some u->b≠s.heap.objs.size:=fun b u e z=>by rw[z]at e;rw[e]at nD;cases nD
 have hx:∀ b o,s.heap.get? b=some o->b∉fp->b∉s.heap.objs.size::fp:=fun b o e hb z=>by
  rcases LZ.mp z with z | z
  ·have:=Heap.lt_size e
   rw[z]at this
   exact M7 _ this
  ·exact hb z
 have bU:Un (frs X.stack) (s.heap.objs.size::fp) H H' g s'.heap:=J.base
 have ltD:∀ b o,s.heap.get? b=some o->b≠s.heap.objs.size:=fun b o e=>ME (Heap.lt_size e)
 have un:Un (frs X.stack) fp H (upd H' s.heap.objs.size (.lst ys)) s.heap s'.heap:=by
  refine⟨fun b o e n hb he=>bU.keep b o (kp b o e) n hb (hx b o e he),fun b o e n hb he=>bU.slot b o (kp b o e) n hb (hx b o e he),fun b o e n he=>?_,fun b o e he=>bU.there b o (kp b o e) (hx b o e he),fun b xs e=>?_,fun b o u e=>?_,fun b ps e=>?_⟩
  ·rw[aq (ltD b o e)];exact bU.free b o (kp b o e) n (hx b o e he)
  ·have q:=bU.tups b xs e
   rw[aq (nD' b _ q)];exact q
  ·have q:=bU.frzs b o u e
   rw[aq (nD' b _ q)];exact q
  ·obtain⟨more,q⟩:=bU.tbls b ps e
   exact⟨more,by rw[aq (nD' b _ q)];exact q⟩
 have hok:HOk X.prog X.w (upd H' s.heap.objs.size (.lst ys)) s'.heap:=fun b u e=>by
  by_cases hb:b=s.heap.objs.size
  ·rw[hb,ae]at e
   cases e
   rw[hb]
   exact⟨hl,us,us.length,hv,eD⟩
  ·rw[aq hb]at e
   exact(J.hok b u e).stay (fun c v _ q=>q) (fun c q=>by rw[aq (nD' c _ q)];exact q) fun c xs q=>by rw[aq (nD' c _ q)];exact q
 have os:s'.os=s.os:=J.os
 refine⟨I.call' os un hok J.bare fun b hb=>⟨(hf b hb).2.2.2.1,(hf b hb).2.1,(hf b hb).2.2.2.2⟩,nD,?_,?_⟩
 ·refine I.fpOk (H':=upd H' s.heap.objs.size (.lst ys)) (b:=g.objs.size) (by rw[hsz];exact N3 _) ?_
  rw[aq hDC]
  exact J.free
 ·obtain⟨m,hn,_⟩:=J.loc
  exact⟨m,hn⟩
end
def tO(te:TE)(fv:St)(J:It)(H1:Hp)(QQ:List V->Hp->Prop):Prop :=
 ∃ W:Nat->Nat->List V->Hp->Prop,(∃ m,W 0 m [] H1)/\∀ i m ys H,W i m ys H->ys.length<=sizeLine /\
  ((J.stop i H/\QQ ys H)∨(J.go i H/\∃ N:V->Hp->Prop,(∀ y H2,N y H2->∃ m',m'<m/\W (i+1) m' (ys++[y]) H2)/\∀ x H',J.yld i H x H'->te (some x::fv) H' N))
section
variable{X:Cx}{scope:Scope}{fr:List (Str×Nat)}{x:Str}{elt iter:Expr}{px pos:Pos}{te:TE}{wi:TI}
theorem zA{pins:List (Addr×Obj)}{σ:St}{H:Hp}{s:Shared}{E:Value->Shared->Prop}{it:Addr}{fp:List Addr}{tn:Nat->Heap->Prop}{J:It}{RR:Value->Addr->Result->Shared->Prop}{QQ:List V->Hp->Prop}(hc:X.calm=true)(O:bK X scope fr x)
  (he:∀ C ex s H,PE (dY X scope fr x C ex s H) elt te) (I:Inv X pins σ H s) (T:Turn X.prog X.w X.K (.Name x px) J fp it tn) (st:tn 0 s.heap) (hf:∀ b∈fp,FpOk X pins H b) (hq:tO te (frOf fr σ) J H QQ)
  (fin:∀ D C H4 ys s4 m,Inv X pins σ (upd H4 D (.lst ys)) s4->H4 D=none->FpOk X pins (upd H4 D (.lst ys)) C->s4.heap.Ns C m->QQ ys H4->RR (.ref D) C (.ok .next) s4) :
  wpAny (model X.prog X.w) X.A (newList []) (fun acc s₃=>wpAny (model X.prog X.w) X.A (newFunctionEnv scope X.env.globals (clOf X.env fr) [] X.env.qual none .none (some X.env)) (fun cenv s₄ =>
   codeAny (model X.prog X.w) X.A (.compStart (.ListComp elt [⟨.Name x px,iter,[],0⟩] scope pos) 0 (.ref it) acc { cenv with scope:=relabel scope X.env }) (RR acc cenv.locals) s₄) E s₃) E s:=by
 obtain⟨W,⟨m0,w0⟩,turn⟩:=hq
 have hfs:∀ b∈fp,b<s.heap.objs.size:=fun b hb=>by
  obtain⟨o,e,_⟩:=T.obj 0 s.heap st b hb
  exact Heap.lt_size e
 refine wpAny_newObj_type (wpAny_newFunctionEnv O.cell (by intro y hy;simp at hy) (fun h₁ hns₁ hsb₁=>?_) O.kind)
 dsimp only at hns₁ hsb₁ ⊢
 generalize hH2:s.heap.push { cls:=.type "list",dict:=none,data:=.seq ([]:List Value).toArray }=g at hns₁ hsb₁ ⊢
 have hg:g=s.heap.push (LCg.lst []):=hH2.symm
 have hsz:g.objs.size=s.heap.objs.size+1:=by rw[hg,Heap.size_push]
 have hk:∀ b o,g.get? b=some o->h₁.get? b=some o:=fun b o e=>hsb₁.extBut b o (ME (Heap.lt_size e)) (Heap.get?_push_of_some _ e)
 have kp:∀ b o,s.heap.get? b=some o->h₁.get? b=some o:=fun b o e=>hk b o (by rw[hg];exact Heap.get?_push_of_some _ e)
 have J0:=Ja (h':=h₁) (tk:=s.toks+([]:List (Str×Value)).length) O I hf hfs hg hk hns₁
 have stat:∀{H':Hp}{us:List Value},(∀ b∈fp,H' b=none)->∀ b∈fp,FpOk (dY X scope fr x g.objs.size (s.heap.objs.size::fp) { s with heap:=g } H) (X.pn++pins++[(s.heap.objs.size,LCg.lst us)]) H' b:=fun{H' us} hn b hb=>by
  obtain⟨_,f1,f2,f3,f4,f5⟩:=hf b hb
  refine⟨hn b hb,?_,fun z=>(LZ.mp (I.stkSub b z)).elim f1 f2,.inl (Ml _ hb),fun y c e=>f4 y c (O.cells I e),fun p hp=>?_⟩
  ·show b≠g.objs.size
   rw[hsz];exact ME (NO (hfs b hb))
  ·rcases Mc.mp hp with hp | hp
   ·cases hp
   ·rcases Mc.mp hp with hp | hp
    ·exact f5 p hp
    ·have ep:p=(s.heap.objs.size,LCg.lst us):=by simpa using hp
     rw[ep]
     exact Nu (hfs b hb)
 have loop:codeAny (model X.prog X.w) X.A (.compLoop (.ListComp elt [⟨.Name x px,iter,[],0⟩] scope pos) 0 (.ref it) (.ref s.heap.objs.size) (compEnvC scope (clOf X.env fr) g.objs.size X.env))
   (RR (.ref s.heap.objs.size) g.objs.size) { s with heap:=h₁,toks:=s.toks+([]:List (Str×Value)).length }:=by
  refine codeAny_compLoop_tests (fun n s'=>∃ i ys us H',Inv (dY X scope fr x g.objs.size (s.heap.objs.size::fp) { s with heap:=g } H) (X.pn++pins++[(s.heap.objs.size,LCg.lst us)]) (none::frOf fr σ) H' s'/\Vals ys us/\tn i s'.heap/\(∀ b∈fp,H' b=none)/\W i n ys H') ?_ m0
   ⟨0,[],[],H,J0,.nil,T.keep 0 s.heap h₁ st fun b _ o e=>kp b o e,fun b hb=>(hf b hb).1,w0⟩
  rintro n s3 ⟨i,ys,us,H3,J3,hv,st3,fr3,w3⟩
  obtain⟨hlen,hh⟩:=turn i n ys H3 w3
  have none_err:∀{α:Type}{t:Sem α}{Q:α->Shared->Prop}{E':Value->Shared->Prop}{s:Shared},wpAny (model X.prog X.w) X.A t Q (fun _ _=>False) s->wpAny (model X.prog X.w) X.A t Q E' s:=fun h=>wpAny_mono h (fun _ _ q=>q) fun _ _ z=>z.elim
  rcases hh with⟨stop,qn⟩ | ⟨go,N,hN,step⟩
  ·refine none_err (thn (T.done (dY X scope fr x g.objs.size (s.heap.objs.size::fp) { s with heap:=g } H) rfl rfl rfl hc i _ s3 _ H3 _ J3 (stat fr3) st3 stop) fun r s4 ⟨hr,J4⟩=>?_)
   subst hr
   obtain⟨I4,nD,fC,m,hn⟩:=yZ I hf hg J4 hv hlen
   exact fin _ _ H3 ys s4 m I4 nD fC hn qn
  ·refine none_err (thn (T.item (dY X scope fr x g.objs.size (s.heap.objs.size::fp) { s with heap:=g } H) rfl rfl rfl hc i _ s3 _ H3 _ J3 (stat fr3) st3 go) fun r s4 ⟨u,hr,h4⟩=>?_)
   subst hr
   have h4':=wpAny_bind (f:=fun _=>assign (.Name x px) (compEnvC scope (clOf X.env fr) g.objs.size X.env) u) (thn h4 (Q':=fun _ s5=>wpAny (model X.prog X.w) X.A (assign (.Name x px) (compEnvC scope (clOf X.env fr) g.objs.size X.env) u) (fun _ s6=>∃(σ6:St)(H6:Hp)(v:V)(s5':Shared)(H5:Hp),Inv (dY X scope fr x g.objs.size (s.heap.objs.size::fp) { s with heap:=g } H) (X.pn++pins++[(s.heap.objs.size,LCg.lst us)]++tU fp s5'.heap) σ6 H6 s6/\σ6=some v::frOf fr σ/\H6=H5/\J.yld i H3 v H5/\tn (i+1) s5'.heap) (fun _ _=>False) s5) fun _ s5 ⟨v,H5,J5,r5,y5,st5,fr5⟩=>by
    have J5':=J5.pinned (stat fr5) (T.obj _ _ st5)
    have hNd:(dY X scope fr x g.objs.size (s.heap.objs.size::fp) { s with heap:=g } H).N.Nodup:=O.nd
    have hxl:(dY X scope fr x g.objs.size (s.heap.objs.size::fp) { s with heap:=g } H).env.scope.names.lookup x=some .local:=lookup_relabel_local O.xl
    exact thn (aJ (X:=dY X scope fr x g.objs.size (s.heap.objs.size::fp) { s with heap:=g } H) (i:=0) hNd rfl (.inl hxl) (.inr hxl) _ s5 _ H5 v u (fun σ6 H6=>σ6=some v::frOf fr σ/\H6=H5) J5' r5 ⟨rfl,rfl⟩) fun _ s6 ⟨σ6,H6,J6,e6,e7⟩=>⟨σ6,H6,v,s5,H5,J6,e6,e7,y5,st5⟩)
   refine none_err (thn h4' fun _ s6 ⟨σ6,H6,v,s5,H5,J6,e6,e7,y5,st5⟩=>?_)
   subst e6 e7
   refine wpAny_tests_nil ?_
   rw[if_pos rfl]
   refine none_err (thn (he _ _ _ _ _ s6 _ H6 _ J6 (step v H6 y5)) fun u7 s7 ⟨v7,H7,J7,r7,q7⟩=>?_)
   obtain⟨m',hm,w7⟩:=hN v7 H7 q7
   obtain⟨eD,nD,dC,dF,dd⟩:=J7.pin (s.heap.objs.size,LCg.lst us) (Mh _ (MC _ (Mh _ (by simp))))
   have hvl:=hv.length
   refine append_at (hsz:=by show us.toArray.size<=sizeLine;rw[MG,← hvl];exact hlen) eD fun h8 hs8 hD8=>?_
   have pinD:∀ p∈X.pn++pins,p.1≠s.heap.objs.size:=fun p hp z=>by
    have:=Heap.lt_size (I.pin p hp).1
    rw[z]at this
    exact M7 _ this
   have J7a:Inv (dY X scope fr x g.objs.size (s.heap.objs.size::fp) { s with heap:=g } H) (X.pn++pins) _ H7 s7:=J7.pins_of fun p hp=>J7.pin p (Mh _ (MC _ (MC _ hp)))
   have J8:Inv (dY X scope fr x g.objs.size (s.heap.objs.size::fp) { s with heap:=g } H) (X.pn++pins) _ H7 { s7 with heap:=h8 }:=J7a.turned (t':=s7.toks) (fun b o hb e=>(hs8.2 b hb).trans e) nD dC (.inl MB) (fun y c e z=>by
    obtain⟨w',q⟩:=I.cell y c (O.cells I e)
    have:=q.lt
    rw[z]at this
    exact M7 _ this) (fun p hp=>(Mc.mp hp).elim (fun z=>by cases z) (pinD p))
   have J9:Inv (dY X scope fr x g.objs.size (s.heap.objs.size::fp) { s with heap:=g } H) (X.pn++pins++[(s.heap.objs.size,LCg.lst (us++[u7]))]) _ H7 { s7 with heap:=h8 }:=J8.pins_of fun p hp=>by
    rcases Mc.mp hp with hp | hp
    ·exact J8.pin p (Mh _ hp)
    ·have ep:p=(s.heap.objs.size,LCg.lst (us++[u7])):=by simpa using hp
     subst ep
     exact⟨hD8.trans (congrArg some (LCg.lst_snoc us u7)),nD,dC,dF,fun v z=>by cases z⟩
   have J10:=J9.weak (σ':=none::frOf fr σ) rfl fun i v e=>by
    cases i with
    |zero=>cases e
    |succ k=>exact e
   have pinF:∀ b∈fp,∀ o,s5.heap.get? b=some o->s7.heap.get? b=some o/\H7 b=none:=fun b hb o e=>by
    obtain⟨q1,q2,_⟩:=J7.pin (b,o) (Mh _ (Mh _ (dq hb e)))
    exact⟨q1,q2⟩
   refine⟨m',hm,i+1,ys++[v7],us++[u7],H7,J10,hv.append (.cons r7 .nil),T.keep _ _ _ st5 fun b hb o e=>(hs8.2 b (ME (hfs b hb))).trans (pinF b hb o e).1,fun b hb=>?_,w7⟩
   obtain⟨o,e,_⟩:=T.obj _ _ st5 b hb
   exact(pinF b hb o e).2
 exact codeAny_compStart_list loop (T.self X.A 0 _ _ _ (T.keep 0 s.heap h₁ st fun b _ o e=>kp b o e) loop)
def tComp(wi:TI)(te:TE)(fr:List (Str×Nat)):TE:=fun σ H Q=>wi σ H fun J H1=>tO te (frOf fr σ) J H1 fun ys H2=>∀ D,H2 D=none->Q (.ref D) (upd H2 D (.lst ys))
theorem dH(hc:X.calm=true)(O:bK X scope fr x)(hi:PI X (.Name x px) iter wi)(he:∀ C ex s H,PE (dY X scope fr x C ex s H) elt te)(hs:∀ x,foldedSetIterable iter X.env x=pure x:=by intro _;rfl) :
  PE X (.ListComp elt [⟨.Name x px,iter,[],0⟩] scope pos) (tComp wi te fr):=by
 intro pins s σ H Q I h
 rw[eval_ListComp]
 refine wpAny_comprehension_free (use:=none) rfl hs O.clos O.kind O.names (thn (hi pins s σ H _ I h) fun xv s1 h1=>thn h1 fun itv s2 h2=>?_)
 obtain⟨it,fp,tn,J,H2,e,I2,T,st2,f2,q2⟩:=h2
 subst e
 refine zA (RR:=fun acc C=>compPost (model X.prog X.w) X.A X.xe none (EP X pins σ Q) acc C) hc O he I2 T st2 f2 q2 ?_
 intro D C H4 ys s4 m I4 nD fC hn q4
 refine⟨m,hn,fun h' hs'=>?_⟩
 obtain⟨g0,g1,g2,g3,g4,g5⟩:=fC
 exact⟨.ref D,_,I4.turned (t':=s4.toks) (fun b o hb e=>(hs'.2 b hb).trans e) g0 g1 g3 g4 g5,rfl,q4 D nD⟩
def Ih(i:Nat)(wi:TI)(te:TE)(fr:List (Str×Nat)):TS:=fun D σ H=>wi σ H fun J H1=>tO te (frOf fr σ) J H1 fun ys H2=>∀ a,H2 a=none->D.nx (σ.set i (some (.ref a))) (upd H2 a (.lst ys))
theorem mS{i:Nat}{y:Str}{py spos:Pos}(hc:X.calm=true)(hN:X.N.Nodup)(hi':X.N[i]?=some y)(hy:X.env.scope.names.lookup y=some .local)(O:bK X scope fr x)(hi:PI X (.Name x px) iter wi)(he:∀ C ex s H,PE (dY X scope fr x C ex s H) elt te)
  (hsw:swapsWith (.ListComp elt [⟨.Name x px,iter,[],0⟩] scope pos) (some (.Name y py)) spos.line X.env=pure true:=by rfl) (hs:∀ x,foldedSetIterable iter X.env x=pure x:=by intro _;rfl) :
  PS X (.Assign [.Name y py] (.ListComp elt [⟨.Name x px,iter,[],0⟩] scope pos) spos) (Ih i wi te fr):=by
 intro pins s σ H D I h
 rw[exec_Assign_Name_used _ _ _ _ hsw]
 refine wpAny_bind (wpAny_standAt (wpAny_bind ?_))
 show wpAny _ X.A (do let _ ← comprehension (.ListComp elt [⟨.Name x px,iter,[],0⟩] scope pos) scope X.env _ (newList []) false (eval iter X.env) (some (assign (.Name y py) X.env))) _ _ s
 refine wpAny_bind (thn (wpAny_comprehension_free (use:=some (assign (.Name y py) X.env)) (Q:=fun _ s'=>SP X pins D .next s') rfl hs O.clos O.kind O.names (thn (hi pins s σ H _ I h) fun xv s1 h1=>thn h1 fun itv s2 h2=>?_)) fun _ s' hq=>wpAny_pure (wpAny_pure hq))
 obtain⟨it,fp,tn,J,H2,e,I2,T,st2,f2,q2⟩:=h2
 subst e
 refine zA (RR:=fun acc C=>compPost (model X.prog X.w) X.A X.xe (some (assign (.Name y py) X.env)) (fun _ s'=>SP X pins D .next s') acc C) hc O he I2 T st2 f2 q2 ?_
 intro a C H4 ys s4 m I4 nD fC hn q4
 obtain⟨g0,g1,g2,g3,g4,g5⟩:=fC
 obtain⟨oC,eC,hoC⟩:=LCg.ns_obj hn
 have I5:Inv X (pins++[(C,oC)]) σ (upd H4 a (.lst ys)) s4:=I4.pins_of fun p hp=>by
  rcases Mc.mp hp with hp | hp
  ·exact I4.pin p (Mh _ hp)
  ·have ep:p=(C,oC):=by simpa using hp
   subst ep
   obtain⟨es,epp,hd,_⟩:=hoC
   exact⟨eC,g0,g1,g2,fun v z=>by rw[hd]at z;cases z⟩
 show wpAny _ X.A (assign (.Name y py) X.env (.ref a)) _ _ _
 refine wpAny_assign_Name (pL I5 hN hi' (.inl hy) (v:=.ref a) rfl (fun s6 I6=>?_) (.inr hy))
 obtain⟨e6,_⟩:=I6.pin (C,oC) (Mh _ (Mh _ (by simp)))
 refine⟨m,hoC.ns e6,fun h' hs'=>?_⟩
 exact⟨_,_,I6.unpinned.turned (t':=s6.toks) (fun b o hb e=>(hs'.2 b hb).trans e) g0 g1 g3 g4 g5,q4 a nD⟩
end
theorem bH{K:LU}{a:Addr}{xs:List V}{te:TE}{fv:St}{H1:Hp}{QQ:List V->Hp->Prop}(Pv:Nat->List V->Hp->Prop)(hz:xs.length<=sizeLine)(h0:Pv 0 [] H1)(hl:∀ i ys H,i<=xs.length->Pv i ys H->SqL K H a xs)
  (hs:∀ i x ys H,xs[i]?=some x->Pv i ys H->te (some x::fv) H fun y H2=>Pv (i+1) (ys++[y]) H2) (hd:∀ ys H,ys.length=xs.length->Pv xs.length ys H->QQ ys H)
  : tO te fv (Itl K a) H1 QQ:=by
 refine⟨fun i m ys H=>m=xs.length-i/\i<=xs.length/\ys.length=i/\Pv i ys H,⟨xs.length,by simp,Na _,rfl,h0⟩,?_⟩
 rintro i m ys H ⟨rfl,hi,hy,p⟩
 have q:=hl i ys H hi p
 refine⟨by omega,?_⟩
 by_cases hlt:i<xs.length
 ·refine .inr ⟨⟨xs,xs[i],q,by simp[hlt]⟩,fun y H2=>Pv (i+1) (ys++[y]) H2,fun y H2 p2=>⟨xs.length-(i+1),by omega,rfl,hlt,by rw[LX,hy];rfl,p2⟩,fun x H' y=>?_⟩
  obtain⟨e,y⟩:=y
  subst e
  exact hs i x ys _ (y xs q) p
 ·have e:i=xs.length:=by omega
  subst e
  exact .inl ⟨⟨xs,q,Ma _⟩,hd ys H hy p⟩
theorem ua{lo:Int}{n:Nat}{te:TE}{fv:St}{H1:Hp}{QQ:List V->Hp->Prop}(Pv:Nat->List V->Hp->Prop)(hz:n<=sizeLine)(h0:Pv 0 [] H1)
  (hs:∀ i ys H,i<n->Pv i ys H->te (some (.int (lo+i))::fv) H fun y H2=>Pv (i+1) (ys++[y]) H2) (hd:∀ ys H,ys.length=n->Pv n ys H->QQ ys H)
  : tO te fv (Itr lo n) H1 QQ:=by
 refine⟨fun i m ys H=>m=n-i/\i<=n/\ys.length=i/\Pv i ys H,⟨n,by simp,Na _,rfl,h0⟩,?_⟩
 rintro i m ys H ⟨rfl,hi,hy,p⟩
 refine⟨by omega,?_⟩
 by_cases hlt:i<n
 ·refine .inr ⟨hlt,fun y H2=>Pv (i+1) (ys++[y]) H2,fun y H2 p2=>⟨n-(i+1),by omega,rfl,hlt,by rw[LX,hy];rfl,p2⟩,fun x H' y=>?_⟩
  obtain⟨e,y⟩:=y
  subst e y
  exact hs i ys _ hlt p
 ·have e:i=n:=by omega
  subst e
  exact .inl ⟨Ma _,hd ys H hy p⟩
end L2
namespace L2
open PySem PySem.Spec PyProof.Rows
theorem Ht:bootBuiltins "int" = some (.type "int"):=by decide +kernel
theorem LK:bootBuiltins "bool" = some (.type "bool"):=by decide +kernel
theorem iq:bootBuiltins "list" = some (.type "list"):=by decide +kernel
theorem Jm:bootBuiltins "tuple" = some (.type "tuple"):=by decide +kernel
theorem bF:bootBuiltins "len" = some (.builtin "len"):=by decide +kernel
theorem Jn:bootBuiltins "range" = some (.type "range"):=by decide +kernel
theorem eG:bootBuiltins "isinstance" = some (.builtin "isinstance"):=by decide +kernel
theorem rh:bootBuiltins "sorted" = some (.builtin "sorted"):=by decide +kernel
theorem zF:bootBuiltins "enumerate" = some (.type "enumerate"):=by decide +kernel
structure Cal(P:Program)(w:World)(K:LU)(mg:Str->Option Value)(base:Heap)(k:Nat)(x:Str)(ps:List Str)(sp:Sp)(f:Addr)(fd:FuncData):Prop where
 ok:FnOk P w K mg base CX0 k f fd ps sp
 bn:iG K fd ps []
 mg:mg x=some (.ref f)
 kp:Md K (.ref f)=true
structure Mak(P:Program)(w:World)(K:LU)(mg:Str->Option Value)(base:Heap)(k:Nat)(x:Str)(ps:List Str)(sp:Sp)(C f:Addr)(fd:FuncData):Prop where
 mkc:Mk K C f
 ok:FnOk P w K mg base CX0 k f fd ps sp
 bn:iG K fd ps []
 mg:mg x=some (.ref C)
structure Met(P:Program)(w:World)(K:LU)(mg:Str->Option Value)(base:Heap)(k:Nat)(C:Addr)(m:Str)(ps:List Str)(sp:Sp)(f:Addr)(fd:FuncData):Prop where
 me:Meth K C m f
 ok:FnOk P w K mg base CX0 k f fd ps sp
 bn:iG K fd ps []
theorem AH{X:Cx}{sts:List Stmt}{t t2:TS}(h:PSs X sts t)(i:∀ D σ H,t2 D σ H->t D σ H):PSs X sts t2:=fun pins s σ H D I q=>h pins s σ H D I (i D σ H q)
section
variable{X:Cx}
def rIsi(K:LU):List V->Hp->VK->Prop:=fun xs H Q=>∃ x c t b u,xs = [x,c]/\TyOf K H x t/\((∃ n,c=.ty n/\u=Value.type n)∨∃ a,c=.ref a/\u=Value.ref a)/\Om K t u=some b/\Q (.bl b) H
theorem wQ:j4 X (.builtin "isinstance") (rIsi X.K):=by
 intro pins s σ H xs us Q I r h
 obtain⟨x,c,t,b,u,rfl,ty,hu,e,q⟩:=h
 obtain⟨v1,v2,rfl,r1,r2⟩:=HY r
 have e2:v2=u:=by
  rcases hu with⟨n,rfl,rfl⟩ | ⟨a,rfl,rfl⟩
  ·exact r2
  ·exact r2
 subst e2
 exact Gs I r1 ty e fun tk=>⟨.bl b,H,I.tok tk,rfl,q⟩
theorem kit_ii(K:LU):Om K (.type "int") (.type "int")=some true:=by with_unfolding_all rfl
theorem kit_ib(K:LU):Om K (.type "int") (.type "bool")=some false:=by with_unfolding_all rfl
theorem kit_tt(K:LU):Om K (.type "tuple") (.type "tuple")=some true:=by with_unfolding_all rfl
end
inductive RdD(K:LU)(H:Hp):V->PyData->Prop where
 |non:RdD K H .non .none
 |bl (b:Bool):RdD K H (.bl b) (.bool b)
 |int (i:Int):RdD K H (.int i) (.int i)
 |lst {a:Addr} {xs:List V} {ds:List PyData} (h:SqL K H a xs) (hl:xs.length=ds.length) (r:∀(i:Nat)(x:V)(d:PyData),xs[i]?=some x->ds[i]?=some d->RdD K H x d):RdD K H (.ref a) (.list ds)
 |tup {a:Addr} {xs:List V} {ds:List PyData} (h:SqT K H a xs) (hl:xs.length=ds.length) (r:∀(i:Nat)(x:V)(d:PyData),xs[i]?=some x->ds[i]?=some d->RdD K H x d):RdD K H (.ref a) (.tuple ds)
theorem ko{h:Heap}:∀{xs:List V}{us:List Value}{ds:List PyData},Vals xs us->xs.length=ds.length->(∀(i:Nat) x d,xs[i]?=some x->ds[i]?=some d->∀ u,RelV x u->∃ as,Reads h u d as)->∃ as,ReadsAll h us ds as
 |_,_,[],.nil,_,_=>⟨_,.nil⟩
 |_,_,_::_,.nil,e,_=>by cases e
 |_,_,[],.cons _ _,e,_=>by cases e
 |_,_,d::ds,.cons r rr,e,k=>by
  obtain⟨a1,q1⟩:=k 0 _ d rfl rfl _ r
  obtain⟨a2,q2⟩:=ko rr (O1 e) fun i x d' e1 e2=>k (i+1) x d' e1 e2
  exact⟨_,.cons q1 q2⟩
section
variable{X:Cx}
theorem RdD.reads{pins:List (Addr×Obj)}{σ:St}{H:Hp}{s:Shared}(I:Inv X pins σ H s){x:V}{d:PyData}(r:RdD X.K H x d):∀ u,RelV x u->∃ as,Reads s.heap u d as:=by
 induction r with
 |non=>intro u hu;cases hu;exact⟨_,.none⟩
 |bl b=>intro u hu;cases hu;exact⟨_,.bool b⟩
 |int i=>intro u hu;obtain⟨t,rfl⟩:=hu;exact⟨_,.int i t⟩
 |lst h hl r ih =>
  intro u hu
  cases hu
  obtain⟨its,rv,p,_⟩:=I.list h
  obtain⟨as,q⟩:=ko (h:=s.heap) rv hl ih
  obtain⟨o,n,e,c,_,d⟩:=p
  exact⟨_,.list e c d (by simpa using q)⟩
 |tup h hl r ih =>
  intro u hu
  cases hu
  obtain⟨its,rv,p,_⟩:=I.tuple h
  obtain⟨as,q⟩:=ko (h:=s.heap) rv hl ih
  obtain⟨o,e,c,n,d⟩:=p
  exact⟨_,.tuple e c d (by simpa using q)⟩
def Kx(b:Bool)(K:LU):R2:=fun x y H Q=>∃ d,RdD K H x d/\RdD K H y d/\SeqAt.shaped d=true/\Q (.bl b) H
theorem op_eqD(hu:X.A.units+64<cLine):OpR X (compareOp .Eq) (Kx true X.K):=by
 intro pins s σ H x y v u Q I rx ry h
 obtain⟨d,r1,r2,hs,q⟩:=h
 obtain⟨as,q1⟩:=r1.reads I v rx
 obtain⟨bs,q2⟩:=r2.reads I u ry
 refine eq_dataH q1 q2 hs hs hu ?_
 rw[SeqAt.eqv_refl d (SeqAt.canLay_of_shaped hs)]
 exact⟨.bl true,H,I,rfl,q⟩
theorem JB(hu:X.A.units+64<cLine):OpR X (compareOp .NotEq) (Kx false X.K):=by
 intro pins s σ H x y v u Q I rx ry h
 obtain⟨d,r1,r2,hs,q⟩:=h
 obtain⟨as,q1⟩:=r1.reads I v rx
 obtain⟨bs,q2⟩:=r2.reads I u ry
 refine ne_dataH q1 q2 hs hs hu ?_
 rw[SeqAt.eqv_refl d (SeqAt.canLay_of_shaped hs)]
 exact⟨.bl false,H,I,rfl,q⟩
end
def Itr3(lo c:Int)(n:Nat):It:=⟨fun i _=>i<n,fun i H x H'=>H'=H/\x=.int (lo+i*c),fun i _=>n<=i⟩
theorem Af{P:Program}{w:World}{K:LU}{tg:Expr}(it:Addr)(lo c:Int)(n:Nat):Turn P w K tg (Itr3 lo c n) [it] it (fun i h=>IsRangeIter h it (lo+(i:Nat)*c) ((n:Int)-(i:Nat)) c) where
 mem:=by simp
 obj:=fun i h st b hb=>by
  have e:b=it:=by simpa using hb
  subst e
  exact⟨_,st,fun v z=>by
   have z':Data.fields _=Data.cell v:=z
   cases z'⟩
 keep:=fun i h h' st k=>k it (by simp) _ st
 item:=by
  intro X hP hw hK hc i pins s σ H E I hf st hg
  subst hP hw hK
  obtain⟨f0,f1,f2,f3,f4,f5⟩:=hf it (by simp)
  have W:=Walks.range (prog:=X.prog) (w:=X.w) (I.ok.hd hc) it lo c n
  refine W.item i s _ _ hg st fun v h' tk hv st' kk=>?_
  obtain⟨t,rfl⟩:=hv
  have I1:Inv X pins σ H { s with heap:=h',toks:=tk }:=I.turned (fun b o hb e=>kk b o (by simpa using hb) e) f0 f1 f3 f4 f5
  exact⟨_,rfl,Jd (s:={ s with heap:=h',toks:=tk }) (n:="range_iterator") st' rfl rfl (by decide) ⟨.int (lo+i*c),H,I1,⟨t,rfl⟩,⟨rfl,rfl⟩,st',fun b hb=>(hf b hb).1⟩⟩
 done:=by
  intro X hP hw hK hc i pins s σ H E I hf st hg
  subst hP hw hK
  obtain⟨f0,f1,f2,f3,f4,f5⟩:=hf it (by simp)
  exact wpAny_pyNext_range_end (I.ok.hd hc) st (by have:n<=i:=hg;omega) fun h' eb=>⟨rfl,I.turned (t':=s.toks) (fun b o hb e=>eb b o hb e) f0 f1 f3 f4 f5⟩
 self:=fun _ _ _ _ _ st h=>wpAny_pyIter_rangeiter st h
section
variable{X:Cx}{tg:Expr}
end
end L2
namespace L2
open PySem PySem.Spec PyProof.Rows
section
variable{P:Program}{w:World}{H:Hp}{h:Heap}{a:Addr}{o:HO}
theorem bJ.get(x:bJ P w H h a o):∃ ob,h.get? a=some ob:=by
 cases o with
 |lst xs=>obtain⟨_,_,_,_,e⟩:=x;exact⟨_,e⟩
 |tup xs=>obtain⟨_,_,_,ob,e,_⟩:=x;exact⟨_,e⟩
 |dK kvs=>obtain⟨_,_,_,_,o,_,_,e,_⟩:=x;exact⟨_,e⟩
 |dT kvs=>obtain⟨_,_,_,_,o,_,_,e,_⟩:=x;exact⟨_,e⟩
 |set S n=>obtain⟨o,_,_,_,e,_⟩:=x;exact⟨_,e⟩
 |ins C dx fs=>obtain⟨_,_,_,e,_⟩:=x;exact⟨_,e⟩
 |own y=>exact x
 |xd fs=>obtain⟨_,⟨_,_,_,e,_⟩,_⟩:=x;exact⟨_,e⟩
 |rng lo hi=>obtain⟨_,_,_,e⟩:=x;exact⟨_,e⟩
 |frz ob u=>exact⟨_,x.1⟩
 |tbl ps=>exact⟨_,(show h.get? a=some _ from x)⟩
 |met f y=>exact⟨_,(show h.get? a=some _ from x)⟩
 |ext φ=>exact x.2.1
theorem HOk.none_of(x:HOk P w H h)(e:h.get? a=none):H a=none:=by
 cases q:H a with
 |none=>rfl
 |some u =>
  obtain⟨ob,z⟩:=(x a u q).get
  rw[e]at z
  cases z
end
structure XOk(X:Cx)(pins:List (Addr×Obj))(H:Hp)(b:Addr):Prop where
 old:X.s₀.heap.get? b=none
 trk:H b=none
 nl:b≠X.env.locals
 nc:∀ x c,X.env.cells.lookup x=some c->c≠b
 np:∀ p∈X.pn++pins,p.1≠b
section
variable{X:Cx}{pins:List (Addr×Obj)}{σ:St}{H H':Hp}{s s':Shared}{b:Addr}
theorem Inv.xok(I:Inv X pins σ H s)(hx:X.ex = [])(e:s.heap.get? b=none)(n:H' b=none):XOk X pins H' b:=by
 refine⟨?_,n,fun z=>?_,fun x c q z=>?_,fun p hp z=>?_⟩
 ·cases q:X.s₀.heap.get? b with
  |none=>rfl
  |some o =>
   obtain⟨o',e'⟩:=I.base.there b o q (by rw[hx];simp)
   rw[e]at e'
   cases e'
 ·obtain⟨m,⟨o,_,_,ho,_⟩,_⟩:=I.loc
  rw[z,ho]at e
  cases e
 ·obtain⟨v,o,ho,_⟩:=I.cell x c q
  rw[z,e]at ho
  cases ho
 ·have:=(I.pin p hp).1
  rw[z,e]at this
  cases this
theorem Inv.xstep{h':Heap}{ch:List Addr}(I:Inv X pins σ H s)(hch:∀ b∈ch,XOk X pins H b)
  (keep:∀ b o,s.heap.get? b=some o->b∉ch->b∉frs X.stack->h'.get? b=some o)
  (slot:∀ b o,s.heap.get? b=some o->b∉ch->b∈frs X.stack->∃ sl,h'.get? b=some { o with slots:=sl }):Inv X pins σ H { s with heap:=h' }:=by
 have any:∀ b o,s.heap.get? b=some o->b∉ch->∃ sl,h'.get? b=some { o with slots:=sl }:=fun b o e hc=>by
  by_cases hb:b∈frs X.stack
  ·exact slot b o e hc hb
  ·exact⟨o.slots,keep b o e hc hb⟩
 have fsub:∀ b,b∈frs X.stack->b≠X.env.locals->b∈X.fs:=fun b hb n=>(LZ.mp (I.stkSub b hb)).elim (fun z=>absurd z n) fun z=>z
 have neL:∀ b o,X.s₀.heap.get? b=some o->b≠X.env.locals:=fun b o e=>ME (MF (Heap.lt_size e) I.ok.above)
 have neC:∀ b o,X.s₀.heap.get? b=some o->b∉ch:=fun b o e hb=>by
  have:=(hch b hb).old
  rw[e]at this
  cases this
 have cellK:∀ x c,X.env.cells.lookup x=some c->∀ v,s.heap.IsCell c v->h'.IsCell c v:=fun x c e v ⟨o,ho,hd⟩=>by
  obtain⟨sl,q⟩:=any c o ho fun z=>(hch c z).nc x c e rfl
  exact⟨_,q,hd⟩
 refine⟨I.ok,I.os,I.bare,⟨fun b o e n hb hx=>?_,fun b o e n hb hx=>?_,I.base.free,fun b o e hx=>?_,I.base.tups,I.base.frzs,I.base.tbls⟩,?_,fun x c e=>?_,I.free,I.freeC,fun p hp=>?_,fun b u e=>?_,I.len⟩
 ·exact keep b o (I.base.keep b o e n hb hx) (neC b o e) fun z=>hb (fsub b z (neL b o e))
 ·obtain⟨sl,e1⟩:=I.base.slot b o e n hb hx
  obtain⟨sl',e2⟩:=any b _ e1 (neC b o e)
  exact⟨sl',e2⟩
 ·obtain⟨o',e1⟩:=I.base.there b o e hx
  obtain⟨sl,e2⟩:=any b _ e1 (neC b o e)
  exact⟨_,e2⟩
 ·obtain⟨m,⟨o,es,ep,ho,r⟩,hl⟩:=I.loc
  obtain⟨sl,e2⟩:=any _ o ho fun z=>(hch _ z).nl rfl
  refine⟨m,⟨_,es,ep,e2,r⟩,fun i x v e1 e2 e3=>?_⟩
  obtain⟨u,r,l⟩:=hl i x v e1 e2 e3
  refine⟨u,r,?_⟩
  rcases l with l | ⟨k,c,e,z⟩
  ·exact .inl l
  ·exact .inr ⟨k,c,e,cellK x c e _ z⟩
 ·obtain⟨v,z⟩:=I.cell x c e
  exact⟨v,cellK x c e v z⟩
 ·obtain⟨e,n,ne,nf,d⟩:=I.pin p hp
  exact⟨keep p.1 p.2 e (fun z=>(hch p.1 z).np p hp rfl) fun z=>nf (fsub p.1 z ne),n,ne,nf,d⟩
 ·have nof:∀ c u',H c=some u'->c∉ch/\c∉frs X.stack:=fun c u' q=>⟨fun z=>(by rw[(hch c z).trk]at q;exact nomatch q),fun z=>(by rw[I.stkFree c z]at q;exact nomatch q)⟩
  refine(I.hok b u e).stay (fun c v hc q=>?_) (fun _ q=>q) fun _ _ q=>q
  rcases hc with z | z
  ·rw[z]at q ⊢
   exact keep b v q (nof b u e).1 (nof b u e).2
  ·exact keep c v q (nof c _ z).1 (nof c _ z).2
theorem Inv.xtrack{a:Addr}{o:HO}(I:Inv X pins σ H s)(f:XOk X pins H a)(new:bJ X.prog X.w (upd H a o) s.heap a o):Inv X pins σ (upd H a o) s:=by
 have ne:∀ b u,H b=some u->b≠a:=fun b u e=>aB e f.trk
 have nb:∀ b u,s.heap.get? b=some u->b≠a->H b=none->upd H a o b=none:=fun b u _ n q=>by rw[aq n];exact q
 refine⟨I.ok,I.os,I.bare,⟨I.base.keep,I.base.slot,fun b ob e n hx=>?_,I.base.there,fun b xs e=>?_,fun b ob xs e=>?_,fun b ps e=>?_⟩,I.loc,I.cell,?_,fun x c e=>?_,fun p hp=>?_,fun b u e=>?_,I.len⟩
 ·rw[aq (fun z=>by rw[z,f.old]at e;cases e)]
  exact I.base.free b ob e n hx
 ·have:=I.base.tups b xs e
  rw[aq (ne _ _ this)]
  exact this
 ·have:=I.base.frzs b ob xs e
  rw[aq (ne _ _ this)]
  exact this
 ·obtain⟨m,q⟩:=I.base.tbls b ps e
  exact⟨m,by rw[aq (ne _ _ q)];exact q⟩
 ·rw[aq (Ne.symm f.nl)]
  exact I.free
 ·rw[aq (f.nc x c e)]
  exact I.freeC x c e
 ·obtain⟨e,n,r⟩:=I.pin p hp
  exact⟨e,by rw[aq (f.np p hp)];exact n,r⟩
 ·by_cases hb:b=a
  ·rw[hb,ae]at e
   cases e
   rw[hb]
   exact new
  ·rw[aq hb]at e
   exact(I.hok b u e).stay (fun c v _ q=>q) (fun c q=>by rw[aq (ne c _ q)];exact q) fun c xs q=>by rw[aq (ne c _ q)];exact q
end
def Trc(h:Heap)(x:Addr)(C:Value)(T:Addr):Prop :=
 ∃ oe vs a0 oT ts,h.get? x=some oe/\oe.cls=C/\vs[0]?=some a0/\oe.data=.fields vs/\vs[1]?=some (.ref T)/\T≠x/\h.get? T=some oT/\oT.data=.fields ts/\ts[3]?=some .none
def Xnw(h:Heap)(x:Addr)(C:Value):Prop:=∃ oe vs a0,h.get? x=some oe/\oe.cls=C/\oe.data=.fields vs/\vs[0]?=some a0/\vs[1]?=some .none
def XA(X:Cx)(pins:List (Addr×Obj))(H:Hp)(s:Shared)(x:Addr)(C:Value):Prop:=XOk X pins H x/\(Xnw s.heap x C∨∃ T,XOk X pins H T/\Trc s.heap x C T)
def CXr(P:Program)(w:World):CXT:=fun outer H s E e s'=>∃(x:Addr)(C:Value)(T:Addr)(H':Hp),e=.ref x/\s'.os=s.os/\AllBare s'.gens/\Un (frs outer) [] H H' s.heap s'.heap/\HOk P w H' s'.heap /\
 s.heap.get? x=none/\s.heap.get? T=none/\H' x=none/\H' T=none/\Trc s'.heap x C T/\E C none H'
section
variable{X:Cx}{pins:List (Addr×Obj)}{σ:St}{H:Hp}{s:Shared}{x:Addr}{C:Value}{E:Value->Shared->Prop}
abbrev hidX(X:Cx)(h:Heap)(ch:List Addr):Heap:=PySem.W.hideAll h (ch++frs X.stack)
theorem Inv.hidF(I:Inv X pins σ H s)(ch:List Addr):s.heap.FunFrames (hidX X s.heap ch) X.stack :=
 PySem.W.funFrames_hide I.stack fun env he a hf=>Mh _ (OQ.mpr ⟨env,he,hf⟩)
theorem GH(ch:List Addr)(h:Heap):(hidX X h ch).StaysIn h:=fun _ _ e=>PySem.W.of_hideAll _ e
theorem l8{ch:List Addr}{h:Heap}{b:Addr}(hb:b∈ch):(hidX X h ch).get? b=none:=PySem.W.hideAll_none _ (MC _ hb)
theorem Inv.left{h':Heap}{ch:List Addr}{a0:Value}(I:Inv X pins σ H s)(hx:X.ex = [])(hch:∀ b∈ch,XOk X pins H b)(k:(hidX X s.heap ch).StaysIn h')(t:h'.TracedW (hidX X s.heap ch) x C a0)(u:s.heap.UpToSlots h') :
  Inv X pins σ H { s with heap:=h' }/\∃ T,XOk X pins H T/\Trc h' x C T:=by
 have fr:∀ b o,s.heap.get? b=some o->b∈frs X.stack->∃ sl,h'.get? b=some { o with slots:=sl }:=fun b o e hb=>by
  obtain⟨_,o',ho,hd⟩:=I.stack.mem hb
  rw[e]at ho
  cases ho
  exact u b o e hd
 refine⟨I.xstep hch (fun b o e n1 n2=>k b o (OL _ e fun z=>(Mc.mp z).elim n1 n2)) fun b o e _ hb=>fr b o e hb,?_⟩
 obtain⟨oe,vs,T,oT,ts,he,⟨hcls,h0⟩,hd,h1,hnT,hTe,hT,hdT,h3⟩:=t
 refine⟨T,?_,oe,vs,a0,oT,ts,he,hcls,h0,hd,h1,hTe,hT,hdT,h3⟩
 cases q:s.heap.get? T with
 |none=>exact I.xok hx q (I.hok.none_of q)
 |some o =>
  by_cases z:T∈ch
  ·exact hch T z
  ·by_cases z2:T∈frs X.stack
   ·obtain⟨_,o',ho,hd'⟩:=I.stack.mem z2
    obtain⟨sl,e⟩:=fr T o q z2
    rw[hT]at e
    cases e
    rw[q]at ho
    cases ho
    exact absurd hdT (hd' ts)
   ·have:=OL (ch++frs X.stack) q fun z3=>(Mc.mp z3).elim z z2
    rw[hnT]at this
    cases this
theorem Inv.leave{Q:Unit->Shared->Prop}(I:Inv X pins σ H s)(hx:X.ex = [])(hst:X.stack=X.env::X.outer)(hfr:X.env.frame=some X.env.locals)(xa:XA X pins H s x C)
  (h:∀ h' T,Inv X pins σ H { s with heap:=h' }->XOk X pins H x->XOk X pins H T->Trc h' x C T->Q () { s with heap:=h' }):wpAny (model X.prog X.w) X.A (leaving X.env (.ref x)) Q E s:=by
 obtain⟨x1,x2⟩:=xa
 have frm:X.A.frames=some (X.env::X.outer):=by rw[← hst];exact I.ok.frames
 rcases x2 with⟨oe,vs,a0,he,hc,hd,h0,h1⟩ | ⟨T,xT,oe,vs,a0,oT,ts,he,hc,h0,hd,h1,hTe,hT,hdT,h3⟩
 ·have hch:∀ b∈[x],XOk X pins H b:=fun b hb=>by
   have e:b=x:=by simpa using hb
   rw[e]
   exact x1
  refine wpAny_leaving_firstW (base:=hidX X s.heap [x]) frm (hst▸I.hidF [x]) hfr he (GH _ _) (l8 (by simp)) hd h1 h0 fun h' L=>?_
  obtain⟨k1,_,k3,k4⟩:=L
  obtain⟨I',T,xT,tr⟩:=I.left hx hch k1 k3 k4
  rw[hc]at tr
  exact h h' T I' x1 xT tr
 ·have hch:∀ b∈[x,T],XOk X pins H b:=fun b hb=>by
   rcases LZ.mp hb with e | hb
   ·rw[e]
    exact x1
   ·have e:b=T:=by simpa using hb
    rw[e]
    exact xT
  refine wpAny_leaving_nextW (base:=hidX X s.heap [x,T]) frm (hst▸I.hidF [x,T]) hfr ⟨oe,vs,T,oT,ts,he,⟨hc,h0⟩,hd,h1,l8 (by simp),hTe,hT,hdT,h3⟩ (GH _ _) (l8 (by simp)) fun h' L=>?_
  obtain⟨k1,_,k3,k4⟩:=L
  obtain⟨I',T',xT',tr⟩:=I.left hx hch k1 k3 k4
  exact h h' T' I' x1 xT' tr
end
abbrev WK:=Value->St->Hp->Prop
def Wsh(X:Cx)(W:WK):Prop:=∀(pins:List (Addr×Obj))(σ:St)(H:Hp)(s:Shared)(x:Addr)(C:Value),Inv X pins σ H s->XA X pins H s x C->W C σ H->X.xe (.ref x) s
theorem j6{P:Program}{w:World}{K:LU}{mg:Str->Option Value}{base:Heap}{N:List Str}{qual:Str}{scope:Scope}{f:Addr}{cd:Value}{A:Around}{outer:List Env}{s₀:Shared}{H₀:Hp}{E:XK} :
  Wsh (cxOf (CXr P w) P w K mg base N qual scope f cd A outer s₀ H₀ E) (fun C _ H=>E C none H):=fun pins σ H s x C I xa hE=>by
 show wpAny (model P w) (A.deeper (envOfC qual scope s₀.heap.objs.size f cd)) (leaving (envOfC qual scope s₀.heap.objs.size f cd) (.ref x)) _ _ s
 refine Inv.leave I rfl rfl rfl xa fun h' T I' x1 xT tr=>?_
 exact⟨x,C,T,H,rfl,I'.os,I'.bare,I'.base,I'.hok,x1.old,xT.old,x1.trk,xT.trk,tr,hE⟩
theorem JA{P:Program}{w:World}{X:Cx}:oM (CXr P w) X E0:=fun _ _ _ _ _ _ _ ⟨_,_,_,_,_,_,_,_,_,_,_,_,_,_,z⟩=>z.elim
section
variable{X:Cx}{k:Nat}{f C:Addr}{fd:FuncData}{ps:List Str}{sp:Sp}{dvs:List V}{ds:List Value}{W:WK}{x m:Str}{p pos apos:Pos}{e o:Expr}{es:List Expr}{ta:TE}{t:TA}
theorem Wsh.of{pins:List (Addr×Obj)}{σ:St}{H:Hp}{s s':Shared}{v:Value}(ws:Wsh X W)(hx:X.ex = [])(I:Inv X pins σ H s)(h:CXr X.prog X.w X.stack H s (fun C _ H'=>W C σ H') v s'):X.xe v s':=by
 obtain⟨x,C,T,H',rfl,os,bare,un,hok,nx,nT,tx,tT,tr,q⟩:=h
 have I':Inv X pins σ H' s':=I.call' os un hok bare fun b z=>absurd z (by simp)
 exact ws pins σ H' s' x C I' ⟨I.xok hx nx tx,.inr ⟨T,I.xok hx nT tT,tr⟩⟩ q
theorem Kw{pins:List (Addr×Obj)}{σ:St}{H:Hp}{s:Shared}{Q:VK}{us:List Value}{vs:List V}(F:FnOk X.prog X.w X.K X.mg X.base (CXr X.prog X.w) k f fd ps sp)(hr:Room k X.A)(hb:iG X.K fd ps ds)(hd:Vals dvs ds)(ws:Wsh X W)(hx:X.ex = [])
  (I:Inv X pins σ H s) (r:Vals vs us) (h:sp (vs++dvs) H Q (fun C _ H'=>W C σ H')):wpAny (model X.prog X.w) X.A (call (.ref f) us) (EP X pins σ Q) X.xe s:=by
 have r2:Vals (vs++dvs) (us++ds):=r.append hd
 have hl:(us++ds).length=ps.length:=by rw[← r2.length];exact F.len _ _ _ _ h
 refine wpAny_call (codeAny_mono (F.run X.A X.stack s H ⟨us,[]⟩ (us++ds) (vs++dvs) Q _ hr I.env0 (hb s us I.kIn hl) r2 h) fun r s' hq=>?_)
 cases r with
 |error e=>exact ws.of hx I hq
 |ok fl =>
  cases fl with
  |ret u=>exact I.after hq
  |next=>exact False.elim hq
  |brk=>exact False.elim hq
  |cont=>exact False.elim hq
def Jv(sp:Sp)(dvs:List V)(W:WK)(t:TA):TE:=fun σ H Q=>t σ H fun vs H1=>sp (vs++dvs) H1 Q fun C _ H'=>W C σ H'
theorem fD(F:FnOk X.prog X.w X.K X.mg X.base (CXr X.prog X.w) k f fd ps sp)(hr:Room k X.A)(hg:Gl X x)(hm:X.mg x=some (.ref f))(hk:Md X.K (.ref f)=true)(hb:iG X.K fd ps ds)(hd:Vals dvs ds)(ws:Wsh X W)(hx:X.ex = [])
  (ha:PA X (e::es) t) (hdb:(x == ("__debug__" : Str))=false:=by decide) (he:starEach (e::es) X.env=(false,eval e X.env)::starEach es X.env:=by rfl) (hpl:(backTo pos (starEach es X.env)).any (·.1)=false:=by rfl) :
  PE X (.Call (.Name x p) (e::es) [] pos) (Jv sp dvs W t):=by
 intro pins s σ H Q I h
 refine wpAny_Call_Name_kw (m5 I hg hm ?_ hdb)
 refine NU (h₀:=X.base) I.ok.mod.kin hk (thn (ha pos pins s σ H _ I h) fun us s1 ⟨vs,H1,I1,r,q⟩=>⟨I1.kIn,?_⟩) he hpl
 exact Kw F hr hb hd ws hx I1 r q
end
end L2
namespace L2
open PySem PySem.Spec PyProof.Rows
structure CalX(P:Program)(w:World)(K:LU)(mg:Str->Option Value)(base:Heap)(k:Nat)(x:Str)(ps:List Str)(sp:Sp)(f:Addr)(fd:FuncData):Prop where
 ok:FnOk P w K mg base (CXr P w) k f fd ps sp
 bn:iG K fd ps []
 mg:mg x=some (.ref f)
 kp:Md K (.ref f)=true
theorem Fun.okX{P:Program}{w:World}{K:LU}{mg:Str->Option Value}{base:Heap}{x qual:Str}{st:Stmt}{f:Addr}{fd:FuncData}{N ps:List Str}{k:Nat}{sp:Sp}(F:Fun K x qual st f fd)(S:aE N ps (ai st))(len:∀ vs H Q E,sp vs H Q E->vs.length=ps.length)
  (hbody:∀(cdv:Value)(A:Around)(outer:List Env)(s:Shared)(H:Hp)(vs:List V)(Q:VK)(E:XK),Room k (A.deeper (envOfC qual (ai st) s.heap.objs.size f cdv))->sp vs H Q E ->
   ∃ t,PSs (cxOf (CXr P w) P w K mg base N qual (ai st) f cdv A outer s H E) (ax st) t/\t { nx:=fun _ H'=>Q .non H',rt:=Q } (rT N vs) H):FnOk P w K mg base (CXr P w) (k+1) f fd ps sp:=by
 obtain⟨oc,od,kV,doc,pm,an,cdv,ct,osl,rfl,lk,hcd⟩:=F.ex
 exact Lw lk hcd S len fun A outer s H vs Q E hr hsp=>hbody cdv A outer s H vs Q E hr hsp
abbrev veM:List Value:=[.type "ValueError",.type "Exception",.type "BaseException",.type "object"]
abbrev ExC(K:LU)(C:Addr):Prop:=Ow K C veM "ValueError.__new__" = true
theorem BY{K:LU}{C:Addr}{h:Heap}(e:ExC K C)(X:K.In h):∃ bm N nm qn bs hdct sn sub ab col dd k0 k1 k2 k3 k5 mN,h.get? C=some (excClassObj nm qn C N bs bm hdct sn sub ab col dd k0 k1 k2 k3 k5 "ValueError.__new__")/\h.Ns N mN/\mN "__init__" = none/\OwnTail h veM bm/\∀ B b,NI K C B=some b->(Value.ref C::bm).contains B=b:=by
 have z:=e
 unfold ExC Ow at z
 split at z
 ·rename_i ddx cdx slx hobj
  split at z
  ·rename_i Cx bmx y0 y1 y2 y3 nx y5 hmro hslots
   have zz:=z
   simp only[Bool.and_eq_true,beq_iff_eq,Bool.not_eq_true']at zz
   obtain⟨⟨⟨⟨⟨eC,eN⟩,edel⟩,etail⟩,ens⟩,einit⟩:=zz
   subst eC
   subst eN
   obtain⟨l⟩:=slx
   have hl:l = [y0,y1,y2,y3,some (.builtin "ValueError.__new__"),y5]:=hslots
   subst hl
   obtain⟨nm,bs,mro,ns,qn,hd,sn,sub,ab,col,del⟩:=cdx
   have hmro':mro=.ref Cx::bmx:=hmro
   have hdel':del=false:=edel
   subst hmro' hdel'
   refine⟨bmx,ns,nm,qn,bs,hd,sn,sub,ab,col,ddx,y0,y1,y2,y3,y5,_,X _ _ hobj,.of_isNs (PySem.W.isNs_of_in X ens),PySem.W.nsMap_none_of_in X ens einit,PySem.W.tail_of_in X etail,fun B b hB=>?_⟩
   unfold NI PySem.W.clsIn at hB
   rw[hobj]at hB
   simpa using hB
  ·cases z
 ·cases z
def tRaise(C:Addr)(W:WK)(t:TA):TS:=fun _ σ H=>t σ H fun vs H1=>vs.length<=sizeLine/\W (.ref C) σ H1
theorem xP{X:Cx}{x:Str}{C:Addr}{e:Expr}{es:List Expr}{t:TA}{W:WK}{np cpos pos:Pos}(ec:ExC X.K C)(hm:X.mg x=some (.ref C))(hg:Gl X x)(ws:Wsh X W)(hx:X.ex = [])(hc:X.calm=true)(ha:PA X (e::es) t)
  (he:starEach (e::es) X.env=(false,eval e X.env)::starEach es X.env:=by rfl) (hpl:(backTo cpos (starEach es X.env)).any (·.1)=false:=by rfl) (hdb:(x == ("__debug__" : Str))=false:=by decide) :
  PS X (.Raise (some (.Call (.Name x np) (e::es) [] cpos)) none pos) (tRaise C W t):=by
 intro pins s σ H D I h
 obtain⟨tl,N,nm,qn,bs,hdct,sn,sub,ab,col,dd,k0,k1,k2,k3,k5,mN,hC,hN,hni,T,_⟩:=BY ec I.ok.mod.kin
 have hpl2:(backTo cpos (starEach (e::es) X.env)).any (·.1)=false:=by
  rw[he]
  show(false||(backTo cpos (starEach es X.env)).any (·.1))=false
  rw[hpl];rfl
 refine wpAny_Raise_call_subT (C:=C) (nm:=nm) (q:=qn) (N:=N) (bs:=bs) (bm:=tl) (hdct:=hdct) (sn:=sn) (sub:=sub) (ab:=ab) (col:=col) (dd:=dd) (k0:=k0) (k1:=k1) (k2:=k2) (k3:=k3) (k5:=k5) PySem.F.excBase_ValueError (mN:=mN) (T.hasType PySem.F.excBase_ValueError.hasBase) (I.ok.hd hc) hpl2 hni (m5 I hg hm ⟨rfl,?_⟩ hdb)
 have z:=ha cpos pins s σ H _ I h
 rw[he]at z ⊢
 refine Calls.evalArgs_plain (wpAny_mono z (fun us s2 zz=>?_) fun _ _ y=>y)
 obtain⟨vs,H1,I2,r,hz,q⟩:=zz
 refine⟨rfl,by rw[← r.length];exact hz,I2.bk _ _ hC,hN.keeps I2.bk,T.keeps I2.bk,fun h' e' hme=>?_⟩
 obtain⟨t0,ht0,_,_⟩:=hme.there
 have I3:Inv X pins σ H1 { s2 with heap:=h' }:=I2.kept (t':=s2.toks) hme.keeps
 exact ws pins σ H1 _ e' (.ref C) I3 ⟨I2.xok hx hme.new (I2.hok.none_of hme.new),.inl ⟨_,_,_,ht0,rfl,rfl,rfl,rfl⟩⟩ q
def excO(x C:Addr):HO:=.ext fun h=>∃ o,h.get? x=some o/\o.cls=.ref C
section
variable{X:Cx}{pins:List (Addr×Obj)}{σ:St}{H:Hp}{s:Shared}{x:Addr}{C:Value}
def Cx.marked(X:Cx)(v:Value):Cx:={ X with A:=X.A.mark (some v),calm:=false,xe:=fun _ _=>False }
theorem Inv.marked(I:Inv X pins σ H s)(v:Value):Inv (X.marked v) pins σ H s :=
 ⟨⟨I.ok.mod,I.ok.kind,I.ok.glob,I.ok.blt,I.ok.above,I.ok.inj,I.ok.has,I.ok.cab,fun z=>(by cases z),I.ok.frames,I.ok.stk,I.ok.exf,I.ok.bs,I.ok.bsz,I.ok.noex,I.ok.exfs,I.ok.funs,I.ok.frf⟩,I.os,I.bare,I.base,I.loc,I.cell,I.free,I.freeC,I.pin,I.hok,I.len⟩
theorem Inv.unmarked{hd:X.calm=true->X.A.handled=none}{fr:X.A.frames=some X.stack}{v:Value}(I:Inv (X.marked v) pins σ H s):Inv X pins σ H s :=
 ⟨⟨I.ok.mod,I.ok.kind,I.ok.glob,I.ok.blt,I.ok.above,I.ok.inj,I.ok.has,I.ok.cab,hd,fr,I.ok.stk,I.ok.exf,I.ok.bs,I.ok.bsz,I.ok.noex,I.ok.exfs,I.ok.funs,I.ok.frf⟩,I.os,I.bare,I.base,I.loc,I.cell,I.free,I.freeC,I.pin,I.hok,I.len⟩
theorem Inv.gone{i:Nat}{n:Str}{h':Heap}{tk:Nat}{m:Str->Option Value}{v:Option Value}(I:Inv X pins σ H s)(hN:X.N.Nodup)(hi:X.N[i]?=some n)(hm:s.heap.Ns X.env.locals m/\∀ (i:Nat) (x:Str) (v:V),X.N[i]?=some x->σ[i]?=some (some v)->Vis X.env.scope x->∃ u,RelV v u/\Look X.env s.heap m x u)
  (hn:h'.Ns X.env.locals (fun y=>if y=n then v else m y)) (hs:Heap.SameBut X.env.locals s.heap h'):Inv X pins (σ.set i none) H { s with heap:=h',toks:=tk }:=by
 have lo:∀ b o,X.s₀.heap.get? b=some o->b≠X.env.locals:=fun b o e=>ME (MF (Heap.lt_size e) I.ok.above)
 obtain⟨oL,_,_,hoL,_⟩:=id hm.1
 refine⟨I.ok,I.os,I.bare,⟨fun b o e n1 hb hx=>(hs.2 b (lo b o e)).trans (I.base.keep b o e n1 hb hx),fun b o e n1 hb hx=>?_,I.base.free,fun b o e hx=>?_,I.base.tups,I.base.frzs,I.base.tbls⟩,⟨_,hn,fun j y w' e1 e2 e3=>?_⟩,fun y c e=>?_,I.free,I.freeC,fun p hp=>?_,fun b u e=>?_,by simpa using I.len⟩
 ·obtain⟨sl,q⟩:=I.base.slot b o e n1 hb hx
  exact⟨sl,(hs.2 b (lo b o e)).trans q⟩
 ·obtain⟨o',q⟩:=I.base.there b o e hx
  exact⟨o',(hs.2 b (lo b o e)).trans q⟩
 ·by_cases hj:j=i
  ·subst hj
   rw[MO]at e2
   split at e2
   ·split at e2<;>cases e2
   ·rename_i z;exact absurd rfl z
  ·rw[Nq (Ne.symm hj)]at e2
   obtain⟨u',r',l'⟩:=hm.2 j y w' e1 e2 e3
   refine⟨u',r',?_⟩
   rcases l' with⟨kk,e⟩ | ⟨kk,c,e,z⟩
   ·refine .inl ⟨kk,?_⟩
    have ny:y≠n:=fun q=>hj (vI hN e1 (q▸hi))
    show(if y=n then v else m y)=some u'
    rw[if_neg ny];exact e
   ·exact .inr ⟨kk,c,e,z.sameBut hs (I.cne y c e)⟩
 ·obtain⟨w2,z⟩:=I.cell y c e
  exact⟨w2,z.sameBut hs (I.cne y c e)⟩
 ·obtain⟨e,n1,ne,nf,d⟩:=I.pin p hp
  exact⟨(hs.2 p.1 ne).trans e,n1,ne,nf,d⟩
 ·refine(I.hok b u e).stay (fun c v2 hc q=>(hs.2 c fun z=>?_).trans q) (fun _ q=>q) fun _ _ q=>q
  have fr:=I.free
  rcases hc with y | y
  ·rw[← y,z,fr]at e;cases e
  ·rw[z,fr]at y;cases y
end
section
variable{M:Model}{A:Around}{E:Value->Shared->Prop}{h:Heap}{g:Array GenState}{d:Drawn}{t:Nat}{os:OsState}
theorem exc_up{C D:Addr}{nm qn nm2 qn2:Str}{N N2:Addr}{bs bm bs2 bm2:List Value}{hdct hdct2:Bool}{sn sn2:List Str}{sub sub2:List Value}{ab ab2:Bool}{col col2:Option Bool}{dd dd2:Option Addr}{k0 k1 k2 k3 k5 j0 j1 j2 j3 j5:Option Value}{id1 id2:String}{x:Addr}{ob:Obj}{Q:Bool->Shared->Prop}
  (hC:h.get? C=some (excClassObj nm qn C N bs bm hdct sn sub ab col dd k0 k1 k2 k3 k5 id1)) (hD:h.get? D=some (excClassObj nm2 qn2 D N2 bs2 bm2 hdct2 sn2 sub2 ab2 col2 dd2 j0 j1 j2 j3 j5 id2)) (hob:h.get? x=some ob) (hcl:ob.cls=.ref C)
  (hDB:(Value.ref D::bm2).contains (.type "BaseException")=true) (hCD:(Value.ref C::bm).contains (.ref D)=true) (hq:Q true ⟨h,g,d,t,os⟩):wpAny M A (excMatches (.ref x) (.ref D)) Q E ⟨h,g,d,t,os⟩:=by
 have ntup:=tc_notTuple
 unfold excMatches
 repeat (first | (with_reducible refine wpAny_loadPart_at hob ?_;rw[hcl]) | with_reducible refine wpAny_loadPart_at hD ?_ | (with_reducible refine wpAny_isSubtype_exc hD ?_;rw[hDB]) | (with_reducible refine wpAny_isSubtype_exc hC ?_;rw[hCD]) | wp_step)
 exact hq
end
def Cx.tried(X:Cx)(pins:List (Addr×Obj))(E:Value->Shared->Prop):Cx:={ X with pn:=X.pn++pins,xe:=E }
section
variable{X:Cx}{pins pins':List (Addr×Obj)}{σ:St}{H:Hp}{s:Shared}{E:Value->Shared->Prop}{b:Addr}
theorem Inv.tried(I:Inv X pins σ H s):Inv (X.tried pins E) [] σ H s :=
 ⟨⟨I.ok.mod,I.ok.kind,I.ok.glob,I.ok.blt,I.ok.above,I.ok.inj,I.ok.has,I.ok.cab,I.ok.hd,I.ok.frames,I.ok.stk,I.ok.exf,I.ok.bs,I.ok.bsz,I.ok.noex,I.ok.exfs,I.ok.funs,I.ok.frf⟩,I.os,I.bare,I.base,I.loc,I.cell,I.free,I.freeC,fun p hp=>I.pin p (by rw[NH]at hp;exact hp),I.hok,I.len⟩
theorem Inv.untried(I:Inv (X.tried pins E) pins' σ H s):Inv X pins σ H s :=
 ⟨⟨I.ok.mod,I.ok.kind,I.ok.glob,I.ok.blt,I.ok.above,I.ok.inj,I.ok.has,I.ok.cab,I.ok.hd,I.ok.frames,I.ok.stk,I.ok.exf,I.ok.bs,I.ok.bsz,I.ok.noex,I.ok.exfs,I.ok.funs,I.ok.frf⟩,I.os,I.bare,I.base,I.loc,I.cell,I.free,I.freeC,fun p hp=>I.pin p (MC _ hp),I.hok,I.len⟩
theorem XOk.untried(x:XOk (X.tried pins E) pins' H b):XOk X pins H b:=⟨x.old,x.trk,x.nl,x.nc,fun p hp=>x.np p (MC _ hp)⟩
theorem SP.untried{D:Ends}{f:Flow}(h:SP (X.tried pins E) [] D f s):SP X pins D f s:=by
 cases f with
 |next=>obtain⟨σ',H',I,q⟩:=h;exact⟨σ',H',I.untried,q⟩
 |brk=>obtain⟨σ',H',I,q⟩:=h;exact⟨σ',H',I.untried,q⟩
 |cont=>obtain⟨σ',H',I,q⟩:=h;exact⟨σ',H',I.untried,q⟩
 |ret u=>obtain⟨v,σ',H',I,r,q⟩:=h;exact⟨v,σ',H',I.untried,r,q⟩
end
def WshT(X:Cx)(W:WK):Prop:=∀(pins:List (Addr×Obj))(σ:St)(H:Hp)(s:Shared)(x T:Addr)(C:Value),Inv X pins σ H s->XOk X pins H x->XOk X pins H T->Trc s.heap x C T->W C σ H->X.xe (.ref x) s
section
variable{X:Cx}{k:Nat}{f:Addr}{fd:FuncData}{ps:List Str}{sp:Sp}{dvs:List V}{ds:List Value}{W:WK}{x:Str}{p pos:Pos}{e:Expr}{es:List Expr}{t:TA}
theorem IB(F:FnOk X.prog X.w X.K X.mg X.base (CXr X.prog X.w) k f fd ps sp)(hr:Room k X.A)(hg:Gl X x)(hm:X.mg x=some (.ref f))(hk:Md X.K (.ref f)=true)(hb:iG X.K fd ps ds)(hd:Vals dvs ds)(ws:WshT X W)(hx:X.ex = [])
  (ha:PA X (e::es) t) (hdb:(x == ("__debug__" : Str))=false:=by decide) (he:starEach (e::es) X.env=(false,eval e X.env)::starEach es X.env:=by rfl) (hpl:(backTo pos (starEach es X.env)).any (·.1)=false:=by rfl) :
  PE X (.Call (.Name x p) (e::es) [] pos) (Jv sp dvs W t):=by
 intro pins s σ H Q I h
 refine wpAny_Call_Name_kw (m5 I hg hm ?_ hdb)
 refine NU (h₀:=X.base) I.ok.mod.kin hk (thn (ha pos pins s σ H _ I h) fun us s1 ⟨vs,H1,I1,r,q⟩=>⟨I1.kIn,?_⟩) he hpl
 have r2:Vals (vs++dvs) (us++ds):=r.append hd
 have hl:(us++ds).length=ps.length:=by rw[← r2.length];exact F.len _ _ _ _ q
 refine wpAny_call (codeAny_mono (F.run X.A X.stack s1 H1 ⟨us,[]⟩ (us++ds) (vs++dvs) Q _ hr I1.env0 (hb s1 us I1.kIn hl) r2 q) fun r s' hq=>?_)
 cases r with
 |error e =>
  obtain⟨x,C,T,H',rfl,os,bare,un,hok,nx,nT,tx,tT,tr,q'⟩:=hq
  have I':Inv X pins σ H' s':=I1.call' os un hok bare fun b z=>absurd z (by simp)
  exact ws pins σ H' s' x T C I' (I1.xok hx nx tx) (I1.xok hx nT tT) tr q'
 |ok fl =>
  cases fl with
  |ret u=>exact I1.after hq
  |next=>exact False.elim hq
  |brk=>exact False.elim hq
  |cont=>exact False.elim hq
end
def tTryAs(ie:Nat)(Cs:Addr->Prop)(tb:WK->TS)(ts:TS):TS:=fun Ds σ H=>tb (fun C σ1 H1=>∃ c,C=.ref c/\Cs c/\∀ x,H1 x=none->ts { nx:=fun σ2 H2=>Ds.nx (σ2.set ie none) H2,rt:=fun _ _=>False } (σ1.set ie (some (.ref x))) (upd H1 x (excO x c))) Ds σ H
theorem Ir{X:Cx}{body:List Stmt}{b0:Stmt}{suite:List Stmt}{dn en:Str}{np hpos pos:Pos}{D:Addr}{ie:Nat}{Cs:Addr->Prop}{tb:WK->TS}{ts:TS}(hx:X.ex = [])(hst:X.stack=X.env::X.outer)(hfr:X.env.frame=some X.env.locals)(hN:X.N.Nodup)(hi:X.N[ie]?=some en)(hl:X.env.kindOf en=some .local)
  (hgD:Gl X dn) (hmD:X.mg dn=some (.ref D)) (eD:ExC X.K D) (hCs:∀ c,Cs c->ExC X.K c/\NI X.K c (.ref D)=some true)
  (hb:∀ pins XE W,WshT (X.tried pins XE) W->PSs (X.tried pins XE) body (tb W)) (hs:∀ v,PSs (X.marked v) (b0::suite) ts) (hdb:(dn == ("__debug__" : Str))=false:=by decide) :
  PS X (.Try body [.ExceptHandler (some (.Name dn np)) (some en) (b0::suite) hpos] [] [] pos) (tTryAs ie Cs tb ts):=by
 intro pins s σ H Ds I h
 refine wpAny_Try_except ?_
 refine wpAny_mono (hb pins (fun e s₁=>wpAny (model X.prog X.w) X.A (noteFrame e X.env) (fun _ s₂=>wpAny (model X.prog X.w) X.A (setFlight e none) (fun _ s₃=>wpAny (model X.prog X.w) X.A (handleBy e X.env [.ExceptHandler (some (.Name dn np)) (some en) (b0::suite) hpos]) (SP X pins Ds) X.xe s₃) X.xe s₂) X.xe s₁) _ ?_ [] s σ H Ds I.tried h) (fun f s1 q=>?_) fun _ _ z=>z
 ·intro pins' σ1 H1 s1 x T C I1 xx xT tr hw
  obtain⟨c,rfl,hc,hts⟩:=hw
  have I2:Inv X pins σ1 H1 s1:=I1.untried
  have x2:XOk X pins H1 x:=xx.untried
  have T2:XOk X pins H1 T:=xT.untried
  have frm:X.A.frames=some (X.env::X.outer):=by rw[← hst];exact I2.ok.frames
  have fly:∀{h:Heap}{T:Addr},Inv X pins σ1 H1 { s1 with heap:=h }->Trc h x (.ref c) T->∃ a0,Heap.FlyingW (hidX X h [x,T]) (X.env::X.outer) x (.ref c) a0 h:=fun{h T} J tr=>by
   obtain⟨oe,vs,a0,oT,ts,he,hcl,h0,hd,h1,hTe,hT,hdT,h3⟩:=tr
   exact⟨a0,GH _ _,l8 (by simp),hst▸J.hidF [x,T],⟨oe,vs,T,oT,ts,he,⟨hcl,h0⟩,hd,h1,l8 (by simp),hTe,hT,hdT,h3⟩⟩
  have two:∀{T:Addr},XOk X pins H1 T->∀ b∈[x,T],XOk X pins H1 b:=fun{T} hT b hb=>by
   rcases LZ.mp hb with e | hb
   ·rw[e];exact x2
   ·have e:b=T:=by simpa using hb
    rw[e];exact hT
  obtain⟨a0,fl⟩:=fly (h:=s1.heap) I2 tr
  refine wpAny_looks_onW frm hfr fl fun h4 held4 up4=>?_
  refine wpAny_landsW held4 fun h5 fl5 up5=>?_
  obtain⟨I5,T5,xT5,tr5⟩:=I2.left hx (two T2) fl5.1 fl5.2.2.2 (up4.trans up5)
  refine wpAny_handleBy_cons (codeAny_handlers_test (Calls.Name_function_global I5.ok.kind hgD (Calls.loadGlobal_global (by rw[I5.ok.glob];exact I5.mod.glob.keeps I5.bk) hmD ?_) hdb)) (by intro q;cases q)
  obtain⟨e1,e2⟩:=hCs c hc
  obtain⟨_,_,_,_,_,_,_,_,_,_,_,_,_,_,_,_,_,hC,_,_,_,mC⟩:=BY e1 I5.kIn
  obtain⟨_,_,_,_,_,_,_,_,_,_,_,_,_,_,_,_,_,hD,_,_,TD,_⟩:=BY eD I5.kIn
  have hDB:=TD.hasType (X:="BaseException") (b:=true) rfl
  obtain⟨ob,_,_,_,_,hob,hcl,_⟩:=id tr5
  refine exc_up hC hD hob hcl (by rw[List.contains_cons,hDB,Bool.or_true]) (mC _ _ e2) ?_
  refine codeAny_handlers_suite_as ?_
  obtain⟨a5,fl5'⟩:=fly I5 tr5
  refine lands_againW (s:={ s1 with heap:=h5 }) fl5' fun h6 fl6 up6=>?_
  obtain⟨I6,T6,xT6,tr6⟩:=I5.left hx (two xT5) fl6.1 fl6.2.2.2 up6
  obtain⟨oe,_,_,_,_,he,hcl6,_⟩:=id tr6
  have I7:=I6.xtrack (o:=excO x c) x2 ⟨⟨oe,he,hcl6⟩,⟨oe,he⟩,fun h1 h2 ⟨o,z1,z2⟩ kk=>⟨o,kk o z1,z2⟩⟩
  refine pL I7 hN hi (.inl hl) (v:=.ref x) rfl (fun s8 I8=>?_) (.inr hl)
  refine wpAny_mono (hs (.ref x) pins s8 _ _ _ (I8.marked _) (hts x x2.trk)) (fun f s9 q9=>?_) fun _ _ z=>z.elim
  cases f with
  |next =>
   obtain⟨σ9,H9,I9,q9⟩:=q9
   have I9':Inv X pins σ9 H9 s9:=Inv.unmarked (hd:=I2.ok.hd) (fr:=I2.ok.frames) I9
   obtain⟨m,hm⟩:=I9'.loc
   refine wpAny_nameGoes_keeps hl hm.1 (by rw[I9'.ok.kind];rfl) fun h' v hn hss=>?_
   exact⟨_,_,I9'.gone hN hi hm hn hss,q9⟩
  |brk=>obtain⟨_,_,_,z⟩:=q9;exact z.elim
  |cont=>obtain⟨_,_,_,z⟩:=q9;exact z.elim
  |ret u=>obtain⟨_,_,_,_,_,z⟩:=q9;exact z.elim
 ·have q':=SP.untried q
  cases f with
  |next=>exact wpAny_execs_nil q'
  |brk=>exact q'
  |cont=>exact q'
  |ret u=>exact q'
theorem Gu{K:LU}{x c:Value}{Hh:Heap->Prop}(ty:∀ (M:Model) (h:Heap),Hh h->PySem.W.Looks M h (typeOf x) c):Answers (fun s=>Hh s.heap) x c true:=by
 intro dep tk prog w A R s hs
 obtain⟨h0,g,d,tt,os⟩:=s
 obtain⟨p,hq⟩:=hs
 have LT:=ty (model prog w) h0 p
 unfold Builtin.«isinstance.nested»
 refine wpAny_bind (LT.at ?_)
 rw[if_pos (by simp)]
 first
  |exact wpAny_bind (wpAny_rule (hq tt))
  |exact wpAny_bind (wpAny_rule (wpAny_pure (hq tt)))
  | ((repeat lk);exact hq tt)
end L2
namespace L2
open PySem PySem.Spec PyProof.Rows
theorem Hm{X:Cx}:j4 X (.builtin "isinstance") (fun xs H Q=>∃ x c,xs = [.ref x,.ref c]/\H x=some (excO x c)/\Q (.bl true) H):=by
 intro pins s σ H xs us Q I r h
 obtain⟨x,c,rfl,hx,q⟩:=h
 obtain⟨v1,v2,rfl,r1,r2⟩:=HY r
 cases r1
 cases r2
 obtain⟨⟨o,e,hc⟩,_,_⟩:=(show bJ X.prog X.w H s.heap x (excO x c) from I.hok x _ hx)
 have an:=Gu (K:=X.K) (x:=.ref x) (c:=.ref c) (Hh:=fun h=>∃ o,h.get? x=some o/\o.cls=.ref c) fun M h ⟨o,z1,z2⟩=>z2▸(PySem.W.Looks.ld z1).andThen .now
 exact call_isinstance (S:=fun _ R s=>(∃ o,s.heap.get? x=some o/\o.cls=.ref c)/\∀ tk,R (.ok (.ret (.bool true))) { s with toks:=tk }) (fun prog w A R s hs=>isinstance_outer (an 0 _ prog w A R s hs) (by intro z;cases z)) ⟨⟨o,e,hc⟩,fun tk=>⟨.bl true,H,I.tok tk,rfl,q⟩⟩
end L2
namespace L2
open PySem PySem.Spec PyProof.Rows
section
variable{prog:Program}{w:World}{A:Around}{E:Value->Shared->Prop}{s:Shared}
end
end L2
namespace L2
open PySem PySem.Spec PyProof.Rows
section
variable{prog:Program}{w:World}{A:Around}{E:Value->Shared->Prop}{s:Shared}
end
section
variable{X:Cx}
theorem Inv.track{pins:List (Addr×Obj)}{σ:St}{H:Hp}{s:Shared}{a:Addr}{o:HO}(I:Inv X pins σ H s)(f:FpOk X pins H a)(new:bJ X.prog X.w (upd H a o) s.heap a o):Inv X pins σ (upd H a o) s:=by
 obtain⟨f0,f1,f2,f3,f4,f5⟩:=f
 have ne:∀ b u,H b=some u->b≠a:=fun b u e=>aB e f0
 refine I.step (g':=s.gens) (t':=s.toks) (d':=s.drawn) (h':=s.heap) (ch:=[a]) (fun b hb=>?_) (fun b o _ _ _ e _=>e) (fun b o _ _ _ e _=>⟨o.slots,e⟩) (fun b o hc e n=>?_) (fun b o _ e=>⟨o,e⟩) (fun b xs e=>by rw[aq (ne b _ e)];exact e) (fun b o u e=>by rw[aq (ne b _ e)];exact e)
  (fun b ps e=>⟨#[],by rw[aq (ne b _ e),e];simp⟩) (fun m hm=>hm) (fun b u e=>?_) I.bare
 ·have eb:b=a:=by simpa using hb
  rw[eb]
  exact⟨f3,f1,f4,f5⟩
 ·rw[aq (fun z=>hc (by simp[z]))]
  exact n
 ·by_cases hb:b=a
  ·rw[hb,ae]at e
   cases e
   rw[hb]
   exact new
  ·rw[aq hb]at e
   exact(I.hok b u e).stay (fun c v _ q=>q) (fun c q=>by rw[aq (ne c _ q)];exact q) fun c xs q=>by rw[aq (ne c _ q)];exact q
end
end L2
namespace L2
open PySem PySem.Spec PyProof.Rows
section
variable{X:Cx}
theorem yM{P:Program}{w:World}:∀{kvs:List (Key×V)}{vs:List (Key×Value)}{us:List Value},KV kvs vs->us.length=vs.length->(∀(j:Nat)(v:Value),us[j]?=some v->∃ k x,vs[j]?=some (k,x)/\(bM P w).is k v=true)->Vals (kvs.map fun q=>kV q.1) us
 |_,_,[],.nil,_,_=>.nil
 |_,_,_::_,.nil,e,_=>by cases e
 |_,_,[],.cons _ _,e,_=>by cases e
 |_,_,u::us,.cons (a:=p) (b:=q) r rr,e,k=>by
  obtain⟨kk,x,e1,e2⟩:=k 0 u rfl
  have eq:q=(kk,x):=Mq e1
  have hk:p.1=kk:=by rw[r.1,eq]
  refine .cons ?_ (yM rr (O1 e) fun j v ej=>k (j+1) v ej)
  show RelV (kV p.1) u
  rw[hk]
  rcases aZ (show vS kk u=true from e2) with⟨i,t,rfl,rfl⟩ | ⟨z,t,rfl,rfl⟩
  ·exact⟨t,rfl⟩
  ·exact⟨t,rfl⟩
end
end L2
namespace L2
open PySem PySem.Spec PyProof.Rows
theorem Inv.turnedL{X:Cx}{pins:List (Addr×Obj)}{σ:St}{H:Hp}{s:Shared}{h':Heap}{t':Nat}{fp:List Addr}(I:Inv X pins σ H s)(k:∀ b o,b∉fp->s.heap.get? b=some o->h'.get? b=some o)(hf:∀ b∈fp,FpOk X pins H b):Inv X pins σ H { s with heap:=h',toks:=t' }:=by
 have nit:∀ b u,H b=some u->b∉fp:=fun b u e z=>by rw[(hf b z).1]at e;cases e
 refine I.step (g':=s.gens) (d':=s.drawn) (ch:=fp) (fun b hb=>?_) (fun b o _ _ hc e _=>k b o hc e) (fun b o _ _ hc e _=>⟨o.slots,k b o hc e⟩) (fun _ _ _ _ n=>n)
  (fun b o hc e=>⟨o,k b o hc e⟩) (fun _ _ e=>e) (fun _ _ _ e=>e) (fun b ps e=>⟨#[],by rw[e];simp⟩) (fun m hm=>?_) (fun b u e=>?_) I.bare
 ·obtain⟨f0,f1,f2,f3,f4,f5⟩:=hf b hb
  exact⟨f3,f1,f4,f5⟩
 ·obtain⟨o,es,ep,ho,r⟩:=hm
  exact⟨o,es,ep,k _ o (fun z=>(hf _ z).2.1 rfl) ho,r⟩
 ·refine(I.hok b u e).stay (fun c v hc q=>k c v ?_ q) (fun _ q=>q) fun _ _ q=>q
  rcases hc with z | z
  ·rw[z];exact nit b u e
  ·exact nit c _ z
def Ite(K:LU)(a:Addr):It :=
 ⟨fun i H=>∃ xs x,SqL K H a xs/\xs[i]?=some x,fun i H v H'=>∃ T x,H T=none/\v=.ref T/\H'=upd H T (.tup [.int (i:Int),x])/\∀ xs,SqL K H a xs->xs[i]?=some x,fun i H=>∃ xs,SqL K H a xs/\xs.length<=i⟩
theorem E3{P:Program}{w:World}{K:LU}{es:List Expr}{k:Nat}{pos:Pos}(a e it:Addr)(hei:e≠it):Turn P w K (.Tuple es k pos) (Ite K a) [e,it] e (fun i h=>(∃ old,IsEnum h e it ((i:Nat):Int) old)/\h.IsListIter it a i) where
 mem:=by simp
 obj:=fun i h st b hb=>by
  obtain⟨⟨old,he⟩,o,e2,c,d⟩:=st
  rcases LZ.mp hb with rfl | hb
  ·exact⟨_,he,fun v z=>by
    have z':Data.fields _=Data.cell v:=z
    cases z'⟩
  ·have e3:b=it:=by simpa using hb
   subst e3
   exact⟨o,e2,fun v z=>by rw[d]at z;cases z⟩
 keep:=fun i h h' st kk=>by
  obtain⟨⟨old,he⟩,hit⟩:=st
  exact⟨⟨old,kk e (by simp) _ he⟩,hit.at fun o q=>kk it (by simp) o q⟩
 item:=by
  intro X hP hw hK hc i pins s σ H E I hf st hg
  subst hP hw hK
  obtain⟨xs,x,hq,hx⟩:=hg
  obtain⟨its,rv,p,hz⟩:=I.list hq
  obtain⟨u,hu,ru⟩:=rv.get hx
  obtain⟨⟨old,he⟩,hit⟩:=st
  refine wpAny_pyNext_enum_item he hit p.isList (x:=u) (by simpa using hu) hei fun h' ho hit' hT hsz hk=>?_
  refine⟨_,rfl,?_⟩
  refine wpAny_letOwnedTupleGo_enum ho fun h2 he2 hs2=>?_
  have hs2':Heap.SameBut e h' h2:=hs2
  have hel:e<s.heap.objs.size:=Heap.lt_size he
  have hil:it<s.heap.objs.size:=by obtain⟨_,q,_⟩:=hit;exact Heap.lt_size q
  have hfr:H s.heap.objs.size=none:=I.hok.fresh (Ma _)
  have I0:Inv X pins σ (upd H s.heap.objs.size (.tup [.int (i:Int),x])) { s with heap:=s.heap.push { cls:=.type "tuple",data:=.seq #[.int (i:Int) s.toks,u] },toks:=s.toks+1 } :=
   I.laid (t':=s.toks+1) (fun b u e=>Heap.get?_push_of_some _ e) (Ma _) ⟨by show 2<=sizeLine;decide,[.int (i:Int) s.toks,u],.cons ⟨_,rfl⟩ (.cons ru .nil),⟨_,Heap.get?_push_size _ rfl,rfl,_,rfl⟩⟩
  have hfb:∀ b∈[e,it],b<s.heap.objs.size:=fun b hb=>by
   rcases LZ.mp hb with rfl | hb
   ·exact hel
   ·have e3:b=it:=by simpa using hb
    rw[e3];exact hil
  have hn:∀ b∈[e,it],upd H s.heap.objs.size (.tup [.int (i:Int),x]) b=none:=fun b hb=>by
   rw[aq (ME (hfb b hb))]
   exact(hf b hb).1
  have I2:Inv X pins σ (upd H s.heap.objs.size (.tup [.int (i:Int),x])) { s with heap:=h2,toks:=s.toks+1 }:=Inv.turnedL (s:={ s with heap:=s.heap.push { cls:=.type "tuple",data:=.seq #[.int (i:Int) s.toks,u] },toks:=s.toks+1 }) (h':=h2) I0 (t':=s.toks+1) (fp:=[e,it]) (fun b o hb q=>by
   have nb:b≠e:=fun z=>hb (by simp[z])
   have nb2:b≠it:=fun z=>hb (by simp[z])
   refine(hs2'.2 b nb).trans ?_
   rcases Heap.get?_push_cases q with⟨z1,z2⟩ | q
   ·rw[z1,z2];exact hT
   ·exact hk b o nb nb2 q) fun b hb=>⟨hn b hb,(hf b hb).2⟩
  refine⟨.ref s.heap.objs.size,_,I2,rfl,⟨s.heap.objs.size,x,hfr,rfl,rfl,fun ys hy=>by rw[I.list_inj hy hq];exact hx⟩,?_,hn⟩
  refine⟨⟨u,?_⟩,hit'.at fun o q=>(hs2'.2 it (Ne.symm hei)).trans q⟩
  have e4:(((i+1:Nat):Nat):Int)=(i:Int)+1:=by omega
  rw[e4]
  exact he2
 done:=by
  intro X hP hw hK hc i pins s σ H E I hf st hg
  subst hP hw hK
  obtain⟨xs,hq,hx⟩:=hg
  obtain⟨its,rv,p,hz⟩:=I.list hq
  obtain⟨⟨old,he⟩,hit⟩:=st
  have hl:=rv.length
  obtain⟨f0,f1,f2,f3,f4,f5⟩:=hf it (by simp)
  exact wpAny_pyNext_enum_end (I.ok.hd hc) he hit p.isList (by simp;omega) fun h' eb=>⟨rfl,I.turned (t':=s.toks) (fun b o hb e=>eb b o hb e) f0 f1 f3 f4 f5⟩
 self:=fun _ _ _ _ _ st h=>by
  obtain⟨⟨old,he⟩,_⟩:=st
  exact wpAny_pyIter_enum he h
section
variable{X:Cx}
def iEnum(K:LU)(ta:TA):TI:=fun σ H R=>ta σ H fun vs H1=>∃ a,vs = [.ref a]/\(∃ xs,SqL K H1 a xs)/\R (Ite K a) H1
theorem FG{l:Expr}{ta:TA}{es:List Expr}{k:Nat}{tp p pos:Pos} (hg:Gl X "enumerate") (hm:X.mg "enumerate" = none) (ha:PA X [l] ta) (hs:starEach [l] X.env = [(false,eval l X.env)]:=by rfl) :
  PI X (.Tuple es k tp) (.Call (.Name "enumerate" p) [l] [] pos) (iEnum X.K ta):=by
 intro pins s σ H R I h
 refine Call_ (j9 I hg hm zF (PyProof.Rows.callWith_type1 (thn (ha pos pins s σ H _ I h) fun us s1 ⟨vs,H1,I1,r1,q1⟩=>?_) hs rfl))
 obtain⟨a,e,⟨xs,hq⟩,q⟩:=q1
 subst e
 obtain⟨u,rfl,ru⟩:=rQ r1
 cases ru
 obtain⟨its,rv,p,hz⟩:=I1.list hq
 refine call_enumerate_list p.isList fun h' he hit hsz hk=>?_
 refine wpAny_pyIter_enum he ?_
 refine⟨s1.heap.objs.size+1,[s1.heap.objs.size+1,s1.heap.objs.size],_,_,H1,rfl,I1.kept (t':=s1.toks) hk,E3 a _ _ (Nat.succ_ne_self _),⟨⟨_,he⟩,hit⟩,fun b hb=>?_,q⟩
 have hb':s1.heap.objs.size<=b:=by
  rcases LZ.mp hb with rfl | hb
  ·exact N3 _
  ·have e3:b=s1.heap.objs.size:=by simpa using hb
   rw[e3];exact Ma _
 exact I1.fpOk hb' (I1.hok.fresh hb')
end
theorem Dn{K:LU}{a:Addr}{xs:List V}{g:TG}{tb:TS}{D:Ends}{σ:St}{H:Hp}(Pv:Nat->St->Hp->Prop)(h0:Pv 0 σ H)(hl:∀ i σ H,i<=xs.length->Pv i σ H->SqL K H a xs)
  (hs:∀ i x σ H T,xs[i]?=some x->Pv i σ H->H T=none->g (.ref T) σ (upd H T (.tup [.int (i:Int),x])) fun σ2 H2=>tb { D with nx:=Pv (i+1),ct:=Pv (i+1),bk:=D.nx } σ2 H2) (hd:∀ σ H,Pv xs.length σ H->D.nx σ H) :
  ∃ W:Nat->Nat->St->Hp->Prop,(∃ m,W 0 m σ H)/\∀ i m σ H,W i m σ H ->
   ((Ite K a).stop i H/\D.nx σ H)∨((Ite K a).go i H/\∃ N:St->Hp->Prop,(∀ σ' H',N σ' H'->∃ m',m'<m/\W (i+1) m' σ' H')/\∀ x H',(Ite K a).yld i H x H'->g x σ H' fun σ2 H2=>tb { D with nx:=N,ct:=N,bk:=D.nx } σ2 H2):=by
 refine⟨fun i m σ H=>m=xs.length-i/\i<=xs.length/\Pv i σ H,⟨xs.length,by simp,Na _,h0⟩,?_⟩
 rintro i m σ H ⟨rfl,hi,p⟩
 have q:=hl i σ H hi p
 by_cases hlt:i<xs.length
 ·refine .inr ⟨⟨xs,xs[i],q,by simp[hlt]⟩,Pv (i+1),fun σ' H' p'=>⟨xs.length-(i+1),by omega,rfl,hlt,p'⟩,fun v H' y=>?_⟩
  obtain⟨T,x,hT,rfl,rfl,y⟩:=y
  exact hs i x σ _ T (y xs q) p hT
 ·have e:i=xs.length:=by omega
  subst e
  exact .inl ⟨⟨xs,q,Ma _⟩,hd σ H p⟩
end L2
namespace L2
open PySem PySem.Spec PyProof.Rows
section
variable{X:Cx}
end
theorem qJ{n j:Nat}(h:j<n):ixN n (j:Int)=some j:=by
 unfold ixN
 rw[if_pos (by omega),if_pos (by omega)]
 rfl
end L2
namespace L2
open PySem PySem.Spec PyProof.Rows
theorem i9:∀{ds:List PyData},(∀ d∈ds,d.canLay0=true)->PyData.canLayAll0 ds=true
 |[],_=>by simp[PyData.canLayAll0]
 |d::ds,h=>by
  rw[PyData.canLayAll0,h d (by simp),i9 fun x hx=>h x (by simp[hx])]
  rfl
theorem kZ{n:Nat}:∀{ds:List PyData},(∀ d∈ds,d.depth<=n)->PyData.depthAll ds<=n
 |[],_=>by simp[PyData.depthAll]
 |d::ds,h=>by
  have h1:=h d (by simp)
  have h2:=kZ (ds:=ds) fun x hx=>h x (Ml _ hx)
  rw[PyData.depthAll]
  omega
theorem qb{ds:List PyData}(h:∀ d∈ds,d.canLay0=true/\d.depth<=10):SeqAt.shaped (.list ds)=true:=by
 have h1:=i9 fun d hd=>(h d hd).1
 have h2:=kZ fun d hd=>(h d hd).2
 have h3:PyData.depth (.list ds)<=64:=by simp only[PyData.depth];omega
 show(PyData.canLay0 (.list ds)&&decide (PyData.depth (.list ds)<=64))=true
 rw[Bool.and_eq_true]
 exact⟨by simp only[PyData.canLay0];exact h1,decide_eq_true h3⟩
end L2
namespace L2
open PySem PySem.Spec PyProof.Rows
def cxG(X:Cx)(scope:Scope)(fr:List (Str×Nat))(xs:List Str)(C:Addr)(ex:List Addr)(s:Shared)(H:Hp):Cx where
 prog:=X.prog
 w:=X.w
 K:=X.K
 mg:=X.mg
 base:=X.base
 A:=X.A
 N:=xs++fr.map (·.1)
 s₀:=s
 H₀:=H
 env:=compEnvC scope (clOf X.env fr) C X.env
 outer:=X.stack
 stack:=X.stack
 ex:=ex
 fn:=fun _=>false
 calm:=X.calm
 pn:=[]
 xe:=fun _ _=>False
structure tN(X:Cx)(scope:Scope)(fr:List (Str×Nat))(xs:List Str):Prop where
 clos:closureFor scope X.env=pure (clOf X.env fr)
 cell:∀ y∈scope.names,y.2≠.cell
 kind:scope.kind=.function
 names:∀ y∈scope.names,y.2=.local->scope.names.lookup y.1=some .local
 slot:∀ p∈fr,X.N[p.2]?=some p.1/\X.env.kindOf p.1=some .cell
 has:∀ y∈(relabel scope X.env).names,(y.2=.cell∨y.2=.free)->y.1∈fr.map (·.1)
 frk:∀ p∈fr,(relabel scope X.env).names.lookup p.1=some .cell
theorem tN.of{X:Cx}{scope:Scope}{fr:List (Str×Nat)}{xs:List Str}(clos:closureFor scope X.env=pure (clOf X.env fr))(cell:∀ y∈scope.names,y.2≠.cell)(kind:scope.kind=.function)(names:∀ y∈scope.names,y.2=.local->scope.names.lookup y.1=some .local)
  (slot:∀ p∈fr,X.N[p.2]?=some p.1/\X.env.kindOf p.1=some .cell) (nf:∀ z∈scope.names,z.2=.free->z.1∈fr.map (·.1)) (frk:∀ p∈fr,(relabel scope X.env).names.lookup p.1=some .cell):tN X scope fr xs where
 clos:=clos
 cell:=cell
 kind:=kind
 names:=names
 slot:=slot
 has:=fun z hz hk=>by
  obtain⟨⟨n,k⟩,hm,e⟩:=Mj.mp (show z∈scope.names.map _ from hz)
  have h2:=cell _ hm
  dsimp only at e h2
  have hn:z.1=n:=by rw[← e];split<;>rfl
  have hf:k=.free:=by
   by_cases q:k=.free
   ·exact q
   ·have hb:(k == NameKind.free)=false:=by simpa using q
    rw[hb]at e
    simp only[OI,OV,if_false]at e
    subst e
    exact(hk.elim h2 q).elim
  have:=nf _ hm hf
  rw[hn]
  exact this
 frk:=frk
abbrev nons(xs:List Str):St:=Ng xs.length none
section
variable{X:Cx}{pins:List (Addr×Obj)}{σ:St}{H:Hp}{s:Shared}{scope:Scope}{fr:List (Str×Nat)}{xs:List Str}
theorem tN.cells(O:tN X scope fr xs)(I:Inv X pins σ H s){y:Str}{c:Addr}(h:(clOf X.env fr).lookup y=some c):X.env.cells.lookup y=some c:=by
 obtain⟨hm,e⟩:=fX h
 obtain⟨p,hp,ep⟩:=Mj.mp hm
 have k:=(O.slot p hp).2
 rw[ep]at k
 obtain⟨c',e'⟩:=I.ok.has y (.inl k)
 rw[e']at e
 rw[e',e]
 rfl
theorem Gw{fp:List Addr}(O:tN X scope fr xs)(I:Inv X pins σ H s)(hf:∀ b∈fp,FpOk X pins H b)(hfs:∀ b∈fp,b<s.heap.objs.size){g h':Heap}{tk:Nat}(hg:g=s.heap.push (LCg.lst []))
  (hk:∀ b o,g.get? b=some o->h'.get? b=some o) (hC:h'.Ns g.objs.size fun _=>none) :
  Inv (cxG X scope fr xs g.objs.size (s.heap.objs.size::fp) { s with heap:=g } H) (X.pn++pins++[(s.heap.objs.size,LCg.lst [])]) (nons xs++frOf fr σ) H { s with heap:=h',toks:=tk }:=by
 have hsz:g.objs.size=s.heap.objs.size+1:=by rw[hg,Heap.size_push]
 have kp:∀ b o,s.heap.get? b=some o->g.get? b=some o:=fun b o e=>by rw[hg];exact Heap.get?_push_of_some _ e
 have hk0:∀ b o,s.heap.get? b=some o->h'.get? b=some o:=fun b o e=>hk b o (kp b o e)
 have hDo:h'.get? s.heap.objs.size=some (LCg.lst []):=hk _ _ (by rw[hg];exact Heap.get?_push_size _ rfl)
 have neC:∀ b,b<s.heap.objs.size->b≠g.objs.size:=fun b e=>by rw[hsz];exact ME (NO e)
 have hDC:s.heap.objs.size≠g.objs.size:=by rw[hsz];exact ME (NA _)
 have hfr:H g.objs.size=none:=I.hok.fresh (by rw[hsz];exact N3 _)
 have hfD:H s.heap.objs.size=none:=I.hok.fresh (Ma _)
 have cne:∀ y c,X.env.cells.lookup y=some c->c<s.heap.objs.size:=fun y c e=>by
  obtain⟨v,q⟩:=I.cell y c e
  exact q.lt
 have nst:∀ b,b≠X.env.locals->b∉X.fs->b∉frs X.stack:=fun b h1 h2 z=>(LZ.mp (I.stkSub b z)).elim h1 h2
 have nstD:s.heap.objs.size∉frs X.stack:=nst _ (Nu I.lt) (I.nofs (Ma _))
 refine⟨⟨I.ok.mod,O.kind,I.ok.glob,I.ok.blt,Ma _,?_,?_,fun _ _ z _=>(by cases z),I.ok.hd,I.ok.frames,.inl rfl,?_,?_,?_,?_,?_,?_,I.stkFree⟩,rfl,I.bare,Un.kept hk,?_,?_,hfr,?_,?_,I.hok.kept hk0,?_⟩
 ·intro y z c h1 h2
  exact I.ok.inj y z c (O.cells I h1) (O.cells I h2)
 ·intro y hy
  have hm:y∈fr.map (·.1):=by
   rcases hy with hy | hy
   ·exact O.has (y,_) (Nc hy) (.inl rfl)
   ·exact O.has (y,_) (Nc hy) (.inr rfl)
  exact⟨_,bR hm⟩
 ·intro b hb
  rcases LZ.mp hb with rfl | hb
  ·exact⟨hDC,fun y c e=>ME (cne y c (O.cells I e))⟩
  ·exact⟨neC b (hfs b hb),fun y c e=>(hf b hb).2.2.2.2.1 y c (O.cells I e)⟩
 ·intro b o e
  exact⟨kp b o (I.bs b o e).1,(I.bs b o e).2⟩
 ·show X.base.objs.size<=g.objs.size
  rw[hsz]
  exact Nat.le_succ_of_le (MZ I.ok.bsz I.sz)
 ·intro b o e hb
  rcases LZ.mp hb with z | hb
  ·have:=Heap.lt_size (I.bs b o e).1
   rw[z]at this
   exact M7 _ this
  ·rcases(hf b hb).2.2.2.1 with z | z
   ·exact I.ok.noex b o e z
   ·exact absurd (MF (Heap.lt_size (I.ok.bs b o e).1) z) (M7 _)
 ·intro b hb
  rcases LZ.mp hb with z | hb
  ·rw[z];exact nstD
  ·exact nst b (hf b hb).2.1 (hf b hb).2.2.1
 ·exact(I.kept (h':=g) (t':=s.toks) kp).stack
 ·refine⟨_,hC,fun i y v e1 e2 e3=>?_⟩
  have e1a:(xs++fr.map (·.1))[i]?=some y:=e1
  by_cases hi:i<xs.length
  ·rw[L0 (by simpa using hi)]at e2
   rw[Nt,if_pos hi]at e2
   cases e2
  ·have e1':(fr.map (·.1))[i-xs.length]?=some y:=by
    rw[LY (by omega)]at e1a
    exact e1a
   have e2':(frOf fr σ)[i-xs.length]?=some (some v):=by
    rw[LY (by simp;omega)]at e2
    simpa using e2
   generalize i-xs.length=k at e1' e2'
   unfold frOf at e2'
   rw[Mb]at e1' e2'
   cases q:fr[k]? with
   |none=>rw[q]at e1';cases e1'
   |some p =>
    rw[q]at e1' e2'
    have ey:p.1=y:=Mq e1'
    have ev:(σ[p.2]?).join=some v:=Mq e2'
    have hp:p∈fr:=LV q
    obtain⟨hN,hK⟩:=O.slot p hp
    have hkk:=O.frk p hp
    rw[ey]at hN hK hkk
    have ev':σ[p.2]?=some (some v):=by
     cases q2:σ[p.2]? with
     |none=>rw[q2]at ev;cases ev
     |some w=>rw[q2]at ev;exact congrArg some ev
    obtain⟨m,hn,hl⟩:=I.loc
    obtain⟨u,r,l⟩:=hl p.2 y v hN ev' (.inr (.inl hK))
    refine⟨u,r,?_⟩
    rcases l with⟨k1,_⟩ | ⟨_,c,ec,z⟩
    ·rw[hK]at k1;cases k1
    ·have hm:y∈fr.map (·.1):=by rw[← ey];exact Mj.mpr ⟨p,hp,rfl⟩
     have el:=bR (env:=X.env) hm
     rw[ec]at el
     exact .inr ⟨.inl hkk,c,el,by obtain⟨o,ho,hd⟩:=z;exact⟨o,hk0 _ _ ho,hd⟩⟩
 ·intro y c e
  obtain⟨v,o,ho,hd⟩:=I.cell y c (O.cells I e)
  exact⟨v,o,hk0 _ _ ho,hd⟩
 ·intro y c e
  exact I.freeC y c (O.cells I e)
 ·intro p hp
  rcases Mc.mp hp with hp | hp
  ·cases hp
  ·rcases Mc.mp hp with hp | hp
   ·obtain⟨e,n,ne,nf,d⟩:=I.pin p hp
    exact⟨hk0 _ _ e,n,neC _ (Heap.lt_size e),nst _ ne nf,d⟩
   ·have ep:p=(s.heap.objs.size,LCg.lst []):=by simpa using hp
    subst ep
    exact⟨hDo,hfD,hDC,nstD,fun v z=>by cases z⟩
 ·show(nons xs++frOf fr σ).length=(xs++fr.map (·.1)).length
  unfold frOf
  simp
theorem wb{fp:List Addr}{g:Heap}{s':Shared}{H':Hp}{σ':St}{ys:List V}{us:List Value}(I:Inv X pins σ H s)(hf:∀ b∈fp,FpOk X pins H b)(hg:g=s.heap.push (LCg.lst []))
  (J:Inv (cxG X scope fr xs g.objs.size (s.heap.objs.size::fp) { s with heap:=g } H) (X.pn++pins++[(s.heap.objs.size,LCg.lst us)]) σ' H' s') (hv:Vals ys us) (hl:ys.length<=sizeLine) :
  Inv X pins σ (upd H' s.heap.objs.size (.lst ys)) s'/\H' s.heap.objs.size=none/\FpOk X pins (upd H' s.heap.objs.size (.lst ys)) g.objs.size/\∃ m,s'.heap.Ns g.objs.size m:=by
 have hsz:g.objs.size=s.heap.objs.size+1:=by rw[hg,Heap.size_push]
 have kp:∀ b o,s.heap.get? b=some o->g.get? b=some o:=fun b o e=>by rw[hg];exact Heap.get?_push_of_some _ e
 obtain⟨eD,nD,_,_,_⟩:=J.pin (s.heap.objs.size,LCg.lst us) (by simp)
 have hDC:g.objs.size≠s.heap.objs.size:=by rw[hsz];exact Nu (NA _)
 have nD':∀ b u,H' b=some u->b≠s.heap.objs.size:=fun b u e z=>by rw[z]at e;rw[e]at nD;cases nD
 have hx:∀ b o,s.heap.get? b=some o->b∉fp->b∉s.heap.objs.size::fp:=fun b o e hb z=>by
  rcases LZ.mp z with z | z
  ·have:=Heap.lt_size e
   rw[z]at this
   exact M7 _ this
  ·exact hb z
 have bU:Un (frs X.stack) (s.heap.objs.size::fp) H H' g s'.heap:=J.base
 have ltD:∀ b o,s.heap.get? b=some o->b≠s.heap.objs.size:=fun b o e=>ME (Heap.lt_size e)
 have un:Un (frs X.stack) fp H (upd H' s.heap.objs.size (.lst ys)) s.heap s'.heap:=by
  refine⟨fun b o e n hb he=>bU.keep b o (kp b o e) n hb (hx b o e he),fun b o e n hb he=>bU.slot b o (kp b o e) n hb (hx b o e he),fun b o e n he=>?_,fun b o e he=>bU.there b o (kp b o e) (hx b o e he),fun b xs e=>?_,fun b o u e=>?_,fun b ps e=>?_⟩
  ·rw[aq (ltD b o e)];exact bU.free b o (kp b o e) n (hx b o e he)
  ·have q:=bU.tups b xs e
   rw[aq (nD' b _ q)];exact q
  ·have q:=bU.frzs b o u e
   rw[aq (nD' b _ q)];exact q
  ·obtain⟨more,q⟩:=bU.tbls b ps e
   exact⟨more,by rw[aq (nD' b _ q)];exact q⟩
 have hok:HOk X.prog X.w (upd H' s.heap.objs.size (.lst ys)) s'.heap:=fun b u e=>by
  by_cases hb:b=s.heap.objs.size
  ·rw[hb,ae]at e
   cases e
   rw[hb]
   exact⟨hl,us,us.length,hv,eD⟩
  ·rw[aq hb]at e
   exact(J.hok b u e).stay (fun c v _ q=>q) (fun c q=>by rw[aq (nD' c _ q)];exact q) fun c xs q=>by rw[aq (nD' c _ q)];exact q
 have os:s'.os=s.os:=J.os
 refine⟨I.call' os un hok J.bare fun b hb=>⟨(hf b hb).2.2.2.1,(hf b hb).2.1,(hf b hb).2.2.2.2⟩,nD,?_,?_⟩
 ·refine I.fpOk (H':=upd H' s.heap.objs.size (.lst ys)) (b:=g.objs.size) (by rw[hsz];exact N3 _) ?_
  rw[aq hDC]
  exact J.free
 ·obtain⟨m,hn,_⟩:=J.loc
  exact⟨m,hn⟩
end
def PTs(X:Cx)(ifs:List Expr)(t:TT):Prop :=
 ∀(pins:List (Addr×Obj))(s:Shared)(σ:St)(H:Hp)(Q:Bool->Hp->Prop),Inv X pins σ H s->t σ H Q ->
  wpAny (model X.prog X.w) X.A (forIn ifs true fun c r=>if r=true then do let ok ← isTrue c X.env (eval c X.env);pure (ForInStep.yield ok) else pure (ForInStep.yield r)) (fun b s'=>∃ H',Inv X pins σ H' s'/\Q b H') X.xe s
def tYes:TT:=fun _ H Q=>Q true H
theorem KA{X:Cx}:PTs X [] tYes:=fun _ _ _ H _ I h=>wpAny_tests_nil ⟨H,I,h⟩
theorem Fw{X:Cx}{c:Expr}{t:TT}(h:PT X c t):PTs X [c] t:=fun pins s σ H Q I q=>wpAny_tests_one (h pins s σ H Q I q)
section
variable{prog:Program}{w:World}{A:Around}{s:Shared}
theorem Hd{elt target iter:Expr}{ifs:List Expr}{scope:Scope}{pos:Pos}{it acc:Value}{env:Env}{R:Result->Shared->Prop}(I:Nat->Shared->Prop)
  (turn:∀ n s,I n s->wpAny (model prog w) A (pyNext it) (fun r s₁=>match r with
   |none=>R (.ok .next) s₁
   |some v=>wpAny (model prog w) A (letOwnedTupleGo target it v) (fun _ s₀=>wpAny (model prog w) A (assign target env v) (fun _ s₂ =>
     wpAny (model prog w) A (forIn ifs true fun c r=>if r=true then do let ok ← isTrue c env (eval c env);pure (ForInStep.yield ok) else pure (ForInStep.yield r)) (fun ok s₃=>if ok=true then wpAny (model prog w) A (eval elt env) (fun x s₄ =>
      wpAny (model prog w) A (call (.builtin "list.append") [acc,x]) (fun _ s₅=>∃ m,m<n/\I m s₅) (notedBy (model prog w) A env fun e s'=>R (.error e) s') s₄) (notedBy (model prog w) A env fun e s'=>R (.error e) s') s₃
      else ∃ m,m<n/\I m s₃) (notedBy (model prog w) A env fun e s'=>R (.error e) s') s₂)
     (notedBy (model prog w) A env fun e s'=>R (.error e) s') s₀) (notedBy (model prog w) A env fun e s'=>R (.error e) s') s₁) (notedBy (model prog w) A env fun e s'=>R (.error e) s') s)
  (n:Nat) (h:I n s):codeAny (model prog w) A (.compLoop (.ListComp elt [⟨target,iter,ifs,0⟩] scope pos) 0 it acc env) R s:=by
 refine codeAny_loop rfl I (fun n s hI=>?_) n h
 show wpAny _ A ((compTurn (.ListComp elt [⟨target,iter,ifs,0⟩] scope pos) 0 it acc env).onRaise (fun x=>do noteFrame x env;theTreesLotGoes x)) _ _ s
 refine wpAny_noted ?_
 rw[compTurn_list]
 refine wpAny_bind (wpAny_standAt (wpAny_bind (wpAny_mono (turn n s hI) (fun r s₁ h₁=>?_) fun _ _ h'=>h')))
 cases r with
 |none=>exact wpAny_pure h₁
 |some v =>
  refine wpAny_bind (wpAny_mono h₁ (fun _ s₀ h₀'=>?_) fun _ _ h'=>h')
  refine wpAny_bind (wpAny_mono h₀' (fun _ s₂ h₂=>?_) fun _ _ h'=>h')
  refine wpAny_bind (wpAny_mono h₂ (fun okb s₃ h₃=>?_) fun _ _ h'=>h')
  cases okb with
  |false=>exact wpAny_pure ⟨rfl,h₃⟩
  |true=>exact wpAny_bind (wpAny_bind (wpAny_mono h₃ (fun x s₄ h₄=>wpAny_bind (wpAny_mono h₄ (fun _ s₅ h₅=>wpAny_pure (wpAny_pure ⟨rfl,h₅⟩)) fun _ _ h'=>h')) fun _ _ h'=>h'))
end
def E6(g:TG)(tt:TT)(te:TE)(n:Nat)(fv:St)(J:It)(H1:Hp)(QQ:List V->Hp->Prop):Prop :=
 ∃ W:Nat->Nat->List V->Hp->Prop,(∃ m,W 0 m [] H1)/\∀ i m ys H,W i m ys H->ys.length<=sizeLine /\
  ((J.stop i H/\QQ ys H)∨(J.go i H/\∃ N:List V->Hp->Prop,(∀ zs H2,N zs H2->∃ m',m'<m/\W (i+1) m' zs H2) /\
   ∀ x H',J.yld i H x H'->g x (Ng n none++fv) H' fun σ2 H2=>σ2.drop n=fv/\tt σ2 H2 fun b H3=>if b=true then te σ2 H3 (fun y H4=>N (ys++[y]) H4) else N ys H3))
section
variable{X:Cx}{scope:Scope}{fr:List (Str×Nat)}{xs:List Str}{elt iter tg:Expr}{ifs:List Expr}{pos:Pos}{te:TE}{tt:TT}{tgt:TG}{wi:TI}
theorem EE{pins:List (Addr×Obj)}{σ:St}{H:Hp}{s:Shared}{E:Value->Shared->Prop}{it:Addr}{fp:List Addr}{tn:Nat->Heap->Prop}{J:It}{RR:Value->Addr->Result->Shared->Prop}{QQ:List V->Hp->Prop}(hc:X.calm=true)(O:tN X scope fr xs)
  (hg0:∀ C ex s H,PG (cxG X scope fr xs C ex s H) tg tgt) (ht:∀ C ex s H,PTs (cxG X scope fr xs C ex s H) ifs tt) (he:∀ C ex s H,PE (cxG X scope fr xs C ex s H) elt te) (I:Inv X pins σ H s) (T:Turn X.prog X.w X.K tg J fp it tn) (st:tn 0 s.heap) (hf:∀ b∈fp,FpOk X pins H b) (hq:E6 tgt tt te xs.length (frOf fr σ) J H QQ)
  (fin:∀ D C H4 ys s4 m,Inv X pins σ (upd H4 D (.lst ys)) s4->H4 D=none->FpOk X pins (upd H4 D (.lst ys)) C->s4.heap.Ns C m->QQ ys H4->RR (.ref D) C (.ok .next) s4) :
  wpAny (model X.prog X.w) X.A (newList []) (fun acc s₃=>wpAny (model X.prog X.w) X.A (newFunctionEnv scope X.env.globals (clOf X.env fr) [] X.env.qual none .none (some X.env)) (fun cenv s₄ =>
   codeAny (model X.prog X.w) X.A (.compStart (.ListComp elt [⟨tg,iter,ifs,0⟩] scope pos) 0 (.ref it) acc { cenv with scope:=relabel scope X.env }) (RR acc cenv.locals) s₄) E s₃) E s:=by
 obtain⟨W,⟨m0,w0⟩,turn⟩:=hq
 have hfs:∀ b∈fp,b<s.heap.objs.size:=fun b hb=>by
  obtain⟨o,e,_⟩:=T.obj 0 s.heap st b hb
  exact Heap.lt_size e
 refine wpAny_newObj_type (wpAny_newFunctionEnv O.cell (by intro y hy;simp at hy) (fun h₁ hns₁ hsb₁=>?_) O.kind)
 dsimp only at hns₁ hsb₁ ⊢
 generalize hH2:s.heap.push { cls:=.type "list",dict:=none,data:=.seq ([]:List Value).toArray }=g at hns₁ hsb₁ ⊢
 have hg:g=s.heap.push (LCg.lst []):=hH2.symm
 have hsz:g.objs.size=s.heap.objs.size+1:=by rw[hg,Heap.size_push]
 have hk:∀ b o,g.get? b=some o->h₁.get? b=some o:=fun b o e=>hsb₁.extBut b o (ME (Heap.lt_size e)) (Heap.get?_push_of_some _ e)
 have kp:∀ b o,s.heap.get? b=some o->h₁.get? b=some o:=fun b o e=>hk b o (by rw[hg];exact Heap.get?_push_of_some _ e)
 have J0:=Gw (h':=h₁) (tk:=s.toks+([]:List (Str×Value)).length) O I hf hfs hg hk hns₁
 have stat:∀{H':Hp}{us:List Value},(∀ b∈fp,H' b=none)->∀ b∈fp,FpOk (cxG X scope fr xs g.objs.size (s.heap.objs.size::fp) { s with heap:=g } H) (X.pn++pins++[(s.heap.objs.size,LCg.lst us)]) H' b:=fun{H' us} hn b hb=>by
  obtain⟨_,f1,f2,f3,f4,f5⟩:=hf b hb
  refine⟨hn b hb,?_,fun z=>(LZ.mp (I.stkSub b z)).elim f1 f2,.inl (Ml _ hb),fun y c e=>f4 y c (O.cells I e),fun p hp=>?_⟩
  ·show b≠g.objs.size
   rw[hsz];exact ME (NO (hfs b hb))
  ·rcases Mc.mp hp with hp | hp
   ·cases hp
   ·rcases Mc.mp hp with hp | hp
    ·exact f5 p hp
    ·have ep:p=(s.heap.objs.size,LCg.lst us):=by simpa using hp
     rw[ep]
     exact Nu (hfs b hb)
 have loop:codeAny (model X.prog X.w) X.A (.compLoop (.ListComp elt [⟨tg,iter,ifs,0⟩] scope pos) 0 (.ref it) (.ref s.heap.objs.size) (compEnvC scope (clOf X.env fr) g.objs.size X.env))
   (RR (.ref s.heap.objs.size) g.objs.size) { s with heap:=h₁,toks:=s.toks+([]:List (Str×Value)).length }:=by
  refine Hd (fun n s'=>∃ i ys us H',Inv (cxG X scope fr xs g.objs.size (s.heap.objs.size::fp) { s with heap:=g } H) (X.pn++pins++[(s.heap.objs.size,LCg.lst us)]) (nons xs++frOf fr σ) H' s'/\Vals ys us/\tn i s'.heap/\(∀ b∈fp,H' b=none)/\W i n ys H') ?_ m0
   ⟨0,[],[],H,J0,.nil,T.keep 0 s.heap h₁ st fun b _ o e=>kp b o e,fun b hb=>(hf b hb).1,w0⟩
  rintro n s3 ⟨i,ys,us,H3,J3,hv,st3,fr3,w3⟩
  obtain⟨hlen,hh⟩:=turn i n ys H3 w3
  have none_err:∀{α:Type}{t:Sem α}{Q:α->Shared->Prop}{E':Value->Shared->Prop}{s:Shared},wpAny (model X.prog X.w) X.A t Q (fun _ _=>False) s->wpAny (model X.prog X.w) X.A t Q E' s:=fun h=>wpAny_mono h (fun _ _ q=>q) fun _ _ z=>z.elim
  have weakN:∀{σ6:St},σ6.length=(nons xs++frOf fr σ).length->σ6.drop xs.length=frOf fr σ->∀(i:Nat) v,(nons xs++frOf fr σ)[i]?=some (some v)->σ6[i]?=some (some v):=fun{σ6} hl6 e6 i v e=>by
   by_cases hi:i<xs.length
   ·rw[L0 (by simpa using hi),Nt,if_pos hi]at e
    cases e
   ·rw[LY (by simp;omega),← e6,List.getElem?_drop]at e
    have:xs.length+(i-(nons xs).length)=i:=by simp;omega
    rw[this]at e
    exact e
  rcases hh with⟨stop,qn⟩ | ⟨go,N,hN,step⟩
  ·refine none_err (thn (T.done (cxG X scope fr xs g.objs.size (s.heap.objs.size::fp) { s with heap:=g } H) rfl rfl rfl hc i _ s3 _ H3 _ J3 (stat fr3) st3 stop) fun r s4 ⟨hr,J4⟩=>?_)
   subst hr
   obtain⟨I4,nD,fC,m,hn⟩:=wb I hf hg J4 hv hlen
   exact fin _ _ H3 ys s4 m I4 nD fC hn qn
  ·refine none_err (thn (T.item (cxG X scope fr xs g.objs.size (s.heap.objs.size::fp) { s with heap:=g } H) rfl rfl rfl hc i _ s3 _ H3 _ J3 (stat fr3) st3 go) fun r s4 ⟨u,hr,h4⟩=>?_)
   subst hr
   refine none_err (thn h4 fun _ s5 ⟨v,H5,J5,r5,y5,st5,fr5⟩=>?_)
   have J5':=J5.pinned (stat fr5) (T.obj _ _ st5)
   refine none_err (thn (hg0 _ _ _ _ _ s5 _ H5 v u _ J5' r5 (step v H5 y5)) fun _ s6 ⟨σ6,H6,J6,e6,q6⟩=>?_)
   refine none_err (thn (ht _ _ _ _ _ s6 σ6 H6 _ J6 q6) fun b s6' ⟨H6',J6',q6'⟩=>?_)
   have hl6:σ6.length=(nons xs++frOf fr σ).length:=J6.len.trans J3.len.symm
   cases b with
   |false =>
    rw[if_neg Mp]at q6' ⊢
    obtain⟨m',hm,w7⟩:=hN ys H6' q6'
    have pinF:∀ b∈fp,∀ o,s5.heap.get? b=some o->s6'.heap.get? b=some o/\H6' b=none:=fun b hb o e=>by
     obtain⟨q1,q2,_⟩:=J6'.pin (b,o) (Mh _ (Mh _ (dq hb e)))
     exact⟨q1,q2⟩
    refine⟨m',hm,i+1,ys,us,H6',J6'.unpinned.weak (σ':=nons xs++frOf fr σ) hl6.symm (weakN hl6 e6),hv,T.keep _ _ _ st5 fun b hb o e=>(pinF b hb o e).1,fun b hb=>?_,w7⟩
    obtain⟨o,e,_⟩:=T.obj _ _ st5 b hb
    exact(pinF b hb o e).2
   |true =>
    rw[if_pos rfl]at q6' ⊢
    refine none_err (thn (he _ _ _ _ _ s6' _ H6' _ J6' q6') fun u7 s7 ⟨v7,H7,J7,r7,q7⟩=>?_)
    obtain⟨m',hm,w7⟩:=hN _ H7 q7
    obtain⟨eD,nD,dC,dF,dd⟩:=J7.pin (s.heap.objs.size,LCg.lst us) (Mh _ (MC _ (Mh _ (by simp))))
    have hvl:=hv.length
    refine append_at (hsz:=by show us.toArray.size<=sizeLine;rw[MG,← hvl];exact hlen) eD fun h8 hs8 hD8=>?_
    have pinD:∀ p∈X.pn++pins,p.1≠s.heap.objs.size:=fun p hp z=>by
     have:=Heap.lt_size (I.pin p hp).1
     rw[z]at this
     exact M7 _ this
    have J7a:Inv (cxG X scope fr xs g.objs.size (s.heap.objs.size::fp) { s with heap:=g } H) (X.pn++pins) _ H7 s7:=J7.pins_of fun p hp=>J7.pin p (Mh _ (MC _ (MC _ hp)))
    have J8:Inv (cxG X scope fr xs g.objs.size (s.heap.objs.size::fp) { s with heap:=g } H) (X.pn++pins) _ H7 { s7 with heap:=h8 }:=J7a.turned (t':=s7.toks) (fun b o hb e=>(hs8.2 b hb).trans e) nD dC (.inl MB) (fun y c e z=>by
     obtain⟨w',q⟩:=I.cell y c (O.cells I e)
     have:=q.lt
     rw[z]at this
     exact M7 _ this) (fun p hp=>(Mc.mp hp).elim (fun z=>by cases z) (pinD p))
    have J9:Inv (cxG X scope fr xs g.objs.size (s.heap.objs.size::fp) { s with heap:=g } H) (X.pn++pins++[(s.heap.objs.size,LCg.lst (us++[u7]))]) _ H7 { s7 with heap:=h8 }:=J8.pins_of fun p hp=>by
     rcases Mc.mp hp with hp | hp
     ·exact J8.pin p (Mh _ hp)
     ·have ep:p=(s.heap.objs.size,LCg.lst (us++[u7])):=by simpa using hp
      subst ep
      exact⟨hD8.trans (congrArg some (LCg.lst_snoc us u7)),nD,dC,dF,fun v z=>by cases z⟩
    have J10:=J9.weak (σ':=nons xs++frOf fr σ) hl6.symm (weakN hl6 e6)
    have pinF:∀ b∈fp,∀ o,s5.heap.get? b=some o->s7.heap.get? b=some o/\H7 b=none:=fun b hb o e=>by
     obtain⟨q1,q2,_⟩:=J7.pin (b,o) (Mh _ (Mh _ (dq hb e)))
     exact⟨q1,q2⟩
    refine⟨m',hm,i+1,ys++[v7],us++[u7],H7,J10,hv.append (.cons r7 .nil),T.keep _ _ _ st5 fun b hb o e=>(hs8.2 b (ME (hfs b hb))).trans (pinF b hb o e).1,fun b hb=>?_,w7⟩
    obtain⟨o,e,_⟩:=T.obj _ _ st5 b hb
    exact(pinF b hb o e).2
 exact codeAny_compStart_list loop (T.self X.A 0 _ _ _ (T.keep 0 s.heap h₁ st fun b _ o e=>kp b o e) loop)
def tCompE(wi:TI)(g:TG)(tt:TT)(te:TE)(n:Nat)(fr:List (Str×Nat)):TE:=fun σ H Q=>wi σ H fun J H1=>E6 g tt te n (frOf fr σ) J H1 fun ys H2=>∀ D,H2 D=none->Q (.ref D) (upd H2 D (.lst ys))
theorem vj(hc:X.calm=true)(O:tN X scope fr xs)(hi:PI X tg iter wi)(hg0:∀ C ex s H,PG (cxG X scope fr xs C ex s H) tg tgt)(ht:∀ C ex s H,PTs (cxG X scope fr xs C ex s H) ifs tt)(he:∀ C ex s H,PE (cxG X scope fr xs C ex s H) elt te)(hs:∀ x,foldedSetIterable iter X.env x=pure x:=by intro _;rfl) :
  PE X (.ListComp elt [⟨tg,iter,ifs,0⟩] scope pos) (tCompE wi tgt tt te xs.length fr):=by
 intro pins s σ H Q I h
 rw[eval_ListComp]
 refine wpAny_comprehension_free (use:=none) rfl hs O.clos O.kind O.names (thn (hi pins s σ H _ I h) fun xv s1 h1=>thn h1 fun itv s2 h2=>?_)
 obtain⟨it,fp,tn,J,H2,e,I2,T,st2,f2,q2⟩:=h2
 subst e
 refine EE (RR:=fun acc C=>compPost (model X.prog X.w) X.A X.xe none (EP X pins σ Q) acc C) hc O hg0 ht he I2 T st2 f2 q2 ?_
 intro D C H4 ys s4 m I4 nD fC hn q4
 refine⟨m,hn,fun h' hs'=>?_⟩
 obtain⟨g0,g1,g2,g3,g4,g5⟩:=fC
 exact⟨.ref D,_,I4.turned (t':=s4.toks) (fun b o hb e=>(hs'.2 b hb).trans e) g0 g1 g3 g4 g5,rfl,q4 D nD⟩
end
theorem nJ{K:LU}{a:Addr}{xs:List V}{g:TG}{tt:TT}{te:TE}{n:Nat}{fv:St}{H1:Hp}{QQ:List V->Hp->Prop}(Pv:Nat->List V->Hp->Prop)(hz:xs.length<=sizeLine)(h0:Pv 0 [] H1)(hl:∀ i ys H,i<=xs.length->Pv i ys H->SqL K H a xs)
  (hs:∀ i x ys H,xs[i]?=some x->Pv i ys H->g x (Ng n none++fv) H fun σ2 H2=>σ2.drop n=fv/\tt σ2 H2 fun b H3=>if b=true then te σ2 H3 (fun y H4=>Pv (i+1) (ys++[y]) H4) else Pv (i+1) ys H3) (hd:∀ ys H,Pv xs.length ys H->QQ ys H) (hy:∀ i ys H,Pv i ys H->ys.length<=i)
  : E6 g tt te n fv (Itl K a) H1 QQ:=by
 refine⟨fun i m ys H=>m=xs.length-i/\i<=xs.length/\Pv i ys H,⟨xs.length,by simp,Na _,h0⟩,?_⟩
 rintro i m ys H ⟨rfl,hi,p⟩
 have q:=hl i ys H hi p
 have hyl:=hy i ys H p
 refine⟨by omega,?_⟩
 by_cases hlt:i<xs.length
 ·refine .inr ⟨⟨xs,xs[i],q,by simp[hlt]⟩,fun zs H2=>Pv (i+1) zs H2,fun zs H2 p2=>⟨xs.length-(i+1),by omega,rfl,hlt,p2⟩,fun x H' y=>?_⟩
  obtain⟨e,y⟩:=y
  subst e
  exact hs i x ys _ (y xs q) p
 ·have e:i=xs.length:=by omega
  subst e
  exact .inl ⟨⟨xs,q,Ma _⟩,hd ys H p⟩
end L2
namespace L2
open PySem PySem.Spec PyProof.Rows
section
variable{X:Cx}{K:LU}{pos:Pos}
theorem gX(h:X.K=K):IxR X (rIxL K):=h▸aK
theorem kW(h:X.K=K):IxR X (rIxT K):=h▸aI
theorem ug(h:X.K=K):j4 X (.type "list") (fun xs H Q=>∃ p ys,xs = [.ref p]/\(SqL K H p ys∨SqT K H p ys)/\∀ l,H l=none->Q (.ref l) (upd H l (.lst ys))):=h▸bT
theorem vi{e:Expr}{f:Str}{ta:TE}(h:X.K=K)(he:PE X e ta)(hb:attributeBase e f X.env (eval e X.env)=eval e X.env):PE X (.Attribute e f pos) (tFld K ta f):=h▸cP he hb
end
end L2
namespace L2
open PySem PySem.Spec PyProof.Rows
section
variable{X:Cx}
def Ky:V->List V->Hp->VK->Prop:=fun x vs H Q=>∃ l xs k y,x=.ref l/\vs = [.int k,y]/\H l=some (.lst xs)/\0<=k/\k<=xs.length/\xs.length<sizeLine/\Q .non (upd H l (.lst (xs.take k.toNat++y::xs.drop k.toNat)))
theorem qv:MtM X "list.insert" Ky:=by
 intro pins s σ H x vs v us Q I rx rv h
 obtain⟨l,xs,k,y,rfl,rfl,hH,h0,hk,hz,q⟩:=h
 cases rx
 obtain⟨u1,u2,rfl,r1,r2⟩:=rv.two
 obtain⟨t,rfl⟩:=r1
 obtain⟨z,its,n,r,hl,e⟩:=I.lstM hH
 have hn:=yK
 have hfit:¬ (!Builtin.List.listFitsIndex k)=true:=by
  rw[fitsIndex_both (by omega) (by omega)]
  exact Mp
 refine call_meets F.slot_list_insert ⟨_,e,rfl⟩ F.entry_list_insert (F.args_list_insert_3 _ _ _) (AutoListH.list_insert_list_int_val_1 l its.toArray n k t u2 hfit (by rw[MG];omega)) ⟨e,?_⟩
 refine⟨.non,_,I.lset (its':=its.take k.toNat++u2::its.drop k.toNat) hH e ?_ ((r.take _).append (.cons r2 (r.drop _))) ?_,rfl,q⟩
 ·dsimp only
  rw[if_neg (by omega),MG,Oe (by omega)]
  simp
  exact MY (by rw[Np];omega)
 ·rw[LX,MJ,MT,Np]
  omega
theorem l7:∀{ns:List Int}{us:List Value},Vals (ns.map V.int) us->IntsAre us ns
 |[],_,.nil=>.nil
 |n::ns,_,.cons r rr=>by
  obtain⟨t,rfl⟩:=r
  exact .cons n t (l7 rr)
theorem jV(hc:X.calm=true):j4 X (.builtin "sum") (fun xs H Q=>∃(p:Addr)(ns:List Int),xs = [.ref p]/\SqL X.K H p (ns.map V.int)/\Q (.int ns.sum) H):=by
 intro pins s σ H xs us Q I r h
 obtain⟨p,ns,rfl,hq,q⟩:=h
 obtain⟨u,rfl,ru⟩:=rQ r
 cases ru
 obtain⟨its,rv,pl,hz⟩:=I.list hq
 have hi:=l7 rv
 obtain⟨zs,e⟩:=hi.allInts.items
 have hns:(numsOf its)=ns:=hi.numsOf
 have hl:s.heap.IsList p (intItems zs):=by rw[← e];exact pl.isList
 refine sum_intListG (I.ok.hd hc) hl fun h' tk t' hk=>⟨.int ns.sum,H,I.kept (t':=tk) hk,⟨t',?_⟩,q⟩
 have h2:numsOf (intItems zs).toList=ns:=by rw[← e];exact hns
 rw[nums_intItems]at h2
 rw[preSum_eq,MY (by simp),← h2]
end
end L2
namespace L2
open PySem PySem.Spec PyProof.Rows
theorem pX:∀{ps:List Nat},(∀ p∈ps,p<1000)->PyData.weightAll ((ps.map fun(p:Nat)=>((p:Nat):Int)).map PyData.int)<=12*ps.length
 |[],_=>by simp[PyData.weightAll]
 |p::ps,h=>by
  have ih:=pX (ps:=ps) fun x hx=>h x (Ml _ hx)
  have hp:=h p (by simp)
  have hw:PyData.weight (.int (p:Int))<=11:=by
   rw[PyData.weight]
   split
   ·exact Na _
   ·rename_i z
    have z':p≠0:=fun e=>z (by rw[e];rfl)
    have e:((p:Int)).natAbs=p:=rfl
    rw[e]
    have:=(Nat.log2_lt z').mpr (show p<2^10 by omega)
    omega
  rw[MQ,MQ,PyData.weightAll,MJ]
  omega
theorem IX{ps:List Nat}(h:∀ p∈ps,p<1000)(hl:ps.length<=1000):PyData.layable0 (.list ((ps.map fun(p:Nat)=>((p:Nat):Int)).map PyData.int))=true:=by
 have h1:=PySem.W.shaped_ints (ps.map fun(p:Nat)=>((p:Nat):Int))
 have h2:=pX h
 have h3:PyData.weight (.list ((ps.map fun(p:Nat)=>((p:Nat):Int)).map PyData.int))<=2^20:=by
  rw[PyData.weight];omega +splitDisjunctions
 unfold PyData.layable0
 unfold SeqAt.shaped at h1
 rw[h1,decide_eq_true h3]
 rfl
section
variable{X:Cx}
def rIndex(K:LU):V->List V->Hp->VK->Prop:=fun x vs H Q=>∃(l:Addr)(ps:List Nat)(k:Nat),x=.ref l/\vs = [.int (k:Int)]/\SqL K H l (ps.map fun(p:Nat)=>V.int (p:Int))/\(∀ p∈ps,p<1000)/\ps.length<=1000/\k∈ps/\Q (.int ((ps.idxOf k:Nat):Int)) H
theorem Jb{ps:List Nat}{k:Nat}:(ps.map fun(p:Nat)=>((p:Nat):Int)).idxOf (k:Int)=ps.idxOf k:=by
 induction ps with
 |nil=>rfl
 |cons p ps ih =>
  rw[MQ,List.idxOf_cons,List.idxOf_cons,ih]
  have e:(((p:Nat):Int) == (k:Int))=(p == k):=by
   by_cases h:p=k
   ·subst h;simp
   ·have h2:¬ (p:Int)=(k:Int):=fun z=>h (by omega)
    rw[beq_eq_false_iff_ne.mpr h,beq_eq_false_iff_ne.mpr h2]
  rw[e]
theorem pR:MtM X "list.index" (rIndex X.K):=by
 intro pins s σ H x vs v us Q I rx rv h
 obtain⟨l,ps,k,rfl,rfl,hq,hs,hl,hk,q⟩:=h
 cases rx
 obtain⟨u,rfl,ru⟩:=rv.one
 obtain⟨t,rfl⟩:=ru
 have e:(ps.map fun(p:Nat)=>V.int (p:Int))=(ps.map fun(p:Nat)=>((p:Nat):Int)).map V.int:=by rw[Nk];rfl
 rw[e]at hq
 obtain⟨its,r,pl,hz⟩:=I.list hq
 refine index_list_ints pl.isList (l7 r) (IX hs hl) (Mj.mpr ⟨k,hk,rfl⟩) ?_
 rw[Jb]
 exact⟨.int _,H,I.tok _,⟨_,rfl⟩,q⟩
end
end L2
namespace L2
open PySem PySem.Spec PyProof.Rows
theorem Ae:∀{us:List Value}{ns:List Int},IntsAre us ns->Vals (ns.map V.int) us
 |_,_,.nil=>.nil
 |_,_,.cons _ t r=>.cons ⟨t,rfl⟩ (Ae r)
section
variable{X:Cx}
def Fv(K:LU):List V->Hp->VK->Prop:=fun xs H Q=>∃(p:Addr)(ns:List Int),xs = [.ref p]/\SqL K H p (ns.map V.int)/\ns.length<64/\∀(l:Addr)(out:List Int),H l=none->out.Perm ns->out.Pairwise (·<=·)->Q (.ref l) (upd H l (.lst (out.map V.int)))
theorem qY:j4 X (.builtin "sorted") (Fv X.K):=by
 intro pins s σ H xs us Q I r h
 obtain⟨p,ns,rfl,hq,h64,q⟩:=h
 obtain⟨u,rfl,ru⟩:=rQ r
 cases ru
 obtain⟨its,rv,pl,hz⟩:=I.list hq
 have hi:=l7 rv
 have hl:=rv.length
 rw[LW]at hl
 refine sorted_ints pl.isList hi (by omega) fun out ns' a1 a2 a3=>?_
 obtain⟨e,he⟩:=sortedAll_at s.heap its out
 refine⟨.ref (s.heap.objs.size+1),_,I.laid (t':=s.toks) (fun _ _=>sortedAll_old) (N3 _) (show bJ X.prog X.w _ _ _ (.lst (ns'.map V.int)) from⟨?_,out.toList,e,Ae a1,?_⟩),rfl,q _ ns' (I.hok.fresh (N3 _)) a2 a3⟩
 ·rw[LW,a2.length_eq]
  exact MX (ar (by omega))
 ·exact he
theorem zE{K:LU}(h:X.K=K):j4 X (.builtin "sorted") (Fv K):=h▸qY
end
theorem Ct{lo c:Int}{n:Nat}{te:TE}{fv:St}{H1:Hp}{QQ:List V->Hp->Prop}(Pv:Nat->List V->Hp->Prop)(hz:n<=sizeLine)(h0:Pv 0 [] H1)
  (hs:∀ i ys H,i<n->Pv i ys H->te (some (.int (lo+i*c))::fv) H fun y H2=>Pv (i+1) (ys++[y]) H2) (hd:∀ ys H,ys.length=n->Pv n ys H->QQ ys H)
  : tO te fv (Itr3 lo c n) H1 QQ:=by
 refine⟨fun i m ys H=>m=n-i/\i<=n/\ys.length=i/\Pv i ys H,⟨n,by simp,Na _,rfl,h0⟩,?_⟩
 rintro i m ys H ⟨rfl,hi,hy,p⟩
 refine⟨by omega,?_⟩
 by_cases hlt:i<n
 ·refine .inr ⟨hlt,fun y H2=>Pv (i+1) (ys++[y]) H2,fun y H2 p2=>⟨n-(i+1),by omega,rfl,hlt,by rw[LX,hy];rfl,p2⟩,fun x H' y=>?_⟩
  obtain⟨e,y⟩:=y
  subst e y
  exact hs i ys _ hlt p
 ·have e:i=n:=by omega
  subst e
  exact .inl ⟨Ma _,hd ys H hy p⟩
end L2
namespace L2
open PySem PySem.Spec PyProof.Rows
section
variable{X:Cx}{tg:Expr}
def iRngL(ta:TA):TI:=fun σ H R=>ta σ H fun vs H1=>∃(lo m c:Int)(n:Nat),vs = [.int lo,.int m,.int c]/\0<=lo/\lo<1000/\-1000<m/\m<2^61/\(0<c/\c<1000)/\Builtin.Range.rangeSize lo m c=(n:Int)/\R (Itr3 lo c n) H1
theorem Il{lo m c:Int}(h0:0<=lo)(h00:lo<1000)(h1 : -1000<m)(h2:m<2^61)(h3:0<c/\c<1000):Builtin.Range.small lo m c=true:=by
 obtain⟨h3,h4⟩:=h3
 have hs:0<=Builtin.Range.rangeSize lo m c/\Builtin.Range.rangeSize lo m c<=2^61:=by
  unfold Builtin.Range.rangeSize
  rw[if_pos h3]
  by_cases h:lo<m
  ·rw[if_pos h]
   have q1:0<=(m-lo-1)/c:=Int.ediv_nonneg (by omega) (by omega)
   have q2:(m-lo-1)/c<=(m-lo-1):=Int.ediv_le_self _ (by omega)
   omega
  ·rw[if_neg h];omega
 unfold Builtin.Range.small Builtin.Range.rangeFitsLong
 simp only[gt_iff_lt,h3,if_true]
 simp
 omega
theorem FD{a b c:Expr}{ta:TA}{p pos:Pos} (hg:Gl X "range") (hm:X.mg "range" = none) (ha:PA X [a,b,c] ta) (hs:starEach [a,b,c] X.env=(false,eval a X.env)::starEach [b,c] X.env:=by rfl) (hs2:(backTo pos (starEach [b,c] X.env)).any (·.1)=false:=by rfl) :
  PI X tg (.Call (.Name "range" p) [a,b,c] [] pos) (iRngL ta):=by
 intro pins s σ H R I h
 refine Call_ (j9 I hg hm Jn (PyProof.Rows.callWith_type1 (thn (ha pos pins s σ H _ I h) fun us s1 ⟨vs,H1,I1,r1,q1⟩=>?_) hs hs2))
 obtain⟨lo,m,c,n,e,h0,h00,h1,h2,h3,hn,q⟩:=q1
 subst e
 cases r1 with
 |cons r rr =>
  cases rr with
  |cons r' rr =>
   cases rr with
   |cons r'' rr =>
    cases rr
    obtain⟨t,rfl⟩:=r
    obtain⟨t',rfl⟩:=r'
    obtain⟨t'',rfl⟩:=r''
    refine call_range_3 (by have:=h3.1;omega) ?_ (Or.inl (PyProof.noPylong_small (by have:=h3.1;have:=h3.2;omega)))
    refine wpAny_pyIter_range (IsRange.new ..) (Il h0 h00 h1 h2 h3) ?_
    have I2:Inv X pins σ H1 { s1 with heap:=s1.heap.push { cls:=.type "range",data:=.fields #[.int lo t,.int m t',.int c t''] },toks:=s1.toks }:=I1.kept fun b o e=>Heap.get?_push_of_some _ e
    refine⟨(s1.heap.push { cls:=.type "range",data:=.fields #[.int lo t,.int m t',.int c t''] }).objs.size,[(s1.heap.push { cls:=.type "range",data:=.fields #[.int lo t,.int m t',.int c t''] }).objs.size],_,_,H1,rfl,
     I2.kept (t':=s1.toks) fun b o e=>Heap.get?_push_of_some _ e,Af _ lo c n,?_,fun b hb=>?_,q⟩
    ·have e1:lo+((0:Nat):Int)*c=lo:=by simp
     have e2:((n:Nat):Int)-((0:Nat):Int)=Builtin.Range.rangeSize lo m c:=by rw[hn];simp
     show IsRangeIter _ _ (lo+((0:Nat):Int)*c) ((n:Int)-((0:Nat):Int)) c
     rw[e1,e2]
     exact Heap.get?_push_size _ rfl
    ·have e:b=(s1.heap.push { cls:=.type "range",data:=.fields #[.int lo t,.int m t',.int c t''] }).objs.size:=by simpa using hb
     subst e
     exact I2.fpOk (Ma _) (I2.hok.fresh (Ma _))
end
end L2
namespace L2
open PySem PySem.Spec PyProof.Rows
theorem Hs:bootBuiltins "max" = some (.builtin "max"):=by decide +kernel
section
variable{X:Cx}
theorem Df:∀{ns:List Int}{us:List Value},Vals (ns.map V.int) us->IntsAre us ns
 |[],_,.nil=>.nil
 |n::ns,_,.cons r rr=>by
  obtain⟨t,rfl⟩:=r
  exact .cons n t (Df rr)
end
end L2
namespace L2
open PySem PySem.Spec PyProof.Rows
theorem uh:bootBuiltins "sum" = some (.builtin "sum"):=by decide +kernel
theorem yesT{σ:St}{H:Hp}{A B:Hp->Prop}(h:A H):tYes σ H fun b H3=>if b=true then A H3 else B H3 :=
 show(if true=true then A H else B H) from iteT (B:=B H) h
theorem bt_zip:bootBuiltins "zip" = some (.type "zip"):=by decide +kernel
theorem a9(x y:Nat)(h:¬ x=y):@Ne Addr x y:=h
section
variable{X:Cx}
end
section
variable{X:Cx}
def rMinL(K:LU):List V->Hp->VK->Prop:=fun xs H Q=>∃(p:Addr)(ns:List Int),xs = [.ref p]/\SqL K H p (ns.map V.int)/\0<ns.length/\∀ m:Int,m∈ns->(∀ x∈ns,m<=x)->Q (.int m) H
theorem Hk(hc:X.calm=true):j4 X (.builtin "min") (rMinL X.K):=by
 intro pins s σ H xs us Q I r h
 obtain⟨p,ns,rfl,hq,hne,q⟩:=h
 obtain⟨u,rfl,ru⟩:=rQ r
 cases ru
 obtain⟨its,rv,pl,hz⟩:=I.list hq
 have hi:=Df rv
 obtain⟨zs,e⟩:=hi.allInts.items
 have hl:s.heap.IsList p (intItems zs):=by rw[← e];exact pl.isList
 have e1:ns=zs.toList.map (·.1):=by
  rw[← nums_intItems,← e]
  exact(show numsOf its.toArray.toList=ns from hi.numsOf).symm
 subst e1
 rw[LW,Nb]at hne
 refine min_intList (I.ok.hd hc) hl hne fun v h' tk hv hk=>?_
 obtain⟨t,rfl⟩:=intItems_at hv
 obtain⟨h1,h2⟩:=argBest_lt (numAt zs) (zs.size-1)
 refine⟨.int _,H,I.kept (t':=tk) hk,⟨t,rfl⟩,q _ ?_ fun a ha=>?_⟩
 ·rw[numAt_eq];exact PySem.getD_mem (by rw[LW,Nb];omega)
 ·obtain⟨j,hj,rfl⟩:=PySem.mem_getD ha
  rw[LW,Nb]at hj
  rw[← numAt_eq];exact h2 j (by omega)
end
end L2
namespace L2
open PySem PySem.Spec PyProof.Rows
def LsAt{α:Type}(R:Hp->V->α->Prop)(H:Hp)(ys:List V)(xs:List α):Prop:=ys.length=xs.length/\∀(i:Nat)(x:α),xs[i]?=some x->∃ y,ys[i]?=some y/\R H y x
theorem LsAt.nil{α:Type}{R:Hp->V->α->Prop}{H:Hp}:LsAt R H [] []:=⟨rfl,fun i x e=>by simp at e⟩
theorem LsAt.imp{α:Type}{R R':Hp->V->α->Prop}{H H':Hp}{ys:List V}{xs:List α}(h:LsAt R H ys xs)(m:∀ y x,R H y x->R' H' y x):LsAt R' H' ys xs:=⟨h.1,fun i x e=>by
 obtain⟨y,a,b⟩:=h.2 i x e
 exact⟨y,a,m y x b⟩⟩
theorem LsAt.snoc{α:Type}{R:Hp->V->α->Prop}{H:Hp}{ys:List V}{xs:List α}{y:V}{x:α}(h:LsAt R H ys xs)(r:R H y x):LsAt R H (ys++[y]) (xs++[x]):=by
 refine⟨by rw[LX,LX,h.1];rfl,fun j k e=>?_⟩
 by_cases hj:j<xs.length
 ·rw[L0 hj]at e
  obtain⟨p,a1,a2⟩:=h.2 j k e
  exact⟨p,by rw[L0 (by rw[h.1];exact hj)];exact a1,a2⟩
 ·rw[LY (by omega)]at e
  have hj2:j=xs.length:=by
   have:=(LR.mp e).1
   rw[Me]at this
   omega
  subst hj2
  rw[Mw]at e
  cases e
  exact⟨y,by rw[← h.1,LY (Ma _),Mw];rfl,r⟩
theorem LsAt.get{α:Type}{R:Hp->V->α->Prop}{H:Hp}{ys:List V}{xs:List α}{i:Nat}{y:V}(h:LsAt R H ys xs)(e:ys[i]?=some y):∃ x,xs[i]?=some x/\R H y x:=by
 have hi:i<xs.length:=by rw[← h.1];exact(LR.mp e).1
 obtain⟨z,a,b⟩:=h.2 i _ (LS hi)
 rw[e]at a
 cases a
 exact⟨_,LS hi,b⟩
end L2
namespace L2
open PySem PySem.Spec PyProof.Rows
theorem EY:∀{ys:List V}{us:List Value},ys.length=us.length->(∀(i:Nat)(y:V)(u:Value),ys[i]?=some y->us[i]?=some u->RelV y u)->Vals ys us
 |[],[],_,_=>.nil
 |[],_::_,e,_=>by cases e
 |_::_,[],e,_=>by cases e
 |y::ys,u::us,e,h=>.cons (h 0 y u rfl rfl) (EY (O1 e) fun i y u a b=>h (i+1) y u a b)
section
variable{X:Cx}
theorem oq{e:Expr}{te:TE}{p p2 pos pos2:Pos}(hc:X.calm=true) (hg:Gl X "list") (hm:X.mg "list" = none) (hg2:Gl X "range") (hm2:X.mg "range" = none) (he:PE X e te)
  (h1:starEach [.Call (.Name "range" p2) [e] [] pos2] X.env = [(false,eval (.Call (.Name "range" p2) [e] [] pos2) X.env)]:=by rfl) (h2:starEach [e] X.env=(false,eval e X.env)::starEach [] X.env:=by rfl) :
  PE X (.Call (.Name "list" p) [.Call (.Name "range" p2) [e] [] pos2] [] pos) (fun σ H Q=>te σ H fun x H1=>∃ n:Nat,x=.int (n:Int)/\n<=1000/\∀ q,H1 q=none->Q (.ref q) (upd H1 q (.lst ((MH n).map fun(i:Nat)=>V.int ((i:Nat):Int))))):=by
 intro pins s σ H Q I h
 refine wpAny_Call_Name_kw (j9 I hg hm iq ?_)
 refine PyProof.Rows.callWith_type1 ?_ h1 rfl
 rw[h1]
 refine Calls.spliced_cons ?_
 refine wpAny_Call_Name_kw (j9 I hg2 hm2 boot_range ?_)
 refine PyProof.Rows.callWith_type1 ?_ h2 rfl
 rw[h2]
 refine Calls.spliced_cons (thn (he pins s σ H _ I h) fun u s1 ⟨x,H1,I1,r1,q1⟩=>?_)
 obtain⟨n,rfl,hn,q⟩:=q1
 obtain⟨t,rfl⟩:=r1
 refine Calls.spliced_nil ?_
 refine call_range_1 ?_
 refine Calls.spliced_nil ?_
 have I2:Inv X pins σ H1 { s1 with heap:=s1.heap.push { cls:=.type "range",data:=.fields #[.int 0 s1.toks,.int (n:Int) t,.int 1 (s1.toks+1)] },toks:=s1.toks+1+1 }:=I1.kept fun b o e=>Heap.get?_push_of_some _ e
 refine call_list_range (n:=n) (I.ok.hd hc) (IsRange.new ..) (small_one (by omega) (by omega) (by omega) (by omega)) (by rw[rangeSize_one];split<;>omega) (by omega) fun h' tk acc' c' hk hS hacc=>?_
 have I3:Inv X pins σ H1 { s1 with heap:=h',toks:=tk }:=I2.kept (t':=tk) fun b o e=>hk b o e
 have fS:=I2.fpOk (H':=H1) (Ma _) (I2.hok.fresh (Ma _))
 have hz:((MH n).map fun(i:Nat)=>V.int ((i:Nat):Int)).length<=sizeLine:=by
  rw[LW,M6]
  exact MZ hn (by decide)
 have hv:Vals ((MH n).map fun(i:Nat)=>V.int ((i:Nat):Int)) acc'.toList:=by
  refine EY (by rw[LW,M6,Nb,hacc.1]) fun i y u a b=>?_
  rw[N7]at b
  obtain⟨tk',e⟩:=hacc.2 i u b
  rw[Mb]at a
  obtain⟨j,a1,a2⟩:=Ms.mp a
  have hi:i<n:=by
   have:=(LR.mp a1).1
   rwa[M6]at this
  rw[NS hi]at a1
  cases a1
  subst a2
  subst e
  exact⟨tk',by rw[Nf,Int.mul_one]⟩
 have I4:=I3.track (o:=.lst ((MH n).map fun(i:Nat)=>V.int ((i:Nat):Int))) fS ⟨hz,acc'.toList,c',hv,by rw[Array.toArray_toList];exact hS⟩
 exact⟨.ref _,_,I4,rfl,q _ fS.1⟩
theorem op_neG(hu:X.A.units+64<cLine):OpR X (compareOp .NotEq) (fun x y H Q=>∃ d1 d2,RdD X.K H x d1/\RdD X.K H y d2/\SeqAt.shaped d1=true/\SeqAt.shaped d2=true/\Q (.bl (!PyData.eqv d1 d2)) H):=by
 intro pins s σ H x y v u Q I rx ry h
 obtain⟨d1,d2,r1,r2,h1,h2,q⟩:=h
 obtain⟨as,q1⟩:=r1.reads I v rx
 obtain⟨bs,q2⟩:=r2.reads I u ry
 exact ne_dataH q1 q2 h1 h2 hu ⟨.bl _,H,I,rfl,q⟩
theorem qL:∀(a b:List Int),PyData.eqvAll (a.map PyData.int) (b.map PyData.int)=decide (a=b)
 |[],[]=>by simp[PyData.eqvAll]
 |[],y::b=>by simp[PyData.eqvAll]
 |x::a,[]=>by simp[PyData.eqvAll]
 |x::a,y::b=>by
  rw[MQ,MQ]
  simp only[PyData.eqvAll,PyData.eqv,qL a b]
  by_cases h:x=y
  ·by_cases h2:a=b
   ·simp[h,h2]
   ·simp[h,h2]
  ·simp[h]
theorem Jh(a b:List Int):PyData.eqv (.list (a.map PyData.int)) (.list (b.map PyData.int))=decide (a=b):=by
 rw[← qL]
 simp only[PyData.eqv]
end
theorem lN{α:Type}{M:Model}{A:Around}{s:Shared}{t:Sem α}{Q:α->Shared->Prop}{E:Value->Shared->Prop}(h:wpAny M A t Q (fun _ _=>False) s):wpAny M A t Q E s:=wpAny_mono h (fun _ _ q=>q) fun _ _ z=>False.elim z
section
variable{X:Cx}{tg:Expr}
theorem KC{iter:Expr}{body:List Stmt}{wi:TI}{g:TG}{tb:TS}{pos:Pos}(hc:X.calm=true)(hi:PI X tg iter wi)(hg:PG X.nox tg g)(hb:PSs X.nox body tb)
  (hs:∀ x,foldedSetIterable iter X.env x=pure x:=by intro _;rfl):PS X (.For tg iter body [] pos) (tFor wi g tb):=by
 intro pins s σ H D I h
 refine wpAny_For (thn (hi pins s σ H _ I h) fun v s1 h1=>thn h1 fun itv s2 h2=>?_) hs
 obtain⟨it,fp,tn,J,H2,e,I2,T,st2,f2,W,⟨m0,w0⟩,turn⟩:=h2
 subst e
 have stat:∀{H':Hp},(∀ b∈fp,H' b=none)->∀ b∈fp,FpOk X pins H' b:=fun hn b hb=>⟨hn b hb,(f2 b hb).2⟩
 refine codeAny_forLoop_any (fun n s'=>∃ i σ' H',Inv X pins σ' H' s'/\tn i s'.heap/\(∀ b∈fp,H' b=none)/\W i n σ' H') ?_ m0 ⟨0,σ,H2,I2,st2,fun b hb=>(f2 b hb).1,w0⟩
 rintro n s3 ⟨i,σ3,H3,I3,st3,fr3,w3⟩
 rcases turn i n σ3 H3 w3 with⟨stop,qn⟩ | ⟨go,N,hN,step⟩
 ·refine lN (thn (T.done X rfl rfl rfl hc i pins s3 σ3 H3 (fun _ _=>False) I3 (stat fr3) st3 stop) fun r s4 ⟨hr,I4⟩=>?_)
  subst hr
  exact wpAny_execs_nil ⟨σ3,H3,I4,qn⟩
 ·refine lN (thn (T.item X rfl rfl rfl hc i pins s3 σ3 H3 (fun _ _=>False) I3 (stat fr3) st3 go) fun r s4 ⟨u,hr,h4⟩=>?_)
  subst hr
  refine lN (thn h4 fun _ s5 ⟨x,H5,I5,r5,y5,st5,fr5⟩=>?_)
  have I5':=I5.pinned (stat fr5) (T.obj _ _ st5)
  refine lN (thn (hg _ s5 σ3 H5 x u _ (I5'.wish _) r5 (step x H5 y5)) fun _ s6 ⟨σ6,H6,I6,q6⟩=>?_)
  refine lN (thn (hb _ s6 σ6 H6 _ I6 q6) fun f s7 q7=>?_)
  replace q7:=SP.unwish q7
  have again:∀{σ7:St}{H7:Hp},Inv X (pins++tU fp s5.heap) σ7 H7 s7->N σ7 H7->∃ m,m<n/\∃ i σ' H',Inv X pins σ' H' s7/\tn i s7.heap/\(∀ b∈fp,H' b=none)/\W i m σ' H':=fun{σ7 H7} I7 n7=>by
   obtain⟨m',hm,w7⟩:=hN σ7 H7 n7
   refine⟨m',hm,i+1,σ7,H7,I7.unpinned,T.keep _ _ _ st5 fun b hb o e=>(I7.pin (b,o) (Mh _ (Mh _ (dq hb e)))).1,fun b hb=>?_,w7⟩
   obtain⟨o,e,d⟩:=T.obj _ _ st5 b hb
   exact(I7.pin (b,o) (Mh _ (Mh _ (dq hb e)))).2.1
  cases f with
  |next=>obtain⟨σ7,H7,I7,n7⟩:=q7;exact again I7 n7
  |cont=>obtain⟨σ7,H7,I7,n7⟩:=q7;exact again I7 n7
  |brk=>obtain⟨σ7,H7,I7,q7⟩:=q7;exact⟨σ7,H7,I7.unpinned,q7⟩
  |ret v=>obtain⟨x7,σ7,H7,I7,r7,q7⟩:=q7;exact⟨x7,σ7,H7,I7.unpinned,r7,q7⟩
end
structure FunD(K:LU)(x qual:Str)(st:Stmt)(f:Addr)(fd:FuncData)(items:Array Value):Prop where
 ex:∃(oc:Value)(od:Option Addr)(d:Addr)(kV doc pm:Value)(an:Option Addr)(cdv ct:Value)(osl:Array (Option Value)),
  fd=Mi x qual (aA st) (ax st) (ai st) (.ref d) kV doc pm an cdv ct/\K.lookup f=some ⟨oc,od,.func fd,osl⟩/\Mf K cdv qual=true/\∃ o n,K.lookup d=some o/\o.data=.seq items n
 kp:Md K (.ref f)=true
section
variable{P:Program}{w:World}{K:LU}{mg:Str->Option Value}{base:Heap}
theorem FunD.okX{x qual:Str}{st:Stmt}{f:Addr}{fd:FuncData}{items:Array Value}{N ps:List Str}{k:Nat}{sp:Sp}(F:FunD K x qual st f fd items)(S:aE N ps (ai st))(len:∀ vs H Q E,sp vs H Q E->vs.length=ps.length)
  (hbody:∀(cdv:Value)(A:Around)(outer:List Env)(s:Shared)(H:Hp)(vs:List V)(Q:VK)(E:XK),Room k (A.deeper (envOfC qual (ai st) s.heap.objs.size f cdv))->sp vs H Q E ->
   ∃ t,PSs (cxOf (CXr P w) P w K mg base N qual (ai st) f cdv A outer s H E) (ax st) t/\t { nx:=fun _ H'=>Q .non H',rt:=Q } (rT N vs) H):FnOk P w K mg base (CXr P w) (k+1) f fd ps sp:=by
 obtain⟨oc,od,d,kV,doc,pm,an,cdv,ct,osl,rfl,lk,hcd,_⟩:=F.ex
 exact Lw lk hcd S len fun A outer s H vs Q E hr hsp=>hbody cdv A outer s H vs Q E hr hsp
theorem FunD.binds{x qual:Str}{st:Stmt}{f:Addr}{fd:FuncData}{items:Array Value}{ps:List Str}{ds:List Value}(F:FunD K x qual st f fd items)
  (h:∀(dV kV doc pm:Value)(an:Option Addr)(cdv ct:Value)(us:List Value),(us++ds).length=ps.length->∃ k,bindArgs (Mi x qual (aA st) (ax st) (ai st) dV kV doc pm an cdv ct) ⟨us,[]⟩=seqItems? dV >>= k/\k (some items)=pure (ps.zip (us++ds))):iG K fd ps ds:=by
 obtain⟨oc,od,d,kV,doc,pm,an,cdv,ct,osl,rfl,lk,hcd,o,n,ho,hs⟩:=F.ex
 intro s us X hl
 obtain⟨k,h1,h2⟩:=h (.ref d) kV doc pm an cdv ct us hl
 exact BindsTo.of_defaults rfl (X _ _ ho) hs h1 h2
theorem GN{x qual:Str}{st:Stmt}{f d:Addr}{oc:Value}{od an:Option Addr}{osl:Array (Option Value)}{kV doc pm cdv ct:Value}{items:Array Value}{o:Obj}{n:Nat}(l:K.lookup f=some ⟨oc,od,.func (Mi x qual (aA st) (ax st) (ai st) (.ref d) kV doc pm an cdv ct),osl⟩)
  (c:Mf K cdv qual=true) (k:Md K (.ref f)=true) (ld:K.lookup d=some o) (hs:o.data=.seq items n):FunD K x qual st f (Mi x qual (aA st) (ax st) (ai st) (.ref d) kV doc pm an cdv ct) items:=⟨⟨oc,od,d,kV,doc,pm,an,cdv,ct,osl,rfl,l,c,o,n,ld,hs⟩,k⟩
end
end L2
namespace PyProof.Rows
open PySem
local macro_rules | `(tactic| walk_at "gallop") => do
 let n:=Lean.mkIdent (Lean.mkPrivateNameCore `PySem.Builtin.List.W1All `PySem.Builtin.gallop)
 `(tactic| delta $n)
local macro_rules | `(tactic| walk_at "st") => `(tactic| try dsimp -zeta -zetaHave only)
local macro_rules | `(tactic| walk_at "l4") => `(tactic| (extract_lets -underBinder +onlyGivenNames a b; subst a b))
variable{prog:Program}{w:World}{A:Around}{E:Value->Shared->Prop}{s:Shared}
end PyProof.Rows
namespace PyProof.Rows
open PySem
local macro_rules | `(tactic| walk_at "setG") => do
 let n:=Lean.mkIdent (Lean.mkPrivateNameCore `PySem.Builtin.List.W1All `PySem.Builtin.setMinGallop)
 `(tactic| delta $n)
local macro_rules | `(tactic| walk_at "mergeLo") => do
 let n:=Lean.mkIdent (Lean.mkPrivateNameCore `PySem.Builtin.List.W1All `PySem.Builtin.mergeLo)
 `(tactic| delta $n)
local macro_rules | `(tactic| walk_at "st") => `(tactic| try dsimp -zeta -zetaHave only)
local macro_rules | `(tactic| walk_at "l3") => `(tactic| (extract_lets -underBinder +onlyGivenNames a b c; subst a b c))
local macro_rules | `(tactic| walk_at "l11") => `(tactic| (extract_lets -underBinder +onlyGivenNames a b c d e f g h i j k; subst a b c d e f g h i j k; dsimp -zeta -zetaHave only))
variable{prog:Program}{w:World}{A:Around}{E:Value->Shared->Prop}{s:Shared}
end PyProof.Rows
namespace PyProof.Rows
open PySem
local macro_rules | `(tactic| walk_at "mergeHi") => do
 let n:=Lean.mkIdent (Lean.mkPrivateNameCore `PySem.Builtin.List.W1All `PySem.Builtin.mergeHi)
 `(tactic| delta $n)
local macro_rules | `(tactic| walk_at "st") => `(tactic| try dsimp -zeta -zetaHave only)
local macro_rules | `(tactic| walk_at "l3") => `(tactic| (extract_lets -underBinder +onlyGivenNames a b c; subst a b c))
local macro_rules | `(tactic| walk_at "l11") => `(tactic| (extract_lets -underBinder +onlyGivenNames a b c d e f g h i j k; subst a b c d e f g h i j k; dsimp -zeta -zetaHave only))
variable{prog:Program}{w:World}{A:Around}{E:Value->Shared->Prop}{s:Shared}
end PyProof.Rows
namespace PyProof.Rows
open PySem
local macro_rules | `(tactic| walk_at "countRun") => do
 let n:=Lean.mkIdent (Lean.mkPrivateNameCore `PySem.Builtin.List.W1All `PySem.Builtin.countRun)
 `(tactic| delta $n)
local macro_rules | `(tactic| walk_at "binarySort") => do
 let n:=Lean.mkIdent (Lean.mkPrivateNameCore `PySem.Builtin.List.W1All `PySem.Builtin.binarySort)
 `(tactic| delta $n)
local macro_rules | `(tactic| walk_at "st") => `(tactic| try dsimp -zeta -zetaHave only)
local macro_rules | `(tactic| walk_at "l3") => `(tactic| (extract_lets -underBinder +onlyGivenNames a b c; subst a b c))
local macro_rules | `(tactic| walk_at "l11") => `(tactic| (extract_lets -underBinder +onlyGivenNames a b c d e f g h i j k; subst a b c d e f g h i j k; dsimp -zeta -zetaHave only))
local macro_rules | `(tactic| walk_at "l1") => `(tactic| (extract_lets -underBinder +onlyGivenNames a; subst a; try dsimp -zeta -zetaHave only))
local macro_rules | `(tactic| walk_at "l2") => `(tactic| (extract_lets -underBinder +onlyGivenNames a b; subst a b; try dsimp -zeta -zetaHave only))
local macro_rules | `(tactic| walk_at "l4") => `(tactic| (extract_lets -underBinder +onlyGivenNames a b c d; subst a b c d; try dsimp -zeta -zetaHave only))
variable{prog:Program}{w:World}{A:Around}{E:Value->Shared->Prop}{s:Shared}
end PyProof.Rows
namespace PyProof.Rows
open PySem
local macro_rules | `(tactic| walk_at "mergeAt") => do
 let n:=Lean.mkIdent (Lean.mkPrivateNameCore `PySem.Builtin.List.W1All `PySem.Builtin.mergeAt)
 `(tactic| delta $n)
local macro_rules | `(tactic| walk_at "st") => `(tactic| try dsimp -zeta -zetaHave only)
local macro_rules | `(tactic| walk_at "l3") => `(tactic| (extract_lets -underBinder +onlyGivenNames a b c; subst a b c))
local macro_rules | `(tactic| walk_at "l11") => `(tactic| (extract_lets -underBinder +onlyGivenNames a b c d e f g h i j k; subst a b c d e f g h i j k; dsimp -zeta -zetaHave only))
local macro_rules | `(tactic| walk_at "l1") => `(tactic| (extract_lets -underBinder +onlyGivenNames a; subst a; try dsimp -zeta -zetaHave only))
local macro_rules | `(tactic| walk_at "l2") => `(tactic| (extract_lets -underBinder +onlyGivenNames a b; subst a b; try dsimp -zeta -zetaHave only))
local macro_rules | `(tactic| walk_at "l4") => `(tactic| (extract_lets -underBinder +onlyGivenNames a b c d; subst a b c d; try dsimp -zeta -zetaHave only))
variable{prog:Program}{w:World}{A:Around}{E:Value->Shared->Prop}{s:Shared}
end PyProof.Rows
namespace PyProof.Rows
open PySem
local macro_rules | `(tactic| walk_at "sortRuns") => do
 let n:=Lean.mkIdent (Lean.mkPrivateNameCore `PySem.Builtin.List.W1All `PySem.Builtin.sortRuns)
 `(tactic| delta $n)
local macro_rules | `(tactic| walk_at "st") => `(tactic| try dsimp -zeta -zetaHave only)
local macro_rules | `(tactic| walk_at "l3") => `(tactic| (extract_lets -underBinder +onlyGivenNames a b c; subst a b c))
local macro_rules | `(tactic| walk_at "l11") => `(tactic| (extract_lets -underBinder +onlyGivenNames a b c d e f g h i j k; subst a b c d e f g h i j k; dsimp -zeta -zetaHave only))
local macro_rules | `(tactic| walk_at "l1") => `(tactic| (extract_lets -underBinder +onlyGivenNames a; subst a; try dsimp -zeta -zetaHave only))
local macro_rules | `(tactic| walk_at "l2") => `(tactic| (extract_lets -underBinder +onlyGivenNames a b; subst a b; try dsimp -zeta -zetaHave only))
local macro_rules | `(tactic| walk_at "l4") => `(tactic| (extract_lets -underBinder +onlyGivenNames a b c d; subst a b c d; try dsimp -zeta -zetaHave only))
variable{prog:Program}{w:World}{A:Around}{E:Value->Shared->Prop}{s:Shared}
end PyProof.Rows
namespace PyProof.Rows
open PySem
variable{prog:Program}{w:World}{A:Around}{E:Value->Shared->Prop}{s:Shared}
end PyProof.Rows
namespace L2
open PySem PySem.Spec PyProof.Rows
section
variable{X:Cx}
end
end L2
namespace L2
open PySem PySem.Spec PyProof.Rows
section
variable{X:Cx}
end
end L2
namespace L2
open PySem PySem.Spec PyProof.Rows
section
variable{prog:Program}{w:World}{A:Around}{E:Value->Shared->Prop}{s:Shared}{z TI TO i1 i2 l1 l2:Addr}{f0:Value}{f1:Bool}
end
section
variable{X:Cx}
end
end L2
namespace L2
open PySem PySem.Spec PyProof.Rows
section
variable{X:Cx}
theorem bt_all:bootBuiltins "all" = some (.builtin "all"):=by decide +kernel
def rAllT(K:LU):List V->Hp->VK->Prop:=fun xs H Q=>∃(p:Addr)(n:Nat),xs = [.ref p]/\SqL K H p ((Ng n true).map V.bl)/\Q (.bl true) H
theorem Hn(hc:X.calm=true):j4 X (.builtin "all") (rAllT X.K):=by
 intro pins s σ H xs us Q I r h
 obtain⟨p,n,rfl,hq,q⟩:=h
 obtain⟨u,rfl,ru⟩:=rQ r
 cases ru
 obtain⟨its,rv,pl,hz⟩:=I.list hq
 have hln:=rv.length
 rw[LW,OE]at hln
 have hlt:p<s.heap.objs.size:=by obtain⟨_,_,q,_⟩:=pl;exact Heap.lt_size q
 refine call_all_walk (wpAny_pyIter_list pl.isList ?_)
 refine⟨s.heap.objs.size,[s.heap.objs.size,p],[s.heap.objs.size],its.toArray.size,_,_,fun _=>true,rfl,Walks.list (A:=X.A.in1) (I.ok.hd hc) _ p (ME hlt) its.toArray,⟨⟨_,Heap.get?_push_size _ rfl,rfl,rfl⟩,pl.isList.push _⟩,fun i v s' Q' E' hP hQ=>?_,fun h' tk hk=>?_⟩
 ·have hv:its[i]?=some v:=by simpa using hP
  have hi:i<n:=by have:=(LR.mp hv).1;omega
  obtain⟨w,hw,rw'⟩:=rv.get (i:=i) (x:=.bl true) (by rw[Mb,Nt,if_pos hi];rfl)
  rw[hv]at hw
  cases hw
  cases rw'
  exact wpAny_truthy_bool hQ
 ·have ea:((MH its.toArray.size).all fun _=>true)=true:=by rw[List.all_eq_true];intro _ _;rfl
  rw[ea]
  refine⟨.bl _,H,I.kept (t':=tk) (fun b o e=>hk b o (fun hm=>?_) (Heap.get?_push_of_some _ e)),rfl,q⟩
  rw[Mu.mp hm]at e
  exact M7 _ (Heap.lt_size e)
end
end L2
namespace L2
open PySem PySem.Spec PyProof.Rows
section
variable{prog:Program}{w:World}{A:Around}{E:Value->Shared->Prop}{s:Shared}{d:Addr}
def Ent(h:Heap)(d:Addr)(es:Array DictEntry)(ep:Nat):Prop:=∃ o,h.get? d=some o/\o.ExactDict/\o.data=.dict es ep
theorem Ent.ty{es:Array DictEntry}{ep:Nat}(x:Ent s.heap d es ep):s.TypeIs (.ref d) "dict":=by
 obtain⟨o,h1,h2,_⟩:=x
 exact⟨o,h1,h2.1⟩
theorem Ji(hd:(d == sysModules)=false):MeetsIn prog w (Builtin.«dict.items» ⟨[.ref d],[]⟩) (fun _ R s=>(∃ es ep,Ent s.heap d es ep)/\R (.ok (.ret (.ref s.heap.objs.size))) { s with heap:=s.heap.push { cls:=.type "dict_items",data:=.fields #[.ref d] } }) :=
 .of_wp fun A R s ⟨⟨es,ep,hm⟩,h⟩=>by
  unfold Builtin.«dict.items» Builtin.Dict.noArgs
  refine wpAny_bind (wpAny_bind (wpAny_notOrdered_dict hm.ty ?_))
  show wpAny _ _ (pure d) _ _ s
  refine wpAny_pure ?_
  show wpAny _ _ (Builtin.Dict.showsAll d >>= _) _ _ s
  unfold Builtin.Dict.showsAll
  rw[if_neg (by simp[hd])]
  exact wpAny_bind (wpAny_pure (wpAny_bind (wpAny_newObj_type (wpAny_pure ⟨_,rfl,h⟩))))
theorem Jj{v:Addr}{es:Array DictEntry}{ep:Nat}{Q:Value->Shared->Prop}(hv:s.heap.IsItemsView v d)(hm:Ent s.heap d es ep)
  (hQ:Q (.ref s.heap.objs.size) { s with heap:=s.heap.push { cls:=.type "dict_itemiterator",data:=.fields #[.none,.bool false,.ref d,.int 0 0,.int es.size 0,.int ep 0,.none,.none] } }) :
  wpAny (model prog w) A (pyIter (.ref v)) Q E s:=by
 obtain⟨ov,h1,h2,h3⟩:=id hv
 obtain⟨o,e1,e2,e3⟩:=hm
 refine wpAny_pyIter_slot hv.typeIs F.slot_dict_items_iter (wpAny_call_entry F.slot_dict_items_iter hv.typeIs F.entry_dict_items_iter ?_ (F.args_dict_items_iter_1 _))
 show wpAny _ _ (Builtin.«dict_items.__iter__» _) _ _ s
 unfold Builtin.«dict_items.__iter__» Builtin.Dict_items.dictOf Builtin.Dict_items.newIterator
 refine wpAny_bind (wpAny_pure (wpAny_bind (wpAny_bind (wpAny_field h1 h3 (x:=.ref d) rfl (wpAny_pure (wpAny_bind (wpAny_bind (wpAny_dictEntries e1 e3 (wpAny_bind (wpAny_dictEpoch e1 e3 ?_))))))))))
 simp only[show Builtin.Dict_items.ownsTuple "dict_itemiterator" = true by decide,if_true]
 refine wpAny_newObj_type (wpAny_pure ⟨_,rfl,"dict_itemiterator",_,⟨_,Heap.get?_push_size _ rfl,rfl⟩,F.slot_dict_itemiterator_next.lookup,?_⟩)
  (by simp only[sizeOk,Builtin.Dict_items.ownedTupleFields,MG,LX,MJ,NX,sizeLine_eq];omega)
 simpa[rawInt,Builtin.Dict_items.ownedTupleFields] using hQ
theorem y7{it:Addr}{i ep:Nat}{es:Array DictEntry}{ok ov:Value}{Q:Option Value->Shared->Prop}(hit:IsItemIter s.heap it d i es.size ep ok ov)(hm:Ent s.heap d es ep)(hh:A.handled=none)
  (hI:∀ e,es[i]?=some e->∀ h',IsItemIterOut h' it d (i+1) es.size ep e.key e.val s.heap.objs.size->h'.get? s.heap.objs.size=some { cls:=.type "tuple",data:=.seq #[e.key,e.val] }->(∀ b o,b≠it->s.heap.get? b=some o->h'.get? b=some o)->Q (some (.ref s.heap.objs.size)) { s with heap:=h' })
  (hE:es[i]?=none->∀ h',Heap.ExtBut it s.heap h'->Q none { s with heap:=h' }):wpAny (model prog w) A (pyNext (.ref it)) Q E s:=by
 obtain⟨o,e1,e2,e3⟩:=hm
 have hT:s.TypeIs (.ref it) "dict_itemiterator":=⟨_,hit,rfl⟩
 have own:Builtin.Dict_items.ownsTuple "dict_itemiterator" = true:=by decide
 unfold pyNext
 refine wpAny_bind (wpAny_attempt (wpAny_callSpecial?_slot (name:=Str.ofString "__next__") hT F.slot_dict_itemiterator_next (wpAny_call_entry F.slot_dict_itemiterator_next hT F.entry_dict_itemiterator_next ?_ (F.args_dict_itemiterator_next_1 _))))
 refine wpAny_bind (wpAny_pure (wpAny_bind (wpAny_bind (wpAny_bind (wpAny_typeNameOfWhole_itemiter hT (wpAny_pure ?_))))))
 refine wpAny_bind (wpAny_fieldsOf hit rfl ?_)
 simp only[own,if_true]
 show wpAny _ _ (if(Value.ref d == Value.none)=true then _ else _) _ _ _
 rw[if_neg (show ¬ ((Value.ref d == Value.none)=true) from Mp)]
 refine wpAny_bind (wpAny_pure (wpAny_bind (wpAny_dictEntries e1 e3 ?_)))
 rw[if_neg (by simp)]
 refine wpAny_bind (wpAny_pure (wpAny_bind (wpAny_dictEpoch e1 e3 ?_)))
 rw[if_neg (by simp)]
 refine wpAny_pure ?_
 have n0:¬ ((i:Int)<0):=by omega
 simp only[n0,if_false,Mv]
 cases he:es[i]? with
 |none =>
  refine wpAny_bind (wpAny_bind (wpAny_typeNameOfWhole_itemiter hT (wpAny_pure ?_)))
  show wpAny _ _ (setField (.ref it) 2 .none >>= _) _ _ s
  refine wpAny_bind (wpAny_setField hit rfl (by simp) ?_)
  show wpAny _ _ (newExc (.type "StopIteration") [] >>= _) _ _ _
  refine wpAny_bind ?_
  simp only[newExc,newTuple]
  refine wpAny_bind (wpAny_newObj_type (wpAny_bind (m:=firstArgMember _ _) (wpAny_of_eq (a:=Value.none) (by first | rfl | (simp only[firstArgMember];rfl)) (wpAny_newObj_type ?_ (by size_fits)))) (by size_fits))
  simp only[raiseNew]
  refine wpAny_bind (wpAny_handled ?_)
  rw[show A.in1.handled=none from hh]
  refine wpAny_bind (wpAny_pure (wpAny_throw ?_))
  refine wpAny_bind (wpAny_isInstance (T:="StopIteration") (b:=true) ⟨_,Heap.get?_push_size _ rfl,rfl⟩ isSubtype_stop (wpAny_pure ?_))
  exact hE he _ (((Heap.SameBut.update ..).extBut.push _).push _)
 |some e =>
  refine wpAny_bind (wpAny_bind (wpAny_typeNameOfWhole_itemiter hT (wpAny_pure ?_)))
  refine wpAny_bind (wpAny_isOneOf_itemiter hT ?_)
  show wpAny _ _ (setField (.ref it) 3 (rawInt ((i:Int)+1)) >>= _) _ _ s
  refine wpAny_bind (wpAny_setField_rec hit (by simp) fun g1 q1 k1=>?_)
  have c1:((i+1:Nat):Int)=(i:Int)+1:=by omega
  have q1':IsItemIter g1 it d (i+1) es.size ep ok ov:=by
   unfold IsItemIter
   rw[c1]
   simpa[rawInt] using q1
  have lt:it<s.heap.objs.size:=Heap.lt_size hit
  have z1:g1.objs.size=s.heap.objs.size:=k1.1
  have hT1:Shared.TypeIs { s with heap:=g1 } (.ref it) "dict_itemiterator":=⟨_,q1',rfl⟩
  refine wpAny_bind (wpAny_holding (wpAny_bind (wpAny_isOneOf_itemiter hT1 (wpAny_bind (wpAny_isOneOf_itemiter hT1 ?_)))))
  show wpAny _ _ (Builtin.Dict_items.pairFromOwner (.ref it) 6 e.key e.val) _ _ { s with heap:=g1 }
  unfold Builtin.Dict_items.pairFromOwner Builtin.Dict_items.ownedTupleIsFree
  refine wpAny_bind (wpAny_newTuple ?_)
  have q2:IsItemIter (g1.push { cls:=.type "tuple",data:=.seq #[e.key,e.val] }) it d (i+1) es.size ep ok ov:=Heap.get?_push_of_some _ q1'
  have t2:(g1.push { cls:=.type "tuple",data:=.seq #[e.key,e.val] }).get? s.heap.objs.size=some { cls:=.type "tuple",data:=.seq #[e.key,e.val] }:=by rw[← z1];exact Heap.get?_push_size _ rfl
  have k2:∀ b o,b≠it->s.heap.get? b=some o->(g1.push { cls:=.type "tuple",data:=.seq #[e.key,e.val] }).get? b=some o:=fun b o hb q=>Heap.get?_push_of_some _ (k1.extBut b o hb q)
  rw[z1]
  generalize g1.push { cls:=.type "tuple",data:=.seq #[e.key,e.val] }=g2 at q2 t2 k2
  show wpAny _ _ (_ >>= _) _ _ { s with heap:=g2 }
  refine wpAny_bind (wpAny_bind (wpAny_field q2 rfl (x:=.none) rfl (wpAny_pure ?_)))
  simp only[if_true]
  refine wpAny_bind (wpAny_field q2 rfl (x:=ok) rfl (wpAny_bind (wpAny_field q2 rfl (x:=ov) rfl ?_)))
  refine wpAny_bind (wpAny_setField_rec q2 (by simp) fun g3 q3 k3=>?_)
  replace q3:IsItemIter g3 it d (i+1) es.size ep e.key ov:=q3
  refine wpAny_bind (wpAny_setField_rec q3 (by simp) fun g4 q4 k4=>?_)
  replace q4:IsItemIter g4 it d (i+1) es.size ep e.key e.val:=q4
  refine wpAny_bind (wpAny_setField_rec q4 (by simp) fun g5 q5 k5=>?_)
  replace q5:IsItemIterOut g5 it d (i+1) es.size ep e.key e.val s.heap.objs.size:=q5
  refine wpAny_bind (wpAny_setField_rec q5 (by simp) fun g6 q6 k6=>?_)
  replace q6:IsItemIterOut g6 it d (i+1) es.size ep e.key e.val s.heap.objs.size:=q6
  have up:∀ b o,b≠it->g2.get? b=some o->g6.get? b=some o:=fun b o hb q=>k6.extBut b o hb (k5.extBut b o hb (k4.extBut b o hb (k3.extBut b o hb q)))
  exact wpAny_bind (wpAny_letGo (wpAny_pure (wpAny_pure ⟨_,rfl,wpAny_pure (hI e he g6 q6 (up _ _ (Nu lt) t2) fun b o hb q=>up b o hb (k2 b o hb q))⟩)))
end
def ou(v d:Addr):HO:=.ext fun h=>h.IsItemsView v d
def KvA(H:Hp)(u:HO)(i:Nat)(x y:V):Prop:=(∃ kvs k,u=.dK kvs/\kvs[i]?=some (k,y)/\x=kV k)∨∃ kvs k t,u=.dT kvs/\kvs[i]?=some (k,y)/\x=.ref t/\H t=some (.tup (k.map kV))
def dlen:HO->Nat
 |.dK kvs=>kvs.length
 |.dT kvs=>kvs.length
 |_=>0
def yY:HO->Prop
 |.dK _=>True
 |.dT _=>True
 |_=>False
theorem pQ{α β:Type}{F:α->β->Prop}:∀{l₁:List α}{l₂:List β},Paired F l₁ l₂->∀{i:Nat}{b:β},l₂[i]?=some b->∃ a,l₁[i]?=some a/\F a b
 |_,_,.nil,i,b,e=>by simp at e
 |_,_,.cons r t,0,b,e=>⟨_,rfl,by cases e;exact r⟩
 |_,_,.cons r t,i+1,b,e=>pQ t (i:=i) e
theorem y8{P:Program}{w:World}{H:Hp}{h:Heap}{d:Addr}{u:HO}(hd:yY u)(x:bJ P w H h d u):(d == sysModules)=false/\∃ es ep,Ent h d es ep/\es.size=dlen u/\∀ i e,es[i]?=some e->∃ x y,KvA H u i x y/\RelV x e.key/\RelV y e.val:=by
 cases u with
 |dK kvs =>
  obtain⟨hz,lo,vs,rk,o,es,ep,h1,h2,h3,h4,h5,h6⟩:=x
  have l1:kvs.length=vs.length:=Paired.length rk
  have sz:es.size=vs.length:=by rw[← h5.length,Nb]
  refine⟨lo,es,ep,⟨o,h1,h2,h3⟩,by rw[sz];exact l1.symm,fun i e he=>?_⟩
  have hi:i<vs.length:=by
   have:i<es.size:=(Pb.mp he).1
   omega
  obtain⟨⟨k,v⟩,hv⟩:∃ q,vs[i]?=some q:=⟨_,LS hi⟩
  obtain⟨hk,hval⟩:=h5.get? (e:=e) (by rw[N7];exact he) hv
  obtain⟨⟨k',y⟩,hy,ek,ry⟩:=pQ rk hv
  have ek':k'=k:=ek
  subst ek'
  refine⟨kV k',y,.inl ⟨kvs,k',rfl,hy,rfl⟩,?_,by rw[hval];exact ry⟩
  rcases aZ (show vS k' e.key=true from hk) with⟨j,t,e1,e2⟩ | ⟨z,t,e1,e2⟩
  ·rw[e1,e2];exact⟨t,rfl⟩
  ·rw[e1,e2];exact⟨t,rfl⟩
 |dT kvs =>
  obtain⟨hz,lo,xs,r,o,es,ep,h1,h2,h3,h4,h5⟩:=x
  have sz:es.size=xs.length:=by rw[← Nb,h4,LW]
  refine⟨lo,es,ep,⟨o,h1,h2,h3⟩,by rw[sz];exact r.length.symm,fun i e he=>?_⟩
  have e1:es.toList[i]?=some e:=by rw[N7];exact he
  rw[h4,Mb]at e1
  cases hx:xs[i]? with
  |none=>rw[hx]at e1;cases e1
  |some q =>
   rw[hx]at e1
   cases e1
   obtain⟨⟨k,y⟩,hy,ek,ht,ry⟩:=pQ r hx
   exact⟨.ref q.2.1,y,.inr ⟨kvs,k,q.2.1,rfl,hy,rfl,ht⟩,rfl,ry⟩
 |_=>exact hd.elim
section
variable{X:Cx}{pins:List (Addr×Obj)}{σ:St}{H:Hp}{s:Shared}{d:Addr}{u:HO}{o:Obj}
theorem yY.notT(h:yY u):(∀ xs,u≠.tup xs)/\(∀ o v,u≠.frz o v)/\(∀ ps,u≠.tbl ps)/\∀ a,u≠.own a:=by
 cases u<;>first | exact h.elim | exact⟨fun _=>by simp,fun _ _=>by simp,fun _=>by simp,fun _=>by simp⟩
theorem HOk.frz{P:Program}{w:World}{h:Heap}(x:HOk P w H h)(hd:H d=some u)(hu:yY u)(e:h.get? d=some o):HOk P w (upd H d (.frz o u)) h:=fun b v q=>by
 obtain⟨n1,n2,n3,n4⟩:=hu.notT
 have ow:∀ c y,H c=some (.own y)->upd H d (.frz o u) c=some (.own y):=fun c y r=>by rw[aq (D4 r hd fun z=>n4 y z.symm)];exact r
 have tp:∀ c xs,H c=some (.tup xs)->upd H d (.frz o u) c=some (.tup xs):=fun c xs r=>by rw[aq (D4 r hd fun z=>n1 xs z.symm)];exact r
 by_cases hb:b=d
 ·subst hb
  rw[ae]at q
  cases q
  exact⟨e,(x b u hd).stay (fun _ _ _ r=>r) (fun c r=>ow c b r) tp⟩
 ·rw[aq hb]at q
  exact(x b v q).stay (fun _ _ _ r=>r) (fun c r=>ow c b r) tp
theorem Inv.freeze(I:Inv X pins σ H s)(hd:H d=some u)(hu:yY u)(e:s.heap.get? d=some o):Inv X pins σ (upd H d (.frz o u)) s:=by
 obtain⟨n1,n2,n3,n4⟩:=hu.notT
 exact I.step (H':=upd H d (.frz o u)) (h':=s.heap) (g':=s.gens) (d':=s.drawn) (t':=s.toks) (ch:=[]) (fun _ z=>nomatch z) (fun b _ _ _ _ q _=>q) (fun b ob _ _ _ q _=>⟨ob.slots,q⟩)
  (fun b _ _ _ n=>by rw[aq (aB hd n).symm];exact n) (fun b ob _ q=>⟨ob,q⟩) (fun b xs r=>by rw[aq (D4 r hd fun z=>n1 xs z.symm)];exact r)
  (fun b ob v r=>by rw[aq (D4 r hd fun z=>n2 ob v z.symm)];exact r) (fun b ps r=>⟨#[],by rw[aq (D4 r hd fun z=>n3 ps z.symm),r];simp⟩) (fun _ q=>q) (I.hok.frz hd hu e) I.bare
theorem IS:MtR X "dict.items" (fun x xs H Q=>∃ d u,x=.ref d/\xs = []/\H d=some u/\yY u/\∀ v,H v=none->Q (.ref v) (upd H v (ou v d))):=by
 intro pins s σ H x xs v us Q I rx rv h
 obtain⟨d,u,rfl,rfl,hd,hu,q⟩:=h
 cases rx
 have hus:=rv.zero
 subst hus
 obtain⟨lo,es,ep,hm,_⟩:=y8 hu (I.hok d _ hd)
 refine call_meetsIn Ph hm.ty PySem.F.entry_dict_items (PySem.F.args_dict_items_1 _) (Ji lo) ⟨⟨es,ep,hm⟩,?_⟩
 have hv:(s.heap.push { cls:=.type "dict_items",data:=.fields #[.ref d] }).IsItemsView s.heap.objs.size d:=⟨_,Heap.get?_push_size _ rfl,rfl,rfl⟩
 refine⟨.ref s.heap.objs.size,_,I.laid (t':=s.toks) (fun b o e=>Heap.get?_push_of_some _ e) (Ma _) ?_,rfl,q _ (I.hok.fresh (Ma _))⟩
 exact⟨hv,⟨_,Heap.get?_push_size _ rfl⟩,fun h1 h2 x k=>let ⟨o,ho,r⟩:=x;⟨o,k _ ho,r⟩⟩
end
def Itd(o:Obj)(u:HO)(d:Addr):It :=
 ⟨fun i H=>H d=some (.frz o u)/\i<dlen u,
  fun i H v H'=>∃ T x y,H T=none/\v=.ref T/\H'=upd H T (.tup [x,y])/\KvA H u i x y,
  fun i H=>H d=some (.frz o u)/\dlen u<=i⟩
theorem DC{P:Program}{w:World}{K:LU}{el:List Expr}{kk:Nat}{pos:Pos}(o:Obj)(u:HO)(d I:Addr)(hu:yY u)(es:Array DictEntry)(ep:Nat)(hx:o.ExactDict)(ho:o.data=.dict es ep):Turn P w K (.Tuple el kk pos) (Itd o u d) [I] I
  (fun i h=>∃ ok ov,IsItemIter h I d i es.size ep ok ov) where
 mem:=by simp
 obj:=fun i h st b hb=>by
  obtain⟨ok,ov,he⟩:=st
  rw[Mu.mp hb]
  exact⟨_,he,fun v z=>by have z':Data.fields _=Data.cell v:=z;cases z'⟩
 keep:=fun i h h' st kk=>by
  obtain⟨ok,ov,he⟩:=st
  exact⟨ok,ov,kk I (by simp) _ he⟩
 item:=by
  intro X hP hw hK hc i pins s σ H E Iv hf st hg
  subst hP hw hK
  obtain⟨hd,hi⟩:=hg
  obtain⟨ok,ov,he⟩:=st
  obtain⟨g1,g2⟩:=(show bJ X.prog X.w H s.heap d (.frz o u) from Iv.hok d _ hd)
  obtain⟨_,es',ep',⟨o',q1,q2,q3⟩,sz,al⟩:=y8 hu g2
  rw[g1]at q1
  cases q1
  rw[ho]at q3
  cases q3
  have lt:I<s.heap.objs.size:=Heap.lt_size he
  refine y7 he ⟨o,g1,hx,ho⟩ (Iv.ok.hd hc) (fun e hee h' hit hT hk=>?_) (fun z=>by rw[Array.getElem?_eq_none_iff]at z;omega)
  refine⟨_,rfl,?_⟩
  refine wpAny_letOwnedTupleGo_items hit fun h2 he2 hs2=>?_
  obtain⟨x,y,kv,rx,ry⟩:=al i e hee
  have hfr:H s.heap.objs.size=none:=Iv.hok.fresh (Ma _)
  have I0:Inv X pins σ (upd H s.heap.objs.size (.tup [x,y])) { s with heap:=s.heap.push { cls:=.type "tuple",data:=.seq #[e.key,e.val] },toks:=s.toks } :=
   Iv.laid (t':=s.toks) (fun b u e=>Heap.get?_push_of_some _ e) (Ma _) ⟨by show 2<=sizeLine;decide,[e.key,e.val],.cons rx (.cons ry .nil),⟨_,Heap.get?_push_size _ rfl,rfl,_,rfl⟩⟩
  have hn:∀ b∈[I],upd H s.heap.objs.size (.tup [x,y]) b=none:=fun b hb=>by
   rw[aq (by rw[Mu.mp hb];exact ME lt)]
   exact(hf b hb).1
  have I2:Inv X pins σ (upd H s.heap.objs.size (.tup [x,y])) { s with heap:=h2,toks:=s.toks }:=Inv.turnedL (s:={ s with heap:=s.heap.push { cls:=.type "tuple",data:=.seq #[e.key,e.val] },toks:=s.toks }) (h':=h2) I0 (t':=s.toks) (fp:=[I]) (fun b ob hb q=>by
   have nb:b≠I:=fun z=>hb (by simp[z])
   refine(hs2.2 b nb).trans ?_
   rcases Heap.get?_push_cases q with⟨z1,z2⟩ | q
   ·rw[z1,z2];exact hT
   ·exact hk b ob nb q) fun b hb=>⟨hn b hb,(hf b hb).2⟩
  exact⟨.ref s.heap.objs.size,_,I2,rfl,⟨s.heap.objs.size,x,y,hfr,rfl,rfl,kv⟩,⟨_,_,he2⟩,hn⟩
 done:=by
  intro X hP hw hK hc i pins s σ H E Iv hf st hg
  subst hP hw hK
  obtain⟨hd,hi⟩:=hg
  obtain⟨ok,ov,he⟩:=st
  obtain⟨g1,g2⟩:=(show bJ X.prog X.w H s.heap d (.frz o u) from Iv.hok d _ hd)
  obtain⟨_,es',ep',⟨o',q1,q2,q3⟩,sz,al⟩:=y8 hu g2
  rw[g1]at q1
  cases q1
  rw[ho]at q3
  cases q3
  obtain⟨f0,f1,f2,f3,f4,f5⟩:=hf I (by simp)
  refine y7 he ⟨o,g1,hx,ho⟩ (Iv.ok.hd hc) (fun e hee=>by have:=(Pb.mp hee).1;omega) (fun _ h' hk=>⟨rfl,Iv.turned (t':=s.toks) (fun b o hb e=>hk b o hb e) f0 f1 f3 f4 f5⟩)
 self:=fun _ _ _ _ _ st h=>by
  obtain⟨ok,ov,he⟩:=st
  exact PySem.W.kcp_self he h
section
variable{X:Cx}
def iItems(te:TE):TI:=fun σ H R=>te σ H fun x H1=>∃ vw d u,x=.ref vw/\H1 vw=some (ou vw d)/\H1 d=some u/\yY u/\∀ o,R (Itd o u d) (upd H1 d (.frz o u))
theorem Iy{e:Expr}{te:TE}{es:List Expr}{k:Nat}{tp:Pos}(he:PE X e te):PI X (.Tuple es k tp) e (iItems te):=by
 intro pins s σ H R I h
 refine thn (he pins s σ H _ I h) fun v s1 ⟨x,H1,I1,r1,q1⟩=>?_
 obtain⟨vw,d,u,rfl,hv,hd,hu,q⟩:=q1
 cases r1
 obtain⟨hview,_,_⟩:=(show bJ X.prog X.w H1 s1.heap vw (ou vw d) from I1.hok vw _ hv)
 obtain⟨_,ents,ep,hm,sz,_⟩:=y8 hu (I1.hok d _ hd)
 obtain⟨o,q1,q2,q3⟩:=id hm
 refine Jj hview hm ?_
 have I2:=I1.freeze hd hu q1
 have ne:d≠s1.heap.objs.size:=ME (Heap.lt_size q1)
 refine⟨s1.heap.objs.size,[s1.heap.objs.size],_,_,upd H1 d (.frz o u),rfl,I2.kept (t':=s1.toks) fun b u e=>Heap.get?_push_of_some _ e,DC o u d _ hu ents ep q2 q3,⟨_,_,Heap.get?_push_size _ rfl⟩,fun b hb=>?_,q o⟩
 rw[Mu.mp hb]
 exact I2.fpOk (Ma _) (I2.hok.fresh (Ma _))
end
theorem GY{o:Obj}{u:HO}{d:Addr}{g:TG}{tb:TS}{D:Ends}{σ:St}{H:Hp}(Pv:Nat->St->Hp->Prop)(h0:Pv 0 σ H)(hl:∀ i σ H,i<=dlen u->Pv i σ H->H d=some (.frz o u))
  (hs:∀ i x y σ H T,i<dlen u->KvA H u i x y->Pv i σ H->H T=none->g (.ref T) σ (upd H T (.tup [x,y])) fun σ2 H2=>tb { D with nx:=Pv (i+1),ct:=Pv (i+1),bk:=D.nx } σ2 H2) (hd:∀ σ H,Pv (dlen u) σ H->D.nx σ H) :
  ∃ W:Nat->Nat->St->Hp->Prop,(∃ m,W 0 m σ H)/\∀ i m σ H,W i m σ H ->
   ((Itd o u d).stop i H/\D.nx σ H)∨((Itd o u d).go i H/\∃ N:St->Hp->Prop,(∀ σ' H',N σ' H'->∃ m',m'<m/\W (i+1) m' σ' H')/\∀ x H',(Itd o u d).yld i H x H'->g x σ H' fun σ2 H2=>tb { D with nx:=N,ct:=N,bk:=D.nx } σ2 H2):=by
 refine⟨fun i m σ H=>m=dlen u-i/\i<=dlen u/\Pv i σ H,⟨dlen u,by simp,Na _,h0⟩,?_⟩
 rintro i m σ H ⟨rfl,hi,p⟩
 have q:=hl i σ H hi p
 by_cases hlt:i<dlen u
 ·refine .inr ⟨⟨q,hlt⟩,Pv (i+1),fun σ' H' p'=>⟨dlen u-(i+1),by omega,rfl,hlt,p'⟩,fun v H' y=>?_⟩
  obtain⟨T,x,z,hT,rfl,rfl,kv⟩:=y
  exact hs i x z σ _ T hlt kv p hT
 ·have e:i=dlen u:=by omega
  subst e
  exact .inl ⟨⟨q,Ma _⟩,hd σ H p⟩
end L2
namespace L2
open PySem PySem.Spec PyProof.Rows
section
open PySem.W
end
section
open PySem.W
variable{prog:Program}{w:World}{A:Around}{E:Value->Shared->Prop}{s:Shared}
end
section
variable{X:Cx}
end
section
variable{X:Cx}
end
end L2
namespace L2
open PySem PySem.Spec PyProof.Rows
section
variable{prog:Program}{w:World}{K:Type} [DecidableEq K] {knd:KeyKind prog w K} {A:Around} {E:Value->Shared->Prop} {s:Shared}
theorem DH{d:Addr}{kvs:List (K×Value)}{k:K}{key dflt:Value}{Q:Value->Shared->Prop}(hkey:knd.is k key=true)(hm:s.heap.DictOf knd d kvs)
  (hthere:∀ v,valueAt kvs k=some v->Q v { s with toks:=s.toks+1 })
  (hnew:valueAt kvs k=none->∀ h',h'.DictOf knd d (stored kvs k dflt)->Heap.SameBut d s.heap h'->Q dflt { s with heap:=h',toks:=s.toks+1 }) (hsz:kvs.length<=sizeLine) :
  wpAny (model prog w) A (dictSetDefault d key dflt) Q E s:=by
 have hmap:=hm.mapOf
 obtain⟨o,es,ep,ho,hc,hd,hk,hp,hn⟩:=hm
 obtain⟨o',es',ep',ho',_,hd',_,hf⟩:=hmap
 rw[ho]at ho'
 cases ho'
 rw[hd]at hd'
 cases hd'
 have hes:es.size<=sizeLine:=by have e1:=hp.length;have e2:es.toList.length=es.size:=by simp
                                omega
 unfold dictSetDefault
 try with_reducible refine wpAny_holding ?_
 refine wpAny_bind (knd.pyHash hkey ?_)
 refine wpAny_bind (wpAny_dictFind_of (s:={ s with toks:=s.toks+1 }) hkey ho hd hk ?_)
 have hidx:(es.findIdx? fun e=>knd.is k e.key)=kvs.findIdx? fun kv=>decide (kv.1=k):=by
  rw[← hp.findIdx k];obtain⟨l⟩:=es;simp
 cases hi:es.findIdx? fun e=>knd.is k e.key with
 |some i =>
  have hfk:valueAt kvs k=(es[i]?).map (·.val):=by rw[← hf k,findBy_of_findIdx?,hi]
  refine wpAny_bind (wpAny_dictEntries (s:={ s with toks:=s.toks+1 }) ho hd ?_)
  cases he:es[i]? with
  |none =>
   exfalso
   have:=Array.findIdx?_eq_some_iff_findIdx_eq.mp hi
   have hlt:i<es.size:=this.1
   rw[Array.getElem?_eq_getElem hlt]at he
   exact nomatch he
  |some e =>
   rw[he]at hfk
   exact wpAny_bind (wpAny_rule (wpAny_pure (hthere e.val hfk)))
 |none =>
  have hfk:valueAt kvs k=none:=by rw[← hf k,findBy_of_findIdx?,hi]
  have hnot:k∉kvs.map (·.1):=not_mem_of_findIdx_none (hidx▸hi)
  have hany:¬ (kvs.any fun kv=>decide (kv.1=k))=true:=by
   rw[NB];rintro⟨kv,hkv,he⟩
   exact hnot (Mj.mpr ⟨kv,hkv,of_decide_eq_true he⟩)
  refine wpAny_bind (wpAny_rule (wpAny_bind (wpAny_updateDictKeys (hz:=hes) (s:={ s with toks:=s.toks+1 }) ho hd (wpAny_pure (hnew hfk _ ⟨_,_,ep+1,Heap.get?_update_self _ ho (Obj.isFreed_of_dict (Obj.data_mapDictKeys hd _)),
   hc.mapDictKeys _,Obj.data_mapDictKeys hd _,hk.push hkey _,?_,?_⟩ (Heap.SameBut.update ..))))))
  ·rw[stored,if_neg hany]
   have:=hp.append hkey (knd.hash k) dflt
   obtain⟨l⟩:=es
   simpa using this
  ·rw[stored,if_neg hany,MD,Mt]
   refine⟨hn,by simp,?_⟩
   intro a ha b hb
   simp only[MQ,OD,Mu]at hb
   subst hb
   exact fun e=>hnot (e▸ha)
theorem D6{d:Addr}{k:K}{key:Value}(hkey:knd.is k key=true)(hd:(d == sysModules)=false)(dflt:Value) :
  MeetsIn prog w (Builtin.«dict.setdefault» ⟨[.ref d,key,dflt],[]⟩) (fun _ R s=>∃ kvs,s.heap.DictOf knd d kvs/\kvs.length<=sizeLine /\
   (∀ v,valueAt kvs k=some v->R (.ok (.ret v)) { s with toks:=s.toks+1 }) /\
   (valueAt kvs k=none->∀ h',h'.DictOf knd d (stored kvs k dflt)->Heap.SameBut d s.heap h'->R (.ok (.ret dflt)) { s with heap:=h',toks:=s.toks+1 })) :=
 .of_wp fun A R s ⟨kvs,hm,hz,h1,h2⟩=>by
  unfold Builtin.«dict.setdefault»
  refine wpAny_bind ?_
  unfold Builtin.Dict.keyAndDefault
  refine wpAny_bind (wpAny_notOrdered_dict hm.typeIs ?_)
  show wpAny _ _ (pure (d,key,some dflt)) _ _ s
  refine wpAny_pure ?_
  show wpAny _ _ (if(d == sysModules)=true then _ else(dictSetDefault d key dflt >>= _)) _ _ s
  rw[if_neg (by rw[hd];exact Mp)]
  exact wpAny_bind (DH hkey hm (fun v hv=>wpAny_pure ⟨v,rfl,h1 v hv⟩) (fun hn h' hm' hs'=>wpAny_pure ⟨dflt,rfl,h2 hn h' hm' hs'⟩) hz)
end
def tSetD(td ty tx:TE):TE:=fun σ H Q=>td σ H fun x H1=>∃ a,x=.ref a/\IsD H1 a/\ty σ H1 fun y H2=>tx σ H2 fun z H3=>∃ kvs k,H3 a=some (.dK kvs)/\y=kV k/\kvs.length<sizeLine /\
 (∀ v,valV kvs k=some v->Q v H3)/\(valV kvs k=none->Q z (upd H3 a (.dK (putK kvs k z))))
section
variable{X:Cx}{o e f:Expr}{apos cpos:Pos}{td ty tx:TE}
theorem KO(ho:PE X o td)(he:PE X e ty)(hf:PE X f tx) (m:M2 X o "setdefault" apos e f cpos):PE X (.Call (.Attribute o "setdefault" apos) [e,f] [] cpos) (tSetD td ty tx):=by
 intro pins s σ H Q I h
 refine wpAny_Call_method m.base m.few m.line Pj O3 PySem.F.type_dict_setdefault (thn (ho pins s σ H _ I h) fun u s1 ⟨x,H1,I1,rx,a,ex,d,q1⟩=>?_)
 subst ex
 obtain rfl:u=Value.ref a:=rx
 obtain⟨t1,t2,_⟩:=isD_at I1 d
 refine⟨t1,t2,?_⟩
 rw[m.trees]
 refine Calls.callWith_builtin rfl (Calls.evalArgs_plain (Calls.spliced_cons (thn (he pins s1 σ H1 _ I1 q1) fun iv s2 ⟨y,H2,I2,ry,q2⟩ =>
  Calls.spliced_cons (thn (hf pins s2 σ H2 _ I2 q2) fun fv s3 ⟨z,H3,I3,rz,kvs,k,ea,ey,hl,q3,q4⟩=>Calls.spliced_nil ?_))))
 subst ey
 obtain⟨hz,hd,vs,rel,dd⟩:=LA I3.hok ea
 have hzv:vs.length<=sizeLine:=by rw[← rel.length];exact hz
 refine call_meetsIn O3 dd.typeIs PySem.F.entry_dict_setdefault (PySem.F.args_dict_setdefault_3 _ _ _) (D6 (Er ry) hd fv) ⟨vs,dd,hzv,fun v hv=>?_,fun hn h' dd' hs=>?_⟩
 ·have r:=rel.val k
  rw[hv]at r
  cases l:valV kvs k with
  |none=>rw[l]at r;exact r.elim
  |some v'=>rw[l]at r;exact⟨v',H3,I3.tok _,r,q3 v' l⟩
 ·have r:=rel.val k
  rw[hn]at r
  cases l:valV kvs k with
  |some v'=>rw[l]at r;exact r.elim
  |none =>
   have hl2:(putK kvs k z).length<=sizeLine:=by have:=dy kvs k z;omega
   have hE:∃ q,h'.get? a=some q:=let ⟨q,_,_,hq,_⟩:=dd';⟨q,hq⟩
   exact⟨z,_,wz I3 (by rw[ea];exact True.intro) hs hE (G0 hl2 hd (rel.put k rz) dd'),rz,q4 l⟩
end
def Itk(o:Obj)(kvs:List (Key×V))(d:Addr):It :=
 ⟨fun i H=>H d=some (.frz o (.dK kvs))/\i<kvs.length,fun i H v H'=>∃ k y,kvs[i]?=some (k,y)/\v=kV k/\H'=H,fun i H=>H d=some (.frz o (.dK kvs))/\kvs.length<=i⟩
theorem GP{P:Program}{w:World}{H:Hp}{h:Heap}{o:Obj}{kvs:List (Key×V)}{d:Addr}{es:Array DictEntry}{ep:Nat}(x:bJ P w H h d (.frz o (.dK kvs)))(he:o.data=.dict es ep):(d == sysModules)=false/\∃ vs,KV kvs vs/\h.DictAt (bM P w) d vs ep:=by
 obtain⟨g1,hz,lo,vs,rk,o',es',ep',h1,h2,h3,r⟩:=x
 rw[g1]at h1
 cases h1
 rw[he]at h3
 cases h3
 exact⟨lo,vs,rk,o,es,g1,h2,he,r⟩
theorem E2{P:Program}{w:World}{K:LU}{tg:Expr}(o:Obj)(kvs:List (Key×V))(d it:Addr)(es:Array DictEntry)(ep:Nat)(he:o.data=.dict es ep):Turn P w K tg (Itk o kvs d) [it] it (fun i h=>h.IsKeyIter it d i kvs.length ep) where
 mem:=by simp
 obj:=fun i h st b hb=>by
  have e:b=it:=by simpa using hb
  subst e
  obtain⟨o,e,c,d⟩:=st
  exact⟨o,e,fun v z=>by rw[d]at z;cases z⟩
 keep:=fun i h h' st k=>by
  obtain⟨o,e,r⟩:=st
  exact⟨o,k it (by simp) o e,r⟩
 item:=by
  intro X hP hw hK hc i pins s σ H E I hf st hg
  subst hP hw hK
  obtain⟨hd,hi⟩:=hg
  obtain⟨lo,vs,rk,hat⟩:=GP (I.hok d _ hd) he
  have hl:kvs.length=vs.length:=Paired.length rk
  obtain⟨f0,f1,f2,f3,f4,f5⟩:=hf it (by simp)
  obtain⟨⟨k,v⟩,hv⟩:∃ q,vs[i]?=some q:=⟨_,LS (by omega)⟩
  obtain⟨⟨k',y⟩,hy,ek,ry⟩:=pQ rk hv
  have ek':k'=k:=ek
  subst ek'
  refine wpAny_pyNext_dict_item (hl▸st) hat hv fun key h' hk st' sb=>?_
  have I1:Inv X pins σ H { s with heap:=h' }:=I.turned (t':=s.toks) (fun b o hb e=>(sb.2 b hb).trans e) f0 f1 f3 f4 f5
  obtain⟨o2,e,c,dd⟩:=id st'
  refine⟨key,rfl,Jd (s:={ s with heap:=h' }) e c dd (by decide) ⟨kV k',H,I1,?_,⟨k',y,hy,rfl,rfl⟩,hl.symm▸st',fun b hb=>(hf b hb).1⟩⟩
  rcases aZ (show vS k' key=true from hk) with⟨j,t,rfl,rfl⟩ | ⟨z,t,rfl,rfl⟩
  ·exact⟨t,rfl⟩
  ·exact⟨t,rfl⟩
 done:=by
  intro X hP hw hK hc i pins s σ H E I hf st hg
  subst hP hw hK
  obtain⟨hd,hi⟩:=hg
  obtain⟨lo,vs,rk,hat⟩:=GP (I.hok d _ hd) he
  have hl:kvs.length=vs.length:=Paired.length rk
  obtain⟨f0,f1,f2,f3,f4,f5⟩:=hf it (by simp)
  exact wpAny_pyNext_dict_end (I.ok.hd hc) (hl▸st) hat (NC (by omega)) fun h' eb=>⟨rfl,I.turned (t':=s.toks) (fun b o hb e=>eb b o hb e) f0 f1 f3 f4 f5⟩
 self:=fun _ _ s Q _ st h=>by
  have hT:s.TypeIs (.ref it) "dict_keyiterator":=st.typeIs
  refine wpAny_pyIter_slot hT F.slot_dict_keyiterator_iter (wpAny_call_entry F.slot_dict_keyiterator_iter hT F.entry_dict_keyiterator_iter ?_ (F.args_dict_keyiterator_iter_1 _))
  show wpAny _ _ (ret (.ref it)) _ _ s
  exact wpAny_pure ⟨_,rfl,"dict_keyiterator",_,hT,F.slot_dict_keyiterator_next.lookup,h⟩
section
variable{X:Cx}
def iKeys(te:TE):TI:=fun σ H R=>te σ H fun x H1=>∃ d kvs,x=.ref d/\H1 d=some (.dK kvs)/\∀ o,R (Itk o kvs d) (upd H1 d (.frz o (.dK kvs)))
theorem KN{e:Expr}{te:TE}{tg:Expr}(he:PE X e te):PI X tg e (iKeys te):=by
 intro pins s σ H R I h
 refine thn (he pins s σ H _ I h) fun v s1 ⟨x,H1,I1,r1,q1⟩=>?_
 obtain⟨d,kvs,rfl,hd,q⟩:=q1
 cases r1
 obtain⟨_,ents,ep,hm,sz,_⟩:=y8 (u:=.dK kvs) True.intro (I1.hok d _ hd)
 obtain⟨o,q1,q2,q3⟩:=id hm
 have I2:=I1.freeze hd True.intro q1
 obtain⟨lo,vs,rk,hat⟩:=GP (I2.hok d _ ae) q3
 have hl:kvs.length=vs.length:=Paired.length rk
 refine wpAny_pyIter_dict lo hat ?_
 refine⟨s1.heap.objs.size,[s1.heap.objs.size],_,_,upd H1 d (.frz o (.dK kvs)),rfl,I2.kept (t':=s1.toks) fun b u e=>Heap.get?_push_of_some _ e,E2 o kvs d _ ents ep q3,⟨_,Heap.get?_push_size _ rfl,rfl,by rw[hl];rfl⟩,fun b hb=>?_,q o⟩
 rw[Mu.mp hb]
 exact I2.fpOk (Ma _) (I2.hok.fresh (Ma _))
end
theorem Jg{o:Obj}{kvs:List (Key×V)}{d:Addr}{g:TG}{tb:TS}{D:Ends}{σ:St}{H:Hp}(Pv:Nat->St->Hp->Prop)(h0:Pv 0 σ H)(hl:∀ i σ H,i<=kvs.length->Pv i σ H->H d=some (.frz o (.dK kvs)))
  (hs:∀ i k y σ H,kvs[i]?=some (k,y)->Pv i σ H->g (kV k) σ H fun σ2 H2=>tb { D with nx:=Pv (i+1),ct:=Pv (i+1),bk:=D.nx } σ2 H2) (hd:∀ σ H,Pv kvs.length σ H->D.nx σ H) :
  ∃ W:Nat->Nat->St->Hp->Prop,(∃ m,W 0 m σ H)/\∀ i m σ H,W i m σ H ->
   ((Itk o kvs d).stop i H/\D.nx σ H)∨((Itk o kvs d).go i H/\∃ N:St->Hp->Prop,(∀ σ' H',N σ' H'->∃ m',m'<m/\W (i+1) m' σ' H')/\∀ x H',(Itk o kvs d).yld i H x H'->g x σ H' fun σ2 H2=>tb { D with nx:=N,ct:=N,bk:=D.nx } σ2 H2):=by
 refine⟨fun i m σ H=>m=kvs.length-i/\i<=kvs.length/\Pv i σ H,⟨kvs.length,by simp,Na _,h0⟩,?_⟩
 rintro i m σ H ⟨rfl,hi,p⟩
 have q:=hl i σ H hi p
 by_cases hlt:i<kvs.length
 ·refine .inr ⟨⟨q,hlt⟩,Pv (i+1),fun σ' H' p'=>⟨kvs.length-(i+1),by omega,rfl,hlt,p'⟩,fun v H' y=>?_⟩
  obtain⟨k,y,hy,rfl,rfl⟩:=y
  exact hs i k y σ _ hy p
 ·have e:i=kvs.length:=by omega
  subst e
  exact .inl ⟨⟨q,Ma _⟩,hd σ H p⟩
section
variable{prog:Program}{w:World}{A:Around}{E:Value->Shared->Prop}{s:Shared}{T:String}{r d:Addr}{n:Nat}{P:Nat->Value->Prop}{OK:Heap->Prop}
theorem Cu{Q:List Value->Shared->Prop}(K:PySem.W.KdlSrc prog w T r d n P OK)(hh:A.handled=none)(hok:OK s.heap)(hn:n<=sizeLine)
  (h:∀ h' tk acc',(∀ b o,s.heap.get? b=some o->h'.get? b=some o)->s.heap.objs.size<h'.objs.size->ItemsOf P acc' n->Q acc'.toList { s with heap:=h',toks:=tk }):wpAny (model prog w) A (collect (.ref r)) Q E s:=by
 unfold collect
 refine wpAny_bind (wpAny_runValue (codeAny_builtin entry_proto_collect' ?_))
 show wpAny _ _ (do again (.builtin "list.__iadd__" ⟨[← newList [],.ref r],[]⟩)) _ _ s
 refine wpAny_bind (wpAny_newList (wpAny_pure ⟨Code.quiet_builtin _ (by decide +kernel),codeAny_builtin entry_list_iadd' ?_⟩))
 rw[Around.under_plainId PySem.F.plain_list_iadd _]
 show wpAny _ A.in1 (Builtin.List.listExtendWith (.ref s.heap.objs.size) (.ref r) (.ref s.heap.objs.size)) _ _ { s with heap:=s.heap.push (seqObj "list" #[] 0) }
 have hlt:=K.there _ hok
 have G:=PySem.W.kdl_extend (A:=A) (R:=fun r s'=>∃ h' tk acc' c',r=.ok (.ret (.ref s.heap.objs.size))/\s'={ s with heap:=h',toks:=tk }/\(∀ b o,b≠s.heap.objs.size->(s.heap.push (seqObj "list" #[] 0)).get? b=some o->h'.get? b=some o)/\h'.get? s.heap.objs.size=some { cls:=.type "list",dict:=none,data:=.seq acc' c',slots:=#[] }/\ItemsOf P acc' n)
  (s:={ s with heap:=s.heap.push (seqObj "list" #[] 0) }) K hh (K.keep _ _ hok fun b _ o e=>Heap.get?_push_of_some _ e) _ (Nu hlt.1) (Nu hlt.2) (.ref s.heap.objs.size) 0 (Heap.get?_push_size _ rfl) (fun h' tk acc' c' hk hS hacc=>⟨h',tk,acc',c',rfl,rfl,hk,hS,hacc⟩) hn
 have fin:∀(r:Result)(s':Shared),(∃ h' tk acc' c',r=.ok (.ret (.ref s.heap.objs.size))/\s'={ s with heap:=h',toks:=tk }/\(∀ b o,b≠s.heap.objs.size->(s.heap.push (seqObj "list" #[] 0)).get? b=some o->h'.get? b=some o)/\h'.get? s.heap.objs.size=some { cls:=.type "list",dict:=none,data:=.seq acc' c',slots:=#[] }/\ItemsOf P acc' n)->∃ v,r=.ok (.ret v)/\v=.ref s.heap.objs.size/\wpAny (model prog w) A (do
   let o ← load s.heap.objs.size
   match o.data with
   |.seq xs _=>pure xs.toList
   |_=>unsupported "internal:collect") Q E s':=fun r s' ⟨h',tk,acc',c',e1,e2,hk,hS,hacc⟩=>⟨_,e1,rfl,by
  subst e2
  refine wpAny_bind (wpAny_load hS ?_)
  exact wpAny_pure (h h' tk acc' (fun b o e=>hk b o (ME (Heap.lt_size e)) (Heap.get?_push_of_some _ e)) (Heap.lt_size hS) hacc)⟩
 refine wpAny_mono G (fun fn s' q=>?_) (fun e s' q=>?_)
 ·cases fn with
  |done f =>
   obtain⟨v,e1,e2,z⟩:=fin _ _ q
   cases e1
   cases e2
   exact z
  |again c =>
   refine⟨q.1,codeAny_mono q.2 fun r s'' q'=>?_⟩
   obtain⟨v,e1,e2,z⟩:=fin _ _ q'
   cases e1
   cases e2
   exact z
 ·obtain⟨v,e1,_⟩:=fin _ _ q
  cases e1
end
section
variable{X:Cx}
def rSortE:List V->Hp->VK->Prop:=fun xs H Q=>∃(d:Addr)(kvs:List (Key×V))(ns:List Int),xs = [.ref d]/\Rd H d (.dK kvs)/\kvs.map (·.1)=ns.map Sum.inl/\ns.length<64/\∀(l:Addr)(out:List Int),H l=none->out.Perm ns->out.Pairwise (·<=·)->Q (.ref l) (upd H l (.lst (out.map V.int)))
theorem EF(hc:X.calm=true):j4 X (.builtin "sorted") rSortE:=by
 intro pins s σ H xs us Q I r h
 obtain⟨d,kvs,ns,rfl,hd,ek,h64,q⟩:=h
 obtain⟨u,rfl,ru⟩:=rQ r
 cases ru
 obtain⟨hz,lo,vs,rk,hm⟩:=Eu I.hok hd
 obtain⟨ep,hat⟩:=hm.dictAt
 have hl:kvs.length=vs.length:=Paired.length rk
 refine Calls.call_function_entry kind_sorted plain_sorted entry_sorted (args_sorted1 _) ?_
 unfold Builtin.«sorted»
 refine wpAny_bind (m:=checkCount "sorted" 1 1 _) (wpAny_pure ?_)
 refine wpAny_bind (Cu (PySem.W.kdl_dict (knd:=bM X.prog X.w) (kvs:=vs) (ep:=ep) lo) (I.ok.hd hc) hat (by rw[← hl];exact hz) fun h' tk acc' hk hlt hacc=>?_)
 have hvs:Vals (kvs.map fun q=>kV q.1) acc'.toList:=yM (P:=X.prog) (w:=X.w) rk (by rw[Nb];exact hacc.1) fun j v ej=>hacc.2 j v (by rw[← N7];exact ej)
 have eks:(kvs.map fun q=>kV q.1)=ns.map V.int:=by
  have:(kvs.map fun q=>kV q.1)=(kvs.map (·.1)).map kV:=by rw[Nk];rfl
  rw[this,ek,Nk]
  rfl
 rw[eks]at hvs
 have hi:=l7 hvs
 have hlen:acc'.toList.length<=sizeLine:=by
  rw[Nb,hacc.1,← hl];exact hz
 have h64':acc'.toList.length<64:=by
  have:=hvs.length
  rw[LW]at this
  omega
 refine wpAny_bind (wpAny_newList ?_ hlen)
 have hoL:(h'.push (seqObj "list" acc'.toList.toArray 0)).get? h'.objs.size=some (seqObj "list" acc'.toList.toArray 0):=Heap.get?_push_size _ rfl
 show wpAny _ _ _ _ _ { s with heap:=h'.push (seqObj "list" acc'.toList.toArray 0),toks:=tk }
 have keepH:∀(out:Array Value)(b:Addr)(o:Obj),s.heap.get? b=some o->(sortedHeap (h'.push (seqObj "list" acc'.toList.toArray 0)) h'.objs.size acc'.toList out).get? b=some o:=fun out b o e=>by
  have e2:=hk b o e
  rw[sortedHeap_old (ME (Heap.lt_size e2)) (by rw[Heap.size_push];exact NO (Heap.lt_size e2))]
  exact Heap.get?_push_of_some _ e2
 have hsz:s.heap.objs.size<=h'.objs.size:=MX hlt
 refine wpAny_bind (wpAny_holding (wpAny_call_entry slot_list_sort ⟨_,hoL,rfl⟩ entry_list_sort (list_sort_tree hoL hi h64' fun out ns' a1 a2 a3=>⟨_,rfl,?_⟩) (args_list_sort _)))
 obtain⟨e,he⟩:=sortedHeap_at (out:=out) hoL
 refine wpAny_pure ⟨_,rfl,?_⟩
 refine⟨.ref h'.objs.size,_,I.laid (t':=tk) (keepH out) hsz (show bJ X.prog X.w _ _ _ (.lst (ns'.map V.int)) from⟨?_,out.toList,e,Ae a1,?_⟩),rfl,q _ ns' (I.hok.fresh hsz) a2 a3⟩
 ·have e1:kvs.length=ns.length:=by
   have:=congrArg List.length ek
   rwa[LW,LW]at this
  rw[LW,a2.length_eq,← e1]
  exact hz
 ·exact he
end
abbrev bu(h:Heap)(T:Addr)(a b c:Value):Prop:=h.get? T=some { cls:=.type "tuple",data:=.seq #[a,b,c] }
section
variable{prog:Program}{w:World}{A:Around}{E:Value->Shared->Prop}{s:Shared}
theorem b8{T:Addr}{a b c x:Value}{k:Nat}{Q:Unit->Shared->Prop}(hT:bu s.heap T a b c)
  (h:∀ h',h'.get? T=some { cls:=.type "tuple",data:=.seq ((#[a,b,c]:Array Value).setIfInBounds k x) }->Heap.SameBut T s.heap h'->Q () { s with heap:=h' }) :
  wpAny (model prog w) A (updateSeq T (·.setIfInBounds k x)) Q E s:=by
 refine wpAny_updateSeq hT rfl (h _ ?_ (Heap.SameBut.update ..))
 rw[Heap.get?_update_self _ hT rfl]
 simp[Obj.mapSeq]
structure Z3(z TI TO i1 i2 i3 l1 l2 l3:Addr):Prop where
 zs:∀ x∈[TI,TO,i1,i2,i3,l1,l2,l3],x≠z
 ts:∀ x∈[TI,i1,i2,i3,l1,l2,l3],x≠TO
 is1:∀ x∈[TI,i2,i3,l1,l2,l3],x≠i1
 is2:∀ x∈[TI,i1,i3,l1,l2,l3],x≠i2
 is3:∀ x∈[TI,i1,i2,l1,l2,l3],x≠i3
theorem JX{z TI TO i1 i2 i3 l1 l2 l3:Addr}{k:Nat}{xs ys zs:Array Value}{x y v a b c:Value}{Q:Value->Shared->Prop}(D:Z3 z TI TO i1 i2 i3 l1 l2 l3)
  (hz:IsZip s.heap z TI TO .none) (hTI:bu s.heap TI (.ref i1) (.ref i2) (.ref i3)) (hTO:bu s.heap TO a b c)
  (h1:s.heap.IsListIter i1 l1 k) (h2:s.heap.IsListIter i2 l2 k) (h3:s.heap.IsListIter i3 l3 k) (hl1:s.heap.IsList l1 xs) (hl2:s.heap.IsList l2 ys) (hl3:s.heap.IsList l3 zs) (hx:xs[k]?=some x) (hy:ys[k]?=some y) (hv:zs[k]?=some v)
  (hQ:∀ h',IsZip h' z TI TO (rawInt s.heap.objs.size)->bu h' TO x y v->h'.IsListIter i1 l1 (k+1)->h'.IsListIter i2 l2 (k+1)->h'.IsListIter i3 l3 (k+1)->bu h' s.heap.objs.size x y v->h'.objs.size=s.heap.objs.size+1 ->
   (∀ c o,c∉[z,TO,i1,i2,i3]->s.heap.get? c=some o->h'.get? c=some o)->Q (.ref s.heap.objs.size) { s with heap:=h' }) :
  wpAny (model prog w) A (Builtin.«zip.__next__» ⟨[.ref z],[]⟩) (fun fin s'=>∃ v,fin=.done (.ret v)/\Q v s') E s:=by
 obtain⟨zs',ts',s1',s2',s3'⟩:=D
 simp only[LZ,MP,or_false,forall_eq_or_imp,forall_eq]at zs' ts' s1' s2' s3'
 obtain⟨TIz,TOz,i1z,i2z,i3z,l1z,l2z,l3z⟩:=zs'
 obtain⟨TITO,i1TO,i2TO,i3TO,l1TO,l2TO,l3TO⟩:=ts'
 obtain⟨TIi1,i21,i31,l1i1,l2i1,l3i1⟩:=s1'
 obtain⟨TIi2,i12,i32,l1i2,l2i2,l3i2⟩:=s2'
 obtain⟨TIi3,i13,i23,l1i3,l2i3,l3i3⟩:=s3'
 show wpAny _ _ (field (.ref z) 2 >>= _) _ _ _
 refine wpAny_bind (wpAny_field hz rfl (x:=.bool false) rfl ?_)
 show wpAny _ _ (field (.ref z) 3 >>= _) _ _ _
 refine wpAny_bind (wpAny_field hz rfl (x:=.ref TI) rfl ?_)
 refine wpAny_bind (wpAny_seqItems hTI rfl ?_)
 show wpAny _ _ (Builtin.SmallTypes.ownedTupleIsFree (.ref z) >>= _) _ _ _
 refine wpAny_bind ?_
 unfold Builtin.SmallTypes.ownedTupleIsFree
 refine wpAny_bind (wpAny_field hz rfl (x:=.none) rfl (wpAny_pure ?_))
 simp only[if_true]
 refine wpAny_bind (wpAny_rule ?_)
 refine wpAny_bind (wpAny_field hz rfl (x:=.ref TO) rfl ?_)
 refine wpAny_bind (wpAny_setField_rec hz (by simp) fun h₁ hz₁ hs₁=>?_)
 replace hz₁:IsZip h₁ z TI TO .ellipsis:=hz₁
 refine wpAny_bind ?_
 simp only[List.zipIdx_cons,List.zipIdx_nil,List.forIn_cons,List.forIn_nil]
 refine wpAny_bind (wpAny_bind (wpAny_onRaise ?_))
 show wpAny _ _ (Builtin.SmallTypes.nextOf (.ref i1) >>= _) _ _ _
 refine wpAny_bind (wpAny_nextOf_list_item (h1.extBut hs₁.extBut i1z) (hl1.extBut hs₁.extBut l1z) hx fun h₂ h1₂ hs₂=>wpAny_pure ?_)
 have hTO₂:bu h₂ TO a b c:=hs₂.extBut _ _ i1TO.symm (hs₁.extBut _ _ TOz hTO)
 refine wpAny_bind (wpAny_seqItems hTO₂ rfl ?_)
 refine wpAny_bind (b8 hTO₂ fun h₃ hTO₃ hs₃=>?_)
 replace hTO₃:bu h₃ TO x b c:=hTO₃
 refine wpAny_bind (wpAny_letGo (wpAny_pure ?_))
 refine wpAny_bind (wpAny_bind (wpAny_onRaise ?_))
 show wpAny _ _ (Builtin.SmallTypes.nextOf (.ref i2) >>= _) _ _ _
 refine wpAny_bind (wpAny_nextOf_list_item (((h2.extBut hs₁.extBut i2z).extBut hs₂.extBut i21).extBut hs₃.extBut i2TO)
  (((hl2.extBut hs₁.extBut l2z).extBut hs₂.extBut l2i1).extBut hs₃.extBut l2TO) hy fun h₄ h2₄ hs₄=>wpAny_pure ?_)
 have hTO₄:bu h₄ TO x b c:=hs₄.extBut _ _ i2TO.symm hTO₃
 refine wpAny_bind (wpAny_seqItems hTO₄ rfl ?_)
 refine wpAny_bind (b8 hTO₄ fun h₅ hTO₅ hs₅=>?_)
 replace hTO₅:bu h₅ TO x y c:=hTO₅
 refine wpAny_bind (wpAny_letGo (wpAny_pure ?_))
 refine wpAny_bind (wpAny_bind (wpAny_onRaise ?_))
 show wpAny _ _ (Builtin.SmallTypes.nextOf (.ref i3) >>= _) _ _ _
 refine wpAny_bind (wpAny_nextOf_list_item (((((h3.extBut hs₁.extBut i3z).extBut hs₂.extBut i31).extBut hs₃.extBut i3TO).extBut hs₄.extBut i32).extBut hs₅.extBut i3TO)
  (((((hl3.extBut hs₁.extBut l3z).extBut hs₂.extBut l3i1).extBut hs₃.extBut l3TO).extBut hs₄.extBut l3i2).extBut hs₅.extBut l3TO) hv fun h₆ h3₆ hs₆=>wpAny_pure ?_)
 have hTO₆:bu h₆ TO x y c:=hs₆.extBut _ _ i3TO.symm hTO₅
 refine wpAny_bind (wpAny_seqItems hTO₆ rfl ?_)
 refine wpAny_bind (b8 hTO₆ fun h₇ hTO₇ hs₇=>?_)
 replace hTO₇:bu h₇ TO x y v:=hTO₇
 refine wpAny_bind (wpAny_letGo (wpAny_pure (wpAny_pure ?_)))
 refine wpAny_bind (wpAny_seqItems hTO₇ rfl ?_)
 refine wpAny_bind (wpAny_newTuple ?_)
 have hsz:h₇.objs.size=s.heap.objs.size:=by rw[hs₇.1,hs₆.1,hs₅.1,hs₄.1,hs₃.1,hs₂.1,hs₁.1]
 have hz₇:IsZip h₇ z TI TO .ellipsis:=hs₇.extBut _ _ TOz.symm (hs₆.extBut _ _ i3z.symm (hs₅.extBut _ _ TOz.symm (hs₄.extBut _ _ i2z.symm (hs₃.extBut _ _ TOz.symm (hs₂.extBut _ _ i1z.symm hz₁)))))
 have hk₇:∀ c o,c∉[z,TO,i1,i2,i3]->s.heap.get? c=some o->h₇.get? c=some o:=fun c o hc e=>by
  simp only[LZ,MP,or_false,not_or]at hc
  obtain⟨c1,c2,c3,c4,c5⟩:=hc
  exact hs₇.extBut _ _ c2 (hs₆.extBut _ _ c5 (hs₅.extBut _ _ c2 (hs₄.extBut _ _ c4 (hs₃.extBut _ _ c2 (hs₂.extBut _ _ c3 (hs₁.extBut _ _ c1 e))))))
 have h1₇:h₇.IsListIter i1 l1 (k+1):=((((h1₂.extBut hs₃.extBut i1TO).extBut hs₄.extBut i12).extBut hs₅.extBut i1TO).extBut hs₆.extBut i13).extBut hs₇.extBut i1TO
 have h2₇:h₇.IsListIter i2 l2 (k+1):=((h2₄.extBut hs₅.extBut i2TO).extBut hs₆.extBut i23).extBut hs₇.extBut i2TO
 have h3₇:h₇.IsListIter i3 l3 (k+1):=h3₆.extBut hs₇.extBut i3TO
 have hzlt:z<h₇.objs.size:=Heap.lt_size hz₇
 show wpAny _ _ (Builtin.SmallTypes.ownedTupleHandOut (.ref z) (.ref h₇.objs.size) >>= _) _ _ _
 refine wpAny_bind ?_
 unfold Builtin.SmallTypes.ownedTupleHandOut
 have hz₈:IsZip (h₇.push { cls:=.type "tuple",data:=.seq #[x,y,v] }) z TI TO .ellipsis:=Heap.get?_push_of_some _ hz₇
 refine wpAny_bind (wpAny_setField_rec hz₈ (by simp) fun h₉ hz₉ hs₉=>?_)
 replace hz₉:IsZip h₉ z TI TO (rawInt h₇.objs.size):=hz₉
 refine wpAny_setField_rec hz₉ (by simp) fun hA hzA hsA=>?_
 replace hzA:IsZip hA z TI TO (rawInt h₇.objs.size):=hzA
 have up:∀ c o,c≠z->h₇.get? c=some o->hA.get? c=some o:=fun c o c1 e=>hsA.extBut _ _ c1 (hs₉.extBut _ _ c1 (Heap.get?_push_of_some _ e))
 have hTA:bu hA h₇.objs.size x y v:=hsA.extBut _ _ (Nu hzlt) (hs₉.extBut _ _ (Nu hzlt) (Heap.get?_push_size _ rfl))
 have hzA2:hA.objs.size=h₇.objs.size+1:=by rw[hsA.1,hs₉.1,Heap.size_push]
 rw[hsz]at hzA hTA hzA2
 refine wpAny_pure ⟨_,rfl,?_⟩
 show Q (.ref h₇.objs.size) _
 rw[hsz]
 exact hQ hA hzA (up _ _ TOz hTO₇) (h1₇.at fun o e=>up _ o i1z e) (h2₇.at fun o e=>up _ o i2z e) (h3₇.at fun o e=>up _ o i3z e) hTA hzA2 fun c o hc e=>up c o (fun z=>hc (by simp[z])) (hk₇ c o hc e)
theorem z3_end{z TI TO i1 i2 i3 l1 l2 l3:Addr}{k:Nat}{xs ys zs:Array Value}{a b c:Value}{Q:Fin->Shared->Prop}(hh:A.handled=none)(D:Z3 z TI TO i1 i2 i3 l1 l2 l3)
  (hz:IsZip s.heap z TI TO .none) (hTI:bu s.heap TI (.ref i1) (.ref i2) (.ref i3)) (hTO:bu s.heap TO a b c)
  (h1:s.heap.IsListIter i1 l1 k) (h2:s.heap.IsListIter i2 l2 k) (h3:s.heap.IsListIter i3 l3 k) (hl1:s.heap.IsList l1 xs) (hl2:s.heap.IsList l2 ys) (hl3:s.heap.IsList l3 zs) (hend:xs[k]?=none∨ys[k]?=none∨zs[k]?=none)
  (hE:∀ h' e,(∀ c o,c∉[z,TO,i1,i2,i3]->s.heap.get? c=some o->h'.get? c=some o)->(∃ o,h'.get? e=some o/\o.cls=.type "StopIteration")->E (.ref e) { s with heap:=h' }) :
  wpAny (model prog w) A (Builtin.«zip.__next__» ⟨[.ref z],[]⟩) Q E s:=by
 obtain⟨zs',ts',s1',s2',s3'⟩:=D
 simp only[LZ,MP,or_false,forall_eq_or_imp,forall_eq]at zs' ts' s1' s2' s3'
 obtain⟨TIz,TOz,i1z,i2z,i3z,l1z,l2z,l3z⟩:=zs'
 obtain⟨TITO,i1TO,i2TO,i3TO,l1TO,l2TO,l3TO⟩:=ts'
 obtain⟨TIi1,i21,i31,l1i1,l2i1,l3i1⟩:=s1'
 obtain⟨TIi2,i12,i32,l1i2,l2i2,l3i2⟩:=s2'
 obtain⟨TIi3,i13,i23,l1i3,l2i3,l3i3⟩:=s3'
 have nin:∀ c,c∉[z,TO,i1,i2,i3]->c≠z/\c≠TO/\c≠i1/\c≠i2/\c≠i3:=fun c hc=>by
  simp only[LZ,MP,or_false,not_or]at hc
  exact hc
 show wpAny _ _ (field (.ref z) 2 >>= _) _ _ _
 refine wpAny_bind (wpAny_field hz rfl (x:=.bool false) rfl ?_)
 show wpAny _ _ (field (.ref z) 3 >>= _) _ _ _
 refine wpAny_bind (wpAny_field hz rfl (x:=.ref TI) rfl ?_)
 refine wpAny_bind (wpAny_seqItems hTI rfl ?_)
 show wpAny _ _ (Builtin.SmallTypes.ownedTupleIsFree (.ref z) >>= _) _ _ _
 refine wpAny_bind ?_
 unfold Builtin.SmallTypes.ownedTupleIsFree
 refine wpAny_bind (wpAny_field hz rfl (x:=.none) rfl (wpAny_pure ?_))
 simp only[if_true]
 refine wpAny_bind (wpAny_rule ?_)
 refine wpAny_bind (wpAny_field hz rfl (x:=.ref TO) rfl ?_)
 refine wpAny_bind (wpAny_setField_rec hz (by simp) fun h₁ hz₁ hs₁=>?_)
 replace hz₁:IsZip h₁ z TI TO .ellipsis:=hz₁
 refine wpAny_bind ?_
 simp only[List.zipIdx_cons,List.zipIdx_nil,List.forIn_cons,List.forIn_nil]
 refine wpAny_bind (wpAny_bind (wpAny_onRaise ?_))
 show wpAny _ _ (Builtin.SmallTypes.nextOf (.ref i1) >>= _) _ _ _
 cases hx:xs[k]? with
 |none =>
  refine wpAny_bind (wpAny_nextOf_list_end hh (h1.extBut hs₁.extBut i1z) (hl1.extBut hs₁.extBut l1z) hx fun h₂ e hs₂ he=>?_)
  obtain⟨oe,hoe,hce⟩:=he
  have hz₂:IsZip h₂ z TI TO .ellipsis:=hs₂ _ _ i1z.symm hz₁
  have hez:e≠z:=fun x=>by subst x;rw[hz₂]at hoe;cases hoe;simp at hce
  exact wpAny_setField_rec hz₂ (by simp) fun h₃ _ hs₃=>hE h₃ e (fun c o hc x=>have q:=nin c hc;hs₃.extBut _ _ q.1 (hs₂ _ _ q.2.2.1 (hs₁.extBut _ _ q.1 x))) ⟨oe,hs₃.extBut _ _ hez hoe,hce⟩
 |some x =>
  refine wpAny_bind (wpAny_nextOf_list_item (h1.extBut hs₁.extBut i1z) (hl1.extBut hs₁.extBut l1z) hx fun h₂ h1₂ hs₂=>wpAny_pure ?_)
  have hTO₂:bu h₂ TO a b c:=hs₂.extBut _ _ i1TO.symm (hs₁.extBut _ _ TOz hTO)
  refine wpAny_bind (wpAny_seqItems hTO₂ rfl ?_)
  refine wpAny_bind (b8 hTO₂ fun h₃ hTO₃ hs₃=>?_)
  replace hTO₃:bu h₃ TO x b c:=hTO₃
  refine wpAny_bind (wpAny_letGo (wpAny_pure ?_))
  refine wpAny_bind (wpAny_bind (wpAny_onRaise ?_))
  show wpAny _ _ (Builtin.SmallTypes.nextOf (.ref i2) >>= _) _ _ _
  cases hy:ys[k]? with
  |none =>
   refine wpAny_bind (wpAny_nextOf_list_end hh (((h2.extBut hs₁.extBut i2z).extBut hs₂.extBut i21).extBut hs₃.extBut i2TO)
    (((hl2.extBut hs₁.extBut l2z).extBut hs₂.extBut l2i1).extBut hs₃.extBut l2TO) hy fun h₄ e hs₄ he=>?_)
   obtain⟨oe,hoe,hce⟩:=he
   have hz₄:IsZip h₄ z TI TO .ellipsis:=hs₄ _ _ i2z.symm (hs₃.extBut _ _ TOz.symm (hs₂.extBut _ _ i1z.symm hz₁))
   have hez:e≠z:=fun x=>by subst x;rw[hz₄]at hoe;cases hoe;simp at hce
   exact wpAny_setField_rec hz₄ (by simp) fun h₅ _ hs₅=>hE h₅ e (fun c o hc x=>have q:=nin c hc;hs₅.extBut _ _ q.1 (hs₄ _ _ q.2.2.2.1 (hs₃.extBut _ _ q.2.1 (hs₂.extBut _ _ q.2.2.1 (hs₁.extBut _ _ q.1 x))))) ⟨oe,hs₅.extBut _ _ hez hoe,hce⟩
  |some y =>
   have hv:zs[k]?=none:=by
    rcases hend with h | h | h
    ·rw[hx]at h;cases h
    ·rw[hy]at h;cases h
    ·exact h
   refine wpAny_bind (wpAny_nextOf_list_item (((h2.extBut hs₁.extBut i2z).extBut hs₂.extBut i21).extBut hs₃.extBut i2TO)
    (((hl2.extBut hs₁.extBut l2z).extBut hs₂.extBut l2i1).extBut hs₃.extBut l2TO) hy fun h₄ h2₄ hs₄=>wpAny_pure ?_)
   have hTO₄:bu h₄ TO x b c:=hs₄.extBut _ _ i2TO.symm hTO₃
   refine wpAny_bind (wpAny_seqItems hTO₄ rfl ?_)
   refine wpAny_bind (b8 hTO₄ fun h₅ hTO₅ hs₅=>?_)
   replace hTO₅:bu h₅ TO x y c:=hTO₅
   refine wpAny_bind (wpAny_letGo (wpAny_pure ?_))
   refine wpAny_bind (wpAny_bind (wpAny_onRaise ?_))
   show wpAny _ _ (Builtin.SmallTypes.nextOf (.ref i3) >>= _) _ _ _
   refine wpAny_bind (wpAny_nextOf_list_end hh (((((h3.extBut hs₁.extBut i3z).extBut hs₂.extBut i31).extBut hs₃.extBut i3TO).extBut hs₄.extBut i32).extBut hs₅.extBut i3TO)
    (((((hl3.extBut hs₁.extBut l3z).extBut hs₂.extBut l3i1).extBut hs₃.extBut l3TO).extBut hs₄.extBut l3i2).extBut hs₅.extBut l3TO) hv fun h₆ e hs₆ he=>?_)
   obtain⟨oe,hoe,hce⟩:=he
   have hz₆:IsZip h₆ z TI TO .ellipsis:=hs₆ _ _ i3z.symm (hs₅.extBut _ _ TOz.symm (hs₄.extBut _ _ i2z.symm (hs₃.extBut _ _ TOz.symm (hs₂.extBut _ _ i1z.symm hz₁))))
   have hez:e≠z:=fun x=>by subst x;rw[hz₆]at hoe;cases hoe;simp at hce
   exact wpAny_setField_rec hz₆ (by simp) fun h₇ _ hs₇=>hE h₇ e (fun c o hc x=>have q:=nin c hc;hs₇.extBut _ _ q.1 (hs₆ _ _ q.2.2.2.2 (hs₅.extBut _ _ q.2.1 (hs₄.extBut _ _ q.2.2.2.1 (hs₃.extBut _ _ q.2.1 (hs₂.extBut _ _ q.2.2.1 (hs₁.extBut _ _ q.1 x))))))) ⟨oe,hs₇.extBut _ _ hez hoe,hce⟩
theorem JW{z TI TO i1 i2 i3 l1 l2 l3:Addr}{k:Nat}{xs ys zs:Array Value}{x y v a b c:Value}{Q:Option Value->Shared->Prop}(D:Z3 z TI TO i1 i2 i3 l1 l2 l3)
  (hz:IsZip s.heap z TI TO .none) (hTI:bu s.heap TI (.ref i1) (.ref i2) (.ref i3)) (hTO:bu s.heap TO a b c)
  (h1:s.heap.IsListIter i1 l1 k) (h2:s.heap.IsListIter i2 l2 k) (h3:s.heap.IsListIter i3 l3 k) (hl1:s.heap.IsList l1 xs) (hl2:s.heap.IsList l2 ys) (hl3:s.heap.IsList l3 zs) (hx:xs[k]?=some x) (hy:ys[k]?=some y) (hv:zs[k]?=some v)
  (hQ:∀ h',IsZip h' z TI TO (rawInt s.heap.objs.size)->bu h' TO x y v->h'.IsListIter i1 l1 (k+1)->h'.IsListIter i2 l2 (k+1)->h'.IsListIter i3 l3 (k+1)->bu h' s.heap.objs.size x y v->h'.objs.size=s.heap.objs.size+1 ->
   (∀ c o,c∉[z,TO,i1,i2,i3]->s.heap.get? c=some o->h'.get? c=some o)->Q (some (.ref s.heap.objs.size)) { s with heap:=h' }) :
  wpAny (model prog w) A (pyNext (.ref z)) Q E s:=by
 have hT:s.TypeIs (.ref z) "zip":=⟨_,hz,rfl⟩
 unfold pyNext
 exact wpAny_bind (wpAny_attempt (wpAny_callSpecial?_slot (name:=Str.ofString "__next__") hT F.slot_zip_next
  (wpAny_call_entry F.slot_zip_next hT F.entry_zip_next
   (JX D hz hTI hTO h1 h2 h3 hl1 hl2 hl3 hx hy hv fun h' a1 a2 a3 a4 a5 a6 a7 a8=>wpAny_pure (hQ h' a1 a2 a3 a4 a5 a6 a7 a8)) (F.args_zip_next_1 _))))
theorem JY{z TI TO i1 i2 i3 l1 l2 l3:Addr}{k:Nat}{xs ys zs:Array Value}{a b c:Value}{Q:Option Value->Shared->Prop}(hh:A.handled=none)(D:Z3 z TI TO i1 i2 i3 l1 l2 l3)
  (hz:IsZip s.heap z TI TO .none) (hTI:bu s.heap TI (.ref i1) (.ref i2) (.ref i3)) (hTO:bu s.heap TO a b c)
  (h1:s.heap.IsListIter i1 l1 k) (h2:s.heap.IsListIter i2 l2 k) (h3:s.heap.IsListIter i3 l3 k) (hl1:s.heap.IsList l1 xs) (hl2:s.heap.IsList l2 ys) (hl3:s.heap.IsList l3 zs) (hend:xs[k]?=none∨ys[k]?=none∨zs[k]?=none)
  (hQ:∀ h',(∀ c o,c∉[z,TO,i1,i2,i3]->s.heap.get? c=some o->h'.get? c=some o)->Q none { s with heap:=h' }):wpAny (model prog w) A (pyNext (.ref z)) Q E s:=by
 have hT:s.TypeIs (.ref z) "zip":=⟨_,hz,rfl⟩
 unfold pyNext
 refine wpAny_bind (wpAny_attempt (wpAny_callSpecial?_slot (name:=Str.ofString "__next__") hT F.slot_zip_next
  (wpAny_call_entry F.slot_zip_next hT F.entry_zip_next (z3_end hh D hz hTI hTO h1 h2 h3 hl1 hl2 hl3 hend fun h' e hk he=>?_) (F.args_zip_next_1 _))))
 obtain⟨o,ho,hc⟩:=he
 refine wpAny_bind (wpAny_isInstance (T:="StopIteration") (b:=true) ⟨o,ho,hc⟩ isSubtype_stop ?_)
 exact wpAny_pure (hQ _ hk)
end
theorem rR(a b c:Value):checkTypeCall "zip" ⟨[a,b,c],[]⟩=pure ():=by kernel_rfl
theorem vJ(a b c:Value):checkBuiltinCall "zip.__new__" ⟨[.type "zip",a,b,c],[]⟩=pure ():=by kernel_rfl
theorem CG(a b c d:Value):argsOk "object.__init__" ⟨[a,b,c,d],[]⟩:=by
 unfold argsOk;rw[signature?_of (id:="object.__init__") (n:=['_','_','t','i','n','i','_','_']) (o:=['t','c','e','j','b','o']) (by kernel_rfl) PySem.F.owner_object];kernel_rfl
abbrev li3(l:Addr):Obj:={ cls:=.type "list_iterator",data:=.fields #[.ref l,.int 0 0] }
abbrev z3H3(h:Heap)(l1 l2 l3:Addr):Heap:=((h.push (li3 l1)).push (li3 l2)).push (li3 l3)
abbrev z3H4(h:Heap)(l1 l2 l3:Addr):Heap:=(z3H3 h l1 l2 l3).push { cls:=.type "tuple",data:=.seq #[.ref h.objs.size,.ref (h.push (li3 l1)).objs.size,.ref ((h.push (li3 l1)).push (li3 l2)).objs.size] }
abbrev z3H5(h:Heap)(l1 l2 l3:Addr):Heap:=(z3H4 h l1 l2 l3).push { cls:=.type "tuple",data:=.seq #[.none,.none,.none] }
abbrev z3H6(h:Heap)(l1 l2 l3:Addr):Heap:=(z3H5 h l1 l2 l3).push { cls:=.type "zip",data:=.fields #[.none,.bool false,.bool false,.ref (z3H3 h l1 l2 l3).objs.size,.ref (z3H4 h l1 l2 l3).objs.size] }
theorem D5(l1 l2 l3:Addr)(xs ys zs:Array Value) :
  Meets (Builtin.«zip.__new__» ⟨[.type "zip",.ref l1,.ref l2,.ref l3],[]⟩) (fun _ R s=>s.heap.IsList l1 xs/\s.heap.IsList l2 ys/\s.heap.IsList l3 zs /\
   R (.ok (.ret (.ref (z3H5 s.heap l1 l2 l3).objs.size))) { s with heap:=z3H6 s.heap l1 l2 l3 }) :=
 .of_wp fun prog w A R s h=>by
  obtain⟨hp,g,d,tk,os⟩:=s;obtain⟨hl1,hl2,hl3,h⟩:=h
  have hsub:=sub_zip
  have hL1:Heap.IsList (Shared.heap ⟨hp,g,d,tk,os⟩) l1 xs:=hl1
  have hL2:Heap.IsList (Shared.heap ⟨hp.push { cls:=.type "list_iterator",data:=.fields #[.ref l1,.int 0 0] },g,d,tk,os⟩) l2 ys:=Heap.IsList.push hl2 _
  have hL3:Heap.IsList (Shared.heap ⟨(hp.push { cls:=.type "list_iterator",data:=.fields #[.ref l1,.int 0 0] }).push { cls:=.type "list_iterator",data:=.fields #[.ref l2,.int 0 0] },g,d,tk,os⟩) l3 zs:=Heap.IsList.push (Heap.IsList.push hl3 _) _
  wp_walk using wpAny_pyIter_list hL1,wpAny_pyIter_list hL2,wpAny_pyIter_list hL3
  exact⟨_,rfl,h⟩
theorem Hj{prog:Program}{w:World}{A:Around}{E:Value->Shared->Prop}{s:Shared}{l1 l2 l3:Addr}{xs ys zs:Array Value}{Q:Value->Shared->Prop}(hl1:s.heap.IsList l1 xs)(hl2:s.heap.IsList l2 ys)(hl3:s.heap.IsList l3 zs)
  (h:∀ h',IsZip h' (s.heap.objs.size+5) (s.heap.objs.size+3) (s.heap.objs.size+4) .none->bu h' (s.heap.objs.size+3) (.ref s.heap.objs.size) (.ref (s.heap.objs.size+1)) (.ref (s.heap.objs.size+2)) ->
   bu h' (s.heap.objs.size+4) .none .none .none->h'.IsListIter s.heap.objs.size l1 0->h'.IsListIter (s.heap.objs.size+1) l2 0->h'.IsListIter (s.heap.objs.size+2) l3 0 ->
   (∀ c o,s.heap.get? c=some o->h'.get? c=some o)->Q (.ref (s.heap.objs.size+5)) { s with heap:=h' }) :
  wpAny (model prog w) A (call (.type "zip") [.ref l1,.ref l2,.ref l3]) Q E s:=by
 refine callType_new PySem.F.called_zip (by decide) (rR _ _ _) (vJ _ _ _) (fun obj=>CG obj _ _ _) PySem.F.entry_zip_new
  (D5 l1 l2 l3 xs ys zs) ⟨hl1,hl2,hl3,?_⟩
 have z1:(s.heap.push (li3 l1)).objs.size=s.heap.objs.size+1:=Heap.size_push ..
 have z2:((s.heap.push (li3 l1)).push (li3 l2)).objs.size=s.heap.objs.size+2:=by rw[Heap.size_push,z1]
 have z3:(z3H3 s.heap l1 l2 l3).objs.size=s.heap.objs.size+3:=by rw[Heap.size_push,z2]
 have z4:(z3H4 s.heap l1 l2 l3).objs.size=s.heap.objs.size+4:=by rw[Heap.size_push,z3]
 have z5:(z3H5 s.heap l1 l2 l3).objs.size=s.heap.objs.size+5:=by rw[Heap.size_push,z4]
 have g6:(z3H6 s.heap l1 l2 l3).get? (z3H5 s.heap l1 l2 l3).objs.size=some _:=Heap.get?_push_size _ rfl
 have g5:(z3H6 s.heap l1 l2 l3).get? (z3H4 s.heap l1 l2 l3).objs.size=some _:=Heap.get?_push_of_some _ (Heap.get?_push_size _ rfl)
 have g4:(z3H6 s.heap l1 l2 l3).get? (z3H3 s.heap l1 l2 l3).objs.size=some _:=Heap.get?_push_of_some _ (Heap.get?_push_of_some _ (Heap.get?_push_size _ rfl))
 have g3:(z3H6 s.heap l1 l2 l3).get? ((s.heap.push (li3 l1)).push (li3 l2)).objs.size=some _:=Heap.get?_push_of_some _ (Heap.get?_push_of_some _ (Heap.get?_push_of_some _ (Heap.get?_push_size _ rfl)))
 have g2:(z3H6 s.heap l1 l2 l3).get? (s.heap.push (li3 l1)).objs.size=some _:=Heap.get?_push_of_some _ (Heap.get?_push_of_some _ (Heap.get?_push_of_some _ (Heap.get?_push_of_some _ (Heap.get?_push_size _ rfl))))
 have g1:(z3H6 s.heap l1 l2 l3).get? s.heap.objs.size=some _:=Heap.get?_push_of_some _ (Heap.get?_push_of_some _ (Heap.get?_push_of_some _ (Heap.get?_push_of_some _ (Heap.get?_push_of_some _ (Heap.get?_push_size _ rfl)))))
 show _/\_
 rw[z3,z4,z5]at g6
 rw[z4]at g5
 rw[z3,z1,z2]at g4
 rw[z2]at g3
 rw[z1]at g2
 rw[z5]
 exact⟨⟨_,g6,rfl⟩,h _ g6 g4 g5 ⟨_,g1,rfl,rfl⟩ ⟨_,g2,rfl,rfl⟩ ⟨_,g3,rfl,rfl⟩ fun c o x =>
  Heap.get?_push_of_some _ (Heap.get?_push_of_some _ (Heap.get?_push_of_some _ (Heap.get?_push_of_some _ (Heap.get?_push_of_some _ (Heap.get?_push_of_some _ x)))))⟩
def Itz3(K:LU)(a b c:Addr):It :=
 ⟨fun i H=>∃ xs ys zs x y z,SqL K H a xs/\SqL K H b ys/\SqL K H c zs/\xs[i]?=some x/\ys[i]?=some y/\zs[i]?=some z,
  fun i H v H'=>∃ T x y z,H T=none/\v=.ref T/\H'=upd H T (.tup [x,y,z])/\(∀ xs,SqL K H a xs->xs[i]?=some x)/\(∀ ys,SqL K H b ys->ys[i]?=some y)/\∀ zs,SqL K H c zs->zs[i]?=some z,
  fun i H=>∃ xs ys zs,SqL K H a xs/\SqL K H b ys/\SqL K H c zs/\(xs.length<=i∨ys.length<=i∨zs.length<=i)⟩
theorem EZ{P:Program}{w:World}{K:LU}{es:List Expr}{k:Nat}{pos:Pos}(a b c z TI TO i1 i2 i3:Addr)(D:Z3 z TI TO i1 i2 i3 a b c):Turn P w K (.Tuple es k pos) (Itz3 K a b c) [z,TI,TO,i1,i2,i3] z
  (fun i h=>IsZip h z TI TO .none/\bu h TI (.ref i1) (.ref i2) (.ref i3)/\(∃ u v w,bu h TO u v w)/\h.IsListIter i1 a i/\h.IsListIter i2 b i/\h.IsListIter i3 c i) where
 mem:=by simp
 obj:=fun i h st d hd=>by
  obtain⟨kz,kI,⟨u,v,w,kO⟩,⟨o1,q1,c1,d1⟩,⟨o2,q2,c2,d2⟩,⟨o3,q3,c3,d3⟩⟩:=st
  simp only[LZ,MP,or_false]at hd
  rcases hd with rfl | rfl | rfl | rfl | rfl | rfl
  ·exact⟨_,kz,fun v z=>by have z':Data.fields _=Data.cell v:=z;cases z'⟩
  ·exact⟨_,kI,fun v z=>by have z':Data.seq _ _=Data.cell v:=z;cases z'⟩
  ·exact⟨_,kO,fun v z=>by have z':Data.seq _ _=Data.cell v:=z;cases z'⟩
  ·exact⟨o1,q1,fun v z=>by rw[d1]at z;cases z⟩
  ·exact⟨o2,q2,fun v z=>by rw[d2]at z;cases z⟩
  ·exact⟨o3,q3,fun v z=>by rw[d3]at z;cases z⟩
 keep:=fun i h h' st kk=>by
  obtain⟨kz,kI,⟨u,v,w,kO⟩,k1,k2,k3⟩:=st
  exact⟨kk _ (by simp) _ kz,kk _ (by simp) _ kI,⟨u,v,w,kk _ (by simp) _ kO⟩,k1.at fun o q=>kk i1 (by simp) o q,k2.at fun o q=>kk i2 (by simp) o q,k3.at fun o q=>kk i3 (by simp) o q⟩
 item:=by
  intro X hP hw hK hc i pins s σ H E I hf st hg
  subst hP hw hK
  obtain⟨xs,ys,zs,x,y,t,hq,hr,ht,hx,hy,hv⟩:=hg
  obtain⟨its,rv,p,hz⟩:=I.list hq
  obtain⟨its2,rv2,p2,hz2⟩:=I.list hr
  obtain⟨its3,rv3,p3,hz3⟩:=I.list ht
  obtain⟨u,hu,ru⟩:=rv.get hx
  obtain⟨u2,hu2,ru2⟩:=rv2.get hy
  obtain⟨u3,hu3,ru3⟩:=rv3.get hv
  obtain⟨kz,kI,⟨o1,o2,o3,kO⟩,k1,k2,k3⟩:=st
  refine JW D kz kI kO k1 k2 k3 p.isList p2.isList p3.isList (x:=u) (y:=u2) (v:=u3) (by simpa using hu) (by simpa using hu2) (by simpa using hu3) fun h' a1 a2 a3 a4 a5 a6 a7 hk=>?_
  refine⟨_,rfl,?_⟩
  refine wpAny_letOwnedTupleGo_zip a1 fun h2 g1 hs2=>?_
  have hs2':Heap.SameBut z h' h2:=hs2
  have hfb:∀ d∈[z,TI,TO,i1,i2,i3],d<s.heap.objs.size:=fun d hd=>by
   simp only[LZ,MP,or_false]at hd
   rcases hd with rfl | rfl | rfl | rfl | rfl | rfl
   ·exact Heap.lt_size kz
   ·exact Heap.lt_size kI
   ·exact Heap.lt_size kO
   ·obtain⟨_,q,_⟩:=k1;exact Heap.lt_size q
   ·obtain⟨_,q,_⟩:=k2;exact Heap.lt_size q
   ·obtain⟨_,q,_⟩:=k3;exact Heap.lt_size q
  have hfr:H s.heap.objs.size=none:=I.hok.fresh (Ma _)
  have I0:Inv X pins σ (upd H s.heap.objs.size (.tup [x,y,t])) { s with heap:=s.heap.push { cls:=.type "tuple",data:=.seq #[u,u2,u3] },toks:=s.toks } :=
   I.laid (t':=s.toks) (fun b u e=>Heap.get?_push_of_some _ e) (Ma _) ⟨by show 3<=sizeLine;decide,[u,u2,u3],.cons ru (.cons ru2 (.cons ru3 .nil)),⟨_,Heap.get?_push_size _ rfl,rfl,_,rfl⟩⟩
  have hn:∀ d∈[z,TI,TO,i1,i2,i3],upd H s.heap.objs.size (.tup [x,y,t]) d=none:=fun d hd=>by
   rw[aq (ME (hfb d hd))]
   exact(hf d hd).1
  have sub5:∀ d,d∉[z,TI,TO,i1,i2,i3]->d∉[z,TO,i1,i2,i3]:=fun d hd q=>hd (by
   simp only[LZ,MP,or_false]at q ⊢
   rcases q with q | q | q | q | q<;>simp[q])
  have I2:Inv X pins σ (upd H s.heap.objs.size (.tup [x,y,t])) { s with heap:=h2,toks:=s.toks }:=Inv.turnedL (s:={ s with heap:=s.heap.push { cls:=.type "tuple",data:=.seq #[u,u2,u3] },toks:=s.toks }) (h':=h2) I0 (t':=s.toks) (fp:=[z,TI,TO,i1,i2,i3]) (fun d o hd q=>by
   have n1:d≠z:=fun e=>hd (by simp[e])
   refine(hs2'.2 d n1).trans ?_
   rcases Heap.get?_push_cases q with⟨z1,z2⟩ | q
   ·rw[z1,z2];exact a6
   ·exact hk d o (sub5 d hd) q) fun d hd=>⟨hn d hd,(hf d hd).2⟩
  have TIn:TI∉[z,TO,i1,i2,i3]:=by
   simp only[LZ,MP,or_false,not_or]
   exact⟨D.zs _ (by simp),D.ts _ (by simp),D.is1 _ (by simp),D.is2 _ (by simp),D.is3 _ (by simp)⟩
  refine⟨.ref s.heap.objs.size,_,I2,rfl,⟨s.heap.objs.size,x,y,t,hfr,rfl,rfl,fun zs h=>by rw[I.list_inj h hq];exact hx,fun zs h=>by rw[I.list_inj h hr];exact hy,fun zs h=>by rw[I.list_inj h ht];exact hv⟩,?_,hn⟩
  refine⟨g1,(hs2'.2 TI (D.zs _ (by simp))).trans (hk _ _ TIn kI),⟨_,_,_,(hs2'.2 TO (D.zs _ (by simp))).trans a2⟩,a3.at fun o q=>(hs2'.2 i1 (D.zs _ (by simp))).trans q,a4.at fun o q=>(hs2'.2 i2 (D.zs _ (by simp))).trans q,a5.at fun o q=>(hs2'.2 i3 (D.zs _ (by simp))).trans q⟩
 done:=by
  intro X hP hw hK hc i pins s σ H E I hf st hg
  subst hP hw hK
  obtain⟨xs,ys,zs,hq,hr,ht,hx⟩:=hg
  obtain⟨its,rv,p,hz⟩:=I.list hq
  obtain⟨its2,rv2,p2,hz2⟩:=I.list hr
  obtain⟨its3,rv3,p3,hz3⟩:=I.list ht
  obtain⟨kz,kI,⟨o1,o2,o3,kO⟩,k1,k2,k3⟩:=st
  have hl:=rv.length
  have hl2:=rv2.length
  have hl3:=rv3.length
  refine JY (I.ok.hd hc) D kz kI kO k1 k2 k3 p.isList p2.isList p3.isList ?_ fun h' eb=>⟨rfl,Inv.turnedL I (t':=s.toks) (fun d o hd e=>eb d o (fun q=>hd (by
   simp only[LZ,MP,or_false]at q ⊢
   rcases q with q | q | q | q | q<;>simp[q])) e) hf⟩
  rcases hx with hx | hx | hx
  ·exact .inl (by simp;omega)
  ·exact .inr (.inl (by simp;omega))
  ·exact .inr (.inr (by simp;omega))
 self:=fun _ _ _ _ _ st h=>wpAny_pyIter_zip st.1 h
theorem HV(n a b c:Nat)(ha:a<n)(hb:b<n)(hc:c<n):Z3 (n+5) (n+3) (n+4) n (n+1) (n+2) a b c:=by
 refine⟨?_,?_,?_,?_,?_⟩<;>(simp only[LZ,MP,or_false,forall_eq_or_imp,forall_eq])
 ·exact⟨a9 _ _ (by omega),a9 _ _ (by omega),a9 _ _ (by omega),a9 _ _ (by omega),a9 _ _ (by omega),a9 _ _ (by omega),a9 _ _ (by omega),a9 _ _ (by omega)⟩
 ·exact⟨a9 _ _ (by omega),a9 _ _ (by omega),a9 _ _ (by omega),a9 _ _ (by omega),a9 _ _ (by omega),a9 _ _ (by omega),a9 _ _ (by omega)⟩
 ·exact⟨a9 _ _ (by omega),a9 _ _ (by omega),a9 _ _ (by omega),a9 _ _ (by omega),a9 _ _ (by omega),a9 _ _ (by omega)⟩
 ·exact⟨a9 _ _ (by omega),a9 _ _ (by omega),a9 _ _ (by omega),a9 _ _ (by omega),a9 _ _ (by omega),a9 _ _ (by omega)⟩
 ·exact⟨a9 _ _ (by omega),a9 _ _ (by omega),a9 _ _ (by omega),a9 _ _ (by omega),a9 _ _ (by omega),a9 _ _ (by omega)⟩
theorem vals3{a b c:V}{us:List Value}(h:Vals [a,b,c] us):∃ u v w,us = [u,v,w]/\RelV a u/\RelV b v/\RelV c w:=by
 cases h with
 |cons r1 t=>cases t with
  |cons r2 t=>cases t with
   |cons r3 t=>cases t;exact⟨_,_,_,rfl,r1,r2,r3⟩
section
variable{X:Cx}
def iZip3(K:LU)(ta:TA):TI:=fun σ H R=>ta σ H fun vs H1=>∃ a b c,vs = [.ref a,.ref b,.ref c]/\(∃ xs,SqL K H1 a xs)/\(∃ ys,SqL K H1 b ys)/\(∃ zs,SqL K H1 c zs)/\R (Itz3 K a b c) H1
theorem KL{l1 l2 l3:Expr}{ta:TA}{es:List Expr}{k:Nat}{tp p pos:Pos} (hg:Gl X "zip") (hm:X.mg "zip" = none) (ha:PA X [l1,l2,l3] ta) (hs:starEach [l1,l2,l3] X.env=(false,eval l1 X.env)::starEach [l2,l3] X.env:=by rfl) (hs2:(backTo pos (starEach [l2,l3] X.env)).any (·.1)=false:=by rfl) :
  PI X (.Tuple es k tp) (.Call (.Name "zip" p) [l1,l2,l3] [] pos) (iZip3 X.K ta):=by
 intro pins s σ H R I h
 refine Call_ (j9 I hg hm bt_zip (PyProof.Rows.callWith_type1 (thn (ha pos pins s σ H _ I h) fun us s1 ⟨vs,H1,I1,r1,q1⟩=>?_) hs hs2))
 obtain⟨a,b,c,e,⟨xs,hq⟩,⟨ys,hr⟩,⟨zs,ht⟩,q⟩:=q1
 subst e
 obtain⟨u,u2,u3,rfl,ru,ru2,ru3⟩:=vals3 r1
 cases ru
 cases ru2
 cases ru3
 obtain⟨its,rv,p,hz⟩:=I1.list hq
 obtain⟨its2,rv2,p2,hz2⟩:=I1.list hr
 obtain⟨its3,rv3,p3,hz3⟩:=I1.list ht
 have la:a<s1.heap.objs.size:=by obtain⟨_,_,q,_⟩:=p;exact Heap.lt_size q
 have lb:b<s1.heap.objs.size:=by obtain⟨_,_,q,_⟩:=p2;exact Heap.lt_size q
 have lc:c<s1.heap.objs.size:=by obtain⟨_,_,q,_⟩:=p3;exact Heap.lt_size q
 refine Hj p.isList p2.isList p3.isList fun h' kz kI kO k1 k2 k3 hk=>?_
 refine wpAny_pyIter_zip kz ?_
 refine⟨s1.heap.objs.size+5,[s1.heap.objs.size+5,s1.heap.objs.size+3,s1.heap.objs.size+4,s1.heap.objs.size,s1.heap.objs.size+1,s1.heap.objs.size+2],_,_,H1,rfl,I1.kept (t':=s1.toks) hk,
  EZ a b c (s1.heap.objs.size+5) (s1.heap.objs.size+3) (s1.heap.objs.size+4) s1.heap.objs.size (s1.heap.objs.size+1) (s1.heap.objs.size+2) (HV _ a b c la lb lc),⟨kz,kI,⟨_,_,_,kO⟩,k1,k2,k3⟩,fun d hd=>?_,q⟩
 have hb':s1.heap.objs.size<=d:=by
  simp only[LZ,MP,or_false]at hd
  rcases hd with rfl | rfl | rfl | rfl | rfl | rfl
  ·exact N8 _ _
  ·exact N8 _ _
  ·exact N8 _ _
  ·exact Ma _
  ·exact N8 _ _
  ·exact N8 _ _
 exact I1.fpOk hb' (I1.hok.fresh hb')
end
theorem Jf{K:LU}{a b c:Addr}{xs ys zs:List V}{g:TG}{tb:TS}{D:Ends}{σ:St}{H:Hp}(n:Nat)(Pv:Nat->St->Hp->Prop)(h0:Pv 0 σ H)(h1:n<=xs.length)(h2:n<=ys.length)(h3:zs.length=n)(hl:∀ i σ H,i<=n->Pv i σ H->SqL K H a xs/\SqL K H b ys/\SqL K H c zs)
  (hs:∀ i x y z σ H T,xs[i]?=some x->ys[i]?=some y->zs[i]?=some z->Pv i σ H->H T=none->g (.ref T) σ (upd H T (.tup [x,y,z])) fun σ2 H2=>tb { D with nx:=Pv (i+1),ct:=Pv (i+1),bk:=D.nx } σ2 H2) (hd:∀ σ H,Pv n σ H->D.nx σ H) :
  ∃ W:Nat->Nat->St->Hp->Prop,(∃ m,W 0 m σ H)/\∀ i m σ H,W i m σ H ->
   ((Itz3 K a b c).stop i H/\D.nx σ H)∨((Itz3 K a b c).go i H/\∃ N:St->Hp->Prop,(∀ σ' H',N σ' H'->∃ m',m'<m/\W (i+1) m' σ' H')/\∀ x H',(Itz3 K a b c).yld i H x H'->g x σ H' fun σ2 H2=>tb { D with nx:=N,ct:=N,bk:=D.nx } σ2 H2):=by
 refine⟨fun i m σ H=>m=n-i/\i<=n/\Pv i σ H,⟨n,by simp,Na _,h0⟩,?_⟩
 rintro i m σ H ⟨rfl,hi,p⟩
 obtain⟨q1,q2,q3⟩:=hl i σ H hi p
 by_cases hlt:i<n
 ·have l1:i<xs.length:=by omega
  have l2:i<ys.length:=by omega
  have l3:i<zs.length:=by omega
  refine .inr ⟨⟨xs,ys,zs,xs[i],ys[i],zs[i],q1,q2,q3,by simp[l1],by simp[l2],by simp[l3]⟩,Pv (i+1),fun σ' H' p'=>⟨n-(i+1),by omega,rfl,hlt,p'⟩,fun v H' y=>?_⟩
  obtain⟨T,x,y,z,hT,rfl,rfl,y1,y2,y3⟩:=y
  exact hs i x y z σ _ T (y1 xs q1) (y2 ys q2) (y3 zs q3) p hT
 ·have e:i=n:=by omega
  subst e
  exact .inl ⟨⟨xs,ys,zs,q1,q2,q3,.inr (.inr (by omega))⟩,hd σ H p⟩
end L2
namespace L2
theorem len_0{α:Type}{l:List α}(h:l.length=0):l = []:=NY.mp h
theorem F9{α:Type}{l:List α}{n:Nat}(h:l.length=n+1):∃ x r,l=x::r/\r.length=n:=by
 cases l with
 |nil=>cases h
 |cons x r=>exact⟨x,r,rfl,O1 h⟩
theorem pd{α:Type}{l:List α}(h:l.length=1):∃ a,l = [a]:=by
 obtain⟨a,r,rfl,e⟩:=F9 h
 exact⟨a,by rw[len_0 e]⟩
theorem fY{α:Type}{l:List α}(h:l.length=2):∃ a b,l = [a,b]:=by
 obtain⟨a,r,rfl,e⟩:=F9 h
 obtain⟨b,rfl⟩:=pd e
 exact⟨a,b,rfl⟩
theorem qA{α:Type}{l:List α}(h:l.length=3):∃ a b c,l = [a,b,c]:=by
 obtain⟨a,r,rfl,e⟩:=F9 h
 obtain⟨b,c,rfl⟩:=fY e
 exact⟨a,b,c,rfl⟩
theorem IV{α:Type}{l:List α}(h:l.length=4):∃ a b c d,l = [a,b,c,d]:=by
 obtain⟨a,r,rfl,e⟩:=F9 h
 obtain⟨b,c,d,rfl⟩:=qA e
 exact⟨a,b,c,d,rfl⟩
theorem len_5{α:Type}{l:List α}(h:l.length=5):∃ a b c d e,l = [a,b,c,d,e]:=by
 obtain⟨a,r,rfl,z⟩:=F9 h
 obtain⟨b,c,d,e,rfl⟩:=IV z
 exact⟨a,b,c,d,e,rfl⟩
end L2
namespace K8
theorem Jw:∀{a b:List Nat},a.Nodup->(∀ x∈a,x∈b)->a.length<=b.length
 |[],_,_,_=>Na _
 |x::a,b,nd,h=>by
  obtain⟨n1,n2⟩:=Mo.mp nd
  have hx:=h x (by simp)
  have ih:=Jw (a:=a) (b:=b.erase x) n2 fun y hy=>(List.mem_erase_of_ne (fun e:y=x=>n1 (e▸hy))).mpr (h y (Ml _ hy))
  rw[Pg hx]at ih
  have:0<b.length:=Ny hx
  rw[MJ]
  omega
theorem eY{a:List Nat}{N:Nat}(nd:a.Nodup)(h:∀ x∈a,x<N):a.length<=N:=by
 have:=Jw (b:=MH N) nd fun x hx=>MK.mpr (h x hx)
 rwa[M6]at this
theorem Dh{l:List Nat}(nd:l.Nodup){i j x:Nat}(hi:l[i]?=some x)(hj:l[j]?=some x):i=j:=by
 have p:=Nm.mp nd
 obtain⟨h1,e1⟩:=LR.mp hi
 obtain⟨h2,e2⟩:=LR.mp hj
 rcases Nat.lt_trichotomy i j with z | z | z
 ·exact absurd (e1.trans e2.symm) (p i j h1 h2 z)
 ·exact z
 ·exact absurd (e2.trans e1.symm) (p j i h2 h1 z)
abbrev En:=List (Nat×Nat)
structure bt(m:Nat)(es:En)(ts:List (List Nat)):Prop where
 len:ts.length=m
 ends:∀ e∈es,e.1<m/\e.2<m/\e.1≠e.2
 nd:∀(p:Nat)(l:List Nat),ts[p]?=some l->l.Nodup
 mem:∀(p:Nat)(l:List Nat),ts[p]?=some l->∀ t,t∈l↔∃ e,es[t]?=some e/\(e.1=p∨e.2=p)
theorem Ic(m:Nat):bt m [] (Ng m []) where
 len:=by simp
 ends:=fun e h=>by cases h
 nd:=fun p l h=>by
  rw[Nt]at h
  split at h
  ·cases h;exact N4
  ·cases h
 mem:=fun p l h t=>by
  rw[Nt]at h
  split at h
  ·cases h;simp
  ·cases h
def ins(l:List Nat)(k x:Nat):List Nat:=l.take k++x::l.drop k
theorem BS{l:List Nat}{k x y:Nat}:y∈ins l k x↔y=x∨y∈l:=by
 unfold ins
 rw[Mc,LZ]
 have:=N5 k l
 constructor
 ·rintro(h | h | h)
  ·exact .inr (NQ h)
  ·exact .inl h
  ·exact .inr (List.mem_of_mem_drop h)
 ·rintro(h | h)
  ·exact .inr (.inl h)
  ·rw[← this]at h
   rcases Mc.mp h with z | z
   ·exact .inl z
   ·exact .inr (.inr z)
theorem GA{l:List Nat}{k x:Nat}(nd:l.Nodup)(h:x∉l):(ins l k x).Nodup:=by
 unfold ins
 have e:=N5 k l
 rw[← e]at nd
 obtain⟨a,b,c⟩:=Mt.mp nd
 refine Mt.mpr ⟨a,Mo.mpr ⟨fun z=>h (List.mem_of_mem_drop z),b⟩,fun y hy z hz=>?_⟩
 rcases LZ.mp hz with q | q
 ·intro w
  exact h (by rw[← q,← w];exact NQ hy)
 ·exact c y hy z q
theorem bt.put{m:Nat}{es:En}{ts:List (List Nat)}{one two k j:Nat}{l l':List Nat}(w:bt m es ts)(h1:one<m)(h2:two<m)(hn:one≠two)(e1:ts[one]?=some l)(e2:ts[two]?=some l') :
  bt m (es++[(one,two)]) ((ts.set one (ins l k es.length)).set two (ins l' j es.length)):=by
 have old:∀{p l},ts[p]?=some l->es.length∉l:=fun{p l} e z=>by
  obtain⟨x,hx,_⟩:=(w.mem p l e es.length).mp z
  have:=(LR.mp hx).1
  omega
 have get:∀ p q,((ts.set one (ins l k es.length)).set two (ins l' j es.length))[p]?=some q->(p=two/\q=ins l' j es.length)∨(p=one/\p≠two/\q=ins l k es.length)∨(p≠one/\p≠two/\ts[p]?=some q):=fun p q e=>by
  have L:two<(ts.set one (ins l k es.length)).length:=by rw[MR,w.len];exact h2
  have L1:one<ts.length:=by rw[w.len];exact h1
  rw[MO]at e
  by_cases z:two=p
  ·rw[if_pos z,if_pos L]at e
   exact .inl ⟨z.symm,(Mq e).symm⟩
  ·rw[if_neg z,MO]at e
   by_cases y:one=p
   ·rw[if_pos y,if_pos L1]at e
    exact .inr (.inl ⟨y.symm,Ne.symm z,(Mq e).symm⟩)
   ·rw[if_neg y]at e
    exact .inr (.inr ⟨Ne.symm y,Ne.symm z,e⟩)
 have esg:∀ t x,(es++[(one,two)])[t]?=some x↔(es[t]?=some x)∨(t=es.length/\x=(one,two)):=fun t x=>by
  by_cases z:t<es.length
  ·rw[L0 z]
   constructor
   ·exact .inl
   ·rintro(y | y)
    ·exact y
    ·omega
  ·rw[LY (by omega)]
   constructor
   ·intro y
    have hl:=(LR.mp y).1
    rw[Me]at hl
    have ht:t=es.length:=by omega
    subst ht
    rw[Mw]at y
    cases y
    exact .inr ⟨rfl,rfl⟩
   ·rintro(y | ⟨y,rfl⟩)
    ·have:=(LR.mp y).1;omega
    ·rw[y,Mw];rfl
 refine⟨by rw[MR,MR];exact w.len,fun e he=>?_,fun p q e=>?_,fun p q e t=>?_⟩
 ·rcases Mc.mp he with z | z
  ·exact w.ends e z
  ·have:e=(one,two):=by simpa using z
   subst this
   exact⟨h1,h2,hn⟩
 ·rcases get p q e with⟨_,rfl⟩ | ⟨_,_,rfl⟩ | ⟨_,_,y⟩
  ·exact GA (w.nd two l' e2) (old e2)
  ·exact GA (w.nd one l e1) (old e1)
  ·exact w.nd p q y
 ·rcases get p q e with⟨rfl,rfl⟩ | ⟨rfl,np,rfl⟩ | ⟨n1,n2,y⟩
  ·rw[BS,w.mem p l' e2 t]
   constructor
   ·rintro(z | ⟨x,hx,hp⟩)
    ·exact⟨(one,p),(esg _ _).mpr (.inr ⟨z,rfl⟩),.inr rfl⟩
    ·exact⟨x,(esg _ _).mpr (.inl hx),hp⟩
   ·rintro⟨x,hx,hp⟩
    rcases(esg _ _).mp hx with z | ⟨z,_⟩
    ·exact .inr ⟨x,z,hp⟩
    ·exact .inl z
  ·rw[BS,w.mem p l e1 t]
   constructor
   ·rintro(z | ⟨x,hx,hp⟩)
    ·exact⟨(p,two),(esg _ _).mpr (.inr ⟨z,rfl⟩),.inl rfl⟩
    ·exact⟨x,(esg _ _).mpr (.inl hx),hp⟩
   ·rintro⟨x,hx,hp⟩
    rcases(esg _ _).mp hx with z | ⟨z,_⟩
    ·exact .inr ⟨x,z,hp⟩
    ·exact .inl z
  ·rw[w.mem p q y t]
   constructor
   ·rintro⟨x,hx,hp⟩
    exact⟨x,(esg _ _).mpr (.inl hx),hp⟩
   ·rintro⟨x,hx,hp⟩
    rcases(esg _ _).mp hx with z | ⟨z,rfl⟩
    ·exact⟨x,z,hp⟩
    ·rcases hp with hp | hp
     ·exact absurd hp.symm n1
     ·exact absurd hp.symm n2
def hd(es:En)(d:Nat):Nat:=match es[d/2]? with | some e=>if d%2=0 then e.2 else e.1 | none=>0
def tl(es:En)(d:Nat):Nat:=match es[d/2]? with | some e=>if d%2=0 then e.1 else e.2 | none=>0
def leave(es:En)(t p:Nat):Nat:=match es[t]? with | some e=>if e.1=p then 2*t else 2*t+1 | none=>0
def nxt(l:List Nat)(t:Nat):Nat:=(l[(l.idxOf t+1)%l.length]?).getD 0
def fol(es:En)(ts:List (List Nat))(d:Nat):Nat:=leave es (nxt ((ts[hd es d]?).getD []) (d/2)) (hd es d)
section
variable{m:Nat}{es:En}{ts:List (List Nat)}
theorem BU{l:List Nat}{t:Nat}(h:t∈l):l[l.idxOf t]?=some t:=by
 have hl:=Ou.mpr h
 rw[LS hl,List.getElem_idxOf]
theorem iL{l:List Nat}{t:Nat}(h:t∈l):l[(l.idxOf t+1)%l.length]?=some (nxt l t):=by
 have hl:0<l.length:=Ny h
 have:=Nat.mod_lt (l.idxOf t+1) hl
 unfold nxt
 rw[LS this]
 rfl
theorem bt.at(w:bt m es ts){d:Nat}(h:d<2*es.length):∃ e l,es[d/2]?=some e/\hd es d=(if d%2=0 then e.2 else e.1)/\tl es d=(if d%2=0 then e.1 else e.2)/\hd es d<m/\ts[hd es d]?=some l/\d/2∈l:=by
 have hl:d/2<es.length:=by omega
 have e1:es[d/2]?=some es[d/2]:=LS hl
 have q:=w.ends _ (LV e1)
 generalize es[d/2]=e at e1 q
 have h1:hd es d=(if d%2=0 then e.2 else e.1):=by unfold hd;rw[e1]
 have h2:tl es d=(if d%2=0 then e.1 else e.2):=by unfold tl;rw[e1]
 have h3:hd es d<m:=by rw[h1];split<;>omega
 have h4:ts[hd es d]?=some (ts[hd es d]'(by rw[w.len];exact h3)):=LS _
 refine⟨e,_,e1,h1,h2,h3,h4,(w.mem _ _ h4 _).mpr ⟨e,e1,?_⟩⟩
 rw[h1]
 split
 ·exact .inr rfl
 ·exact .inl rfl
theorem bt.foll(w:bt m es ts){d:Nat}(h:d<2*es.length):∃ l e,ts[hd es d]?=some l/\d/2∈l/\es[nxt l (d/2)]?=some e/\(e.1=hd es d∨e.2=hd es d)/\e.1≠e.2/\fol es ts d=(if e.1=hd es d then 2*nxt l (d/2) else 2*nxt l (d/2)+1)/\fol es ts d<2*es.length/\fol es ts d/2=nxt l (d/2)/\tl es (fol es ts d)=hd es d:=by
 obtain⟨e0,l,h1,h2,h3,h4,h5,h6⟩:=w.at h
 have hn:=iL h6
 obtain⟨e,he,hp⟩:=(w.mem _ _ h5 _).mp (LV hn)
 have hlt:=(LR.mp he).1
 have hne:=(w.ends e (LV he)).2.2
 have hf:fol es ts d=(if e.1=hd es d then 2*nxt l (d/2) else 2*nxt l (d/2)+1):=by
  unfold fol
  rw[h5]
  show leave es (nxt l (d/2)) (hd es d)=_
  unfold leave
  rw[he]
 refine⟨l,e,h5,h6,he,hp,hne,hf,?_,?_,?_⟩
 ·rw[hf];split<;>omega
 ·rw[hf];split<;>omega
 ·rw[hf]
  by_cases z:e.1=hd es d
  ·have a1:2*nxt l (d/2)/2=nxt l (d/2):=by omega
   have a2:2*nxt l (d/2)%2=0:=by omega
   rw[if_pos z]
   unfold tl
   rw[a1,he]
   show(if 2*nxt l (d/2)%2=0 then e.1 else e.2)=_
   rw[if_pos a2,z]
  ·have a1:(2*nxt l (d/2)+1)/2=nxt l (d/2):=by omega
   have a2:¬ (2*nxt l (d/2)+1)%2=0:=by omega
   rw[if_neg z]
   unfold tl
   rw[a1,he]
   show(if(2*nxt l (d/2)+1)%2=0 then e.1 else e.2)=_
   rw[if_neg a2]
   exact hp.elim (fun y=>absurd y z) id
theorem bt.inj(w:bt m es ts){a b:Nat}(ha:a<2*es.length)(hb:b<2*es.length)(h:fol es ts a=fol es ts b):a=b:=by
 obtain⟨l,e,p1,p2,_,_,_,_,_,p3,p4⟩:=w.foll ha
 obtain⟨l',e',q1,q2,_,_,_,_,_,q3,q4⟩:=w.foll hb
 have hh:hd es a=hd es b:=by rw[← p4,← q4,h]
 rw[hh,q1]at p1
 cases p1
 have hx:nxt l (a/2)=nxt l (b/2):=by rw[← p3,← q3,h]
 have g1:=iL p2
 have g2:=iL q2
 rw[hx]at g1
 have ii:=Dh (w.nd _ _ q1) g1 g2
 have i1:=Ou.mpr p2
 have i2:=Ou.mpr q2
 have ix:l.idxOf (a/2)=l.idxOf (b/2):=by
  generalize l.idxOf (a/2)=x at *
  generalize l.idxOf (b/2)=y at *
  by_cases z1:x+1=l.length
  ·by_cases z2:y+1=l.length
   ·omega
   ·rw[z1,OC,Nz (by omega)]at ii;omega
  ·by_cases z2:y+1=l.length
   ·rw[z2,OC,Nz (by omega)]at ii;omega
   ·rw[Nz (by omega),Nz (by omega)]at ii;omega
 have ht:a/2=b/2:=by
  have g3:=BU p2
  have g4:=BU q2
  rw[ix,g4]at g3
  exact(Mq g3).symm
 obtain⟨e1,_,r1,r2,_,_,_,_⟩:=w.at ha
 obtain⟨e2,_,s1,s2,_,_,_,_⟩:=w.at hb
 rw[ht,s1]at r1
 have ee:e2=e1:=Mq r1
 rw[ee]at s1 s2
 have hne:=(w.ends e1 (LV s1)).2.2
 rw[r2,s2]at hh
 have:a%2=b%2:=by
  by_cases z1:a%2=0<;>by_cases z2:b%2=0
  ·omega
  ·rw[if_pos z1,if_neg z2]at hh;exact absurd hh.symm hne
  ·rw[if_neg z1,if_pos z2]at hh;exact absurd hh hne
  ·omega
 omega
end
structure HS(f:Nat->Nat)(N:Nat):Prop where
 lt:∀ d,d<N->f d<N
 inj:∀ a b,a<N->b<N->f a=f b->a=b
structure Path(f:Nat->Nat)(N first:Nat)(r:List Nat):Prop where
 hd:r[0]?=some first
 lt:∀ d∈r,d<N
 nd:r.Nodup
 nx:∀ i x y,r[i]?=some x->r[i+1]?=some y->y=f x
theorem Dc{f:Nat->Nat}{N d:Nat}(h:d<N):Path f N d [d] where
 hd:=rfl
 lt:=fun x hx=>by have:x=d:=by simpa using hx
                  rw[this];exact h
 nd:=by simp
 nx:=fun i x y h1 h2=>by
  have:=(LR.mp h2).1
  rw[Me]at this
  omega
theorem Path.snoc{f:Nat->Nat}{N d x:Nat}{r:List Nat}(p:HS f N)(h:Path f N d (r++[x]))(hn:f x≠d):Path f N d (r++[x]++[f x]) where
 hd:=by rw[L0 (by rw[LX,Me];omega)];exact h.hd
 lt:=fun y hy=>by
  rcases Mc.mp hy with z | z
  ·exact h.lt y z
  ·have:y=f x:=by simpa using z
   rw[this];exact p.lt x (h.lt x (by simp))
 nd:=by
  refine Mt.mpr ⟨h.nd,by simp,fun a ha b hb e=>?_⟩
  have eb:b=f x:=by simpa using hb
  subst eb
  obtain⟨i,hi⟩:=M4.mp ha
  rw[e]at hi
  have hil:=(LR.mp hi).1
  rw[LX,Me]at hil
  cases i with
  |zero =>
   rw[h.hd]at hi
   exact hn (Mq hi).symm
  |succ i =>
   have gi:(r++[x])[i]?=some ((r++[x])[i]'(by rw[LX,Me];omega)):=LS _
   have:=h.nx i _ _ gi hi
   have mi:=h.lt _ (LV gi)
   have mx:=h.lt x (by simp)
   have e2:=p.inj _ _ mx mi this
   rw[← e2]at gi
   have gx:(r++[x])[r.length]?=some x:=by rw[LY (Ma _),Mw];rfl
   have:=Dh h.nd gi gx
   omega
 nx:=fun i a b h1 h2=>by
  have h2l:=(LR.mp h2).1
  rw[LX,LX,Me,Me]at h2l
  rw[L0 (by rw[LX,Me];omega)]at h1
  by_cases z:i+1<(r++[x]).length
  ·rw[L0 z]at h2
   exact h.nx i a b h1 h2
  ·rw[LX,Me]at z
   have ei:i=r.length:=by omega
   subst ei
   rw[LY (by rw[LX,Me];omega)]at h2
   have:r.length+1-(r++[x]).length=0:=by rw[LX,Me];omega
   rw[this]at h2
   rw[LY (Ma _),Mw]at h1
   have e1:x=a:=Mq h1
   have e2:f x=b:=Mq h2
   rw[← e2,e1]
structure Ring(f:Nat->Nat)(N:Nat)(r:List Nat):Prop where
 lt:∀ d∈r,d<N
 nd:r.Nodup
 ne:0<r.length
 nx:∀ i x,r[i]?=some x->r[(i+1)%r.length]?=some (f x)
theorem Path.ring{f:Nat->Nat}{N d x:Nat}{r:List Nat}(p:HS f N)(h:Path f N d (r++[x]))(he:f x=d):Ring f N (r++[x]) where
 lt:=h.lt
 nd:=h.nd
 ne:=by rw[LX,Me];omega
 nx:=fun i y hy=>by
  have hl:=(LR.mp hy).1
  by_cases z:i+1=(r++[x]).length
  ·rw[z,OC]
   have:i=r.length:=by rw[LX,Me]at z;omega
   subst this
   rw[LY (Ma _),Mw]at hy
   have:x=y:=Mq hy
   subst this
   rw[he];exact h.hd
  ·have l2:i+1<(r++[x]).length:=by omega
   rw[Nz l2]
   have g:=LS l2
   rw[g,h.nx i _ _ hy g]
theorem Ring.back{f:Nat->Nat}{N a:Nat}{r:List Nat}(p:HS f N)(h:Ring f N r)(ha:a<N)(hf:f a∈r):a∈r:=by
 obtain⟨i,hi⟩:=M4.mp hf
 have hl:=(LR.mp hi).1
 have key:∃ j,j<r.length/\(j+1)%r.length=i:=by
  cases i with
  |zero=>exact⟨r.length-1,by have:=h.ne;omega,by have:=h.ne;rw[show r.length-1+1=r.length by omega,OC]⟩
  |succ i=>exact⟨i,by omega,Nz hl⟩
 obtain⟨j,hj,ej⟩:=key
 have g:=LS hj
 have q:=h.nx j _ g
 rw[ej,hi]at q
 have mj:=h.lt _ (LV g)
 have:=p.inj _ _ ha mj (Mq q)
 rw[this]
 exact LV g
structure fx(f:Nat->Nat)(N i:Nat)(rs:List (List Nat)):Prop where
 ring:∀ r∈rs,Ring f N r
 hdl:∀ r∈rs,∀ h,r[0]?=some h->h<i/\∀ d∈r,h<=d
 asc:∀(a b:Nat)(r r':List Nat)(h h':Nat),a<b->rs[a]?=some r->rs[b]?=some r'->r[0]?=some h->r'[0]?=some h'->h<h'
 nd:rs.flatten.Nodup
 all:∀ d,d<i->d∈rs.flatten
theorem DL(f:Nat->Nat)(N:Nat):fx f N 0 [] where
 ring:=fun r h=>by cases h
 hdl:=fun r h=>by cases h
 asc:=fun a b r r' h h' _ e=>by cases e
 nd:=by simp
 all:=fun d h=>by omega
theorem fx.skip{f:Nat->Nat}{N i:Nat}{rs:List (List Nat)}(w:fx f N i rs)(h:i∈rs.flatten):fx f N (i+1) rs where
 ring:=w.ring
 hdl:=fun r hr x hx=>⟨by have:=(w.hdl r hr x hx).1;omega,(w.hdl r hr x hx).2⟩
 asc:=w.asc
 nd:=w.nd
 all:=fun d hd=>by
  by_cases z:d=i
  ·rw[z];exact h
  ·exact w.all d (by omega)
theorem fx.put{f:Nat->Nat}{N i:Nat}{rs:List (List Nat)}{r:List Nat}(p:HS f N)(w:fx f N i rs)(h:i∉rs.flatten)(hi:i<N)(hr:Ring f N r)(pa:Path f N i r):fx f N (i+1) (rs++[r]):=by
 have apart:∀(k x:Nat),r[k]?=some x->x∉rs.flatten:=fun k=>by
  induction k with
  |zero =>
   intro x hx
   rw[pa.hd]at hx
   cases hx
   exact h
  |succ k ih =>
   intro x hx z
   have hl:=(LR.mp hx).1
   have g:=LS (show k<r.length by omega)
   have e:=pa.nx k _ _ g hx
   obtain⟨q,hq,zq⟩:=M5.mp z
   rw[e]at zq
   exact ih _ g (M5.mpr ⟨q,hq,(w.ring q hq).back p (hr.lt _ (LV g)) zq⟩)
 have least:∀ d∈r,i<=d:=fun d hd=>by
  obtain⟨k,hk⟩:=M4.mp hd
  by_cases z:i<=d
  ·exact z
  ·exact absurd (w.all d (by omega)) (apart k d hk)
 refine⟨fun q hq=>?_,fun q hq x hx=>?_,fun a b q q' x x' hab ha hb hx hx'=>?_,?_,fun d hd=>?_⟩
 ·rcases Mc.mp hq with z | z
  ·exact w.ring q z
  ·have:q=r:=by simpa using z
   rw[this];exact hr
 ·rcases Mc.mp hq with z | z
  ·have:=w.hdl q z x hx
   exact⟨by omega,this.2⟩
  ·have e:q=r:=by simpa using z
   subst e
   rw[pa.hd]at hx
   cases hx
   exact⟨by omega,least⟩
 ·have bl:=(LR.mp hb).1
  rw[LX,Me]at bl
  rw[L0 (by omega)]at ha
  by_cases z:b<rs.length
  ·rw[L0 z]at hb
   exact w.asc a b q q' x x' hab ha hb hx hx'
  ·have eb:b=rs.length:=by omega
   subst eb
   rw[LY (Ma _),Mw]at hb
   have e:r=q':=Mq hb
   subst e
   rw[pa.hd]at hx'
   cases hx'
   exact(w.hdl q (LV ha) x hx).1
 ·rw[Nd]
  have e : [r].flatten=r:=by simp
  rw[e]
  refine Mt.mpr ⟨w.nd,hr.nd,fun a ha b hb e=>?_⟩
  obtain⟨k,hk⟩:=M4.mp hb
  exact apart k b hk (e▸ha)
 ·rw[Nd,Mc]
  by_cases z:d=i
  ·right
   rw[z]
   simp
   exact LV pa.hd
  ·exact .inl (w.all d (by omega))
theorem Lx{rs:List (List Nat)}(nd:rs.flatten.Nodup){a b:Nat}{r r':List Nat}{d:Nat}(ha:rs[a]?=some r)(hb:rs[b]?=some r')(h1:d∈r)(h2:d∈r'):a=b:=by
 induction rs generalizing a b with
 |nil=>cases ha
 |cons q rs ih =>
  rw[MV]at nd
  obtain⟨_,n2,n3⟩:=Mt.mp nd
  cases a with
  |zero =>
   cases b with
   |zero=>rfl
   |succ b =>
    have e:q=r:=Mq ha
    subst e
    exact absurd rfl (n3 d h1 d (M5.mpr ⟨r',LV hb,h2⟩))
  |succ a =>
   cases b with
   |zero =>
    have e:q=r':=Mq hb
    subst e
    exact absurd rfl (n3 d h2 d (M5.mpr ⟨r,LV ha,h1⟩))
   |succ b=>exact congrArg Nat.succ (ih n2 ha hb)
end K8
namespace K8
def jY(f:Nat->Nat):Nat->List Nat->Nat->Prop
 |x,[],z=>f x=z
 |x,y::l,z=>f x=y/\jY f y l z
theorem ic{f:Nat->Nat}:∀{x:Nat}{l:List Nat}{y:Nat}{k:List Nat}{z:Nat},jY f x (l++y::k) z↔jY f x l y/\jY f y k z
 |x,[],y,k,z=>Iff.rfl
 |x,a::l,y,k,z=>by
  show(f x=a/\jY f a (l++y::k) z)↔(f x=a/\jY f a l y)/\jY f y k z
  rw[ic,and_assoc]
theorem mq{f g:Nat->Nat}:∀{x y:Nat}{l:List Nat}{z:Nat},jY f x l z->g y=f x->(∀ t∈l,g t=f t)->jY g y l z
 |x,y,[],z,h,e,_=>e.trans h
 |x,y,a::l,z,h,e,k=>⟨e.trans h.1,mq h.2 (k a (MB ..)) fun t ht=>k t (Ml _ ht)⟩
theorem zB{f g F:Nat->Nat}:∀{x:Nat}{l:List Nat}{z:Nat},jY f x l z->(∀ t∈x::l,g (F t)=F (f t))->jY g (F x) (l.map F) (F z)
 |x,[],z,h,k=>by
  show g (F x)=F z
  rw[k x (MB ..),show f x=z from h]
 |x,a::l,z,h,k=>⟨by rw[k x (MB ..),h.1],zB h.2 fun t ht=>k t (Ml _ ht)⟩
theorem qO{f:Nat->Nat}{S:Nat->Prop}:∀{x:Nat}{l:List Nat}{z:Nat},jY f x l z->(∀ t∈x::l,S t->S (f t))->S x->S z/\∀ t∈l,S t
 |x,[],z,h,k,s=>⟨by have:=k x (MB ..) s;rwa[show f x=z from h]at this,fun t ht=>nomatch ht⟩
 |x,a::l,z,h,k,s=>by
  have s1:S a:=by have:=k x (MB ..) s;rwa[h.1]at this
  obtain⟨h1,h2⟩:=qO h.2 (fun t ht=>k t (Ml _ ht)) s1
  refine⟨h1,fun t ht=>?_⟩
  rcases LZ.mp ht with y | y
  ·rw[y];exact s1
  ·exact h2 t y
structure CR(f:Nat->Nat)(N:Nat)(r:List Nat):Prop where
 ch:∃ x l,r=x::l/\jY f x l x
 lt:∀ d∈r,d<N
 nd:r.Nodup
theorem CR.closed{f:Nat->Nat}{N:Nat}{r:List Nat}(h:CR f N r):∀ d∈r,f d∈r:=by
 obtain⟨x,l,rfl,c⟩:=h.ch
 intro d hd
 rcases LZ.mp hd with y | y
 ·subst y
  cases l with
  |nil=>rw[show f d=d from c];exact MB ..
  |cons a l=>rw[c.1];simp
 ·obtain⟨A,B,rfl⟩:=Ol y
  have c2:=(ic.mp c).2
  cases B with
  |nil=>rw[show f d=x from c2];exact MB ..
  |cons a B=>rw[c2.1];simp
theorem CR.sub{f:Nat->Nat}{N:Nat}{r:List Nat}{S:Nat->Prop}(h:CR f N r)(k:∀ t∈r,S t->S (f t)){d:Nat}(hd:d∈r)(s:S d):∀ t∈r,S t:=by
 obtain⟨x,l,rfl,c⟩:=h.ch
 have fromx:S x->∀ t∈x::l,S t:=fun sx t ht=>by
  rcases LZ.mp ht with y | y
  ·rw[y];exact sx
  ·exact(qO c k sx).2 t y
 rcases LZ.mp hd with y | y
 ·exact fromx (y▸s)
 ·obtain⟨A,B,rfl⟩:=Ol y
  have c2:=(ic.mp c).2
  exact fromx (qO c2 (fun t ht=>k t (by simp only[LZ,Mc]at ht ⊢;rcases ht with z | z<;>simp[z])) s).1
theorem CR.same{f:Nat->Nat}{N:Nat}{r r':List Nat}(h:CR f N r)(h':CR f N r'){d:Nat}(h1:d∈r)(h2:d∈r'):∀ t∈r,t∈r':=h.sub (S:=fun t=>t∈r') (fun t _=>h'.closed t) h1 h2
theorem CR.ne{f:Nat->Nat}{N:Nat}{r:List Nat}(h:CR f N r):∃ d,d∈r:=by
 obtain⟨x,l,rfl,_⟩:=h.ch
 exact⟨x,MB ..⟩
structure Part(f:Nat->Nat)(N:Nat)(rs:List (List Nat)):Prop where
 cr:∀ r∈rs,CR f N r
 nd:rs.flatten.Nodup
 all:∀ d,d<N->d∈rs.flatten
theorem Part.pick{f:Nat->Nat}{N:Nat}{rs:List (List Nat)}(p:Part f N rs){r:List Nat}(h:CR f N r):∃ rest,Part f N (r::rest)/\rest.length+1=rs.length:=by
 obtain⟨d,hd⟩:=h.ne
 obtain⟨r0,m1,m2⟩:=M5.mp (p.all d (h.lt d hd))
 have c0:=p.cr r0 m1
 have s1:=h.same c0 hd m2
 have s2:=c0.same h m2 hd
 obtain⟨A,B,rfl⟩:=Ol m1
 have nd:=p.nd
 rw[Nd,MV]at nd
 obtain⟨n1,n2,n3⟩:=Mt.mp nd
 obtain⟨n4,n5,n6⟩:=Mt.mp n2
 refine⟨A++B,⟨fun q hq=>?_,?_,fun y hy=>?_⟩,by simp;omega⟩
 ·rcases LZ.mp hq with z | z
  ·rw[z];exact h
  ·refine p.cr q ?_
   rcases Mc.mp z with z | z
   ·simp[z]
   ·simp[z]
 ·rw[MV,Nd]
  refine Mt.mpr ⟨h.nd,Mt.mpr ⟨n1,n5,fun a ha b hb=>n3 a ha b (by simp[hb])⟩,fun a ha b hb=>?_⟩
  rcases Mc.mp hb with z | z
  ·exact fun e=>n3 b z a (MC _ (s1 a ha)) e.symm
  ·exact n6 a (s1 a ha) b z
 ·have:=p.all y hy
  rw[Nd,MV]at this
  rw[MV,Nd]
  simp only[Mc]at this ⊢
  rcases this with z | z | z
  ·exact .inr (.inl z)
  ·exact .inl (s2 y z)
  ·exact .inr (.inr z)
theorem Part.same:∀{rs qs:List (List Nat)}{f:Nat->Nat}{N:Nat},Part f N rs->Part f N qs->rs.length=qs.length:=by
 have le:∀(k:Nat){rs qs:List (List Nat)}{f:Nat->Nat}{N:Nat},Part f N rs->Part f N qs->rs.length<=qs.length:=by
  intro _ rs qs f N p q
  have g:∀ r∈rs,∃ i,i<qs.length/\∃ r',qs[i]?=some r'/\∀ t∈r',t∈r:=fun r hr=>by
   have c:=p.cr r hr
   obtain⟨d,hd⟩:=c.ne
   obtain⟨r',m1,m2⟩:=M5.mp (q.all d (c.lt d hd))
   obtain⟨i,hi⟩:=M4.mp m1
   exact⟨i,(LR.mp hi).1,r',hi,(q.cr r' m1).same c m2 hd⟩
  have:∀(l:List (List Nat)),(∀ r∈l,r∈rs)->l.flatten.Nodup->∃ is:List Nat,is.length=l.length/\is.Nodup/\∀ i∈is,i<qs.length/\∃ r∈l,∃ r',qs[i]?=some r'/\∀ t∈r',t∈r:=fun l=>by
   induction l with
   |nil=>intro _ _;exact⟨[],rfl,N4,fun i hi=>nomatch hi⟩
   |cons r l ih =>
    intro h nd
    rw[MV]at nd
    obtain⟨n1,n2,n3⟩:=Mt.mp nd
    obtain⟨is,e1,e2,e3⟩:=ih (fun r hr=>h r (Ml _ hr)) n2
    obtain⟨i,h1,r',h2,h3⟩:=g r (h r (MB ..))
    refine⟨i::is,by simp[e1],Mo.mpr ⟨fun z=>?_,e2⟩,fun j hj=>?_⟩
    ·obtain⟨_,r2,m2,r3,m3,m4⟩:=e3 i z
     rw[h2]at m3
     cases m3
     obtain⟨d,hd⟩:=(q.cr r' (LV h2)).ne
     exact n3 d (h3 d hd) d (M5.mpr ⟨r2,m2,m4 d hd⟩) rfl
    ·rcases LZ.mp hj with z | z
     ·subst z;exact⟨h1,r,MB ..,r',h2,h3⟩
     ·obtain⟨k1,r2,k2,k3⟩:=e3 j z
      exact⟨k1,r2,Ml _ k2,k3⟩
  obtain⟨is,e1,e2,e3⟩:=this rs (fun _ h=>h) p.nd
  rw[← e1]
  exact eY e2 fun i hi=>(e3 i hi).1
 intro rs qs f N p q
 exact Nat.le_antisymm (le 0 p q) (le 0 q p)
theorem Ring.cr{f:Nat->Nat}{N:Nat}{r:List Nat}(h:Ring f N r):CR f N r:=by
 refine⟨?_,h.lt,h.nd⟩
 have ne:=h.ne
 match r,h,ne with
 |x::l,h,_ =>
  refine⟨x,l,rfl,?_⟩
  have key:∀(k i:Nat)(y:Nat),i+k+1=(x::l).length->(x::l)[i]?=some y->jY f y ((x::l).drop (i+1)) x:=fun k=>by
   induction k with
   |zero =>
    intro i y hi hy
    have e:=h.nx i y hy
    rw[show(i+1)%(x::l).length=0 by rw[← hi];simp]at e
    rw[List.drop_of_length_le (by omega)]
    exact(Mq e).symm
   |succ k ih =>
    intro i y hi hy
    have e:=h.nx i y hy
    rw[Nz (by omega)]at e
    obtain⟨hl,e2⟩:=LR.mp e
    rw[List.drop_eq_getElem_cons hl,e2]
    exact⟨rfl,ih (i+1) (f y) (by omega) e⟩
  exact key l.length 0 x (by simp) rfl
theorem fx.part{f:Nat->Nat}{N:Nat}{rs:List (List Nat)}(w:fx f N N rs):Part f N rs:=⟨fun r hr=>(w.ring r hr).cr,w.nd,w.all⟩
end K8
namespace K8
theorem y6{A B:List Nat}{t:Nat}(h:t∉A):(A++t::B).idxOf t=A.length:=by
 rw[List.idxOf_append,if_neg h,List.idxOf_cons_self,Nat.zero_add]
theorem bf{A B:List Nat}{t:Nat}(h:t∉A):nxt (A++t::B) t=((B++(A++t::B)).head?).getD 0:=by
 unfold nxt
 rw[y6 h]
 cases B with
 |nil =>
  have e:(A.length+1)%(A++[t]).length=0:=by rw[LX,Me,OC]
  rw[e,List.nil_append,List.head?_eq_getElem?]
 |cons b B =>
  have e:(A.length+1)%(A++t::b::B).length=A.length+1:=Nz (by simp)
  rw[e,LY (by omega)]
  rw[show A.length+1-A.length=1 by omega]
  rfl
theorem Gz{A B:List Nat}{u n:Nat}(h:u∉A):ins (A++u::B) ((A++u::B).idxOf u+1) n=A++u::n::B:=by
 rw[y6 h]
 unfold ins
 have e1:(A++u::B).take (A.length+1)=A++[u]:=by
  rw[List.take_append,MY (by omega),show A.length+1-A.length=1 by omega]
  rfl
 have e2:(A++u::B).drop (A.length+1)=B:=by simp
 rw[e1,e2]
 simp
theorem gz{l:List Nat}{u:Nat}(h:u∈l):∃ A B,l=A++u::B/\u∉A:=by
 induction l with
 |nil=>exact nomatch h
 |cons a l ih =>
  by_cases z:a=u
  ·subst z;exact⟨[],l,rfl,MP⟩
  ·rcases LZ.mp h with y | y
   ·exact absurd y.symm z
   ·obtain⟨A,B,rfl,k⟩:=ih y
    exact⟨a::A,B,rfl,fun w=>by rcases LZ.mp w with w | w;exact z w.symm;exact k w⟩
theorem Li{l:List Nat}{u n:Nat}(hu:u∈l)(hn:n∉l) :
  nxt (ins l (l.idxOf u+1) n) u=n/\nxt (ins l (l.idxOf u+1) n) n=nxt l u/\∀ t∈l,t≠u->nxt (ins l (l.idxOf u+1) n) t=nxt l t:=by
 obtain⟨A,B,rfl,k⟩:=gz hu
 rw[Gz k]
 have hnA:n∉A:=fun z=>hn (by simp[z])
 have hnu:n≠u:=fun z=>hn (by simp[z])
 refine⟨?_,?_,fun t ht htu=>?_⟩
 ·rw[bf k];rfl
 ·have e:A++u::n::B=(A++[u])++n::B:=by simp
  rw[e,bf (fun z=>by rcases Mc.mp z with z | z;exact hnA z;exact hnu (by simpa using z)),bf k]
  cases B<;>cases A<;>rfl
 ·rcases Mc.mp ht with z | z
  ·obtain⟨A1,A2,rfl,k2⟩:=gz z
   have e1:(A1++t::A2)++u::n::B=A1++t::(A2++u::n::B):=by simp
   have e2:(A1++t::A2)++u::B=A1++t::(A2++u::B):=by simp
   rw[e1,e2,bf k2,bf k2]
   cases A2<;>rfl
  ·have z':t∈B:=by
    rcases LZ.mp z with z | z
    ·exact absurd z htu
    ·exact z
   by_cases tA:t∈A
   ·obtain⟨A1,A2,rfl,k2⟩:=gz tA
    have e1:(A1++t::A2)++u::n::B=A1++t::(A2++u::n::B):=by simp
    have e2:(A1++t::A2)++u::B=A1++t::(A2++u::B):=by simp
    rw[e1,e2,bf k2,bf k2]
    cases A2<;>rfl
   ·obtain⟨B1,B2,rfl,k2⟩:=gz z'
    have tn:t≠n:=fun y=>hn (by rw[← y];simp)
    have e1:A++u::n::(B1++t::B2)=(A++u::n::B1)++t::B2:=by simp
    have e2:A++u::(B1++t::B2)=(A++u::B1)++t::B2:=by simp
    rw[e1,e2,bf (by simp[tA,htu,tn,k2]),bf (by simp[tA,htu,k2])]
    cases B2<;>cases A<;>rfl
theorem qB{es:En}{e:Nat×Nat}{t p:Nat}(h:t<es.length):leave (es++[e]) t p=leave es t p:=by
 unfold leave
 rw[L0 h]
theorem yL{es:En}{e:Nat×Nat}{p:Nat}:leave (es++[e]) es.length p=if e.1=p then 2*es.length else 2*es.length+1:=by
 unfold leave
 rw[LY (Ma _),Mw]
 rfl
theorem tZ{es:En}{e:Nat×Nat}{d:Nat}(h:d<2*es.length):hd (es++[e]) d=hd es d:=by
 unfold hd
 rw[L0 (by omega)]
theorem hd_new{es:En}{e:Nat×Nat}:hd (es++[e]) (2*es.length)=e.2/\hd (es++[e]) (2*es.length+1)=e.1:=by
 have e1:2*es.length/2=es.length:=by omega
 have e2:(2*es.length+1)/2=es.length:=by omega
 constructor
 ·unfold hd
  rw[e1,LY (Ma _),Mw]
  show(if 2*es.length%2=0 then e.2 else e.1)=_
  rw[if_pos (by omega)]
 ·unfold hd
  rw[e2,LY (Ma _),Mw]
  show(if(2*es.length+1)%2=0 then e.2 else e.1)=_
  rw[if_neg (by omega)]
theorem hd_inj{m:Nat}{es:En}{ts:List (List Nat)}(w:bt m es ts){a b:Nat}(ha:a<2*es.length)(hb:b<2*es.length)(h:hd es a=hd es b)(h2:a/2=b/2):a=b:=by
 obtain⟨e1,_,r1,r2,_⟩:=w.at ha
 obtain⟨e2,_,s1,s2,_⟩:=w.at hb
 rw[h2,s1]at r1
 cases r1
 have hne:=(w.ends e1 (LV s1)).2.2
 rw[r2,s2]at h
 by_cases z1:a%2=0<;>by_cases z2:b%2=0
 ·omega
 ·rw[if_pos z1,if_neg z2]at h;exact absurd h.symm hne
 ·rw[if_neg z1,if_pos z2]at h;exact absurd h hne
 ·omega
def jX(n:Nat)(e:Nat×Nat)(p:Nat):Nat:=if e.1=p then 2*n else 2*n+1
theorem f6{es:En}{ts:List (List Nat)}{d:Nat}{l:List Nat}(h:ts[hd es d]?=some l):fol es ts d=leave es (nxt l (d/2)) (hd es d):=by
 unfold fol
 rw[h]
 rfl
end K8
namespace K8
theorem bt.flip{m:Nat}{es:En}{ts:List (List Nat)}{a b:Nat}(w:bt m (es++[(a,b)]) ts):bt m (es++[(b,a)]) ts:=by
 have key:∀(x y:Nat)(t p:Nat),(∃ e,(es++[(x,y)])[t]?=some e/\(e.1=p∨e.2=p))->∃ e,(es++[(y,x)])[t]?=some e/\(e.1=p∨e.2=p):=fun x y t p=>by
  rintro⟨e,h1,h2⟩
  by_cases z:t<es.length
  ·rw[L0 z]at h1
   exact⟨e,by rw[L0 z];exact h1,h2⟩
  ·have hl:=(LR.mp h1).1
   rw[LX,Me]at hl
   have z':t=es.length:=by omega
   subst z'
   rw[LY (Ma _),Mw]at h1
   cases h1
   exact⟨(y,x),by rw[LY (Ma _),Mw];rfl,h2.symm⟩
 refine⟨w.len,fun e he=>?_,w.nd,fun p l h t=>⟨fun z=>key a b t p ((w.mem p l h t).mp z),fun z=>(w.mem p l h t).mpr (key b a t p z)⟩⟩
 rcases Mc.mp he with z | z
 ·exact w.ends e (MC _ z)
 ·have:e=(b,a):=by simpa using z
  subst this
  obtain⟨h1,h2,h3⟩:=w.ends (a,b) (by simp)
  exact⟨h2,h1,fun y=>h3 y.symm⟩
theorem bt.room{m:Nat}{es:En}{ts:List (List Nat)}(w:bt m es ts):bt (m+1) es (ts++[[]]):=by
 refine⟨by rw[LX,w.len];rfl,fun e he=>?_,fun p l h=>?_,fun p l h t=>?_⟩
 ·obtain⟨h1,h2,h3⟩:=w.ends e he
  exact⟨by omega,by omega,h3⟩
 all_goals by_cases z:p<ts.length
 ·rw[L0 z]at h
  exact w.nd p l h
 ·have hl:=(LR.mp h).1
  rw[LX,Me]at hl
  have z':p=ts.length:=by omega
  subst z'
  rw[LY (Ma _),Mw]at h
  cases h
  exact N4
 ·rw[L0 z]at h
  exact w.mem p l h t
 ·have hl:=(LR.mp h).1
  rw[LX,Me]at hl
  have z':p=ts.length:=by omega
  subst z'
  rw[LY (Ma _),Mw]at h
  cases h
  refine⟨(fun y=>nomatch y),?_⟩
  rintro⟨e,h1,h2⟩
  obtain⟨k1,k2,_⟩:=w.ends e (LV h1)
  have:=w.len
  omega
theorem Lz{m:Nat}{es:En}{ts:List (List Nat)}(w:bt m es ts){p:Nat}{l:List Nat}(h:ts[p]?=some l):es.length∉l:=fun z=>by
 obtain⟨x,hx,_⟩:=(w.mem p l h es.length).mp z
 have:=(LR.mp hx).1
 omega
theorem BX{m:Nat}{es:En}{ts ts':List (List Nat)}{e:Nat×Nat}{p u:Nat}{l:List Nat}(w:bt m es ts)(hl:ts[p]?=some l)(hu:u<2*es.length)(hp:hd es u=p)(hl':ts'[p]?=some (ins l (l.idxOf (u/2)+1) es.length)) :
  fol (es++[e]) ts' u=jX es.length e p/\(∀ b,b/2=es.length->hd (es++[e]) b=p->fol (es++[e]) ts' b=fol es ts u)/\∀ d,d<2*es.length->d≠u->hd es d=p->fol (es++[e]) ts' d=fol es ts d:=by
 obtain⟨_,l0,_,_,_,_,g5,g6⟩:=w.at hu
 rw[hp,hl]at g5
 cases g5
 have nn:=Lz w hl
 obtain⟨n1,n2,n3⟩:=Li g6 nn
 have lt:∀ t∈l,nxt l t<es.length:=fun t ht=>by
  obtain⟨x,hx,_⟩:=(w.mem p l hl (nxt l t)).mp (LV (iL ht))
  exact(LR.mp hx).1
 refine⟨?_,fun b hb hpb=>?_,fun d hd' hne hpd=>?_⟩
 ·rw[f6 (l:=ins l (l.idxOf (u/2)+1) es.length) (by rw[tZ hu,hp];exact hl'),n1,tZ hu,hp,yL]
  rfl
 ·rw[f6 (l:=ins l (l.idxOf (u/2)+1) es.length) (by rw[hpb];exact hl'),hb,n2,hpb,qB (lt _ g6),f6 (l:=l) (by rw[hp];exact hl),hp]
 ·obtain⟨_,l0,_,_,_,_,k5,k6⟩:=w.at hd'
  rw[hpd,hl]at k5
  cases k5
  have tne:d/2≠u/2:=fun z=>hne (hd_inj w hd' hu (hpd.trans hp.symm) z)
  rw[f6 (l:=ins l (l.idxOf (u/2)+1) es.length) (by rw[tZ hd',hpd];exact hl'),n3 _ k6 tne,tZ hd',hpd,qB (lt _ k6),f6 (l:=l) (by rw[hpd];exact hl),hpd]
theorem Dp{m:Nat}{es:En}{ts ts':List (List Nat)}{e:Nat×Nat}(w:bt m es ts){d:Nat}(hd':d<2*es.length)(h:ts'[hd es d]?=ts[hd es d]?):fol (es++[e]) ts' d=fol es ts d:=by
 obtain⟨_,l,_,_,_,_,k5,k6⟩:=w.at hd'
 have lt:nxt l (d/2)<es.length:=by
  obtain⟨x,hx,_⟩:=(w.mem _ l k5 (nxt l (d/2))).mp (LV (iL k6))
  exact(LR.mp hx).1
 rw[f6 (l:=l) (by rw[tZ hd',h];exact k5),tZ hd',qB lt,f6 k5]
theorem cL(n:Nat)(e:Nat×Nat)(p:Nat):jX n e p/2=n:=by
 unfold jX
 split<;>omega
theorem Dx{es:En}{one two:Nat}{e:Nat×Nat}(hne:one≠two)(he:e=(one,two)∨e=(two,one)):hd (es++[e]) (jX es.length e one)=two/\hd (es++[e]) (jX es.length e two)=one/\jX es.length e one≠jX es.length e two/\∀ d,d<2*(es.length+1)->d<2*es.length∨d=jX es.length e one∨d=jX es.length e two:=by
 obtain⟨h1,h2⟩:=hd_new (es:=es) (e:=e)
 unfold jX
 rcases he with he | he
 ·have c1:e.1=one:=by rw[he]
  have c2:¬ e.1=two:=by rw[he];exact hne
  have c3:e.2=two:=by rw[he]
  rw[if_pos c1,if_neg c2,h1,h2]
  exact⟨c3,c1,by omega,fun d hd=>by omega⟩
 ·have c1:e.1=two:=by rw[he]
  have c2:¬ e.1=one:=by rw[he];exact fun z=>hne z.symm
  have c3:e.2=one:=by rw[he]
  rw[if_pos c1,if_neg c2,h1,h2]
  exact⟨c1,c3,by omega,fun d hd=>by omega⟩
structure Gr(m:Nat)(es:En)(ts:List (List Nat)):Prop where
 w:bt m es ts
 part:∃ rs,Part (fol es ts) (2*es.length) rs/\m+rs.length=es.length+2
 conn:∀ S:Nat->Prop,(∀ e∈es,S e.1↔S e.2)->∀ p q,p<m->q<m->S p->S q
theorem CR.mono{f g:Nat->Nat}{N M:Nat}{r:List Nat}(h:CR f N r)(hN:N<=M)(k:∀ t∈r,g t=f t):CR g M r:=by
 obtain⟨x,l,rfl,c⟩:=h.ch
 exact⟨⟨x,l,rfl,mq c (k x (MB ..)) fun t ht=>k t (Ml _ ht)⟩,fun d hd=>MF (h.lt d hd) hN,h.nd⟩
theorem Jl{m:Nat}{es:En}{e:Nat×Nat}(c:∀ S:Nat->Prop,(∀ e∈es,S e.1↔S e.2)->∀ p q,p<m->q<m->S p->S q):∀ S:Nat->Prop,(∀ x∈es++[e],S x.1↔S x.2)->∀ p q,p<m->q<m->S p->S q :=
 fun S h=>c S fun x hx=>h x (MC _ hx)
theorem Gr.join{m:Nat}{es:En}{ts:List (List Nat)}(g:Gr m es ts){left right one two:Nat}{e:Nat×Nat}{l l' tail:List Nat}(hl:left<2*es.length)(hr:CR (fol es ts) (2*es.length) (left::tail))(hch:jY (fol es ts) left tail left)(hm:right∈left::tail)
  (h1:hd es left=one) (h2:hd es right=two) (hne:one≠two) (he:e=(one,two)∨e=(two,one)) (e1:ts[one]?=some l) (e2:ts[two]?=some l') :
  Gr m (es++[e]) ((ts.set one (ins l (l.idxOf (left/2)+1) es.length)).set two (ins l' (l'.idxOf (right/2)+1) es.length)):=by
 have w:=g.w
 have hrt:right<2*es.length:=hr.lt right hm
 have hlen:=w.len
 have o1:one<m:=by rw[← hlen];exact(LR.mp e1).1
 have o2:two<m:=by rw[← hlen];exact(LR.mp e2).1
 have W:bt m (es++[e]) ((ts.set one (ins l (l.idxOf (left/2)+1) es.length)).set two (ins l' (l'.idxOf (right/2)+1) es.length)):=by
  rcases he with rfl | rfl
  ·exact w.put o1 o2 hne e1 e2
  ·exact(w.put o1 o2 hne e1 e2).flip
 have r1:((ts.set one (ins l (l.idxOf (left/2)+1) es.length)).set two (ins l' (l'.idxOf (right/2)+1) es.length))[one]?=some (ins l (l.idxOf (left/2)+1) es.length):=by
  rw[MO,if_neg (fun z=>hne z.symm),MO,if_pos rfl,if_pos (by rw[hlen];exact o1)]
 have r2:((ts.set one (ins l (l.idxOf (left/2)+1) es.length)).set two (ins l' (l'.idxOf (right/2)+1) es.length))[two]?=some (ins l' (l'.idxOf (right/2)+1) es.length):=by
  rw[MO,if_pos rfl,if_pos (by rw[MR,hlen];exact o2)]
 have r3:∀ p,p≠one->p≠two->((ts.set one (ins l (l.idxOf (left/2)+1) es.length)).set two (ins l' (l'.idxOf (right/2)+1) es.length))[p]?=ts[p]?:=fun p n1 n2=>by
  rw[MO,if_neg (fun z=>n2 z.symm),MO,if_neg (fun z=>n1 z.symm)]
 generalize (ts.set one (ins l (l.idxOf (left/2)+1) es.length)).set two (ins l' (l'.idxOf (right/2)+1) es.length)=ts' at W r1 r2 r3
 obtain⟨a1,a2,a3⟩:=BX (e:=e) w e1 hl h1 r1
 obtain⟨b1,b2,b3⟩:=BX (e:=e) w e2 hrt h2 r2
 obtain⟨d1,d2,d3,d4⟩:=Dx (es:=es) hne he
 have fa:=b2 _ (cL _ _ _) d1
 have fb:=a2 _ (cL _ _ _) d2
 have els:∀ d,d<2*es.length->d≠left->d≠right->fol (es++[e]) ts' d=fol es ts d:=fun d hd' n1 n2=>by
  by_cases z1:hd es d=one
  ·exact a3 d hd' n1 z1
  ·by_cases z2:hd es d=two
   ·exact b3 d hd' n2 z2
   ·exact Dp w hd' (r3 _ z1 z2)
 generalize ha:jX es.length e one=α at *
 generalize hb:jX es.length e two=β at *
 have hα:α/2=es.length:=by rw[← ha];exact cL _ _ _
 have hβ:β/2=es.length:=by rw[← hb];exact cL _ _ _
 have hlr:right≠left:=fun z=>hne (by rw[← h1,← h2,z])
 have hm':right∈tail:=by
  rcases LZ.mp hm with z | z
  ·exact absurd z hlr
  ·exact z
 obtain⟨xs,ys,rfl⟩:=Ol hm'
 obtain⟨c1,c2⟩:=ic.mp hch
 have nd:=hr.nd
 have ltx:∀ t∈xs,t<2*es.length/\t≠left/\t≠right:=fun t ht=>by
  refine⟨hr.lt t (by simp[ht]),fun z=>?_,fun z=>?_⟩
  ·subst z;exact(Mo.mp nd).1 (by simp[ht])
  ·subst z
   have:=(Mt.mp (Mo.mp nd).2).2.2 t ht t (by simp)
   exact this rfl
 have lty:∀ t∈ys,t<2*es.length/\t≠left/\t≠right:=fun t ht=>by
  refine⟨hr.lt t (by simp[ht]),fun z=>?_,fun z=>?_⟩
  ·subst z;exact(Mo.mp nd).1 (by simp[ht])
  ·subst z
   exact(Mo.mp (Mt.mp (Mo.mp nd).2).2.1).1 ht
 obtain⟨rs,p,cnt⟩:=g.part
 obtain⟨rest,pr,cnt2⟩:=p.pick hr
 have ndr:=pr.nd
 rw[MV]at ndr
 obtain⟨_,nd2,nd3⟩:=Mt.mp ndr
 have ltr:∀ t∈rest.flatten,t<2*es.length/\t≠left/\t≠right:=fun t ht=>by
  obtain⟨q,q1,q2⟩:=M5.mp ht
  exact⟨(pr.cr q (Ml _ q1)).lt t q2,fun z=>nd3 left (by simp) t ht z.symm,fun z=>nd3 right (by simp) t ht z.symm⟩
 have hlen2:(es++[e]).length=es.length+1:=by rw[LX];rfl
 refine⟨W,⟨(left::α::ys)::(right::β::xs)::rest,⟨fun q hq=>?_,?_,fun d hd'=>?_⟩,by rw[hlen2];simp only[MJ]at cnt2 ⊢;omega⟩,Jl g.conn⟩
 ·rcases LZ.mp hq with z | z
  ·subst z
   refine⟨⟨left,α::ys,rfl,a1,mq c2 fa fun t ht=>els t (lty t ht).1 (lty t ht).2.1 (lty t ht).2.2⟩,fun d hd'=>?_,?_⟩
   ·rw[hlen2]
    simp only[LZ]at hd'
    rcases hd' with y | y | y
    ·omega
    ·omega
    ·have:=(lty d y).1;omega
   ·refine Mo.mpr ⟨fun y=>?_,Mo.mpr ⟨fun y=>?_,?_⟩⟩
    ·rcases LZ.mp y with y | y
     ·omega
     ·exact(lty _ y).2.1 rfl
    ·have:=(lty _ y).1;omega
    ·exact(Mo.mp (Mt.mp (Mo.mp nd).2).2.1).2
  ·rcases LZ.mp z with z | z
   ·subst z
    refine⟨⟨right,β::xs,rfl,b1,mq c1 fb fun t ht=>els t (ltx t ht).1 (ltx t ht).2.1 (ltx t ht).2.2⟩,fun d hd'=>?_,?_⟩
    ·rw[hlen2]
     simp only[LZ]at hd'
     rcases hd' with y | y | y
     ·omega
     ·omega
     ·have:=(ltx d y).1;omega
    ·refine Mo.mpr ⟨fun y=>?_,Mo.mpr ⟨fun y=>?_,?_⟩⟩
     ·rcases LZ.mp y with y | y
      ·omega
      ·exact(ltx _ y).2.2 rfl
     ·have:=(ltx _ y).1;omega
     ·exact(Mt.mp (Mo.mp nd).2).1
   ·refine(pr.cr q (Ml _ z)).mono (by rw[hlen2];omega) fun t ht=>?_
    obtain⟨k1,k2,k3⟩:=ltr t (M5.mpr ⟨q,z,ht⟩)
    exact els t k1 k2 k3
 ·have dis:∀ x∈xs,∀ y∈ys,x≠y:=fun x hx y hy=>(Mt.mp (Mo.mp nd).2).2.2 x hx y (by simp[hy])
  rw[MV,MV]
  refine Mt.mpr ⟨?_,Mt.mpr ⟨?_,nd2,fun a ha b hb=>?_⟩,fun a ha b hb=>?_⟩
  ·refine Mo.mpr ⟨fun y=>?_,Mo.mpr ⟨fun y=>?_,(Mo.mp (Mt.mp (Mo.mp nd).2).2.1).2⟩⟩
   ·rcases LZ.mp y with y | y
    ·omega
    ·exact(lty _ y).2.1 rfl
   ·have:=(lty _ y).1;omega
  ·refine Mo.mpr ⟨fun y=>?_,Mo.mpr ⟨fun y=>?_,(Mt.mp (Mo.mp nd).2).1⟩⟩
   ·rcases LZ.mp y with y | y
    ·omega
    ·exact(ltx _ y).2.2 rfl
   ·have:=(ltx _ y).1;omega
  ·obtain⟨k1,k2,k3⟩:=ltr b hb
   simp only[LZ]at ha
   rcases ha with y | y | y
   ·exact fun z=>k3 (z▸y)
   ·omega
   ·exact nd3 a (by simp[y]) b hb
  ·simp only[LZ,Mc]at ha hb
   rcases hb with(y | y | y) | y
   ·rcases ha with z | z | z
    ·exact fun u=>hlr (by rw[← y,← u,z])
    ·have:=hrt;omega
    ·exact fun u=>(lty a z).2.2 (u.trans y)
   ·rcases ha with z | z | z
    ·omega
    ·omega
    ·have:=(lty a z).1;omega
   ·rcases ha with z | z | z
    ·exact fun u=>(ltx b y).2.1 (u▸z)
    ·have:=(ltx b y).1;omega
    ·exact fun u=>dis b y a z u.symm
   ·obtain⟨k1,k2,k3⟩:=ltr b y
    rcases ha with z | z | z
    ·exact fun u=>k2 (u▸z)
    ·omega
    ·exact nd3 a (by simp[z]) b y
 ·rw[hlen2]at hd'
  simp only[MV,Mc,LZ]
  rcases d4 d hd' with y | y | y
  ·have:=pr.all d y
   simp only[MV,Mc,LZ]at this
   rcases this with(z | z | z | z) | z
   ·exact .inl (.inl z)
   ·exact .inr (.inl (.inr (.inr z)))
   ·exact .inr (.inl (.inl z))
   ·exact .inl (.inr (.inr z))
   ·exact .inr (.inr z)
  ·exact .inl (.inr (.inl y))
  ·exact .inr (.inl (.inr (.inl y)))
end K8
namespace K8
theorem Gr.leaf{m:Nat}{es:En}{ts:List (List Nat)}(g:Gr m es ts){left one:Nat}{e:Nat×Nat}{l tail:List Nat}(hl:left<2*es.length)(hr:CR (fol es ts) (2*es.length) (left::tail))(hch:jY (fol es ts) left tail left)
  (h1:hd es left=one) (he:e=(one,m)∨e=(m,one)) (e1:ts[one]?=some l) :
  Gr (m+1) (es++[e]) (ts.set one (ins l (l.idxOf (left/2)+1) es.length)++[[es.length]]):=by
 have w:=g.w
 have hlen:=w.len
 have o1:one<m:=by rw[← hlen];exact(LR.mp e1).1
 have hne:one≠m:=by omega
 have W:bt (m+1) (es++[e]) (ts.set one (ins l (l.idxOf (left/2)+1) es.length)++[[es.length]]):=by
  have q:=w.room.put (one:=one) (two:=m) (k:=l.idxOf (left/2)+1) (j:=0) (l:=l) (l':=[]) (by omega) (by omega) hne (by rw[L0 (by omega)];exact e1) (by rw[LY (by omega),hlen,Mw];rfl)
  have q2:((ts++[[]]).set one (ins l (l.idxOf (left/2)+1) es.length)).set m (ins [] 0 es.length)=ts.set one (ins l (l.idxOf (left/2)+1) es.length)++[[es.length]]:=by
   rw[List.set_append_left _ _ (by omega),List.set_append_right _ _ (by rw[MR];omega),MR,hlen,Mw]
   rfl
  rw[q2]at q
  rcases he with rfl | rfl
  ·exact q
  ·exact q.flip
 have r1:(ts.set one (ins l (l.idxOf (left/2)+1) es.length)++[[es.length]])[one]?=some (ins l (l.idxOf (left/2)+1) es.length):=by
  rw[L0 (by rw[MR];omega),MO,if_pos rfl,if_pos (by omega)]
 have r2:(ts.set one (ins l (l.idxOf (left/2)+1) es.length)++[[es.length]])[m]?=some [es.length]:=by
  rw[LY (by rw[MR];omega),MR,hlen,Mw]
  rfl
 have r3:∀ p,p≠one->p<m->(ts.set one (ins l (l.idxOf (left/2)+1) es.length)++[[es.length]])[p]?=ts[p]?:=fun p n1 n2=>by
  rw[L0 (by rw[MR];omega),MO,if_neg (fun z=>n1 z.symm)]
 generalize ts.set one (ins l (l.idxOf (left/2)+1) es.length)++[[es.length]]=ts' at W r1 r2 r3
 obtain⟨a1,a2,a3⟩:=BX (e:=e) w e1 hl h1 r1
 obtain⟨d1,d2,d3,d4⟩:=Dx (es:=es) hne he
 have fb:=a2 _ (cL _ _ _) d2
 have fa:fol (es++[e]) ts' (jX es.length e one)=jX es.length e m:=by
  rw[f6 (l:=[es.length]) (by rw[d1];exact r2),cL,d1]
  have:nxt [es.length] es.length=es.length:=by
   unfold nxt
   rw[List.idxOf_cons_self]
   simp
  rw[this,yL]
  rfl
 have els:∀ d,d<2*es.length->d≠left->fol (es++[e]) ts' d=fol es ts d:=fun d hd' n1=>by
  by_cases z1:hd es d=one
  ·exact a3 d hd' n1 z1
  ·obtain⟨_,_,_,_,_,k4,_⟩:=w.at hd'
   exact Dp w hd' (r3 _ z1 k4)
 generalize ha:jX es.length e one=α at *
 generalize hb:jX es.length e m=β at *
 have hα:α/2=es.length:=by rw[← ha];exact cL _ _ _
 have hβ:β/2=es.length:=by rw[← hb];exact cL _ _ _
 have nd:=hr.nd
 have ltt:∀ t∈tail,t<2*es.length/\t≠left:=fun t ht=>⟨hr.lt t (by simp[ht]),fun z=>(Mo.mp nd).1 (z▸ht)⟩
 obtain⟨rs,p,cnt⟩:=g.part
 obtain⟨rest,pr,cnt2⟩:=p.pick hr
 have ndr:=pr.nd
 rw[MV]at ndr
 obtain⟨_,nd2,nd3⟩:=Mt.mp ndr
 have ltr:∀ t∈rest.flatten,t<2*es.length/\t≠left:=fun t ht=>by
  obtain⟨q,q1,q2⟩:=M5.mp ht
  exact⟨(pr.cr q (Ml _ q1)).lt t q2,fun z=>nd3 left (by simp) t ht z.symm⟩
 have hlen2:(es++[e]).length=es.length+1:=by rw[LX];rfl
 have nd4:(left::α::β::tail).Nodup:=by
  refine Mo.mpr ⟨fun y=>?_,Mo.mpr ⟨fun y=>?_,Mo.mpr ⟨fun y=>?_,(Mo.mp nd).2⟩⟩⟩
  ·simp only[LZ]at y
   rcases y with y | y | y
   ·omega
   ·omega
   ·exact(ltt _ y).2 rfl
  ·simp only[LZ]at y
   rcases y with y | y
   ·exact d3 y
   ·have:=(ltt _ y).1;omega
  ·have:=(ltt _ y).1;omega
 refine⟨W,⟨(left::α::β::tail)::rest,⟨fun q hq=>?_,?_,fun d hd'=>?_⟩,by rw[hlen2];simp only[MJ]at cnt2 ⊢;omega⟩,fun S hS x y hx hy sx=>?_⟩
 ·rcases LZ.mp hq with z | z
  ·subst z
   refine⟨⟨left,α::β::tail,rfl,a1,fa,mq hch fb fun t ht=>els t (ltt t ht).1 (ltt t ht).2⟩,fun d hd'=>?_,nd4⟩
   rw[hlen2]
   simp only[LZ]at hd'
   rcases hd' with y | y | y | y
   ·omega
   ·omega
   ·omega
   ·have:=(ltt d y).1;omega
  ·refine(pr.cr q (Ml _ z)).mono (by rw[hlen2];omega) fun t ht=>?_
   obtain⟨k1,k2⟩:=ltr t (M5.mpr ⟨q,z,ht⟩)
   exact els t k1 k2
 ·rw[MV]
  refine Mt.mpr ⟨nd4,nd2,fun a ha b hb=>?_⟩
  obtain⟨k1,k2⟩:=ltr b hb
  simp only[LZ]at ha
  rcases ha with y | y | y | y
  ·exact fun u=>k2 (u▸y)
  ·omega
  ·omega
  ·exact nd3 a (by simp[y]) b hb
 ·rw[hlen2]at hd'
  simp only[MV,Mc,LZ]
  rcases d4 d hd' with y | y | y
  ·have:=pr.all d y
   simp only[MV,Mc,LZ]at this
   rcases this with(z | z) | z
   ·exact .inl (.inl z)
   ·exact .inl (.inr (.inr (.inr z)))
   ·exact .inr z
  ·exact .inl (.inr (.inl y))
  ·exact .inl (.inr (.inr (.inl y)))
 ·-- in one piece
  have hSe:S one↔S m:=by
   have:=hS e (by simp)
   rcases he with rfl | rfl
   ·exact this
   ·exact this.symm
  have old:=g.conn S fun x hx=>hS x (MC _ hx)
  have toOne:S one:=by
   by_cases z:x<m
   ·exact old x one z o1 sx
   ·have:x=m:=by omega
    subst this
    exact hSe.mpr sx
  by_cases z:y<m
  ·exact old one y o1 z toOne
  ·have:y=m:=by omega
   subst this
   exact hSe.mp toOne
theorem gr_two:Gr 2 [(0,1)] [[0],[0]]:=by
 have W:bt 2 [(0,1)] [[0],[0]]:=by
  refine⟨rfl,fun e he=>?_,fun p l h=>?_,fun p l h t=>?_⟩
  ·have:e=(0,1):=by simpa using he
   subst this
   exact⟨by decide,by decide,by decide⟩
  ·match p,h with
   |0,h=>cases h;decide
   |1,h=>cases h;decide
   |p+2,h=>cases h
  ·have key:(∃ e,([(0,1)]:En)[t]?=some e/\(e.1=p∨e.2=p))↔t=0/\(p=0∨p=1):=by
    constructor
    ·rintro⟨e,h1,h2⟩
     match t,h1 with
     |0,h1=>cases h1;exact⟨rfl,h2.imp Eq.symm Eq.symm⟩
     |t+1,h1=>cases h1
    ·rintro⟨rfl,h2⟩
     exact⟨(0,1),rfl,h2.imp Eq.symm Eq.symm⟩
   rw[key]
   match p,h with
   |0,h=>cases h;simp
   |1,h=>cases h;simp
   |p+2,h=>cases h
 refine⟨W,⟨[[0,1]],⟨fun r hr=>?_,by decide,fun d hd=>?_⟩,rfl⟩,fun S hS p q hp hq sp=>?_⟩
 ·have:r = [0,1]:=by simpa using hr
  subst this
  exact⟨⟨0,[1],rfl,by decide,(by show fol [(0,1)] [[0],[0]] 1=0;decide)⟩,fun d hd=>by simp at hd ⊢;omega,by decide⟩
 ·have hd2:d<2:=hd
  simp
  omega
 ·have:=hS (0,1) (by simp)
  have h01:S 0↔S 1:=this
  have hp':p=0∨p=1:=by omega
  have hq':q=0∨q=1:=by omega
  rcases hp' with rfl | rfl<;>rcases hq' with rfl | rfl
  ·exact sp
  ·exact h01.mp sp
  ·exact h01.mpr sp
  ·exact sp
end K8
namespace K8
structure Bij(F:Nat->Nat)(n:Nat):Prop where
 lt:∀ k,k<n->F k<n
 inj:∀ a b,a<n->b<n->F a=F b->a=b
 sur:∀ y,y<n->∃ k,k<n/\F k=y
def ofL(o:List Nat)(k:Nat):Nat:=(o[k]?).getD 0
theorem Dz{o:List Nat}{n:Nat}(hl:o.length=n)(nd:o.Nodup)(h:∀ x∈o,x<n):Bij (ofL o) n:=by
 have get:∀ k,k<n->o[k]?=some (ofL o k):=fun k hk=>by
  unfold ofL
  rw[LS (by omega)]
  rfl
 refine⟨fun k hk=>h _ (LV (get k hk)),fun a b ha hb e=>Dh nd (get a ha) (by rw[get b hb,e]),fun y hy=>?_⟩
 have hm:y∈o:=by
  by_cases z:y∈o
  ·exact z
  ·have:=eY (a:=y::o) (N:=n) (Mo.mpr ⟨z,nd⟩) fun x hx=>by
    rcases LZ.mp hx with u | u
    ·omega
    ·exact h x u
   rw[MJ]at this
   omega
 obtain⟨k,hk⟩:=M4.mp hm
 have hkl:=(LR.mp hk).1
 refine⟨k,by omega,?_⟩
 have:=get k (by omega)
 rw[hk]at this
 exact(Mq this).symm
theorem Dg{F:Nat->Nat}:∀{l:List Nat},l.Nodup->(∀ x∈l,∀ y∈l,F x=F y->x=y)->(l.map F).Nodup
 |[],_,_=>N4
 |a::l,nd,h=>by
  obtain⟨n1,n2⟩:=Mo.mp nd
  refine Mo.mpr ⟨fun z=>?_,Dg n2 fun x hx y hy=>h x (Ml _ hx) y (Ml _ hy)⟩
  obtain⟨x,hx,e⟩:=Mj.mp z
  have:=h x (Ml _ hx) a (MB ..) e
  exact n1 (this▸hx)
theorem Lh{F:Nat->Nat}{l:List Nat}{t:Nat}(ht:t∈l)(h:∀ x∈l,F x=F t->x=t):nxt (l.map F) (F t)=F (nxt l t):=by
 obtain⟨A,B,rfl,k⟩:=gz ht
 have k2:F t∉A.map F:=fun z=>by
  obtain⟨x,hx,e⟩:=Mj.mp z
  exact k (h x (by simp[hx]) e▸hx)
 rw[MD,MQ,bf k2,bf k]
 cases B<;>cases A<;>rfl
theorem Lg{X Y:List Nat}{t:Nat}(nd:(X++Y).Nodup)(ht:t∈X++Y):nxt (Y++X) t=nxt (X++Y) t:=by
 obtain⟨n1,n2,n3⟩:=Mt.mp nd
 rcases Mc.mp ht with z | z
 ·have tY:t∉Y:=fun y=>n3 t z t y rfl
  obtain⟨A,B,rfl,k⟩:=gz z
  have e1:Y++(A++t::B)=(Y++A)++t::B:=by simp
  have e2:(A++t::B)++Y=A++t::(B++Y):=by simp
  rw[e1,e2,bf (by simp[tY,k]),bf k]
  cases B<;>cases Y<;>cases A<;>rfl
 ·have tX:t∉X:=fun y=>n3 t y t z rfl
  obtain⟨A,B,rfl,k⟩:=gz z
  have e1:(A++t::B)++X=A++t::(B++X):=by simp
  have e2:X++(A++t::B)=(X++A)++t::B:=by simp
  rw[e1,e2,bf k,bf (by simp[tX,k])]
  cases B<;>cases X<;>cases A<;>rfl
structure Ren(m:Nat)(es es2:En)(ts ts2:List (List Nat))(π σ:Nat->Nat):Prop where
 pi:Bij π m
 si:Bij σ es.length
 l1:es2.length=es.length
 l2:ts2.length=m
 es:∀(k:Nat)(e:Nat×Nat),es[k]?=some e->es2[σ k]?=some (π e.1,π e.2)
 ts:∀(p:Nat)(l:List Nat),ts[p]?=some l->∃ X Y,l=X++Y/\ts2[π p]?=some ((Y++X).map σ)
section
variable{m:Nat}{es es2:En}{ts ts2:List (List Nat)}{π σ:Nat->Nat}
theorem Ren.es'(R:Ren m es es2 ts ts2 π σ){j:Nat}{x:Nat×Nat}(h:es2[j]?=some x):∃ k e,σ k=j/\es[k]?=some e/\x=(π e.1,π e.2):=by
 have hj:=(LR.mp h).1
 rw[R.l1]at hj
 obtain⟨k,hk,rfl⟩:=R.si.sur j hj
 have e1:es[k]?=some es[k]:=LS hk
 have:=R.es k _ e1
 rw[h]at this
 exact⟨k,_,rfl,e1,Mq this⟩
theorem Ren.ts'(R:Ren m es es2 ts ts2 π σ)(w:bt m es ts){j:Nat}{L:List Nat}(h:ts2[j]?=some L):∃ p l X Y,p<m/\π p=j/\ts[p]?=some l/\l=X++Y/\L=(Y++X).map σ:=by
 have hj:=(LR.mp h).1
 rw[R.l2]at hj
 obtain⟨p,hp,rfl⟩:=R.pi.sur j hj
 have e1:ts[p]?=some (ts[p]'(by rw[w.len];exact hp)):=LS _
 obtain⟨X,Y,h1,h2⟩:=R.ts p _ e1
 rw[h]at h2
 exact⟨p,_,X,Y,hp,rfl,e1,h1,Mq h2⟩
theorem ot(w:bt m es ts){p:Nat}{l:List Nat}(h:ts[p]?=some l){t:Nat}(ht:t∈l):t<es.length:=by
 obtain⟨x,hx,_⟩:=(w.mem p l h t).mp ht
 exact(LR.mp hx).1
theorem Ren.turn(R:Ren m es es2 ts ts2 π σ)(w:bt m es ts):bt m es2 ts2:=by
 refine⟨R.l2,fun x hx=>?_,fun j L h=>?_,fun j L h t=>?_⟩
 ·obtain⟨j,hj⟩:=M4.mp hx
  obtain⟨k,e,_,h1,rfl⟩:=R.es' hj
  obtain⟨a1,a2,a3⟩:=w.ends e (LV h1)
  exact⟨R.pi.lt _ a1,R.pi.lt _ a2,fun z=>a3 (R.pi.inj _ _ a1 a2 z)⟩
 ·obtain⟨p,l,X,Y,hp,rfl,h1,rfl,rfl⟩:=R.ts' w h
  have nd:=w.nd p _ h1
  obtain⟨n1,n2,n3⟩:=Mt.mp nd
  refine Dg (Mt.mpr ⟨n2,n1,fun a ha b hb z=>n3 b hb a ha z.symm⟩) fun x hx y hy=>R.si.inj x y (ot w h1 ?_) (ot w h1 ?_)
  ·simp only[Mc]at hx ⊢;exact hx.symm
  ·simp only[Mc]at hy ⊢;exact hy.symm
 ·obtain⟨p,l,X,Y,hp,rfl,h1,rfl,rfl⟩:=R.ts' w h
  constructor
  ·intro z
   obtain⟨k,hk,rfl⟩:=Mj.mp z
   obtain⟨e,h2,h3⟩:=(w.mem p _ h1 k).mp (by simp only[Mc]at hk ⊢;exact hk.symm)
   exact⟨_,R.es k e h2,h3.imp (congrArg π) (congrArg π)⟩
  ·rintro⟨x,h2,h3⟩
   obtain⟨k,e,rfl,h4,rfl⟩:=R.es' h2
   obtain⟨a1,a2,a3⟩:=w.ends e (LV h4)
   have hk:=(w.mem p _ h1 k).mpr ⟨e,h4,h3.imp (R.pi.inj _ _ a1 hp) (R.pi.inj _ _ a2 hp)⟩
   exact Mj.mpr ⟨k,by simp only[Mc]at hk ⊢;exact hk.symm,rfl⟩
def Phi(σ:Nat->Nat)(d:Nat):Nat:=2*σ (d/2)+d%2
theorem pW(d:Nat):Phi σ d/2=σ (d/2):=by unfold Phi;omega
theorem Ren.hd(R:Ren m es es2 ts ts2 π σ){d:Nat}(hd':d<2*es.length):hd es2 (Phi σ d)=π (hd es d):=by
 have e1:es[d/2]?=some (es[d/2]'(by omega)):=LS _
 have e2:=R.es _ _ e1
 unfold K8.hd
 rw[pW,e1,e2]
 have hm:Phi σ d%2=d%2:=by unfold Phi;omega
 show(if Phi σ d%2=0 then π es[d/2].2 else π es[d/2].1)=π (if d%2=0 then es[d/2].2 else es[d/2].1)
 rw[hm]
 split<;>rfl
theorem Ren.fol(R:Ren m es es2 ts ts2 π σ)(w:bt m es ts){d:Nat}(hd':d<2*es.length):fol es2 ts2 (Phi σ d)=Phi σ (fol es ts d):=by
 obtain⟨_,l,_,_,_,k4,k5,k6⟩:=w.at hd'
 obtain⟨X,Y,rfl,h2⟩:=R.ts _ _ k5
 have nd:=w.nd _ _ k5
 rw[f6 (l:=(Y++X).map σ) (by rw[R.hd hd'];exact h2),f6 k5,pW,R.hd hd']
 have k7:d/2∈Y++X:=by simp only[Mc]at k6 ⊢;exact k6.symm
 rw[Lh k7 fun x hx=>R.si.inj x _ (ot w k5 (by simp only[Mc]at hx ⊢;exact hx.symm)) (ot w k5 k6),Lg nd k6]
 have hn:=LV (iL k6)
 have hlt:=ot w k5 hn
 generalize nxt (X++Y) (d/2)=t at hlt
 have e1:es[t]?=some es[t]:=LS hlt
 have a1:=(w.ends _ (LV e1)).1
 unfold leave
 rw[R.es _ _ e1,e1]
 show(if π es[t].1=π (K8.hd es d) then 2*σ t else 2*σ t+1)=Phi σ (if es[t].1=K8.hd es d then 2*t else 2*t+1)
 by_cases z:es[t].1=K8.hd es d
 ·rw[if_pos z,if_pos (congrArg π z)]
  unfold Phi
  rw[show 2*t/2=t by omega]
  omega
 ·rw[if_neg z,if_neg (fun y=>z (R.pi.inj _ _ a1 k4 y))]
  unfold Phi
  rw[show(2*t+1)/2=t by omega]
  omega
theorem HR(b:Bij σ es.length){x y:Nat}(hx:x<2*es.length)(hy:y<2*es.length)(e:Phi σ x=Phi σ y):x=y:=by
 have e1:σ (x/2)=σ (y/2):=by
  have h1:=pW (σ:=σ) x
  have h2:=pW (σ:=σ) y
  rw[e]at h1
  exact h1.symm.trans h2
 have:=b.inj _ _ (by omega) (by omega) e1
 unfold Phi at e
 omega
theorem Ren.gr(R:Ren m es es2 ts ts2 π σ)(g:Gr m es ts):Gr m es2 ts2:=by
 obtain⟨rs,p,cnt⟩:=g.part
 have flt:∀ d∈rs.flatten,d<2*es.length:=fun d hd=>by
  obtain⟨r,h1,h2⟩:=M5.mp hd
  exact(p.cr r h1).lt d h2
 have hfl:(rs.map (List.map (Phi σ))).flatten=rs.flatten.map (Phi σ):=List.map_flatten.symm
 refine⟨R.turn g.w,⟨rs.map (List.map (Phi σ)),⟨fun q hq=>?_,?_,fun d hd=>?_⟩,by rw[LW,R.l1];exact cnt⟩,fun S hS x y hx hy sx=>?_⟩
 ·obtain⟨r,hr,rfl⟩:=Mj.mp hq
  have c:=p.cr r hr
  obtain⟨x,l,rfl,ch⟩:=c.ch
  refine⟨⟨Phi σ x,l.map (Phi σ),rfl,zB ch fun t ht=>R.fol g.w (c.lt t ht)⟩,fun d hd=>?_,Dg c.nd fun a ha b hb=>HR R.si (c.lt a ha) (c.lt b hb)⟩
  obtain⟨t,ht,rfl⟩:=Mj.mp hd
  have h1:=c.lt t ht
  have h2:=R.si.lt (t/2) (by omega)
  rw[R.l1]
  unfold Phi
  omega
 ·rw[hfl]
  exact Dg p.nd fun a ha b hb=>HR R.si (flt a ha) (flt b hb)
 ·rw[R.l1]at hd
  obtain⟨k,hk,e⟩:=R.si.sur (d/2) (by omega)
  rw[hfl]
  refine Mj.mpr ⟨2*k+d%2,p.all _ (by omega),?_⟩
  unfold Phi
  rw[show(2*k+d%2)/2=k by omega,e]
  omega
 ·obtain⟨x',hx',rfl⟩:=R.pi.sur x hx
  obtain⟨y',hy',rfl⟩:=R.pi.sur y hy
  refine g.conn (fun p=>S (π p)) (fun e he=>?_) x' y' hx' hy' sx
  obtain⟨k,hk⟩:=M4.mp he
  exact hS (π e.1,π e.2) (LV (R.es k e hk))
end
end K8
namespace K8
open PySem L2
local macro_rules | `(tactic| walk_at "cc") => `(tactic| first | exact ⟨by decide, by decide⟩ | (show (0 : Int) < _; decide) | (show (0 : Int) < _; omega) | (show (0 : Int) ≤ _; omega) | exact ⟨by decide, by decide, by decide⟩ | exact ⟨by omega, by omega, by decide⟩ | exact Or.inl ⟨by decide, by decide⟩ | exact Or.inl ⟨by omega, by omega⟩)
local macro_rules | `(tactic| walk_at "rd") => `(tactic| repeat (first | refine ⟨_, rfl, ?_⟩ | refine ⟨_, _, rfl, rfl, ?_⟩ | refine ⟨rfl, ?_⟩ | (refine ⟨?cc, ?_⟩; (case cc => walk_at "cc"))))
def top(i:Nat):Stmt:=PySem.Challenge.pw_spinfloor_k72_whole_any_order.main.body.getD i (.Pass ⟨0,0,0,0⟩)
abbrev tS:Stmt:=top 10
abbrev tQ:Stmt:=top 11
abbrev gg:Stmt:=top 13
abbrev b6:Stmt:=top 15
abbrev eK:Stmt:=top 17
abbrev eT:Stmt:=top 18
abbrev jB:Stmt:=top 19
abbrev cZ:Stmt:=top 20
abbrev aY:Stmt:=top 23
abbrev bY:Stmt:=top 24
abbrev cz:Stmt:=top 25
abbrev br:Stmt:=top 26
abbrev b5:Stmt:=top 27
abbrev cB:Stmt:=top 28
abbrev cG:Stmt:=nB (top 30) 0
abbrev eV:Stmt:=nB (top 30) 1
abbrev bA:Stmt:=nB (top 30) 2
abbrev dj:Stmt:=nB (top 30) 3
abbrev dk:Stmt:=nB (top 32) 0
abbrev tR:Stmt:=top 34
abbrev gj:Stmt:=top 35
abbrev eU:Stmt:=top 36
abbrev cA:Stmt:=top 37
abbrev c6:Stmt:=top 38
abbrev eJ:Stmt:=top 39
abbrev bZ:Stmt:=top 41
abbrev bL:Stmt:=top 42
abbrev bz:Stmt:=top 43
abbrev cF:Stmt:=nB (top 44) 0
abbrev eS:Stmt:=top 46
abbrev eP:Stmt:=top 47
abbrev cE:Stmt:=top 48
abbrev c9:Stmt:=top 49
abbrev df:Stmt:=top 50
abbrev de:Stmt:=top 51
abbrev bq:Stmt:=top 52
abbrev dh:Stmt:=top 53
abbrev gk:Stmt:=top 54
abbrev c7:Stmt:=top 55
abbrev eO:Stmt:=top 56
abbrev cC:Stmt:=top 57
abbrev cD:Stmt:=top 58
abbrev gm:Stmt:=top 59
abbrev di:Stmt:=top 60
abbrev b4:Stmt:=top 61
abbrev eQ:Stmt:=top 62
abbrev uX:Stmt:=top 63
def tf(a b s:Int):List (Str×V):=putF "strength" (.int s) (putF "two" (.int b) (putF "one" (.int a) []))
theorem lO(a b s:Int):(tf a b s).lookup ("one" : Str)=some (.int a):=by
 unfold tf
 rw[aC,if_neg (by decide +kernel),aC,if_neg (by decide +kernel),aC,if_pos rfl]
theorem pY(a b s:Int):(tf a b s).lookup ("two" : Str)=some (.int b):=by
 unfold tf
 rw[aC,if_neg (by decide +kernel),aC,if_pos rfl]
theorem tf_str(a b s:Int):(tf a b s).lookup ("strength" : Str)=some (.int s):=by
 unfold tf
 rw[aC,if_pos rfl]
theorem Ie(a b s:Int){m:Str} (h1:¬ m = "strength") (h2:¬ m = "two") (h3:¬ m = "one"):(tf a b s).lookup m=none:=by
 unfold tf
 rw[aC,if_neg h1,aC,if_neg h2,aC,if_neg h3]
 all_goals rfl
theorem f1_len(a:Int):(putF "one" (.int a) []).length<1000:=by show 1<1000;decide
theorem f2_len(a b:Int):(putF "two" (.int b) (putF "one" (.int a) [])).length<1000:=by
 have e:(putF "two" (.int b) (putF "one" (.int a) []):List (Str×V))=([("one",.int a),("two",.int b)]:List (Str×V)):=by
  show(if("one" : Str) = "two" then[(("one" : Str),V.int b)] else(("one" : Str),V.int a)::putF "two" (V.int b) [])=_
  rw[if_neg (by decide +kernel)]
  all_goals rfl
 rw[e]
 show 2<1000
 decide
structure CT(K:LU)(C:Addr):Prop where
 cl:Cls K C
 n1:fU K C "one"
 n2:fU K C "two"
 n3:fU K C "strength"
def tP(K:LU):Sp:=fun vs H Q _=>∃(p C dx:Addr)(a b s:Int),vs = [.ref p,.int a,.int b,.int s]/\H p=some (.ins C dx [])/\CT K C/\a≠b/\0<=a/\0<=b/\0<=s /\
 ∀ H',H' p=some (.ins C dx (tf a b s))->(∀ q o,H q=some o->q≠p->H' q=some o)->Q .non H'
theorem aj{H:Hp}{p:Addr}(h:H p=none)(o:HO):Same H (upd H p o):=fun b u q=>by rw[aq (aB q h)];exact q
theorem aL{H H2:Hp}{l:Addr}(h:Same H H2)(hl:H l=none)(o:HO):Same H (upd H2 l o):=fun b u q=>by rw[aq (aB q hl)];exact h b u q
def iV(p:Nat):V:=.int (p:Int)
theorem Lu{hs:List Nat}{k x:Nat}(h:hs[k]?=some x):atI (hs.map iV) (k:Int)=some (iV x):=aG (by rw[Mb,h];rfl)
def bV(H:Hp)(ys:List V)(es:En):Prop:=ys.length=es.length/\∀(i:Nat)(e:Nat×Nat),es[i]?=some e->∃ p,ys[i]?=some (.ref p)/\H p=some (.tup [iV e.1,iV e.2])
theorem bV.mono{H H':Hp}{ys:List V}{es:En}(h:bV H ys es)(s:Same H H'):bV H' ys es:=⟨h.1,fun i e q=>by
 obtain⟨p,a,b⟩:=h.2 i e q
 exact⟨p,a,s _ _ b⟩⟩
def dZ(K:LU)(H:Hp)(xs:List V)(es:En):Prop:=xs.length=es.length/\∀(i:Nat)(e:Nat×Nat),es[i]?=some e->∃ p C dx s,xs[i]?=some (.ref p)/\H p=some (.ins C dx (tf (e.1:Int) (e.2:Int) s))/\CT K C
theorem dZ.mono{K:LU}{H H':Hp}{xs:List V}{es:En}(t:dZ K H xs es)(h:Same H H'):dZ K H' xs es:=⟨t.1,fun i e q=>by
 obtain⟨p,C,dx,s,a,b,d⟩:=t.2 i e q
 exact⟨p,C,dx,s,a,h _ _ b,d⟩⟩
def bI(H:Hp)(xs:List V)(ts:List (List Nat)):Prop:=xs.length=ts.length/\∀(i:Nat)(l:List Nat),ts[i]?=some l->∃ p,xs[i]?=some (.ref p)/\H p=some (.lst (l.map iV))
theorem bI.mono{H H':Hp}{xs:List V}{ts:List (List Nat)}(h:bI H xs ts)(s:Same H H'):bI H' xs ts:=⟨h.1,fun i e q=>by
 obtain⟨p,a,b⟩:=h.2 i e q
 exact⟨p,a,s _ _ b⟩⟩
theorem bI.snoc{H:Hp}{xs:List V}{ts:List (List Nat)}{q:Addr}{l:List Nat}(h:bI H xs ts)(e:H q=some (.lst (l.map iV))):bI H (xs++[.ref q]) (ts++[l]):=by
 refine⟨by rw[LX,LX,h.1];rfl,fun j k ej=>?_⟩
 by_cases hj:j<ts.length
 ·rw[L0 hj]at ej
  obtain⟨p,a1,a2⟩:=h.2 j k ej
  exact⟨p,by rw[L0 (by rw[h.1];exact hj)];exact a1,a2⟩
 ·rw[LY (by omega)]at ej
  have hj2:j=ts.length:=by
   have:=(LR.mp ej).1
   rw[Me]at this
   omega
  subst hj2
  rw[Mw]at ej
  cases ej
  exact⟨q,by rw[← h.1,LY (Ma _),Mw];rfl,e⟩
def cX(S:Addr->Prop)(H:Hp)(xs:List V)(ts:List (List Nat)):Prop:=xs.length=ts.length/\∀(i:Nat)(l:List Nat),ts[i]?=some l->∃ p,xs[i]?=some (.ref p)/\¬ S p/\H p=some (.lst (l.map iV))
theorem cX.mono{S:Addr->Prop}{H H':Hp}{xs:List V}{ts:List (List Nat)}(h:cX S H xs ts)(s:∀ b u,¬ S b->H b=some u->H' b=some u):cX S H' xs ts:=⟨h.1,fun i e q=>by
 obtain⟨p,a,n,b⟩:=h.2 i e q
 exact⟨p,a,n,s _ _ n b⟩⟩
theorem cX.off{S:Addr->Prop}{H:Hp}{xs:List V}{ts:List (List Nat)}(h:cX S H xs ts):bI H xs ts:=⟨h.1,fun i e q=>by
 obtain⟨p,a,n,b⟩:=h.2 i e q
 exact⟨p,a,b⟩⟩
theorem cX.snoc{S:Addr->Prop}{H:Hp}{xs:List V}{ts:List (List Nat)}{q:Addr}{l:List Nat}(h:cX S H xs ts)(n:¬ S q)(e:H q=some (.lst (l.map iV))):cX S H (xs++[.ref q]) (ts++[l]):=by
 refine⟨by rw[LX,LX,h.1];rfl,fun j k ej=>?_⟩
 by_cases hj:j<ts.length
 ·rw[L0 hj]at ej
  obtain⟨p,a1,a2⟩:=h.2 j k ej
  exact⟨p,by rw[L0 (by rw[h.1];exact hj)];exact a1,a2⟩
 ·rw[LY (by omega)]at ej
  have hj2:j=ts.length:=by
   have:=(LR.mp ej).1
   rw[Me]at this
   omega
  subst hj2
  rw[Mw]at ej
  cases ej
  exact⟨q,by rw[← h.1,LY (Ma _),Mw];rfl,n,e⟩
theorem we{f:Nat->Nat}{N i:Nat}{rs:List (List Nat)}(w:fx f N i rs):rs.flatten.length<=N:=eY w.nd fun x hx=>by
 obtain⟨r,h1,h2⟩:=M5.mp hx
 exact(w.ring r h1).lt x h2
theorem Ip{f:Nat->Nat}{N i:Nat}{rs:List (List Nat)}(w:fx f N i rs):rs.length<=N:=by
 have h:∀(l:List (List Nat)),(∀ r∈l,0<r.length)->l.length<=l.flatten.length:=fun l=>by
  induction l with
  |nil=>intro _;exact Ma _
  |cons a l ih =>
   intro h
   rw[MV,LX,MJ]
   have h1:=h a (MB ..)
   have h2:=ih fun r hr=>h r (Ml _ hr)
   omega
 exact MZ (h rs fun r hr=>(w.ring r hr).ne) (we w)
structure TT(K:LU)(H:Hp)(a b:Addr)(m:Nat)(es:En)(ts:List (List Nat)):Prop where
 xs:∃ xs,SqL K H a xs/\dZ K H xs es
 ys:∃ ys,SqL K H b ys/\bI H ys ts
 w:bt m es ts
 few:es.length<=62
theorem TT.mono{K:LU}{H H':Hp}{a b:Addr}{m:Nat}{es:En}{ts:List (List Nat)}(t:TT K H a b m es ts)(s:Same H H'):TT K H' a b m es ts:=by
 obtain⟨⟨xs,h1,h2⟩,⟨ys,h3,h4⟩,w,f⟩:=t
 exact⟨⟨xs,s.seq h1,h2.mono s⟩,⟨ys,s.seq h3,h4.mono s⟩,w,f⟩
theorem jy{m:Nat}{es:En}{ts:List (List Nat)}(w:bt m es ts)(f:es.length<=62){p:Nat}{l:List Nat}(h:ts[p]?=some l):(∀ t∈l,t<62)/\l.length<=62:=by
 have a:∀ t∈l,t<es.length:=fun t ht=>by
  obtain⟨e,he,_⟩:=(w.mem p l h t).mp ht
  exact(LR.mp he).1
 exact⟨fun t ht=>by have:=a t ht;omega,MZ (eY (w.nd p l h) a) f⟩
theorem perm{m:Nat}{es:En}{ts:List (List Nat)}(w:bt m es ts):HS (fol es ts) (2*es.length):=⟨fun d h=>by
 obtain⟨_,_,_,_,_,_,_,_,z,_⟩:=w.foll h
 exact z,fun a b ha hb h=>w.inj ha hb h⟩
def Fi(K:LU):Sp:=fun vs H Q _=>∃(a:Addr)(xs:List V)(es:En)(d:Nat),vs = [.ref a,.int (d:Int)]/\SqL K H a xs/\dZ K H xs es/\d<2*es.length/\Q (iV (hd es d)) H
def Fg(K:LU):Sp:=fun vs H Q _=>∃(a:Addr)(xs:List V)(es:En)(t p:Nat)(e:Nat×Nat),vs = [.ref a,.int (t:Int),.int (p:Int)]/\SqL K H a xs/\dZ K H xs es/\es[t]?=some e/\Q (iV (if e.1=p then 2*t else 2*t+1)) H
def Ko(K:LU):Sp:=fun vs H Q _=>∃(a b:Addr)(m:Nat)(es:En)(ts:List (List Nat))(d:Nat),vs = [.ref a,.ref b,.int (d:Int)]/\TT K H a b m es ts/\d<2*es.length/\Q (iV (fol es ts d)) H
def Fl(K:LU):Sp:=fun vs H Q _=>∃(a b:Addr)(m:Nat)(es:En)(ts:List (List Nat))(d:Nat),vs = [.ref a,.ref b,.int (d:Int)]/\TT K H a b m es ts/\d<2*es.length /\
 ∀ q r H',Same H H'->H q=none->H' q=some (.lst (r.map iV))->Path (fol es ts) (2*es.length) d r->Ring (fol es ts) (2*es.length) r->Q (.ref q) H'
def uC(K:LU):Sp:=fun vs H Q _=>∃(a b:Addr)(m:Nat)(es:En)(ts:List (List Nat)),vs = [.ref a,.ref b]/\TT K H a b m es ts /\
 ∀ q ys rs H',Same H H'->H' q=some (.lst ys)->bI H' ys rs->fx (fol es ts) (2*es.length) (2*es.length) rs->Q (.ref q) H'
def oj(H:Hp)(ys:List V)(n:Nat)(rs:List (List Nat)):Prop:=ys.length=n/\∀ i,i<n->∃ p a b r r',ys[i]?=some (.ref p)/\H p=some (.tup [iV a,iV b])/\rs[a]?=some r/\2*i∈r/\rs[b]?=some r'/\2*i+1∈r'
def Ai(K:LU):Sp:=fun vs H Q _=>∃(a b:Addr)(xs ys:List V)(es:En)(f:Nat->Nat)(rs:List (List Nat)),vs = [.ref a,.ref b]/\SqL K H a xs/\dZ K H xs es/\es.length<=62/\SqL K H b ys/\bI H ys rs/\fx f (2*es.length) (2*es.length) rs /\
 ∀ q zs H',Same H H'->H' q=some (.lst zs)->oj H' zs es.length rs->Q (.ref q) H'
def pC(ns:List Int)(k:Nat):Int:=ns.getD k 0
def C4(K:LU):Sp:=fun vs H Q _=>∃(a:Addr)(k:Nat)(ns:List Int),vs = [.ref a,.int (k:Int)]/\SqL K H a (ns.map V.int)/\Q (.int (pC ns k)) H
def uI(K:LU):Sp:=fun vs H Q _=>∃(a b:Addr)(ys xs:List V)(m:Nat)(es:En)(ts:List (List Nat))(d:Nat),vs = [.ref a,.ref b,.int (d:Int)]/\SqL K H a ys/\bV H ys es/\SqL K H b xs/\bI H xs ts/\bt m es ts/\es.length<=62/\d<2*es.length/\Q (iV (fol es ts d)) H
def Kl:Sp:=fun vs H Q _=>∃ i:Int,vs = [.int i]/\Q (.bl true) H
def Ij(K:LU):Sp:=fun vs H Q _=>∃(a:Addr)(ns:List Int),vs = [.ref a]/\SqL K H a (ns.map V.int)/\ns.length<=63/\∀ H',Q (.bl true) H'
structure Txt(mg:Str->Option Value):Prop where
 n_max:mg "max" = none
 n_all:mg "all" = none
 n_zip:mg "zip" = none
 n_any:mg "any" = none
 n_len:mg "len" = none
 n_int:mg "int" = none
 n_bool:mg "bool" = none
 n_list:mg "list" = none
 n_tuple:mg "tuple" = none
 n_range:mg "range" = none
 n_enumerate:mg "enumerate" = none
 n_isinstance:mg "isinstance" = none
 n_min:mg "min" = none
 n_sum:mg "sum" = none
 n_sorted:mg "sorted" = none
section
variable{P:Program}{w:World}{K:LU}{mg:Str->Option Value}{base:Heap}
theorem Fq:aE ["ties","dart","tie"] ["ties","dart"] (ai tR):=⟨rfl,rfl,rfl,by decide +kernel,rfl,by decide +kernel,by decide +kernel⟩
theorem K0{f:Addr}{fd:FuncData} (F:Fun K "head" "head" tR f fd):FnOk P w K mg base CX0 1 f fd ["ties","dart"] (Fi K):=by
 refine F.ok Fq (fun vs H Q E h=>?_) (fun cdv A outer s H vs Q E hr h=>?_)
 ·obtain⟨a,xs,es,d,rfl,_⟩:=h
  rfl
 obtain⟨a,xs,es,d,rfl,hS,hT,hdl,k⟩:=h
 have hl:d/2<es.length:=by omega
 have e1:es[d/2]?=some es[d/2]:=LS hl
 obtain⟨p,C,dx,s',x1,x2,x3⟩:=hT.2 _ _ e1
 have hh:hd es d=if d%2=0 then es[d/2].2 else es[d/2].1:=by unfold hd;rw[e1]
 have ed:(d:Int)/2=((d/2:Nat):Int):=by omega
 refine⟨_,(af (au (i:=2) Fq.nd rfl (Or.inl rfl) (aD aK (pv 0) (ay cQ (pv 1) ah) (fun _ _=>rfl)))
   (ao (aO (vh (aM jW (ay bD (pv 1) ah) ah (aR _)) (cP (pv 2) rfl) (cP (pv 2) rfl))))),?_⟩
 refine⟨_,rfl,_,rfl,_,_,rfl,rfl,⟨by decide,by decide⟩,a,xs,_,_,rfl,rfl,hS,(by rw[ed];exact aG x1),?_⟩
 refine⟨_,rfl,_,_,rfl,rfl,(by show(0:Int)<2;decide),rfl,_,rfl,?_⟩
 refine ite2 (fun q=>?_) (fun q=>?_)
 ·have q':(d:Int)%2=0:=V.int.inj (of_decide_eq_true q)
  refine⟨_,rfl,p,C,dx,_,_,rfl,x2,x3.cl,x3.n2,pY _ _ _,?_⟩
  rw[hh,if_pos (by omega)]at k
  exact k
 ·have q':¬ (d:Int)%2=0:=fun z=>q (decide_eq_true (congrArg V.int z))
  refine⟨_,rfl,p,C,dx,_,_,rfl,x2,x3.cl,x3.n1,lO _ _ _,?_⟩
  rw[hh,if_neg (by omega)]at k
  exact k
theorem DJ:aE ["ties","number","place"] ["ties","number","place"] (ai gj):=⟨rfl,rfl,rfl,by decide +kernel,rfl,by decide +kernel,by decide +kernel⟩
theorem DS{f:Addr}{fd:FuncData} (F:Fun K "leaving" "leaving" gj f fd):FnOk P w K mg base CX0 1 f fd ["ties","number","place"] (Fg K):=by
 refine F.ok DJ (fun vs H Q E h=>?_) (fun cdv A outer s H vs Q E hr h=>?_)
 ·obtain⟨a,xs,es,t,p,e,rfl,_⟩:=h
  rfl
 obtain⟨a,xs,es,t,pl,e,rfl,hS,hT,he,k⟩:=h
 obtain⟨p,C,dx,s',x1,x2,x3⟩:=hT.2 _ _ he
 have m2:CMul 2 (t:Int):=.inl ⟨by decide,by decide⟩
 refine⟨_,(ao (aO (vh (aM jW (cP (aD aK (pv 0) (pv 1) (fun _ _=>rfl)) rfl) (pv 2) (aR _)) (ay gq ah (pv 1)) (ay b7 (ay gq ah (pv 1)) ah)))),?_⟩
 refine⟨_,rfl,_,rfl,a,xs,_,_,rfl,rfl,hS,aG x1,p,C,dx,_,_,rfl,x2,x3.cl,x3.n1,lO _ _ _,_,rfl,rfl,_,rfl,?_⟩
 refine ite2 (fun q=>?_) (fun q=>?_)
 ·have q':(e.1:Int)=(pl:Int):=V.int.inj (of_decide_eq_true q)
  refine⟨_,rfl,_,_,rfl,rfl,m2,?_⟩
  rw[if_pos (by omega)]at k
  exact k
 ·have q':¬ (e.1:Int)=(pl:Int):=fun z=>q (decide_eq_true (congrArg V.int z))
  refine⟨_,rfl,_,_,rfl,rfl,m2,_,_,rfl,rfl,?_⟩
  rw[if_neg (by omega)]at k
  exact k
theorem gC:aE ["ties","turns","dart","place","about","behind"] ["ties","turns","dart"] (ai eU):=⟨rfl,rfl,rfl,by decide +kernel,rfl,by decide +kernel,by decide +kernel⟩
theorem A4{f fh fl:Addr}{fd fdh fdl:FuncData} (F:Fun K "follower" "follower" eU f fd) (T:Txt mg) (G_head:Cal P w K mg base 1 "head" ["ties","dart"] (Fi K) fh fdh) (G_leaving:Cal P w K mg base 1 "leaving" ["ties","number","place"] (Fg K) fl fdl):FnOk P w K mg base CX0 2 f fd ["ties","turns","dart"] (Ko K):=by
 refine F.ok gC (fun vs H Q E h=>?_) (fun cdv A outer s H vs Q E hr h=>?_)
 ·obtain⟨a,b,m,es,ts,d,rfl,_⟩:=h
  rfl
 obtain⟨a,b,m,es,ts,d,rfl,tt,hdl,k⟩:=h
 obtain⟨⟨xs,h1,h2⟩,⟨ys,h3,h4⟩,w',few⟩:=tt
 obtain⟨l,e,p1,p2,p3,p4,p5,p6,p7,p8,p9⟩:=w'.foll hdl
 obtain⟨small,len⟩:=jy w' few p1
 obtain⟨q,y1,y2⟩:=h4.2 _ _ p1
 have ed:(d:Int)/2=((d/2:Nat):Int):=by omega
 refine⟨_,(af (au (i:=3) gC.nd rfl (Or.inl rfl) (aF G_head.ok (hr.mono (by decide)) rfl G_head.mg G_head.kp G_head.bn .nil aW (aa (pv 0) (aa (pv 2) ag))))
   (af (au (i:=4) gC.nd rfl (Or.inl rfl) (aD aK (pv 1) (pv 3) (fun _ _=>rfl)))
   (af (au (i:=5) gC.nd rfl (Or.inl rfl) (ay bD (ay b7 (dI Mn NW NV pR (pv 4) (aa (ay cQ (pv 2) ah) ag)) ah) (az aw (by rfl) T.n_len bF (aa (pv 4) ag))))
   (ao (aO (aF G_leaving.ok (hr.mono (by decide)) rfl G_leaving.mg G_leaving.kp G_leaving.bn .nil aW (aa (pv 0) (aa (aD aK (pv 4) (pv 5) (fun _ _=>rfl)) (aa (pv 3) ag))))))))),?_⟩
 refine⟨_,rfl,_,rfl,a,xs,es,d,rfl,h1,h2,hdl,?_⟩
 refine⟨_,rfl,_,rfl,b,ys,_,_,rfl,rfl,h3,aG y1,?_⟩
 have hlen:(l.map iV).length=l.length:=LW _
 have hl0:0<l.length:=Ny p2
 have hmod:(((l.idxOf (d/2):Nat):Int)+1)%((l.map iV).length:Int)=(((l.idxOf (d/2)+1)%l.length:Nat):Int):=by rw[hlen];rfl
 refine⟨_,rfl,.inl ⟨rfl,_,SqL.of y2⟩,_,rfl,_,_,rfl,rfl,⟨by decide,by decide⟩,q,l,d/2,rfl,congrArg (fun z=>[V.int z]) ed,SqL.of y2,fun p hp=>by have:=small p hp;omega,by omega,p2,_,_,rfl,rfl,_,rfl,q,_,rfl,.inl (SqL.of y2),_,_,rfl,rfl,(by show(0:Int)<((l.map iV).length:Int);rw[hlen];omega),?_⟩
 refine⟨_,rfl,_,rfl,_,rfl,q,_,_,_,rfl,rfl,SqL.of y2,(by rw[hmod];exact Lu (iL p2)),_,rfl,a,xs,es,nxt l (d/2),hd es d,e,rfl,h1,h2,p3,?_⟩
 rw[p6]at k
 exact k
theorem d0:aE ["ties","turns","first","row","dart"] ["ties","turns","first"] (ai cA):=⟨rfl,rfl,rfl,by decide +kernel,rfl,by decide +kernel,by decide +kernel⟩
theorem K3{f ff:Addr}{fd fdf:FuncData} (F:Fun K "round_from" "round_from" cA f fd) (G_follower:Cal P w K mg base 2 "follower" ["ties","turns","dart"] (Ko K) ff fdf):FnOk P w K mg base CX0 3 f fd ["ties","turns","first"] (Fl K):=by
 refine F.ok d0 (fun vs H Q E h=>?_) (fun cdv A outer s H vs Q E hr h=>?_)
 ·obtain⟨a,b,m,es,ts,d,rfl,_⟩:=h
  rfl
 obtain⟨a,b,m,es,ts,d,rfl,tt,hdl,k⟩:=h
 have pm:=perm tt.w
 refine⟨_,(af (au (i:=3) d0.nd rfl (Or.inl rfl) (cH (aa (pv 2) ag)))
   (af (au (i:=4) d0.nd rfl (Or.inl rfl) (aF G_follower.ok (hr.mono (by decide)) rfl G_follower.mg G_follower.kp G_follower.bn .nil aW (aa (pv 0) (aa (pv 1) (aa (pv 2) ag)))))
   (af (pN PassesOwn.never (aM vk (pv 4) (pv 2) (aR _)) (af (aX (dI Mn Mz My aU (pv 3) (aa (pv 4) ag)))
   (ao (au (i:=4) d0.nd rfl (Or.inl rfl) (aF G_follower.ok (hr.mono (by decide)) rfl G_follower.mg G_follower.kp G_follower.bn .nil aW (aa (pv 0) (aa (pv 1) (aa (pv 4) ag))))))))
   (ao (aO (pv 3)))))),?_⟩
 refine⟨_,rfl,(by show 1<=sizeLine;decide),fun q hq=>?_⟩
 have s1:=aj hq (.lst [.int (d:Int)])
 refine⟨_,rfl,_,rfl,_,rfl,a,b,m,es,ts,d,rfl,tt.mono s1,hdl,?_⟩
 refine pH (fun σ H2=>∃(r:List Nat)(x:Nat),σ = [some (.ref a),some (.ref b),some (.int (d:Int)),some (.ref q),some (iV (fol es ts x))]/\Same H H2/\H2 q=some (.lst ((r++[x]).map iV))/\Path (fol es ts) (2*es.length) d (r++[x]))
  (fun σ H2=>match H2 q with | some (.lst xs)=>200-xs.length | _=>0) ⟨[],d,rfl,s1,ae,Dc hdl⟩ ?_ ?_
 ·rintro σ H2 ⟨r,x,rfl,s2,hq2,pa⟩
  refine⟨_,rfl,_,rfl,rfl,_,rfl,?_⟩
  have few:=tt.few
  have hlen:=eY pa.nd pa.lt
  refine ite2 (fun c=>?_) (fun c=>?_)
  ·have c':fol es ts x≠d:=fun z=>by
    rw[decide_eq_true (show iV (fol es ts x)=V.int (d:Int) by rw[z];rfl)]at c
    cases c
   have pa2:=pa.snoc pm c'
   have hlen2:=eY pa2.nd pa2.lt
   have lt2:fol es ts x<2*es.length:=pa2.lt _ (by simp)
   refine⟨_,rfl,.inl ⟨rfl,_,SqL.of hq2⟩,_,rfl,q,_,_,rfl,rfl,hq2,ar (by rw[LW];omega),?_⟩
   have s3:=aL s2 hq (.lst ((r++[x]).map iV++[iV (fol es ts x)]))
   refine⟨_,rfl,_,rfl,_,rfl,a,b,m,es,ts,fol es ts x,rfl,tt.mono s3,lt2,?_⟩
   refine⟨⟨r++[x],fol es ts x,rfl,s3,?_,pa2⟩,?_⟩
   ·rw[ae,show((r++[x]++[fol es ts x]).map iV)=(r++[x]).map iV++[iV (fol es ts x)] from by rw[MD];rfl]
   ·show(match(upd H2 q (.lst ((r++[x]).map iV++[iV (fol es ts x)]))) q with | some (.lst xs)=>200-xs.length | _=>0)<(match H2 q with | some (.lst xs)=>200-xs.length | _=>0)
    rw[ae,hq2]
    show 200-((r++[x]).map iV++[iV (fol es ts x)]).length<200-((r++[x]).map iV).length
    rw[LX,LW,Me]
    omega
  ·have c':fol es ts x=d:=by
    by_cases z:fol es ts x=d
    ·exact z
    ·exact absurd (by rw[decide_eq_false (fun y=>z (by have:=V.int.inj y;omega))];rfl) c
   refine⟨_,rfl,?_⟩
   exact k q _ H2 s2 hq hq2 pa (pa.ring pm c')
 ·rintro σ H2 Q1 Q2 hi ⟨v',e,b',e2,z1,c',e3,q'⟩
  exact⟨v',e,b',e2,z1,c',e3,hi _ _ q'⟩
theorem cv:aE ["ties","turns","rounds","seen","dart","row","gone"] ["ties","turns"] (ai c6):=⟨rfl,rfl,rfl,by decide +kernel,rfl,by decide +kernel,by decide +kernel⟩
theorem FT{f ff:Addr}{fd fdf:FuncData} (F:Fun K "rounds_of" "rounds_of" c6 f fd) (T:Txt mg) (G_round_from:Cal P w K mg base 3 "round_from" ["ties","turns","first"] (Fl K) ff fdf):FnOk P w K mg base CX0 4 f fd ["ties","turns"] (uC K):=by
 refine F.ok cv (fun vs H Q E h=>?_) (fun cdv A outer s H vs Q E hr h=>?_)
 ·obtain⟨a,b,m,es,ts,rfl,_⟩:=h
  rfl
 obtain⟨a,b,m,es,ts,rfl,tt,k⟩:=h
 have hu:=GG hr
 have pm:=perm tt.w
 have few:=tt.few
 obtain⟨xs,h1,h2⟩:=tt.xs
 refine⟨_,(af (au (i:=2) cv.nd rfl (Or.inl rfl) (cH ag))
   (af (au (i:=3) cv.nd rfl (Or.inl rfl) pP)
   (af (bC PassesOwn.never rfl (bP rfl T.n_range (aa (ay gq ah (az aw (by rfl) T.n_len bF (aa (pv 0) ag))) ag)) (aJ (i:=4) cv.nd rfl (Or.inl rfl)) (ao (dm (pt_cmp (FL hu (pv 4) (pv 3))) (af (au (i:=5) cv.nd rfl (Or.inl rfl) (aF G_round_from.ok (hr.mono (by decide)) rfl G_round_from.mg G_round_from.kp G_round_from.bn .nil aW (aa (pv 0) (aa (pv 1) (aa (pv 4) ag)))))
   (af (aX (dI Mn Mz My aU (pv 2) (aa (pv 5) ag)))
   (ao (bC PassesOwn.never rfl (aV (pv 5)) (aJ (i:=6) cv.nd rfl (Or.inl rfl)) (ao (AI hu (pv 3) (pv 6) IC rfl)))))) bc)))
   (ao (aO (pv 2)))))),?_⟩
 refine⟨(by show 0<=sizeLine;decide),fun qr hqr=>fun qs hqs=>?_⟩
 have s1:=(aj hqr (.lst [])).trans (aj hqs (.dK []))
 have hqs0:H qs=none:=by
  cases z:H qs with
  |none=>rfl
  |some o=>rw[aj hqr (.lst []) qs o z]at hqs;cases hqs
 have hne:qr≠qs:=fun z=>by rw[← z,ae]at hqs;cases hqs
 have hxl:xs.length=es.length:=h2.1
 have hN:(2*(xs.length:Int)).toNat=2*es.length:=by omega
 refine⟨_,rfl,a,xs,rfl,.inl (s1.seq h1),_,_,rfl,rfl,.inl ⟨by decide,by decide⟩,_,rfl,by omega,by omega,cf (n:=(2*(xs.length:Int)).toNat) (fun i σ H2=>∃ v4 v5 v6 ys rs kvs,σ = [some (.ref a),some (.ref b),some (.ref qr),some (.ref qs),v4,v5,v6]/\Same H H2/\H2 qr=some (.lst ys)/\cX (fun p=>p=qr∨p=qs) H2 ys rs/\H2 qs=some (.dK kvs)/\kvs.length<=rs.flatten.length/\(∀ d:Nat,(valV kvs (Sum.inl (d:Int))).isSome=true↔d∈rs.flatten)/\fx (fol es ts) (2*es.length) i rs)
  ⟨_,_,_,[],[],[],rfl,s1,by rw[aq hne,ae],⟨rfl,fun i l e=>by simp at e⟩,ae,Ma _,fun d=>by simp[valV],DL _ _⟩ ?_ ?_⟩
 ·rintro i σ H2 hi ⟨v4,v5,v6,ys,rs,kvs,rfl,s2,e1,rx,e2,kl,km,ro⟩
  rw[hN]at hi
  have e0:(0:Int)+(i:Int)=(i:Int):=Nf _
  rw[e0]
  have fl:=we ro
  have rl:=Ip ro
  refine⟨_,rfl,_,rfl,_,_,rfl,DGet.k (k:=Sum.inl (i:Int)) e2,_,rfl,?_⟩
  refine ite2 (fun c=>?_) (fun c=>?_)
  ·have hni:i∉rs.flatten:=fun z=>by
    rw[(km i).mpr z]at c
    cases c
   refine⟨_,rfl,_,rfl,_,rfl,a,b,m,es,ts,i,rfl,tt.mono s2,hi,fun q r H3 s3 hq hq3 pa ri=>?_⟩
   have s23:=s2.trans s3
   have nq:¬ (q=qr∨q=qs):=by
    rintro(z | z)
    ·rw[z,e1]at hq;cases hq
    ·rw[z,e2]at hq;cases hq
   refine⟨_,rfl,.inl ⟨rfl,_,SqL.of (s3 _ _ e1)⟩,_,rfl,qr,_,_,rfl,rfl,s3 _ _ e1,ar (by rw[rx.1];omega),?_⟩
   have s4:=aL s23 hqr (.lst (ys++[.ref q]))
   have hrq:∀{H5:Hp},cX (fun p=>p=qr∨p=qs) H5 (ys++[.ref q]) (rs++[r])->H5 q=some (.lst (r.map iV)):=fun h=>by
    obtain⟨p,z1,_,z2⟩:=h.2 rs.length r (by rw[LY (Ma _),Mw];rfl)
    rw[← rx.1,LY (Ma _),Mw]at z1
    cases z1
    exact z2
   have rx4:cX (fun p=>p=qr∨p=qs) (upd H3 qr (.lst (ys++[.ref q]))) (ys++[.ref q]) (rs++[r]):=by
    refine(rx.mono fun p o n z=>?_).snoc nq ?_
    ·rw[aq (fun z=>n (.inl z))];exact s3 _ _ z
    ·rw[aq (fun z=>nq (.inl z))];exact hq3
   have rl:r.length<=2*es.length:=eY ri.nd ri.lt
   refine⟨_,rfl,q,rfl,⟨_,SqL.of (hrq rx4)⟩,cn (xs:=r.map iV) (fun j σ H5=>∃ v6 kvs',σ = [some (.ref a),some (.ref b),some (.ref qr),some (.ref qs),some (.int (i:Int)),some (.ref q),v6]/\Same H H5/\H5 qr=some (.lst (ys++[.ref q]))/\cX (fun p=>p=qr∨p=qs) H5 (ys++[.ref q]) (rs++[r])/\H5 qs=some (.dK kvs')/\kvs'.length<=rs.flatten.length+j/\∀ d:Nat,(valV kvs' (Sum.inl (d:Int))).isSome=true↔d∈rs.flatten∨d∈r.take j)
    ⟨_,kvs,rfl,s4,ae,rx4,by rw[aq hne.symm];exact s3 _ _ e2,kl,fun d=>by rw[km d];simp⟩ (fun j σ H5 _ p=>?_) ?_ ?_⟩
   ·obtain⟨_,_,_,_,_,z,_⟩:=p
    exact SqL.of (hrq z)
   ·rintro j x σ H5 hx ⟨v6,kvs',rfl,s5,f1,rx5,f2,kl5,km5⟩
    rw[Mb]at hx
    obtain⟨g,hg,rfl⟩:=Ms.mp hx
    have hjl:j<r.length:=(LR.mp hg).1
    refine⟨_,rfl,_,rfl,qs,_,rfl,DPut.k (k:=Sum.inl (g:Int)) f2 (ar (by omega)),?_⟩
    refine⟨_,_,rfl,aL s5 hqs0 _,by rw[aq hne];exact f1,rx5.mono fun p o n z=>by rw[aq (fun z=>n (.inr z))];exact z,ae,by have:=dy kvs' (Sum.inl (g:Int)) (V.bl true);omega,fun d=>?_⟩
    rw[uz]
    have tk:r.take (j+1)=r.take j++[g]:=by rw[Mx,hg];rfl
    rw[tk]
    by_cases z:d=g
    ·subst z
     simp
    ·rw[if_neg (fun y=>z (by have:=Sum.inl.inj y;omega)),km5 d]
     simp[z]
   ·rintro σ H5 ⟨v6,kvs',rfl,s5,f1,rx5,f2,kl5,km5⟩
    rw[LW]at kl5 km5
    refine⟨_,_,_,_,rs++[r],kvs',rfl,s5,f1,rx5,f2,by rw[Nd,LX];simpa using kl5,fun d=>?_,ro.put pm hni hi ri pa⟩
    rw[km5 d,MI,Nd,Mc]
    simp
  ·have hii:i∈rs.flatten:=(km i).mp (by
    cases z:(valV kvs (Sum.inl (i:Int))).isSome with
    |true=>rfl
    |false=>exact absurd (by rw[z];rfl) c)
   exact⟨_,_,_,ys,rs,kvs,rfl,s2,e1,rx,e2,kl,km,ro.skip hii⟩
 ·rintro σ H2 ⟨v4,v5,v6,ys,rs,kvs,rfl,s2,e1,rx,e2,kl,km,ro⟩
  rw[hN]at ro
  exact⟨_,rfl,k qr ys rs H2 s2 e1 rx.off ro⟩
theorem eW:aE ["ties","rounds","number_at","number","row","dart"] ["ties","rounds"] (ai eJ):=⟨rfl,rfl,rfl,by decide +kernel,rfl,by decide +kernel,by decide +kernel⟩
theorem II{f:Addr}{fd:FuncData} (F:Fun K "sides_of" "sides_of" eJ f fd) (T:Txt mg):FnOk P w K mg base CX0 1 f fd ["ties","rounds"] (Ai K):=by
 refine F.ok eW (fun vs H Q E h=>?_) (fun cdv A outer s H vs Q E hr h=>?_)
 ·obtain⟨a,b,xs,ys,es,g,rs,rfl,_⟩:=h
  rfl
 obtain⟨a,b,xs,ys,es,g,rs,rfl,hS,hT,few,hB,hR,ro,k⟩:=h
 have hu:=GG hr
 have fl:=we ro
 refine⟨_,(af (au (i:=2) eW.nd rfl (Or.inr rfl) pP)
   (af (bC PassesOwn.never rfl (FG rfl T.n_enumerate (aa (pv 1) ag)) (qg rfl (bG (aJ (i:=3) eW.nd rfl (Or.inl rfl)) (bG (aJ (i:=4) eW.nd rfl (Or.inl rfl)) kr))) (ao (bC PassesOwn.never rfl (aV (pv 4)) (aJ (i:=5) eW.nd rfl (Or.inl rfl)) (ao (AI hu (pv 2) (pv 5) (pv 3) rfl)))))
   (ao (aO (dH rfl (fr:=[("number_at",2)]) (by exact bK.one (by rfl) (by decide +kernel) (by rfl) (by decide +kernel) (by rfl) (by decide +kernel) (by rfl) (by rfl) (by decide +kernel) (by rfl)) (bP rfl T.n_range (aa (az aw (by rfl) T.n_len bF (aa (pv 0) ag)) ag)) (fun C ex s H=>(b9 (aa (qi hu (pv 1) (ay gq ah (pv 0)) (fun _ _=>rfl)) (aa (qi hu (pv 1) (ay b7 (ay gq ah (pv 0)) ah) (fun _ _=>rfl)) ag))))))))),?_⟩
 intro q hq
 have s1:=aj hq (.dK [])
 have kF:∀ i,(rs.take i).flatten.length<=rs.flatten.length:=fun i=>by
  have:=congrArg (fun z=>z.flatten.length) (N5 i rs)
  simp only[Nd,LX]at this
  omega
 refine⟨_,rfl,b,rfl,⟨_,s1.seq hB⟩,Dn (K:=K) (xs:=ys) (fun i σ H2=>∃ v3 v4 v5 kvs,σ = [some (.ref a),some (.ref b),some (.ref q),v3,v4,v5]/\Same H H2/\H2 q=some (.dK kvs)/\kvs.length<=(rs.take i).flatten.length/\∀(d c:Nat)(r:List Nat),c<i->rs[c]?=some r->d∈r->valV kvs (Sum.inl (d:Int))=some (iV c))
  ⟨_,_,_,[],rfl,s1,ae,Na _,fun d c r z=>absurd z (Od _)⟩ (fun i σ H2 _ ⟨_,_,_,_,_,s2,_⟩=>s2.seq hB) ?_ ?_⟩
 ·rintro i x σ H2 T2 hx ⟨v3,v4,v5,kvs,rfl,s2,e1,kl,km⟩ hT2
  have hil:i<rs.length:=by
   have:=(LR.mp hx).1
   rw[hR.1]at this
   exact this
  have hr':rs[i]?=some rs[i]:=LS hil
  obtain⟨p,x1,x2⟩:=hR.2 i _ hr'
  rw[hx]at x1
  cases x1
  generalize rs[i]=r at hr' x2
  have s3:Same H (upd H2 T2 (.tup [.int (i:Int),.ref p])):=s2.trans (aj hT2 _)
  have f1:(rs.take (i+1)).flatten=(rs.take i).flatten++r:=by rw[Mx,hr'];simp
  have f2:=kF (i+1)
  rw[f1,LX]at f2
  refine⟨T2,_,rfl,SqT.of ae,rfl,_,_,rfl,_,_,rfl,rfl,?_⟩
  refine⟨_,rfl,p,rfl,⟨_,SqL.of (s3 _ _ x2)⟩,cn (xs:=r.map iV) (fun j σ H5=>∃ v5 kvs',σ = [some (.ref a),some (.ref b),some (.ref q),some (.int (i:Int)),some (.ref p),v5]/\Same H H5/\H5 q=some (.dK kvs')/\kvs'.length<=(rs.take i).flatten.length+j/\(∀(d c:Nat)(r:List Nat),c<i->rs[c]?=some r->d∈r->valV kvs' (Sum.inl (d:Int))=some (iV c))/\∀ d∈r.take j,valV kvs' (Sum.inl (d:Int))=some (iV i))
   ⟨_,kvs,rfl,s3,aj hT2 _ _ _ e1,kl,km,fun d hd=>by simp at hd⟩ (fun j σ H5 _ ⟨_,_,_,z,_⟩=>SqL.of (z _ _ x2)) ?_ ?_⟩
  ·rintro j x σ H5 hx2 ⟨v5,kvs',rfl,s5,g1,kl5,km5,kn5⟩
   rw[Mb]at hx2
   obtain⟨g,hg,rfl⟩:=Ms.mp hx2
   have hjl:j<r.length:=(LR.mp hg).1
   refine⟨_,rfl,_,rfl,_,rfl,q,_,rfl,DPut.k (k:=Sum.inl (g:Int)) g1 (ar (by omega)),?_⟩
   refine⟨_,_,rfl,aL s5 hq _,ae,by have:=dy kvs' (Sum.inl (g:Int)) (V.int (i:Int));omega,fun d c r' hc hrc hd=>?_,fun d hd=>?_⟩
   ·rw[uz,if_neg (fun z=>?_)]
    ·exact km5 d c r' hc hrc hd
    ·have z':d=g:=by have:=Sum.inl.inj z;omega
     subst z'
     have:=Lx ro.nd hrc hr' hd (LV hg)
     omega
   ·rw[uz]
    by_cases z:d=g
    ·subst z
     rw[if_pos rfl]
     rfl
    ·rw[if_neg (fun y=>z (by have:=Sum.inl.inj y;omega))]
     refine kn5 d ?_
     rw[Mx,hg]at hd
     simpa[z] using hd
  ·rintro σ H5 ⟨v5,kvs',rfl,s5,g1,kl5,km5,kn5⟩
   rw[LW]at kl5 kn5
   rw[MI]at kn5
   refine⟨_,_,_,kvs',rfl,s5,g1,by rw[f1,LX];exact kl5,fun d c r' hc hrc hd=>?_⟩
   by_cases z:c=i
   ·subst z
    rw[hr']at hrc
    cases hrc
    exact kn5 d hd
   ·exact km5 d c r' (by omega) hrc hd
 ·rintro σ H2 ⟨v3,v4,v5,kvs,rfl,s2,e1,kl,km⟩
  rw[hR.1]at km
  have get:∀ d,d<2*es.length->∃ c r,rs[c]?=some r/\d∈r/\valV kvs (Sum.inl (d:Int))=some (iV c):=fun d hd=>by
   obtain⟨r,z1,z2⟩:=M5.mp (ro.all d hd)
   obtain⟨c,z3⟩:=M4.mp z1
   exact⟨c,r,z3,z2,km d c r (LR.mp z3).1 z3 z2⟩
  have hxl:xs.length=es.length:=hT.1
  refine⟨_,rfl,a,xs,rfl,.inl (s2.seq hS),_,rfl,by omega,by omega,ua (fun i zs H3=>Same H2 H3/\oj H3 zs i rs) (by rw[Mv,hxl];exact MX (ar (by omega))) ⟨fun _ _ e=>e,rfl,fun i hi=>absurd hi (Od _)⟩ ?_ ?_⟩
  ·rintro i zs H3 hi ⟨s3,sd⟩
   have e0:(0:Int)+(i:Int)=(i:Int):=Nf _
   rw[e0]
   rw[Mv,hxl]at hi
   obtain⟨c1,r1,z1,z2,z3⟩:=get (2*i) (by omega)
   obtain⟨c2,r2,y1,y2,y3⟩:=get (2*i+1) (by omega)
   have m2:CMul 2 (i:Int):=.inl ⟨by decide,by decide⟩
   have d1:DGet H3 q (V.int (2*(i:Int))) (some (iV c1)):=by
    rw[← z3,show((2*i:Nat):Int)=2*(i:Int) by omega]
    exact DGet.k (k:=Sum.inl (2*(i:Int))) (s3 _ _ e1)
   have d2:DGet H3 q (V.int (2*(i:Int)+1)) (some (iV c2)):=by
    rw[← y3,show((2*i+1:Nat):Int)=2*(i:Int)+1 by omega]
    exact DGet.k (k:=Sum.inl (2*(i:Int)+1)) (s3 _ _ e1)
   refine⟨_,rfl,_,rfl,_,_,rfl,rfl,m2,q,_,rfl,d1,_,rfl,_,rfl,_,_,rfl,rfl,m2,_,_,rfl,rfl,q,_,rfl,d2,(by show 2<=sizeLine;decide),fun t ht=>?_⟩
   have s4:=aj ht (.tup [iV c1,iV c2])
   refine⟨s3.trans s4,by rw[LX,sd.1];rfl,fun j hj=>?_⟩
   by_cases z:j=i
   ·subst z
    exact⟨t,c1,c2,r1,r2,by rw[← sd.1,LY (Ma _),Mw];rfl,ae,z1,z2,y1,y2⟩
   ·obtain⟨p,a',b',r,r',w1,w2,w3⟩:=sd.2 j (by omega)
    exact⟨p,a',b',r,r',by rw[L0 (by rw[sd.1];omega)];exact w1,s4 _ _ w2,w3⟩
  ·rintro zs H3 hzl ⟨s3,sd⟩ D hD
   rw[Mv,hxl]at sd
   exact k D zs _ ((s2.trans s3).trans (aj hD _)) ae ⟨sd.1,fun i hi=>by
    obtain⟨p,a',b',r,r',w1,w2,w3⟩:=sd.2 i hi
    exact⟨p,a',b',r,r',w1,aj hD _ _ _ w2,w3⟩⟩
theorem uW:aE ["self","one","two","strength"] ["self","one","two","strength"] (ai cG):=⟨rfl,rfl,rfl,by decide +kernel,rfl,by decide +kernel,by decide +kernel⟩
theorem KZ{f:Addr}{fd:FuncData} (F:Fun K "__init__" "Tie.__init__" cG f fd):FnOk P w K mg base CX0 1 f fd ["self","one","two","strength"] (tP K):=by
 refine F.ok uW (fun vs H Q E h=>?_) (fun cdv A outer s H vs Q E hr h=>?_)
 ·obtain⟨p,C,dx,a,b,s,rfl,_⟩:=h
  rfl
 obtain⟨p,C,dx,a,b,st,rfl,hp,T,hne,ha,hb,hs,k⟩:=h
 refine⟨_,(af (dm (aM jW (pv 1) (pv 2) (aR _)) (ao gD) bc)
   (af (dm (PW.pt (Iq (aM FN (pv 1) ah (aR _)) (C7 (aM FN (pv 2) ah (aR _))))) (ao gD) bc)
   (af (dm (aM FN (pv 3) ah (aR _)) (ao gD) bc)
   (af (oo (pv 0) (pv 1) rfl)
   (af (oo (pv 0) (pv 2) rfl)
   (ao (oo (pv 0) (pv 3) rfl))))))),?_⟩
 walk_at "rd"
 refine ite2 (fun c=>absurd (V.int.inj (of_decide_eq_true c)) hne) (fun _=>?_)
 walk_at "rd"
 refine ite2 (fun c=>absurd (of_decide_eq_true c) (by omega)) (fun _=>?_)
 walk_at "rd"
 refine ite2 (fun c=>absurd (of_decide_eq_true c) (by omega)) (fun _=>?_)
 walk_at "rd"
 refine ite2 (fun c=>absurd (of_decide_eq_true c) (by omega)) (fun _=>?_)
 refine⟨_,rfl,_,rfl,p,C,dx,[],rfl,hp,T.cl,T.n1,(by show 0<1000;decide),?_⟩
 refine⟨_,rfl,_,rfl,p,C,dx,_,rfl,ae,T.cl,T.n2,f1_len a,?_⟩
 refine⟨_,rfl,_,rfl,p,C,dx,_,rfl,ae,T.cl,T.n3,f2_len a b,?_⟩
 exact k _ ae fun q o e hq=>by rw[aq hq,aq hq,aq hq];exact e
theorem AB:aE ["script","k"] ["script","k"] (ai eS):=⟨rfl,rfl,rfl,by decide +kernel,rfl,by decide +kernel,by decide +kernel⟩
theorem K4{f:Addr}{fd:FuncData} (F:Fun K "_law_cell" "_law_cell" eS f fd) (T:Txt mg):FnOk P w K mg base CX0 1 f fd ["script","k"] (C4 K):=by
 refine F.ok AB (fun vs H Q E h=>?_) (fun cdv A outer s H vs Q E hr h=>?_)
 ·obtain⟨a,k,ns,rfl,_⟩:=h
  rfl
 obtain⟨a,k,ns,rfl,hS,q⟩:=h
 refine⟨_,(af (dm (aM FN (pv 1) (az aw (by rfl) T.n_len bF (aa (pv 0) ag)) (aR _)) (ao (aO (aD aK (pv 0) (pv 1) (fun _ _=>rfl)))) bc)
   (ao (aO ah))),?_⟩
 refine⟨_,rfl,_,rfl,a,_,rfl,.inl hS,_,_,rfl,rfl,_,rfl,?_⟩
 refine ite2 (fun c=>?_) (fun c=>?_)
 ·have c':(k:Int)<((ns.map V.int).length:Int):=of_decide_eq_true c
  rw[LW]at c'
  have hk:k<ns.length:=by omega
  have hat:atI (ns.map V.int) (k:Int)=some (.int (pC ns k)):=aG (by rw[Mb,LS hk];unfold pC;rw[MN,LS hk];rfl)
  exact⟨_,rfl,_,rfl,a,_,_,_,rfl,rfl,hS,hat,q⟩
 ·have c':¬ (k:Int)<((ns.map V.int).length:Int):=fun z=>c (decide_eq_true z)
  rw[LW]at c'
  have e:pC ns k=0:=by unfold pC;rw[MN,NC (by omega)];rfl
  rw[e]at q
  exact q
theorem at0{u v:V}:atI [u,v] 0=some u:=rfl
theorem at1{u v:V}:atI [u,v] 1=some v:=rfl
theorem Br{H:Hp}{a:Addr}{ps:List Nat}(h:SqL K H a (ps.map iV)):RdD K H (.ref a) (.list ((ps.map fun(p:Nat)=>((p:Nat):Int)).map PyData.int)):=by
 refine RdD.lst h (by simp) fun i x d e1 e2=>?_
 rw[Mb]at e1
 rw[Mb,Mb]at e2
 cases z:ps[i]? with
 |none=>rw[z]at e1;cases e1
 |some n =>
  rw[z]at e1 e2
  cases e1
  cases e2
  exact .int _
theorem Gy(l:List Int):(PyData.list (l.map PyData.int)).canLay0=true/\(PyData.list (l.map PyData.int)).depth<=10:=by
 have h1:∀ d∈l.map PyData.int,d.canLay0=true/\d.depth<=1:=fun d hd=>by
  obtain⟨x,_,rfl⟩:=Mj.mp hd
  exact⟨by simp[PyData.canLay0],by simp[PyData.depth]⟩
 have h2:=i9 fun d hd=>(h1 d hd).1
 have h3:=kZ fun d hd=>(h1 d hd).2
 exact⟨by simp only[PyData.canLay0];exact h2,by simp only[PyData.depth];omega⟩
theorem kX(l:List Int):SeqAt.shaped (.list (l.map PyData.int))=true:=qb fun d hd=>by
 obtain⟨x,_,rfl⟩:=Mj.mp hd
 exact⟨by simp[PyData.canLay0],by simp[PyData.depth]⟩
theorem bV.put{H:Hp}{ys:List V}{es:En}{q:Addr}{zs:List V}{o:HO}(t:bV H ys es)(h:H q=some (.lst zs)):bV (upd H q o) ys es:=⟨t.1,fun i e z=>by
 obtain⟨p,a,b⟩:=t.2 i e z
 refine⟨p,a,?_⟩
 rw[aq (fun z=>by rw[z,h]at b;cases b)]
 exact b⟩
theorem bV.snoc{H:Hp}{xs:List V}{es:En}{e:Nat×Nat}{p:Addr}(t:bV H xs es)(h:H p=some (.tup [iV e.1,iV e.2])):bV H (xs++[.ref p]) (es++[e]):=by
 refine⟨by rw[LX,LX,t.1];rfl,fun j k ej=>?_⟩
 by_cases hj:j<es.length
 ·rw[L0 hj]at ej
  obtain⟨p,a1,a2⟩:=t.2 j k ej
  exact⟨p,by rw[L0 (by rw[t.1];exact hj)];exact a1,a2⟩
 ·rw[LY (by omega)]at ej
  have hj2:j=es.length:=by
   have:=(LR.mp ej).1
   rw[Me]at this
   omega
  subst hj2
  rw[Mw]at ej
  cases ej
  exact⟨p,by rw[← t.1,LY (Ma _),Mw];rfl,h⟩
theorem Ls{l:List Nat}{k n:Nat}:(ins l k n).length=l.length+1:=by
 unfold ins
 rw[LX,MJ,MT,Np]
 omega
theorem JC(X:Int)(n:Nat):0<=X%((n:Int)+1)/\X%((n:Int)+1)<=(n:Int):=⟨Nw _ (by omega),by have:=ND X (show(0:Int)<(n:Int)+1 by omega);omega⟩
def Dist(xs:List V):Prop:=∀(i j:Nat)(p:Addr),xs[i]?=some (.ref p)->xs[j]?=some (.ref p)->i=j
theorem cX.set{S:Addr->Prop}{H:Hp}{xs:List V}{ts:List (List Nat)}{i:Nat}{p:Addr}{l':List Nat}(h:cX S H xs ts)(D:Dist xs)(e:xs[i]?=some (.ref p)):cX S (upd H p (.lst (l'.map iV))) xs (ts.set i l'):=by
 refine⟨by rw[MR];exact h.1,fun j l z=>?_⟩
 have hi:i<ts.length:=by rw[← h.1];exact(LR.mp e).1
 rw[MO]at z
 by_cases hj:i=j
 ·subst hj
  rw[if_pos rfl,if_pos hi]at z
  cases z
  obtain⟨p',a1,a2,a3⟩:=h.2 i _ (LS hi)
  rw[e]at a1
  cases a1
  exact⟨p,e,a2,ae⟩
 ·rw[if_neg hj]at z
  obtain⟨p',a1,a2,a3⟩:=h.2 j l z
  exact⟨p',a1,a2,by rw[aq (fun y=>by rw[y]at a1;exact hj (D i j p e a1))];exact a3⟩
theorem insV{l:List Nat}{k n:Nat}:(l.map iV).take k++V.int (n:Int)::(l.map iV).drop k=(ins l k n).map iV:=by
 unfold ins
 rw[MD,MQ,OR,OS]
 rfl
theorem Fu{H:Hp}{a:Addr}{xs:List V}{ts:List (List Nat)}(h:SqL K H a xs)(hR:bI H xs ts):RdD K H (.ref a) (.list (ts.map fun l=>PyData.list ((l.map fun(p:Nat)=>((p:Nat):Int)).map PyData.int))):=by
 refine RdD.lst h (by rw[LW];exact hR.1) fun i x d e1 e2=>?_
 rw[Mb]at e2
 obtain⟨l,hl,rfl⟩:=Ms.mp e2
 obtain⟨p,a1,a2⟩:=hR.2 i l hl
 rw[e1]at a1
 cases a1
 exact Br (SqL.of a2)
theorem AG(ts:List (List Nat)):SeqAt.shaped (.list (ts.map fun l=>PyData.list ((l.map fun(p:Nat)=>((p:Nat):Int)).map PyData.int)))=true:=qb fun d hd=>by
 obtain⟨l,_,rfl⟩:=Mj.mp hd
 exact Gy _
end
end K8
namespace K8
open PySem L2
local macro_rules | `(tactic| walk_at "cc") => `(tactic| first | exact ⟨by decide, by decide⟩ | (show (0 : Int) < _; decide) | (show (0 : Int) < _; omega) | (show (0 : Int) ≤ _; omega) | exact ⟨by decide, by decide, by decide⟩ | exact ⟨by omega, by omega, by decide⟩ | exact Or.inl ⟨by decide, by decide⟩ | exact Or.inl ⟨by omega, by omega⟩)
local macro_rules | `(tactic| walk_at "rd") => `(tactic| repeat (first | refine ⟨_, rfl, ?_⟩ | refine ⟨_, _, rfl, rfl, ?_⟩ | refine ⟨rfl, ?_⟩ | (refine ⟨?cc, ?_⟩; (case cc => walk_at "cc"))))
def uG(K:LU):Sp:=fun vs H Q _=>∃(a:Addr)(ys:List V)(es:En)(d:Nat),vs = [.ref a,.int (d:Int)]/\SqL K H a ys/\bV H ys es/\d<2*es.length/\Q (iV (hd es d)) H
def uF(K:LU):Sp:=fun vs H Q _=>∃(a b:Addr)(ys xs:List V)(m:Nat)(es:En)(ts:List (List Nat))(d:Nat),vs = [.ref a,.ref b,.int (d:Int)]/\SqL K H a ys/\bV H ys es/\SqL K H b xs/\bI H xs ts/\bt m es ts/\es.length<=62/\d<2*es.length /\
 ∀ q r H',Same H H'->H q=none->H' q=some (.lst (r.map iV))->Path (fol es ts) (2*es.length) d r->Ring (fol es ts) (2*es.length) r->Q (.ref q) H'
section
variable{P:Program}{w:World}{K:LU}{mg:Str->Option Value}{base:Heap}
theorem Az:aE ["ends","dart"] ["ends","dart"] (ai eP):=⟨rfl,rfl,rfl,by decide +kernel,rfl,by decide +kernel,by decide +kernel⟩
theorem IM{f:Addr}{fd:FuncData} (F:Fun K "_law_head" "_law_head" eP f fd):FnOk P w K mg base CX0 1 f fd ["ends","dart"] (uG K):=by
 refine F.ok Az (fun vs H Q E h=>?_) (fun cdv A outer s H vs Q E hr h=>?_)
 ·obtain⟨a,ys,es,d,rfl,_⟩:=h
  rfl
 obtain⟨a,ys,es,d,rfl,hS,hE,hdl,k⟩:=h
 have hl:d/2<es.length:=by omega
 have e1:es[d/2]?=some es[d/2]:=LS hl
 obtain⟨p,x1,x2⟩:=hE.2 _ _ e1
 have hh:hd es d=if d%2=0 then es[d/2].2 else es[d/2].1:=by unfold hd;rw[e1]
 have ed:(d:Int)/2=((d/2:Nat):Int):=by omega
 have hat:atI [iV es[d/2].1,iV es[d/2].2] (1-(d:Int)%2)=some (iV (hd es d)):=by
  by_cases z:d%2=0
  ·rw[hh,if_pos z,show(1-(d:Int)%2)=1 by omega];rfl
  ·rw[hh,if_neg z,show(1-(d:Int)%2)=0 by omega];rfl
 refine⟨_,(ao (aO (aD aI (aD aK (pv 0) (ay cQ (pv 1) ah) (fun _ _=>rfl)) (ay ye ah (ay bD (pv 1) ah)) (fun _ _=>rfl)))),?_⟩
 exact⟨_,rfl,_,rfl,_,_,rfl,rfl,⟨by decide,by decide⟩,a,ys,_,_,rfl,rfl,hS,(by rw[ed];exact aG x1),_,rfl,_,_,rfl,rfl,(by show(0:Int)<2;decide),_,_,rfl,rfl,p,_,_,_,rfl,rfl,SqT.of x2,hat,k⟩
theorem d6:aE ["ends","turns","dart","place","row","tie"] ["ends","turns","dart"] (ai cE):=⟨rfl,rfl,rfl,by decide +kernel,rfl,by decide +kernel,by decide +kernel⟩
theorem DT{f fh:Addr}{fd fdh:FuncData} (F:Fun K "_law_behind" "_law_behind" cE f fd) (T:Txt mg) (G_law_head:Cal P w K mg base 1 "_law_head" ["ends","dart"] (uG K) fh fdh):FnOk P w K mg base CX0 2 f fd ["ends","turns","dart"] (uI K):=by
 refine F.ok d6 (fun vs H Q E h=>?_) (fun cdv A outer s H vs Q E hr h=>?_)
 ·obtain⟨a,b,ys,xs,m,es,ts,d,rfl,_⟩:=h
  rfl
 obtain⟨a,b,ys,xs,m,es,ts,d,rfl,hS,hE,hB,hR,w',few,hdl,kk⟩:=h
 obtain⟨l,e,p1,p2,p3,p4,p5,p6,p7,p8,p9⟩:=w'.foll hdl
 obtain⟨small,len⟩:=jy w' few p1
 obtain⟨q,y1,y2⟩:=hR.2 _ _ p1
 obtain⟨p',x1',x2'⟩:=hE.2 _ _ p3
 have ed:(d:Int)/2=((d/2:Nat):Int):=by omega
 have hl0:0<l.length:=Ny p2
 have hlen:(l.map iV).length=l.length:=LW _
 have hmod:(((l.idxOf (d/2):Nat):Int)+1)%((l.map iV).length:Int)=(((l.idxOf (d/2)+1)%l.length:Nat):Int):=by rw[hlen];rfl
 have m2:CMul 2 ((nxt l (d/2):Nat):Int):=.inl ⟨by decide,by decide⟩
 refine⟨_,(af (au (i:=3) d6.nd rfl (Or.inl rfl) (aF G_law_head.ok (hr.mono (by decide)) rfl G_law_head.mg G_law_head.kp G_law_head.bn .nil aW (aa (pv 0) (aa (pv 2) ag))))
   (af (au (i:=4) d6.nd rfl (Or.inl rfl) (aD aK (pv 1) (pv 3) (fun _ _=>rfl)))
   (af (au (i:=5) d6.nd rfl (Or.inl rfl) (aD aK (pv 4) (ay bD (ay b7 (dI Mn NW NV pR (pv 4) (aa (ay cQ (pv 2) ah) ag)) ah) (az aw (by rfl) T.n_len bF (aa (pv 4) ag))) (fun _ _=>rfl)))
   (ao (aO (ay b7 (ay gq ah (pv 5)) (cb zD (by rfl) T.n_int Ht (aa (iJ vk (aD aI (aD aK (pv 0) (pv 5) (fun _ _=>rfl)) ah (fun _ _=>rfl)) (pv 3) (aR _)) ag)))))))),?_⟩
 refine⟨_,rfl,_,rfl,a,ys,es,d,rfl,hS,hE,hdl,?_⟩
 refine⟨_,rfl,_,rfl,b,xs,_,_,rfl,rfl,hB,aG y1,?_⟩
 refine⟨_,rfl,_,rfl,.inl ⟨rfl,_,SqL.of y2⟩,_,rfl,_,_,rfl,rfl,⟨by decide,by decide⟩,q,l,d/2,rfl,congrArg (fun z=>[V.int z]) ed,SqL.of y2,fun p hp=>by have:=small p hp;omega,by omega,p2,_,_,rfl,rfl,_,rfl,q,_,rfl,.inl (SqL.of y2),_,_,rfl,rfl,(by show(0:Int)<((l.map iV).length:Int);rw[hlen];omega),q,_,_,_,rfl,rfl,SqL.of y2,(by rw[hmod];exact Lu (iL p2)),?_⟩
 refine⟨_,rfl,_,_,rfl,rfl,m2,_,rfl,_,rfl,a,ys,_,_,rfl,rfl,hS,aG x1',p',_,0,_,rfl,rfl,SqT.of x2',at0,_,rfl,rfl,.inr ⟨_,rfl,_,_,rfl,rfl,?_⟩⟩
 rw[p6]at kk
 by_cases c:e.1=hd es d
 ·rw[if_pos c]at kk
  rw[decide_eq_true (congrArg iV c)]
  simpa[iV] using kk
 ·rw[if_neg c]at kk
  rw[decide_eq_false (fun z=>c (by have:=V.int.inj z;omega))]
  simpa[iV] using kk
theorem fA:aE ["ends","turns","dart","row","at"] ["ends","turns","dart"] (ai c9):=⟨rfl,rfl,rfl,by decide +kernel,rfl,by decide +kernel,by decide +kernel⟩
theorem FU{f ff:Addr}{fd fdf:FuncData} (F:Fun K "_law_round" "_law_round" c9 f fd) (G_law_behind:Cal P w K mg base 2 "_law_behind" ["ends","turns","dart"] (uI K) ff fdf):FnOk P w K mg base CX0 3 f fd ["ends","turns","dart"] (uF K):=by
 refine F.ok fA (fun vs H Q E h=>?_) (fun cdv A outer s H vs Q E hr h=>?_)
 ·obtain⟨a,b,ys,xs,m,es,ts,d,rfl,_⟩:=h
  rfl
 obtain⟨a,b,ys,xs,m,es,ts,d,rfl,hS,hE,hB,hR,w',few,hdl,k⟩:=h
 have pm:=perm w'
 refine⟨_,(af (au (i:=3) fA.nd rfl (Or.inl rfl) (cH (aa (pv 2) ag)))
   (af (au (i:=4) fA.nd rfl (Or.inl rfl) (aF G_law_behind.ok (hr.mono (by decide)) rfl G_law_behind.mg G_law_behind.kp G_law_behind.bn .nil aW (aa (pv 0) (aa (pv 1) (aa (pv 2) ag)))))
   (af (pN PassesOwn.never (aM vk (pv 4) (pv 2) (aR _)) (af (aX (dI Mn Mz My aU (pv 3) (aa (pv 4) ag)))
   (ao (au (i:=4) fA.nd rfl (Or.inl rfl) (aF G_law_behind.ok (hr.mono (by decide)) rfl G_law_behind.mg G_law_behind.kp G_law_behind.bn .nil aW (aa (pv 0) (aa (pv 1) (aa (pv 4) ag))))))))
   (ao (aO (pv 3)))))),?_⟩
 refine⟨_,rfl,(by show 1<=sizeLine;decide),fun q hq=>?_⟩
 have s1:=aj hq (.lst [.int (d:Int)])
 refine⟨_,rfl,_,rfl,_,rfl,a,b,ys,xs,m,es,ts,d,rfl,s1.seq hS,hE.mono s1,s1.seq hB,hR.mono s1,w',few,hdl,?_⟩
 refine pH (fun σ H2=>∃(r:List Nat)(x:Nat),σ = [some (.ref a),some (.ref b),some (.int (d:Int)),some (.ref q),some (iV (fol es ts x))]/\Same H H2/\H2 q=some (.lst ((r++[x]).map iV))/\Path (fol es ts) (2*es.length) d (r++[x]))
  (fun σ H2=>match H2 q with | some (.lst xs)=>200-xs.length | _=>0) ⟨[],d,rfl,s1,ae,Dc hdl⟩ ?_ ?_
 ·rintro σ H2 ⟨r,x,rfl,s2,hq2,pa⟩
  refine⟨_,rfl,_,rfl,rfl,_,rfl,?_⟩
  have hlen:=eY pa.nd pa.lt
  refine ite2 (fun c=>?_) (fun c=>?_)
  ·have c':fol es ts x≠d:=fun z=>by
    rw[decide_eq_true (show iV (fol es ts x)=V.int (d:Int) by rw[z];rfl)]at c
    cases c
   have pa2:=pa.snoc pm c'
   have hlen2:=eY pa2.nd pa2.lt
   have lt2:fol es ts x<2*es.length:=pa2.lt _ (by simp)
   refine⟨_,rfl,.inl ⟨rfl,_,SqL.of hq2⟩,_,rfl,q,_,_,rfl,rfl,hq2,ar (by rw[LW];omega),?_⟩
   have s3:=aL s2 hq (.lst ((r++[x]).map iV++[iV (fol es ts x)]))
   refine⟨_,rfl,_,rfl,_,rfl,a,b,ys,xs,m,es,ts,fol es ts x,rfl,s3.seq hS,hE.mono s3,s3.seq hB,hR.mono s3,w',few,lt2,?_⟩
   refine⟨⟨r++[x],fol es ts x,rfl,s3,?_,pa2⟩,?_⟩
   ·rw[ae,show((r++[x]++[fol es ts x]).map iV)=(r++[x]).map iV++[iV (fol es ts x)] from by rw[MD];rfl]
   ·show(match(upd H2 q (.lst ((r++[x]).map iV++[iV (fol es ts x)]))) q with | some (.lst xs)=>200-xs.length | _=>0)<(match H2 q with | some (.lst xs)=>200-xs.length | _=>0)
    rw[ae,hq2]
    show 200-((r++[x]).map iV++[iV (fol es ts x)]).length<200-((r++[x]).map iV).length
    rw[LX,LW,Me]
    omega
  ·have c':fol es ts x=d:=by
    by_cases z:fol es ts x=d
    ·exact z
    ·exact absurd (by rw[decide_eq_false (fun y=>z (by have:=V.int.inj y;omega))];rfl) c
   refine⟨_,rfl,?_⟩
   exact k q _ H2 s2 hq hq2 pa (pa.ring pm c')
 ·rintro σ H2 Q1 Q2 hi ⟨v',e,b',e2,z1,c',e3,q'⟩
  exact⟨v',e,b',e2,z1,c',e3,hi _ _ q'⟩
end
end K8
namespace K8
open PySem L2
local macro_rules | `(tactic| walk_at "cc") => `(tactic| first | exact ⟨by decide, by decide⟩ | (show (0 : Int) < _; decide) | (show (0 : Int) < _; omega) | (show (0 : Int) ≤ _; omega) | exact ⟨by decide, by decide, by decide⟩ | exact ⟨by omega, by omega, by decide⟩ | exact Or.inl ⟨by decide, by decide⟩ | exact Or.inl ⟨by omega, by omega⟩)
local macro_rules | `(tactic| walk_at "rd") => `(tactic| repeat (first | refine ⟨_, rfl, ?_⟩ | refine ⟨_, _, rfl, rfl, ?_⟩ | refine ⟨rfl, ?_⟩ | (refine ⟨?cc, ?_⟩; (case cc => walk_at "cc"))))
def uE:Sp:=fun vs H Q _=>∃(c:Int)(m:Nat),vs = [.int c,.int (m:Int)]/\m<=100/\∀(q:Addr)(o:List Nat)(H':Hp),Same H H'->H q=none->H' q=some (.lst (o.map iV))->o.length=m->o.Nodup->(∀ x∈o,x<m)->Q (.ref q) H'
def Am(K:LU):Sp:=fun vs H Q _=>∃(a:Addr)(cs:List Int),vs = [.ref a]/\SqL K H a (cs.map V.int)/\cs.length<=16 /\
 ∀(t pe pt:Addr)(ys xs:List V)(m:Nat)(es:En)(ts:List (List Nat))(H':Hp),Same H H'->H' t=some (.tup [.ref pe,.ref pt])->H' pe=some (.lst ys)->bV H' ys es->H' pt=some (.lst xs)->bI H' xs ts->Gr m es ts->es.length=cs.length+1->Q (.ref t) H'
def LQ(H:Hp)(a pe pt:Addr)(i:Nat)(σ:St)(H5:Hp):Prop:=∃ v3 v4 v5 v6 v7 v8 v9 v10 ys xs m es ts,σ = [some (.ref a),some (.ref pe),some (.ref pt),v3,v4,v5,v6,v7,v8,v9,v10]/\Same H H5/\H5 pe=some (.lst ys)/\bV H5 ys es/\H5 pt=some (.lst xs)/\cX (fun p=>p=pe∨p=pt∨H p≠none) H5 xs ts/\Dist xs/\Gr m es ts/\es.length=i+1
theorem pU{H H7:Hp}{a pe pt:Addr}{i m':Nat}{ys xs:List V}{es:En}{e:Nat×Nat}{ts':List (List Nat)}(npe:pe≠pt)(hpe:H pe=none)(s7:Same H H7)(h1:H7 pe=some (.lst ys))(h2:bV H7 ys es)(h3:H7 pt=some (.lst xs))(h4:cX (fun p=>p=pe∨p=pt∨H p≠none) H7 xs ts')(h5:Dist xs)(h6:Gr m' (es++[e]) ts')(hi:es.length=i+1)
  {t:Addr} (ht:H7 t=none) {x y:V} (hx:x=iV e.1) (hy:y=iV e.2) (v3 v4 v5 v6 v7 v8 v9 v10:Option V):LQ H a pe pt (i+1) [some (.ref a),some (.ref pe),some (.ref pt),v3,v4,v5,v6,v7,v8,v9,v10] (upd (upd H7 t (.tup [x,y])) pe (.lst (ys++[.ref t]))):=by
 subst hx hy
 have sn:=aj ht (.tup [iV e.1,iV e.2])
 refine⟨_,_,_,_,_,_,_,_,_,xs,m',es++[e],ts',rfl,aL (s7.trans sn) hpe _,ae,((h2.mono sn).snoc ae).put (sn _ _ h1),by rw[aq npe.symm];exact sn _ _ h3,h4.mono fun p o n z=>?_,h5,h6,by rw[LX,hi];rfl⟩
 rw[aq (fun z=>n (.inl z))]
 exact sn _ _ z
theorem y9{S:Addr->Prop}{H:Hp}{xs:List V}{ts:List (List Nat)}{q:Addr}(h:cX S H xs ts)(D:Dist xs)(hq:H q=none):Dist (xs++[.ref q]):=by
 have old:∀(j:Nat)(p:Addr),j<xs.length->(xs++[V.ref q])[j]?=some (.ref p)->xs[j]?=some (.ref p)/\p≠q:=fun j p hj e=>by
  rw[L0 hj]at e
  obtain⟨p',a1,_,a3⟩:=h.2 j _ (LS (by rw[← h.1];exact hj))
  rw[e]at a1
  cases a1
  exact⟨e,aB a3 hq⟩
 have new:∀(j:Nat)(p:Addr),¬ j<xs.length->(xs++[V.ref q])[j]?=some (.ref p)->j=xs.length/\p=q:=fun j p hj e=>by
  have:=(LR.mp e).1
  rw[LX,Me]at this
  have hj2:j=xs.length:=by omega
  subst hj2
  rw[LY (Ma _),Mw]at e
  cases e
  exact⟨rfl,rfl⟩
 intro j k p e1 e2
 by_cases hj:j<xs.length
 ·obtain⟨u1,u2⟩:=old j p hj e1
  by_cases hk:k<xs.length
  ·exact D j k p u1 (old k p hk e2).1
  ·exact absurd (new k p hk e2).2 u2
 ·obtain⟨u1,u2⟩:=new j p hj e1
  by_cases hk:k<xs.length
  ·exact absurd u2 (old k p hk e2).2
  ·rw[u1,(new k p hk e2).1]
theorem t5{m:Nat}{es:En}{ts:List (List Nat)}(g:Gr m es ts):m<=es.length+2:=by
 obtain⟨rs,_,c⟩:=g.part
 omega
section
variable{P:Program}{w:World}{K:LU}{mg:Str->Option Value}{base:Heap}
theorem dG:aE ["cell","many","order","mixed","k"] ["cell","many"] (ai de):=⟨rfl,rfl,rfl,by decide +kernel,rfl,by decide +kernel,by decide +kernel⟩
theorem IL{f:Addr}{fd:FuncData} (F:Fun K "_law_order" "_law_order" de f fd) (T:Txt mg):FnOk P w K mg base CX0 1 f fd ["cell","many"] uE:=by
 refine F.ok dG (fun vs H Q E h=>?_) (fun cdv A outer s H vs Q E hr h=>?_)
 ·obtain⟨c,m,rfl,_⟩:=h
  rfl
 obtain⟨c,m,rfl,hm,k⟩:=h
 refine⟨_,(af (au (i:=2) dG.nd rfl (Or.inl rfl) (cH ag))
   (af (au (i:=3) dG.nd rfl (Or.inl rfl) (ay bD (pv 0) ah))
   (af (bC PassesOwn.never rfl (bP rfl T.n_range (aa (pv 1) ag)) (aJ (i:=4) dG.nd rfl (Or.inl rfl)) (af (au (i:=3) dG.nd rfl (Or.inl rfl) (ay bD (ay gq (pv 3) ah) ah))
   (ao (aX (dI Mn Ot Oq qv (pv 2) (aa (ay bD (pv 3) (ay b7 (pv 4) ah)) (aa (pv 4) ag)))))))
   (ao (aO (pv 2)))))),?_⟩
 refine⟨(by show 0<=sizeLine;decide),fun q hq=>?_⟩
 refine⟨_,rfl,_,_,rfl,rfl,(by show(0:Int)<1000000007;decide),?_⟩
 refine⟨_,rfl,_,rfl,by omega,by omega,cf (n:=(m:Int).toNat) (fun i σ H2=>∃(M:Int),∃ v4 o,σ = [some (.int c),some (.int (m:Int)),some (.ref q),some (.int M),v4]/\Same H H2/\H2 q=some (.lst (o.map iV))/\o.length=i/\o.Nodup/\∀ x∈o,x<i) ⟨_,_,[],rfl,aj hq _,ae,rfl,N4,fun x hx=>nomatch hx⟩ ?_ ?_⟩
 ·rintro i σ H2 hi ⟨M,v4,o,rfl,s2,hq2,ol,nd,lt⟩
  rw[Mv]at hi
  have e0:(0:Int)+(i:Int)=(i:Int):=Nf _
  rw[e0]
  have hlen:(o.map iV).length=i:=by rw[LW];exact ol
  refine⟨_,rfl,_,_,rfl,rfl,.inr ⟨by decide,by decide⟩,_,_,rfl,rfl,(by show(0:Int)<2147483647;decide),?_⟩
  refine⟨_,rfl,.inl ⟨rfl,_,SqL.of hq2⟩,_,rfl,_,rfl,_,_,rfl,rfl,_,_,rfl,rfl,(by show(0:Int)<(i:Int)+1;omega),_,rfl,q,_,_,_,rfl,rfl,hq2,(JC _ _).1,(by rw[hlen];exact(JC _ _).2),ar (by omega),?_⟩
  rw[insV]
  refine⟨_,_,_,rfl,aL s2 hq _,ae,by rw[Ls,ol],GA nd fun z=>by have:=lt i z;omega,fun x hx=>?_⟩
  rcases BS.mp hx with z | z
  ·omega
  ·have:=lt x z;omega
 ·rintro σ H2 ⟨M,v4,o,rfl,s2,hq2,ol,nd,lt⟩
  rw[Mv]at ol lt
  exact⟨_,rfl,k q o H2 s2 hq hq2 ol nd lt⟩
theorem aT:aE ["cells","ends","turns","cell","mixed","fresh","left","row","right","one","two"] ["cells"] (ai df):=⟨rfl,rfl,rfl,by decide +kernel,rfl,by decide +kernel,by decide +kernel⟩
theorem IP{f fr fh:Addr}{fd fdr fdh:FuncData} (F:Fun K "_law_grown" "_law_grown" df f fd) (T:Txt mg) (G_law_round:Cal P w K mg base 3 "_law_round" ["ends","turns","dart"] (uF K) fr fdr) (G_law_head:Cal P w K mg base 1 "_law_head" ["ends","dart"] (uG K) fh fdh) :
  FnOk P w K mg base CX0 4 f fd ["cells"] (Am K):=by
 refine F.ok aT (fun vs H Q E h=>?_) (fun cdv A outer s H vs Q E hr h=>?_)
 ·obtain⟨a,cs,rfl,_⟩:=h
  rfl
 obtain⟨a,cs,rfl,hS,h30,kk⟩:=h
 have hcl:(cs.map V.int).length=cs.length:=LW _
 refine⟨_,(af (au (i:=1) aT.nd rfl (Or.inl rfl) (cH (aa (b9 (aa ah (aa ah ag))) ag)))
   (af (au (i:=2) aT.nd rfl (Or.inl rfl) (cH (aa (cH (aa ah ag)) (aa (cH (aa ah ag)) ag))))
   (af (bC PassesOwn.never rfl (aV (pv 0)) (aJ (i:=3) aT.nd rfl (Or.inl rfl)) (af (au (i:=4) aT.nd rfl (Or.inl rfl) (ay bD (ay gq (ay bD (pv 3) ah) ah) ah))
   (af (au (i:=5) aT.nd rfl (Or.inl rfl) (az aw (by rfl) T.n_len bF (aa (pv 1) ag)))
   (af (au (i:=6) aT.nd rfl (Or.inl rfl) (ay bD (ay cQ (pv 4) ah) (ay gq ah (pv 5))))
   (af (au (i:=7) aT.nd rfl (Or.inl rfl) (aF G_law_round.ok (hr.mono (by decide)) rfl G_law_round.mg G_law_round.kp G_law_round.bn .nil aW (aa (pv 1) (aa (pv 2) (aa (pv 6) ag)))))
   (af (au (i:=8) aT.nd rfl (Or.inl rfl) (aD aK (pv 7) (ay bD (ay bD (ay gq (pv 4) (pv 4)) ah) (az aw (by rfl) T.n_len bF (aa (pv 7) ag))) (fun _ _=>rfl)))
   (af (au (i:=9) aT.nd rfl (Or.inl rfl) (aF G_law_head.ok (hr.mono (by decide)) rfl G_law_head.mg G_law_head.kp G_law_head.bn .nil aW (aa (pv 1) (aa (pv 6) ag))))
   (af (au (i:=10) aT.nd rfl (Or.inl rfl) (aF G_law_head.ok (hr.mono (by decide)) rfl G_law_head.mg G_law_head.kp G_law_head.bn .nil aW (aa (pv 1) (aa (pv 8) ag))))
   (af (aX (dI Mn Ot Oq qv (aD aK (pv 2) (pv 9) (fun _ _=>rfl)) (aa (ay b7 (dI Mn NW NV pR (aD aK (pv 2) (pv 9) (fun _ _=>rfl)) (aa (ay cQ (pv 6) ah) ag)) ah) (aa (pv 5) ag))))
   (af (dm (PW.pt (Iq (aM jW (ay bD (pv 4) ah) ah (aR _)) (C7 (aM jW (pv 9) (pv 10) (aR _))))) (af (au (i:=10) aT.nd rfl (Or.inl rfl) (az aw (by rfl) T.n_len bF (aa (pv 2) ag)))
   (ao (aX (dI Mn Mz My aU (pv 2) (aa (cH (aa (pv 5) ag)) ag))))) (ao (aX (dI Mn Ot Oq qv (aD aK (pv 2) (pv 10) (fun _ _=>rfl)) (aa (ay b7 (dI Mn NW NV pR (aD aK (pv 2) (pv 10) (fun _ _=>rfl)) (aa (ay cQ (pv 8) ah) ag)) ah) (aa (pv 5) ag))))))
   (ao (dm (aM jW (ay bD (ay cQ (pv 3) ah) ah) ah (aR _)) (ao (aX (dI Mn Mz My aU (pv 1) (aa (b9 (aa (pv 10) (aa (pv 9) ag))) ag)))) (ao (aX (dI Mn Mz My aU (pv 1) (aa (b9 (aa (pv 9) (aa (pv 10) ag))) ag))))))))))))))))
   (ao (aO (b9 (aa (pv 1) (aa (pv 2) ag)))))))),?_⟩
 refine⟨(by show 2<=sizeLine;decide),fun t0 ht0=>⟨(by show 1<=sizeLine;decide),fun pe hpe=>?_⟩⟩
 have s1:=aj ht0 (.tup [.int 0,.int 1])
 have s2:=s1.trans (aj hpe (.lst [.ref t0]))
 refine⟨(by show 1<=sizeLine;decide),fun p0 hp0=>⟨(by show 1<=sizeLine;decide),fun p1 hp1=>⟨(by show 2<=sizeLine;decide),fun pt hpt=>?_⟩⟩⟩
 have s3:=aj hp0 (.lst [.int 0])
 have s4:=aj hp1 (.lst [.int 0])
 have s5:=aj hpt (.lst [.ref p0,.ref p1])
 have s05:=((s2.trans s3).trans s4).trans s5
 have none_of:∀{G:Hp}{p:Addr},Same H G->G p=none->H p=none:=fun{G p} sm z=>by
  cases y:H p with
  |none=>rfl
  |some o=>rw[sm _ _ y]at z;cases z
 have hpe0:=none_of s1 hpe
 have hpt0:=none_of ((s2.trans s3).trans s4) hpt
 have hp00:=none_of s2 hp0
 have hp10:=none_of (s2.trans s3) hp1
 have g1:=s3.trans (s4.trans s5)
 have hpe5:=g1 _ _ (ae (H:=upd H t0 (.tup [.int 0,.int 1])) (a:=pe) (o:=.lst [.ref t0]))
 have hp05:=(s4.trans s5) _ _ (ae (a:=p0) (o:=.lst [.int 0]))
 have hp15:=s5 _ _ (ae (a:=p1) (o:=.lst [.int 0]))
 have n01:p0≠p1:=aB (ae (a:=p0) (o:=.lst [.int 0])) hp1
 have npe:pe≠pt:=aB ((s3.trans s4) _ _ (ae (a:=pe) (o:=.lst [.ref t0]))) hpt
 have n0e:p0≠pe:=fun z=>by rw[z,ae]at hp0;cases hp0
 have n1e:p1≠pe:=fun z=>by rw[z,s3 _ _ (ae (a:=pe) (o:=.lst [.ref t0]))]at hp1;cases hp1
 have n0t:p0≠pt:=aB (s4 _ _ (ae (a:=p0) (o:=.lst [.int 0]))) hpt
 have n1t:p1≠pt:=aB (ae (a:=p1) (o:=.lst [.int 0])) hpt
 have init:LQ H a pe pt 0 [some (.ref a),some (.ref pe),some (.ref pt),none,none,none,none,none,none,none,none] (upd (upd (upd (upd (upd H t0 (.tup [.int 0,.int 1])) pe (.lst [.ref t0])) p0 (.lst [.int 0])) p1 (.lst [.int 0])) pt (.lst [.ref p0,.ref p1])):=by
  refine⟨_,_,_,_,_,_,_,_,[.ref t0],[.ref p0,.ref p1],2,[(0,1)],[[0],[0]],rfl,s05,hpe5,⟨rfl,fun i e z=>?_⟩,ae,⟨rfl,fun i l z=>?_⟩,fun i j p z1 z2=>?_,gr_two,rfl⟩
  ·match i,z with
   |0,z=>cases z;exact⟨t0,rfl,((aj hpe _).trans g1) _ _ ae⟩
   |i+1,z=>cases z
  ·match i,z with
   |0,z=>cases z;exact⟨p0,rfl,by rintro(y | y | y);exact n0e y;exact n0t y;exact y hp00,hp05⟩
   |1,z=>cases z;exact⟨p1,rfl,by rintro(y | y | y);exact n1e y;exact n1t y;exact y hp10,hp15⟩
   |i+2,z=>cases z
  ·match i,z1,j,z2 with
   |0,z1,0,z2=>rfl
   |1,z1,1,z2=>rfl
   |0,z1,1,z2=>cases z1;cases z2;exact absurd rfl n01
   |1,z1,0,z2=>cases z1;cases z2;exact absurd rfl n01
   |i+2,z1,_,_=>cases z1
   |0,_,j+2,z2=>cases z2
   |1,_,j+2,z2=>cases z2
 refine⟨_,rfl,a,rfl,⟨_,s05.seq hS⟩,cn (xs:=cs.map V.int) (fun i σ H5=>LQ H a pe pt i σ H5) init (fun i σ H5 _ ⟨_,_,_,_,_,_,_,_,_,_,_,_,_,_,z,_⟩=>z.seq hS) ?_ ?_⟩
 ·rintro i x σ H5 hx ⟨v3,v4,v5,v6,v7,v8,v9,v10,ys,xs,m,es,ts,rfl,s5,hpe5,en,hpt5,rx5,D,g,hi⟩
  rw[Mb]at hx
  obtain⟨c,hc,rfl⟩:=Ms.mp hx
  have hil:i<cs.length:=(LR.mp hc).1
  have hyl:ys.length=es.length:=en.1
  have few:es.length<=62:=by omega
  have w':=g.w
  have tlen:=w'.len
  have mfew:=t5 g
  have o0:(0:Int)<=c%1000000007*48271%2147483647:=Nw _ (by decide)
  have o1:c%1000000007*48271%2147483647<2147483647:=ND _ (by decide)
  refine⟨_,rfl,_,_,rfl,rfl,(by show(0:Int)<1000000007;decide),_,_,rfl,rfl,.inr ⟨by decide,by decide⟩,_,_,rfl,rfl,(by show(0:Int)<2147483647;decide),?_⟩
  refine⟨_,rfl,pe,ys,rfl,.inl (SqL.of hpe5),?_⟩
  have hfr:(0:Int)<2*(ys.length:Int):=by omega
  refine⟨_,rfl,_,_,rfl,rfl,⟨by decide,by decide⟩,_,rfl,_,_,rfl,rfl,.inl ⟨by decide,by decide⟩,_,_,rfl,rfl,hfr,?_⟩
  have l0:=Nw (c%1000000007*48271%2147483647/2) (show 2*(ys.length:Int)≠0 by omega)
  have l1:=ND (c%1000000007*48271%2147483647/2) hfr
  obtain⟨L,hL⟩:∃ L:Nat,c%1000000007*48271%2147483647/2%(2*(ys.length:Int))=(L:Int):=⟨_,(Oh l0).symm⟩
  have hLl:L<2*es.length:=by omega
  refine⟨_,rfl,_,rfl,_,rfl,pe,pt,ys,xs,m,es,ts,L,congrArg (fun z=>[V.ref pe,V.ref pt,V.int z]) hL,SqL.of hpe5,en,SqL.of hpt5,rx5.off,w',few,hLl,fun q r H6 s6 hq hq6 pa ri=>?_⟩
  have hrlen:(r.map iV).length=r.length:=LW _
  have hr0:=ri.ne
  have hrp:(0:Int)<((r.map iV).length:Int):=by omega
  have j0:=Nw (c%1000000007*48271%2147483647*(c%1000000007*48271%2147483647)%1000003) (show((r.map iV).length:Int)≠0 by omega)
  have j1:=ND (c%1000000007*48271%2147483647*(c%1000000007*48271%2147483647)%1000003) hrp
  obtain⟨J,hJ⟩:∃ J:Nat,c%1000000007*48271%2147483647*(c%1000000007*48271%2147483647)%1000003%((r.map iV).length:Int)=(J:Int):=⟨_,(Oh j0).symm⟩
  have hJl:J<r.length:=by omega
  obtain⟨R,hR⟩:∃ R,r[J]?=some R:=⟨_,LS hJl⟩
  have hRm:=LV hR
  have hRl:=ri.lt R hRm
  refine⟨_,rfl,_,rfl,_,rfl,_,_,rfl,rfl,.inl ⟨by show -(2^64:Int)<c%1000000007*48271%2147483647;omega,by show c%1000000007*48271%2147483647<(2^64:Int);omega⟩,_,_,rfl,rfl,(by show(0:Int)<1000003;decide),_,rfl,q,_,rfl,.inl (SqL.of hq6),_,_,rfl,rfl,hrp,q,_,_,_,rfl,rfl,SqL.of hq6,(by rw[hJ];exact Lu hR),?_⟩
  have s06:=s5.trans s6
  have hpe6:=s6 _ _ hpe5
  have hpt6:=s6 _ _ hpt5
  have en6:=en.mono s6
  have rx6:cX (fun p=>p=pe∨p=pt∨H p≠none) H6 xs ts:=rx5.mono fun p o _ z=>s6 _ _ z
  refine⟨_,rfl,_,rfl,pe,ys,es,L,congrArg (fun z=>[V.ref pe,V.int z]) hL,SqL.of hpe6,en6,hLl,?_⟩
  refine⟨_,rfl,_,rfl,pe,ys,es,R,rfl,SqL.of hpe6,en6,hRl,?_⟩
  obtain⟨_,l,_,_,_,k4,k5,k6⟩:=w'.at hLl
  obtain⟨_,l',_,_,_,k4',k5',k6'⟩:=w'.at hRl
  obtain⟨p1,y1,y2,y3⟩:=rx6.2 _ _ k5
  obtain⟨p2,z1,z2,z3⟩:=rx6.2 _ _ k5'
  obtain⟨sm1,f1⟩:=jy w' few k5
  obtain⟨sm2,f2⟩:=jy w' few k5'
  have len1:(l.map iV).length=l.length:=LW _
  have len2:(l'.map iV).length=l'.length:=LW _
  have ix1:l.idxOf (L/2)<l.length:=O9 k6
  have ix2:l'.idxOf (R/2)<l'.length:=O9 k6'
  have ne_S:∀{p q:Addr},¬ (p=pe∨p=pt∨H p≠none)->(q=pe∨q=pt)->q≠p:=fun n y z=>n (by rw[← z];rcases y with y | y<;>simp[y])
  have no_S:∀{p:Addr},¬ (p=pe∨p=pt∨H p≠none)->H p=none:=fun{p} n=>by
   cases y:H p with
   |none=>rfl
   |some o=>exact absurd (.inr (.inr (by rw[y];exact fun z=>nomatch z))) n
  have hp1:=no_S y2
  have hp2:=no_S z2
  have eL:c%1000000007*48271%2147483647/2%(2*(ys.length:Int))/2=((L/2:Nat):Int):=by rw[hL];omega
  have eR:(R:Int)/2=((R/2:Nat):Int):=by omega
  refine⟨_,rfl,_,rfl,pt,xs,_,_,rfl,rfl,SqL.of hpt6,aG y1,.inl ⟨rfl,_,SqL.of y3⟩,_,rfl,_,rfl,pt,xs,_,_,rfl,rfl,SqL.of hpt6,aG y1,.inl ⟨rfl,_,SqL.of y3⟩,_,rfl,_,_,rfl,rfl,⟨by decide,by decide⟩,p1,l,L/2,rfl,congrArg (fun z=>[V.int z]) eL,SqL.of y3,fun p hp=>by have:=sm1 p hp;omega,by omega,k6,_,_,rfl,rfl,_,rfl,p1,_,_,_,rfl,rfl,y3,by omega,by omega,ar (by omega),?_⟩
  rw[hyl,insV,show(((l.idxOf (L/2):Nat):Int)+1).toNat=l.idxOf (L/2)+1 by omega]
  have s07:=aL s06 hp1 (.lst ((ins l (l.idxOf (L/2)+1) es.length).map iV))
  have hpe7:(upd H6 p1 (.lst ((ins l (l.idxOf (L/2)+1) es.length).map iV))) pe=some (.lst ys):=by rw[aq (ne_S y2 (.inl rfl))];exact hpe6
  have hpt7:(upd H6 p1 (.lst ((ins l (l.idxOf (L/2)+1) es.length).map iV))) pt=some (.lst xs):=by rw[aq (ne_S y2 (.inr rfl))];exact hpt6
  have en7:=en6.put (o:=.lst ((ins l (l.idxOf (L/2)+1) es.length).map iV)) y3
  have rx7:=rx6.set (l':=ins l (l.idxOf (L/2)+1) es.length) D y1
  have z7:hd es L≠hd es R->(upd H6 p1 (.lst ((ins l (l.idxOf (L/2)+1) es.length).map iV))) p2=some (.lst (l'.map iV)):=fun n=>by
   rw[aq (fun y=>by rw[y]at z1;exact n (D _ _ p1 y1 z1))];exact z3
  generalize hH7:upd H6 p1 (.lst ((ins l (l.idxOf (L/2)+1) es.length).map iV))=H7 at s07 hpe7 hpt7 en7 rx7 z7
  obtain⟨x0,tail,rfl,ch⟩:=ri.cr.ch
  have hx0:x0=L:=by
   have:=pa.hd
   exact Mq this
  subst hx0
  have xl:xs.length=m:=by rw[rx5.1,tlen]
  have hcr:=ri.cr
  refine⟨_,rfl,_,_,rfl,rfl,(by show(0:Int)<2;decide),rfl,_,rfl,ite2 (fun c=>iteT ?_) (fun c=>⟨_,rfl,_,rfl,rfl,_,rfl,ite2 (fun c2=>?_) (fun c2=>?_)⟩)⟩
  rotate_left 2
  ·have n:hd es x0≠hd es R:=fun z=>c2 (decide_eq_true (by rw[z]))
   have z7:=z7 n
   refine⟨_,rfl,_,rfl,pt,xs,_,_,rfl,rfl,SqL.of hpt7,aG z1,.inl ⟨rfl,_,SqL.of z7⟩,_,rfl,_,rfl,pt,xs,_,_,rfl,rfl,SqL.of hpt7,aG z1,.inl ⟨rfl,_,SqL.of z7⟩,_,rfl,_,_,rfl,rfl,⟨by decide,by decide⟩,p2,l',R/2,rfl,congrArg (fun z=>[V.int z]) eR,SqL.of z7,fun p hp=>by have:=sm2 p hp;omega,by omega,k6',_,_,rfl,rfl,_,rfl,p2,_,_,_,rfl,rfl,z7,by omega,by omega,ar (by omega),?_⟩
   rw[insV,show(((l'.idxOf (R/2):Nat):Int)+1).toNat=l'.idxOf (R/2)+1 by omega]
   have s08:=aL s07 hp2 (.lst ((ins l' (l'.idxOf (R/2)+1) es.length).map iV))
   have hpe8:(upd H7 p2 (.lst ((ins l' (l'.idxOf (R/2)+1) es.length).map iV))) pe=some (.lst ys):=by rw[aq (ne_S z2 (.inl rfl))];exact hpe7
   have hpt8:(upd H7 p2 (.lst ((ins l' (l'.idxOf (R/2)+1) es.length).map iV))) pt=some (.lst xs):=by rw[aq (ne_S z2 (.inr rfl))];exact hpt7
   have en8:=en7.put (o:=.lst ((ins l' (l'.idxOf (R/2)+1) es.length).map iV)) z7
   have rx8:=rx7.set (l':=ins l' (l'.idxOf (R/2)+1) es.length) D z1
   refine⟨_,rfl,_,_,rfl,rfl,⟨by decide,by decide⟩,_,_,rfl,rfl,(by show(0:Int)<2;decide),rfl,_,rfl,ite2 (fun _=>?_) (fun _=>?_)⟩
   ·refine⟨_,rfl,.inl ⟨rfl,_,SqL.of hpe8⟩,_,rfl,_,rfl,(by show 2<=sizeLine;decide),fun t ht=>⟨pe,ys,_,rfl,rfl,aj ht _ _ _ hpe8,ar (by omega),?_⟩⟩
    exact pU npe hpe0 s08 hpe8 en8 hpt8 rx8 D (g.join (e:=(hd es R,hd es x0)) hLl hcr ch hRm rfl rfl n (.inr rfl) k5 k5') hi ht rfl rfl _ _ _ _ _ _ _ _
   ·refine⟨_,rfl,.inl ⟨rfl,_,SqL.of hpe8⟩,_,rfl,_,rfl,(by show 2<=sizeLine;decide),fun t ht=>⟨pe,ys,_,rfl,rfl,aj ht _ _ _ hpe8,ar (by omega),?_⟩⟩
    exact pU npe hpe0 s08 hpe8 en8 hpt8 rx8 D (g.join (e:=(hd es x0,hd es R)) hLl hcr ch hRm rfl rfl n (.inl rfl) k5 k5') hi ht rfl rfl _ _ _ _ _ _ _ _
  all_goals
   refine⟨_,rfl,pt,xs,rfl,.inl (SqL.of hpt7),?_⟩
   refine⟨_,rfl,.inl ⟨rfl,_,SqL.of hpt7⟩,_,rfl,(by show 1<=sizeLine;decide),fun pn hpn=>⟨pt,xs,_,rfl,rfl,aj hpn _ _ _ hpt7,ar (by omega),?_⟩⟩
   have sn:=aj hpn (.lst [V.int (es.length:Int)])
   have s08:=aL (s07.trans sn) hpt0 (.lst (xs++[.ref pn]))
   have hpe8:(upd (upd H7 pn (.lst [V.int (es.length:Int)])) pt (.lst (xs++[.ref pn]))) pe=some (.lst ys):=by rw[aq npe];exact sn _ _ hpe7
   have hpt8:(upd (upd H7 pn (.lst [V.int (es.length:Int)])) pt (.lst (xs++[.ref pn]))) pt=some (.lst (xs++[.ref pn])):=ae
   have en8:=(en7.mono sn).put (o:=.lst (xs++[.ref pn])) (sn _ _ hpt7)
   have npt:pn≠pt:=fun z=>by rw[z,hpt7]at hpn;cases hpn
   have npn:pn≠pe:=fun z=>by rw[z,hpe7]at hpn;cases hpn
   have hpn0:H pn=none:=none_of s07 hpn
   have rx8:cX (fun p=>p=pe∨p=pt∨H p≠none) (upd (upd H7 pn (.lst [V.int (es.length:Int)])) pt (.lst (xs++[.ref pn]))) (xs++[.ref pn]) (ts.set (hd es x0) (ins l (l.idxOf (x0/2)+1) es.length)++[[es.length]]):=by
    refine(rx7.mono fun p o n z=>?_).snoc (by rintro(y | y | y);exact npn y;exact npt y;exact y hpn0) ?_
    ·rw[aq (fun z=>n (.inr (.inl z)))];exact sn _ _ z
    ·rw[aq npt];exact ae
   have D8:=y9 rx7 D hpn
   have hxm:V.int (xs.length:Int)=iV m:=by rw[xl];rfl
   refine⟨_,rfl,_,_,rfl,rfl,⟨by decide,by decide⟩,_,_,rfl,rfl,(by show(0:Int)<2;decide),rfl,_,rfl,ite2 (fun _=>?_) (fun _=>?_)⟩
   ·refine⟨_,rfl,.inl ⟨rfl,_,SqL.of hpe8⟩,_,rfl,_,rfl,(by show 2<=sizeLine;decide),fun t ht=>⟨pe,ys,_,rfl,rfl,aj ht _ _ _ hpe8,ar (by omega),?_⟩⟩
    exact pU npe hpe0 s08 hpe8 en8 hpt8 rx8 D8 (g.leaf (e:=(m,hd es x0)) hLl hcr ch rfl (.inr rfl) k5) hi ht hxm rfl _ _ _ _ _ _ _ _
   ·refine⟨_,rfl,.inl ⟨rfl,_,SqL.of hpe8⟩,_,rfl,_,rfl,(by show 2<=sizeLine;decide),fun t ht=>⟨pe,ys,_,rfl,rfl,aj ht _ _ _ hpe8,ar (by omega),?_⟩⟩
    exact pU npe hpe0 s08 hpe8 en8 hpt8 rx8 D8 (g.leaf (e:=(hd es x0,m)) hLl hcr ch rfl (.inl rfl) k5) hi ht rfl hxm _ _ _ _ _ _ _ _
 ·rintro σ H5 ⟨v3,v4,v5,v6,v7,v8,v9,v10,ys,xs,m,es,ts,rfl,s5,hpe5,en,hpt5,rx5,D,g,hi⟩
  rw[hcl]at hi
  refine⟨_,rfl,_,rfl,(by show 2<=sizeLine;decide),fun t ht=>?_⟩
  have s6:=aj ht (.tup [.ref pe,.ref pt])
  exact kk t pe pt ys xs m es ts _ (s5.trans s6) ae (s6 _ _ hpe5) (en.mono s6) (s6 _ _ hpt5) (rx5.off.mono s6) g hi
end
end K8
namespace K8
open PySem L2
local macro_rules | `(tactic| walk_at "cc") => `(tactic| first | exact ⟨by decide, by decide⟩ | (show (0 : Int) < _; decide) | (show (0 : Int) < _; omega) | (show (0 : Int) ≤ _; omega) | exact ⟨by decide, by decide, by decide⟩ | exact ⟨by omega, by omega, by decide⟩ | exact Or.inl ⟨by decide, by decide⟩ | exact Or.inl ⟨by omega, by omega⟩)
local macro_rules | `(tactic| walk_at "rd") => `(tactic| repeat (first | refine ⟨_, rfl, ?_⟩ | refine ⟨_, _, rfl, rfl, ?_⟩ | refine ⟨rfl, ?_⟩ | (refine ⟨?cc, ?_⟩; (case cc => walk_at "cc"))))
def cutp(c:Int)(p n:Nat):Nat:=(c%1009*((p:Int)+1)%(n:Int)).toNat
def rowN(c:Int)(o2:List Nat)(p:Nat)(l:List Nat):List Nat:=(l.drop (cutp c p l.length)++l.take (cutp c p l.length)).map (ofL o2)
def en2(o1 o2:List Nat)(es:En):En:=(MH es.length).map fun j=>(ofL o1 ((es[o2.idxOf j]?).getD (0,0)).1,ofL o1 ((es[o2.idxOf j]?).getD (0,0)).2)
def ts2(c:Int)(o1 o2:List Nat)(ts:List (List Nat)):List (List Nat):=(MH ts.length).map fun j=>rowN c o2 (o1.idxOf j) ((ts[o1.idxOf j]?).getD [])
theorem GD{o:List Nat}(nd:o.Nodup){k:Nat}(h:k<o.length):o.idxOf (ofL o k)=k:=by
 have e:o[k]?=some (ofL o k):=by unfold ofL;rw[LS h];rfl
 exact Dh nd (BU (LV e)) e
theorem ren_of{m:Nat}{es:En}{ts:List (List Nat)}{c:Int}{o1 o2:List Nat}(w:bt m es ts)(l1:o1.length=m)(n1:o1.Nodup)(b1:∀ x∈o1,x<m)(l2:o2.length=es.length)(n2:o2.Nodup)(b2:∀ x∈o2,x<es.length) :
  Ren m es (en2 o1 o2 es) ts (ts2 c o1 o2 ts) (ofL o1) (ofL o2):=by
 have B1:=Dz l1 n1 b1
 have B2:=Dz l2 n2 b2
 refine⟨B1,B2,by simp[en2],by simp[ts2,w.len],fun k e h=>?_,fun p l h=>?_⟩
 ·have hk:=(LR.mp h).1
  unfold en2
  rw[Mb,NS (B2.lt k hk)]
  show some (ofL o1 ((es[o2.idxOf (ofL o2 k)]?).getD (0,0)).1,ofL o1 ((es[o2.idxOf (ofL o2 k)]?).getD (0,0)).2)=_
  rw[GD n2 (by omega),h]
  rfl
 ·have hp:p<m:=by rw[← w.len];exact(LR.mp h).1
  refine⟨l.take (cutp c p l.length),l.drop (cutp c p l.length),(N5 _ _).symm,?_⟩
  unfold ts2
  rw[Mb,NS (by rw[w.len];exact B1.lt p hp)]
  show some (rowN c o2 (o1.idxOf (ofL o1 p)) ((ts[o1.idxOf (ofL o1 p)]?).getD []))=_
  rw[GD n1 (by omega),h]
  rfl
theorem Gr.rows{m:Nat}{es:En}{ts:List (List Nat)}(g:Gr m es ts)(h2:2<=m){p:Nat}{l:List Nat}(h:ts[p]?=some l):0<l.length:=by
 have hp:p<m:=by rw[← g.w.len];exact(LR.mp h).1
 cases l with
 |cons a l=>exact Nat.succ_pos _
 |nil =>
  exfalso
  have no:∀ e∈es,e.1≠p/\e.2≠p:=fun e he=>by
   obtain⟨t,ht⟩:=M4.mp he
   refine⟨fun z=>?_,fun z=>?_⟩
   ·exact nomatch (g.w.mem p [] h t).mpr ⟨e,ht,.inl z⟩
   ·exact nomatch (g.w.mem p [] h t).mpr ⟨e,ht,.inr z⟩
  have:=g.conn (fun x=>x=p) (fun e he=>⟨fun z=>absurd z (no e he).1,fun z=>absurd z (no e he).2⟩) p (if p=0 then 1 else 0) hp (by split<;>omega) rfl
  have this':(if p=0 then 1 else 0)=p:=this
  split at this'<;>omega
theorem cut_hi{xs:List V}{c:Nat}(h:c<=xs.length):cutV xs (some (c:Int)) none=xs.drop c:=by
 unfold cutV
 rw[HT.sIx_nat,Oe h]
 show(xs.drop c).take (xs.length-c)=_
 exact MY (by rw[Np];exact Ma _)
theorem cut_lo{xs:List V}{c:Nat}(h:c<=xs.length):cutV xs none (some (c:Int))=xs.take c:=by
 unfold cutV
 rw[HT.sIx_nat,Oe h]
 show(xs.drop 0).take (c-0)=_
 rw[List.drop_zero,Nat.sub_zero]
structure WebP(H:Hp)(pe pt:Addr)(m:Nat)(es:En)(ts:List (List Nat)):Prop where
 en:∃ ys,H pe=some (.lst ys)/\bV H ys es
 tu:∃ xs,H pt=some (.lst xs)/\bI H xs ts
 g:Gr m es ts
theorem WebP.mono{H H':Hp}{pe pt:Addr}{m:Nat}{es:En}{ts:List (List Nat)}(h:WebP H pe pt m es ts)(s:Same H H'):WebP H' pe pt m es ts:=by
 obtain⟨⟨ys,a,b⟩,⟨xs,c,d⟩,g⟩:=h
 exact⟨⟨ys,s _ _ a,b.mono s⟩,⟨xs,s _ _ c,d.mono s⟩,g⟩
def Kk:Sp:=fun vs H Q _=>∃(t pe pt:Addr)(c:Int)(m:Nat)(es:En)(ts:List (List Nat)),vs = [.ref t,.int c]/\H t=some (.tup [.ref pe,.ref pt])/\WebP H pe pt m es ts/\2<=m/\es.length<=31 /\
 ∀(t' pe' pt':Addr)(es':En)(ts':List (List Nat))(H':Hp),Same H H'->H' t'=some (.tup [.ref pe',.ref pt'])->WebP H' pe' pt' m es' ts'->es'.length=es.length->Q (.ref t') H'
section
variable{P:Program}{w:World}{K:LU}{mg:Str->Option Value}{base:Heap}
theorem aP:aE ["grown","cell","places","ties","ends","k","turns","p","row","cut"] ["grown","cell"] (ai bq):=⟨rfl,rfl,rfl,by decide +kernel,rfl,by decide +kernel,by decide +kernel⟩
theorem ok_ren{f fo:Addr}{fd fdo:FuncData} (F:Fun K "_law_renumbered" "_law_renumbered" bq f fd) (T:Txt mg) (G_law_order:Cal P w K mg base 1 "_law_order" ["cell","many"] uE fo fdo):FnOk P w K mg base CX0 2 f fd ["grown","cell"] Kk:=by
 refine F.ok aP (fun vs H Q E h=>?_) (fun cdv A outer s H vs Q E hr h=>?_)
 ·obtain⟨t,pe,pt,c,m,es,ts,rfl,_⟩:=h
  rfl
 obtain⟨t,pe,pt,c,m,es,ts,rfl,ht,⟨⟨ys,hpe,en⟩,⟨xs,hpt,tu⟩,g⟩,h2,h31,kk⟩:=h
 have w':=g.w
 have mf:=t5 g
 have hyl:ys.length=es.length:=en.1
 have hxl:xs.length=m:=by rw[tu.1,w'.len]
 refine⟨_,(af (au (i:=2) aP.nd rfl (Or.inl rfl) (aF G_law_order.ok (hr.mono (by decide)) rfl G_law_order.mg G_law_order.kp G_law_order.bn .nil aW (aa (pv 1) (aa (az aw (by rfl) T.n_len bF (aa (aD aI (pv 0) ah (fun _ _=>rfl)) ag)) ag))))
   (af (au (i:=3) aP.nd rfl (Or.inr rfl) (aF G_law_order.ok (hr.mono (by decide)) rfl G_law_order.mg G_law_order.kp G_law_order.bn .nil aW (aa (ay cQ (pv 1) ah) (aa (az aw (by rfl) T.n_len bF (aa (aD aI (pv 0) ah (fun _ _=>rfl)) ag)) ag))))
   (af (au (i:=4) aP.nd rfl (Or.inl rfl) (cb bT (by rfl) T.n_list iq (aa (aD aI (pv 0) ah (fun _ _=>rfl)) ag)))
   (af (bC PassesOwn.never rfl (bP rfl T.n_range (aa (az aw (by rfl) T.n_len bF (aa (aD aI (pv 0) ah (fun _ _=>rfl)) ag)) ag)) (aJ (i:=5) aP.nd rfl (Or.inl rfl)) (ao (xQ (b9 (aa (aD aK (pv 2) (aD aI (aD aK (aD aI (pv 0) ah (fun _ _=>rfl)) (pv 5) (fun _ _=>rfl)) ah (fun _ _=>rfl)) (fun _ _=>rfl)) (aa (aD aK (pv 2) (aD aI (aD aK (aD aI (pv 0) ah (fun _ _=>rfl)) (pv 5) (fun _ _=>rfl)) ah (fun _ _=>rfl)) (fun _ _=>rfl)) ag))) (yb (pv 4) (aD aK (pv 3) (pv 5) (fun _ _=>rfl)) lR))))
   (af (au (i:=6) aP.nd rfl (Or.inl rfl) (cb bT (by rfl) T.n_list iq (aa (aD aI (pv 0) ah (fun _ _=>rfl)) ag)))
   (af (bC PassesOwn.never rfl (bP rfl T.n_range (aa (az aw (by rfl) T.n_len bF (aa (aD aI (pv 0) ah (fun _ _=>rfl)) ag)) ag)) (aJ (i:=7) aP.nd rfl (Or.inl rfl)) (af (mS (i:=8) rfl aP.nd rfl rfl (fr:=[("ties",3)]) (by exact bK.one (by rfl) (by decide +kernel) (by rfl) (by decide +kernel) (by rfl) (by decide +kernel) (by rfl) (by rfl) (by decide +kernel) (by rfl)) (aV (aD aK (aD aI (pv 0) ah (fun _ _=>rfl)) (pv 7) (fun _ _=>rfl))) (fun C ex s H=>(aD (gX (K:=K) rfl) (pv 1) (pv 0) (fun _ _=>rfl))))
   (af (au (i:=9) aP.nd rfl (Or.inl rfl) (ay bD (ay gq (ay bD (pv 1) ah) (ay b7 (pv 7) ah)) (az aw (by rfl) T.n_len bF (aa (pv 8) ag))))
   (ao (xQ (ay op_cat (pO uN (pv 8) (uZ (pv 9)) u4) (pO uN (pv 8) u4 (uZ (pv 9)))) (yb (pv 6) (aD aK (pv 2) (pv 7) (fun _ _=>rfl)) lR))))))
   (ao (aO (b9 (aa (pv 4) (aa (pv 6) ag))))))))))),?_⟩
 refine⟨_,rfl,_,rfl,t,_,1,_,rfl,rfl,SqT.of ht,at1,pt,xs,rfl,.inl (SqL.of hpt),c,m,(by rw[hxl];rfl),by omega,fun q1 o1 H1 s1 _ h1 l1 n1 b1=>?_⟩
 refine⟨_,rfl,_,_,rfl,rfl,⟨by decide,by decide⟩,_,rfl,t,_,0,_,rfl,rfl,SqT.of (s1 _ _ ht),at0,pe,ys,rfl,.inl (SqL.of (s1 _ _ hpe)),_,es.length,(by rw[hyl];rfl),by omega,fun q2 o2 H2 s2 _ h2' l2 n2 b2=>?_⟩
 have s12:=s1.trans s2
 have R:=ren_of (c:=c) w' l1 n1 b1 l2 n2 b2
 have h1':=s2 _ _ h1
 refine⟨_,rfl,t,_,0,_,rfl,rfl,SqT.of (s12 _ _ ht),at0,pe,ys,rfl,.inl (SqL.of (s12 _ _ hpe)),fun qe hqe=>?_⟩
 have s3:=aj hqe (.lst ys)
 have s13:=s12.trans s3
 have h23:=s3 _ _ h2'
 have h13:=s3 _ _ h1'
 have get1:∀ k,k<m->(o1.map iV)[k]?=some (iV (ofL o1 k)):=fun k hk=>by
  rw[Mb];unfold ofL;rw[LS (by omega)];rfl
 have get2:∀ k,k<es.length->(o2.map iV)[k]?=some (iV (ofL o2 k)):=fun k hk=>by
  rw[Mb];unfold ofL;rw[LS (by omega)];rfl
 have hqe0:H qe=none:=by
  cases y:H qe with
  |none=>rfl
  |some o=>rw[s12 _ _ y]at hqe;cases hqe
 refine⟨_,rfl,t,_,0,_,rfl,rfl,SqT.of (s13 _ _ ht),at0,pe,ys,rfl,.inl (SqL.of (s13 _ _ hpe)),_,rfl,by omega,by omega,cf (n:=(ys.length:Int).toNat) (fun i σ H5=>∃ v5 v6 v7 v8 v9 zs,σ = [some (.ref t),some (.int c),some (.ref q1),some (.ref q2),some (.ref qe),v5,v6,v7,v8,v9]/\Same H2 H5/\H5 qe=some (.lst zs)/\zs.length=es.length/\∀(k:Nat)(e:Nat×Nat),k<i->es[k]?=some e->∃ p,zs[ofL o2 k]?=some (.ref p)/\H5 p=some (.tup [iV (ofL o1 e.1),iV (ofL o1 e.2)]))
  ⟨_,_,_,_,_,ys,rfl,s3,ae,hyl,fun k e z=>absurd z (Od _)⟩ ?_ ?_⟩
 ·rintro i σ H5 hi ⟨v5,v6,v7,v8,v9,zs,rfl,s5,hz,zl,inv⟩
  rw[Mv,hyl]at hi
  have e0:(0:Int)+(i:Int)=(i:Int):=Nf _
  rw[e0]
  have s15:=s12.trans s5
  obtain⟨e,he⟩:∃ e,es[i]?=some e:=⟨_,LS hi⟩
  obtain⟨p,x1,x2⟩:=(en.mono s15).2 i e he
  obtain⟨a1,a2,_⟩:=w'.ends e (LV he)
  have b2':=R.si.lt i hi
  refine⟨_,rfl,_,rfl,t,_,0,_,rfl,rfl,SqT.of (s15 _ _ ht),at0,_,rfl,pe,ys,_,_,rfl,rfl,SqL.of (s15 _ _ hpe),aG x1,p,_,0,_,rfl,rfl,SqT.of x2,at0,q1,_,_,_,rfl,rfl,SqL.of (s5 _ _ h1'),aG (get1 _ a1),_,rfl,_,rfl,t,_,0,_,rfl,rfl,SqT.of (s15 _ _ ht),at0,_,rfl,pe,ys,_,_,rfl,rfl,SqL.of (s15 _ _ hpe),aG x1,p,_,1,_,rfl,rfl,SqT.of x2,at1,q1,_,_,_,rfl,rfl,SqL.of (s5 _ _ h1'),aG (get1 _ a2),(by show 2<=sizeLine;decide),fun tt htt=>?_⟩
  have sn:=aj htt (.tup [iV (ofL o1 e.1),iV (ofL o1 e.2)])
  refine⟨_,rfl,_,rfl,_,rfl,q2,_,_,_,rfl,rfl,SqL.of (sn _ _ (s5 _ _ h2')),aG (get2 _ hi),qe,zs,_,ofL o2 i,rfl,rfl,sn _ _ hz,qJ (by omega),?_⟩
  refine⟨_,_,_,_,_,_,rfl,aL (s5.trans sn) hqe _,ae,by rw[MR];exact zl,fun k e' hk hek=>?_⟩
  by_cases z:k=i
  ·subst z
   rw[he]at hek
   cases hek
   exact⟨tt,by rw[MO,if_pos rfl,if_pos (by omega)],by rw[aq (fun z=>by rw[z,hz]at htt;cases htt)];exact ae⟩
  ·obtain⟨p',u1,u2⟩:=inv k e' (by omega) hek
   have hkl:k<es.length:=(LR.mp hek).1
   refine⟨p',by rw[MO,if_neg (fun y=>z (R.si.inj _ _ hkl hi y.symm))];exact u1,?_⟩
   rw[aq (fun z=>by rw[z,hz]at u2;cases u2)]
   exact sn _ _ u2
 rintro σ H5 ⟨v5,v6,v7,v8,v9,zs,rfl,s5,hz,zl,inv⟩
 rw[Mv,hyl]at inv
 have s15:=s12.trans s5
 have enN:bV H5 zs (en2 o1 o2 es):=⟨by rw[zl,R.l1],fun j x h=>by
  obtain⟨k,e,rfl,h4,rfl⟩:=R.es' h
  exact inv k e (LR.mp h4).1 h4⟩
 refine⟨_,rfl,t,_,1,_,rfl,rfl,SqT.of (s15 _ _ ht),at1,pt,xs,rfl,.inl (SqL.of (s15 _ _ hpt)),fun qt hqt=>?_⟩
 have s6:=aj hqt (.lst xs)
 have s16:=s15.trans s6
 refine⟨_,rfl,t,_,1,_,rfl,rfl,SqT.of (s16 _ _ ht),at1,pt,xs,rfl,.inl (SqL.of (s16 _ _ hpt)),_,rfl,by omega,by omega,cf (n:=(xs.length:Int).toNat) (fun i σ H7=>∃ v5 v7 v8 v9 ws,σ = [some (.ref t),some (.int c),some (.ref q1),some (.ref q2),some (.ref qe),v5,some (.ref qt),v7,v8,v9]/\Same H5 H7/\H7 qt=some (.lst ws)/\ws.length=m/\∀(p:Nat)(l:List Nat),p<i->ts[p]?=some l->∃ q,ws[ofL o1 p]?=some (.ref q)/\H7 q=some (.lst ((rowN c o2 p l).map iV))/\q≠qt)
  ⟨_,_,_,_,xs,rfl,s6,ae,hxl,fun k e z=>absurd z (Od _)⟩ ?_ ?_⟩
 ·rintro i σ H7 hi ⟨w5,w7,w8,w9,ws,rfl,s7,hw,wl,inv2⟩
  rw[Mv,hxl]at hi
  have e0:(0:Int)+(i:Int)=(i:Int):=Nf _
  rw[e0]
  have s17:=s15.trans s7
  have s27:=s5.trans s7
  obtain⟨l,hl⟩:∃ l,ts[i]?=some l:=⟨_,LS (by rw[w'.len];exact hi)⟩
  obtain⟨p,x1,x2⟩:=(tu.mono s17).2 i l hl
  have lpos:=g.rows h2 hl
  have llt:∀ k∈l,k<es.length:=fun k hk=>ot w' hl hk
  have lle:l.length<=es.length:=eY (w'.nd _ _ hl) llt
  have llen:(l.map iV).length=l.length:=LW _
  refine⟨_,rfl,t,_,1,_,rfl,rfl,SqT.of (s17 _ _ ht),at1,_,rfl,pt,xs,_,_,rfl,rfl,SqL.of (s17 _ _ hpt),aG x1,p,rfl,⟨_,SqL.of x2⟩,bH (K:=K) (xs:=l.map iV) (fun j zs H8=>H8=H7/\zs=((l.map (ofL o2)).map iV).take j) (by rw[llen];exact MX (ar (by omega))) ⟨rfl,rfl⟩ (fun j zs H8 _ z=>z.1▸SqL.of x2) ?_ ?_⟩
  ·rintro j x zs H8 hx ⟨rfl,rfl⟩
   rw[Mb]at hx
   obtain⟨k,hk,rfl⟩:=Ms.mp hx
   refine⟨_,rfl,_,rfl,q2,_,_,_,rfl,rfl,SqL.of (s27 _ _ h2'),aG (get2 _ (llt k (LV hk))),rfl,?_⟩
   rw[Mx,Mb,Mb,hk]
   rfl
  rintro zs H8 hzl ⟨rfl,rfl⟩ D hD
  rw[llen,MY (by rw[LW,LW];exact Ma _)]
  have sD:=aj hD (.lst ((l.map (ofL o2)).map iV))
  have dlen:((l.map (ofL o2)).map iV).length=l.length:=by rw[LW,LW]
  have dpos:(0:Int)<(((l.map (ofL o2)).map iV).length:Int):=by omega
  have c0:=Nw c (show(1009:Int)≠0 by decide)
  have c1:=ND c (show(0:Int)<1009 by decide)
  refine⟨_,rfl,_,_,rfl,rfl,(by show(0:Int)<1009;decide),_,rfl,_,_,rfl,rfl,_,_,rfl,rfl,.inl ⟨by show -(2^64:Int)<c%1009;omega,by show c%1009<(2^64:Int);omega⟩,_,rfl,D,_,rfl,.inl (SqL.of ae),_,_,rfl,rfl,dpos,?_⟩
  have u0:=Nw (c%1009*((i:Int)+1)) (show(((l.map (ofL o2)).map iV).length:Int)≠0 by omega)
  have u1:=ND (c%1009*((i:Int)+1)) dpos
  have hcut:c%1009*((i:Int)+1)%(((l.map (ofL o2)).map iV).length:Int)=((cutp c i l.length:Nat):Int):=by
   unfold cutp
   rw[dlen]at u0 ⊢
   exact(Oh u0).symm
  have cle:cutp c i l.length<=((l.map (ofL o2)).map iV).length:=by omega
  refine⟨_,rfl,_,rfl,_,rfl,D,_,rfl,SqL.of ae,fun b1' hb1=>?_⟩
  rw[hcut,cut_hi cle]
  have sB:=aj hb1 (.lst (((l.map (ofL o2)).map iV).drop (cutp c i l.length)))
  refine⟨_,rfl,_,rfl,_,rfl,D,_,rfl,SqL.of (sB _ _ ae),fun b2' hb2=>?_⟩
  rw[hcut,cut_lo cle]
  have sC:=aj hb2 (.lst (((l.map (ofL o2)).map iV).take (cutp c i l.length)))
  refine⟨b1',b2',_,_,rfl,rfl,sC _ _ ae,ae,by rw[Np,MT];exact MX (ar (by omega)),fun b3 hb3=>?_⟩
  have hrow:((l.map (ofL o2)).map iV).drop (cutp c i l.length)++((l.map (ofL o2)).map iV).take (cutp c i l.length)=(rowN c o2 i l).map iV:=by
   unfold rowN
   rw[MD,MD,OS,OS,OR,OR]
  rw[hrow]
  have sE:=aj hb3 (.lst ((rowN c o2 i l).map iV))
  have sAll:=((sD.trans sB).trans sC).trans sE
  refine⟨_,rfl,_,rfl,_,rfl,q1,_,_,_,rfl,rfl,SqL.of (sAll _ _ (s27 _ _ h1')),aG (get1 _ hi),qt,ws,_,ofL o1 i,rfl,rfl,sAll _ _ hw,qJ (by rw[wl];exact R.pi.lt i hi),?_⟩
  have b3t:b3≠qt:=fun z=>by rw[z,((sD.trans sB).trans sC) _ _ hw]at hb3;cases hb3
  refine⟨_,_,_,_,_,rfl,aL (s7.trans sAll) hqt _,ae,by rw[MR];exact wl,fun p' l' hp' hl'=>?_⟩
  by_cases z:p'=i
  ·subst z
   rw[hl]at hl'
   cases hl'
   exact⟨b3,by rw[MO,if_pos rfl,if_pos (by rw[wl];exact R.pi.lt p' hi)],by rw[aq b3t];exact ae,b3t⟩
  ·obtain⟨q,u1,u2,u3⟩:=inv2 p' l' (by omega) hl'
   have hpl:p'<m:=by rw[← w'.len];exact(LR.mp hl').1
   exact⟨q,by rw[MO,if_neg (fun y=>z (R.pi.inj _ _ hpl hi y.symm))];exact u1,by rw[aq u3];exact sAll _ _ u2,u3⟩
 rintro σ H7 ⟨w5,w7,w8,w9,ws,rfl,s7,hw,wl,inv2⟩
 rw[Mv,hxl]at inv2
 have tuN:bI H7 ws (ts2 c o1 o2 ts):=⟨by rw[wl,R.l2],fun j L h=>by
  have hj:j<m:=by rw[← R.l2];exact(LR.mp h).1
  obtain⟨p,hp,rfl⟩:=R.pi.sur j hj
  obtain⟨l,hl⟩:∃ l,ts[p]?=some l:=⟨_,LS (by rw[w'.len];exact hp)⟩
  obtain⟨q,z1,z2,_⟩:=inv2 p l hp hl
  refine⟨q,z1,?_⟩
  unfold ts2 at h
  rw[Mb,NS (by rw[w'.len];exact R.pi.lt p hp)]at h
  have h':some (rowN c o2 (o1.idxOf (ofL o1 p)) ((ts[o1.idxOf (ofL o1 p)]?).getD []))=some L:=h
  rw[GD n1 (by omega),hl]at h'
  cases h'
  exact z2⟩
 refine⟨_,rfl,_,rfl,(by show 2<=sizeLine;decide),fun t' ht'=>?_⟩
 have s8:=aj ht' (.tup [.ref qe,.ref qt])
 exact kk t' qe qt (en2 o1 o2 es) (ts2 c o1 o2 ts) _ ((s15.trans s7).trans s8) ae ⟨⟨zs,s8 _ _ (s7 _ _ hz),(enN.mono s7).mono s8⟩,⟨ws,s8 _ _ hw,tuN.mono s8⟩,R.gr g⟩ R.l1
end
end K8
namespace K8
open PySem L2
local macro_rules | `(tactic| walk_at "cc") => `(tactic| first | exact ⟨by decide, by decide⟩ | (show (0 : Int) < _; decide) | (show (0 : Int) < _; omega) | (show (0 : Int) ≤ _; omega) | exact ⟨by decide, by decide, by decide⟩ | exact ⟨by omega, by omega, by decide⟩ | exact Or.inl ⟨by decide, by decide⟩ | exact Or.inl ⟨by omega, by omega⟩)
local macro_rules | `(tactic| walk_at "rd") => `(tactic| repeat (first | refine ⟨_, rfl, ?_⟩ | refine ⟨_, _, rfl, rfl, ?_⟩ | refine ⟨rfl, ?_⟩ | (refine ⟨?cc, ?_⟩; (case cc => walk_at "cc"))))
theorem JH:bootBuiltins "min" = some (.builtin "min"):=by decide +kernel
abbrev Kn:=List (Int×Int)
def gw(H:Hp)(ws:List V)(ks:Kn):Prop:=ws.length=ks.length/\∀(i:Nat)(k:Int×Int),ks[i]?=some k->(k.1=0∨k.1=1)/\0<=k.2/\∃ p,ws[i]?=some (.ref p)/\H p=some (.tup [.int k.1,.int k.2])
theorem gw.mono{H H':Hp}{ws:List V}{ks:Kn}(h:gw H ws ks)(s:Same H H'):gw H' ws ks:=⟨h.1,fun i k z=>by
 obtain⟨a,b,p,c,d⟩:=h.2 i k z
 exact⟨a,b,p,c,s _ _ d⟩⟩
theorem gw.put{H:Hp}{ws:List V}{ks:Kn}{q:Addr}{zs:List V}{o:HO}(t:gw H ws ks)(h:H q=some (.lst zs)):gw (upd H q o) ws ks:=⟨t.1,fun i e z=>by
 obtain⟨u,v,p,a,b⟩:=t.2 i e z
 refine⟨u,v,p,a,?_⟩
 rw[aq (fun z=>by rw[z,h]at b;cases b)]
 exact b⟩
theorem gw.snoc{H:Hp}{ws:List V}{ks:Kn}{k:Int×Int}{p:Addr}(t:gw H ws ks)(h:H p=some (.tup [.int k.1,.int k.2]))(h1:k.1=0∨k.1=1)(h2:0<=k.2):gw H (ws++[.ref p]) (ks++[k]):=by
 refine⟨by rw[LX,LX,t.1];rfl,fun j x ej=>?_⟩
 by_cases hj:j<ks.length
 ·rw[L0 hj]at ej
  obtain⟨u,v,p,a1,a2⟩:=t.2 j x ej
  exact⟨u,v,p,by rw[L0 (by rw[t.1];exact hj)];exact a1,a2⟩
 ·rw[LY (by omega)]at ej
  have hj2:j=ks.length:=by
   have:=(LR.mp ej).1
   rw[Me]at this
   omega
  subst hj2
  rw[Mw]at ej
  cases ej
  exact⟨h1,h2,p,by rw[← t.1,LY (Ma _),Mw];rfl,h⟩
structure mL(H:Hp)(t pe pt pk:Addr)(m:Nat)(es:En)(ts:List (List Nat))(ks:Kn):Prop where
 t:H t=some (.tup [.ref pe,.ref pt,.ref pk])
 w:WebP H pe pt m es ts
 k:∃ ws,H pk=some (.lst ws)/\gw H ws ks
 few:es.length<=16
 kl:ks.length=es.length
theorem mL.mono{H H':Hp}{t pe pt pk:Addr}{m:Nat}{es:En}{ts:List (List Nat)}{ks:Kn}(h:mL H t pe pt pk m es ts ks)(s:Same H H'):mL H' t pe pt pk m es ts ks:=by
 obtain⟨a,b,⟨ws,c,d⟩,e,f⟩:=h
 exact⟨s _ _ a,b.mono s,⟨ws,s _ _ c,d.mono s⟩,e,f⟩
theorem Gr.two{m:Nat}{es:En}{ts:List (List Nat)}(g:Gr m es ts)(h:0<es.length):2<=m:=by
 obtain⟨a,b,c⟩:=g.w.ends _ (LV (LS h))
 omega
def uH(K:LU):Sp:=fun vs H Q _=>∃(a:Addr)(ns:List Int),vs = [.ref a,.int 1,.int 16]/\SqL K H a (ns.map V.int)/\ns.length<=63 /\
 ∀(t pe pt pk:Addr)(m:Nat)(es:En)(ts:List (List Nat))(ks:Kn)(H':Hp),Same H H'->mL H' t pe pt pk m es ts ks->Q (.ref t) H'
section
variable{P:Program}{w:World}{K:LU}{mg:Str->Option Value}{base:Heap}
theorem at30{u v x:V}:atI [u,v,x] 0=some u:=rfl
theorem at31{u v x:V}:atI [u,v,x] 1=some v:=rfl
theorem at32{u v x:V}:atI [u,v,x] 2=some x:=rfl
theorem cy:aE ["script","first","most","cells","grown","told","k","cell"] ["script","first","most"] (ai dh):=⟨rfl,rfl,rfl,by decide +kernel,rfl,by decide +kernel,by decide +kernel⟩
theorem FV{f fg fr fc:Addr}{fd fdg fdr fdc:FuncData} (F:Fun K "_law_built" "_law_built" dh f fd) (T:Txt mg) (G_law_grown:Cal P w K mg base 4 "_law_grown" ["cells"] (Am K) fg fdg) (G_law_renumbered:Cal P w K mg base 2 "_law_renumbered" ["grown","cell"] Kk fr fdr) (G_law_cell:Cal P w K mg base 1 "_law_cell" ["script","k"] (C4 K) fc fdc) :
  FnOk P w K mg base CX0 5 f fd ["script","first","most"] (uH K):=by
 refine F.ok cy (fun vs H Q E h=>?_) (fun cdv A outer s H vs Q E hr h=>?_)
 ·obtain⟨a,ns,rfl,_⟩:=h
  rfl
 obtain⟨a,ns,rfl,hS,h63,kk⟩:=h
 have hlen:(ns.map V.int).length=ns.length:=LW _
 refine⟨_,(af (mS (i:=3) rfl cy.nd rfl rfl (fr:=[("script",0)]) (by exact bK.one (by rfl) (by decide +kernel) (by rfl) (by decide +kernel) (by rfl) (by decide +kernel) (by rfl) (by rfl) (by decide +kernel) (by rfl)) (FD rfl T.n_range (aa (ay b7 (pv 1) ah) (aa (az (Hl rfl) (by rfl) T.n_min JH (aa (ay ye (az aw (by rfl) T.n_len bF (aa (pv 0) ag)) ah) (aa (ay ye (ay b7 (pv 1) (ay gq ah (pv 2))) ah) ag))) (aa ah ag)))) (fun C ex s H=>(aD (gX (K:=K) rfl) (pv 1) (pv 0) (fun _ _=>rfl))))
   (af (au (i:=4) cy.nd rfl (Or.inl rfl) (aF G_law_renumbered.ok (hr.mono (by decide)) rfl G_law_renumbered.mg G_law_renumbered.kp G_law_renumbered.bn .nil aW (aa (aF G_law_grown.ok (hr.mono (by decide)) rfl G_law_grown.mg G_law_grown.kp G_law_grown.bn .nil aW (aa (pv 3) ag)) (aa (aF G_law_cell.ok (hr.mono (by decide)) rfl G_law_cell.mg G_law_cell.kp G_law_cell.bn .nil aW (aa (pv 0) (aa (pv 1) ag))) ag))))
   (af (au (i:=5) cy.nd rfl (Or.inl rfl) (cH ag))
   (af (bC PassesOwn.never rfl (bP rfl T.n_range (aa (az aw (by rfl) T.n_len bF (aa (aD aI (pv 4) ah (fun _ _=>rfl)) ag)) ag)) (aJ (i:=6) cy.nd rfl (Or.inl rfl)) (af (au (i:=7) cy.nd rfl (Or.inl rfl) (aF G_law_cell.ok (hr.mono (by decide)) rfl G_law_cell.mg G_law_cell.kp G_law_cell.bn .nil aW (aa (pv 0) (aa (ay b7 (pv 1) (ay gq ah (pv 6))) ag))))
   (ao (aX (dI Mn Mz My aU (pv 5) (aa (b9 (aa (ay bD (pv 7) ah) (aa (ay bD (ay cQ (pv 7) ah) (ay b7 (ay op_pow ah ah) ah)) ag))) ag))))))
   (ao (aO (b9 (aa (aD aI (pv 4) ah (fun _ _=>rfl)) (aa (aD aI (pv 4) ah (fun _ _=>rfl)) (aa (pv 5) ag)))))))))),?_⟩
 have hn:Builtin.Range.rangeSize (1+1) (if(1+2*16-2:Int)<((ns.map V.int).length:Int)-1 then 1+2*16-2 else((ns.map V.int).length:Int)-1) 2=(((Builtin.Range.rangeSize (1+1) (if(1+2*16-2:Int)<((ns.map V.int).length:Int)-1 then 1+2*16-2 else((ns.map V.int).length:Int)-1) 2).toNat:Nat):Int):=by
  refine(Oh ?_).symm
  unfold Builtin.Range.rangeSize
  rw[if_pos (by decide)]
  split<;>omega
 have hb:∀ i:Nat,i<(Builtin.Range.rangeSize (1+1) (if(1+2*16-2:Int)<((ns.map V.int).length:Int)-1 then 1+2*16-2 else((ns.map V.int).length:Int)-1) 2).toNat->i<15/\2+2*i<ns.length:=fun i hi=>by
  rw[hlen]at hi
  unfold Builtin.Range.rangeSize at hi
  rw[if_pos (by decide)]at hi
  split at hi<;>split at hi<;>omega
 have hz:(Builtin.Range.rangeSize (1+1) (if(1+2*16-2:Int)<((ns.map V.int).length:Int)-1 then 1+2*16-2 else((ns.map V.int).length:Int)-1) 2).toNat<=15:=by
  by_cases z:(Builtin.Range.rangeSize (1+1) (if(1+2*16-2:Int)<((ns.map V.int).length:Int)-1 then 1+2*16-2 else((ns.map V.int).length:Int)-1) 2).toNat<=15
  ·exact z
  ·have:=(hb 15 (by omega)).1;omega
 refine⟨_,rfl,_,_,rfl,rfl,_,rfl,a,_,rfl,.inl hS,_,_,rfl,rfl,_,rfl,_,rfl,_,_,rfl,rfl,.inl ⟨by decide,by decide⟩,_,_,rfl,rfl,_,_,rfl,rfl,_,_,rfl,_,_,_,_,rfl,by decide,by decide,(by split<;>omega),(by split<;>omega),⟨by decide,by decide⟩,hn,?_⟩
 generalize (Builtin.Range.rangeSize (1+1) (if(1+2*16-2:Int)<((ns.map V.int).length:Int)-1 then 1+2*16-2 else((ns.map V.int).length:Int)-1) 2).toNat=N at hb hz
 refine Ct (fun i ys H2=>H2=H/\∃ cs:List Int,ys=cs.map V.int/\cs.length=i) (MX (ar (by omega))) ⟨rfl,[],rfl,rfl⟩ ?_ ?_
 ·rintro i ys H2 hi ⟨rfl,cs,rfl,cl⟩
  have hb':=(hb i hi).2
  have e0:(1+1:Int)+(i:Int)*2=((2+2*i:Nat):Int):=by omega
  rw[e0]
  refine⟨_,rfl,_,rfl,a,_,_,_,rfl,rfl,hS,aG (v:=.int ns[2+2*i]) (by rw[Mb,LS hb'];rfl),rfl,cs++[ns[2+2*i]],?_,by rw[LX,cl];rfl⟩
  rw[MD]
  rfl
 rintro ys H2 _ ⟨rfl,cs,rfl,cl⟩ b hb0
 have s1:=aj hb0 (.lst (cs.map V.int))
 refine⟨_,rfl,b,cs,rfl,SqL.of ae,by omega,fun t pe pt ys xs m es ts H3 s3 ht hpe hE hpt hR g hel=>?_⟩
 have s13:=s1.trans s3
 refine⟨_,rfl,_,rfl,a,1,ns,rfl,s13.seq hS,t,pe,pt,_,m,es,ts,rfl,ht,⟨⟨ys,hpe,hE⟩,⟨xs,hpt,hR⟩,g⟩,g.two (by omega),by omega,fun t' pe' pt' es' ts' H4 s4 ht' wp hel'=>?_⟩
 have s14:=s13.trans s4
 have hel2:es'.length<=16:=by omega
 refine⟨(by show 0<=sizeLine;decide),fun q hq=>?_⟩
 have s5:=aj hq (.lst [])
 obtain⟨zs,hz1,hz2⟩:=wp.en
 have hzl:zs.length=es'.length:=hz2.1
 refine⟨_,rfl,t',_,0,_,rfl,rfl,SqT.of (s5 _ _ ht'),at0,pe',zs,rfl,.inl (SqL.of (s5 _ _ hz1)),_,rfl,by omega,by omega,cf (n:=(zs.length:Int).toNat) (fun i σ H5=>∃ v6 v7 ws ks,σ = [some (.ref a),some (.int 1),some (.int 16),some (.ref b),some (.ref t'),some (.ref q),v6,v7]/\Same H4 H5/\H5 q=some (.lst ws)/\gw H5 ws ks/\ks.length=i) ⟨_,_,[],[],rfl,s5,ae,⟨rfl,fun i k z=>by simp at z⟩,rfl⟩ ?_ ?_⟩
 ·rintro i σ H5 hi ⟨v6,v7,ws,ks,rfl,s6,hw,tk,kl⟩
  rw[Mv,hzl]at hi
  have e0:(0:Int)+(i:Int)=(i:Int):=Nf _
  rw[e0]
  have wl:=tk.1
  refine⟨_,rfl,_,rfl,_,rfl,_,_,rfl,rfl,.inl ⟨by decide,by decide⟩,_,_,rfl,rfl,a,1+2*i,ns,(by rw[show((1+2*i:Nat):Int)=1+2*(i:Int) by omega];rfl),(s14.trans s6).seq hS,?_⟩
  refine⟨_,rfl,.inl ⟨rfl,_,SqL.of hw⟩,_,rfl,_,_,rfl,rfl,(by show(0:Int)<2;decide),_,rfl,_,_,rfl,rfl,⟨by decide,by decide⟩,_,_,rfl,rfl,⟨by decide,by decide,by decide⟩,_,_,rfl,rfl,_,_,rfl,rfl,(by show(0:Int)<10^(30:Int).toNat+1;decide),(by show 2<=sizeLine;decide),fun tt htt=>?_⟩
  have sn:=aj htt (.tup [.int (pC ns (1+2*i)%2),.int (pC ns (1+2*i)/2%(10^(30:Int).toNat+1))])
  refine⟨q,ws,_,rfl,rfl,sn _ _ hw,ar (by omega),?_⟩
  refine⟨_,_,_,ks++[(pC ns (1+2*i)%2,pC ns (1+2*i)/2%(10^(30:Int).toNat+1))],rfl,aL (s6.trans sn) hq _,ae,((tk.mono sn).snoc ae (by show pC ns (1+2*i)%2=0∨pC ns (1+2*i)%2=1;omega) (Nw _ (by decide))).put (sn _ _ hw),by rw[LX,kl];rfl⟩
 ·rintro σ H5 ⟨v6,v7,ws,ks,rfl,s6,hw,tk,kl⟩
  rw[Mv,hzl]at kl
  refine⟨_,rfl,t',_,0,_,rfl,rfl,SqT.of (s6 _ _ ht'),at0,_,rfl,t',_,1,_,rfl,rfl,SqT.of (s6 _ _ ht'),at1,_,rfl,(by show 3<=sizeLine;decide),fun tt htt=>?_⟩
  have sn:=aj htt (.tup [.ref pe',.ref pt',.ref q])
  exact kk tt pe' pt' q m es' ts' ks _ ((s14.trans s6).trans sn) ⟨ae,(wp.mono s6).mono sn,⟨ws,sn _ _ hw,tk.mono sn⟩,hel2,kl⟩
end
end K8
namespace K8
open PySem L2
local macro_rules | `(tactic| walk_at "cc") => `(tactic| first | exact ⟨by decide, by decide⟩ | (show (0 : Int) < _; decide) | (show (0 : Int) < _; omega) | (show (0 : Int) ≤ _; omega) | exact ⟨by decide, by decide, by decide⟩ | exact ⟨by omega, by omega, by decide⟩ | exact Or.inl ⟨by decide, by decide⟩ | exact Or.inl ⟨by omega, by omega⟩)
local macro_rules | `(tactic| walk_at "rd") => `(tactic| repeat (first | refine ⟨_, rfl, ?_⟩ | refine ⟨_, _, rfl, rfl, ?_⟩ | refine ⟨rfl, ?_⟩ | (refine ⟨?cc, ?_⟩; (case cc => walk_at "cc"))))
theorem andN(a b:Nat):Builtin.bitAnd (a:Int) (b:Int)=((a&&&b:Nat):Int):=by
 rw[PyProof.Rows.bitAnd_pp (OT _) (OT _),Mv,Mv]
theorem orN(a b:Nat):Builtin.bitOr (a:Int) (b:Int)=((a|||b:Nat):Int):=by
 rw[PyProof.Rows.bitOr_and,andN]
 have q:=PyProof.Rows.nat_or_add_and a b
 omega
theorem shlN(p:Nat):(1:Int)*2^((p:Nat):Int).toNat=((2^p:Nat):Int):=by
 rw[Int.one_mul,Mv,Int.natCast_pow]
 rfl
theorem Ib{M p q:Nat}:(M&&&(2^p|||2^q)=0↔M.testBit p=false/\M.testBit q=false)/\(M|||(2^p|||2^q)=M->M.testBit p=true/\M.testBit q=true):=by
 have b1:∀ i,(2^p|||2^q).testBit i=(decide (p=i)||decide (q=i)):=fun i=>by rw[M8,MM,MM]
 refine⟨⟨fun h=>?_,fun⟨h1,h2⟩=>?_⟩,fun h=>?_⟩
 ·have h1:=congrArg (fun z=>O7 z p) h
  have h2:=congrArg (fun z=>O7 z q) h
  simp only[Nn,b1,M3]at h1 h2
  constructor
  ·simpa using h1
  ·simpa using h2
 ·refine M1 fun i=>?_
  rw[Nn,b1,M3]
  by_cases z1:p=i
  ·subst z1;rw[h1];rfl
  ·by_cases z2:q=i
   ·subst z2;rw[h2];rfl
   ·simp[z1,z2]
 ·have h1:=congrArg (fun z=>O7 z p) h
  have h2:=congrArg (fun z=>O7 z q) h
  simp only[M8 (x:=M),b1]at h1 h2
  constructor
  ·simpa using h1.symm
  ·simpa using h2.symm
theorem GO{M m:Nat}(h:M<2^m)(k:∀ p,p<m->M.testBit p=true):M=2^m-1:=by
 refine M1 fun i=>?_
 rw[Nv]
 by_cases z:i<m
 ·rw[k i z,decide_eq_true z]
 ·rw[decide_eq_false z]
  exact Nx (MF h (NF (by decide) (by omega)))
def Aj(K:LU):Sp:=fun vs H Q _=>∃(a:Addr)(ys:List V)(m:Nat)(es:En)(ts:List (List Nat)),vs = [.int 0,.ref a]/\SqL K H a ys/\bV H ys es/\Gr m es ts/\2<=m/\m<=40/\Q (.int ((2^m-1:Nat):Int)) H
section
variable{P:Program}{w:World}{K:LU}{mg:Str->Option Value}{base:Heap}
theorem cx:aE ["start","pairs","mask","ahead","one","two","ends"] ["start","pairs"] (ai gg):=⟨rfl,rfl,rfl,by decide +kernel,rfl,by decide +kernel,by decide +kernel⟩
theorem DR{f:Addr}{fd:FuncData} (F:Fun K "reached" "reached" gg f fd):FnOk P w K mg base CX0 1 f fd ["start","pairs"] (Aj K):=by
 refine F.ok cx (fun vs H Q E h=>?_) (fun cdv A outer s H vs Q E hr h=>?_)
 ·obtain⟨a,ys,m,es,ts,rfl,_⟩:=h
  rfl
 obtain⟨a,ys,m,es,ts,rfl,hS,hE,g,m2,m40,kk⟩:=h
 refine⟨_,(af (au (i:=2) cx.nd rfl (Or.inl rfl) (ay iK ah (pv 0)))
   (af (au (i:=3) cx.nd rfl (Or.inl rfl) ah)
   (af (pN PassesOwn.never (aM vk (pv 2) (pv 3) (aR _)) (af (au (i:=3) cx.nd rfl (Or.inl rfl) (pv 2))
   (ao (bC PassesOwn.never rfl (aV (pv 1)) (qg rfl (bG (aJ (i:=4) cx.nd rfl (Or.inl rfl)) (bG (aJ (i:=5) cx.nd rfl (Or.inl rfl)) kr))) (af (au (i:=6) cx.nd rfl (Or.inl rfl) (ay A3 (ay iK ah (pv 4)) (ay iK ah (pv 5))))
   (ao (dm (aM vk (ay tV (pv 2) (pv 6)) ah (aR _)) (ao (au (i:=2) cx.nd rfl (Or.inl rfl) (ay A3 (pv 2) (pv 6)))) bc)))))))
   (ao (aO (pv 2)))))),?_⟩
 refine⟨_,rfl,_,_,rfl,rfl,⟨by decide,by decide,by decide⟩,?_⟩
 have p2:∀ p,p<m->2^p<2^m:=fun p hp=>Nat.pow_lt_pow_right (by decide) hp
 refine pH (fun σ H2=>∃(M Ah:Nat),∃ v4 v5 v6,H2=H/\σ = [some (.int 0),some (.ref a),some (.int (M:Int)),some (.int (Ah:Int)),v4,v5,v6]/\M.testBit 0=true/\M<2^m/\(M=Ah->∀ e∈es,M.testBit e.1=M.testBit e.2))
  (fun σ _=>match σ with | [_,_,some (.int M),some (.int Ah),_,_,_]=>2*((2^m:Nat)-M).toNat+(if M=Ah then 0 else 1) | _=>0) ⟨1,0,_,_,_,rfl,rfl,by decide,Nat.one_lt_two_pow (by omega),fun z=>absurd z (by decide)⟩ ?_ ?_
 ·rintro σ H2 ⟨M,Ah,v4,v5,v6,rfl,rfl,b0,hM,cl⟩
  refine⟨_,rfl,_,rfl,rfl,_,rfl,?_⟩
  refine ite2 (fun c=>?_) (fun c=>?_)
  ·have c':M≠Ah:=fun z=>by
    rw[decide_eq_true (show V.int (M:Int)=V.int (Ah:Int) by rw[z])]at c
    cases c
   refine⟨_,rfl,?_⟩
   refine⟨_,rfl,a,rfl,⟨_,hS⟩,cn (K:=K) (xs:=ys) (fun i σ H3=>∃(M':Nat),∃ v4 v5 v6,H3=H2/\σ = [some (.int 0),some (.ref a),some (.int (M':Int)),some (.int (M:Int)),v4,v5,v6]/\M'.testBit 0=true/\M'<2^m/\M<=M'/\(M'=M->∀(j:Nat)(e:Nat×Nat),j<i->es[j]?=some e->M.testBit e.1=M.testBit e.2)) ⟨M,_,_,_,rfl,rfl,b0,hM,Ma _,fun _ j e z=>absurd z (Od _)⟩ (fun i σ H3 _ ⟨_,_,_,_,z,_⟩=>z▸hS) ?_ ?_⟩
   ·rintro i x σ H3 hx ⟨M',v4,v5,v6,rfl,rfl,b0',hM',hle,cl'⟩
    have hi:i<es.length:=by rw[← hE.1];exact(LR.mp hx).1
    obtain⟨e,he⟩:∃ e,es[i]?=some e:=⟨_,LS hi⟩
    obtain⟨p,x1,x2⟩:=hE.2 i e he
    rw[hx]at x1
    cases x1
    obtain⟨e1,e2,_⟩:=g.w.ends e (LV he)
    obtain⟨t1,t2⟩:=Ib (M:=M') (p:=e.1) (q:=e.2)
    refine⟨p,_,rfl,SqT.of x2,rfl,_,_,rfl,_,_,rfl,rfl,?_⟩
    refine⟨_,rfl,_,_,rfl,rfl,⟨by omega,by omega,by decide⟩,_,rfl,_,_,rfl,rfl,⟨by omega,by omega,by decide⟩,_,_,rfl,rfl,?_⟩
    have eo:Builtin.bitOr (1*2^((e.1:Nat):Int).toNat) (1*2^((e.2:Nat):Int).toNat)=((2^e.1|||2^e.2:Nat):Int):=by rw[shlN,shlN,orN]
    refine⟨_,rfl,_,rfl,_,_,rfl,rfl,rfl,_,rfl,?_⟩
    have step:∀ M'':Nat,M'<=M''->(M''=M'->M'.testBit e.1=M'.testBit e.2)->M''=M->∀(j:Nat)(x:Nat×Nat),j<i+1->es[j]?=some x->M.testBit x.1=M.testBit x.2:=fun M'' h1 h2 h3 j x hj hx'=>by
     have e3:M'=M:=by omega
     by_cases z:j=i
     ·subst z
      rw[he]at hx'
      cases hx'
      have:=h2 (by omega)
      rwa[e3]at this
     ·exact cl' e3 j x (by omega) hx'
    refine ite2 (fun c=>?_) (fun c=>?_)
    ·refine⟨_,rfl,_,rfl,_,_,rfl,rfl,?_⟩
     refine⟨M'|||(2^e.1|||2^e.2),some (iV e.1),some (iV e.2),some (V.int (Builtin.bitOr (1*2^((e.1:Nat):Int).toNat) (1*2^((e.2:Nat):Int).toNat))),rfl,?_,?_,Nat.or_lt_two_pow hM' (Nat.or_lt_two_pow (p2 _ e1) (p2 _ e2)),MZ hle Nat.left_le_or,step _ Nat.left_le_or fun z=>?_⟩
     ·show[some (V.int 0),some (V.ref a),some (V.int (Builtin.bitOr (M':Int) (Builtin.bitOr (1*2^((e.1:Nat):Int).toNat) (1*2^((e.2:Nat):Int).toNat)))),some (V.int (M:Int)),some (iV e.1),some (iV e.2),some (V.int (Builtin.bitOr (1*2^((e.1:Nat):Int).toNat) (1*2^((e.2:Nat):Int).toNat)))]=_
      rw[eo,orN]
     ·rw[M8,b0'];rfl
     ·obtain⟨u1,u2⟩:=t2 z
      rw[u1,u2]
    ·refine⟨M',_,_,_,rfl,rfl,b0',hM',hle,step M' (Ma _) fun _=>?_⟩
     have c3:M'&&&(2^e.1|||2^e.2)=0:=by
      by_cases z:M'&&&(2^e.1|||2^e.2)=0
      ·exact z
      ·refine absurd ?_ c
       rw[decide_eq_false (fun y=>z ?_)]
       ·rfl
       ·have y':=V.int.inj y
        rw[eo,andN]at y'
        omega
     obtain⟨u1,u2⟩:=t1.mp c3
     rw[u1,u2]
   ·rintro σ H3 ⟨M',v4,v5,v6,rfl,rfl,b0',hM',hle,cl'⟩
    rw[hE.1]at cl'
    refine⟨⟨M',M,_,_,_,rfl,rfl,b0',hM',fun z e he=>?_⟩,?_⟩
    ·obtain⟨j,hj⟩:=M4.mp he
     have:=cl' z j e (LR.mp hj).1 hj
     rw[z]
     exact this
    ·show 2*(((2^m:Nat):Int)-(M':Int)).toNat+(if(M':Int)=(M:Int) then 0 else 1)<2*(((2^m:Nat):Int)-(M:Int)).toNat+(if(M:Int)=(Ah:Int) then 0 else 1)
     rw[if_neg (show ¬ (M:Int)=(Ah:Int) from fun z=>c' (by omega))]
     have hMi:(M':Int)<((2^m:Nat):Int):=by exact_mod_cast hM'
     have hMj:(M:Int)<=(M':Int):=by omega
     generalize ((2^m:Nat):Int)=Z at hMi ⊢
     split<;>omega
  ·have c':M=Ah:=by
    by_cases z:M=Ah
    ·exact z
    ·exact absurd (by rw[decide_eq_false (fun y=>z (by have:=V.int.inj y;omega))];rfl) c
   have full:=GO hM fun p hp=>by
    have:=g.conn (fun x=>M.testBit x=true) (fun e he=>by rw[cl c' e he]) 0 p (by omega) hp b0
    exact this
   refine⟨_,rfl,?_⟩
   rw[full]
   exact kk
 ·rintro σ H2 Q1 Q2 hi ⟨v',e,b',e2,z1,c',e3,q'⟩
  exact⟨v',e,b',e2,z1,c',e3,hi _ _ q'⟩
end
end K8
namespace K8
open PySem L2
local macro_rules | `(tactic| walk_at "cc") => `(tactic| first | exact ⟨by decide, by decide⟩ | (show (0 : Int) < _; decide) | (show (0 : Int) < _; omega) | (show (0 : Int) ≤ _; omega) | exact ⟨by decide, by decide, by decide⟩ | exact ⟨by omega, by omega, by decide⟩ | exact Or.inl ⟨by decide, by decide⟩ | exact Or.inl ⟨by omega, by omega⟩)
local macro_rules | `(tactic| walk_at "rd") => `(tactic| repeat (first | refine ⟨_, rfl, ?_⟩ | refine ⟨_, _, rfl, rfl, ?_⟩ | refine ⟨rfl, ?_⟩ | (refine ⟨?cc, ?_⟩; (case cc => walk_at "cc"))))
theorem mO:∀{a b:List Int},a.Perm b->a.Pairwise (·<=·)->b.Pairwise (·<=·)->a=b
 |[],b,h,_,_=>(List.nil_perm.mp h).symm▸rfl
 |x::a,[],h,_,_=>absurd h.length_eq (by simp)
 |x::a,y::b,h,pa,pb=>by
  obtain⟨a1,a2⟩:=Oj.mp pa
  obtain⟨b1,b2⟩:=Oj.mp pb
  have h1:x<=y:=by
   rcases LZ.mp (h.mem_iff.mpr (MB ..):y∈x::a)with z | z
   ·rw[z];exact NT _
   ·exact a1 y z
  have h2:y<=x:=by
   rcases LZ.mp (h.mem_iff.mp (MB ..):x∈y::b)with z | z
   ·rw[z];exact NT _
   ·exact b1 x z
  have e:x=y:=Int.le_antisymm h1 h2
  subst e
  rw[mO (List.Perm.cons_inv h) a2 b2]
def cI(l:List Nat):List Int:=l.map fun(p:Nat)=>((p:Nat):Int)
theorem cI_V(l:List Nat):(cI l).map V.int=l.map iV:=by unfold cI;rw[Nk];rfl
theorem Kq{l r:List Nat}{out:List Int}(hp:out.Perm (cI l))(hs:out.Pairwise (·<=·))(nl:l.Nodup)(pr:r.Pairwise (· < ·))(hm:∀ t,t∈l↔t∈r):out=cI r:=by
 have nr:r.Nodup:=pr.imp fun h=>ME h
 have q:(cI l).Perm (cI r):=((NP nl nr).mpr hm).map _
 refine mO (hp.trans q) hs ?_
 unfold cI
 exact N9.map _ (fun a b h=>by omega) pr
theorem GB{l:List Nat}{n:Nat}:ins l l.length n=l++[n]:=by
 unfold ins
 rw[MI,List.drop_length]
def Al(K:LU):Sp:=fun vs H Q _=>∃(a:Addr)(xs:List V)(m:Nat)(es:En),vs = [.int (m:Int),.ref a]/\SqL K H a xs/\dZ K H xs es/\(∀ e∈es,e.1<m/\e.2<m)/\Q .non H
def uD(K:LU):Sp:=fun vs H Q _=>∃(a b:Addr)(xs zs:List V)(m:Nat)(es:En)(ts:List (List Nat)),vs = [.int (m:Int),.ref a,.ref b]/\SqL K H a xs/\dZ K H xs es/\SqL K H b zs/\bI H zs ts/\bt m es ts/\es.length<=16/\m<=40/\∀ H',Same H H'->Q .non H'
def Ak(K:LU):Sp:=fun vs H Q _=>∃(a:Addr)(xs:List V)(m:Nat)(es:En)(ts:List (List Nat)),vs = [.int (m:Int),.ref a]/\SqL K H a xs/\dZ K H xs es/\Gr m es ts/\2<=m/\m<=40/\es.length<=16/\∀ H',Same H H'->Q .non H'
section
variable{P:Program}{w:World}{K:LU}{mg:Str->Option Value}{base:Heap}
theorem j8:aE ["many","ties","tie"] ["many","ties"] (ai bZ):=⟨rfl,rfl,rfl,by decide +kernel,rfl,by decide +kernel,by decide +kernel⟩
theorem IK{f:Addr}{fd:FuncData} (F:Fun K "refuse_ends" "refuse_ends" bZ f fd):FnOk P w K mg base CX0 1 f fd ["many","ties"] (Al K):=by
 refine F.ok j8 (fun vs H Q E h=>?_) (fun cdv A outer s H vs Q E hr h=>?_)
 ·obtain⟨a,xs,m,es,rfl,_⟩:=h
  rfl
 obtain⟨a,xs,m,es,rfl,hS,hT,hm,k⟩:=h
 refine⟨_,(ao (bC PassesOwn.never rfl (aV (pv 1)) (aJ (i:=2) j8.nd rfl (Or.inl rfl)) (ao (dm (PW.pt (Iq (aM KQ (cP (pv 2) rfl) (pv 0) (aR _)) (C7 (aM KQ (cP (pv 2) rfl) (pv 0) (aR _))))) (ao gD) bc)))),?_⟩
 refine⟨_,rfl,a,rfl,⟨_,hS⟩,cn (K:=K) (xs:=xs) (fun i σ H2=>∃ v2,σ = [some (.int (m:Int)),some (.ref a),v2]/\H2=H) ⟨_,rfl,rfl⟩ (fun i σ H2 _ ⟨_,_,z⟩=>z▸hS) ?_ ?_⟩
 ·rintro i x σ H2 hx ⟨v2,rfl,rfl⟩
  have hi:i<es.length:=by rw[← hT.1];exact(LR.mp hx).1
  obtain⟨e,he⟩:∃ e,es[i]?=some e:=⟨_,LS hi⟩
  obtain⟨p,C,dx,st,x1,x2,x3⟩:=hT.2 i e he
  rw[hx]at x1
  cases x1
  obtain⟨e1,e2⟩:=hm e (LV he)
  refine⟨_,rfl,p,C,dx,_,_,rfl,x2,x3.cl,x3.n1,lO _ _ _,_,rfl,_,_,rfl,rfl,_,rfl,?_⟩
  refine ite2 (fun c=>absurd (of_decide_eq_true c) (by omega)) (fun _=>?_)
  refine⟨_,rfl,p,C,dx,_,_,rfl,x2,x3.cl,x3.n2,pY _ _ _,_,rfl,_,_,rfl,rfl,_,rfl,?_⟩
  refine ite2 (fun c=>absurd (of_decide_eq_true c) (by omega)) (fun _=>?_)
  exact⟨_,rfl,rfl⟩
 ·rintro σ H2 ⟨v2,rfl,rfl⟩
  exact k
theorem cO:aE ["many","ties","turns","ending","number","tie"] ["many","ties","turns"] (ai bL):=⟨rfl,rfl,rfl,by decide +kernel,rfl,by decide +kernel,by decide +kernel⟩
theorem FR{f:Addr}{fd:FuncData} (F:Fun K "refuse_turns" "refuse_turns" bL f fd) (T:Txt mg):FnOk P w K mg base CX0 1 f fd ["many","ties","turns"] (uD K):=by
 refine F.ok cO (fun vs H Q E h=>?_) (fun cdv A outer s H vs Q E hr h=>?_)
 ·obtain⟨a,b,xs,zs,m,es,ts,rfl,_⟩:=h
  rfl
 obtain⟨a,b,xs,zs,m,es,ts,rfl,hS,hT,hB,hR,w',few,m40,kk⟩:=h
 have hu64:=hr.units
 refine⟨_,(af (mS (i:=3) rfl cO.nd rfl rfl (fr:=[]) (by exact bK.plain (by rfl) (by decide +kernel) (by rfl) (by decide +kernel) (by rfl) (by decide +kernel)) (bP rfl T.n_range (aa (pv 0) ag)) (fun C ex s H=>(cH ag)))
   (af (bC PassesOwn.never rfl (FG rfl T.n_enumerate (aa (pv 1) ag)) (qg rfl (bG (aJ (i:=4) cO.nd rfl (Or.inl rfl)) (bG (aJ (i:=5) cO.nd rfl (Or.inl rfl)) kr))) (af (aX (dI Mn Mz My aU (aD aK (pv 3) (cP (pv 5) rfl) (fun _ _=>rfl)) (aa (pv 4) ag)))
   (ao (aX (dI Mn Mz My aU (aD aK (pv 3) (cP (pv 5) rfl) (fun _ _=>rfl)) (aa (pv 4) ag))))))
   (ao (dm (aM (JB hu64) (dH rfl (fr:=[]) (by exact bK.plain (by rfl) (by decide +kernel) (by rfl) (by decide +kernel) (by rfl) (by decide +kernel)) (aV (pv 2)) (fun C ex s H=>(az (zE (K:=K) rfl) (by rfl) T.n_sorted rh (aa (pv 0) ag)))) (pv 3) (aR _)) (ao gD) bc)))),?_⟩
 refine⟨_,rfl,_,rfl,by omega,by omega,ua (n:=(m:Int).toNat) (fun i ys H2=>Same H H2/\cX (fun p=>H p≠none) H2 ys (Ng i [])/\Dist ys) (by rw[Mv];exact MX (ar (by omega))) ⟨fun _ _ e=>e,⟨rfl,fun i l e=>by simp at e⟩,fun i j p e=>by simp at e⟩ ?_ ?_⟩
 ·rintro i ys H2 hi ⟨s2,rx,D⟩
  refine⟨(by show 0<=sizeLine;decide),fun l hl=>?_⟩
  have s3:=aj hl (.lst [])
  refine⟨s2.trans s3,?_,y9 rx D hl⟩
  rw[OG]
  refine(rx.mono fun b u _ z=>s3 _ _ z).snoc (fun z=>z ?_) ae
  cases y:H l with
  |none=>rfl
  |some o=>rw[s2 _ _ y]at hl;cases hl
 rintro ys H2 hyl ⟨s2,rx,D⟩ pn hpn
 rw[Mv]at rx
 have s3:=aj hpn (.lst ys)
 have hpn0:H pn=none:=by
  cases y:H pn with
  |none=>rfl
  |some o=>rw[s2 _ _ y]at hpn;cases hpn
 have rx3:cX (fun p=>p=pn∨H p≠none) (upd H2 pn (.lst ys)) ys (Ng m []):=⟨rx.1,fun i l z=>by
  obtain⟨p,a1,a2,a3⟩:=rx.2 i l z
  have n2:p≠pn:=aB a3 hpn
  exact⟨p,a1,by rintro(y | y);exact n2 y;exact a2 y,s3 _ _ a3⟩⟩
 refine⟨_,rfl,a,rfl,⟨_,(s2.trans s3).seq hS⟩,Dn (K:=K) (xs:=xs) (fun i σ H5=>∃ v4 v5 rows,σ = [some (.int (m:Int)),some (.ref a),some (.ref b),some (.ref pn),v4,v5]/\Same H H5/\H5 pn=some (.lst ys)/\cX (fun p=>p=pn∨H p≠none) H5 ys rows/\bt m (es.take i) rows/\∀ r∈rows,r.Pairwise (· < ·))
  ⟨_,_,_,rfl,s2.trans s3,ae,rx3,Ic m,fun r hr=>by rw[(List.mem_replicate.mp hr).2];exact Ov⟩ (fun i σ H5 _ ⟨_,_,_,_,z,_⟩=>z.seq hS) ?_ ?_⟩
 ·rintro i x σ H5 T2 hx ⟨v4,v5,rows,rfl,s5,hpn5,rx5,w5,pw⟩ hT2
  have hi:i<es.length:=by rw[← hT.1];exact(LR.mp hx).1
  obtain⟨e,he⟩:∃ e,es[i]?=some e:=⟨_,LS hi⟩
  obtain⟨p,C,dx,st,x1,x2,x3⟩:=hT.2 i e he
  rw[hx]at x1
  cases x1
  have sT:=aj hT2 (.tup [.int (i:Int),.ref p])
  have s6:=s5.trans sT
  have x6:=s6 _ _ x2
  obtain⟨e1,e2,e3⟩:=w'.ends e (LV he)
  have til:(es.take i).length=i:=by rw[MT];omega
  have rlen:=w5.len
  obtain⟨l,hl⟩:∃ l,rows[e.1]?=some l:=⟨_,LS (by omega)⟩
  obtain⟨l',hl'⟩:∃ l,rows[e.2]?=some l:=⟨_,LS (by omega)⟩
  have rx6:cX (fun p=>p=pn∨H p≠none) (upd H5 T2 (.tup [.int (i:Int),.ref p])) ys rows:=rx5.mono fun b u _ z=>sT _ _ z
  obtain⟨p1,y1,y2,y3⟩:=rx6.2 _ _ hl
  obtain⟨p2,z1,z2,z3⟩:=rx6.2 _ _ hl'
  have no_S:∀{p:Addr},¬ (p=pn∨H p≠none)->H p=none/\p≠pn:=fun{p} n=>by
   refine⟨?_,fun z=>n (.inl z)⟩
   cases y:H p with
   |none=>rfl
   |some o=>exact absurd (.inr (by rw[y];exact fun z=>nomatch z)) n
  obtain⟨hp1,np1⟩:=no_S y2
  obtain⟨hp2,np2⟩:=no_S z2
  have n12:p2≠p1:=fun y=>by rw[y]at z1;exact e3 (D _ _ p1 y1 z1)
  have ll:∀{q:Nat}{r:List Nat},rows[q]?=some r->∀ t∈r,t<i:=fun{q r} h t ht=>by
   have:=ot w5 h ht
   omega
  have lle:∀{q:Nat}{r:List Nat},rows[q]?=some r->r.length<=16:=fun{q r} h=>by
   have:=eY (w5.nd _ _ h) (ll h)
   omega
  have f1:=lle hl
  have f2:=lle hl'
  have hpn6:=sT _ _ hpn5
  refine⟨T2,_,rfl,SqT.of ae,rfl,_,_,rfl,_,_,rfl,rfl,?_⟩
  refine⟨_,rfl,_,rfl,p,C,dx,_,_,rfl,x6,x3.cl,x3.n1,lO _ _ _,pn,ys,_,_,rfl,rfl,SqL.of hpn6,aG y1,.inl ⟨rfl,_,SqL.of y3⟩,_,rfl,p1,_,_,rfl,rfl,y3,ar (by rw[LW];omega),?_⟩
  have e1':(l.map iV)++[V.int (i:Int)]=(l++[i]).map iV:=by rw[MD];rfl
  rw[e1']
  have x7:(upd (upd H5 T2 (.tup [.int (i:Int),.ref p])) p1 (.lst ((l++[i]).map iV))) p=some (.ins C dx (tf (e.1:Int) (e.2:Int) st)):=by rw[aq (fun z=>by rw[z]at x2;rw[x2]at hp1;cases hp1)];exact x6
  have hpn7:(upd (upd H5 T2 (.tup [.int (i:Int),.ref p])) p1 (.lst ((l++[i]).map iV))) pn=some (.lst ys):=by rw[aq np1.symm];exact hpn6
  have z7:(upd (upd H5 T2 (.tup [.int (i:Int),.ref p])) p1 (.lst ((l++[i]).map iV))) p2=some (.lst (l'.map iV)):=by rw[aq n12];exact z3
  refine⟨_,rfl,_,rfl,p,C,dx,_,_,rfl,x7,x3.cl,x3.n2,pY _ _ _,pn,ys,_,_,rfl,rfl,SqL.of hpn7,aG z1,.inl ⟨rfl,_,SqL.of z7⟩,_,rfl,p2,_,_,rfl,rfl,z7,ar (by rw[LW];omega),?_⟩
  have e2':(l'.map iV)++[V.int (i:Int)]=(l'++[i]).map iV:=by rw[MD];rfl
  rw[e2']
  refine⟨_,_,(rows.set e.1 (l++[i])).set e.2 (l'++[i]),rfl,aL (aL s6 hp1 _) hp2 _,by rw[aq np2.symm];exact hpn7,(rx6.set D y1).set D z1,?_,fun r hr=>?_⟩
  ·have q:=w5.put (k:=l.length) (j:=l'.length) e1 e2 e3 hl hl'
   rw[GB,GB,til]at q
   rw[Mx,he]
   exact q
  ·have app:∀{q:Nat}{r:List Nat},rows[q]?=some r->(r++[i]).Pairwise (· < ·):=fun{q r} h=>List.pairwise_append.mpr ⟨pw r (LV h),List.pairwise_singleton _ _,fun x hx y hy=>by
    have:=ll h x hx
    have:y=i:=by simpa using hy
    omega⟩
   rcases Pd hr with z | z
   ·rcases Pd z with z | z
    ·exact pw r z
    ·rw[z];exact app hl
   ·rw[z];exact app hl'
 rintro σ H5 ⟨v4,v5,rows,rfl,s5,hpn5,rx5,w5,pw⟩
 rw[hT.1,MI]at w5
 have hzl:zs.length=m:=by rw[hR.1,w'.len]
 refine⟨_,rfl,b,rfl,⟨_,s5.seq hB⟩,bH (K:=K) (xs:=zs) (fun i vs H6=>Same H5 H6/\bI H6 vs (rows.take i)) (MX (ar (by omega))) ⟨fun _ _ e=>e,rfl,fun i l e=>by simp at e⟩ (fun i vs H6 _ z=>(s5.trans z.1).seq hB) ?_ ?_⟩
 ·rintro i x vs H6 hx ⟨s6,rz⟩
  have hi:i<ts.length:=by rw[← hR.1];exact(LR.mp hx).1
  obtain⟨l,hl⟩:∃ l,ts[i]?=some l:=⟨_,LS hi⟩
  obtain⟨r,hr'⟩:∃ r,rows[i]?=some r:=⟨_,LS (by rw[w5.len,← w'.len];exact hi)⟩
  obtain⟨p,a1,a2⟩:=(hR.mono (s5.trans s6)).2 i l hl
  rw[hx]at a1
  cases a1
  have hll:l.length<=16:=MZ (eY (w'.nd _ _ hl) fun t ht=>ot w' hl ht) few
  refine⟨_,rfl,p,cI l,rfl,(by rw[cI_V];exact SqL.of a2),(by unfold cI;rw[LW];omega),fun q out hq hp hs=>?_⟩
  have eo:=Kq hp hs (w'.nd _ _ hl) (pw r (LV hr')) fun t=>(w'.mem i l hl t).trans (w5.mem i r hr' t).symm
  subst eo
  have s7:=aj hq (.lst ((cI r).map V.int))
  refine⟨s6.trans s7,?_⟩
  rw[show rows.take (i+1)=rows.take i++[r] by rw[Mx,hr'];rfl]
  exact(rz.mono s7).snoc (by rw[ae,cI_V])
 rintro vs H6 _ ⟨s6,rz⟩ D' hD'
 rw[hzl,← w5.len,MI]at rz
 have s7:=aj hD' (.lst vs)
 have s67:=s6.trans s7
 refine⟨_,rfl,_,Fu (SqL.of ae) (rz.mono s7),Fu (SqL.of (s67 _ _ hpn5)) (rx5.off.mono s67),AG rows,_,rfl,iteF ?_⟩
 exact kk _ (s5.trans s67)
theorem oX:aE ["many","ties"] ["many","ties"] (ai bz):=⟨rfl,rfl,rfl,by decide +kernel,rfl,by decide +kernel,by decide +kernel⟩
theorem IJ{f fr:Addr}{fd fdr:FuncData} (F:Fun K "refuse_parted" "refuse_parted" bz f fd) (G_reached:Cal P w K mg base 1 "reached" ["start","pairs"] (Aj K) fr fdr):FnOk P w K mg base CX0 2 f fd ["many","ties"] (Ak K):=by
 refine F.ok oX (fun vs H Q E h=>?_) (fun cdv A outer s H vs Q E hr h=>?_)
 ·obtain⟨a,xs,m,es,ts,rfl,_⟩:=h
  rfl
 obtain⟨a,xs,m,es,ts,rfl,hS,hT,g,m2,m40,few,kk⟩:=h
 have hul:xs.length=es.length:=hT.1
 refine⟨_,(ao (dm (aM vk (aF G_reached.ok (hr.mono (by decide)) rfl G_reached.mg G_reached.kp G_reached.bn .nil aW (aa ah (aa (dH rfl (fr:=[]) (by exact bK.plain (by rfl) (by decide +kernel) (by rfl) (by decide +kernel) (by rfl) (by decide +kernel)) (aV (pv 1)) (fun C ex s H=>(b9 (aa (vi (K:=K) rfl (pv 0) rfl) (aa (vi (K:=K) rfl (pv 0) rfl) ag))))) ag))) (ay ye (ay iK ah (pv 0)) ah) (aR _)) (ao gD) bc)),?_⟩
 refine⟨_,rfl,a,rfl,⟨_,hS⟩,bH (K:=K) (xs:=xs) (fun i zs H11=>Same H H11/\bV H11 zs (es.take i)) (MX (ar (by omega))) ⟨fun _ _ e=>e,rfl,fun i l e=>by simp at e⟩ (fun i zs H11 _ z=>z.1.seq hS) ?_ ?_⟩
 ·rintro i x zs H11 hx ⟨s11,ez⟩
  have hi:i<es.length:=by rw[← hT.1];exact(LR.mp hx).1
  obtain⟨e,he⟩:∃ e,es[i]?=some e:=⟨_,LS hi⟩
  obtain⟨p,C,dx,st,a1,a2,a3⟩:=(hT.mono s11).2 i e he
  rw[hx]at a1
  cases a1
  refine⟨_,rfl,p,C,dx,_,_,rfl,a2,a3.cl,a3.n1,lO _ _ _,_,rfl,p,C,dx,_,_,rfl,a2,a3.cl,a3.n2,pY _ _ _,(by show 2<=sizeLine;decide),fun g hg=>?_⟩
  have s12:=aj hg (.tup [iV e.1,iV e.2])
  refine⟨s11.trans s12,?_⟩
  rw[show es.take (i+1)=es.take i++[e] by rw[Mx,he];rfl]
  exact(ez.mono s12).snoc ae
 rintro zs H11 _ ⟨s11,ez⟩ D hD
 rw[hT.1,MI]at ez
 have s12:=aj hD (.lst zs)
 refine⟨D,zs,m,es,ts,rfl,SqL.of ae,ez.mono s12,g,m2,m40,_,rfl,_,_,rfl,rfl,⟨by omega,by omega,by decide⟩,_,_,rfl,rfl,rfl,_,rfl,?_⟩
 refine Lr ?_ (kk _ (s11.trans s12))
 show V.int _=V.int _
 rw[shlN]
 have:=OB m
 congr 1
 omega
end
end K8
namespace K8
open PySem L2
local macro_rules | `(tactic| walk_at "cc") => `(tactic| first | exact ⟨by decide, by decide⟩ | (show (0 : Int) < _; decide) | (show (0 : Int) < _; omega) | (show (0 : Int) ≤ _; omega) | exact ⟨by decide, by decide, by decide⟩ | exact ⟨by omega, by omega, by decide⟩ | exact Or.inl ⟨by decide, by decide⟩ | exact Or.inl ⟨by omega, by omega⟩)
local macro_rules | `(tactic| walk_at "rd") => `(tactic| repeat (first | refine ⟨_, rfl, ?_⟩ | refine ⟨_, _, rfl, rfl, ?_⟩ | refine ⟨rfl, ?_⟩ | (refine ⟨?cc, ?_⟩; (case cc => walk_at "cc"))))
def cls(PL PS:Addr)(push:Bool):Addr:=if push=true then PS else PL
def xn(PL PS:Addr)(H:Hp)(xs:List V)(es:En)(ks:Kn):Prop:=xs.length=es.length/\∀(i:Nat)(e:Nat×Nat)(k:Int×Int),es[i]?=some e->ks[i]?=some k->∃ p dx,xs[i]?=some (.ref p)/\H p=some (.ins (cls PL PS (decide (k.1=1))) dx (tf (e.1:Int) (e.2:Int) k.2))
theorem xn.mono{PL PS:Addr}{H H':Hp}{xs:List V}{es:En}{ks:Kn}(t:xn PL PS H xs es ks)(h:Same H H'):xn PL PS H' xs es ks:=⟨t.1,fun i e k q r=>by
 obtain⟨p,dx,a,b⟩:=t.2 i e k q r
 exact⟨p,dx,a,h _ _ b⟩⟩
structure CW(K:LU)(C:Addr):Prop where
 cl:Cls K C
 n1:fU K C "many"
 n2:fU K C "ties"
 n3:fU K C "turns"
 n4:fU K C "rounds"
 n5:fU K C "sides"
theorem jC(k:Str)(v:V):∀ fs:List (Str×V),(putF k v fs).length<=fs.length+1
 |[]=>Ma _
 | (a,b)::r=>by
  show(if a=k then(a,v)::r else(a,b)::putF k v r).length<=_
  have:=jC k v r
  split<;>simp only[MJ]<;>omega
theorem none_of{H H':Hp}{b:Addr}(s:Same H H')(z:H' b=none):H b=none:=by
 cases y:H b with
 |none=>rfl
 |some o=>rw[s _ _ y]at z;cases z
structure WebG(S:Addr->Prop)(H:Hp)(fs:List (Str×V))(m:Nat)(es:En)(ts rs:List (List Nat)):Prop where
 many:fs.lookup ("many" : Str)=some (.int (m:Int))
 turns:∃ q z,fs.lookup ("turns" : Str)=some (.ref q)/\¬ S q/\H q=some (.lst z)/\cX S H z ts
 rounds:∃ q z,fs.lookup ("rounds" : Str)=some (.ref q)/\H q=some (.lst z)/\bI H z rs
 sides:∃ q z,fs.lookup ("sides" : Str)=some (.ref q)/\H q=some (.lst z)/\oj H z es.length rs
 part:fx (fol es ts) (2*es.length) (2*es.length) rs
theorem oj.mono{H H':Hp}{z:List V}{n:Nat}{rs:List (List Nat)}(h:oj H z n rs)(s:Same H H'):oj H' z n rs:=⟨h.1,fun i hi=>by
 obtain⟨t,a,b,r,r',y1,y2,y3⟩:=h.2 i hi
 exact⟨t,a,b,r,r',y1,s _ _ y2,y3⟩⟩
theorem WebG.mono{S S':Addr->Prop}{H H':Hp}{fs:List (Str×V)}{m:Nat}{es:En}{ts rs:List (List Nat)}(h:WebG S H fs m es ts rs)(s:Same H H')(i:∀ a,S' a->S a):WebG S' H' fs m es ts rs:=by
 obtain⟨a,⟨q,z,b1,b0,b2,b3⟩,⟨q',z',c1,c2,c3⟩,⟨q2,z2,d1,d2,d3⟩,e⟩:=h
 refine⟨a,⟨q,z,b1,fun y=>b0 (i _ y),s _ _ b2,b3.1,fun j l y=>?_⟩,⟨q',z',c1,s _ _ c2,c3.mono s⟩,⟨q2,z2,d1,s _ _ d2,d3.mono s⟩,e⟩
 obtain⟨r,y1,y2,y3⟩:=b3.2 j l y
 exact⟨r,y1,fun x=>y2 (i _ x),s _ _ y3⟩
def uB(K:LU):Sp:=fun vs H Q _=>∃(p C dx qt qh:Addr)(m:Nat)(xs zs:List V)(es:En)(ts:List (List Nat)),vs = [.ref p,.int (m:Int),.ref qt,.ref qh]/\H p=some (.ins C dx [])/\CW K C/\H qt=some (.lst xs)/\dZ K H xs es/\H qh=some (.lst zs)/\bI H zs ts/\Gr m es ts/\0<es.length/\es.length<=16 /\
 ∀(fs:List (Str×V))(q1:Addr)(rs:List (List Nat))(H':Hp),H' p=some (.ins C dx fs)->WebG (fun a=>H a≠none) H' fs m es ts rs->H q1=none->fs.lookup ("ties" : Str)=some (.ref q1)->H' q1=some (.lst xs)->(∀ q o,H q=some o->q≠p->H' q=some o)->Q .non H'
theorem dZ.keep{K:LU}{H G:Hp}{xs:List V}{es:En}{p C dx:Addr}(t:dZ K H xs es)(hp:H p=some (.ins C dx []))(k:∀ q u,q≠p->H q=some u->G q=some u):dZ K G xs es:=⟨t.1,fun i e z=>by
 obtain⟨q,C',dx',s,a,b,d⟩:=t.2 i e z
 refine⟨q,C',dx',s,a,k _ _ (fun z=>?_) b,d⟩
 rw[z,hp]at b
 have e1:([]:List (Str×V))=tf (e.1:Int) (e.2:Int) s:=by
  injection b with b
  injection b
 have e2:=lO (e.1:Int) (e.2:Int) s
 rw[← e1]at e2
 cases e2⟩
section
variable{P:Program}{w:World}{K:LU}{mg:Str->Option Value}{base:Heap}
theorem lT:aE ["self","many","ties","turns","rounds"] ["self","many","ties","turns"] (ai cF):=⟨rfl,rfl,rfl,by decide +kernel,rfl,by decide +kernel,by decide +kernel⟩
theorem IF{f f1 f2 f3 f4 f5:Addr}{fd d1 d2 d3 d4 d5:FuncData} (F:Fun K "__init__" "Web.__init__" cF f fd) (T:Txt mg) (G_refuse_ends:Cal P w K mg base 1 "refuse_ends" ["many","ties"] (Al K) f1 d1) (G_refuse_turns:Cal P w K mg base 1 "refuse_turns" ["many","ties","turns"] (uD K) f2 d2) (G_refuse_parted:Cal P w K mg base 2 "refuse_parted" ["many","ties"] (Ak K) f3 d3) (G_rounds_of:Cal P w K mg base 4 "rounds_of" ["ties","turns"] (uC K) f4 d4) (G_sides_of:Cal P w K mg base 1 "sides_of" ["ties","rounds"] (Ai K) f5 d5) :
  FnOk P w K mg base CX0 5 f fd ["self","many","ties","turns"] (uB K):=by
 refine F.ok lT (fun vs H Q E h=>?_) (fun cdv A outer s H vs Q E hr h=>?_)
 ·obtain⟨p,C,dx,qt,qh,m,xs,zs,es,ts,rfl,_⟩:=h
  rfl
 obtain⟨p,C,dx,qt,qh,m,xs,zs,es,ts,rfl,hp,cw,hqt,hT,hqh,hR,g,e0,few,kk⟩:=h
 have w':=g.w
 have m2:=g.two e0
 have mf:=t5 g
 have hul:xs.length=es.length:=hT.1
 have hzl:zs.length=m:=by rw[hR.1,w'.len]
 have pl:∀{q:Addr}{ys:List V},H q=some (.lst ys)->q≠p:=fun{q ys} h z=>by rw[z,hp]at h;cases h
 refine⟨_,(af (aX (aF G_refuse_ends.ok (hr.mono (by decide)) rfl G_refuse_ends.mg G_refuse_ends.kp G_refuse_ends.bn .nil aW (aa (pv 1) (aa (pv 2) ag))))
   (af (aX (aF G_refuse_turns.ok (hr.mono (by decide)) rfl G_refuse_turns.mg G_refuse_turns.kp G_refuse_turns.bn .nil aW (aa (pv 1) (aa (pv 2) (aa (pv 3) ag)))))
   (af (aX (aF G_refuse_parted.ok (hr.mono (by decide)) rfl G_refuse_parted.mg G_refuse_parted.kp G_refuse_parted.bn .nil aW (aa (pv 1) (aa (pv 2) ag))))
   (af (au (i:=4) lT.nd rfl (Or.inl rfl) (aF G_rounds_of.ok (hr.mono (by decide)) rfl G_rounds_of.mg G_rounds_of.kp G_rounds_of.bn .nil aW (aa (pv 2) (aa (pv 3) ag))))
   (af (dm (aM vk (ay b7 (ay ye (pv 1) (az aw (by rfl) T.n_len bF (aa (pv 2) ag))) (az aw (by rfl) T.n_len bF (aa (pv 4) ag))) ah (aR _)) (ao gD) bc)
   (af (oo (pv 0) (pv 1) rfl)
   (af (oo (pv 0) (cb bT (by rfl) T.n_list iq (aa (pv 2) ag)) rfl)
   (af (oo (pv 0) (dH rfl (fr:=[]) (by exact bK.plain (by rfl) (by decide +kernel) (by rfl) (by decide +kernel) (by rfl) (by decide +kernel)) (aV (pv 3)) (fun C ex s H=>(cb (ug (K:=K) rfl) (by rfl) T.n_list iq (aa (pv 0) ag)))) rfl)
   (af (oo (pv 0) (pv 4) rfl)
   (ao (oo (pv 0) (aF G_sides_of.ok (hr.mono (by decide)) rfl G_sides_of.mg G_sides_of.kp G_sides_of.bn .nil aW (aa (pv 2) (aa (pv 4) ag))) rfl))))))))))),?_⟩
 refine⟨_,rfl,_,rfl,qt,xs,m,es,rfl,SqL.of hqt,hT,fun e he=>⟨(w'.ends e he).1,(w'.ends e he).2.1⟩,?_⟩
 refine⟨_,rfl,_,rfl,_,rfl,qt,qh,xs,zs,m,es,ts,rfl,SqL.of hqt,hT,SqL.of hqh,hR,w',few,by omega,fun H1 s1=>?_⟩
 refine⟨_,rfl,_,rfl,qt,xs,m,es,ts,rfl,SqL.of (s1 _ _ hqt),hT.mono s1,g,m2,by omega,few,fun H2 s2=>?_⟩
 have s12:=s1.trans s2
 refine⟨_,rfl,_,rfl,qt,qh,m,es,ts,rfl,⟨⟨xs,SqL.of (s12 _ _ hqt),hT.mono s12⟩,⟨zs,SqL.of (s12 _ _ hqh),hR.mono s12⟩,w',by omega⟩,fun qr vs rs H3 s3 hqr hrs ro=>?_⟩
 have s13:=s12.trans s3
 have cnt:m+rs.length=es.length+2:=by
  obtain⟨rs',p',c⟩:=g.part
  rw[← p'.same ro.part]
  exact c
 have hvl:vs.length=rs.length:=hrs.1
 refine⟨_,rfl,_,rfl,qt,xs,rfl,.inl (SqL.of (s13 _ _ hqt)),_,_,rfl,rfl,_,rfl,qr,vs,rfl,.inl (SqL.of hqr),_,_,rfl,rfl,rfl,_,rfl,?_⟩
 refine Lr (congrArg V.int (by omega)) ?_
 have hp3:=s13 _ _ hp
 refine⟨_,rfl,_,rfl,p,C,dx,[],rfl,hp3,cw.cl,cw.n1,(by show 0<1000;decide),?_⟩
 have keep:∀{G:Hp}{o:HO}{q:Addr}{u:HO},q≠p->G q=some u->(upd G p o) q=some u:=fun n z=>by rw[aq n];exact z
 refine⟨_,rfl,qt,xs,rfl,.inl (SqL.of (keep (pl hqt) (s13 _ _ hqt))),fun q1 hq1=>?_⟩
 have n1p:q1≠p:=fun z=>by rw[z,ae]at hq1;cases hq1
 have t4:=aj hq1 (.lst xs)
 refine⟨_,rfl,p,C,dx,_,rfl,t4 _ _ ae,cw.cl,cw.n2,?_,?_⟩
 ·have:=jC "many" (.int (m:Int)) ([]:List (Str×V));simp only[NX]at this;omega
 have t1:∀ q u,q≠p->H3 q=some u->(upd (upd (upd H3 p (.ins C dx (putF "many" (.int (m:Int)) []))) q1 (.lst xs)) p (.ins C dx (putF "ties" (.ref q1) (putF "many" (.int (m:Int)) [])))) q=some u:=fun q u n z=>keep n (t4 _ _ (keep n z))
 have q1a:(upd (upd (upd H3 p (.ins C dx (putF "many" (.int (m:Int)) []))) q1 (.lst xs)) p (.ins C dx (putF "ties" (.ref q1) (putF "many" (.int (m:Int)) [])))) q1=some (.lst xs):=keep n1p ae
 have pa:(upd (upd (upd H3 p (.ins C dx (putF "many" (.int (m:Int)) []))) q1 (.lst xs)) p (.ins C dx (putF "ties" (.ref q1) (putF "many" (.int (m:Int)) [])))) p=some (.ins C dx (putF "ties" (.ref q1) (putF "many" (.int (m:Int)) []))):=ae
 generalize upd (upd (upd H3 p (.ins C dx (putF "many" (.int (m:Int)) []))) q1 (.lst xs)) p (.ins C dx (putF "ties" (.ref q1) (putF "many" (.int (m:Int)) [])))=H4 at t1 q1a pa
 have lk:(putF "ties" (.ref q1) (putF "many" (.int (m:Int)) []):List (Str×V)).lookup ("ties" : Str)=some (.ref q1):=by rw[aC,if_pos rfl]
 have ln:(putF "ties" (.ref q1) (putF "many" (.int (m:Int)) []):List (Str×V)).length<=2:=by
  have a1:=jC "many" (.int (m:Int)) ([]:List (Str×V))
  have a2:=jC "ties" (.ref q1) (putF "many" (.int (m:Int)) ([]:List (Str×V)))
  simp only[NX]at a1
  omega
 have lkm:(putF "ties" (.ref q1) (putF "many" (.int (m:Int)) []):List (Str×V)).lookup ("many" : Str)=some (.int (m:Int)):=by rw[aC,if_neg (by decide +kernel),aC,if_pos rfl]
 generalize (putF "ties" (.ref q1) (putF "many" (.int (m:Int)) []):List (Str×V))=fs at pa lk ln lkm
 have hqh4:=t1 _ _ (pl hqh) (s13 _ _ hqh)
 have new4:∀{b:Addr},H4 b=none->H b=none:=fun{b} z=>by
  cases y:H b with
  |none=>rfl
  |some o =>
   by_cases n:b=p
   ·rw[n,pa]at z;cases z
   ·rw[t1 _ _ n (s13 _ _ y)]at z;cases z
 have new1:H q1=none:=by
  cases y:H q1 with
  |none=>rfl
  |some o=>rw[keep n1p (s13 _ _ y)]at hq1;cases hq1
 refine⟨_,rfl,qh,rfl,⟨_,SqL.of hqh4⟩,bH (K:=K) (xs:=zs) (fun i ys H5=>Same H4 H5/\cX (fun a=>H a≠none) H5 ys (ts.take i)) (MX (ar (by omega))) ⟨fun _ _ e=>e,rfl,fun i l e=>by simp at e⟩ (fun i _ H5 _ z=>SqL.of (z.1 _ _ hqh4)) ?_ ?_⟩
 ·rintro i x ys H5 hx ⟨s5,rz⟩
  have hi:i<ts.length:=by rw[← hR.1];exact(LR.mp hx).1
  obtain⟨l,hl⟩:∃ l,ts[i]?=some l:=⟨_,LS hi⟩
  obtain⟨r,a1,a2⟩:=hR.2 i l hl
  rw[hx]at a1
  cases a1
  refine⟨_,rfl,r,_,rfl,.inl (SqL.of (s5 _ _ (t1 _ _ (pl a2) (s13 _ _ a2)))),fun g hg=>⟨s5.trans (aj hg _),?_⟩⟩
  rw[show ts.take (i+1)=ts.take i++[l] by rw[Mx,hl];rfl]
  exact(rz.mono fun b u _ z=>aj hg _ _ _ z).snoc (fun z=>z (new4 (none_of s5 hg))) ae
 rintro ys H5 _ ⟨s5,rz⟩ D hD
 rw[hR.1,MI]at rz
 have hDp:D≠p:=fun z=>by rw[z,s5 _ _ pa]at hD;cases hD
 have s6:=s5.trans (aj hD (.lst ys))
 refine⟨_,rfl,p,C,dx,fs,rfl,s6 _ _ pa,cw.cl,cw.n3,by omega,?_⟩
 have ln1:=jC "turns" (.ref D) fs
 have lk1:(putF "turns" (.ref D) fs).lookup ("ties" : Str)=some (.ref q1):=by rw[aC,if_neg (by decide +kernel)];exact lk
 refine⟨_,rfl,_,rfl,p,C,dx,_,rfl,ae,cw.cl,cw.n4,by omega,?_⟩
 have ln2:=jC "rounds" (.ref qr) (putF "turns" (.ref D) fs)
 have lk2:(putF "rounds" (.ref qr) (putF "turns" (.ref D) fs)).lookup ("ties" : Str)=some (.ref q1):=by rw[aC,if_neg (by decide +kernel)];exact lk1
 have t7:∀ q u,q≠p->H3 q=some u->(upd (upd (upd H5 D (.lst ys)) p (.ins C dx (putF "turns" (.ref D) fs))) p (.ins C dx (putF "rounds" (.ref qr) (putF "turns" (.ref D) fs)))) q=some u:=fun q u n z=>keep n (keep n (s6 _ _ (t1 q u n z)))
 have q17:(upd (upd (upd H5 D (.lst ys)) p (.ins C dx (putF "turns" (.ref D) fs))) p (.ins C dx (putF "rounds" (.ref qr) (putF "turns" (.ref D) fs)))) q1=some (.lst xs):=keep n1p (keep n1p (s6 _ _ q1a))
 have p7:(upd (upd (upd H5 D (.lst ys)) p (.ins C dx (putF "turns" (.ref D) fs))) p (.ins C dx (putF "rounds" (.ref qr) (putF "turns" (.ref D) fs)))) p=some (.ins C dx (putF "rounds" (.ref qr) (putF "turns" (.ref D) fs))):=ae
 have D7:(upd (upd (upd H5 D (.lst ys)) p (.ins C dx (putF "turns" (.ref D) fs))) p (.ins C dx (putF "rounds" (.ref qr) (putF "turns" (.ref D) fs)))) D=some (.lst ys):=keep hDp (keep hDp ae)
 have u7:∀ q u,q≠p->H5 q=some u->(upd (upd (upd H5 D (.lst ys)) p (.ins C dx (putF "turns" (.ref D) fs))) p (.ins C dx (putF "rounds" (.ref qr) (putF "turns" (.ref D) fs)))) q=some u:=fun q u n z=>keep n (keep n (aj hD _ _ _ z))
 generalize upd (upd (upd H5 D (.lst ys)) p (.ins C dx (putF "turns" (.ref D) fs))) p (.ins C dx (putF "rounds" (.ref qr) (putF "turns" (.ref D) fs)))=H7 at t7 q17 p7 D7 u7
 have pl3:∀{q:Addr}{ys:List V},H3 q=some (.lst ys)->q≠p:=fun{q ys} h z=>by rw[z,hp3]at h;cases h
 have rs7:bI H7 vs rs:=⟨hrs.1,fun i l z=>by
  obtain⟨r,a1,a2⟩:=hrs.2 i l z
  exact⟨r,a1,t7 _ _ (pl3 a2) a2⟩⟩
 have T7:dZ K H7 xs es:=(hT.mono s13).keep hp3 t7
 refine⟨_,rfl,_,rfl,qt,qr,xs,vs,es,_,rs,rfl,SqL.of (t7 _ _ (pl hqt) (s13 _ _ hqt)),T7,by omega,SqL.of (t7 _ _ (pl3 hqr) hqr),rs7,ro,fun q5 z5 H8 s8 hq5 hs5=>?_⟩
 refine⟨_,rfl,p,C,dx,_,rfl,s8 _ _ p7,cw.cl,cw.n5,by omega,?_⟩
 have n5p:q5≠p:=fun z=>by rw[z,s8 _ _ p7]at hq5;cases hq5
 have hqr7:=t7 _ _ (pl3 hqr) hqr
 refine kk _ q1 rs _ ae ⟨?_,⟨D,ys,?_,fun z=>z (new4 (none_of s5 hD)),keep hDp (s8 _ _ D7),rz.1,fun i l z=>?_⟩,⟨qr,vs,?_,keep (pl3 hqr) (s8 _ _ hqr7),hrs.1,fun i l z=>?_⟩,⟨q5,z5,?_,keep n5p hq5,hs5.1,fun i hi=>?_⟩,ro⟩ new1 (by rw[aC,if_neg (by decide +kernel)];exact lk2) (keep n1p (s8 _ _ q17)) fun q o z n=>keep n (s8 _ _ (t7 q o n (s13 _ _ z)))
 ·rw[aC,if_neg (by decide +kernel),aC,if_neg (by decide +kernel),aC,if_neg (by decide +kernel)]
  exact lkm
 ·rw[aC,if_neg (by decide +kernel),aC,if_neg (by decide +kernel),aC,if_pos rfl]
 ·obtain⟨r,a1,a0,a2⟩:=rz.2 i l z
  have nr:r≠p:=fun z=>by rw[z,s5 _ _ pa]at a2;cases a2
  exact⟨r,a1,a0,keep nr (s8 _ _ (u7 r _ nr a2))⟩
 ·rw[aC,if_neg (by decide +kernel),aC,if_pos rfl]
 ·obtain⟨r,a1,a2⟩:=hrs.2 i l z
  exact⟨r,a1,keep (pl3 a2) (s8 _ _ (t7 _ _ (pl3 a2) a2))⟩
 ·rw[aC,if_pos rfl]
 ·obtain⟨t,a,b,r,r',y1,y2,y3⟩:=hs5.2 i hi
  exact⟨t,a,b,r,r',y1,keep (fun z=>by rw[z,s8 _ _ p7]at y2;cases y2) y2,y3⟩
theorem xn.at{PL PS:Addr}{H:Hp}{xs:List V}{es:En}{ks:Kn}(t:xn PL PS H xs es ks)(kl:ks.length=es.length)(TL:CT K PL)(TS:CT K PS):dZ K H xs es:=⟨t.1,fun i e z=>by
 have hi:=(LR.mp z).1
 obtain⟨k,hk⟩:∃ k,ks[i]?=some k:=⟨_,LS (by omega)⟩
 obtain⟨p,dx,a,b⟩:=t.2 i e k z hk
 refine⟨p,_,dx,k.2,a,b,?_⟩
 unfold cls
 split
 ·exact TS
 ·exact TL⟩
def WebF(S:Addr->Prop)(PL PS WC:Addr)(H:Hp)(p:Addr)(m:Nat)(es:En)(ts rs:List (List Nat))(ks:Kn):Prop:=∃ dx fs q1 xs,H p=some (.ins WC dx fs)/\WebG S H fs m es ts rs/\¬ S q1/\fs.lookup ("ties" : Str)=some (.ref q1)/\H q1=some (.lst xs)/\xn PL PS H xs es ks
def Fh(PL PS WC:Addr):Sp:=fun vs H Q _=>∃(t pe pt pk:Addr)(m:Nat)(es:En)(ts:List (List Nat))(ks:Kn),vs = [.ref t]/\mL H t pe pt pk m es ts ks/\0<es.length /\
 ∀(p:Addr)(rs:List (List Nat))(H':Hp),Same H H'->WebF (fun a=>H a≠none) PL PS WC H' p m es ts rs ks->Q (.ref p) H'
theorem jz:aE ["built","ties","k","end"] ["built"] (ai gk):=⟨rfl,rfl,rfl,by decide +kernel,rfl,by decide +kernel,by decide +kernel⟩
theorem KY{f fI PL PS WC fW:Addr}{fd fdI fdW:FuncData} (F:Fun K "_law_web" "_law_web" gk f fd) (T:Txt mg) (M_Pull:Mak P w K mg base 1 "Pull" ["self","one","two","strength"] (tP K) PL fI fdI) (M_Push:Mak P w K mg base 1 "Push" ["self","one","two","strength"] (tP K) PS fI fdI) (TL:CT K PL) (TS:CT K PS)
  (M_Web:Mak P w K mg base 5 "Web" ["self","many","ties","turns"] (uB K) WC fW fdW) (cw:CW K WC):FnOk P w K mg base CX0 7 f fd ["built"] (Fh PL PS WC):=by
 refine F.ok jz (fun vs H Q E h=>?_) (fun cdv A outer s H vs Q E hr h=>?_)
 ·obtain⟨t,pe,pt,pk,m,es,ts,ks,rfl,_⟩:=h
  rfl
 obtain⟨t,pe,pt,pk,m,es,ts,ks,rfl,bp,e0',kk⟩:=h
 obtain⟨ht,⟨⟨ys,hpe,hE⟩,⟨xs,hpt,hR⟩,g⟩,⟨ws,hpk,tk⟩,few,kl⟩:=bp
 have hyl:ys.length=es.length:=hE.1
 have mf:=t5 g
 have hxm:xs.length=m:=by rw[hR.1,g.w.len]
 refine⟨_,(af (au (i:=1) jz.nd rfl (Or.inl rfl) (cH ag))
   (af (bC PassesOwn.never rfl (bP rfl T.n_range (aa (az aw (by rfl) T.n_len bF (aa (aD aI (pv 0) ah (fun _ _=>rfl)) ag)) ag)) (aJ (i:=2) jz.nd rfl (Or.inl rfl)) (af (au (i:=3) jz.nd rfl (Or.inl rfl) (aD aK (aD aI (pv 0) ah (fun _ _=>rfl)) (pv 2) (fun _ _=>rfl)))
   (ao (dm (aM jW (aD aI (aD aK (aD aI (pv 0) ah (fun _ _=>rfl)) (pv 2) (fun _ _=>rfl)) ah (fun _ _=>rfl)) ah (aR _)) (ao (aX (dI Mn Mz My aU (pv 1) (aa (AZ M_Push.mkc M_Push.ok (hr.mono (by decide)) rfl M_Push.mg M_Push.bn .nil aW (aa (aD aI (pv 3) ah (fun _ _=>rfl)) (aa (aD aI (pv 3) ah (fun _ _=>rfl)) (aa (aD aI (aD aK (aD aI (pv 0) ah (fun _ _=>rfl)) (pv 2) (fun _ _=>rfl)) ah (fun _ _=>rfl)) ag)))) ag)))) (ao (aX (dI Mn Mz My aU (pv 1) (aa (AZ M_Pull.mkc M_Pull.ok (hr.mono (by decide)) rfl M_Pull.mg M_Pull.bn .nil aW (aa (aD aI (pv 3) ah (fun _ _=>rfl)) (aa (aD aI (pv 3) ah (fun _ _=>rfl)) (aa (aD aI (aD aK (aD aI (pv 0) ah (fun _ _=>rfl)) (pv 2) (fun _ _=>rfl)) ah (fun _ _=>rfl)) ag)))) ag))))))))
   (ao (aO (AZ M_Web.mkc M_Web.ok (hr.mono (by decide)) rfl M_Web.mg M_Web.bn .nil aW (aa (az aw (by rfl) T.n_len bF (aa (aD aI (pv 0) ah (fun _ _=>rfl)) ag)) (aa (pv 1) (aa (dH rfl (fr:=[]) (by exact bK.plain (by rfl) (by decide +kernel) (by rfl) (by decide +kernel) (by rfl) (by decide +kernel)) (aV (aD aI (pv 0) ah (fun _ _=>rfl))) (fun C ex s H=>(cb (ug (K:=K) rfl) (by rfl) T.n_list iq (aa (pv 0) ag)))) ag)))))))),?_⟩
 refine⟨(by show 0<=sizeLine;decide),fun q hq=>?_⟩
 have s1:=aj hq (.lst [])
 refine⟨_,rfl,t,_,0,_,rfl,rfl,SqT.of (s1 _ _ ht),at30,pe,ys,rfl,.inl (SqL.of (s1 _ _ hpe)),_,rfl,by omega,by omega,cf (n:=(ys.length:Int).toNat) (fun i σ H2=>∃ v2 v3 us,σ = [some (.ref t),some (.ref q),v2,v3]/\Same H H2/\H2 q=some (.lst us)/\xn PL PS H2 us (es.take i) ks) ⟨_,_,[],rfl,s1,ae,rfl,fun i e k z=>by simp at z⟩ ?_ ?_⟩
 ·rintro i σ H2 hi ⟨v2,v3,us,rfl,s2,hq2,tt⟩
  rw[Mv,hyl]at hi
  have e0:(0:Int)+(i:Int)=(i:Int):=Nf _
  rw[e0]
  obtain⟨e,he⟩:∃ e,es[i]?=some e:=⟨_,LS hi⟩
  obtain⟨k,hk⟩:∃ k,ks[i]?=some k:=⟨_,LS (by omega)⟩
  obtain⟨_,_,ne⟩:=g.w.ends e (LV he)
  obtain⟨p,x1,x2⟩:=(hE.mono s2).2 i e he
  obtain⟨k1,k2,pk',y1,y2⟩:=(tk.mono s2).2 i k hk
  have ul:us.length=i:=by rw[tt.1,MT];omega
  refine⟨_,rfl,t,_,0,_,rfl,rfl,SqT.of (s2 _ _ ht),at30,_,rfl,pe,ys,_,_,rfl,rfl,SqL.of (s2 _ _ hpe),aG x1,?_⟩
  refine⟨_,rfl,t,_,2,_,rfl,rfl,SqT.of (s2 _ _ ht),at32,_,rfl,pk,ws,_,_,rfl,rfl,SqL.of (s2 _ _ hpk),aG y1,pk',_,0,_,rfl,rfl,SqT.of y2,at0,rfl,_,rfl,?_⟩
  have fin:∀(x dx:Addr)(H':Hp),Same H2 H'->H' x=some (.ins (cls PL PS (decide (k.1=1))) dx (tf (e.1:Int) (e.2:Int) k.2))->∃ v2 v3 zs,([some (.ref t),some (.ref q),some (.int (i:Int)),some (.ref p)]:St) = [some (.ref t),some (.ref q),v2,v3]/\Same H (upd H' q (.lst (us++[.ref x])))/\(upd H' q (.lst (us++[.ref x]))) q=some (.lst zs)/\xn PL PS (upd H' q (.lst (us++[.ref x]))) zs (es.take (i+1)) ks:=fun x dx H' s4 h1=>by
   refine⟨_,_,_,rfl,aL (s2.trans s4) hq _,ae,by rw[LX,ul,MT];simp;omega,fun j e' k' hj hk'=>?_⟩
   have hqn:∀{b:Addr}{C dx:Addr}{fs:List (Str×V)},H' b=some (.ins C dx fs)->b≠q:=fun z y=>by rw[y,s4 _ _ hq2]at z;cases z
   rw[Nj]at hj
   by_cases z:j<i
   ·rw[if_pos (by omega)]at hj
    obtain⟨p',dx',a1,a2⟩:=(tt.mono s4).2 j e' k' (by rw[Nj,if_pos z];exact hj) hk'
    exact⟨p',dx',by rw[L0 (by omega)];exact a1,by rw[aq (hqn a2)];exact a2⟩
   ·by_cases z2:j=i
    ·subst z2
     rw[if_pos (by omega),he]at hj
     cases hj
     rw[hk]at hk'
     cases hk'
     exact⟨x,dx,by rw[← ul,LY (Ma _),Mw];rfl,by rw[aq (hqn h1)];exact h1⟩
    ·rw[if_neg (by omega)]at hj
     cases hj
  refine ite2 (fun c=>?_) (fun c=>?_)
  ·have c':k.1=1:=V.int.inj (of_decide_eq_true c)
   refine⟨_,rfl,.inl ⟨rfl,_,SqL.of hq2⟩,_,rfl,p,_,0,_,rfl,rfl,SqT.of x2,at0,_,rfl,p,_,1,_,rfl,rfl,SqT.of x2,at1,_,rfl,t,_,2,_,rfl,rfl,SqT.of (s2 _ _ ht),at32,_,rfl,pk,ws,_,_,rfl,rfl,SqL.of (s2 _ _ hpk),aG y1,pk',_,1,_,rfl,rfl,SqT.of y2,at1,?_⟩
   intro x dx nx ndx nex
   refine⟨x,PS,dx,_,_,_,rfl,ae,TS,by omega,by omega,by omega,k2,fun H' h1 h2=>?_⟩
   have s4:Same H2 H':=fun b o z=>h2 b o (by rw[aq (aB z nx),aq (aB z ndx)];exact z) (aB z nx)
   refine⟨rfl,q,us,_,rfl,rfl,s4 _ _ hq2,ar (by omega),fin x dx H' s4 ?_⟩
   rw[decide_eq_true c']
   exact h1
  ·have c':¬ k.1=1:=fun z=>c (decide_eq_true (by rw[z]))
   refine⟨_,rfl,.inl ⟨rfl,_,SqL.of hq2⟩,_,rfl,p,_,0,_,rfl,rfl,SqT.of x2,at0,_,rfl,p,_,1,_,rfl,rfl,SqT.of x2,at1,_,rfl,t,_,2,_,rfl,rfl,SqT.of (s2 _ _ ht),at32,_,rfl,pk,ws,_,_,rfl,rfl,SqL.of (s2 _ _ hpk),aG y1,pk',_,1,_,rfl,rfl,SqT.of y2,at1,?_⟩
   intro x dx nx ndx nex
   refine⟨x,PL,dx,_,_,_,rfl,ae,TL,by omega,by omega,by omega,k2,fun H' h1 h2=>?_⟩
   have s4:Same H2 H':=fun b o z=>h2 b o (by rw[aq (aB z nx),aq (aB z ndx)];exact z) (aB z nx)
   refine⟨rfl,q,us,_,rfl,rfl,s4 _ _ hq2,ar (by omega),fin x dx H' s4 ?_⟩
   rw[decide_eq_false c']
   exact h1
 rintro σ H2 ⟨v2,v3,us,rfl,s2,hq2,tt⟩
 rw[Mv,hyl,MI]at tt
 have hpt2:=s2 _ _ hpt
 refine⟨_,rfl,t,_,1,_,rfl,rfl,SqT.of (s2 _ _ ht),at31,pt,xs,rfl,.inl (SqL.of hpt2),_,rfl,_,rfl,t,_,1,_,rfl,rfl,SqT.of (s2 _ _ ht),at31,pt,rfl,⟨_,SqL.of hpt2⟩,bH (K:=K) (xs:=xs) (fun i zs H3=>Same H2 H3/\bI H3 zs (ts.take i)) (MX (ar (by omega))) ⟨fun _ _ e=>e,rfl,fun i l e=>by simp at e⟩ (fun i zs H3 _ z=>SqL.of (z.1 _ _ hpt2)) ?_ ?_⟩
 ·rintro i x zs H3 hx ⟨s3,rz⟩
  have hi:i<ts.length:=by rw[← hR.1];exact(LR.mp hx).1
  obtain⟨l,hl⟩:∃ l,ts[i]?=some l:=⟨_,LS hi⟩
  obtain⟨p,a1,a2⟩:=(hR.mono (s2.trans s3)).2 i l hl
  rw[hx]at a1
  cases a1
  refine⟨_,rfl,p,_,rfl,.inl (SqL.of a2),fun g hg=>?_⟩
  have s4:=aj hg (.lst (l.map iV))
  refine⟨s3.trans s4,?_⟩
  rw[show ts.take (i+1)=ts.take i++[l] by rw[Mx,hl];rfl]
  exact(rz.mono s4).snoc ae
 rintro zs H3 _ ⟨s3,rz⟩ D hD
 rw[hR.1,MI]at rz
 have s4:=aj hD (.lst zs)
 have s24:=s3.trans s4
 intro x dx nx ndx nex
 have up:∀ b o,(upd H3 D (.lst zs)) b=some o->(upd (upd (upd H3 D (.lst zs)) dx (.own x)) x (.ins WC dx [])) b=some o:=fun b o z=>by rw[aq (aB z nx),aq (aB z ndx)];exact z
 refine⟨x,WC,dx,q,D,m,us,zs,es,ts,(by rw[hxm];rfl),ae,cw,up _ _ (s24 _ _ hq2),((tt.at kl TL TS).mono s24).mono up,up _ _ ae,(rz.mono s4).mono up,g,e0',few,fun fs q1 rs H' h1 hg hn h2 h3 h4=>⟨rfl,?_⟩⟩
 have s5:Same H2 H':=fun b o z=>h4 b o (up _ _ (s24 _ _ z)) (aB (s24 _ _ z) nx)
 have up0:∀ a,H a≠none->(upd (upd (upd H3 D (.lst zs)) dx (.own x)) x (.ins WC dx [])) a≠none:=fun a z y=>z (by
  cases u:H a with
  |none=>rfl
  |some o=>rw[up _ _ (s24 _ _ (s2 _ _ u))]at y;cases y)
 exact kk x rs H' (s2.trans s5) ⟨dx,fs,q1,us,h1,hg.mono (fun _ _ z=>z) up0,fun z=>up0 _ z hn,h2,h3,tt.mono s5⟩
end
end K8
namespace K8
open PySem L2
local macro_rules | `(tactic| walk_at "cc") => `(tactic| first | exact ⟨by decide, by decide⟩ | (show (0 : Int) < _; decide) | (show (0 : Int) < _; omega) | (show (0 : Int) ≤ _; omega) | exact ⟨by decide, by decide, by decide⟩ | exact ⟨by omega, by omega, by decide⟩ | exact Or.inl ⟨by decide, by decide⟩ | exact Or.inl ⟨by omega, by omega⟩)
local macro_rules | `(tactic| walk_at "rd") => `(tactic| repeat (first | refine ⟨_, rfl, ?_⟩ | refine ⟨_, _, rfl, rfl, ?_⟩ | refine ⟨rfl, ?_⟩ | (refine ⟨?cc, ?_⟩; (case cc => walk_at "cc"))))
def bit(l a:Int):Int:=l/2^a.toNat%2
theorem bitN(N a:Nat):bit (N:Int) (a:Int)=if N.testBit a=true then 1 else 0:=by
 unfold bit
 rw[Mv,Nat.testBit_eq_decide_div_mod_eq]
 have e:((N:Int)/2^a%2)=((N/2^a%2:Nat):Int):=by
  rw[Int.natCast_emod,Int.natCast_ediv,Int.natCast_pow]
  rfl
 rw[e]
 by_cases z:N/2^a%2=1
 ·rw[z,decide_eq_true rfl];rfl
 ·rw[decide_eq_false z]
  have:N/2^a%2=0:=by omega
  rw[this]
  rfl
def WebT(PL PS WC:Addr)(H:Hp)(p:Addr)(m:Nat)(es:En)(ts:List (List Nat))(ks:Kn):Prop:=∃ dx fs q1 xs q3 z3,H p=some (.ins WC dx fs)/\fs.lookup ("many" : Str)=some (.int (m:Int))/\fs.lookup ("ties" : Str)=some (.ref q1)/\H q1=some (.lst xs)/\xn PL PS H xs es ks/\fs.lookup ("turns" : Str)=some (.ref q3)/\H q3=some (.lst z3)/\bI H z3 ts
theorem WebT.mono{PL PS WC p:Addr}{H H':Hp}{m:Nat}{es:En}{ts:List (List Nat)}{ks:Kn}(h:WebT PL PS WC H p m es ts ks)(s:Same H H'):WebT PL PS WC H' p m es ts ks:=by
 obtain⟨dx,fs,q1,xs,q3,z3,a,b,c,d,e,f,g,i⟩:=h
 exact⟨dx,fs,q1,xs,q3,z3,s _ _ a,b,c,s _ _ d,e.mono s,f,s _ _ g,i.mono s⟩
theorem WebF.t{S:Addr->Prop}{PL PS WC p:Addr}{H:Hp}{m:Nat}{es:En}{ts rs:List (List Nat)}{ks:Kn}(h:WebF S PL PS WC H p m es ts rs ks):WebT PL PS WC H p m es ts ks:=by
 obtain⟨dx,fs,q1,xs,a,b,_,c,d,e⟩:=h
 obtain⟨q3,z3,b1,_,b2,b3⟩:=b.turns
 exact⟨dx,fs,q1,xs,q3,z3,a,b.many,c,d,e,b1,b2,b3.off⟩
theorem and1(x:Int):Builtin.bitAnd x 1=x%2:=PySem.W.kbt_mask x 1
def pM(K:LU):Sp:=fun vs H Q _=>∃(p C dx:Addr)(a b s l:Int),vs = [.ref p,.int l]/\H p=some (.ins C dx (tf a b s))/\CT K C/\0<=a/\0<=b/\Q (.int (bit l a+bit l b)) H
def atF(N x:Nat)(e:Nat×Nat):Bool:=(e.1 == x&&!N.testBit e.2)||(e.2 == x&&!N.testBit e.1)
def bB(es:En)(N M:Nat):Prop:=∀ x,M.testBit x=(N.testBit x&&es.any (atF N x))
theorem bB.z(N:Nat):bB [] N 0:=fun x=>by rw[M3,List.any_nil,Pe]
theorem J2(a b x:Nat):(2^a|||2^b).testBit x=(a == x||b == x):=by
 rw[M8,MM,MM]
 cases h:a == x<;>cases h':b == x<;>simp_all
theorem bB.put{es:En}{N M:Nat}{e:Nat×Nat}(h:bB es N M)(one:N.testBit e.1≠N.testBit e.2):bB (es++[e]) N (M|||(N&&&(2^e.1|||2^e.2))):=fun x=>by
 rw[M8,h x,Nn,J2,List.any_append,Oz,List.any_nil,Oa]
 unfold atF
 by_cases h1:e.1=x
 ·by_cases h2:e.2=x
  ·rw[h1,h2]at one
   exact absurd rfl one
  ·rw[h1]at one
   have e1:(e.1 == x)=true:=by simpa using h1
   have e2:(e.2 == x)=false:=by simpa using h2
   rw[e1,e2]
   cases z:N.testBit x
   ·simp
   ·rw[z]at one
    have:N.testBit e.2=false:=by cases y:N.testBit e.2 with | false=>rfl | true=>rw[y]at one;exact absurd rfl one
    rw[this]
    simp
 ·have e1:(e.1 == x)=false:=by simpa using h1
  by_cases h2:e.2=x
  ·rw[h2]at one
   have e2:(e.2 == x)=true:=by simpa using h2
   rw[e1,e2]
   cases z:N.testBit x
   ·simp
   ·rw[z]at one
    have:N.testBit e.1=false:=by cases y:N.testBit e.1 with | false=>rfl | true=>rw[y]at one;exact absurd rfl one
    rw[this]
    simp
  ·have e2:(e.2 == x)=false:=by simpa using h2
   rw[e1,e2]
   simp
theorem bB.skip{es:En}{N M:Nat}{e:Nat×Nat}(h:bB es N M)(one:N.testBit e.1=N.testBit e.2):bB (es++[e]) N M:=fun x=>by
 rw[h x,List.any_append,Oz,List.any_nil,Oa]
 unfold atF
 cases z:N.testBit x
 ·simp
 ·by_cases h1:e.1=x
  ·rw[h1,z]at one
   have:(e.2 == x&&!N.testBit e.1)=false:=by rw[h1,z];simp
   rw[this,← one]
   simp
  ·have e1:(e.1 == x)=false:=by simpa using h1
   by_cases h2:e.2=x
   ·rw[h2,z]at one
    rw[e1,one]
    simp
   ·have e2:(e.2 == x)=false:=by simpa using h2
    rw[e1,e2]
    simp
theorem bB.one{es:En}{N M M':Nat}(h:bB es N M)(h':bB es N M'):M=M':=M1 fun x=>by rw[h x,h' x]
def An(PL PS WC:Addr):Sp:=fun vs H Q _=>∃(p:Addr)(N m m0:Nat)(es:En)(ts:List (List Nat))(ks:Kn),vs = [.ref p,.int (N:Int)]/\WebT PL PS WC H p m0 es ts ks/\ks.length=es.length/\m<=40/\(∀ e∈es,e.1<m/\e.2<m)/\∀ M:Nat,bB es N M->Q (.int (M:Int)) H
section
variable{P:Program}{w:World}{K:LU}{mg:Str->Option Value}{base:Heap}
theorem rZ:aE ["tie","patch"] ["tie","patch"] (ai b6):=⟨rfl,rfl,rfl,by decide +kernel,rfl,by decide +kernel,by decide +kernel⟩
theorem FP{f:Addr}{fd:FuncData} (F:Fun K "ends_within" "ends_within" b6 f fd):FnOk P w K mg base CX0 1 f fd ["tie","patch"] (pM K):=by
 refine F.ok rZ (fun vs H Q E h=>?_) (fun cdv A outer s H vs Q E hr h=>?_)
 ·obtain⟨p,C,dx,a,b,s,l,rfl,_⟩:=h
  rfl
 obtain⟨p,C,dx,a,b,st,l,rfl,hp,T,ha,hb,kk⟩:=h
 refine⟨_,(ao (aO (ay b7 (ay tV (ay qk (pv 1) (cP (pv 0) rfl)) ah) (ay tV (ay qk (pv 1) (cP (pv 0) rfl)) ah)))),?_⟩
 refine⟨_,rfl,_,rfl,p,C,dx,_,_,rfl,hp,T.cl,T.n1,lO _ _ _,_,_,rfl,rfl,ha,_,_,rfl,rfl,_,rfl,_,rfl,p,C,dx,_,_,rfl,hp,T.cl,T.n2,pY _ _ _,_,_,rfl,rfl,hb,_,_,rfl,rfl,_,_,rfl,rfl,?_⟩
 show Q (V.int (Builtin.bitAnd (l/2^a.toNat) 1+Builtin.bitAnd (l/2^b.toNat) 1)) H
 rw[and1,and1]
 exact kk
theorem xK:aE ["found"] ["found"] (ai c7):=⟨rfl,rfl,rfl,by decide +kernel,rfl,by decide +kernel,by decide +kernel⟩
theorem IG{f:Addr}{fd:FuncData} (F:Fun K "_law_whole" "_law_whole" c7 f fd) (T:Txt mg):FnOk P w K mg base CX0 1 f fd ["found"] Kl:=by
 refine F.ok xK (fun vs H Q E h=>?_) (fun cdv A outer s H vs Q E hr h=>?_)
 ·obtain⟨i,rfl,_⟩:=h
  rfl
 obtain⟨i,rfl,k⟩:=h
 refine⟨_,(ao (aO (qj (az wQ (by rfl) T.n_isinstance eG (aa (pv 0) (aa (A0 (v:=.ty "int") rfl T.n_int Ht rfl) ag))) (yc (pe_not (az wQ (by rfl) T.n_isinstance eG (aa (pv 0) (aa (A0 (v:=.ty "bool") rfl T.n_bool LK rfl) ag)))))))),?_⟩
 refine⟨_,rfl,_,_,_,_,_,rfl,TyOf.int i,Or.inl ⟨_,rfl,rfl⟩,kit_ii K,_,rfl,iteT ?_⟩
 exact⟨_,rfl,_,_,_,_,_,rfl,TyOf.int i,Or.inl ⟨_,rfl,rfl⟩,kit_ib K,_,rfl,k⟩
theorem gB:aE ["web","behind","front","tie"] ["web","behind"] (ai eT):=⟨rfl,rfl,rfl,by decide +kernel,rfl,by decide +kernel,by decide +kernel⟩
theorem IQ{f fw PL PS WC:Addr}{fd fdw:FuncData} (F:Fun K "front_of" "front_of" eT f fd) (cw:CW K WC) (TL:CT K PL) (TS:CT K PS) (G_ends_within:Cal P w K mg base 1 "ends_within" ["tie","patch"] (pM K) fw fdw):FnOk P w K mg base CX0 2 f fd ["web","behind"] (An PL PS WC):=by
 refine F.ok gB (fun vs H Q E h=>?_) (fun cdv A outer s H vs Q E hr h=>?_)
 ·obtain⟨p,N,m,m0,es,ts,ks,rfl,_⟩:=h
  rfl
 obtain⟨p,N,m,m0,es,ts,ks,rfl,⟨dx,fs,q1,xs,q3,z3,hp,_,hlk,hq1,tk,_⟩,kl,m40,hbd,kk⟩:=h
 have hxl:xs.length=es.length:=tk.1
 have ct:∀ b,CT K (cls PL PS b):=fun b=>by
  unfold cls
  split
  ·exact TS
  ·exact TL
 refine⟨_,(af (au (i:=2) gB.nd rfl (Or.inl rfl) ah)
   (af (bC PassesOwn.never rfl (aV (cP (pv 0) rfl)) (aJ (i:=3) gB.nd rfl (Or.inl rfl)) (ao (dm (aM jW (aF G_ends_within.ok (hr.mono (by decide)) rfl G_ends_within.mg G_ends_within.kp G_ends_within.bn .nil aW (aa (pv 3) (aa (pv 1) ag))) ah (aR _)) (ao (au (i:=2) gB.nd rfl (Or.inl rfl) (ay A3 (pv 2) (ay tV (pv 1) (ay A3 (ay iK ah (cP (pv 3) rfl)) (ay iK ah (cP (pv 3) rfl))))))) bc)))
   (ao (aO (pv 2))))),?_⟩
 refine⟨_,rfl,p,WC,dx,fs,_,rfl,hp,cw.cl,cw.n2,hlk,q1,rfl,⟨_,SqL.of hq1⟩,cn (K:=K) (xs:=xs) (fun i σ H2=>∃ v3 M,σ = [some (.ref p),some (.int (N:Int)),some (.int ((M:Nat):Int)),v3]/\H2=H/\bB (es.take i) N M) ⟨_,0,rfl,rfl,bB.z N⟩ (fun i σ H2 _ ⟨_,_,_,z,_⟩=>by rw[z];exact SqL.of hq1) ?_ ?_⟩
 ·rintro i x σ H2 hx ⟨v3,M,rfl,rfl,fr⟩
  have hi:i<es.length:=by rw[← tk.1];exact(LR.mp hx).1
  obtain⟨e,he⟩:∃ e,es[i]?=some e:=⟨_,LS hi⟩
  obtain⟨k,hk⟩:∃ k,ks[i]?=some k:=⟨_,LS (by omega)⟩
  obtain⟨p',dx',x1,x2⟩:=tk.2 i e k he hk
  rw[hx]at x1
  cases x1
  obtain⟨b1,b2⟩:=hbd e (LV he)
  have et:es.take (i+1)=es.take i++[e]:=by rw[Mx,he];rfl
  have hin:(bit (N:Int) (e.1:Int)+bit (N:Int) (e.2:Int)=1)↔N.testBit e.1≠N.testBit e.2:=by
   rw[bitN,bitN]
   cases N.testBit e.1<;>cases N.testBit e.2<;>decide
  refine⟨_,rfl,_,rfl,p',_,dx',_,_,_,_,rfl,x2,ct _,by omega,by omega,rfl,_,rfl,?_⟩
  refine ite2 (fun c=>?_) (fun c=>?_)
  ·have c':=hin.mp (V.int.inj (of_decide_eq_true c))
   refine⟨_,rfl,_,rfl,_,rfl,p',_,dx',_,_,rfl,x2,(ct _).cl,(ct _).n1,lO _ _ _,_,_,rfl,rfl,⟨by omega,by omega,by decide⟩,_,rfl,p',_,dx',_,_,rfl,x2,(ct _).cl,(ct _).n2,pY _ _ _,_,_,rfl,rfl,⟨by omega,by omega,by decide⟩,_,_,rfl,rfl,_,_,rfl,rfl,_,_,rfl,rfl,?_⟩
   refine⟨some (.ref p'),M|||(N&&&(2^e.1|||2^e.2)),?_,rfl,by rw[et];exact fr.put c'⟩
   have eo:Builtin.bitOr (M:Int) (Builtin.bitAnd (N:Int) (Builtin.bitOr (1*2^((e.1:Nat):Int).toNat) (1*2^((e.2:Nat):Int).toNat)))=((M|||(N&&&(2^e.1|||2^e.2)):Nat):Int):=by rw[shlN,shlN,orN,andN,orN]
   show[some (V.ref p),some (V.int (N:Int)),some (V.int (Builtin.bitOr (M:Int) (Builtin.bitAnd (N:Int) (Builtin.bitOr (1*2^((e.1:Nat):Int).toNat) (1*2^((e.2:Nat):Int).toNat))))),some (V.ref p')]=_
   rw[eo]
  ·have c':N.testBit e.1=N.testBit e.2:=by
    cases h1:N.testBit e.1<;>cases h2:N.testBit e.2
    ·rfl
    ·exact absurd (decide_eq_true (congrArg V.int (hin.mpr (by rw[h1,h2];decide)))) c
    ·exact absurd (decide_eq_true (congrArg V.int (hin.mpr (by rw[h1,h2];decide)))) c
    ·rfl
   exact⟨some (.ref p'),M,rfl,rfl,by rw[et];exact fr.skip c'⟩
 rintro σ H2 ⟨v3,M,rfl,rfl,fr⟩
 rw[hxl,MI]at fr
 exact⟨_,rfl,kk M fr⟩
end
end K8
namespace K8
open PySem L2
local macro_rules | `(tactic| walk_at "cc") => `(tactic| first | exact ⟨by decide, by decide⟩ | (show (0 : Int) < _; decide) | (show (0 : Int) < _; omega) | (show (0 : Int) ≤ _; omega) | exact ⟨by decide, by decide, by decide⟩ | exact ⟨by omega, by omega, by decide⟩ | exact Or.inl ⟨by decide, by decide⟩ | exact Or.inl ⟨by omega, by omega⟩)
local macro_rules | `(tactic| walk_at "rd") => `(tactic| repeat (first | refine ⟨_, rfl, ?_⟩ | refine ⟨_, _, rfl, rfl, ?_⟩ | refine ⟨rfl, ?_⟩ | (refine ⟨?cc, ?_⟩; (case cc => walk_at "cc"))))
def rI(m:Nat):List Int:=(MH m).map fun(i:Nat)=>((i:Nat):Int)
theorem rI_V(m:Nat):((MH m).map fun(i:Nat)=>V.int ((i:Nat):Int))=(rI m).map V.int:=by unfold rI;rw[Nk];rfl
theorem rI_pw(m:Nat):(rI m).Pairwise (·<=·):=by
 unfold rI
 refine N9.map _ (fun a b h=>?_) List.pairwise_lt_range
 omega
theorem Gx{K:LU}{H:Hp}{a:Addr}{ns:List Int}(h:SqL K H a (ns.map V.int)):RdD K H (.ref a) (.list (ns.map PyData.int)):=by
 refine RdD.lst h (by rw[LW,LW]) fun i x d e1 e2=>?_
 rw[Mb]at e1 e2
 cases q:ns[i]? with
 |none=>rw[q]at e1;cases e1
 |some z=>rw[q]at e1 e2;cases e1;cases e2;exact .int _
structure ErrC(K:LU)(mg:Str->Option Value)(x:Str)(C:Addr):Prop where
 mg:mg x=some (.ref C)
 ec:ExC K C
def Told(m:Nat)(v:V)(H:Hp)(ns:List Int):Prop:=(v=.non/\ns=rI m)∨∃ o,v=.ref o/\H o=some (.lst (ns.map V.int))/\ns.length<=50
theorem Told.mono{m:Nat}{v:V}{H H':Hp}{ns:List Int}(h:Told m v H ns)(s:Same H H'):Told m v H' ns:=by
 rcases h with h | ⟨o,a,b,c⟩
 ·exact .inl h
 ·exact .inr ⟨o,a,s _ _ b,c⟩
def C3(BO WC:Addr):Sp:=fun vs H Q E=>∃(p dx:Addr)(fs:List (Str×V))(m:Nat)(v:V)(ns:List Int),vs = [.ref p,v]/\H p=some (.ins WC dx fs)/\fs.lookup ("many" : Str)=some (.int (m:Int))/\m<=40/\Told m v H ns /\
 (¬ ns.Perm (rI m)->∀ H',Same H H'->E (.ref BO) none H')/\(ns.Perm (rI m)->∀ q H',Same H H'->H q=none->H' q=some (.lst (ns.map V.int))->Q (.ref q) H')
def mk(l:List Nat):Nat:=l.foldl (fun a x=>a|||2^x) 0
theorem F1(l:List Nat)(x:Nat):mk (l++[x])=mk l|||2^x:=by unfold mk;rw[List.foldl_append];rfl
def fy(es:En)(od ms:List Nat):Prop:=ms.length=od.length+1/\∀ k M,ms[k]?=some M->bB es (mk (od.take k)) M
theorem GX(es:En):bB es 0 0:=fun x=>by rw[M3];rfl
theorem fy.snoc{es:En}{od ms:List Nat}{x M:Nat}(h:fy es od ms)(hM:bB es (mk (od++[x])) M):fy es (od++[x]) (ms++[M]):=by
 refine⟨by rw[LX,LX,h.1];rfl,fun k N e=>?_⟩
 by_cases hk:k<ms.length
 ·rw[L0 hk]at e
  have hk2:k<=od.length:=by have:=h.1;omega
  rw[List.take_append_of_le_length hk2]
  exact h.2 k N e
 ·rw[LY (by omega)]at e
  have hk2:k=ms.length:=by
   have:=(LR.mp e).1
   rw[Me]at this
   omega
  subst hk2
  rw[Mw]at e
  cases e
  rw[MY (by rw[LX,Me,h.1];exact Ma _)]
  exact hM
theorem C9{ns:List Int}{m:Nat}(h:ns.Perm (rI m)):∃ od:List Nat,ns=cI od/\∀ x∈od,x<m:=by
 have hb:∀ x∈ns,0<=x/\x<(m:Int):=fun x hx=>by
  have:=h.mem_iff.mp hx
  unfold rI at this
  obtain⟨i,hi,rfl⟩:=Mj.mp this
  have:=MK.mp hi
  omega
 refine⟨ns.map Int.toNat,?_,fun x hx=>?_⟩
 ·unfold cI
  rw[Nk]
  symm
  refine(Of fun x hx=>?_).trans (List.map_id _)
  have:=hb x hx
  show((x.toNat:Nat):Int)=x
  omega
 ·obtain⟨y,hy,rfl⟩:=Mj.mp hx
  have:=hb y hy
  omega
def Km(BO PL PS WC:Addr):Sp:=fun vs H Q E=>∃(p:Addr)(m:Nat)(es:En)(ts:List (List Nat))(ks:Kn)(v:V)(ns:List Int),vs = [.ref p,v]/\WebT PL PS WC H p m es ts ks/\ks.length=es.length/\(∀ e∈es,e.1<m/\e.2<m)/\m<=40/\Told m v H ns /\
 (¬ ns.Perm (rI m)->∀ H',Same H H'->E (.ref BO) none H')/\(∀ od:List Nat,ns=cI od->ns.Perm (rI m)->∀ q ms H',Same H H'->H' q=some (.lst (ms.map iV))->fy es od ms->Q (.ref q) H')
section
variable{P:Program}{w:World}{K:LU}{mg:Str->Option Value}{base:Heap}
theorem qc:aE ["web","order","places"] ["web","order"] (ai eK):=⟨rfl,rfl,rfl,by decide +kernel,rfl,by decide +kernel,by decide +kernel⟩
theorem ok_ord{f BO WC:Addr}{fd:FuncData} (F:Fun K "order_of" "order_of" eK f fd) (T:Txt mg) (cw:CW K WC) (X_BadOrder:ErrC K mg "BadOrder" BO):FnOk P w K mg base (CXr P w) 1 f fd ["web","order"] (C3 BO WC):=by
 refine F.okX qc (fun vs H Q E h=>?_) (fun cdv A outer s H vs Q E hr h=>?_)
 ·obtain⟨p,dx,fs,m,v,ns,rfl,_⟩:=h
  rfl
 obtain⟨p,dx,fs,m,v,ns,rfl,hp,lk,m40,td,kb,k⟩:=h
 have hu64:=hr.units
 refine⟨_,(af (au (i:=2) qc.nd rfl (Or.inl rfl) (oq rfl rfl T.n_list rfl T.n_range (cP (pv 0) rfl)))
   (af (dm (aM op_isN (pv 1) FJ (aR _)) (ao (aO (pv 2))) bc)
   (af (dm (aM (op_neG hu64) (az qY (by rfl) T.n_sorted rh (aa (pv 1) ag)) (pv 2) (aR _)) (ao (xP X_BadOrder.ec X_BadOrder.mg rfl j6 rfl rfl (aa Jz ag))) bc)
   (ao (aO (cb bT (by rfl) T.n_list iq (aa (pv 1) ag))))))),?_⟩
 refine⟨_,rfl,p,WC,dx,fs,_,rfl,hp,cw.cl,cw.n1,lk,m,rfl,by omega,fun q hq=>?_⟩
 rw[rI_V]
 have s1:=aj hq (.lst ((rI m).map V.int))
 rcases td with⟨rfl,rfl⟩ | ⟨o,rfl,ho,hl⟩
 ·refine⟨_,rfl,rfl,_,rfl,iteT ?_⟩
  exact⟨_,rfl,k (NR _) q _ s1 hq ae⟩
 refine⟨_,rfl,rfl,_,rfl,iteF ?_⟩
 refine⟨_,rfl,o,ns,rfl,SqL.of (s1 _ _ ho),by omega,fun l out hl' hp' hs=>?_⟩
 have s2:=aj hl' (.lst (out.map V.int))
 have s12:=s1.trans s2
 refine⟨_,rfl,_,_,Gx (SqL.of ae),Gx (SqL.of (s2 _ _ ae)),kX _,kX _,_,rfl,?_⟩
 rw[Jh]
 refine ite2 (fun c=>?_) (fun c=>?_)
 ·have c':out≠rI m:=fun z=>by rw[decide_eq_true z]at c;cases c
  refine⟨(by decide:(1:Nat)<=sizeLine),kb (fun z=>c' (mO (hp'.trans z) hs (rI_pw m))) _ s12⟩
 ·have c':out=rI m:=by
   by_cases z:out=rI m
   ·exact z
   ·exact absurd (by rw[decide_eq_false z];rfl) c
  refine⟨_,rfl,o,_,rfl,.inl (SqL.of (s12 _ _ ho)),fun r hr'=>?_⟩
  exact k (c'▸hp'.symm) r _ (s12.trans (aj hr' _)) (by
   cases y:H r with
   |none=>rfl
   |some u=>rw[s12 _ _ y]at hr';cases hr') ae
theorem iI:aE ["web","order","found","behind","place"] ["web","order"] (ai jB):=⟨rfl,rfl,rfl,by decide +kernel,rfl,by decide +kernel,by decide +kernel⟩
theorem FW{f fo ff BO PL PS WC:Addr}{fd fdo fdf:FuncData} (F:FunD K "fronts" "fronts" jB f fd #[.none]) (G_order_of:CalX P w K mg base 1 "order_of" ["web","order"] (C3 BO WC) fo fdo) (G_front_of:Cal P w K mg base 2 "front_of" ["web","behind"] (An PL PS WC) ff fdf):FnOk P w K mg base (CXr P w) 3 f fd ["web","order"] (Km BO PL PS WC):=by
 refine F.okX iI (fun vs H Q E h=>?_) (fun cdv A outer s H vs Q E hr h=>?_)
 ·obtain⟨p,m,es,ts,ks,v,ns,rfl,_⟩:=h
  rfl
 obtain⟨p,m,es,ts,ks,v,ns,rfl,wm,kl,hbd,m40,td,kb,kk⟩:=h
 refine⟨_,(af (au (i:=2) iI.nd rfl (Or.inl rfl) (cH (aa ah ag)))
   (af (au (i:=3) iI.nd rfl (Or.inl rfl) ah)
   (af (KC rfl (aV (fD G_order_of.ok (hr.mono (by decide)) rfl G_order_of.mg G_order_of.kp G_order_of.bn .nil j6 rfl (aa (pv 0) (aa (pv 1) ag)))) (aJ (i:=4) iI.nd rfl (Or.inl rfl)) (af (au (i:=3) iI.nd rfl (Or.inl rfl) (ay A3 (pv 3) (ay iK ah (pv 4))))
   (ao (aX (dI Mn Mz My aU (pv 2) (aa (aF G_front_of.ok (hr.mono (by decide)) rfl G_front_of.mg G_front_of.kp G_front_of.bn .nil aW (aa (pv 0) (aa (pv 3) ag))) ag))))))
   (ao (aO (pv 2)))))),?_⟩
 refine⟨(by show 1<=sizeLine;decide),fun qf hqf=>?_⟩
 have s1:=aj hqf (.lst [.int 0])
 obtain⟨dx,fs,_,_,_,_,hp,lk,_⟩:=id wm
 refine⟨_,rfl,_,rfl,p,dx,fs,m,v,ns,rfl,s1 _ _ hp,lk,m40,td.mono s1,fun z H' s'=>kb z _ (s1.trans s'),fun pm q H2 s2 nq hq=>?_⟩
 obtain⟨od,rfl,ob⟩:=C9 pm
 have nqf:q≠qf:=fun z=>by rw[z,ae]at nq;cases nq
 have ol:(cI od).length=od.length:=by unfold cI;rw[LW]
 have s12:=s1.trans s2
 have ol40:od.length<=40:=by
  have:=pm.length_eq
  unfold rI at this
  rw[ol,LW,M6]at this
  omega
 refine⟨q,rfl,⟨_,SqL.of hq⟩,cn (K:=K) (xs:=(cI od).map V.int) (fun i σ H3=>∃ v4 ms,σ = [some (.ref p),some v,some (.ref qf),some (.int ((mk (od.take i):Nat):Int)),v4]/\Same H H3/\H3 q=some (.lst ((cI od).map V.int))/\H3 qf=some (.lst (ms.map iV))/\fy es (od.take i) ms) ⟨_,[0],rfl,s12,hq,s2 _ _ ae,rfl,fun k M e=>?_⟩ (fun i σ H3 _ ⟨_,_,_,_,z,_⟩=>SqL.of z) ?_ ?_⟩
 ·match k with
  |0=>cases e;exact GX es
  |k+1=>cases e
 ·rintro i x σ H3 hx ⟨v4,ms,rfl,s3,hq3,hf3,fr⟩
  rw[Mb]at hx
  obtain⟨y,hy,rfl⟩:=Ms.mp hx
  unfold cI at hy
  rw[Mb]at hy
  obtain⟨pl,hpl,rfl⟩:=Ms.mp hy
  have hb:=ob pl (LV hpl)
  have et:od.take (i+1)=od.take i++[pl]:=by rw[Mx,hpl];rfl
  have ml:ms.length<=41:=by
   have:=fr.1
   rw[MT]at this
   omega
  refine⟨_,rfl,_,rfl,_,_,rfl,rfl,⟨by omega,by omega,by decide⟩,_,_,rfl,rfl,?_⟩
  have eo:Builtin.bitOr ((mk (od.take i):Nat):Int) (1*2^((pl:Nat):Int).toNat)=((mk (od.take (i+1)):Nat):Int):=by rw[et,F1,shlN,orN]
  refine⟨_,rfl,.inl ⟨rfl,_,SqL.of hf3⟩,_,rfl,_,rfl,p,mk (od.take (i+1)),m,m,es,ts,ks,congrArg (fun z=>[V.ref p,V.int z]) eo,wm.mono s3,kl,m40,hbd,fun M hM=>?_⟩
  refine⟨qf,_,_,rfl,rfl,hf3,ar (by rw[LW];omega),?_⟩
  refine⟨some (.int (pl:Int)),ms++[M],?_,aL s3 hqf _,by rw[aq nqf];exact hq3,by rw[ae,MD];rfl,by rw[et]at hM ⊢;exact fr.snoc hM⟩
  show[some (V.ref p),some v,some (V.ref qf),some (V.int (Builtin.bitOr ((mk (od.take i):Nat):Int) (1*2^((pl:Nat):Int).toNat))),some (V.int (pl:Int))]=_
  rw[eo]
 ·rintro σ H3 ⟨v4,ms,rfl,s3,hq3,hf3,fr⟩
  rw[LW,ol,MI]at fr
  exact⟨_,rfl,kk od rfl pm qf ms H3 s3 hf3 fr⟩
end
end K8
namespace K8
open PySem L2
local macro_rules | `(tactic| walk_at "cc") => `(tactic| first | exact ⟨by decide, by decide⟩ | (show (0 : Int) < _; decide) | (show (0 : Int) < _; omega) | (show (0 : Int) ≤ _; omega) | exact ⟨by decide, by decide, by decide⟩ | exact ⟨by omega, by omega, by decide⟩ | exact Or.inl ⟨by decide, by decide⟩ | exact Or.inl ⟨by omega, by omega⟩)
local macro_rules | `(tactic| walk_at "rd") => `(tactic| repeat (first | refine ⟨_, rfl, ?_⟩ | refine ⟨_, _, rfl, rfl, ?_⟩ | refine ⟨rfl, ?_⟩ | (refine ⟨?cc, ?_⟩; (case cc => walk_at "cc"))))
theorem pe_or{X:Cx}{e:Expr}{t1 t2:TE}(h1:PE X e t1)(h2:PE X e t2):PE X e (fun σ H Q=>t1 σ H Q∨t2 σ H Q):=fun pins s σ H Q I h=>h.elim (h1 pins s σ H Q I) (h2 pins s σ H Q I)
theorem JZ(x y:Int):Builtin.bitAnd (Builtin.bitXor x y) 1=(x%2+y%2)%2:=by
 have e:Builtin.bitAnd (Builtin.bitXor x y) 1=Builtin.bitXor x y%2:=PySem.W.kbt_mask _ 1
 rw[e,PyProof.Rows.bitXor_and]
 omega
def unp(push:Bool)(a b l:Int):Bool:=!decide (V.int ((bit l a+bit l b)%2)=V.int (if push=true then 1 else 0))
def xw(push:Bool):Sp:=fun vs H Q _=>∃ p,vs = [.ref p]/\Q (.int (if push=true then 1 else 0)) H
def TieAt(H:Hp)(p C:Addr)(a b s:Int):Prop:=∃ dx,H p=some (.ins C dx (tf a b s))
def C2(C:Addr)(push:Bool):Sp:=fun vs H Q _=>∃ p a b s l,vs = [.ref p,.int l]/\TieAt H p C a b s/\0<=a/\0<=b/\Q (.bl (unp push a b l)) H
def pZ(C:Addr)(push:Bool):Sp:=fun vs H Q _=>∃ p a b s l,vs = [.ref p,.int l]/\TieAt H p C a b s/\0<=a/\0<=b/\Q (.int (if unp push a b l=true then s else 0)) H
def U(es:En)(ks:Kn)(l:Int)(t:Nat):Bool:=match es[t]?,ks[t]? with | some e,some k=>unp (decide (k.1=1)) (e.1:Int) (e.2:Int) l | _,_=>false
theorem U_at{es:En}{ks:Kn}{l:Int}{t:Nat}{e:Nat×Nat}{k:Int×Int}(h1:es[t]?=some e)(h2:ks[t]?=some k):U es ks l t=unp (decide (k.1=1)) (e.1:Int) (e.2:Int) l:=by unfold U;rw[h1,h2]
def stg(ks:Kn)(t:Nat):Int:=match ks[t]? with | some k=>k.2 | none=>0
section
variable{P:Program}{w:World}{K:LU}{mg:Str->Option Value}{base:Heap}
theorem AD:aE ["self"] ["self"] (ai eV):=⟨rfl,rfl,rfl,by decide +kernel,rfl,by decide +kernel,by decide +kernel⟩
theorem IE{f:Addr}{fd:FuncData} (F:Fun K "wish" "Tie.wish" eV f fd):FnOk P w K mg base CX0 1 f fd ["self"] (xw false):=by
 refine F.ok AD (fun vs H Q E h=>?_) (fun cdv A outer s H vs Q E hr h=>?_)
 ·obtain⟨p,rfl,_⟩:=h
  rfl
 obtain⟨p,rfl,k⟩:=h
 exact⟨_,(ao (aO ah)),k⟩
theorem xO:aE ["self"] ["self"] (ai dk):=⟨rfl,rfl,rfl,by decide +kernel,rfl,by decide +kernel,by decide +kernel⟩
theorem ID{f:Addr}{fd:FuncData} (F:Fun K "wish" "Push.wish" dk f fd):FnOk P w K mg base CX0 1 f fd ["self"] (xw true):=by
 refine F.ok xO (fun vs H Q E h=>?_) (fun cdv A outer s H vs Q E hr h=>?_)
 ·obtain⟨p,rfl,_⟩:=h
  rfl
 obtain⟨p,rfl,k⟩:=h
 exact⟨_,(ao (aO ah)),k⟩
theorem iB:aE ["self","laying","unlike"] ["self","laying"] (ai bA):=⟨rfl,rfl,rfl,by decide +kernel,rfl,by decide +kernel,by decide +kernel⟩
theorem FQ{f C fw:Addr}{fd fdw:FuncData}{push:Bool} (F:Fun K "unpleased" "Tie.unpleased" bA f fd) (T:CT K C) (m_wish:Met P w K mg base 1 C "wish" ["self"] (xw push) fw fdw):FnOk P w K mg base CX0 2 f fd ["self","laying"] (C2 C push):=by
 refine F.ok iB (fun vs H Q E h=>?_) (fun cdv A outer s H vs Q E hr h=>?_)
 ·obtain⟨p,a,b,s,l,rfl,_⟩:=h
  rfl
 obtain⟨p,a,b,st,l,rfl,⟨dx,hp⟩,ha,hb,k⟩:=h
 have CL:=T.cl
 refine⟨_,(af (au (i:=2) iB.nd rfl (Or.inl rfl) (ay tV (ay op_xor (ay qk (pv 1) (cP (pv 0) rfl)) (ay qk (pv 1) (cP (pv 0) rfl))) ah))
   (ao (aO (iJ vk (pv 2) (Iz (pv 0) CL m_wish.me m_wish.ok (hr.mono (by decide)) m_wish.bn .nil aW) (aR _))))),?_⟩
 refine⟨_,rfl,_,rfl,p,C,dx,_,_,rfl,hp,T.cl,T.n1,lO _ _ _,_,_,rfl,rfl,ha,?_⟩
 refine⟨_,rfl,_,rfl,p,C,dx,_,_,rfl,hp,T.cl,T.n2,pY _ _ _,_,_,rfl,rfl,hb,?_⟩
 refine⟨_,_,rfl,rfl,_,_,rfl,rfl,?_⟩
 refine⟨_,rfl,_,rfl,p,dx,_,rfl,hp,Ie _ _ _ (by decide +kernel) (by decide +kernel) (by decide +kernel),p,rfl,?_⟩
 refine⟨rfl,?_⟩
 have e:=JZ (l/2^a.toNat) (l/2^b.toNat)
 have k':Q (V.bl (unp push a b l)) H:=k
 unfold unp bit at k'
 rw[← e]at k'
 exact k'
theorem xN:aE ["self","laying"] ["self","laying"] (ai dj):=⟨rfl,rfl,rfl,by decide +kernel,rfl,by decide +kernel,by decide +kernel⟩
theorem De{f C fw:Addr}{fd fdw:FuncData}{push:Bool} (F:Fun K "price" "Tie.price" dj f fd) (T:CT K C) (m_unpleased:Met P w K mg base 2 C "unpleased" ["self","laying"] (C2 C push) fw fdw):FnOk P w K mg base CX0 3 f fd ["self","laying"] (pZ C push):=by
 refine F.ok xN (fun vs H Q E h=>?_) (fun cdv A outer s H vs Q E hr h=>?_)
 ·obtain⟨p,a,b,s,l,rfl,_⟩:=h
  rfl
 obtain⟨p,a,b,st,l,rfl,⟨dx,hp⟩,ha,hb,k⟩:=h
 have CL:=T.cl
 refine⟨_,(ao (aO (vh (Fx (AY (pv 0) CL m_unpleased.me m_unpleased.ok (hr.mono (by decide)) m_unpleased.bn .nil aW (aa (pv 1) ag))) (cP (pv 0) rfl) ah))),?_⟩
 refine⟨_,rfl,p,dx,_,rfl,hp,Ie _ _ _ (by decide +kernel) (by decide +kernel) (by decide +kernel),_,rfl,p,a,b,st,l,rfl,⟨dx,hp⟩,ha,hb,_,rfl,?_⟩
 refine ite2 (fun c=>?_) (fun c=>?_)
 ·refine⟨_,rfl,p,C,dx,_,_,rfl,hp,T.cl,T.n3,tf_str _ _ _,?_⟩
  rw[if_pos c]at k
  exact k
 ·rw[if_neg c]at k
  exact k
end
end K8
namespace K8
open PySem L2
local macro_rules | `(tactic| walk_at "cc") => `(tactic| first | exact ⟨by decide, by decide⟩ | (show (0 : Int) < _; decide) | (show (0 : Int) < _; omega) | (show (0 : Int) ≤ _; omega) | exact ⟨by decide, by decide, by decide⟩ | exact ⟨by omega, by omega, by decide⟩ | exact Or.inl ⟨by decide, by decide⟩ | exact Or.inl ⟨by omega, by omega⟩)
local macro_rules | `(tactic| walk_at "rd") => `(tactic| repeat (first | refine ⟨_, rfl, ?_⟩ | refine ⟨_, _, rfl, rfl, ?_⟩ | refine ⟨rfl, ?_⟩ | (refine ⟨?cc, ?_⟩; (case cc => walk_at "cc"))))
def sumL{α:Type}(l:List α)(f:α->Int):Int:=(l.map f).sum
theorem pJ{α:Type}(f:α->Int):sumL [] f=0:=rfl
theorem aH{α:Type}(x:α)(l:List α)(f:α->Int):sumL (x::l) f=f x+sumL l f:=by unfold sumL;rw[MQ,List.sum_cons]
theorem pK{α:Type}(l:List α)(f g:α->Int):sumL l (fun x=>f x+g x)=sumL l f+sumL l g:=by
 induction l with
 |nil=>rfl
 |cons x l ih=>rw[aH,aH,aH,ih];omega
theorem gb{α:Type}(l:List α):sumL l (fun _=>0)=0:=by
 induction l with
 |nil=>rfl
 |cons x l ih=>rw[aH,ih];rfl
theorem aN{α:Type}{l:List α}{f g:α->Int}(h:∀ x∈l,f x=g x):sumL l f=sumL l g:=by
 induction l with
 |nil=>rfl
 |cons x l ih=>rw[aH,aH,h x (by simp),ih fun y hy=>h y (by simp[hy])]
theorem xt{α β:Type}(l:List α)(r:List β)(f:α->β->Int):sumL l (fun x=>sumL r (f x))=sumL r (fun y=>sumL l (fun x=>f x y)):=by
 induction l with
 |nil=>rw[pJ];exact(gb r).symm
 |cons x l ih =>
  rw[aH,ih,← pK]
  exact aN fun y _=>(aH x l fun x=>f x y).symm
def lowL:List Int->Int
 |[]=>0
 |[x]=>x
 |x::y::r=>if x<=lowL (y::r) then x else lowL (y::r)
theorem qy:∀ ns:List Int,ns≠[]->lowL ns∈ns/\∀ x∈ns,lowL ns<=x
 |[],h=>absurd rfl h
 |[x],_=>⟨by simp[lowL],fun y hy=>by rw[Mu.mp hy];exact NT _⟩
 |x::y::r,_=>by
  obtain⟨a,b⟩:=qy (y::r) (by simp)
  rw[lowL]
  by_cases c:x<=lowL (y::r)
  ·rw[if_pos c]
   refine⟨MB ..,fun z hz=>?_⟩
   rcases LZ.mp hz with rfl | hz
   ·exact NT _
   ·exact Int.le_trans c (b z hz)
  ·rw[if_neg c]
   refine⟨Ml _ a,fun z hz=>?_⟩
   rcases LZ.mp hz with rfl | hz
   ·omega
   ·exact b z hz
theorem Lk{ns:List Int}{m:Int}(hm:m∈ns)(hl:∀ x∈ns,m<=x):m=lowL ns:=by
 obtain⟨a,b⟩:=qy ns (fun e=>by rw[e]at hm;cases hm)
 have h1:=hl _ a
 have h2:=b _ hm
 omega
abbrev Pr:=Int×Int
def tot(es:List Pr)(m:Int):Int:=((es.filter fun e=>decide (e.1=m)).map (·.2)).sum
def jj(es:List Pr):Pr:=(lowL (es.map (·.1)),tot es (lowL (es.map (·.1))))
def PrAt(H:Hp)(v:V)(p:Pr):Prop:=∃ t,v=.ref t/\H t=some (.tup [.int p.1,.int p.2])
def RwAt(H:Hp)(v:V)(r:List Pr):Prop:=∃ a ys,v=.ref a/\H a=some (.lst ys)/\LsAt PrAt H ys r
theorem PrAt.mono{H H':Hp}{v:V}{p:Pr}(h:PrAt H v p)(s:Same H H'):PrAt H' v p:=by
 obtain⟨t,e,z⟩:=h
 exact⟨t,e,s _ _ z⟩
theorem RwAt.mono{H H':Hp}{v:V}{r:List Pr}(h:RwAt H v r)(s:Same H H'):RwAt H' v r:=by
 obtain⟨a,ys,e,z,l⟩:=h
 exact⟨a,ys,e,s _ _ z,l.imp fun _ _ q=>q.mono s⟩
def spCT(K:LU):Sp:=fun vs H Q _=>∃(v:V)(es:List Pr),vs = [v]/\RwAt H v es/\es≠[]/\es.length<=900/\∀ u H',Same H H'->PrAt H' u (jj es)->Q u H'
theorem uA{α:Type}(l r:List α)(f:α->Int):sumL (l++r) f=sumL l f+sumL r f:=by
 induction l with
 |nil=>rw[List.nil_append,pJ,Nf]
 |cons x l ih=>rw[List.cons_append,aH,aH,ih];omega
theorem lP{α β:Type}(l:List α)(g:α->β)(f:β->Int):sumL (l.map g) f=sumL l fun x=>f (g x):=by
 unfold sumL
 rw[Nk]
 rfl
theorem E7{α:Type}(l:List α)(p:α->Bool)(f:α->Int):sumL (l.filter p) f=sumL l fun x=>if p x=true then f x else 0:=by
 induction l with
 |nil=>rfl
 |cons x l ih =>
  by_cases h:p x=true
  ·rw[Ox h,aH,aH,ih,if_pos h]
  ·rw[Oy h,aH,ih,if_neg h,Nf]
theorem pI{α β:Type} [DecidableEq β] (k:α->β):∀{l:List α}{x:α}(g:α->Int),(l.map k).Nodup->x∈l->sumL l (fun y=>if k x=k y then g y else 0)=g x
 |y::l,x,g,nd,h=>by
  rw[MQ,Mo]at nd
  rw[aH]
  rcases LZ.mp h with rfl | h
  ·rw[if_pos rfl]
   have z:sumL l (fun y=>if k x=k y then g y else 0)=0:=by
    refine(aN fun y hy=>?_).trans (gb l)
    rw[if_neg]
    intro e
    exact nd.1 (e▸Mj.mpr ⟨y,hy,rfl⟩)
   rw[z,Int.add_zero]
  ·have ne:¬ k x=k y:=fun e=>nd.1 (by rw[← e];exact Mj.mpr ⟨x,h,rfl⟩)
   rw[if_neg ne,Nf]
   exact pI k g nd.2 h
theorem Kf{n:Nat}{l:List Nat}(nd:l.Nodup)(hl:∀ t∈l,t<n)(g:Nat->Int):sumL (MH n) (fun t=>if t∈l then g t else 0)=sumL l g:=by
 have e:∀ t∈MH n,(if t∈l then g t else 0)=sumL l fun u=>if t=u then g u else 0:=fun t _=>by
  by_cases h:t∈l
  ·rw[if_pos h]
   exact(pI (fun x=>x) g (by rw[List.map_id'];exact nd) h).symm
  ·rw[if_neg h]
   refine((aN fun u hu=>?_).trans (gb l)).symm
   have ne:¬ t=u:=fun e=>h (by rw[e];exact hu)
   rw[if_neg ne]
 rw[aN e,xt]
 refine aN fun u hu=>?_
 have q:=pI (fun x:Nat=>x) (l:=MH n) (x:=u) g (by rw[List.map_id'];exact NK) (MK.mpr (hl u hu))
 refine(aN fun t _=>?_).trans q
 by_cases h:t=u
 ·rw[if_pos h,if_pos h.symm,h]
 ·have ne:¬ u=t:=fun e=>h e.symm
  rw[if_neg h,if_neg ne]
def layK(ps:List Nat)(w:Nat):Nat->Nat
 |0=>0
 |k+1=>if w.testBit k=true then layK ps w k|||2^(ps.getD k 0) else layK ps w k
def vQ(ps:List Nat)(w:Nat):Nat:=layK ps w ps.length
def lays(ps:List Nat):List Nat:=(MH (2^ps.length)).map (vQ ps)
theorem BF{ps qs:List Nat}{w v:Nat}:∀{k:Nat},(∀ i,i<k->ps.getD i 0=qs.getD i 0/\w.testBit i=v.testBit i)->layK ps w k=layK qs v k
 |0,_=>rfl
 |k+1,h=>by
  obtain⟨a,b⟩:=h k (NA k)
  rw[layK,layK,a,b,BF fun i hi=>h i (NO hi)]
theorem Dl{ps:List Nat}{p i:Nat}(h:i<ps.length):(ps++[p]).getD i 0=ps.getD i 0:=by
 rw[MN,MN,L0 h]
theorem Ll{ps:List Nat}{p w:Nat}(hw:w<2^ps.length):vQ (ps++[p]) w=vQ ps w:=by
 unfold vQ
 rw[LX,Me,layK,if_neg (by rw[Nx hw];exact Mp)]
 exact BF fun i hi=>⟨Dl hi,rfl⟩
theorem IY{ps:List Nat}{p w:Nat}(hw:w<2^ps.length):vQ (ps++[p]) (2^ps.length+w)=vQ ps w|||2^p:=by
 unfold vQ
 rw[LX,Me,layK]
 have tb:(2^ps.length+w).testBit ps.length=true:=by
  rw[Nat.testBit_two_pow_add_eq,Nx hw];rfl
 have gp:(ps++[p]).getD ps.length 0=p:=by
  rw[MN,LY (Ma _),Mw];rfl
 rw[if_pos tb,gp]
 congr 1
 refine BF fun i hi=>⟨Dl hi,?_⟩
 exact Nat.testBit_two_pow_add_gt hi w
theorem iS(ps:List Nat)(p:Nat):lays (ps++[p])=lays ps++(lays ps).map (·|||2^p):=by
 unfold lays
 have e:2^(ps++[p]).length=2^ps.length+2^ps.length:=by rw[LX,Me,O2];omega
 rw[e,List.range_add,MD,Nk,Nk]
 congr 1
 ·exact Of fun w hw=>Ll (MK.mp hw)
 ·exact Of fun w hw=>IY (MK.mp hw)
theorem Ii(ps:List Nat)(p:Nat)(f:Nat->Int):sumL (lays (ps++[p])) f=sumL (lays ps) (fun L=>f L+f (L|||2^p)):=by
 rw[iS,uA,lP,pK]
theorem cJ(l:List Nat)(x:Nat):(mk l).testBit x=decide (x∈l):=by
 have go:∀(l:List Nat)(a:Nat),(l.foldl (fun a x=>a|||2^x) a).testBit x=(a.testBit x||decide (x∈l)):=by
  intro l
  induction l with
  |nil=>intro a;simp
  |cons y l ih =>
   intro a
   rw[List.foldl_cons,ih,M8,MM]
   by_cases h:y=x
   ·subst h;simp
   ·have h':¬ x=y:=fun e=>h e.symm
    simp[h,h',LZ]
 unfold mk
 rw[go,M3,Bool.false_or]
theorem pS{ps:List Nat}{L:Nat}(h:L∈lays ps){x:Nat}(hx:L.testBit x=true):x∈ps:=by
 unfold lays at h
 obtain⟨w,_,rfl⟩:=Mj.mp h
 unfold vQ at hx
 have go:∀ k,k<=ps.length->(layK ps w k).testBit x=true->x∈ps:=fun k=>by
  induction k with
  |zero=>intro _ h;rw[layK,M3]at h;cases h
  |succ k ih =>
   intro hk h
   rw[layK]at h
   split at h
   ·rw[M8,MM]at h
    rcases OO.mp h with h | h
    ·exact ih (by omega) h
    ·have e:ps.getD k 0=x:=of_decide_eq_true h
     rw[← e,MN,LS (by omega)]
     exact List.getElem_mem _
   ·exact ih (by omega) h
 exact go _ (Ma _) hx
def insT(es:En)(B t:Nat):Bool:=match es[t]? with | some e=>B.testBit e.1&&B.testBit e.2 | none=>false
theorem nA{es:En}{B t:Nat}{e:Nat×Nat}(h:es[t]?=some e):insT es B t=(B.testBit e.1&&B.testBit e.2):=by unfold insT;rw[h]
def cstB(es:En)(pr:Nat->Nat->Int)(B L:Nat):Int:=sumL (MH es.length) fun t=>if insT es B t=true then pr t L else 0
def Loc(es:En)(pr:Nat->Nat->Int):Prop:=∀(t:Nat)(e:Nat×Nat),es[t]?=some e->∀ L L':Nat,L.testBit e.1=L'.testBit e.1->L.testBit e.2=L'.testBit e.2->pr t L=pr t L'
def jZ(es:En)(B:Nat)(row:List Nat):List Nat:=row.filter (insT es B)
theorem lU(L p x:Nat)(b:Bool):(L|||(if b=true then 2^p else 0)).testBit x=(L.testBit x||(b&&decide (p=x))):=by
 rw[M8]
 cases b
 ·simp
 ·simp[MM]
def hsg(s p:Nat)(b:Bool):Nat:=s|||(if b=true then 2^p else 0)
section
variable{m:Nat}{es:En}{ts:List (List Nat)}{pr:Nat->Nat->Int}{ps row:List Nat}{p F F' L:Nat}
theorem GQ(h:bB es (mk ps) F)(h':bB es (mk (ps++[p])) F'){x:Nat}(hx:F'.testBit x=true):x=p∨F.testBit x=true:=by
 rw[h' x,cJ]at hx
 rw[h x,cJ]
 obtain⟨h1,h2⟩:=M9.mp hx
 by_cases e:x=p
 ·exact .inl e
 ·right
  have hm:x∈ps:=by
   rcases Mc.mp (of_decide_eq_true h1)with z | z
   ·exact z
   ·exact absurd (Mu.mp z) e
  rw[decide_eq_true hm,OU]
  obtain⟨t,ht,hat⟩:=NB.mp h2
  refine NB.mpr ⟨t,ht,?_⟩
  have dn:∀ y,(mk (ps++[p])).testBit y=false->(mk ps).testBit y=false:=fun y z=>by
   rw[cJ]at z ⊢
   exact decide_eq_false fun q=>of_decide_eq_false z (MC _ q)
  unfold atF at hat ⊢
  rcases OO.mp hat with z | z
  ·obtain⟨a,b⟩:=M9.mp z
   have b':=dn t.2 (by simpa using b)
   rw[a,b'];rfl
  ·obtain⟨a,b⟩:=M9.mp z
   have b':=dn t.1 (by simpa using b)
   rw[a,b'];simp
theorem GV(h:bB es (mk ps) F)(h':bB es (mk (ps++[p])) F')(hp:p∉ps)(hL:L∈lays ps)(b:Bool):hsg (L&&&F) p b&&&F'=hsg L p b&&&F':=by
 apply M1
 intro x
 unfold hsg
 rw[Nn,Nn,lU,lU,Nn]
 cases z:F'.testBit x
 ·simp
 ·rcases GQ h h' z with e | e
  ·subst e
   have:L.testBit x=false:=by
    cases q:L.testBit x with
    |false=>rfl
    |true=>exact absurd (pS hL q) hp
   rw[this];rfl
  ·rw[e];simp
theorem DM(T:bt m es ts)(lc:Loc es pr)(h:bB es (mk ps) F)(hp:p∉ps)(hL:L∈lays ps)(b:Bool)(hrow:ts[p]?=some row){t:Nat}(ht:t∈jZ es (mk (ps++[p])) row):pr t (hsg (L&&&F) p b)=pr t (hsg L p b):=by
 obtain⟨h1,h2⟩:=Ni.mp ht
 obtain⟨e,he,hep⟩:=(T.mem p row hrow t).mp h1
 obtain⟨_,_,hne⟩:=T.ends e (LV he)
 rw[nA he,cJ,cJ]at h2
 obtain⟨i1,i2⟩:=M9.mp h2
 have hpB:(mk ps).testBit p=false:=by rw[cJ];exact decide_eq_false hp
 have inF:∀ y,y∈ps++[p]->y≠p->(e.1=y/\e.2=p∨e.1=p/\e.2=y)->F.testBit y=true:=fun y hy hn hc=>by
  have hy':y∈ps:=by
   rcases Mc.mp hy with z | z
   ·exact z
   ·exact absurd (Mu.mp z) hn
  rw[h y,cJ,decide_eq_true hy',OU]
  refine NB.mpr ⟨e,LV he,?_⟩
  unfold atF
  rcases hc with⟨a,c⟩ | ⟨a,c⟩
  ·rw[a,c,hpB];simp
  ·rw[a,c,hpB];simp
 have pb:(L&&&F).testBit p=false/\L.testBit p=false:=by
  have:L.testBit p=false:=by
   cases q:L.testBit p with
   |false=>rfl
   |true=>exact absurd (pS hL q) hp
  exact⟨by rw[Nn,this];rfl,this⟩
 have atp:(hsg (L&&&F) p b).testBit p=(hsg L p b).testBit p:=by unfold hsg;rw[lU,lU,pb.1,pb.2]
 have aty:∀ y,F.testBit y=true->(hsg (L&&&F) p b).testBit y=(hsg L p b).testBit y:=fun y hy=>by unfold hsg;rw[lU,lU,Nn,hy,Bool.and_true]
 rcases hep with z | z
 ·refine lc t e he _ _ (by rw[z];exact atp) (aty _ (inF e.2 (of_decide_eq_true i2) (fun q=>hne (z.trans q.symm)) (.inr ⟨z,rfl⟩)))
 ·refine lc t e he _ _ (aty _ (inF e.1 (of_decide_eq_true i1) (fun q=>hne (q.trans z.symm)) (.inl ⟨rfl,z⟩))) (by rw[z];exact atp)
theorem Hc(T:bt m es ts)(lc:Loc es pr)(h:bB es (mk ps) F)(hp:p∉ps)(hL:L∈lays ps)(b:Bool)(hrow:ts[p]?=some row) :
  cstB es pr (mk (ps++[p])) (hsg L p b)=cstB es pr (mk ps) L+sumL (jZ es (mk (ps++[p])) row) (fun t=>pr t (hsg (L&&&F) p b)):=by
 have hb:∀ t∈jZ es (mk (ps++[p])) row,t<es.length:=fun t ht=>by
  obtain⟨e,he,_⟩:=(T.mem p row hrow t).mp (Ni.mp ht).1
  exact(LR.mp he).1
 rw[aN (fun t ht=>DM T lc h hp hL b hrow ht),← Kf (show(jZ es (mk (ps++[p])) row).Nodup from(T.nd p row hrow).filter _) hb]
 unfold cstB
 rw[← pK]
 refine aN fun t ht=>?_
 obtain⟨e,he⟩:∃ e,es[t]?=some e:=⟨_,LS (MK.mp ht)⟩
 have mb:t∈jZ es (mk (ps++[p])) row↔(e.1=p∨e.2=p)/\insT es (mk (ps++[p])) t=true:=by
  unfold jZ
  rw[Ni,T.mem p row hrow t]
  constructor
  ·rintro⟨⟨e',he',q⟩,z⟩
   rw[he]at he'
   cases he'
   exact⟨q,z⟩
  ·rintro⟨q,z⟩
   exact⟨⟨e,he,q⟩,z⟩
 by_cases hin:insT es (mk ps) t=true
 ·rw[if_pos hin]
  have hin0:=hin
  rw[nA he,cJ,cJ]at hin
  obtain⟨i1,i2⟩:=M9.mp hin
  have m1:=of_decide_eq_true i1
  have m2:=of_decide_eq_true i2
  have n1:e.1≠p:=fun z=>hp (z▸m1)
  have n2:e.2≠p:=fun z=>hp (z▸m2)
  have hin':insT es (mk (ps++[p])) t=true:=by
   rw[nA he,cJ,cJ,decide_eq_true (MC _ m1),decide_eq_true (MC _ m2)];rfl
  rw[if_pos hin',if_neg (fun z=>(mb.mp z).1.elim n1 n2),Int.add_zero]
  refine lc t e he _ _ ?_ ?_
  ·unfold hsg;rw[lU,decide_eq_false (fun z=>n1 z.symm),Pe,Oa]
  ·unfold hsg;rw[lU,decide_eq_false (fun z=>n2 z.symm),Pe,Oa]
 ·rw[if_neg hin,Nf]
  by_cases hin':insT es (mk (ps++[p])) t=true
  ·have hep:e.1=p∨e.2=p:=by
    rw[nA he,cJ,cJ]at hin hin'
    obtain⟨i1,i2⟩:=M9.mp hin'
    rcases Mc.mp (of_decide_eq_true i1)with z1 | z1
    ·rcases Mc.mp (of_decide_eq_true i2)with z2 | z2
     ·exact absurd (by rw[decide_eq_true z1,decide_eq_true z2];rfl) hin
     ·exact .inr (Mu.mp z2)
    ·exact .inl (Mu.mp z1)
   rw[if_pos hin',if_pos (mb.mpr ⟨hep,hin'⟩)]
  ·rw[if_neg hin',if_neg fun z=>hin' (mb.mp z).2]
end
structure Bst(l:List Nat)(q:Nat->Prop) [DecidablePred q] (f:Nat->Int) (v:Pr):Prop where
 ex:∃ L∈l,q L/\f L=v.1
 lo:∀ L∈l,q L->v.1<=f L
 ct:v.2=sumL l fun L=>if q L/\f L=v.1 then 1 else 0
theorem Bst.one{l:List Nat}{q:Nat->Prop} [DecidablePred q] {f:Nat->Int} {v u:Pr} (h:Bst l q f v) (k:Bst l q f u):v=u:=by
 obtain⟨L,a,b,c⟩:=h.ex
 obtain⟨L',a',b',c'⟩:=k.ex
 have e:v.1=u.1:=by
  have:=h.lo L' a' b'
  have:=k.lo L a b
  omega
 refine Prod.ext e ?_
 rw[h.ct,k.ct,e]
structure Tbl(l:List Nat)(F:Nat)(f:Nat->Int)(T:List (Nat×Pr)):Prop where
 nd:(T.map (·.1)).Nodup
 has:∀ L∈l,∃ v,(L&&&F,v)∈T
 bst:∀ s v,(s,v)∈T->Bst l (fun L=>L&&&F=s) f v
def ji(p:Nat)(prc:Nat->Int)(T:List (Nat×Pr)):List (Nat×Pr):=T.flatMap fun e=>[(hsg e.1 p false,(e.2.1+prc (hsg e.1 p false),e.2.2)),(hsg e.1 p true,(e.2.1+prc (hsg e.1 p true),e.2.2))]
theorem rj{p:Nat}{prc:Nat->Int}{T:List (Nat×Pr)}{z:Nat×Pr}:z∈ji p prc T↔∃ s v b,(s,v)∈T/\z=(hsg s p b,(v.1+prc (hsg s p b),v.2)):=by
 unfold ji
 rw[List.mem_flatMap]
 constructor
 ·rintro⟨⟨s,v⟩,h,hz⟩
  rcases LZ.mp hz with e | hz
  ·exact⟨s,v,false,h,e⟩
  ·exact⟨s,v,true,h,Mu.mp hz⟩
 ·rintro⟨s,v,b,h,rfl⟩
  refine⟨(s,v),h,?_⟩
  cases b<;>simp
theorem xr{p:Nat}{prc:Nat->Int}(g:Nat×Pr->Int):∀ T:List (Nat×Pr),sumL (ji p prc T) g=sumL T fun e=>g (hsg e.1 p false,(e.2.1+prc (hsg e.1 p false),e.2.2))+g (hsg e.1 p true,(e.2.1+prc (hsg e.1 p true),e.2.2))
 |[]=>rfl
 |e::T=>by
  have ih:=xr (p:=p) (prc:=prc) g T
  unfold ji at ih ⊢
  rw[OY,uA,ih,aH,aH,aH,pJ]
  omega
structure Grp(F':Nat)(Z:List (Nat×Pr))(G:List (Nat×List Pr)):Prop where
 nd:(G.map (·.1)).Nodup
 has:∀ z∈Z,∃ w,(z.1&&&F',w)∈G
 grp:∀ s w,(s,w)∈G->w=(Z.filter fun z=>decide (z.1&&&F'=s)).map (·.2)/\w≠[]
theorem Ka(w:List Pr)(m:Int):tot w m=sumL w fun e=>if e.1=m then e.2 else 0:=by
 unfold tot
 show sumL (w.filter fun e=>decide (e.1=m)) (·.2)=_
 rw[E7]
 refine aN fun e _=>?_
 by_cases h:e.1=m
 ·rw[if_pos h,if_pos (decide_eq_true h)]
 ·rw[if_neg h,if_neg (by rw[decide_eq_false h];exact Mp)]
theorem BE{ps:List Nat}{p L:Nat}(b:Bool)(h:L∈lays ps):hsg L p b∈lays (ps++[p]):=by
 rw[iS]
 unfold hsg
 cases b
 ·rw[if_neg Mp,OM];exact MC _ h
 ·rw[if_pos rfl];exact Mh _ (Mj.mpr ⟨L,h,rfl⟩)
theorem Gb{ps:List Nat}{p L':Nat}(h:L'∈lays (ps++[p])):∃ L b,L∈lays ps/\L'=hsg L p b:=by
 rw[iS]at h
 rcases Mc.mp h with h | h
 ·exact⟨L',false,h,by unfold hsg;rw[if_neg Mp,OM]⟩
 ·obtain⟨L,hL,rfl⟩:=Mj.mp h
  exact⟨L,true,hL,by unfold hsg;rw[if_pos rfl]⟩
theorem Ig{ps:List Nat}{p F F':Nat}{f f' prc:Nat->Int}{T:List (Nat×Pr)}{G:List (Nat×List Pr)}(h:Tbl (lays ps) F f T)(hk:∀ L∈lays ps,∀ b,hsg (L&&&F) p b&&&F'=hsg L p b&&&F')
  (hc:∀ L∈lays ps,∀ b,f' (hsg L p b)=f L+prc (hsg (L&&&F) p b)) (g:Grp F' (ji p prc T) G):Tbl (lays (ps++[p])) F' f' (G.map fun e=>(e.1,jj e.2)) where
 nd:=by
  rw[Nk]
  exact g.nd
 has:=fun L' hL'=>by
  obtain⟨L,b,hL,rfl⟩:=Gb hL'
  obtain⟨v,hv⟩:=h.has L hL
  obtain⟨w,hw⟩:=g.has _ (rj.mpr ⟨_,v,b,hv,rfl⟩)
  rw[← hk L hL b]
  exact⟨jj w,Mj.mpr ⟨_,hw,rfl⟩⟩
 bst:=fun s' v' hv'=>by
  obtain⟨⟨s0,w⟩,hw,e⟩:=Mj.mp hv'
  obtain⟨e1,e2⟩:=Prod.mk.inj e
  simp only at e1 e2
  subst e1
  subst e2
  obtain⟨ew,hne⟩:=g.grp _ _ hw
  obtain⟨lm,ll⟩:=qy (w.map (·.1)) (fun z=>hne (List.map_eq_nil_iff.mp z))
  have b1:(jj w).1=lowL (w.map (·.1)):=rfl
  have b2:(jj w).2=tot w (jj w).1:=rfl
  rw[← b1]at lm ll
  show Bst (lays (ps++[p])) (fun L=>L&&&F'=s0) f' (jj w)
  clear b1
  generalize jj w=bw at lm ll b2 ⊢
  obtain⟨mm,cc⟩:=bw
  simp only at lm ll b2
  have inw:∀ s v b,(s,v)∈T->hsg s p b&&&F'=s0->mm<=v.1+prc (hsg s p b):=fun s v b hv hs=>by
   refine ll _ ?_
   rw[ew,Nk]
   exact Mj.mpr ⟨_,Ni.mpr ⟨rj.mpr ⟨s,v,b,hv,rfl⟩,decide_eq_true hs⟩,rfl⟩
  refine⟨?_,fun L' hL' hq=>?_,?_⟩
  ·rw[ew,Nk]at lm
   obtain⟨z,hz,ez⟩:=Mj.mp lm
   obtain⟨hz1,hz2⟩:=Ni.mp hz
   obtain⟨s,v,b,hv,rfl⟩:=rj.mp hz1
   have hz2:=of_decide_eq_true hz2
   obtain⟨L,hL,hs,hf⟩:=(h.bst s v hv).ex
   refine⟨hsg L p b,BE b hL,?_,?_⟩
   ·rw[← hk L hL b,hs];exact hz2
   ·rw[hc L hL b,hs,hf];exact ez
  ·simp only
   obtain⟨L,b,hL,rfl⟩:=Gb hL'
   obtain⟨v,hv⟩:=h.has L hL
   have q1:=inw _ v b hv (by rw[hk L hL b];exact hq)
   have q2:=(h.bst _ v hv).lo L hL rfl
   rw[hc L hL b]
   show mm<=_
   omega
  ·show cc=_
   rw[b2,Ka,ew,lP,E7,xr]
   have ph:∀(e:Nat×Pr)(b:Bool),e∈T->(if decide (hsg e.1 p b&&&F'=s0)=true then(if e.2.1+prc (hsg e.1 p b)=mm then e.2.2 else 0) else 0)=sumL (lays ps) fun L=>if L&&&F=e.1 then(if hsg e.1 p b&&&F'=s0/\f L+prc (hsg e.1 p b)=mm then(1:Int) else 0) else 0:=fun e b he=>by
    have B:=h.bst e.1 e.2 he
    by_cases c1:hsg e.1 p b&&&F'=s0
    ·rw[if_pos (decide_eq_true c1)]
     have q1:=inw e.1 e.2 b he c1
     by_cases c2:e.2.1+prc (hsg e.1 p b)=mm
     ·rw[if_pos c2,B.ct]
      refine aN fun L hL=>?_
      by_cases c3:L&&&F=e.1
      ·rw[if_pos c3]
       by_cases c4:f L=e.2.1
       ·rw[if_pos ⟨c3,c4⟩,if_pos ⟨c1,by rw[c4];exact c2⟩]
       ·rw[if_neg fun z=>c4 z.2,if_neg fun z=>c4 (by have:=z.2;omega)]
      ·rw[if_neg c3,if_neg fun z=>c3 z.1]
     ·rw[if_neg c2]
      refine((aN fun L hL=>?_).trans (gb _)).symm
      by_cases c3:L&&&F=e.1
      ·rw[if_pos c3,if_neg]
       intro z
       have:=B.lo L hL c3
       have:=z.2
       omega
      ·rw[if_neg c3]
    ·rw[if_neg (by rw[decide_eq_false c1];exact Mp)]
     refine((aN fun L hL=>?_).trans (gb _)).symm
     by_cases c3:L&&&F=e.1
     ·rw[if_pos c3,if_neg fun z=>c1 z.1]
     ·rw[if_neg c3]
   rw[aN fun e he=>by rw[ph e false he,ph e true he,← pK],xt,Ii]
   refine aN fun L hL=>?_
   obtain⟨v,hv⟩:=h.has L hL
   have q:=pI (fun e:Nat×Pr=>e.1) (l:=T) (x:=(L&&&F,v)) (fun e=>(if hsg e.1 p false&&&F'=s0/\f L+prc (hsg e.1 p false)=mm then(1:Int) else 0)+(if hsg e.1 p true&&&F'=s0/\f L+prc (hsg e.1 p true)=mm then(1:Int) else 0)) h.nd hv
   have o0:L=hsg L p false:=by unfold hsg;rw[if_neg Mp,OM]
   have o1:L|||2^p=hsg L p true:=by unfold hsg;rw[if_pos rfl]
   have r:∀ b:Bool,(if hsg (L&&&F) p b&&&F'=s0/\f L+prc (hsg (L&&&F) p b)=mm then(1:Int) else 0)=if hsg L p b&&&F'=s0/\f' (hsg L p b)=mm then(1:Int) else 0:=fun b=>by rw[hk L hL b,hc L hL b]
   have lhs:(if L&&&F'=s0/\f' L=mm then(1:Int) else 0)+(if(L|||2^p)&&&F'=s0/\f' (L|||2^p)=mm then(1:Int) else 0)=(if hsg (L&&&F) p false&&&F'=s0/\f L+prc (hsg (L&&&F) p false)=mm then(1:Int) else 0)+(if hsg (L&&&F) p true&&&F'=s0/\f L+prc (hsg (L&&&F) p true)=mm then(1:Int) else 0):=by
    rw[r false,r true,← o0,← o1]
   show _=(if L&&&F'=s0/\f' L=mm then(1:Int) else 0)+(if(L|||2^p)&&&F'=s0/\f' (L|||2^p)=mm then(1:Int) else 0)
   rw[lhs,← q]
   refine aN fun e _=>?_
   show _=if L&&&F=e.1 then _ else _
   by_cases c3:L&&&F=e.1
   ·rw[if_pos c3,if_pos c3,if_pos c3]
   ·rw[if_neg c3,if_neg c3,if_neg c3];rfl
theorem CZ{kvs:List (Key×V)}(nd:(kvs.map (·.1)).Nodup){k:Key}{v:V}(h:(k,v)∈kvs):valV kvs k=some v:=by
 induction kvs with
 |nil=>cases h
 |cons p r ih =>
  rw[MQ,Mo]at nd
  rcases LZ.mp h with e | h
  ·rw[← e];exact bW rfl
  ·have ne:¬ p.1=k:=fun z=>nd.1 (by rw[z];exact Mj.mpr ⟨_,h,rfl⟩)
   rw[bX ne]
   exact ih nd.2 h
theorem Ia{kvs:List (Key×V)}{k:Key}{v:V}(h:valV kvs k=some v):∃ j:Nat,kvs[j]?=some (k,v):=by
 induction kvs with
 |nil=>cases h
 |cons p r ih =>
  by_cases e:p.1=k
  ·rw[bW e]at h
   cases h
   exact⟨0,by rw[← e];rfl⟩
  ·rw[bX e]at h
   obtain⟨j,hj⟩:=ih h
   exact⟨j+1,hj⟩
def DcAt{α:Type}(R:V->α->Prop)(kvs:List (Key×V))(T:List (Nat×α)):Prop:=kvs.length=T.length/\∀(i:Nat)(s:Nat)(a:α),T[i]?=some (s,a)->∃ v,kvs[i]?=some ((.inl (s:Int):Key),v)/\R v a
section
variable{α:Type}{R R':V->α->Prop}{kvs:List (Key×V)}{T:List (Nat×α)}{s:Nat}{a:α}{v:V}{i:Nat}
theorem DcAt.imp(h:DcAt R kvs T)(k:∀ v a,R v a->R' v a):DcAt R' kvs T:=⟨h.1,fun i s a e=>by
 obtain⟨v,e1,e2⟩:=h.2 i s a e
 exact⟨v,e1,k v a e2⟩⟩
theorem DcAt.nil:DcAt R [] ([]:List (Nat×α)):=⟨rfl,fun i s a e=>by simp at e⟩
theorem DcAt.keys(h:DcAt R kvs T):kvs.map (·.1)=(T.map (·.1)).map fun(x:Nat)=>(Sum.inl (x:Int):Key):=by
 apply OZ
 intro i
 rw[Mb,Mb,Mb]
 by_cases hi:i<T.length
 ·obtain⟨⟨s,a⟩,e⟩:∃ e,T[i]?=some e:=⟨_,LS hi⟩
  obtain⟨v,e1,_⟩:=h.2 i s a e
  rw[e,e1]
  rfl
 ·rw[NC (by have:=h.1;omega),NC (by omega)]
  rfl
theorem GC{x y:Nat}(h:(Sum.inl (x:Int):Key)=Sum.inl (y:Int)):x=y:=by
 have:=Sum.inl.inj h
 omega
theorem DcAt.nd(h:DcAt R kvs T)(n:(T.map (·.1)).Nodup):(kvs.map (·.1)).Nodup:=by
 rw[h.keys]
 exact N9.map _ (fun x y hne e=>hne (GC e)) n
theorem DcAt.atK(h:DcAt R kvs T){k:Key}(e:kvs[i]?=some (k,v)):∃(s:Nat)(a:α),k=.inl (s:Int)/\T[i]?=some (s,a)/\R v a:=by
 have hi:i<T.length:=by rw[← h.1];exact(LR.mp e).1
 obtain⟨⟨s,a⟩,e2⟩:∃ e,T[i]?=some e:=⟨_,LS hi⟩
 obtain⟨v',e3,r⟩:=h.2 i s a e2
 rw[e]at e3
 obtain⟨e4,e5⟩:=Prod.mk.inj (Mq e3)
 subst e5
 exact⟨s,a,e4,e2,r⟩
theorem DcAt.val(h:DcAt R kvs T)(e:valV kvs (.inl (s:Int))=some v):∃(i:Nat)(a:α),T[i]?=some (s,a)/\kvs[i]?=some ((.inl (s:Int):Key),v)/\R v a:=by
 obtain⟨i,hi⟩:=Ia e
 obtain⟨s',a,e1,e2,r⟩:=h.atK hi
 have:=GC e1
 subst this
 exact⟨i,a,e2,hi,r⟩
theorem DcAt.no(h:DcAt R kvs T)(e:valV kvs (.inl (s:Int))=none):s∉T.map (·.1):=fun hm=>by
 have:=HZ e
 rw[h.keys]at this
 exact this (Mj.mpr ⟨s,hm,rfl⟩)
theorem DcAt.get(h:DcAt R kvs T)(n:(T.map (·.1)).Nodup)(e:(s,a)∈T):∃ v,valV kvs (.inl (s:Int))=some v/\R v a:=by
 obtain⟨i,hi⟩:=Nr e
 obtain⟨v,e1,r⟩:=h.2 i s a hi
 exact⟨v,CZ (h.nd n) (LV e1),r⟩
theorem DcAt.snoc(h:DcAt R kvs T)(r:R v a):DcAt R (kvs++[((.inl (s:Int):Key),v)]) (T++[(s,a)]):=by
 refine⟨by rw[LX,LX,h.1];rfl,fun j s' a' e=>?_⟩
 by_cases hj:j<T.length
 ·rw[L0 hj]at e
  obtain⟨v',e1,r'⟩:=h.2 j s' a' e
  exact⟨v',by rw[L0 (by rw[h.1];exact hj)];exact e1,r'⟩
 ·rw[LY (by omega)]at e
  have hj2:j=T.length:=by
   have:=(LR.mp e).1
   rw[Me]at this
   omega
  subst hj2
  rw[Mw]at e
  cases e
  exact⟨v,by rw[← h.1,LY (Ma _),Mw];rfl,r⟩
theorem DcAt.putN(h:DcAt R kvs T)(e:valV kvs (.inl (s:Int))=Option.none)(r:R v a):DcAt R (putK kvs (.inl (s:Int)) v) (T++[(s,a)]):=by
 rw[uY v e]
 exact h.snoc r
end
theorem Im{α:Type}{T:List (Nat×α)}{i s:Nat}{a a':α}(e:T[i]?=some (s,a)):(T.set i (s,a')).map (·.1)=T.map (·.1):=by
 apply OZ
 intro j
 rw[Mb,Mb,MO]
 by_cases hj:i=j
 ·subst hj
  rw[if_pos rfl,if_pos (LR.mp e).1,e]
  rfl
 ·rw[if_neg hj]
structure lL(S:Addr->Prop)(H:Hp)(f:Addr)(kvs:List (Key×V))(G:List (Nat×List Pr)):Prop where
 d:H f=some (.dK kvs)
 w:DcAt (fun v w=>∃ a ys,v=.ref a/\¬ S a/\H a=some (.lst ys)/\LsAt PrAt H ys w) kvs G
 ds:∀(i j:Nat)(k l:Key)(a:Addr),kvs[i]?=some (k,.ref a)->kvs[j]?=some (l,.ref a)->i=j
theorem lL.mono{S:Addr->Prop}{H H':Hp}{f:Addr}{kvs:List (Key×V)}{G:List (Nat×List Pr)}(h:lL S H f kvs G)(s:Same H H'):lL S H' f kvs G :=
 ⟨s _ _ h.d,h.w.imp fun v w ⟨a,ys,e,n,z,l⟩=>⟨a,ys,e,n,s _ _ z,l.imp fun _ _ q=>q.mono s⟩,h.ds⟩
theorem lL.more{S S':Addr->Prop}{H:Hp}{f:Addr}{kvs:List (Key×V)}{G:List (Nat×List Pr)}(h:lL S H f kvs G)(k:∀ a,H a≠none->S' a->S a):lL S' H f kvs G :=
 ⟨h.d,h.w.imp fun v w ⟨a,ys,e,n,z,l⟩=>⟨a,ys,e,fun q=>n (k a (by rw[z];exact fun y=>by cases y) q),z,l⟩,h.ds⟩
theorem PrAt.put2{H:Hp}{v:V}{p:Pr}{q:Addr}{u o:HO}(h:PrAt H v p)(hq:H q=some u)(nt:∀ xs,u≠.tup xs):PrAt (upd H q o) v p:=by
 obtain⟨t,e,z⟩:=h
 exact⟨t,e,by rw[aq (fun y=>by rw[y,hq]at z;exact nt _ (Mq z))];exact z⟩
theorem lL.app{S:Addr->Prop}{H:Hp}{f:Addr}{kvs:List (Key×V)}{G:List (Nat×List Pr)}{s i:Nat}{w:List Pr}{a:Addr}{ys:List V}{x:V}{e:Pr}(h:lL S H f kvs G)(hG:G[i]?=some (s,w))(hk:kvs[i]?=some ((.inl (s:Int):Key),.ref a))(hS:¬ S a)(ha:H a=some (.lst ys))(hw:LsAt PrAt H ys w)(hx:PrAt H x e) :
  lL S (upd H a (.lst (ys++[x]))) f kvs (G.set i (s,w++[e])):=by
 have fa:f≠a:=fun z=>by have:=h.d;rw[z,ha]at this;cases this
 have up:∀ v p,PrAt H v p->PrAt (upd H a (.lst (ys++[x]))) v p:=fun v p q=>q.put2 ha (fun _ z=>by cases z)
 refine⟨by rw[aq fa];exact h.d,⟨by rw[MR];exact h.w.1,fun j s' w' e'=>?_⟩,h.ds⟩
 rw[MO]at e'
 by_cases hj:i=j
 ·subst hj
  rw[if_pos rfl,if_pos (LR.mp hG).1]at e'
  cases e'
  exact⟨.ref a,hk,a,_,rfl,hS,ae,(hw.imp up).snoc (up _ _ hx)⟩
 ·rw[if_neg hj]at e'
  obtain⟨v,e1,b,zs,rfl,n,z,l⟩:=h.w.2 j s' w' e'
  refine⟨.ref b,e1,b,zs,rfl,n,?_,l.imp up⟩
  rw[aq (fun q=>hj (h.ds i j _ _ a hk (q▸e1)))]
  exact z
theorem lL.key{S:Addr->Prop}{H:Hp}{f l:Addr}{kvs:List (Key×V)}{G:List (Nat×List Pr)}{s:Nat}(h:lL S H f kvs G)(hv:valV kvs (.inl (s:Int))=none)(hl:H l=some (.lst []))(hS:¬ S l)(nw:∀ (i:Nat) (k:Key),kvs[i]?≠some (k,.ref l)) :
  lL S (upd H f (.dK (putK kvs (.inl (s:Int)) (.ref l)))) f (putK kvs (.inl (s:Int)) (.ref l)) (G++[(s,[])]):=by
 have lf:l≠f:=fun z=>by have:=h.d;rw[← z,hl]at this;cases this
 have up:∀ v p,PrAt H v p->PrAt (upd H f (.dK (putK kvs (.inl (s:Int)) (.ref l)))) v p:=fun v p q=>q.put2 h.d (fun _ z=>by cases z)
 have keep:∀(a:Addr)(ys:List V),H a=some (.lst ys)->(upd H f (.dK (putK kvs (.inl (s:Int)) (.ref l)))) a=some (.lst ys):=fun a ys z=>by
  rw[aq (fun q=>by have:=h.d;rw[← q,z]at this;cases this)]
  exact z
 refine⟨ae,(h.w.imp fun v w ⟨a,ys,e,n,z,l⟩=>⟨a,ys,e,n,keep a ys z,l.imp up⟩).putN hv ⟨l,[],rfl,hS,by rw[aq lf];exact hl,rfl,fun i a e=>by simp at e⟩,?_⟩
 ·rw[uY _ hv]
  intro i j k k' a e1 e2
  have one:∀(i:Nat)(k:Key)(a:Addr),(kvs++[((.inl (s:Int):Key),V.ref l)])[i]?=some (k,.ref a)->(i<kvs.length/\kvs[i]?=some (k,.ref a))∨(i=kvs.length/\a=l):=fun i k a e=>by
   by_cases hi:i<kvs.length
   ·rw[L0 hi]at e
    exact .inl ⟨hi,e⟩
   ·rw[LY (by omega)]at e
    have hi2:i=kvs.length:=by
     have:=(LR.mp e).1
     rw[Me]at this
     omega
    subst hi2
    rw[Mw]at e
    have:=(Prod.mk.inj (Mq e)).2
    exact .inr ⟨rfl,(V.ref.inj this).symm⟩
  rcases one i k a e1 with⟨a1,a2⟩ | ⟨a1,a2⟩
  ·rcases one j k' a e2 with⟨b1,b2⟩ | ⟨b1,b2⟩
   ·exact h.ds i j _ _ a a2 b2
   ·exact absurd (b2▸a2) (nw i k)
  ·rcases one j k' a e2 with⟨b1,b2⟩ | ⟨b1,b2⟩
   ·exact absurd (a2▸b2) (nw j k')
   ·omega
theorem Grp.nil(F':Nat):Grp F' [] []:=⟨N4,fun z hz=>(by cases hz),fun s w h=>(by cases h)⟩
theorem fe{F' s:Nat}{Z:List (Nat×Pr)}{z:Nat×Pr}:((Z++[z]).filter fun z=>decide (z.1&&&F'=s)).map (·.2)=if z.1&&&F'=s then(Z.filter fun z=>decide (z.1&&&F'=s)).map (·.2)++[z.2] else(Z.filter fun z=>decide (z.1&&&F'=s)).map (·.2):=by
 rw[N0,MD]
 by_cases c:z.1&&&F'=s
 ·have e:([z].filter fun z=>decide (z.1&&&F'=s)) = [z]:=by simp[c]
  rw[if_pos c,e];rfl
 ·have e:([z].filter fun z=>decide (z.1&&&F'=s)) = []:=by simp[c]
  rw[if_neg c,e,OD,NH]
theorem Grp.old{F':Nat}{Z:List (Nat×Pr)}{G:List (Nat×List Pr)}{z:Nat×Pr}{i:Nat}{w:List Pr}(h:Grp F' Z G)(e:G[i]?=some (z.1&&&F',w)):Grp F' (Z++[z]) (G.set i (z.1&&&F',w++[z.2])):=by
 have hk:=Im (a':=w++[z.2]) e
 have mem:∀ s u,(s,u)∈G.set i (z.1&&&F',w++[z.2])->(s=z.1&&&F'/\u=w++[z.2])∨(s≠z.1&&&F'/\(s,u)∈G):=fun s u hm=>by
  obtain⟨j,hj⟩:=Nr hm
  rw[MO]at hj
  by_cases c:i=j
  ·subst c
   rw[if_pos rfl,if_pos (LR.mp e).1]at hj
   cases hj
   exact .inl ⟨rfl,rfl⟩
  ·rw[if_neg c]at hj
   refine .inr ⟨fun q=>c ?_,LV hj⟩
   subst q
   have n1:(G.map (·.1))[i]?=some (z.1&&&F'):=by rw[Mb,e];rfl
   have n2:(G.map (·.1))[j]?=some (z.1&&&F'):=by rw[Mb,hj];rfl
   obtain⟨h1,e1⟩:=LR.mp n1
   obtain⟨h2,e2⟩:=LR.mp n2
   rcases Nat.lt_trichotomy i j with y | y | y
   ·exact absurd (e1.trans e2.symm) (Nm.mp h.nd i j h1 h2 y)
   ·exact y
   ·exact absurd (e2.trans e1.symm) (Nm.mp h.nd j i h2 h1 y)
 refine⟨by rw[hk];exact h.nd,fun y hy=>?_,fun s u hm=>?_⟩
 ·have key:y.1&&&F'∈(G.set i (z.1&&&F',w++[z.2])).map (·.1):=by
   rw[hk]
   rcases Mc.mp hy with hy | hy
   ·obtain⟨u,hu⟩:=h.has y hy
    exact Mj.mpr ⟨_,hu,rfl⟩
   ·rw[Mu.mp hy]
    exact Mj.mpr ⟨_,LV e,rfl⟩
  obtain⟨⟨s,u⟩,hu,rfl⟩:=Mj.mp key
  exact⟨u,hu⟩
 ·rcases mem s u hm with⟨rfl,rfl⟩ | ⟨ne,hu⟩
  ·rw[fe,if_pos rfl]
   obtain⟨e1,_⟩:=h.grp _ _ (LV e)
   exact⟨by rw[← e1],by simp⟩
  ·rw[fe,if_neg fun q=>ne q.symm]
   exact h.grp _ _ hu
theorem Grp.new{F':Nat}{Z:List (Nat×Pr)}{G:List (Nat×List Pr)}{z:Nat×Pr}(h:Grp F' Z G)(n:z.1&&&F'∉G.map (·.1)):Grp F' (Z++[z]) ((G++[(z.1&&&F',[])]).set G.length (z.1&&&F',[]++[z.2])):=by
 have es:(G++[(z.1&&&F',([]:List Pr))]).set G.length (z.1&&&F',[]++[z.2])=G++[(z.1&&&F',[z.2])]:=by
  rw[List.set_append_right _ _ (Ma _),Mw];rfl
 rw[es]
 have nof:(Z.filter fun y=>decide (y.1&&&F'=z.1&&&F')).map (·.2) = []:=by
  rw[List.map_eq_nil_iff,List.filter_eq_nil_iff]
  intro y hy c
  obtain⟨u,hu⟩:=h.has y hy
  exact n (Mj.mpr ⟨_,hu,of_decide_eq_true c⟩)
 refine⟨?_,fun y hy=>?_,fun s u hm=>?_⟩
 ·rw[MD,Mt]
  refine⟨h.nd,by simp,fun a ha b hb e=>?_⟩
  have hb':b=z.1&&&F':=by simpa using hb
  exact n (by rw[← hb',← e];exact ha)
 ·rcases Mc.mp hy with hy | hy
  ·obtain⟨u,hu⟩:=h.has y hy
   exact⟨u,MC _ hu⟩
  ·rw[Mu.mp hy]
   exact⟨_,Mh _ (Mu.mpr rfl)⟩
 ·rw[fe]
  rcases Mc.mp hm with hu | hu
  ·have ne:¬ z.1&&&F'=s:=fun q=>n (by rw[q];exact Mj.mpr ⟨_,hu,rfl⟩)
   rw[if_neg ne]
   exact h.grp _ _ hu
  ·have hu':=Mu.mp hu
   obtain⟨e1,e2⟩:=Prod.mk.inj hu'
   subst e1
   subst e2
   rw[if_pos rfl,nof]
   exact⟨rfl,by simp⟩
theorem qu{α:Type} [DecidableEq α]:∀{a b:List α},a.Nodup->a ⊆ b->a.length<=b.length
 |[],b,_,_=>Na _
 |x::a,b,nd,h=>by
  rw[Mo]at nd
  have hx:x∈b:=h (MB ..)
  have:=qu (a:=a) (b:=b.erase x) nd.2 fun y hy=>by
   have ne:y≠x:=fun e=>nd.1 (e▸hy)
   exact(List.mem_erase_of_ne ne).mpr (h (Ml _ hy))
  rw[Pg hx]at this
  have:0<b.length:=Ny hx
  rw[MJ]
  omega
theorem Grp.len{F':Nat}{Z:List (Nat×Pr)}{G:List (Nat×List Pr)}(h:Grp F' Z G):G.length<=Z.length/\∀ s w,(s,w)∈G->w.length<=Z.length:=by
 refine⟨?_,fun s w hm=>?_⟩
 ·have sub:(G.map (·.1)) ⊆ Z.map fun z=>z.1&&&F':=fun s hs=>by
   obtain⟨⟨s',w⟩,hw,rfl⟩:=Mj.mp hs
   obtain⟨e,ne⟩:=h.grp _ _ hw
   cases hf:Z.filter fun z=>decide (z.1&&&F'=s') with
   |nil=>rw[hf]at e;exact absurd e ne
   |cons z r =>
    have hz:z∈Z.filter fun z=>decide (z.1&&&F'=s'):=by rw[hf];exact MB ..
    obtain⟨z1,z2⟩:=Ni.mp hz
    exact Mj.mpr ⟨z,z1,of_decide_eq_true z2⟩
  have:=qu h.nd sub
  rwa[LW,LW]at this
 ·obtain⟨e,_⟩:=h.grp _ _ hm
  rw[e,LW]
  exact N6 _ _
theorem IW(ps:List Nat):(lays ps).length=2^ps.length:=by unfold lays;rw[LW,M6]
theorem lQ:∀(n:Nat)(qs:List Nat)(s:Nat),qs.length=n->(∀ x,s.testBit x=true->x∈qs)->s∈lays qs
 |0,qs,s,hn,h=>by
  have e:qs = []:=NY.mp hn
  subst e
  have z:s=0:=M1 fun x=>by
   rw[M3]
   cases q:s.testBit x with
   |false=>rfl
   |true=>exact absurd (h x q) (MP)
  subst z
  exact Mj.mpr ⟨0,MK.mpr (by decide),rfl⟩
 |n+1,qs,s,hn,h=>by
  have ne:qs≠[]:=fun e=>by rw[e]at hn;cases hn
  have eq:qs.dropLast++[qs.getLast ne]=qs:=O4 ne
  generalize qs.getLast ne=q at eq
  have hl:qs.dropLast.length=n:=by rw[List.length_dropLast,hn];rfl
  generalize qs.dropLast=r at eq hl
  subst eq
  by_cases b:s.testBit q=true
  ·have hs:s^^^2^q∈lays r:=lQ n r _ hl fun x hx=>by
    rw[Oc,MM]at hx
    by_cases e:q=x
    ·subst e
     rw[b]at hx
     simp at hx
    ·rw[decide_eq_false e,Bool.xor_false]at hx
     rcases Mc.mp (h x hx)with z | z
     ·exact z
     ·exact absurd (Mu.mp z).symm e
   have e:s=hsg (s^^^2^q) q true:=M1 fun x=>by
    unfold hsg
    rw[lU,Oc,MM]
    by_cases e:q=x
    ·subst e;rw[b];simp
    ·rw[decide_eq_false e];simp
   rw[e]
   exact BE true hs
  ·have hs:s∈lays r:=lQ n r _ hl fun x hx=>by
    rcases Mc.mp (h x hx)with z | z
    ·exact z
    ·exact absurd (by rw[← Mu.mp z];exact hx) b
   have:=BE (p:=q) false hs
   unfold hsg at this
   rw[if_neg Mp,OM]at this
   exact this
theorem Tbl.len{l:List Nat}{F:Nat}{f:Nat->Int}{T:List (Nat×Pr)}{qs:List Nat}(h:Tbl l F f T)(hq:∀ x,F.testBit x=true->x∈qs):T.length<=2^qs.length:=by
 have:=qu (b:=lays qs) h.nd fun s hs=>by
  obtain⟨⟨s',v⟩,hv,rfl⟩:=Mj.mp hs
  obtain⟨L,_,e,_⟩:=(h.bst _ v hv).ex
  refine lQ _ qs _ rfl fun x hx=>hq x ?_
  have e':L&&&F=s':=e
  rw[← e',Nn]at hx
  exact(M9.mp hx).2
 rwa[LW,IW]at this
theorem wO(es:En)(pr:Nat->Nat->Int)(L:Nat):cstB es pr 0 L=0:=by
 unfold cstB
 refine(aN fun t _=>?_).trans (gb _)
 rw[if_neg]
 unfold insT
 split
 ·rw[M3];exact Mp
 ·exact Mp
theorem Kb(es:En)(pr:Nat->Nat->Int):Tbl (lays []) 0 (cstB es pr (mk [])) [(0,(0,1))] where
 nd:=by simp
 has:=fun L _=>⟨(0,1),by rw[Oi];exact Mu.mpr rfl⟩
 bst:=fun s v h=>by
  obtain⟨rfl,rfl⟩:=Prod.mk.inj (Mu.mp h)
  refine⟨⟨0,Mj.mpr ⟨0,MK.mpr (by decide),rfl⟩,Oi _,wO es pr 0⟩,fun L _ _=>?_,?_⟩
  ·show(0:Int)<=cstB es pr 0 L
   rw[wO];exact NT _
  ·show(1:Int)=sumL [vQ [] 0] _
   rw[aH,pJ,if_pos ⟨Oi _,wO es pr _⟩]
   rfl
theorem Tbl.perm{l:List Nat}{F:Nat}{f:Nat->Int}{T T':List (Nat×Pr)}(h:Tbl l F f T)(nd:(T'.map (·.1)).Nodup)(k:∀ s,s∈T.map (·.1)->s∈T'.map (·.1))(i:∀ e∈T',e∈T):Tbl l F f T' where
 nd:=nd
 has:=fun L hL=>by
  obtain⟨v,hv⟩:=h.has L hL
  obtain⟨⟨s,v'⟩,h1,h2⟩:=Mj.mp (k _ (Mj.mpr ⟨_,hv,rfl⟩))
  have h2':s=L&&&F:=h2
  subst h2'
  exact⟨v',h1⟩
 bst:=fun s v hv=>h.bst s v (i _ hv)
section
variable{l:List Nat}{q:Nat->Prop} [DecidablePred q] {f:Nat->Int} {L:Nat} {v:Pr}
end
def prT(es:En)(ks:Kn)(t L:Nat):Int:=if U es ks (L:Int) t=true then stg ks t else 0
theorem KD{es:En}{ks:Kn}(kl:ks.length=es.length):Loc es (prT es ks):=fun t e he L L' h1 h2=>by
 obtain⟨k,hk⟩:∃ k,ks[t]?=some k:=⟨_,LS (by have:=(LR.mp he).1;omega)⟩
 unfold prT
 rw[U_at he hk,U_at he hk]
 unfold unp
 rw[bitN,bitN,bitN,bitN,h1,h2]
def ui(PL PS:Addr)(H:Hp)(es:En)(ks:Kn)(xs:List V)(bk:List Nat):Prop:=xs.length=bk.length/\∀(j t:Nat),bk[j]?=some t->∃ e k p dx,es[t]?=some e/\ks[t]?=some k/\xs[j]?=some (.ref p)/\H p=some (.ins (cls PL PS (decide (k.1=1))) dx (tf ((e.1:Nat):Int) ((e.2:Nat):Int) k.2))
theorem ui.mono{PL PS:Addr}{H H':Hp}{es:En}{ks:Kn}{xs:List V}{bk:List Nat}(h:ui PL PS H es ks xs bk)(s:Same H H'):ui PL PS H' es ks xs bk:=⟨h.1,fun j t z=>by
 obtain⟨e,k,p,dx,a,b,c,d⟩:=h.2 j t z
 exact⟨e,k,p,dx,a,b,c,s _ _ d⟩⟩
def DK(ts:List (List Nat))(p:Nat):List Nat:=(ts[p]?).getD []
def dS(es:En)(ts:List (List Nat))(od:List Nat)(i:Nat):List (List Nat):=(MH i).map fun j=>jZ es (mk (od.take (j+1))) (DK ts (od.getD j 0))
theorem EG(es:En)(ts:List (List Nat))(od:List Nat)(i:Nat):dS es ts od (i+1)=dS es ts od i++[jZ es (mk (od.take (i+1))) (DK ts (od.getD i 0))]:=by
 unfold dS
 rw[List.range_succ,MD]
 rfl
def Fn(PL PS WC:Addr):Sp:=fun vs H Q _=>∃(p o:Addr)(m:Nat)(es:En)(ts:List (List Nat))(ks:Kn)(od:List Nat),vs = [.ref p,.ref o]/\WebT PL PS WC H p m es ts ks/\ks.length=es.length/\bt m es ts/\m<=40/\es.length<=100/\H o=some (.lst ((cI od).map V.int))/\(∀ x∈od,x<m)/\od.length<=40 /\
 ∀ q zs H',Same H H'->H' q=some (.lst zs)->bI H' zs (dS es ts od od.length)->Q (.ref q) H'
def Ag:Sp:=fun vs H Q _=>∃ p s:Nat,vs = [.int (p:Int),.int (s:Int)]/\p<60/\∀ q,H q=none->Q (.ref q) (upd H q (.lst [.int (s:Int),.int ((s|||2^p:Nat):Int)]))
def prcB(es:En)(ks:Kn)(bk:List Nat)(h:Nat):Int:=sumL bk fun t=>prT es ks t h
def Kp(PL PS:Addr):Sp:=fun vs H Q _=>∃(d qt:Addr)(p F:Nat)(kvs:List (Key×V))(T:List (Nat×Pr))(xs:List V)(es:En)(ks:Kn)(bk:List Nat),vs = [.ref d,.int (p:Int),.ref qt,.int (F:Int)]/\H d=some (.dK kvs)/\DcAt (PrAt H) kvs T/\(T.map (·.1)).Nodup/\T.length<=256/\p<60/\H qt=some (.lst xs)/\ui PL PS H es ks xs bk/\bk.length<=100 /\
 ∀(g:Addr)(kv2:List (Key×V))(G:List (Nat×List Pr))(H':Hp),(∀ b o,b≠d->H b=some o->H' b=some o)->H g=none->H' g=some (.dK kv2)->Grp F (ji p (prcB es ks bk) T) G->DcAt (PrAt H') kv2 (G.map fun e=>(e.1,jj e.2))->Q (.ref g) H'
theorem Hu(p:Nat)(prc:Nat->Int)(T:List (Nat×Pr))(e:Nat×Pr):ji p prc (T++[e])=ji p prc T++[(hsg e.1 p false,(e.2.1+prc (hsg e.1 p false),e.2.2)),(hsg e.1 p true,(e.2.1+prc (hsg e.1 p true),e.2.2))]:=by
 unfold ji
 rw[List.flatMap_append,OY,List.flatMap_nil,NH]
theorem rm(p:Nat)(prc:Nat->Int):∀ T:List (Nat×Pr),(ji p prc T).length=2*T.length
 |[]=>rfl
 |e::T=>by
  have ih:=rm p prc T
  unfold ji at ih ⊢
  rw[OY,LX,ih,MJ,MJ,MJ,NX]
  omega
theorem qq{H H':Hp}{b:Addr}(s:Same H H')(z:H' b=none):H b=none:=by
 cases y:H b with
 |none=>rfl
 |some o=>rw[s _ _ y]at z;cases z
section
variable{P:Program}{w:World}{K:LU}{mg:Str->Option Value}{base:Heap}
theorem dE:aE ["web","order","found","behind","place"] ["web","order"] (ai cZ):=⟨rfl,rfl,rfl,by decide +kernel,rfl,by decide +kernel,by decide +kernel⟩
theorem K6{f fw PL PS WC:Addr}{fd fdw:FuncData} (F:Fun K "ties_back" "ties_back" cZ f fd) (cw:CW K WC) (TL:CT K PL) (TS:CT K PS) (G_ends_within:Cal P w K mg base 1 "ends_within" ["tie","patch"] (pM K) fw fdw):FnOk P w K mg base CX0 2 f fd ["web","order"] (Fn PL PS WC):=by
 refine F.ok dE (fun vs H Q E h=>?_) (fun cdv A outer s H vs Q E hr h=>?_)
 ·obtain⟨p,o,m,es,ts,ks,od,rfl,_⟩:=h
  rfl
 obtain⟨p,o,m,es,ts,ks,od,rfl,⟨dx,fs,q1,xs,q3,z3,hp,lm,l1,h1,tk,l3,h3,rw3⟩,kl,tn,m40,e100,ho,ob,o40,kk⟩:=h
 have hxl:xs.length=es.length:=tk.1
 have ct:∀ b,CT K (cls PL PS b):=fun b=>by
  unfold cls
  split
  ·exact TS
  ·exact TL
 have ol:(cI od).length=od.length:=by unfold cI;rw[LW]
 refine⟨_,(af (au (i:=2) dE.nd rfl (Or.inl rfl) (cH ag))
   (af (au (i:=3) dE.nd rfl (Or.inr rfl) ah)
   (af (bC PassesOwn.never rfl (aV (pv 1)) (aJ (i:=4) dE.nd rfl (Or.inl rfl)) (af (au (i:=3) dE.nd rfl (Or.inr rfl) (ay A3 (pv 3) (ay iK ah (pv 4))))
   (ao (aX (dI Mn Mz My aU (pv 2) (aa (vj rfl (fr:=[("web",0),("behind",3)]) (xs:=["number"]) (tN.of (by rfl) (by decide +kernel) (by rfl) (by decide +kernel) (by intro p hp;simp only[LZ,MP,or_false]at hp;rcases hp with rfl | rfl<;>exact⟨rfl,rfl⟩) (by decide +kernel) (by intro p hp;simp only[LZ,MP,or_false]at hp;rcases hp with rfl | rfl<;>rfl)) (aV (aD aK (cP (pv 0) rfl) (pv 4) (fun _ _=>rfl))) (fun C ex s H=>(aJ (i:=0) (show(["number","web","behind"]:List Str).Nodup from by decide +kernel) rfl (Or.inl rfl))) (fun C ex s H=>(Fw (aM jW (aF G_ends_within.ok (hr.mono (by decide)) rfl G_ends_within.mg G_ends_within.kp G_ends_within.bn .nil aW (aa (aD (gX (K:=K) rfl) (vi (K:=K) rfl (pv 1) rfl) (pv 0) (fun _ _=>rfl)) (aa (pv 2) ag))) ah (aR _)))) (fun C ex s H=>(pv 0))) ag))))))
   (ao (aO (pv 2)))))),?_⟩
 refine⟨(by show 0<=sizeLine;decide),fun qf hqf=>?_⟩
 have s1:=aj hqf (.lst [])
 refine⟨_,rfl,o,rfl,⟨_,SqL.of (s1 _ _ ho)⟩,cn (K:=K) (xs:=(cI od).map V.int) (fun i σ H3=>∃ v4 zs,σ = [some (.ref p),some (.ref o),some (.ref qf),some (.int ((mk (od.take i):Nat):Int)),v4]/\Same H H3/\H3 qf=some (.lst zs)/\cX (fun a=>a=qf) H3 zs (dS es ts od i)) ⟨_,[],rfl,s1,ae,rfl,fun i l e=>by simp[dS]at e⟩ (fun i σ H3 _ ⟨_,_,_,z,_⟩=>SqL.of (z _ _ ho)) ?_ ?_⟩
 ·rintro i x σ H3 hx ⟨v4,zs,rfl,s3,hf3,rx⟩
  rw[Mb]at hx
  obtain⟨y,hy,rfl⟩:=Ms.mp hx
  unfold cI at hy
  rw[Mb]at hy
  obtain⟨pl,hpl,rfl⟩:=Ms.mp hy
  have hb:=ob pl (LV hpl)
  have hi:i<od.length:=(LR.mp hpl).1
  have et:od.take (i+1)=od.take i++[pl]:=by rw[Mx,hpl];rfl
  have gd:od.getD i 0=pl:=by rw[MN,hpl];rfl
  refine⟨_,rfl,_,rfl,_,_,rfl,rfl,⟨by omega,by omega,by decide⟩,_,_,rfl,rfl,?_⟩
  have eo:Builtin.bitOr ((mk (od.take i):Nat):Int) (1*2^((pl:Nat):Int).toNat)=((mk (od.take (i+1)):Nat):Int):=by rw[et,F1,shlN,orN]
  obtain⟨row,hrow⟩:∃ row,ts[pl]?=some row:=⟨_,LS (by rw[tn.len];exact hb)⟩
  obtain⟨r,r1,r2⟩:=rw3.2 pl row hrow
  have era:DK ts (od.getD i 0)=row:=by unfold DK;rw[gd,hrow];rfl
  have zl:zs.length=i:=by rw[rx.1];unfold dS;rw[LW,M6]
  have rl:row.length<=es.length:=by
   refine eY (tn.nd pl row hrow) fun t ht=>?_
   obtain⟨e,he,_⟩:=(tn.mem pl row hrow t).mp ht
   exact(LR.mp he).1
  refine⟨_,rfl,.inl ⟨rfl,_,SqL.of hf3⟩,_,rfl,p,WC,dx,fs,_,rfl,s3 _ _ hp,cw.cl,cw.n3,l3,_,rfl,q3,z3,_,_,rfl,rfl,SqL.of (s3 _ _ h3),aG r1,r,rfl,⟨_,SqL.of (s3 _ _ r2)⟩,nJ (K:=K) (xs:=row.map iV) (fun j ys H4=>H4=H3/\ys=(jZ es (mk (od.take (i+1))) (row.take j)).map iV) (MX (ar (by rw[LW];omega))) ⟨rfl,rfl⟩ (fun j ys H4 _ z=>by rw[z.1];exact SqL.of (s3 _ _ r2)) ?_ ?_ ?_⟩
  ·rintro j x ys H4 hx ⟨rfl,rfl⟩
   rw[Mb]at hx
   obtain⟨t,ht,rfl⟩:=Ms.mp hx
   obtain⟨e,he,_⟩:=(tn.mem pl row hrow t).mp (LV ht)
   obtain⟨k,hk⟩:∃ k,ks[t]?=some k:=⟨_,LS (by have:=(LR.mp he).1;omega)⟩
   obtain⟨p',dx',x1,x2⟩:=tk.2 t e k he hk
   have etk:row.take (j+1)=row.take j++[t]:=by rw[Mx,ht];rfl
   refine⟨rfl,_,rfl,p,WC,dx,fs,_,rfl,s3 _ _ hp,cw.cl,cw.n2,l1,_,rfl,q1,xs,_,_,rfl,rfl,SqL.of (s3 _ _ h1),aG x1,_,rfl,p',_,dx',_,_,_,_,rfl,s3 _ _ x2,ct _,by omega,by omega,rfl,_,rfl,?_⟩
   have hin:(bit (Builtin.bitOr ((mk (od.take i):Nat):Int) (1*2^((pl:Nat):Int).toNat)) (e.1:Int)+bit (Builtin.bitOr ((mk (od.take i):Nat):Int) (1*2^((pl:Nat):Int).toNat)) (e.2:Int)=2)↔insT es (mk (od.take (i+1))) t=true:=by
    rw[eo,bitN,bitN,nA he]
    cases (mk (od.take (i+1))).testBit e.1<;>cases (mk (od.take (i+1))).testBit e.2<;>decide
   refine ite2 (fun c=>?_) (fun c=>?_)
   ·have c':=hin.mp (V.int.inj (of_decide_eq_true c))
    refine⟨_,rfl,rfl,?_⟩
    unfold jZ
    rw[etk,N0,Ox c',MD]
    rfl
   ·have c':¬ insT es (mk (od.take (i+1))) t=true:=fun z=>c (decide_eq_true (congrArg V.int (hin.mpr z)))
    refine⟨rfl,?_⟩
    unfold jZ
    rw[etk,N0,Oy c',List.filter_nil,NH]
  ·rintro ys H4 ⟨rfl,rfl⟩ D hD
   rw[LW,MI]
   have Dq:D≠qf:=fun z=>by rw[z,hf3]at hD;cases hD
   have s4:=aj hD (.lst ((jZ es (mk (od.take (i+1))) row).map iV))
   refine⟨qf,zs,_,rfl,rfl,s4 _ _ hf3,ar (by omega),?_⟩
   refine⟨some (.int (pl:Int)),zs++[.ref D],?_,aL (s3.trans s4) hqf _,ae,?_⟩
   ·show[some (V.ref p),some (V.ref o),some (V.ref qf),some (V.int (Builtin.bitOr ((mk (od.take i):Nat):Int) (1*2^((pl:Nat):Int).toNat))),some (V.int (pl:Int))]=_
    rw[eo]
   ·rw[EG,era]
    have r0:cX (fun a=>a=qf) (upd (upd H4 D (.lst ((jZ es (mk (od.take (i+1))) row).map iV))) qf (.lst (zs++[.ref D]))) zs (dS es ts od i):=⟨rx.1,fun j l e=>by
     obtain⟨a,a1,a2,a3⟩:=rx.2 j l e
     exact⟨a,a1,a2,by rw[aq a2];exact s4 _ _ a3⟩⟩
    exact r0.snoc Dq (by rw[aq Dq];exact ae)
  ·rintro j ys H4 ⟨_,rfl⟩
   rw[LW]
   unfold jZ
   exact MZ (N6 _ _) (by rw[MT];exact Nat.min_le_left _ _)
 ·rintro σ H3 ⟨v4,zs,rfl,s3,hf3,rx⟩
  rw[LW,ol]at rx
  exact⟨_,rfl,kk qf zs H3 s3 hf3 rx.off⟩
theorem uV:aE ["place","signs"] ["place","signs"] (ai cz):=⟨rfl,rfl,rfl,by decide +kernel,rfl,by decide +kernel,by decide +kernel⟩
theorem IH{f:Addr}{fd:FuncData} (F:Fun K "signs_with" "signs_with" cz f fd):FnOk P w K mg base CX0 1 f fd ["place","signs"] Ag:=by
 refine F.ok uV (fun vs H Q E h=>?_) (fun cdv A outer s H vs Q E hr h=>?_)
 ·obtain⟨p,sg,rfl,_⟩:=h
  rfl
 obtain⟨p,sg,rfl,hp,kk⟩:=h
 refine⟨_,(ao (aO (cH (aa (pv 1) (aa (ay A3 (pv 1) (ay iK ah (pv 0))) ag))))),?_⟩
 refine⟨_,rfl,_,rfl,_,rfl,_,_,rfl,rfl,⟨by omega,by omega,by decide⟩,_,_,rfl,rfl,(by show 2<=sizeLine;decide),fun q hq=>?_⟩
 have eo:Builtin.bitOr (sg:Int) (1*2^((p:Nat):Int).toNat)=((sg|||2^p:Nat):Int):=by rw[shlN,orN]
 have:=kk q hq
 rw[← eo]at this
 exact this
theorem eX:aE ["entries","low"] ["entries"] (ai aY):=⟨rfl,rfl,rfl,by decide +kernel,rfl,by decide +kernel,by decide +kernel⟩
theorem ok_ct{f:Addr}{fd:FuncData} (F:Fun K "counted_together" "counted_together" aY f fd) (T:Txt mg):FnOk P w K mg base CX0 1 f fd ["entries"] (spCT K):=by
 refine F.ok eX (fun vs H Q E h=>?_) (fun cdv A outer s H vs Q E hr h=>?_)
 ·obtain⟨v,es,rfl,_⟩:=h
  rfl
 obtain⟨v,es,rfl,⟨a,xs,rfl,hA,hL⟩,hne,hlen,kk⟩:=h
 refine⟨_,(af (au (i:=1) eX.nd rfl (Or.inr rfl) (az (Hk rfl) (by rfl) T.n_min JH (aa (dH rfl (fr:=[]) (by exact bK.plain (by rfl) (by decide +kernel) (by rfl) (by decide +kernel) (by rfl) (by decide +kernel)) (aV (pv 0)) (fun C ex s H=>(aD (kW (K:=K) rfl) (pv 0) ah (fun _ _=>rfl)))) ag)))
   (ao (aO (b9 (aa (pv 1) (aa (az (jV rfl) (by rfl) T.n_sum uh (aa (vj rfl (fr:=[("low",1)]) (xs:=["entry"]) (tN.of (by rfl) (by decide +kernel) (by rfl) (by decide +kernel) (by intro p hp;simp only[LZ,MP,or_false]at hp;rcases hp with rfl<;>exact⟨rfl,rfl⟩) (by decide +kernel) (by intro p hp;simp only[LZ,MP,or_false]at hp;rcases hp with rfl<;>rfl)) (aV (pv 0)) (fun C ex s H=>(aJ (i:=0) (show(["entry","low"]:List Str).Nodup from by decide +kernel) rfl (Or.inl rfl))) (fun C ex s H=>(Fw (aM jW (aD (kW (K:=K) rfl) (pv 0) ah (fun _ _=>rfl)) (pv 1) (aR _)))) (fun C ex s H=>(aD (kW (K:=K) rfl) (pv 0) ah (fun _ _=>rfl)))) ag)) ag)))))),?_⟩
 have hxl:xs.length=es.length:=hL.1
 have hS:SqL K H a xs:=SqL.of hA
 refine⟨_,rfl,a,rfl,⟨_,hS⟩,bH (K:=K) (xs:=xs) (fun i zs H2=>Same H H2/\zs=((es.take i).map (·.1)).map V.int) (MX (ar (by omega))) ⟨fun _ _ e=>e,rfl⟩ (fun i zs H2 _ z=>z.1.seq hS) ?_ ?_⟩
 ·rintro i x zs H2 hx ⟨s2,rfl⟩
  obtain⟨p,hp,t,rfl,ht⟩:=hL.get hx
  refine⟨_,rfl,t,_,0,_,rfl,rfl,SqT.of (s2 _ _ ht),at0,s2,?_⟩
  rw[Mx,hp,MD,MD]
  rfl
 rintro zs H2 _ ⟨s2,rfl⟩ D hD
 rw[hxl,MI]
 have s3:=s2.trans (aj hD (.lst ((es.map (·.1)).map V.int)))
 refine⟨D,es.map (·.1),rfl,SqL.of ae,?_,fun m hm hl=>?_⟩
 ·rw[LW];exact List.length_pos_iff.mpr hne
 have em:=Lk hm hl
 subst em
 have hS3:=s3.seq hS
 have hL3:LsAt PrAt (upd H2 D (.lst ((es.map (·.1)).map V.int))) xs es:=hL.imp fun _ _ q=>q.mono s3
 generalize upd H2 D (.lst ((es.map (·.1)).map V.int))=H3 at s3 hS3 hL3
 generalize hlo:lowL (es.map (·.1))=lo
 refine⟨_,rfl,_,rfl,a,rfl,⟨_,hS3⟩,nJ (K:=K) (xs:=xs) (fun i zs H4=>Same H3 H4/\zs=(((es.take i).filter fun e=>decide (e.1=lo)).map (·.2)).map V.int) (MX (ar (by omega))) ⟨fun _ _ e=>e,rfl⟩ (fun i zs H4 _ z=>z.1.seq hS3) ?_ ?_ ?_⟩
 ·rintro i x zs H4 hx ⟨s4,rfl⟩
  obtain⟨p,hp,t,rfl,ht⟩:=hL3.get hx
  have et:es.take (i+1)=es.take i++[p]:=by rw[Mx,hp];rfl
  refine⟨rfl,_,rfl,t,_,0,_,rfl,rfl,SqT.of (s4 _ _ ht),at0,_,rfl,rfl,_,rfl,?_⟩
  refine ite2 (fun c=>?_) (fun c=>?_)
  ·have c':p.1=lo:=V.int.inj (of_decide_eq_true c)
   refine⟨_,rfl,t,_,1,_,rfl,rfl,SqT.of (s4 _ _ ht),at1,s4,?_⟩
   rw[et,N0,Ox (by exact decide_eq_true c'),MD,MD]
   rfl
  ·have c':¬ p.1=lo:=fun z=>c (decide_eq_true (congrArg V.int z))
   refine⟨s4,?_⟩
   rw[et,N0,Oy (by simpa using c'),List.filter_nil,NH]
 ·rintro zs H4 ⟨s4,rfl⟩ D2 hD2
  rw[hxl,MI]
  refine⟨D2,_,rfl,SqL.of ae,(by show 2<=sizeLine;decide),fun t ht=>?_⟩
  refine kk _ _ (s3.trans (s4.trans ((aj hD2 _).trans (aj ht _)))) ⟨t,rfl,?_⟩
  unfold jj tot
  rw[hlo]
  exact ae
 ·rintro i zs H4 ⟨_,rfl⟩
  rw[LW,LW]
  exact MZ (N6 _ _) (by rw[MT];omega)
theorem aS:aE ["entries","place","ties","front","found","signs","entry","here","low","together"] ["entries","place","ties","front"] (ai br):=⟨rfl,rfl,rfl,by decide +kernel,rfl,by decide +kernel,by decide +kernel⟩
theorem ok_ent{f f1 f2 f0' f1' PL PS:Addr}{fd d1 d2 d0' d1':FuncData} (F:Fun K "entries_behind" "entries_behind" br f fd) (T:Txt mg) (TL:CT K PL) (TS:CT K PS) (r0:Met P w K mg base 3 PL "price" ["self","laying"] (pZ PL false) f0' d0') (r1:Met P w K mg base 3 PS "price" ["self","laying"] (pZ PS true) f1' d1')
  (G_signs_with:Cal P w K mg base 1 "signs_with" ["place","signs"] Ag f1 d1) (G_counted_together:Cal P w K mg base 1 "counted_together" ["entries"] (spCT K) f2 d2):FnOk P w K mg base CX0 4 f fd ["entries","place","ties","front"] (Kp PL PS):=by
 refine F.ok aS (fun vs H Q E h=>?_) (fun cdv A outer s H vs Q E hr h=>?_)
 ·obtain⟨d,qt,p,Fr,kvs,T,xs,es,ks,bk,rfl,_⟩:=h
  rfl
 obtain⟨d,qt,p,Fr,kvs,Tt,xs,es,ks,bk,rfl,hd,dc,nd,l256,hp,hqt,tr,b100,kk⟩:=h
 have hu:=GG hr
 have CL0:=TL.cl
 have CL1:=TS.cl
 have kvl:kvs.length=Tt.length:=dc.1
 refine⟨_,(af (au (i:=4) aS.nd rfl (Or.inl rfl) pP)
   (af (bC PassesOwn.never rfl (Iy (pe_bm0 Pj Ph PySem.F.type_dict_items IS (pv 0))) (qg rfl (bG (aJ (i:=5) aS.nd rfl (Or.inl rfl)) (bG (aJ (i:=6) aS.nd rfl (Or.inl rfl)) kr))) (ao (bC PassesOwn.never rfl (aV (aF G_signs_with.ok (hr.mono (by decide)) rfl G_signs_with.mg G_signs_with.kp G_signs_with.bn .nil aW (aa (pv 1) (aa (pv 5) ag)))) (aJ (i:=7) aS.nd rfl (Or.inr rfl)) (af (au (i:=8) aS.nd rfl (Or.inl rfl) (ay b7 (aD aI (pv 6) ah (fun _ _=>rfl)) (az (jV rfl) (by rfl) T.n_sum uh (aa (dH rfl (fr:=[("here",7)]) (by exact bK.one (by rfl) (by decide +kernel) (by rfl) (by decide +kernel) (by rfl) (by decide +kernel) (by rfl) (by rfl) (by decide +kernel) (by rfl)) (aV (pv 2)) (fun C ex s H=>(pe_or (AY (pv 0) CL0 r0.me r0.ok (hr.mono (by decide)) r0.bn .nil aW (aa (pv 1) ag)) (AY (pv 0) CL1 r1.me r1.ok (hr.mono (by decide)) r1.bn .nil aW (aa (pv 1) ag))))) ag))))
   (ao (aX (dI Mn Mz My aU (KO (pv 4) (ay tV (pv 7) (pv 3)) (cH ag) ⟨rfl,rfl,rfl,rfl⟩) (aa (b9 (aa (pv 8) (aa (aD aI (pv 6) ah (fun _ _=>rfl)) ag))) ag))))))))
   (af (au (i:=9) aS.nd rfl (Or.inl rfl) pP)
   (af (bC PassesOwn.never rfl (KN (pv 4)) (aJ (i:=5) aS.nd rfl (Or.inl rfl)) (ao (AI hu (pv 9) (pv 5) (aF G_counted_together.ok (hr.mono (by decide)) rfl G_counted_together.mg G_counted_together.kp G_counted_together.bn .nil aW (aa (qi hu (pv 4) (pv 5) (fun _ _=>rfl)) ag)) rfl)))
   (ao (aO (pv 9))))))),?_⟩
 intro f hf
 have sf:=aj hf (.dK [])
 refine⟨_,rfl,.inr (.inr (.inl ⟨rfl,.inl ⟨_,sf _ _ hd⟩⟩)),d,.dK kvs,rfl,rfl,sf _ _ hd,trivial,fun vw hvw=>?_⟩
 have sv:=aj hvw (ou vw d)
 refine⟨vw,d,.dK kvs,rfl,ae,sv _ _ (sf _ _ hd),trivial,fun o=>?_⟩
 have fd':f≠d:=fun z=>by rw[z,hd]at hf;cases hf
 have vwd:vw≠d:=fun z=>by rw[z,sf _ _ hd]at hvw;cases hvw
 have vwf:vw≠f:=fun z=>by rw[z,ae]at hvw;cases hvw
 have hvw0:H vw=none:=qq sf hvw
 obtain⟨B,hB⟩:∃ B:Hp,B=upd (upd H vw (ou vw d)) d (.frz o (.dK kvs)):=⟨_,rfl⟩
 have Bd:B d=some (.frz o (.dK kvs)):=by rw[hB];exact ae
 have Bf:B f=none:=by rw[hB,aq fd',aq (Ne.symm vwf)];exact hf
 have HB:∀ b u,b≠d->H b=some u->B b=some u:=fun b u n z=>by rw[hB,aq n,aq (aB z hvw0)];exact z
 have sB:Same B (upd (upd (upd H f (.dK [])) vw (ou vw d)) d (.frz o (.dK kvs))):=fun b u z=>by
  rw[hB]at z
  by_cases n:b=d
  ·subst n;rw[ae]at z ⊢;exact z
  ·rw[aq n]at z ⊢
   by_cases n2:b=vw
   ·subst n2;rw[ae]at z ⊢;exact z
   ·rw[aq n2]at z ⊢
    rw[aq (aB z hf)]
    exact z
 have hf3:(upd (upd (upd H f (.dK [])) vw (ou vw d)) d (.frz o (.dK kvs))) f=some (.dK []):=by rw[aq fd',aq (Ne.symm vwf)];exact ae
 generalize upd (upd (upd H f (.dK [])) vw (ou vw d)) d (.frz o (.dK kvs))=H3 at sB hf3
 have trB:ui PL PS B es ks xs bk:=⟨tr.1,fun j t z=>by
  obtain⟨e,k,p',dx,a,b,c,q⟩:=tr.2 j t z
  exact⟨e,k,p',dx,a,b,c,HB _ _ (fun y=>by rw[y,hd]at q;cases q) q⟩⟩
 have qtB:B qt=some (.lst xs):=HB _ _ (fun y=>by rw[y,hd]at hqt;cases hqt) hqt
 have dcB:DcAt (PrAt B) kvs Tt:=dc.imp fun v e ⟨t,e1,e2⟩=>⟨t,e1,HB _ _ (fun y=>by rw[y,hd]at e2;cases e2) e2⟩
 clear hB
 have xsl:xs.length<=100:=by rw[tr.1];exact b100
 refine GY (u:=.dK kvs) (d:=d) (o:=o) (fun i σ H4=>∃ v5 v6 v7 v8 v9 kv G,σ = [some (.ref d),some (.int (p:Int)),some (.ref qt),some (.int (Fr:Int)),some (.ref f),v5,v6,v7,v8,v9]/\Same B H4/\lL (fun a=>B a≠none) H4 f kv G/\Grp Fr (ji p (prcB es ks bk) (Tt.take i)) G) ⟨_,_,_,_,_,[],[],rfl,sB,⟨hf3,DcAt.nil,fun i j k l a e=>by simp at e⟩,Grp.nil Fr⟩ (fun i σ H4 _ z=>?_) ?_ ?_
 ·obtain⟨_,_,_,_,_,_,_,_,z,_⟩:=z
  exact z _ _ Bd
 ·rintro i x y σ H4 T4 hi hkv ⟨v5,v6,v7,v8,v9,kv,G,rfl,s4,fn,gr⟩ hT4
  obtain⟨kvs',k,eu,hki,ex⟩:∃ kvs' k,HO.dK kvs=HO.dK kvs'/\kvs'[i]?=some (k,y)/\x=kV k:=by
   rcases hkv with z | ⟨_,_,_,z,_⟩
   ·exact z
   ·cases z
  obtain rfl:=HO.dK.inj eu
  obtain⟨sg,pv,rfl,hTi,t,rfl,htB⟩:=dcB.atK hki
  subst ex
  have eti:Tt.take (i+1)=Tt.take i++[(sg,pv)]:=by rw[Mx,hTi];rfl
  have s5:=aj hT4 (.tup [kV (.inl (sg:Int)),.ref t])
  refine⟨T4,_,rfl,SqT.of ae,rfl,_,_,rfl,_,_,rfl,rfl,?_⟩
  have fn5:=fn.mono s5
  have s45:=s4.trans s5
  generalize upd H4 T4 (.tup [kV (.inl (sg:Int)),.ref t])=H5 at s5 fn5 s45
  refine⟨_,rfl,_,rfl,p,sg,rfl,hp,fun q hq=>?_⟩
  have s6:=aj hq (.lst [.int (sg:Int),.int ((sg|||2^p:Nat):Int)])
  have Bq:B q=none:=qq s45 hq
  obtain⟨two,htwo⟩:∃ two:List (Nat×Pr),two = [(hsg sg p false,(pv.1+prcB es ks bk (hsg sg p false),pv.2)),(hsg sg p true,(pv.1+prcB es ks bk (hsg sg p true),pv.2))]:=⟨_,rfl⟩
  have ebr:ji p (prcB es ks bk) (Tt.take (i+1))=ji p (prcB es ks bk) (Tt.take i)++two:=by rw[eti,Hu,htwo]
  have zlen:(ji p (prcB es ks bk) (Tt.take i)).length<=512:=by rw[rm,MT];omega
  have fn6:lL (fun a=>B a≠none∨a=q) (upd H5 q (.lst [.int (sg:Int),.int ((sg|||2^p:Nat):Int)])) f kv G:=by
   have:=fn5.more (S':=fun a=>B a≠none∨a=q) fun a ha hz=>hz.elim id fun z=>absurd (z▸hq) ha
   exact this.mono s6
  refine⟨q,rfl,⟨_,SqL.of ae⟩,cn (K:=K) (xs:=[.int (sg:Int),.int ((sg|||2^p:Nat):Int)]) (fun j σ H6=>∃ v7 v8 kv G,σ = [some (.ref d),some (.int (p:Int)),some (.ref qt),some (.int (Fr:Int)),some (.ref f),some (.int (sg:Int)),some (.ref t),v7,v8,v9]/\Same B H6/\H6 q=some (.lst [.int (sg:Int),.int ((sg|||2^p:Nat):Int)])/\lL (fun a=>B a≠none∨a=q) H6 f kv G/\Grp Fr (ji p (prcB es ks bk) (Tt.take i)++two.take j) G) ⟨_,_,kv,G,rfl,s45.trans s6,ae,fn6,by rw[Oo,NH];exact gr⟩ (fun j σ H6 _ ⟨_,_,_,_,_,_,z,_⟩=>SqL.of z) ?_ ?_⟩
  ·rintro j x σ H6 hx ⟨w7,w8,kv',G',rfl,s6',hq6,fn',gr'⟩
   obtain⟨hv,e2,rfl⟩:∃ hv:Nat,two[j]?=some (hv,(pv.1+prcB es ks bk hv,pv.2))/\x=.int (hv:Int):=by
    match j,hx with
    |0,hx=>exact⟨hsg sg p false,by rw[htwo];rfl,by cases hx;unfold hsg;rw[if_neg Mp,OM]⟩
    |1,hx=>exact⟨hsg sg p true,by rw[htwo];rfl,by cases hx;unfold hsg;rw[if_pos rfl]⟩
    |j+2,hx=>cases hx
   have etw:two.take (j+1)=two.take j++[(hv,(pv.1+prcB es ks bk hv,pv.2))]:=by rw[Mx,e2];rfl
   have jl:j<2:=by
    have:=(LR.mp hx).1
    exact this
   have zl2:(ji p (prcB es ks bk) (Tt.take i)++two.take j).length<=514:=by rw[LX,MT];omega
   have gl:=gr'.len
   have kvl':kv'.length=G'.length:=fn'.w.1
   refine⟨_,rfl,t,_,0,_,rfl,rfl,SqT.of (s6' _ _ htB),at0,_,rfl,qt,rfl,⟨_,SqL.of (s6' _ _ qtB)⟩,bH (K:=K) (xs:=xs) (fun i ys H7=>H7=H6/\ys=((bk.take i).map fun t=>prT es ks t hv).map V.int) (MX (ar (by omega))) ⟨rfl,rfl⟩ (fun i ys H7 _ z=>by rw[z.1];exact SqL.of (s6' _ _ qtB)) ?_ ?_⟩
   ·rintro n x ys H7 hx' ⟨rfl,rfl⟩
    obtain⟨tn,htn⟩:∃ tn,bk[n]?=some tn:=⟨_,LS (by rw[← tr.1];exact(LR.mp hx').1)⟩
    obtain⟨e,k,p',dx',he,hk,x1,x2⟩:=(trB.mono s6').2 n tn htn
    rw[hx']at x1
    cases x1
    have hU:=U_at (l:=(hv:Int)) he hk
    have hs:stg ks tn=k.2:=by unfold stg;rw[hk]
    have tail:∀ v:Int,v=prT es ks tn hv->H7=H7/\((bk.take n).map fun t=>prT es ks t hv).map V.int++[V.int v]=((bk.take (n+1)).map fun t=>prT es ks t hv).map V.int:=fun v hv'=>by
     rw[Mx,htn,hv',MD,MD]
     exact⟨rfl,rfl⟩
    by_cases c:k.1=1
    ·rw[decide_eq_true c]at x2 hU
     refine .inr ⟨_,rfl,p',dx',_,rfl,x2,Ie _ _ _ (by decide +kernel) (by decide +kernel) (by decide +kernel),_,rfl,p',_,_,_,(hv:Int),rfl,⟨dx',x2⟩,by omega,by omega,?_⟩
     exact tail _ (by unfold prT;rw[hU,hs])
    ·rw[decide_eq_false c]at x2 hU
     refine .inl ⟨_,rfl,p',dx',_,rfl,x2,Ie _ _ _ (by decide +kernel) (by decide +kernel) (by decide +kernel),_,rfl,p',_,_,_,(hv:Int),rfl,⟨dx',x2⟩,by omega,by omega,?_⟩
     exact tail _ (by unfold prT;rw[hU,hs])
   rintro ys H7 _ ⟨rfl,rfl⟩ D hD
   rw[tr.1,MI]
   have s7:=aj hD (.lst ((bk.map fun t=>prT es ks t hv).map V.int))
   refine⟨D,_,rfl,SqL.of ae,_,_,rfl,rfl,?_⟩
   have fn7:=fn'.mono s7
   have s67:=s6'.trans s7
   have hq7:=s7 _ _ hq6
   generalize upd H7 D (.lst ((bk.map fun t=>prT es ks t hv).map V.int))=H8 at s7 fn7 s67 hq7
   have ek:V.int (Builtin.bitAnd (hv:Int) (Fr:Int))=kV (.inl ((hv&&&Fr:Nat):Int)):=congrArg V.int (andN hv Fr)
   have elow:pv.1+(bk.map fun t=>prT es ks t hv).sum=pv.1+prcB es ks bk hv:=rfl
   refine⟨_,rfl,f,rfl,.inl ⟨_,.inl fn7.d⟩,_,rfl,_,rfl,_,_,rfl,rfl,(by show 0<=sizeLine;decide),fun l hl=>?_⟩
   have s8:=aj hl (.lst [])
   have fn8:=fn7.mono s8
   have Bl:B l=none:=qq s67 hl
   have nlq:l≠q:=fun z=>by rw[z,hq7]at hl;cases hl
   refine⟨kv',_,fn8.d,ek,ar (by omega),fun u hu'=>?_,fun hn=>?_⟩
   ·obtain⟨n,wr,hG,hk,a,ys,rfl,nS,ha,hw⟩:=fn8.w.val hu'
    refine⟨.inl ⟨rfl,_,SqL.of ha⟩,_,rfl,_,rfl,t,_,1,_,rfl,rfl,SqT.of ((s67.trans s8) _ _ htB),at1,(by show 2<=sizeLine;decide),fun tt htt=>?_⟩
    have s9:=aj htt (.tup [.int (pv.1+(bk.map fun t=>prT es ks t hv).sum),.int pv.2])
    have fn9:=fn8.mono s9
    have yl:ys.length<=514:=by
     rw[hw.1]
     exact MZ (gl.2 _ _ (LV hG)) zl2
    refine⟨a,ys,_,rfl,rfl,s9 _ _ ha,ar (by omega),?_⟩
    refine⟨some (.int (hv:Int)),some (.int (pv.1+(bk.map fun t=>prT es ks t hv).sum)),kv',_,rfl,?_,?_,fn9.app hG hk nS (s9 _ _ ha) (hw.imp fun _ _ q=>q.mono s9) (e:=(pv.1+prcB es ks bk hv,pv.2)) ⟨tt,rfl,ae⟩,?_⟩
    ·exact fun b u z=>by
      rw[aq (fun y=>nS (.inl (by rw[← y,z];exact fun q=>by cases q)))]
      exact((s67.trans s8).trans s9) _ _ z
    ·rw[aq (fun y=>nS (.inr y.symm))]
     exact(s8.trans s9) _ _ hq7
    ·rw[etw,← O0]
     exact gr'.old hG
   ·have nw:∀(i:Nat)(k:Key),kv'[i]?≠some (k,.ref l):=fun n k z=>by
     obtain⟨_,_,_,_,a,ys,e,_,ha,_⟩:=fn7.w.atK z
     cases e
     rw[ha]at hl
     cases hl
    have fk:=fn8.key hn ae (fun z=>z.elim (fun y=>y Bl) nlq) nw
    have lf:l≠f:=fun z=>by rw[z,fn7.d]at hl;cases hl
    have hl9:(upd (upd H8 l (.lst [])) f (.dK (putK kv' (.inl ((hv&&&Fr:Nat):Int)) (.ref l)))) l=some (.lst []):=by rw[aq lf];exact ae
    have nG:hv&&&Fr∉G'.map (·.1):=fn8.w.no hn
    have hf8:=fn8.d
    have s9:Same B (upd (upd H8 l (.lst [])) f (.dK (putK kv' (.inl ((hv&&&Fr:Nat):Int)) (.ref l)))):=aL (s67.trans s8) Bf _
    have hq9:(upd (upd H8 l (.lst [])) f (.dK (putK kv' (.inl ((hv&&&Fr:Nat):Int)) (.ref l)))) q=some (.lst [.int (sg:Int),.int ((sg|||2^p:Nat):Int)]):=by
     rw[aq (fun y=>by rw[← y,s8 _ _ hq7]at hf8;cases hf8)]
     exact s8 _ _ hq7
    have kG:(putK kv' (.inl ((hv&&&Fr:Nat):Int)) (.ref l))[G'.length]?=some ((.inl ((hv&&&Fr:Nat):Int):Key),.ref l):=by
     rw[uY _ hn,← kvl',LY (Ma _),Mw];rfl
    generalize upd (upd H8 l (.lst [])) f (.dK (putK kv' (.inl ((hv&&&Fr:Nat):Int)) (.ref l)))=H9 at fk hl9 s9 hq9
    refine⟨.inl ⟨rfl,_,SqL.of hl9⟩,_,rfl,_,rfl,t,_,1,_,rfl,rfl,SqT.of (s9 _ _ htB),at1,(by show 2<=sizeLine;decide),fun tt htt=>?_⟩
    have sA:=aj htt (.tup [.int (pv.1+(bk.map fun t=>prT es ks t hv).sum),.int pv.2])
    have fnA:=fk.mono sA
    refine⟨l,[],_,rfl,rfl,sA _ _ hl9,(by show 0<sizeLine;decide),?_⟩
    have hG:(G'++[(hv&&&Fr,([]:List Pr))])[G'.length]?=some (hv&&&Fr,[]):=by rw[LY (Ma _),Mw];rfl
    refine⟨some (.int (hv:Int)),some (.int (pv.1+(bk.map fun t=>prT es ks t hv).sum)),_,_,rfl,?_,?_,fnA.app hG kG (fun z=>z.elim (fun y=>y Bl) nlq) (sA _ _ hl9) ⟨rfl,fun i x e=>by simp at e⟩ (e:=(pv.1+prcB es ks bk hv,pv.2)) ⟨tt,rfl,ae⟩,?_⟩
    ·exact aL (s9.trans sA) Bl _
    ·rw[aq (Ne.symm nlq)]
     exact sA _ _ hq9
    ·rw[etw,← O0]
     exact gr'.new (z:=(hv,(pv.1+prcB es ks bk hv,pv.2))) nG
  ·rintro σ H6 ⟨w7,w8,kv',G',rfl,s6',hq6,fn',gr'⟩
   refine⟨_,_,_,_,_,kv',G',rfl,s6',fn'.more fun a _ z=>.inl z,?_⟩
   rw[ebr]
   have e2:two.take [V.int (sg:Int),V.int ((sg|||2^p:Nat):Int)].length=two:=by rw[htwo];rfl
   rw[e2]at gr'
   exact gr'
 rintro σ H4 ⟨v5,v6,v7,v8,v9,kv,G,rfl,s4,fn,gr⟩
 have etk:Tt.take (dlen (.dK kvs))=Tt:=by
  show Tt.take kvs.length=Tt
  rw[kvl,MI]
 rw[etk]at gr
 have gl:=gr.len
 rw[rm]at gl
 have kvl':kv.length=G.length:=fn.w.1
 intro g hg
 have sg':=aj hg (.dK [])
 refine⟨_,rfl,f,kv,rfl,sg' _ _ fn.d,fun o2=>?_⟩
 have gf:g≠f:=fun z=>by rw[z,fn.d]at hg;cases hg
 obtain⟨C,hC⟩:∃ C:Hp,C=upd H4 f (.frz o2 (.dK kv)):=⟨_,rfl⟩
 have Cf:C f=some (.frz o2 (.dK kv)):=by rw[hC];exact ae
 have Cg:C g=none:=by rw[hC,aq gf];exact hg
 have HC:∀ b u,b≠f->H4 b=some u->C b=some u:=fun b u n z=>by rw[hC,aq n];exact z
 have sC:Same C (upd (upd H4 g (.dK [])) f (.frz o2 (.dK kv))):=fun b u z=>by
  rw[hC]at z
  by_cases n:b=f
  ·subst n;rw[ae]at z ⊢;exact z
  ·rw[aq n]at z ⊢
   rw[aq (aB z hg)]
   exact z
 have g6:(upd (upd H4 g (.dK [])) f (.frz o2 (.dK kv))) g=some (.dK []):=by rw[aq gf];exact ae
 generalize upd (upd H4 g (.dK [])) f (.frz o2 (.dK kv))=H6 at sC g6
 have fnC:DcAt (fun v w=>RwAt C v w) kv G:=fn.w.imp fun v w ⟨a,ys,e,_,z,l⟩=>⟨a,ys,e,HC _ _ (fun y=>by have:=fn.d;rw[← y,z]at this;cases this) z,l.imp fun y x ⟨t,e1,e2⟩=>⟨t,e1,HC _ _ (fun y=>by have:=fn.d;rw[← y,e2]at this;cases this) e2⟩⟩
 have HH:∀ b u,b≠d->H b=some u->C b=some u:=fun b u n z=>HC b u (aB z hf) (s4 _ _ (HB b u n z))
 have ndG:=gr.nd
 have ndk:=fn.w.nd ndG
 clear hC
 refine Jg (kvs:=kv) (d:=f) (o:=o2) (fun i σ H7=>∃ v5 v6 v7 v8 kv2,σ = [some (.ref d),some (.int (p:Int)),some (.ref qt),some (.int (Fr:Int)),some (.ref f),v5,v6,v7,v8,some (.ref g)]/\Same C H7/\H7 g=some (.dK kv2)/\DcAt (PrAt H7) kv2 ((G.take i).map fun e=>(e.1,jj e.2))) ⟨_,_,_,_,[],rfl,sC,g6,by rw[Oo];exact DcAt.nil⟩ (fun i σ H7 _ z=>?_) ?_ ?_
 ·obtain⟨_,_,_,_,_,_,z,_⟩:=z
  exact z _ _ Cf
 ·rintro i k y σ H7 hki ⟨u5,u6,u7,u8,kv2,rfl,s7,g7,dc2⟩
  obtain⟨sk,wr,rfl,hGi,rwC⟩:=fnC.atK hki
  have hv:valV kv (.inl (sk:Int))=some y:=CZ ndk (LV hki)
  obtain⟨_,wne⟩:=gr.grp sk wr (LV hGi)
  have wl:=gl.2 sk wr (LV hGi)
  have gti:G.take (i+1)=G.take i++[(sk,wr)]:=by rw[Mx,hGi];rfl
  refine⟨_,rfl,_,rfl,f,y,rfl,.inl ⟨kv,.inl (sk:Int),.inr ⟨o2,s7 _ _ Cf⟩,rfl,hv.symm⟩,y,wr,rfl,rwC.mono s7,wne,by omega,fun u H8 s8 pu=>?_⟩
  have l2:kv2.length<=512:=by rw[dc2.1,LW,MT];omega
  refine⟨_,rfl,_,rfl,g,_,rfl,DPut.k (k:=.inl (sk:Int)) (s8 _ _ g7) (ar (by omega)),?_⟩
  have vn:valV kv2 (.inl (sk:Int))=none:=by
   cases hq:valV kv2 (.inl (sk:Int)) with
   |none=>rfl
   |some z =>
    obtain⟨j,a,hj,_,_⟩:=dc2.val hq
    rw[Mb]at hj
    obtain⟨⟨s',w'⟩,hj',ej⟩:=Ms.mp hj
    have es:s'=sk:=(Prod.mk.inj ej).1
    subst es
    have hji:j<i:=by
     have:=(LR.mp hj').1
     rw[MT]at this
     omega
    rw[Nj,if_pos hji]at hj'
    have n1:(G.map (·.1))[j]?=some s':=by rw[Mb,hj'];rfl
    have n2:(G.map (·.1))[i]?=some s':=by rw[Mb,hGi];rfl
    obtain⟨h1,e1⟩:=LR.mp n1
    obtain⟨h2,e2⟩:=LR.mp n2
    exact absurd (e1.trans e2.symm) (Nm.mp ndG j i h1 h2 hji)
  refine⟨_,_,_,_,_,rfl,aL (s7.trans s8) Cg _,ae,?_⟩
  rw[gti,MD]
  refine DcAt.putN (dc2.imp fun v a q=>(q.mono s8).put2 (s8 _ _ g7) (fun _ z=>by cases z)) vn ?_
  exact pu.put2 (s8 _ _ g7) (fun _ z=>by cases z)
 ·rintro σ H7 ⟨u5,u6,u7,u8,kv2,rfl,s7,g7,dc2⟩
  rw[kvl',MI]at dc2
  refine⟨_,rfl,kk g kv2 G H7 (fun b u n z=>s7 _ _ (HH b u n z)) ?_ g7 gr dc2⟩
  cases y:H g with
  |none=>rfl
  |some u =>
   by_cases n:g=d
   ·rw[n,s4 _ _ Bd]at hg;cases hg
   ·rw[s4 _ _ (HB g u n y)]at hg;cases hg
end
end K8
namespace K8
open PySem L2
local macro_rules | `(tactic| walk_at "cc") => `(tactic| first | exact ⟨by decide, by decide⟩ | (show (0 : Int) < _; decide) | (show (0 : Int) < _; omega) | (show (0 : Int) ≤ _; omega) | exact ⟨by decide, by decide, by decide⟩ | exact ⟨by omega, by omega, by decide⟩ | exact Or.inl ⟨by decide, by decide⟩ | exact Or.inl ⟨by omega, by omega⟩)
local macro_rules | `(tactic| walk_at "rd") => `(tactic| repeat (first | refine ⟨_, rfl, ?_⟩ | refine ⟨_, _, rfl, rfl, ?_⟩ | refine ⟨rfl, ?_⟩ | (refine ⟨?cc, ?_⟩; (case cc => walk_at "cc"))))
structure TxtW(mg:Str->Option Value):Prop extends Txt mg where
 wide:∃ t,mg "WIDEST" = some (.int 8 t)
namespace K2
def S:List Nat->Nat
 |[]=>0
 |p::r=>2^p+S r
theorem add_bit{n p:Nat}(h:n.testBit p=false)(i:Nat):(n+2^p).testBit i=(n.testBit i||decide (i=p)):=by
 have e:n+2^p=n|||2^p:=by
  have hz:n&&&2^p=0:=by
   apply M1
   intro j
   rw[Nn,MM,M3]
   by_cases hj:p=j
   ·subst hj;simp[h]
   ·simp[hj]
  have q:∀ m k:Nat,(m|||k)+(m&&&k)=m+k:=by
   intro m
   induction m using Nat.strongRecOn with
   |ind m ih =>
    intro n
    by_cases h0:m=0
    ·subst h0;simp
    ·have ih':=ih (m/2) (by omega) (n/2)
     rw[← Nat.or_div_two,← Nat.and_div_two]at ih'
     have o1:=@Nat.or_mod_two_eq_one m n
     have a1:=@Nat.and_mod_two_eq_one m n
     omega
  have:=q n (2^p)
  rw[hz]at this
  omega
 rw[e,M8,MM]
 congr 1
 exact decide_eq_decide.mpr ⟨fun h=>h.symm,fun h=>h.symm⟩
theorem S_bit:∀{D:List Nat},D.Nodup->∀ i,(S D).testBit i=decide (i∈D)
 |[],_,i=>by simp[S]
 |p::r,nd,i=>by
  have ⟨h1,h2⟩:=Mo.mp nd
  have hp:(S r).testBit p=false:=by rw[S_bit h2];exact decide_eq_false h1
  have e:S (p::r)=S r+2^p:=Nat.add_comm _ _
  rw[e,add_bit hp,S_bit h2]
  by_cases a:i=p<;>by_cases b:i∈r<;>simp[a,b]
def bitsF(k n:Nat):List Nat:=if h:n=0 then[] else(if n%2=1 then[k] else[])++bitsF (k+1) (n/2)
termination_by n
decreasing_by omega
theorem bitsF_zero(k:Nat):bitsF k 0 = []:=by rw[bitsF];simp
theorem bitsF_odd{k n:Nat}(h:n%2=1):bitsF k n=k::bitsF (k+1) (n/2):=by
 rw[bitsF,dif_neg (by omega),if_pos h];rfl
theorem bitsF_even{k n:Nat}(h0:n≠0)(h:¬ n%2=1):bitsF k n=bitsF (k+1) (n/2):=by
 rw[bitsF,dif_neg h0,if_neg h];rfl
theorem wU:∀(f n k:Nat),n<=f->∀ p∈bitsF k n,k<=p
 |0,n,k,h=>by
  have z:n=0:=by omega
  subst z;rw[bitsF_zero];intro p hp;cases hp
 |f+1,n,k,h=>by
  intro p hp
  by_cases z:n=0
  ·subst z;rw[bitsF_zero]at hp;cases hp
  ·by_cases o:n%2=1
   ·rw[bitsF_odd o]at hp
    rcases LZ.mp hp with e | hp
    ·omega
    ·have:=wU f (n/2) (k+1) (by omega) p hp;omega
   ·rw[bitsF_even z o]at hp
    have:=wU f (n/2) (k+1) (by omega) p hp;omega
theorem bitsF_sorted:∀(f n k:Nat),n<=f->(bitsF k n).Pairwise (· < ·)
 |0,n,k,h=>by
  have z:n=0:=by omega
  subst z;rw[bitsF_zero];exact Ov
 |f+1,n,k,h=>by
  by_cases z:n=0
  ·subst z;rw[bitsF_zero];exact Ov
  ·by_cases o:n%2=1
   ·rw[bitsF_odd o]
    exact List.Pairwise.cons (fun p hp=>wU f (n/2) (k+1) (by omega) p hp) (bitsF_sorted f (n/2) (k+1) (by omega))
   ·rw[bitsF_even z o];exact bitsF_sorted f (n/2) (k+1) (by omega)
theorem bitsF_sum:∀(f n k:Nat),n<=f->S (bitsF k n)=n*2^k
 |0,n,k,h=>by
  have z:n=0:=by omega
  subst z;rw[bitsF_zero];simp[S]
 |f+1,n,k,h=>by
  by_cases z:n=0
  ·subst z;rw[bitsF_zero];simp[S]
  ·have ih:=bitsF_sum f (n/2) (k+1) (by omega)
   have e:n/2*2^(k+1)=(2*(n/2))*2^k:=by rw[O2,Nat.mul_comm (2^k) 2,← Nat.mul_assoc,Nat.mul_comm (n/2) 2]
   by_cases o:n%2=1
   ·rw[bitsF_odd o]
    show 2^k+S (bitsF (k+1) (n/2))=_
    rw[ih,e]
    have:n=2*(n/2)+1:=by omega
    have e2:n*2^k=(2*(n/2)+1)*2^k:=by rw[← this]
    rw[e2,Nat.add_mul,Nat.one_mul];omega
   ·rw[bitsF_even z o,ih,e]
    have:n=2*(n/2):=by omega
    have e2:n*2^k=(2*(n/2))*2^k:=by rw[← this]
    rw[e2]
theorem bitsF_lt:∀(m n k:Nat),n<2^m->∀ p∈bitsF k n,p<k+m
 |0,n,k,h=>by
  have z:n=0:=by omega
  subst z;rw[bitsF_zero];intro p hp;cases hp
 |m+1,n,k,h=>by
  intro p hp
  have h2:n/2<2^m:=by rw[O2]at h;omega
  by_cases z:n=0
  ·subst z;rw[bitsF_zero]at hp;cases hp
  ·by_cases o:n%2=1
   ·rw[bitsF_odd o]at hp
    rcases LZ.mp hp with e | hp
    ·omega
    ·have:=bitsF_lt m (n/2) (k+1) h2 p hp;omega
   ·rw[bitsF_even z o]at hp
    have:=bitsF_lt m (n/2) (k+1) h2 p hp;omega
theorem bitsF_len:∀(m n k:Nat),n<2^m->(bitsF k n).length<=m
 |0,n,k,h=>by
  have z:n=0:=by omega
  subst z;rw[bitsF_zero];exact Ma _
 |m+1,n,k,h=>by
  have h2:n/2<2^m:=by rw[O2]at h;omega
  by_cases z:n=0
  ·subst z;rw[bitsF_zero];exact Na _
  ·by_cases o:n%2=1
   ·rw[bitsF_odd o]
    have:=bitsF_len m (n/2) (k+1) h2
    show _+1<=_
    omega
   ·rw[bitsF_even z o]
    have:=bitsF_len m (n/2) (k+1) h2
    omega
theorem nodup_of_lt{l:List Nat}(h:l.Pairwise (· < ·)):l.Nodup:=h.imp fun h=>ME h
end K2
theorem HK:∀{a b:List Nat},a.Pairwise (· < ·)->b.Pairwise (· < ·)->(∀ x,x∈a↔x∈b)->a=b
 |[],[],_,_,_=>rfl
 |[],y::b,_,_,h=>absurd ((h y).mpr (by simp)) (by simp)
 |x::a,[],_,_,h=>absurd ((h x).mp (by simp)) (by simp)
 |x::a,y::b,ha,hb,h=>by
  obtain⟨a1,a2⟩:=Oj.mp ha
  obtain⟨b1,b2⟩:=Oj.mp hb
  have e:x=y:=by
   have h1:=(h x).mp (by simp)
   have h2:=(h y).mpr (by simp)
   rcases LZ.mp h1 with z | z
   ·exact z
   ·rcases LZ.mp h2 with z2 | z2
    ·exact z2.symm
    ·have:=b1 _ z
     have:=a1 _ z2
     omega
  subst e
  rw[HK a2 b2 fun z=>?_]
  constructor
  ·intro hz
   rcases LZ.mp ((h z).mp (Ml _ hz))with q | q
   ·have:=a1 _ hz;omega
   ·exact q
  ·intro hz
   rcases LZ.mp ((h z).mpr (Ml _ hz))with q | q
   ·have:=b1 _ hz;omega
   ·exact q
theorem Jo{M m:Nat}(h:M<2^m):K2.bitsF 0 M=(MH m).filter fun p=>M.testBit p:=by
 have s1:=K2.bitsF_sorted M M 0 (Ma _)
 have e:K2.S (K2.bitsF 0 M)=M:=by
  have:=K2.bitsF_sum M M 0 (Ma _)
  rw[this,Nat.pow_zero,Nat.mul_one]
 refine HK s1 (List.pairwise_lt_range.filter _) fun x=>?_
 have b:=K2.S_bit (K2.nodup_of_lt s1) x
 rw[e]at b
 rw[Ni,MK,b,decide_eq_true_iff]
 constructor
 ·intro hx
  exact⟨by have:=K2.bitsF_lt m M 0 h x hx;omega,hx⟩
 ·exact fun hx=>hx.2
def Fm:Sp:=fun vs H Q _=>∃ n:Int,vs = [.int n]/\0<=n/\n<1208925819614629174706176/\∀ r H',Same H H'->H r=none->H' r=some (.lst ((K2.bitsF 0 n.toNat).map iV))->Q (.ref r) H'
section
variable{P:Program}{w:World}{K:LU}{mg:Str->Option Value}{base:Heap}
theorem mR:aE ["mask","numbers","number","rest"] ["mask"] (ai tS):=⟨rfl,rfl,rfl,by decide +kernel,rfl,by decide +kernel,by decide +kernel⟩
theorem K5{f:Addr}{fd:FuncData} (F:Fun K "bits" "bits" tS f fd):FnOk P w K mg base CX0 1 f fd ["mask"] Fm:=by
 refine F.ok mR (fun vs H Q E h=>?_) (fun cdv A outer s H vs Q E hr h=>?_)
 ·obtain⟨n,rfl,_⟩:=h
  rfl
 obtain⟨n,rfl,h0,h1,k⟩:=h
 refine⟨_,(af (au (i:=1) mR.nd rfl (Or.inl rfl) (cH ag))
   (af (au (i:=2) mR.nd rfl (Or.inl rfl) ah)
   (af (au (i:=3) mR.nd rfl (Or.inl rfl) (pv 0))
   (af (pN PassesOwn.never (aM FO (pv 3) ah (aR _)) (af (dm (aM jW (ay bD (pv 3) ah) ah (aR _)) (ao (aX (dI Mn Mz My aU (pv 1) (aa (pv 2) ag)))) bc)
   (af (au (i:=3) mR.nd rfl (Or.inl rfl) (ay cQ (pv 3) ah))
   (ao (au (i:=2) mR.nd rfl (Or.inl rfl) (ay b7 (pv 2) ah))))))
   (ao (aO (pv 1))))))),?_⟩
 refine⟨(by show 0<=sizeLine;decide),fun l hl=>?_⟩
 have z80:(2:Nat)^80=1208925819614629174706176:=by decide
 have hlen:(K2.bitsF 0 n.toNat).length<=80:=K2.bitsF_len 80 n.toNat 0 (by omega)
 refine⟨_,rfl,pH (fun σ H2=>∃(kn rn:Nat)(pre:List Nat),σ = [some (.int n),some (.ref l),some (.int (kn:Int)),some (.int (rn:Int))]/\H2 l=some (.lst (pre.map iV))/\pre++K2.bitsF kn rn=K2.bitsF 0 n.toNat/\Same H H2)
  (fun σ _=>match σ with | [_,_,_,some (.int r)]=>r.toNat | _=>0) ⟨0,n.toNat,[],?_,ae,rfl,aj hl _⟩ ?_ ?_⟩
 ·have e:((n.toNat:Nat):Int)=n:=by omega
  rw[e]
  rfl
 ·rintro σ H2 ⟨kn,rn,pre,rfl,hp,hb,hs⟩
  refine⟨_,rfl,_,_,rfl,rfl,_,rfl,?_⟩
  refine ite2 (fun c=>?_) (fun c=>?_)
  ·have c':(0:Int)<(rn:Int):=of_decide_eq_true c
   have d2:((rn:Int)/2)=((rn/2:Nat):Int):=by omega
   have hlp:pre.length<=80:=by
    have:=congrArg List.length hb
    rw[LX]at this
    omega
   walk_at "rd"
   refine ite2 (fun o=>?_) (fun o=>?_)
   ·have o':(rn:Int)%2=1:=V.int.inj (of_decide_eq_true o)
    refine⟨_,rfl,.inl ⟨rfl,_,SqL.of hp⟩,_,rfl,l,_,_,rfl,rfl,hp,ar (by rw[LW];omega),?_⟩
    walk_at "rd"
    refine⟨⟨kn+1,rn/2,pre++[kn],?_,?_,?_,?_⟩,?_⟩
    ·show[some (V.int n),some (V.ref l),some (V.int ((kn:Int)+1)),some (V.int ((rn:Int)/2))]=_
     rw[d2];rfl
    ·rw[ae,MD];rfl
    ·rw[O0,← hb]
     have z:=K2.bitsF_odd (k:=kn) (n:=rn) (by omega)
     rw[z];rfl
    ·exact aL hs hl _
    ·show((rn:Int)/2).toNat<((rn:Nat):Int).toNat
     omega
   ·have o':¬ (rn:Int)%2=1:=fun z=>o (decide_eq_true (congrArg V.int z))
    walk_at "rd"
    refine⟨⟨kn+1,rn/2,pre,?_,hp,?_,hs⟩,?_⟩
    ·show[some (V.int n),some (V.ref l),some (V.int ((kn:Int)+1)),some (V.int ((rn:Int)/2))]=_
     rw[d2];rfl
    ·rw[← hb,K2.bitsF_even (k:=kn) (n:=rn) (by omega) (by omega)]
    ·show((rn:Int)/2).toNat<((rn:Nat):Int).toNat
     omega
  ·have c':¬ (0:Int)<(rn:Int):=fun z=>c (decide_eq_true z)
   have z:rn=0:=by omega
   subst z
   rw[K2.bitsF_zero,NH]at hb
   refine⟨_,rfl,?_⟩
   exact k l H2 hs hl (by rw[hp,hb])
 ·rintro σ H2 Q1 Q2 hi ⟨v,e,i,j,a,b,kk,e2,q⟩
  exact⟨v,e,i,j,a,b,kk,e2,hi _ _ q⟩
end
theorem IA{X:Cx}{x:Str}{n:Int}{pos:Pos}(hg:Gl X x)(hm:∃ t,X.mg x=some (.int n t)) (hd:(x == ("__debug__" : Str))=false:=by decide):PE X (.Name x pos) (tC (.int n)):=by
 obtain⟨t,h⟩:=hm
 exact FK hg h ⟨t,rfl⟩ hd
def bl(c:Nat):List Nat:=K2.bitsF 0 c
theorem JI{M m:Nat}(h:M<2^m):bl M=(MH m).filter fun p=>M.testBit p:=Jo h
theorem Hv{M m x:Nat}(h:M<2^m)(hx:M.testBit x=true):x∈bl M:=by
 rw[JI h]
 refine Ni.mpr ⟨MK.mpr ?_,hx⟩
 rcases Nat.lt_or_ge x m with z | z
 ·exact z
 ·rw[Nx (MF h (NF (by decide) z))]at hx
  cases hx
def Ff:Sp:=fun vs H Q _=>∃ n:Nat,vs = [.int (n:Int)]/\n<2^40/\∀ H',Same H H'->Q (.int (((bl n).length:Nat):Int)) H'
def Fb(K:LU)(TW:Addr):Sp:=fun vs H Q E=>∃(a:Addr)(ms:List Nat),vs = [.ref a]/\SqL K H a (ms.map iV)/\(∀ M∈ms,M<2^40)/\((∃ M∈ms,8<(bl M).length)->∀ H',Same H H'->E (.ref TW) none H')/\((∀ M∈ms,(bl M).length<=8)->∀ H',Same H H'->Q .non H')
def R3At(H:Hp)(v:V)(e:Nat×Pr):Prop:=∃ t,v=.ref t/\H t=some (.tup [.int (e.1:Int),.int e.2.1,.int e.2.2])
theorem R3At.mono{H H':Hp}{v:V}{e:Nat×Pr}(h:R3At H v e)(s:Same H H'):R3At H' v e:=by
 obtain⟨t,a,b⟩:=h
 exact⟨t,a,s _ _ b⟩
structure HU(es:En)(ks:Kn)(od:List Nat)(cnt:Nat)(T:List (Nat×Pr)):Prop where
 up:(T.map (·.1)).Pairwise (· < ·)
 tb:∀ M,bB es (mk (od.take cnt)) M->Tbl (lays (od.take cnt)) M (cstB es (prT es ks) (mk (od.take cnt))) T
def spFT(BO TW PL PS WC:Addr):Sp:=fun vs H Q E=>∃(p:Addr)(m:Nat)(es:En)(ts:List (List Nat))(ks:Kn)(v:V)(ns:List Int)(cnt:Nat),vs = [.ref p,v,.int (cnt:Int)]/\WebT PL PS WC H p m es ts ks/\ks.length=es.length/\bt m es ts/\es.length<=100/\m<=40/\Told m v H ns/\cnt=m /\
 (¬ ns.Perm (rI m)->∀ H',Same H H'->E (.ref BO) none H') /\
 (∀ od:List Nat,ns=cI od->ns.Perm (rI m)->∀ ms,fy es od ms->(∃ M∈ms.take (cnt+1),8<(bl M).length)->∀ H',Same H H'->E (.ref TW) none H') /\
 (∀ od:List Nat,ns=cI od->ns.Perm (rI m)->∀ ms,fy es od ms->(∀ M∈ms.take (cnt+1),(bl M).length<=8)->∀ q rows T H',Same H H'->H' q=some (.lst rows)->LsAt R3At H' rows T->HU es ks od cnt T->Q (.ref q) H')
theorem Jk(xs:List V):cutV xs (some 1) none=xs.drop 1:=by
 unfold cutV
 have q:=HT.sIx_nat xs.length 0 1
 rw[show((1:Nat):Int)=(1:Int) from rfl]at q
 rw[q,HT.sIx_none]
 rw[MY (by rw[Np];omega)]
 by_cases h:1<=xs.length
 ·rw[Oe h]
 ·have e:xs = []:=NY.mp (by omega)
  subst e
  rfl
theorem cut_to(xs:List V)(k:Nat):cutV xs none (some (k:Int))=xs.take k:=by
 unfold cutV
 rw[HT.sIx_nat,HT.sIx_none,List.drop_zero,Nat.sub_zero]
 by_cases h:k<=xs.length
 ·rw[Oe h]
 ·rw[Nat.min_eq_right (by omega),MI,MY (by omega)]
theorem GU{es:En}{od:List Nat}{m M:Nat}(pm:∀ y,y<m->y∈od)(hbd:∀ e∈es,e.1<m/\e.2<m)(f:bB es (mk od) M):M=0:=M1 fun x=>by
 rw[f x,M3]
 cases c:(mk od).testBit x with
 |false=>rfl
 |true =>
  rw[OU]
  cases q:es.any (atF (mk od) x) with
  |false=>rfl
  |true =>
   obtain⟨e,he,ha⟩:=NB.mp q
   have all:∀ y,y<m->(mk od).testBit y=true:=fun y hy=>by
    rw[cJ]
    exact decide_eq_true (pm y hy)
   obtain⟨b1,b2⟩:=hbd e he
   unfold atF at ha
   rw[all _ b1,all _ b2]at ha
   simp at ha
theorem Dm{es:En}{l:List Nat}{M m:Nat}(h:bB es (mk l) M)(hl:∀ x∈l,x<m):M<2^m:=by
 refine Pc M fun x hx=>?_
 rw[h x,cJ]
 have:¬ x∈l:=fun z=>by have:=hl x z;omega
 rw[decide_eq_false this]
 rfl
section
variable{P:Program}{w:World}{K:LU}{mg:Str->Option Value}{base:Heap}
theorem Kv:aE ["mask"] ["mask"] (ai tQ):=⟨rfl,rfl,rfl,by decide +kernel,rfl,by decide +kernel,by decide +kernel⟩
theorem KW{f f1:Addr}{fd fd1:FuncData} (F:Fun K "ones" "ones" tQ f fd) (T:Txt mg) (G_bits:Cal P w K mg base 1 "bits" ["mask"] Fm f1 fd1):FnOk P w K mg base CX0 2 f fd ["mask"] Ff:=by
 refine F.ok Kv (fun vs H Q E h=>?_) (fun cdv A outer s H vs Q E hr h=>?_)
 ·obtain⟨n,rfl,_⟩:=h
  rfl
 obtain⟨n,rfl,hn,kk⟩:=h
 have e40:(2:Nat)^40=1099511627776:=by decide
 refine⟨_,(ao (aO (az aw (by rfl) T.n_len bF (aa (aF G_bits.ok (hr.mono (by decide)) rfl G_bits.mg G_bits.kp G_bits.bn .nil aW (aa (pv 0) ag)) ag)))),?_⟩
 refine⟨_,rfl,_,rfl,by omega,by omega,fun r H1 s1 _ hr1=>?_⟩
 refine⟨r,_,rfl,.inl (SqL.of hr1),?_⟩
 rw[LW,Mv]
 exact kk _ s1
theorem j7:aE ["found","front"] ["found"] (ai bY):=⟨rfl,rfl,rfl,by decide +kernel,rfl,by decide +kernel,by decide +kernel⟩
theorem KR{f f1 TW:Addr}{fd fd1:FuncData} (F:Fun K "refuse_wide" "refuse_wide" bY f fd) (T:TxtW mg) (X_TooWide:ErrC K mg "TooWide" TW) (G_ones:Cal P w K mg base 2 "ones" ["mask"] Ff f1 fd1):FnOk P w K mg base (CXr P w) 3 f fd ["found"] (Fb K TW):=by
 refine F.okX j7 (fun vs H Q E h=>?_) (fun cdv A outer s H vs Q E hr h=>?_)
 ·obtain⟨a,ms,rfl,_⟩:=h
  rfl
 obtain⟨a,ms,rfl,hS,h40,kb,kk⟩:=h
 refine⟨_,(ao (bC PassesOwn.leaving rfl (aV (pv 0)) (aJ (i:=1) j7.nd rfl (Or.inl rfl)) (ao (dm (aM FO (aF G_ones.ok (hr.mono (by decide)) rfl G_ones.mg G_ones.kp G_ones.bn .nil aW (aa (pv 1) ag)) (IA rfl T.wide) (aR _)) (ao (xP X_TooWide.ec X_TooWide.mg rfl j6 rfl rfl (aa Jz ag))) bc)))),?_⟩
 refine⟨_,rfl,a,rfl,⟨_,hS⟩,cn (K:=K) (xs:=ms.map iV) (fun i σ H2=>∃ v1,σ = [some (.ref a),v1]/\Same H H2/\∀ M∈ms.take i,(bl M).length<=8) ⟨_,rfl,fun _ _ z=>z,fun M z=>by cases z⟩ (fun i σ H2 _ ⟨_,_,z,_⟩=>z.seq hS) ?_ ?_⟩
 ·rintro i x σ H2 hx ⟨v1,rfl,s2,al⟩
  rw[Mb]at hx
  obtain⟨M,hM,rfl⟩:=Ms.mp hx
  have mm:=LV hM
  have et:ms.take (i+1)=ms.take i++[M]:=by rw[Mx,hM];rfl
  refine⟨_,rfl,M,rfl,h40 M mm,fun H3 s3=>⟨_,_,rfl,rfl,_,rfl,?_⟩⟩
  refine ite2 (fun c=>?_) (fun c=>?_)
  ·have c':(8:Int)<(((bl M).length:Nat):Int):=of_decide_eq_true c
   exact⟨(by decide:(1:Nat)<=sizeLine),kb ⟨M,mm,by omega⟩ _ (s2.trans s3)⟩
  ·have c':¬ (8:Int)<(((bl M).length:Nat):Int):=fun z=>c (decide_eq_true z)
   refine⟨_,rfl,s2.trans s3,fun N hN=>?_⟩
   rw[et]at hN
   rcases Mc.mp hN with z | z
   ·exact al N z
   ·rw[Mu.mp z];omega
 ·rintro σ H2 ⟨v1,rfl,s2,al⟩
  rw[LW,MI]at al
  exact kk al _ s2
theorem bb:aE ["web","order","count","places","found","entries","place","back","front"] ["web","order","count"] (ai b5):=⟨rfl,rfl,rfl,by decide +kernel,rfl,by decide +kernel,by decide +kernel⟩
theorem ok_ft{f f1 f2 f3 f4 f5 BO TW PL PS WC:Addr}{fd d1 d2 d3 d4 d5:FuncData} (F:Fun K "front_table" "front_table" b5 f fd) (T:TxtW mg) (cw:CW K WC) (G_order_of:CalX P w K mg base 1 "order_of" ["web","order"] (C3 BO WC) f1 d1) (G_fronts:CalX P w K mg base 3 "fronts" ["web","order"] (Km BO PL PS WC) f2 d2)
  (G_refuse_wide:CalX P w K mg base 3 "refuse_wide" ["found"] (Fb K TW) f3 d3) (G_ties_back:Cal P w K mg base 2 "ties_back" ["web","order"] (Fn PL PS WC) f4 d4) (G_entries_behind:Cal P w K mg base 4 "entries_behind" ["entries","place","ties","front"] (Kp PL PS) f5 d5) :
  FnOk P w K mg base (CXr P w) 5 f fd ["web","order","count"] (spFT BO TW PL PS WC):=by
 refine F.okX bb (fun vs H Q E h=>?_) (fun cdv A outer s H vs Q E hr h=>?_)
 ·obtain⟨p,m,es,ts,ks,v,ns,cnt,rfl,_⟩:=h
  rfl
 obtain⟨p,m,es,ts,ks,v,ns,cnt,rfl,wt,kl,tn,e100,m40,td,cm',kb,kw,kk⟩:=h
 have cm:cnt<=m:=Nat.le_of_eq cm'
 have hu:=GG hr
 obtain⟨dx,fs,q1,xs,q3,z3,hp,lm,l1,h1,tk,l3,h3,rw3⟩:=id wt
 have hbd:∀ e∈es,e.1<m/\e.2<m:=fun e he=>⟨(tn.ends e he).1,(tn.ends e he).2.1⟩
 have hxl:xs.length=es.length:=tk.1
 refine⟨_,(af (au (i:=3) bb.nd rfl (Or.inl rfl) (fD G_order_of.ok (hr.mono (by decide)) rfl G_order_of.mg G_order_of.kp G_order_of.bn .nil j6 rfl (aa (pv 0) (aa (pv 1) ag))))
   (af (au (i:=4) bb.nd rfl (Or.inl rfl) (pO uN (fD G_fronts.ok (hr.mono (by decide)) rfl G_fronts.mg G_fronts.kp G_fronts.bn .nil j6 rfl (aa (pv 0) (aa (pv 3) ag))) u4 (uZ (ay b7 (pv 2) ah))))
   (af (aX (fD G_refuse_wide.ok (hr.mono (by decide)) rfl G_refuse_wide.mg G_refuse_wide.kp G_refuse_wide.bn .nil j6 rfl (aa (pv 4) ag)))
   (af (au (i:=5) bb.nd rfl (Or.inr rfl) (KP (Iw ah (b9 (aa ah (aa ah ag))) KG) rfl rfl (fun z=>by cases z) (by decide)))
   (af (bC PassesOwn.leaving rfl (KL rfl T.n_zip (aa (pv 3) (aa (aF G_ties_back.ok (hr.mono (by decide)) rfl G_ties_back.mg G_ties_back.kp G_ties_back.bn .nil aW (aa (pv 0) (aa (pv 3) ag))) (aa (pO uN (pv 4) (uZ ah) u4) ag)))) (qg rfl (bG (aJ (i:=6) bb.nd rfl (Or.inl rfl)) (bG (aJ (i:=7) bb.nd rfl (Or.inl rfl)) (bG (aJ (i:=8) bb.nd rfl (Or.inl rfl)) kr)))) (ao (au (i:=5) bb.nd rfl (Or.inr rfl) (aF G_entries_behind.ok (hr.mono (by decide)) rfl G_entries_behind.mg G_entries_behind.kp G_entries_behind.bn .nil aW (aa (pv 5) (aa (pv 6) (aa (dH rfl (fr:=[("web",0)]) (by exact bK.one (by rfl) (by decide +kernel) (by rfl) (by decide +kernel) (by rfl) (by decide +kernel) (by rfl) (by rfl) (by decide +kernel) (by rfl)) (aV (pv 7)) (fun C ex s H=>(aD (gX (K:=K) rfl) (vi (K:=K) rfl (pv 1) rfl) (pv 0) (fun _ _=>rfl)))) (aa (pv 8) ag))))))))
   (ao (aO (dH rfl (fr:=[("entries",5)]) (by exact bK.one (by rfl) (by decide +kernel) (by rfl) (by decide +kernel) (by rfl) (by decide +kernel) (by rfl) (by rfl) (by decide +kernel) (by rfl)) (aV (az (EF rfl) (by rfl) T.n_sorted rh (aa (pv 5) ag))) (fun C ex s H=>(b9 (aa (pv 0) (aa (aD (kW (K:=K) rfl) (qi hu (pv 1) (pv 0) (fun _ _=>rfl)) ah (fun _ _=>rfl)) (aa (aD (kW (K:=K) rfl) (qi hu (pv 1) (pv 0) (fun _ _=>rfl)) ah (fun _ _=>rfl)) ag))))))))))))),?_⟩
 refine⟨_,rfl,_,rfl,p,dx,fs,m,v,ns,rfl,hp,lm,m40,td,fun z H' s'=>kb z _ s',fun pm q H1 s1 nq hq=>?_⟩
 obtain⟨od,rfl,ob⟩:=C9 pm
 have ol:(cI od).length=od.length:=by unfold cI;rw[LW]
 have om:od.length=m:=by
  have:=pm.length_eq
  unfold rI at this
  rwa[ol,LW,M6]at this
 have ond:od.Nodup:=by
  have:(cI od).Nodup:=pm.nodup_iff.mpr (by
   unfold rI
   exact N9.map _ (fun a b h e=>h (by omega)) NK)
  unfold cI at this
  exact(OX.mp this).imp fun h e=>h (by rw[e])
 refine⟨_,rfl,_,rfl,p,m,es,ts,ks,.ref q,cI od,rfl,wt.mono s1,kl,hbd,m40,.inr ⟨q,rfl,hq,by omega⟩,fun z=>absurd pm z,fun od' eo _ q2 ms H2 s2 hq2 fr=>?_⟩
 have eod:od'=od:=by
  have:cI od'=cI od:=eo.symm
  unfold cI at this
  exact(List.map_inj_right (fun a b e=>by omega)).mp this
 subst eod
 have s12:=s1.trans s2
 refine⟨_,rfl,_,_,rfl,rfl,_,rfl,q2,_,rfl,SqL.of hq2,fun q4 hq4=>?_⟩
 rw[show((cnt:Nat):Int)+1=((cnt+1:Nat):Int) by omega,cut_to,← OR]
 have s4:=aj hq4 (.lst ((ms.take (cnt+1)).map iV))
 have s14:=s12.trans s4
 have mlt:∀ k M,ms[k]?=some M->M<2^40:=fun k M e=>MF (Dm (fr.2 k M e) (m:=m) fun x hx=>ob x (NQ hx)) (NF (by decide) m40)
 have h4:(upd H2 q4 (.lst ((ms.take (cnt+1)).map iV))) q4=some (.lst ((ms.take (cnt+1)).map iV)):=ae
 generalize upd H2 q4 (.lst ((ms.take (cnt+1)).map iV))=H4 at s4 s14 h4
 refine⟨_,rfl,q4,ms.take (cnt+1),rfl,SqL.of h4,fun M hM=>?_,fun z H' s'=>kw od' rfl pm ms fr z _ (s14.trans s'),fun nw H5 s5=>?_⟩
 ·obtain⟨k,hk⟩:=Nr (NQ hM)
  exact mlt k M hk
 have s15:=s14.trans s5
 have h45:=s5 _ _ h4
 have hq5:H5 q=some (.lst ((cI od').map V.int)):=((s2.trans s4).trans s5) _ _ hq
 intro d hd
 refine⟨(by show 2<=sizeLine;decide),fun t ht=>?_⟩
 have z1:=aj hd (.dK [])
 have z2:=aj ht (.tup [.int 0,.int 1])
 have dt:d≠t:=fun z=>by rw[← z,ae]at ht;cases ht
 refine⟨by rw[aq dt];exact ae,[(.inl ((0:Nat):Int),.ref t)],rfl,(by show 1<=15;decide),?_⟩
 rw[show tW ([]:List (Key×V)) [(.inl ((0:Nat):Int),.ref t)] = [(.inl ((0:Nat):Int),.ref t)] from rfl]
 have s6:Same H5 (upd (upd (upd H5 d (.dK [])) t (.tup [.int 0,.int 1])) d (.dK [(.inl ((0:Nat):Int),.ref t)])):=aL (z1.trans z2) hd _
 have h6:(upd (upd (upd H5 d (.dK [])) t (.tup [.int 0,.int 1])) d (.dK [(.inl ((0:Nat):Int),.ref t)])) d=some (.dK [(.inl ((0:Nat):Int),.ref t)]):=ae
 have t6:(upd (upd (upd H5 d (.dK [])) t (.tup [.int 0,.int 1])) d (.dK [(.inl ((0:Nat):Int),.ref t)])) t=some (.tup [.int 0,.int 1]):=by rw[aq (Ne.symm dt)];exact ae
 have dc6:DcAt (PrAt (upd (upd (upd H5 d (.dK [])) t (.tup [.int 0,.int 1])) d (.dK [(.inl ((0:Nat):Int),.ref t)]))) [(.inl ((0:Nat):Int),.ref t)] [(0,((0:Int),(1:Int)))]:=⟨rfl,fun i s a e=>by
  match i,e with
  |0,e=>cases e;exact⟨.ref t,rfl,t,rfl,t6⟩
  |i+1,e=>cases e⟩
 generalize upd (upd (upd H5 d (.dK [])) t (.tup [.int 0,.int 1])) d (.dK [(.inl ((0:Nat):Int),.ref t)])=H6 at s6 h6 dc6
 clear t6 z1 z2
 have s16:=s15.trans s6
 refine⟨_,rfl,_,rfl,_,rfl,p,q,m,es,ts,ks,od',rfl,wt.mono s16,kl,tn,m40,e100,s6 _ _ hq5,ob,by omega,fun q7 zs H7 s7 hq7 rb=>?_⟩
 refine⟨_,rfl,_,rfl,q4,_,rfl,SqL.of ((s6.trans s7) _ _ h45),fun q8 hq8=>?_⟩
 rw[Jk,← OS]
 have s8:=aj hq8 (.lst (((ms.take (cnt+1)).drop 1).map iV))
 have h8:(upd H7 q8 (.lst (((ms.take (cnt+1)).drop 1).map iV))) q8=some (.lst (((ms.take (cnt+1)).drop 1).map iV)):=ae
 have s68:=(s6.trans s7).trans s8
 have hd8:=(s7.trans s8) _ _ h6
 have dc8:DcAt (PrAt (upd H7 q8 (.lst (((ms.take (cnt+1)).drop 1).map iV)))) [(.inl ((0:Nat):Int),.ref t)] [(0,((0:Int),(1:Int)))]:=dc6.imp fun v a q=>q.mono (s7.trans s8)
 have hq8':=s8 _ _ hq7
 have rb8:=rb.mono s8
 generalize upd H7 q8 (.lst (((ms.take (cnt+1)).drop 1).map iV))=H8 at s8 h8 s68 hd8 dc8 hq8' rb8
 have msl:ms.length=m+1:=by rw[fr.1,om]
 have zl:(((ms.take (cnt+1)).drop 1).map iV).length=cnt:=by rw[LW,Np,MT];omega
 have zsl:zs.length=m:=by rw[rb.1];unfold dS;rw[LW,M6,om]
 have F8:∀ M,M∈ms.take (cnt+1)->(bl M).length<=8:=nw
 obtain⟨C,hC⟩:∃ C:Hp,C=fun b=>if b=d then none else H8 b:=⟨_,rfl⟩
 have CH:∀ b u,b≠d->H8 b=some u->C b=some u:=fun b u n z=>by rw[hC];show(if b=d then none else H8 b)=_;rw[if_neg n];exact z
 have Cd:C d=none:=by rw[hC];show(if d=d then none else H8 d)=_;rw[if_pos rfl]
 have sC:Same C H8:=fun b u z=>by
  rw[hC]at z
  have z':(if b=d then none else H8 b)=some u:=z
  by_cases n:b=d
  ·rw[if_pos n]at z';cases z'
  ·rw[if_neg n]at z';exact z'
 have s5C:Same H5 C:=fun b u z=>CH b u (aB z hd) (s68 _ _ z)
 have nl:∀{b:Addr}{ys:List V},H8 b=some (.lst ys)->b≠d:=fun{b ys} z y=>by rw[y,hd8]at z;cases z
 have C8:=CH _ _ (nl h8) h8
 have Cq7:=CH _ _ (nl hq8') hq8'
 have Cq:=s5C _ _ hq5
 have rbC:bI C zs (dS es ts od' od'.length):=⟨rb8.1,fun i l e=>by
  obtain⟨a,a1,a2⟩:=rb8.2 i l e
  exact⟨a,a1,CH _ _ (nl a2) a2⟩⟩
 have wtC:=wt.mono (s15.trans s5C)
 have tkC:=tk.mono (s15.trans s5C)
 have hpC:=(s15.trans s5C) _ _ hp
 have h1C:=(s15.trans s5C) _ _ h1
 refine⟨q,q7,q8,rfl,⟨_,SqL.of (s68 _ _ hq5)⟩,⟨_,SqL.of hq8'⟩,⟨_,SqL.of h8⟩,Jf (K:=K) (xs:=(cI od').map V.int) (ys:=zs) (zs:=((ms.take (cnt+1)).drop 1).map iV) cnt (fun i σ H9=>∃ v6 v7 v8 d9 kv T9,σ = [some (.ref p),some v,some (.int (cnt:Int)),some (.ref q),some (.ref q4),some (.ref d9),v6,v7,v8]/\Same C H9/\C d9=none/\H9 d9=some (.dK kv)/\DcAt (PrAt H9) kv T9/\(∀ M,bB es (mk (od'.take i)) M->Tbl (lays (od'.take i)) M (cstB es (prT es ks) (mk (od'.take i))) T9)) ⟨_,_,_,d,_,[(0,(0,1))],rfl,sC,Cd,hd8,dc8,fun M hM=>?_⟩ (by rw[LW];omega) (by omega) zl (fun i σ H9 _ ⟨_,_,_,_,_,_,_,z,_⟩=>⟨SqL.of (z _ _ Cq),SqL.of (z _ _ Cq7),SqL.of (z _ _ C8)⟩) ?_ ?_⟩
 ·have e0:M=0:=bB.one hM (GX es)
  rw[e0,Oo]
  exact Kb es (prT es ks)
 ·rintro i x y z σ H9 T9' hx hy hz ⟨v6,v7,v8,d9,kv,T9,rfl,s9,nd9,hd9,dc9,tb9⟩ hT
  rw[Mb]at hx hz
  obtain⟨x',hx',rfl⟩:=Ms.mp hx
  obtain⟨F',hF',rfl⟩:=Ms.mp hz
  unfold cI at hx'
  rw[Mb]at hx'
  obtain⟨pl,hpl,rfl⟩:=Ms.mp hx'
  have hi:i<cnt:=by
   have:=(LR.mp hF').1
   rw[Np,MT]at this
   omega
  rw[List.getElem?_drop]at hF'
  have hFm:ms[i+1]?=some F':=by
   rw[Nj]at hF'
   rw[if_pos (by omega)]at hF'
   rw[Nat.add_comm]
   exact hF'
  have hb:=ob pl (LV hpl)
  have et:od'.take (i+1)=od'.take i++[pl]:=by rw[Mx,hpl];rfl
  have gd:od'.getD i 0=pl:=by rw[MN,hpl];rfl
  obtain⟨row,hrow⟩:∃ row,ts[pl]?=some row:=⟨_,LS (by rw[tn.len];exact hb)⟩
  have era:DK ts (od'.getD i 0)=row:=by unfold DK;rw[gd,hrow];rfl
  obtain⟨bk,hbk⟩:∃ bk,bk=jZ es (mk (od'.take (i+1))) row:=⟨_,rfl⟩
  have hbr:(dS es ts od' od'.length)[i]?=some bk:=by
   unfold dS
   rw[Mb,NS (by omega),hbk,← era]
   rfl
  obtain⟨r,r1,r2⟩:=rbC.2 i bk hbr
  rw[hy]at r1
  cases r1
  have fr':bB es (mk (od'.take (i+1))) F':=fr.2 (i+1) F' hFm
  obtain⟨F0,hF0⟩:∃ F0,ms[i]?=some F0:=⟨_,LS (by omega)⟩
  have fr0:bB es (mk (od'.take i)) F0:=fr.2 i F0 hF0
  have tb:=tb9 F0 fr0
  have hpn:pl∉od'.take i:=fun z=>by
   obtain⟨j,hj⟩:=Nr z
   rw[Nj]at hj
   split at hj
   ·rename_i hji
    obtain⟨a1,a2⟩:=LR.mp hj
    obtain⟨b1,b2⟩:=LR.mp hpl
    exact absurd (a2.trans b2.symm) (Nm.mp ond j i a1 b1 hji)
   ·cases hj
  have bl0:(bl F0).length<=8:=F8 F0 (LV (i:=i) (by rw[Nj,if_pos (by omega)];exact hF0))
  have T256:T9.length<=256:=by
   have:=tb.len (qs:=bl F0) fun x hx=>Hv (mlt i F0 hF0) hx
   exact MZ this (MZ (NF (by decide) bl0) (by decide))
  have bkl:bk.length<=100:=by
   have h1:bk.length<=row.length:=by rw[hbk];unfold jZ;exact N6 _ _
   have h2:row.length<=es.length:=by
    refine eY (tn.nd pl row hrow) fun t ht=>?_
    obtain⟨e,he,_⟩:=(tn.mem pl row hrow t).mp ht
    exact(LR.mp he).1
   omega
  have sT:=aj hT (.tup [.int ((pl:Nat):Int),.ref r,iV F'])
  have s9T:=s9.trans sT
  have hd9T:=sT _ _ hd9
  have dc9T:DcAt (PrAt (upd H9 T9' (.tup [.int ((pl:Nat):Int),.ref r,iV F']))) kv T9:=dc9.imp fun v a q=>q.mono sT
  refine⟨T9',_,rfl,SqT.of ae,rfl,_,_,rfl,_,_,rfl,_,_,rfl,rfl,?_⟩
  generalize upd H9 T9' (.tup [.int ((pl:Nat):Int),.ref r,iV F'])=HA at sT s9T hd9T dc9T
  refine⟨_,rfl,_,rfl,_,rfl,r,rfl,⟨_,SqL.of (s9T _ _ r2)⟩,bH (K:=K) (xs:=bk.map iV) (fun j ys HB=>HB=HA/\ui PL PS HA es ks ys (bk.take j)) (MX (ar (by rw[LW];omega))) ⟨rfl,rfl,fun j t e=>by simp at e⟩ (fun j ys HB _ z=>by rw[z.1];exact SqL.of (s9T _ _ r2)) ?_ ?_⟩
  ·rintro j x ys HB hx ⟨rfl,tr⟩
   rw[Mb]at hx
   obtain⟨t,ht,rfl⟩:=Ms.mp hx
   have htm:t∈row:=by
    have:=LV ht
    rw[hbk]at this
    exact(Ni.mp this).1
   obtain⟨e,he,_⟩:=(tn.mem pl row hrow t).mp htm
   obtain⟨k,hk⟩:∃ k,ks[t]?=some k:=⟨_,LS (by have:=(LR.mp he).1;omega)⟩
   obtain⟨p',dx',x1,x2⟩:=(tkC.mono s9T).2 t e k he hk
   refine⟨_,rfl,p,WC,dx,fs,_,rfl,s9T _ _ hpC,cw.cl,cw.n2,l1,_,rfl,q1,xs,_,_,rfl,rfl,SqL.of (s9T _ _ h1C),aG x1,rfl,?_⟩
   refine⟨by rw[LX,tr.1,Mx,ht,LX];rfl,fun n u e2=>?_⟩
   rw[Mx,ht]at e2
   have bl':(bk.take j).length=ys.length:=tr.1.symm
   by_cases hn:n<(bk.take j).length
   ·rw[L0 hn]at e2
    obtain⟨e',k',p2,dx2,y1,y2,y3,y4⟩:=tr.2 n u e2
    exact⟨e',k',p2,dx2,y1,y2,by rw[L0 (by omega)];exact y3,y4⟩
   ·rw[LY (by omega)]at e2
    have e3:n=(bk.take j).length:=by
     have:=(LR.mp e2).1
     rw[show(Option.toList (some t)).length=1 from rfl]at this
     omega
    subst e3
    rw[Mw]at e2
    cases e2
    exact⟨e,k,p',dx',he,hk,by rw[bl',LY (Ma _),Mw];rfl,x2⟩
  rintro ys HB _ ⟨rfl,tr⟩ D hD
  rw[LW,MI]at tr
  have sD:=aj hD (.lst ys)
  have nD:D≠d9:=fun z=>by rw[z,hd9T]at hD;cases hD
  refine⟨_,rfl,d9,D,pl,F',kv,T9,ys,es,ks,bk,rfl,sD _ _ hd9T,dc9T.imp fun v a q=>q.mono sD,tb.nd,T256,by omega,ae,tr.mono sD,bkl,fun g kv2 G HC sX gn gh gr dcG=>?_⟩
  have sCC:Same C HC:=fun b u z=>sX b u (fun y=>by rw[y,nd9]at z;cases z) (sD _ _ (s9T _ _ z))
  refine⟨_,_,_,g,kv2,_,rfl,sCC,?_,gh,dcG,fun M hM=>?_⟩
  ·cases y:C g with
   |none=>rfl
   |some u=>rw[sD _ _ (s9T _ _ y)]at gn;cases gn
  ·have eM:M=F':=bB.one hM fr'
   subst eM
   rw[et]at hM hbk ⊢
   refine Ig (prc:=prcB es ks bk) tb (fun L hL b=>GV fr0 hM hpn hL b) (fun L hL b=>?_) gr
   rw[Hc tn (KD kl) fr0 hpn hL b hrow,← hbk]
   rfl
 rintro σ H9 ⟨v6,v7,v8,d9,kv,T9,rfl,s9,nd9,hd9,dc9,tb9⟩
 obtain⟨Fc,hFc⟩:∃ Fc,ms[cnt]?=some Fc:=⟨_,LS (by omega)⟩
 have frc:bB es (mk (od'.take cnt)) Fc:=fr.2 cnt Fc hFc
 have tbc:=tb9 Fc frc
 have blc:(bl Fc).length<=8:=F8 Fc (LV (i:=cnt) (by rw[Nj,if_pos (by omega)];exact hFc))
 have T256:T9.length<=256:=by
  have:=tbc.len (qs:=bl Fc) fun x hx=>Hv (mlt cnt Fc hFc) hx
  exact MZ this (MZ (NF (by decide) blc) (by decide))
 have ekeys:kv.map (·.1)=(cI (T9.map (·.1))).map Sum.inl:=by
  rw[dc9.keys]
  exact(Nk (l:=T9.map (·.1)) (f:=fun(p:Nat)=>(p:Int)) (g:=(Sum.inl:Int->Key))).symm
 have n64:(cI (T9.map (·.1))).length<64:=by
  have Z:Fc=0:=by
   refine GU (m:=m) (od:=od') (fun y hy=>?_) hbd ?_
   ·have h1:((y:Nat):Int)∈rI m:=by
     unfold rI
     exact Mj.mpr ⟨y,MK.mpr hy,rfl⟩
    have h2:=pm.mem_iff.mpr h1
    unfold cI at h2
    obtain⟨z,hz,e⟩:=Mj.mp h2
    have:z=y:=by omega
    rw[← this]
    exact hz
   ·rw[MY (by omega)]at frc
    exact frc
  have:=tbc.len (qs:=bl Fc) fun x hx=>Hv (mlt cnt Fc hFc) hx
  have z0:(bl Fc).length=0:=by
   rw[Z]
   show(K2.bitsF 0 0).length=0
   rw[K2.bitsF_zero]
   rfl
  rw[z0]at this
  unfold cI
  rw[LW,LW]
  omega
 refine⟨_,rfl,d9,kv,cI (T9.map (·.1)),rfl,.inl hd9,ekeys,n64,fun l out hl pm' so=>?_⟩
 obtain⟨on,rfl⟩:∃ on:List Nat,out=cI on:=by
  refine⟨out.map Int.toNat,?_⟩
  unfold cI
  rw[Nk]
  symm
  refine(Of fun x hx=>?_).trans (List.map_id _)
  have:=pm'.mem_iff.mp hx
  unfold cI at this
  obtain⟨n,_,rfl⟩:=Mj.mp this
  show(((n:Nat):Int).toNat:Int)=(n:Int)
  rfl
 have cI_inj:∀{a b:List Nat},(∀ x,x∈cI a↔x∈cI b)->∀ x,x∈a↔x∈b:=fun{a b} h x=>by
  have q:=h (x:Int)
  unfold cI at q
  constructor
  ·intro hx
   obtain⟨y,hy,e⟩:=Mj.mp (q.mp (Mj.mpr ⟨x,hx,rfl⟩))
   have:y=x:=by omega
   rw[← this];exact hy
  ·intro hx
   obtain⟨y,hy,e⟩:=Mj.mp (q.mpr (Mj.mpr ⟨x,hx,rfl⟩))
   have:y=x:=by omega
   rw[← this];exact hy
 have mem:∀ x,x∈on↔x∈T9.map (·.1):=cI_inj fun x=>pm'.mem_iff
 have onl:on.length<=256:=by
  have:=pm'.length_eq
  unfold cI at this
  rw[LW,LW,LW]at this
  omega
 have onlt:on.Pairwise (· < ·):=by
  have nd':(cI on).Nodup:=pm'.nodup_iff.mpr (by
   unfold cI
   exact N9.map _ (fun a b h e=>h (by omega)) tbc.nd)
  have:=List.Pairwise.and so nd'
  unfold cI at this
  exact(OX.mp this).imp fun h=>by omega
 have sl:=aj hl (.lst ((cI on).map V.int))
 refine⟨l,rfl,⟨_,SqL.of ae⟩,bH (K:=K) (xs:=(cI on).map V.int) (fun i ys HB=>∃ T',Same (upd H9 l (.lst ((cI on).map V.int))) HB/\LsAt R3At HB ys T'/\T'.map (·.1)=on.take i/\∀ e∈T',e∈T9) (MX (ar (by unfold cI;rw[LW,LW];omega))) ⟨[],fun _ _ z=>z,LsAt.nil,rfl,fun e z=>by cases z⟩ (fun i ys HB _ ⟨_,z,_⟩=>SqL.of (z _ _ ae)) ?_ ?_⟩
 ·rintro i x ys HB hx ⟨T',sB,ls,ek,im⟩
  rw[Mb]at hx
  obtain⟨x',hx',rfl⟩:=Ms.mp hx
  unfold cI at hx'
  rw[Mb]at hx'
  obtain⟨sg,hsg',rfl⟩:=Ms.mp hx'
  obtain⟨⟨s',pv⟩,hpv,es'⟩:=Mj.mp ((mem sg).mp (LV hsg'))
  have es'':s'=sg:=es'
  subst es''
  obtain⟨u,hu',tq,rfl,htq⟩:=dc9.get tbc.nd hpv
  have sLB:=sl.trans sB
  refine⟨_,rfl,_,rfl,_,rfl,d9,.ref tq,rfl,.inl ⟨kv,.inl (s':Int),.inl (sLB _ _ hd9),rfl,hu'.symm⟩,tq,_,0,_,rfl,rfl,SqT.of (sLB _ _ htq),at0,_,rfl,_,rfl,d9,.ref tq,rfl,.inl ⟨kv,.inl (s':Int),.inl (sLB _ _ hd9),rfl,hu'.symm⟩,tq,_,1,_,rfl,rfl,SqT.of (sLB _ _ htq),at1,(by show 3<=sizeLine;decide),fun tr htr=>?_⟩
  have sr:=aj htr (.tup [.int (s':Int),.int pv.1,.int pv.2])
  refine⟨T'++[(s',pv)],sB.trans sr,(ls.imp fun y e q=>q.mono sr).snoc ⟨tr,rfl,ae⟩,?_,fun e he=>?_⟩
  ·rw[MD,ek,Mx,hsg'];rfl
  ·rcases Mc.mp he with z | z
   ·exact im e z
   ·rw[Mu.mp z];exact hpv
 ·rintro ys HB _ ⟨T',sB,ls,ek,im⟩ D hD
  have onc:((cI on).map V.int).length=on.length:=by unfold cI;rw[LW,LW]
  rw[onc,MI]at ek
  have sD:=aj hD (.lst ys)
  have sHC:Same H H9:=(s15.trans s5C).trans s9
  refine kk od' rfl pm ms fr nw D ys T' _ (((sHC.trans sl).trans sB).trans sD) ae (ls.imp fun y e q=>q.mono sD) ⟨by rw[ek];exact onlt,fun M hM=>?_⟩
  have eM:M=Fc:=bB.one hM frc
  subst eM
  refine tbc.perm (by rw[ek];exact onlt.imp fun h=>ME h) (fun x hx=>by rw[ek];exact(mem x).mpr hx) im
end
end K8
namespace K8
open PySem L2
local macro_rules | `(tactic| walk_at "cc") => `(tactic| first | exact ⟨by decide, by decide⟩ | (show (0 : Int) < _; decide) | (show (0 : Int) < _; omega) | (show (0 : Int) ≤ _; omega) | exact ⟨by decide, by decide, by decide⟩ | exact ⟨by omega, by omega, by decide⟩ | exact Or.inl ⟨by decide, by decide⟩ | exact Or.inl ⟨by omega, by omega⟩)
local macro_rules | `(tactic| walk_at "rd") => `(tactic| repeat (first | refine ⟨_, rfl, ?_⟩ | refine ⟨_, _, rfl, rfl, ?_⟩ | refine ⟨rfl, ?_⟩ | (refine ⟨?cc, ?_⟩; (case cc => walk_at "cc"))))
theorem vP:∀(n:Nat)(qs:List Nat),qs.length=n->qs.Nodup->(lays qs).Nodup
 |0,qs,hn,_=>by
  rw[NY.mp hn]
  decide
 |n+1,qs,hn,nd=>by
  have ne:qs≠[]:=fun e=>by rw[e]at hn;cases hn
  have eq:qs.dropLast++[qs.getLast ne]=qs:=O4 ne
  generalize qs.getLast ne=q at eq
  have hl:qs.dropLast.length=n:=by rw[List.length_dropLast,hn];rfl
  generalize qs.dropLast=r at eq hl
  subst eq
  rw[Mt]at nd
  have ih:=vP n r hl nd.1
  have nq:∀ L∈lays r,L.testBit q=false:=fun L hL=>by
   cases z:L.testBit q with
   |false=>rfl
   |true=>exact absurd rfl (nd.2.2 q (pS hL z) q (Mu.mpr rfl))
  rw[iS,Mt]
  refine⟨ih,?_,fun a ha b hb e=>?_⟩
  ·refine OX.mpr (List.Pairwise.imp_of_mem (fun{a b} ha hb hne e=>?_) ih)
   exact hne (M1 fun x=>by
    have:=congrArg (fun z=>z.testBit x) e
    simp only[M8,MM]at this
    by_cases hx:q=x
    ·subst hx;rw[nq a ha,nq b hb]
    ·simpa[hx] using this)
  ·obtain⟨L,hL,rfl⟩:=Mj.mp hb
   have h1:=nq a ha
   rw[e,M8,MM]at h1
   simp at h1
end K8
namespace K8
open PySem L2
local macro_rules | `(tactic| walk_at "cc") => `(tactic| first | exact ⟨by decide, by decide⟩ | (show (0 : Int) < _; decide) | (show (0 : Int) < _; omega) | (show (0 : Int) ≤ _; omega) | exact ⟨by decide, by decide, by decide⟩ | exact ⟨by omega, by omega, by decide⟩ | exact Or.inl ⟨by decide, by decide⟩ | exact Or.inl ⟨by omega, by omega⟩)
local macro_rules | `(tactic| walk_at "rd") => `(tactic| repeat (first | refine ⟨_, rfl, ?_⟩ | refine ⟨_, _, rfl, rfl, ?_⟩ | refine ⟨rfl, ?_⟩ | (refine ⟨?cc, ?_⟩; (case cc => walk_at "cc"))))
theorem JK{n p:Nat}(h:n.testBit p=false):n+2^p=n|||2^p:=by
 apply M1
 intro i
 rw[K2.add_bit h,M8,MM]
 by_cases e:i=p
 ·subst e;simp
 ·have:¬ p=i:=fun z=>e z.symm
  simp[e,this]
theorem bitD(N p:Nat):((N:Int)/2^((p:Nat):Int).toNat)%2=if N.testBit p=true then 1 else 0:=by
 have:=bitN N p
 unfold bit at this
 exact this
theorem Fy{es:En}{ks:Kn}{t L:Nat}{e:Nat×Nat}{k:Int×Int}(he:es[t]?=some e)(hk:ks[t]?=some k)(h01:k.1=0∨k.1=1):prT es ks t L=if((L:Int)/2^((e.1:Nat):Int).toNat+(L:Int)/2^((e.2:Nat):Int).toNat+k.1)%2=1 then k.2 else 0:=by
 have hs:stg ks t=k.2:=by unfold stg;rw[hk]
 unfold prT
 rw[U_at he hk,hs]
 have b1:=bitD L e.1
 have b2:=bitD L e.2
 have key:(unp (decide (k.1=1)) (e.1:Int) (e.2:Int) (L:Int)=true)↔((L:Int)/2^((e.1:Nat):Int).toNat+(L:Int)/2^((e.2:Nat):Int).toNat+k.1)%2=1:=by
  unfold unp bit
  generalize (L:Int)/2^((e.1:Nat):Int).toNat=x at b1 ⊢
  generalize (L:Int)/2^((e.2:Nat):Int).toNat=y at b2 ⊢
  rcases h01 with z | z
  ·rw[z,decide_eq_false (show ¬ ((0:Int)=1) by decide)]
   show(!decide (V.int ((x%2+y%2)%2)=V.int 0))=true↔_
   by_cases c:(x%2+y%2)%2=0
   ·rw[decide_eq_true (congrArg V.int c)]
    constructor
    ·intro q;cases q
    ·intro q;omega
   ·rw[decide_eq_false (fun q=>c (V.int.inj q))]
    constructor
    ·intro _;omega
    ·intro _;rfl
  ·rw[z,decide_eq_true (show((1:Int)=1) from rfl)]
   show(!decide (V.int ((x%2+y%2)%2)=V.int 1))=true↔_
   by_cases c:(x%2+y%2)%2=1
   ·rw[decide_eq_true (congrArg V.int c)]
    constructor
    ·intro q;cases q
    ·intro q;omega
   ·rw[decide_eq_false (fun q=>c (V.int.inj q))]
    constructor
    ·intro _;omega
    ·intro _;rfl
 by_cases c:unp (decide (k.1=1)) (e.1:Int) (e.2:Int) (L:Int)=true
 ·rw[if_pos c,if_pos (key.mp c)]
 ·rw[if_neg c,if_neg fun z=>c (key.mpr z)]
section
variable{P:Program}{w:World}{K:LU}{mg:Str->Option Value}{base:Heap}
end
end K8
namespace K8
open PySem L2
local macro_rules | `(tactic| walk_at "cc") => `(tactic| first | exact ⟨by decide, by decide⟩ | (show (0 : Int) < _; decide) | (show (0 : Int) < _; omega) | (show (0 : Int) ≤ _; omega) | exact ⟨by decide, by decide, by decide⟩ | exact ⟨by omega, by omega, by decide⟩ | exact Or.inl ⟨by decide, by decide⟩ | exact Or.inl ⟨by omega, by omega⟩)
local macro_rules | `(tactic| walk_at "rd") => `(tactic| repeat (first | refine ⟨_, rfl, ?_⟩ | refine ⟨_, _, rfl, rfl, ?_⟩ | refine ⟨rfl, ?_⟩ | (refine ⟨?cc, ?_⟩; (case cc => walk_at "cc"))))
def spLM(BO TW PL PS WC:Addr):Sp:=fun vs H Q E=>∃(p:Addr)(m:Nat)(es:En)(ts:List (List Nat))(ks:Kn)(v:V)(ns:List Int),vs = [.ref p,v]/\WebT PL PS WC H p m es ts ks/\ks.length=es.length/\bt m es ts/\es.length<=100/\m<=40/\Told m v H ns /\
 (¬ ns.Perm (rI m)->∀ H',Same H H'->E (.ref BO) none H') /\
 (∀ od:List Nat,ns=cI od->ns.Perm (rI m)->∀ ms,fy es od ms->(∃ M∈ms.take (m+1),8<(bl M).length)->∀ H',Same H H'->E (.ref TW) none H') /\
 (∀ od:List Nat,ns=cI od->ns.Perm (rI m)->∀ ms,fy es od ms->(∀ M∈ms.take (m+1),(bl M).length<=8)->∀ u T e H',Same H H'->PrAt H' u e.2->HU es ks od m T->T[0]?=some e->Q u H')
theorem GW{es:En}{od:List Nat}{m M:Nat}(pm:od.Perm (MH m))(hbd:∀ e∈es,e.1<m/\e.2<m)(f:bB es (mk od) M):M=0:=M1 fun x=>by
 rw[f x,M3]
 cases c:(mk od).testBit x with
 |false=>rfl
 |true =>
  rw[OU]
  cases q:es.any (atF (mk od) x) with
  |false=>rfl
  |true =>
   obtain⟨e,he,ha⟩:=NB.mp q
   have all:∀ y,y<m->(mk od).testBit y=true:=fun y hy=>by
    rw[cJ]
    exact decide_eq_true (pm.mem_iff.mpr (MK.mpr hy))
   obtain⟨b1,b2⟩:=hbd e he
   unfold atF at ha
   rw[all _ b1,all _ b2]at ha
   simp at ha
theorem l9(es:En)(od:List Nat):∀ n,∃ M,bB es n M:=fun n=>by
 have go:∀ k,k<=es.length->∃ M,bB (es.take k) n M:=fun k=>by
  induction k with
  |zero=>intro _;exact⟨0,bB.z n⟩
  |succ k ih =>
   intro hk
   obtain⟨M,hM⟩:=ih (by omega)
   obtain⟨e,he⟩:∃ e,es[k]?=some e:=⟨_,LS (by omega)⟩
   have et:es.take (k+1)=es.take k++[e]:=by rw[Mx,he];rfl
   rw[et]
   by_cases c:n.testBit e.1=n.testBit e.2
   ·exact⟨M,hM.skip c⟩
   ·exact⟨_,hM.put c⟩
 have:=go es.length (Ma _)
 rwa[MI]at this
section
variable{P:Program}{w:World}{K:LU}{mg:Str->Option Value}{base:Heap}
theorem at3b{u v x:V}:atI [u,v,x] 1=some v:=rfl
theorem at3c{u v x:V}:atI [u,v,x] 2=some x:=rfl
theorem lS:aE ["web","order","row"] ["web","order"] (ai cB):=⟨rfl,rfl,rfl,by decide +kernel,rfl,by decide +kernel,by decide +kernel⟩
theorem ok_lm{f f1 BO TW PL PS WC:Addr}{fd d1:FuncData} (F:FunD K "least_many" "least_many" cB f fd #[.none]) (cw:CW K WC) (G_front_table:CalX P w K mg base 5 "front_table" ["web","order","count"] (spFT BO TW PL PS WC) f1 d1):FnOk P w K mg base (CXr P w) 6 f fd ["web","order"] (spLM BO TW PL PS WC):=by
 refine F.okX lS (fun vs H Q E h=>?_) (fun cdv A outer s H vs Q E hr h=>?_)
 ·obtain⟨p,m,es,ts,ks,v,ns,rfl,_⟩:=h
  rfl
 obtain⟨p,m,es,ts,ks,v,ns,rfl,wt,kl,tn,e100,m40,td,kb,kw,kk⟩:=h
 obtain⟨dx,fs,_,_,_,_,hp,lm,_⟩:=id wt
 have hbd:∀ e∈es,e.1<m/\e.2<m:=fun e he=>⟨(tn.ends e he).1,(tn.ends e he).2.1⟩
 refine⟨_,(af (au (i:=2) lS.nd rfl (Or.inl rfl) (aD aK (fD G_front_table.ok (hr.mono (by decide)) rfl G_front_table.mg G_front_table.kp G_front_table.bn .nil j6 rfl (aa (pv 0) (aa (pv 1) (aa (cP (pv 0) rfl) ag)))) ah (fun _ _=>rfl)))
   (ao (aO (b9 (aa (aD aI (pv 2) ah (fun _ _=>rfl)) (aa (aD aI (pv 2) ah (fun _ _=>rfl)) ag)))))),?_⟩
 refine⟨_,rfl,_,rfl,_,rfl,p,WC,dx,fs,_,rfl,hp,cw.cl,cw.n1,lm,p,m,es,ts,ks,v,ns,m,rfl,wt,kl,tn,e100,m40,td,rfl,kb,kw,fun od eo pm ms fr nw q rows T H' s' hq ls be=>?_⟩
 subst eo
 obtain⟨M,hM⟩:=l9 es [] (mk (od.take m))
 obtain⟨v0,h0⟩:=(be.tb M hM).has 0 (lQ _ (od.take m) 0 rfl fun x hx=>by rw[M3]at hx;cases hx)
 have tl:0<T.length:=Ny h0
 obtain⟨e,he⟩:∃ e,T[0]?=some e:=⟨_,LS tl⟩
 obtain⟨y,hy,t,rfl,ht⟩:=ls.2 0 e he
 refine⟨q,rows,0,_,rfl,rfl,SqL.of hq,(show atI rows ((0:Nat):Int)=some (.ref t) from aG hy),?_⟩
 refine⟨_,rfl,t,_,1,_,rfl,rfl,SqT.of ht,at3b,_,rfl,t,_,2,_,rfl,rfl,SqT.of ht,at3c,(by show 2<=sizeLine;decide),fun t2 ht2=>?_⟩
 exact kk od rfl pm ms fr nw (.ref t2) T e _ (s'.trans (aj ht2 _)) ⟨t2,rfl,ae⟩ be he
end
def totC(es:En)(ks:Kn)(L:Nat):Int:=sumL (MH es.length) fun t=>prT es ks t L
def AnsC(es:En)(ks:Kn)(m:Nat)(v:Pr):Prop:=Bst (lays (MH m)) (fun _=>True) (totC es ks) v
theorem jD{od:List Nat}{m:Nat}(pm:od.Perm (MH m)){L:Nat}:L∈lays od↔L<2^m:=by
 constructor
 ·intro h
  refine Pc L fun x hx=>?_
  cases z:L.testBit x with
  |false=>rfl
  |true =>
   have:=MK.mp (pm.mem_iff.mp (pS h z))
   omega
 ·intro h
  refine lQ _ od L rfl fun x hx=>pm.mem_iff.mpr (MK.mpr ?_)
  by_cases c:x<m
  ·exact c
  ·have:=Nx (MF h (NF (by decide) (show m<=x by omega)))
   rw[this]at hx
   cases hx
theorem Gd{od:List Nat}{m:Nat}(pm:od.Perm (MH m)):(lays od).Perm (lays (MH m)) :=
 (NP (vP _ od rfl (pm.nodup_iff.mpr NK)) (vP _ _ rfl NK)).mpr fun L=>by rw[jD pm,jD (NR _)]
theorem xu{l r:List Nat}(p:l.Perm r)(f:Nat->Int):sumL l f=sumL r f:=by
 induction p with
 |nil=>rfl
 |cons x _ ih=>rw[aH,aH,ih]
 |swap x y l=>rw[aH,aH,aH,aH];omega
 |trans _ _ a b=>exact a.trans b
theorem Bst.perm{l r:List Nat}{q:Nat->Prop} [DecidablePred q] {f:Nat->Int} {v:Pr} (h:Bst l q f v) (p:l.Perm r):Bst r q f v:=by
 obtain⟨L,a,b,c⟩:=h.ex
 exact⟨⟨L,p.mem_iff.mp a,b,c⟩,fun L hL=>h.lo L (p.mem_iff.mpr hL),by rw[h.ct];exact xu p _⟩
theorem Bst.map{l:List Nat}{f:Nat->Int}{v:Pr}(g:Nat->Nat)(h:Bst l (fun _=>True) (fun L=>f (g L)) v):Bst (l.map g) (fun _=>True) f v:=by
 obtain⟨L,a,b,c⟩:=h.ex
 refine⟨⟨g L,Mj.mpr ⟨L,a,rfl⟩,b,c⟩,fun L hL _=>?_,by rw[h.ct,lP]⟩
 obtain⟨L',a,rfl⟩:=Mj.mp hL
 exact h.lo L' a trivial
theorem uy(a p:Nat):a^^^p^^^p=a:=by rw[Nat.xor_assoc,Nat.xor_self,Nat.xor_zero]
theorem CY{m P:Nat}(hP:P<2^m):((lays (MH m)).map (·^^^P)).Perm (lays (MH m)):=by
 have nd:=vP _ (MH m) rfl NK
 refine(NP (N9.map _ (fun a b h e=>h (by
  have:a^^^P^^^P=b^^^P^^^P:=congrArg (·^^^P) e
  rwa[uy,uy]at this)) nd) nd).mpr fun L=>?_
 ·rw[jD (NR _),Mj]
  constructor
  ·rintro⟨x,hx,rfl⟩
   exact Nat.xor_lt_two_pow ((jD (NR _)).mp hx) hP
  ·intro h
   exact⟨L^^^P,(jD (NR _)).mpr (Nat.xor_lt_two_pow h hP),uy L P⟩
theorem Cr{es:En}{ks:Kn}{od:List Nat}{m:Nat}(pm:od.Perm (MH m))(hbd:∀ e∈es,e.1<m/\e.2<m)(L:Nat):cstB es (prT es ks) (mk od) L=totC es ks L:=by
 unfold cstB totC
 refine aN fun t ht=>?_
 obtain⟨e,he⟩:∃ e,es[t]?=some e:=⟨_,LS (MK.mp ht)⟩
 obtain⟨b1,b2⟩:=hbd e (LV he)
 rw[nA he,cJ,cJ,decide_eq_true (pm.mem_iff.mpr (MK.mpr b1)),decide_eq_true (pm.mem_iff.mpr (MK.mpr b2))]
 rfl
theorem ans_of{es:En}{ks:Kn}{od:List Nat}{m:Nat}{T:List (Nat×Pr)}{e:Nat×Pr}(pm:od.Perm (MH m))(hbd:∀ e∈es,e.1<m/\e.2<m)(be:HU es ks od m T)(he:T[0]?=some e):AnsC es ks m e.2:=by
 have tk:od.take m=od:=MY (by rw[pm.length_eq,M6];exact Ma _)
 obtain⟨M,fr⟩:=l9 es [] (mk (od.take m))
 have b:=(be.tb M fr).bst e.1 e.2 (LV he)
 rw[tk]at fr b
 have M0:=GW pm hbd fr
 subst M0
 have e0:e.1=0:=by
  obtain⟨L,_,h,_⟩:=b.ex
  have h':L&&&0=e.1:=h
  rw[Oi]at h'
  exact h'.symm
 refine Bst.perm (⟨?_,?_,?_⟩:Bst (lays od) (fun _=>True) (totC es ks) e.2) (Gd pm)
 ·obtain⟨L,a,_,c⟩:=b.ex
  exact⟨L,a,trivial,by rw[← Cr pm hbd];exact c⟩
 ·intro L hL _
  rw[← Cr pm hbd]
  exact b.lo L hL (by show L&&&0=e.1;rw[e0,Oi])
 ·rw[b.ct]
  refine aN fun L _=>?_
  rw[Cr pm hbd]
  by_cases c:totC es ks L=e.2.1
  ·rw[if_pos ⟨by rw[e0,Oi],c⟩,if_pos ⟨trivial,c⟩]
  ·rw[if_neg fun z=>c z.2,if_neg fun z=>c z.2]
def Trn(ks ks':Kn)(R:Nat):Prop:=ks'.length=ks.length/\∀(t:Nat)(k:Int×Int),ks[t]?=some k->ks'[t]?=some ((k.1+(if R.testBit t=true then 1 else 0))%2,k.2)
def Rim(es:En)(P R:Nat):Prop:=∀(t:Nat)(e:Nat×Nat),es[t]?=some e->R.testBit t=(P.testBit e.1 != P.testBit e.2)
def K01(ks:Kn):Prop:=∀(t:Nat)(k:Int×Int),ks[t]?=some k->k.1=0∨k.1=1
theorem bx(x p:Bool):(if(x ^^ p)=true then(1:Int) else 0)=((if x=true then 1 else 0)+(if p=true then 1 else 0))%2:=by cases x<;>cases p<;>rfl
theorem bn(x p:Bool):(if(x != p)=true then(1:Int) else 0)=((if x=true then 1 else 0)+(if p=true then 1 else 0))%2:=by cases x<;>cases p<;>rfl
theorem Iu{es:En}{ks ks':Kn}{R P t L:Nat}{e:Nat×Nat}{k:Int×Int}(he:es[t]?=some e)(hk:ks[t]?=some k)(k01:k.1=0∨k.1=1)(hk':ks'[t]?=some ((k.1+(if R.testBit t=true then 1 else 0))%2,k.2))(hR:R.testBit t=(P.testBit e.1 != P.testBit e.2)):prT es ks' t L=prT es ks t (L^^^P):=by
 rw[Fy he hk' (by show(k.1+_)%2=0∨(k.1+_)%2=1;omega),Fy he hk k01]
 have a1:=bitD L e.1
 have a2:=bitD L e.2
 have b1:=bitD (L^^^P) e.1
 have b2:=bitD (L^^^P) e.2
 rw[Oc,bx]at b1 b2
 rw[hR,bn]
 generalize (L:Int)/2^((e.1:Nat):Int).toNat=A at *
 generalize (L:Int)/2^((e.2:Nat):Int).toNat=B at *
 generalize ((L^^^P:Nat):Int)/2^((e.1:Nat):Int).toNat=C at *
 generalize ((L^^^P:Nat):Int)/2^((e.2:Nat):Int).toNat=D at *
 generalize (if L.testBit e.1=true then(1:Int) else 0)=x at *
 generalize (if L.testBit e.2=true then(1:Int) else 0)=y at *
 generalize (if P.testBit e.1=true then(1:Int) else 0)=p at *
 generalize (if P.testBit e.2=true then(1:Int) else 0)=q at *
 have:(A+B+(k.1+(p+q)%2)%2)%2=(C+D+k.1)%2:=by omega
 show(if(A+B+(k.1+(p+q)%2)%2)%2=1 then k.2 else 0)=_
 rw[this]
theorem C1{es:En}{ks ks':Kn}{R P:Nat}(kl:ks.length=es.length)(k01:K01 ks)(h:Trn ks ks' R)(r:Rim es P R)(L:Nat):totC es ks' L=totC es ks (L^^^P):=by
 refine aN fun t ht=>?_
 have ht:=MK.mp ht
 obtain⟨e,he⟩:∃ e,es[t]?=some e:=⟨_,LS ht⟩
 obtain⟨k,hk⟩:∃ k,ks[t]?=some k:=⟨_,LS (by omega)⟩
 exact Iu he hk (k01 t k hk) (h.2 t k hk) (r t e he)
theorem Jq{es:En}{ks ks':Kn}{m R P:Nat}{v:Pr}(kl:ks.length=es.length)(k01:K01 ks)(h:Trn ks ks' R)(r:Rim es P R)(hP:P<2^m)(a:AnsC es ks' m v):AnsC es ks m v:=by
 have e:totC es ks'=fun L=>totC es ks (L^^^P):=funext fun L=>C1 kl k01 h r L
 unfold AnsC at a
 rw[e]at a
 exact(Bst.map (f:=totC es ks) (·^^^P) a).perm (CY hP)
theorem Bst.pos{l:List Nat}{q:Nat->Prop} [DecidablePred q] {f:Nat->Int} {v:Pr} (h:Bst l q f v):1<=v.2:=by
 obtain⟨L,hL,hq,hf⟩:=h.ex
 rw[h.ct]
 have nn:∀ l:List Nat,0<=sumL l fun L=>if q L/\f L=v.1 then(1:Int) else 0:=fun l=>by
  induction l with
  |nil=>exact NT _
  |cons y l ih=>rw[aH];split<;>omega
 have go:∀(l:List Nat),L∈l->1<=sumL l fun L=>if q L/\f L=v.1 then(1:Int) else 0:=fun l=>by
  induction l with
  |nil=>intro h;cases h
  |cons x l ih =>
   intro hm
   rw[aH]
   rcases LZ.mp hm with e | hm
   ·subst e
    rw[if_pos ⟨hq,hf⟩]
    have:=nn l
    omega
   ·have:=ih hm
    split<;>omega
 exact go l hL
theorem E4{es:En}{ks:Kn}{m:Nat}(kl:ks.length=es.length)(k01:K01 ks)(hbd:∀ e∈es,e.1<m/\e.2<m)(L:Nat):totC es ks (L^^^(2^m-1))=totC es ks L:=by
 refine(C1 (R:=0) (ks':=ks) kl k01 ⟨rfl,fun t k hk=>?_⟩ (fun t e he=>?_) L).symm
 ·rw[hk,M3,if_neg Mp,Int.add_zero]
  rcases k01 t k hk with z | z
  ·have:k.1%2=k.1:=by omega
   rw[this]
  ·have:k.1%2=k.1:=by omega
   rw[this]
 ·obtain⟨b1,b2⟩:=hbd e (LV he)
  rw[M3,Nv,Nv,decide_eq_true b1,decide_eq_true b2]
  rfl
theorem Jr{es:En}{ks:Kn}{m:Nat}{v:Pr}(kl:ks.length=es.length)(k01:K01 ks)(hbd:∀ e∈es,e.1<m/\e.2<m)(m0:0<m)(a:AnsC es ks m v):1<v.2/\v.2%2=0:=by
 obtain⟨n,rfl⟩:∃ n,m=n+1:=⟨m-1,by omega⟩
 have pos:=Bst.pos a
 have ct:=a.ct
 rw[List.range_succ,iS,uA,lP]at ct
 have e2:(sumL (lays (MH n)) fun L=>if True/\totC es ks (L|||2^n)=v.1 then(1:Int) else 0)=sumL (lays (MH n)) fun L=>if True/\totC es ks L=v.1 then(1:Int) else 0:=by
  rw[← xu (CY (m:=n) (P:=2^n-1) (by have:=OB n;omega)) (fun L=>if True/\totC es ks L=v.1 then(1:Int) else 0),lP]
  refine aN fun L hL=>?_
  have hL:=(jD (NR _)).mp hL
  have e:(L|||2^n)^^^(2^(n+1)-1)=L^^^(2^n-1):=M1 fun x=>by
   rw[Oc,Oc,M8,MM,Nv,Nv]
   by_cases c:n=x
   ·subst c
    rw[Nx hL,decide_eq_true rfl,decide_eq_true (NA n),decide_eq_false (M7 n)]
    rfl
   ·rw[decide_eq_false c,Oa]
    have:decide (x<n+1)=decide (x<n):=decide_eq_decide.mpr ⟨fun h=>by omega,fun h=>by omega⟩
    rw[this]
  rw[← E4 kl k01 hbd (L|||2^n),e]
 rw[e2]at ct
 omega
theorem ans_nn{es:En}{ks:Kn}{m:Nat}{v:Pr}(k0:∀ (t:Nat) (k:Int×Int),ks[t]?=some k->0<=k.2)(a:AnsC es ks m v):0<=v.1:=by
 obtain⟨L,_,_,h⟩:=a.ex
 rw[← h]
 unfold totC
 have go:∀ l:List Nat,0<=sumL l fun t=>prT es ks t L:=fun l=>by
  induction l with
  |nil=>exact NT _
  |cons t l ih =>
   rw[aH]
   have:0<=prT es ks t L:=by
    unfold prT
    split
    ·unfold stg
     cases z:ks[t]? with
     |none=>exact NT _
     |some k=>exact k0 t k z
    ·exact NT _
   omega
 exact go _
def SpAt(od S:List Nat)(m:Nat):Prop:=S.length=m/\∀ j x:Nat,od[j]?=some x->S[x]?=some j
def LaAt(es:En)(S La:List Nat)(m:Nat):Prop:=La.length=m/\∀ x l:Nat,La[x]?=some l->∀ k,k<=l↔((∃ s,S[x]?=some s/\k<=s)∨∃ e∈es,(e.1=x/\∃ s,S[e.2]?=some s/\k<=s)∨(e.2=x/\∃ s,S[e.1]?=some s/\k<=s))
theorem J1{es:En}{od S La:List Nat}{m k M:Nat}(pm:od.Perm (MH m))(sp:SpAt od S m)(la:LaAt es S La m)(hbd:∀ e∈es,e.1<m/\e.2<m)(fr:bB es (mk (od.take k)) M){x s l:Nat}(hs:S[x]?=some s)(hl:La[x]?=some l):(s<k/\k<=l)↔M.testBit x=true:=by
 have key:∀{y u:Nat},S[y]?=some u->y<m->(y∈od.take k↔u<k):=fun{y u} hy ym=>by
  obtain⟨j,hj⟩:=Nr (pm.mem_iff.mpr (MK.mpr ym))
  have ju:j=u:=by
   have:=sp.2 j y hj
   rw[hy]at this
   exact(Mq this).symm
  subst ju
  constructor
  ·intro h
   obtain⟨i,hi⟩:=Nr h
   rw[Nj]at hi
   split at hi
   ·have:=sp.2 i y hi
    rw[hy]at this
    have:=Mq this
    omega
   ·cases hi
  ·intro h
   exact LV (i:=j) (by rw[Nj,if_pos h];exact hj)
 have xm:x<m:=by rw[← sp.1];exact(LR.mp hs).1
 have at':∀ y,y<m->∃ u,S[y]?=some u:=fun y hy=>⟨_,LS (by rw[sp.1];exact hy)⟩
 rw[fr x,cJ,M9,decide_eq_true_iff,key hs xm,la.2 x l hl k,NB]
 have far:∀{y u:Nat},S[y]?=some u->y<m->((!(mk (od.take k)).testBit y)=true↔k<=u):=fun{y u} hy ym=>by
  rw[cJ,Bool.not_eq_true',decide_eq_false_iff_not,key hy ym]
  omega
 refine and_congr_right fun hk=>⟨fun h=>?_,fun h=>?_⟩
 ·rcases h with⟨u,h1,h2⟩ | ⟨e,he,h⟩
  ·rw[hs]at h1
   have:=Mq h1
   omega
  ·obtain⟨b1,b2⟩:=hbd e he
   refine⟨e,he,?_⟩
   unfold atF
   rcases h with⟨h1,u,h2,h3⟩ | ⟨h1,u,h2,h3⟩
   ·rw[(far h2 b2).mpr h3,h1];simp
   ·rw[(far h2 b1).mpr h3,h1];simp
 ·obtain⟨e,he,h⟩:=h
  obtain⟨b1,b2⟩:=hbd e he
  right
  refine⟨e,he,?_⟩
  unfold atF at h
  rcases OO.mp h with z | z
  ·obtain⟨z1,z2⟩:=M9.mp z
   obtain⟨u,hu⟩:=at' e.2 b2
   exact .inl ⟨by simpa using z1,u,hu,(far hu b2).mp z2⟩
  ·obtain⟨z1,z2⟩:=M9.mp z
   obtain⟨u,hu⟩:=at' e.1 b1
   exact .inr ⟨by simpa using z1,u,hu,(far hu b1).mp z2⟩
theorem Ke(l:List Nat)(c:Nat->Bool):(l.map fun x=>if c x=true then(1:Int) else 0).sum=((l.filter c).length:Nat):=by
 induction l with
 |nil=>rfl
 |cons x l ih =>
  rw[MQ,List.sum_cons,ih,List.filter_cons]
  split
  ·rw[MJ];omega
  ·omega
theorem HW{es:En}{od S La:List Nat}{m k M:Nat}(pm:od.Perm (MH m))(sp:SpAt od S m)(la:LaAt es S La m)(hbd:∀ e∈es,e.1<m/\e.2<m)(fr:bB es (mk (od.take k)) M):(od.filter fun x=>decide (S.getD x 0<k/\k<=La.getD x 0)).length=(bl M).length:=by
 have ob:∀ x∈od,x<m:=fun x hx=>MK.mp (pm.mem_iff.mp hx)
 have lt:M<2^m:=Dm fr fun x hx=>ob x (NQ hx)
 rw[JI lt,(pm.filter _).length_eq]
 congr 1
 refine List.filter_congr fun x hx=>?_
 have hx:=MK.mp hx
 obtain⟨s,hs⟩:∃ s,S[x]?=some s:=⟨_,LS (by rw[sp.1];exact hx)⟩
 obtain⟨l,hl⟩:∃ l,La[x]?=some l:=⟨_,LS (by rw[la.1];exact hx)⟩
 have:=J1 pm sp la hbd fr hs hl
 rw[MN,MN,hs,hl]
 cases z:M.testBit x with
 |true=>exact decide_eq_true (this.mpr z)
 |false=>exact decide_eq_false fun c=>by rw[this.mp c]at z;cases z
theorem Et(es:En)(od:List Nat):∃ ms,fy es od ms:=by
 refine⟨(MH (od.length+1)).map fun k=>Classical.choose (l9 es [] (mk (od.take k))),by rw[LW,M6],fun k M h=>?_⟩
 rw[Mb]at h
 obtain⟨j,hj,rfl⟩:=Ms.mp h
 have:j=k:=by
  obtain⟨a,b⟩:=LR.mp hj
  rw[List.getElem_range]at b
  exact b.symm
 subst this
 exact Classical.choose_spec (l9 es [] (mk (od.take j)))
end K8
namespace K8
open PySem L2
local macro_rules | `(tactic| walk_at "cc") => `(tactic| first | exact ⟨by decide, by decide⟩ | (show (0 : Int) < _; decide) | (show (0 : Int) < _; omega) | (show (0 : Int) ≤ _; omega) | exact ⟨by decide, by decide, by decide⟩ | exact ⟨by omega, by omega, by decide⟩ | exact Or.inl ⟨by decide, by decide⟩ | exact Or.inl ⟨by omega, by omega⟩)
local macro_rules | `(tactic| walk_at "rd") => `(tactic| repeat (first | refine ⟨_, rfl, ?_⟩ | refine ⟨_, _, rfl, rfl, ?_⟩ | refine ⟨rfl, ?_⟩ | (refine ⟨?cc, ?_⟩; (case cc => walk_at "cc"))))
def mx(a b:Nat):Nat:=if a<b then b else a
theorem Lj(k a b:Nat):k<=mx a b↔(k<=a∨k<=b):=by
 unfold mx
 split<;>omega
theorem mxI(a b:Nat):(if(b:Int) > (a:Int) then(b:Int) else(a:Int))=((mx a b:Nat):Int):=by
 unfold mx
 by_cases c:a<b
 ·rw[if_pos (by omega),if_pos c]
 ·rw[if_neg (by omega),if_neg c]
theorem LaAt.nil{S:List Nat}{m:Nat}(h:S.length=m):LaAt [] S S m:=⟨h,fun x l hl k=>⟨fun z=>.inl ⟨l,hl,z⟩,fun z=>by
 rcases z with⟨s,a,b⟩ | ⟨e,he,_⟩
 ·rw[hl]at a
  cases a
  exact b
 ·cases he⟩⟩
theorem LaAt.put{es:En}{S La:List Nat}{m l1 l2 s1 s2:Nat}{e:Nat×Nat}(h:LaAt es S La m)(ne:e.1≠e.2)(h1:La[e.1]?=some l1)(h2:La[e.2]?=some l2)(g1:S[e.1]?=some s1)(g2:S[e.2]?=some s2):LaAt (es++[e]) S ((La.set e.1 (mx l1 s2)).set e.2 (mx l2 s1)) m:=by
 refine⟨by rw[MR,MR];exact h.1,fun x l hl k=>?_⟩
 have b1:=(LR.mp h1).1
 have b2:=(LR.mp h2).1
 have mem:∀{p:Nat×Nat->Prop},(∃ f∈es++[e],p f)↔((∃ f∈es,p f)∨p e):=fun{p}=>by
  constructor
  ·rintro⟨f,hf,q⟩
   rcases Mc.mp hf with z | z
   ·exact .inl ⟨f,z,q⟩
   ·rw[Mu.mp z]at q
    exact .inr q
  ·rintro(⟨f,hf,q⟩ | q)
   ·exact⟨f,MC _ hf,q⟩
   ·exact⟨e,Mh _ (Mu.mpr rfl),q⟩
 rw[mem]
 by_cases c2:e.2=x
 ·subst c2
  rw[NL (by rw[MR];exact b2)]at hl
  cases hl
  rw[Lj,h.2 e.2 l2 h2 k]
  constructor
  ·rintro((a | a) | a)
   ·exact .inl a
   ·exact .inr (.inl a)
   ·exact .inr (.inr (.inr ⟨rfl,s1,g1,a⟩))
  ·rintro(a | a | a)
   ·exact .inl (.inl a)
   ·exact .inl (.inr a)
   ·rcases a with⟨z,_⟩ | ⟨_,s,z,y⟩
    ·exact absurd z ne
    ·rw[g1]at z
     cases z
     exact .inr y
 ·rw[Nq c2]at hl
  by_cases c1:e.1=x
  ·subst c1
   rw[NL b1]at hl
   cases hl
   rw[Lj,h.2 e.1 l1 h1 k]
   constructor
   ·rintro((a | a) | a)
    ·exact .inl a
    ·exact .inr (.inl a)
    ·exact .inr (.inr (.inl ⟨rfl,s2,g2,a⟩))
   ·rintro(a | a | a)
    ·exact .inl (.inl a)
    ·exact .inl (.inr a)
    ·rcases a with⟨_,s,z,y⟩ | ⟨z,_⟩
     ·rw[g2]at z
      cases z
      exact .inr y
     ·exact absurd z.symm ne
  ·rw[Nq c1]at hl
   rw[h.2 x l hl k]
   constructor
   ·rintro(a | a)
    ·exact .inl a
    ·exact .inr (.inl a)
   ·rintro(a | a | a)
    ·exact .inl a
    ·exact .inr a
    ·rcases a with⟨z,_⟩ | ⟨z,_⟩
     ·exact absurd z c1
     ·exact absurd z c2
def Kh(K:LU):Sp:=fun vs H Q _=>∃(a o:Addr)(ys:List V)(es:En)(od ms:List Nat)(m:Nat),vs = [.ref a,.ref o]/\SqL K H a ys/\bV H ys es/\H o=some (.lst (od.map iV))/\od.Perm (MH m)/\m<=40/\(∀ e∈es,e.1<m/\e.2<m/\e.1≠e.2)/\fy es od ms /\
 ∀(W:Nat)(H':Hp),Same H H'->(8<W↔∃ M∈ms,8<(bl M).length)->Q (.int (W:Int)) H'
def Ki:Sp:=fun vs H Q _=>∃(t pe pt pk:Addr)(m R:Nat)(es:En)(ts:List (List Nat))(ks:Kn),vs = [.ref t,.int (R:Int)]/\mL H t pe pt pk m es ts ks/\∀(t' pk':Addr)(ks':Kn)(H':Hp),Same H H'->mL H' t' pe pt pk' m es ts ks'->Trn ks ks' R->Q (.ref t') H'
def Kj(K:LU):Sp:=fun vs H Q _=>∃(a:Addr)(ys:List V)(es:En)(P m:Nat),vs = [.ref a,.int (P:Int)]/\SqL K H a ys/\bV H ys es/\es.length<=60/\m<=40/\(∀ e∈es,e.1<m/\e.2<m)/\∀(R:Nat)(H':Hp),Same H H'->Rim es P R->Q (.int (R:Int)) H'
def Askd(PL PS WC:Addr)(H:Hp)(p o:Addr)(b:Int)(m:Nat)(es:En)(ts:List (List Nat))(ks:Kn)(od:List Nat):Prop:=WebT PL PS WC H p m es ts ks/\ks.length=es.length/\bt m es ts/\es.length<=100/\m<=40/\H o=some (.lst (od.map iV))/\od.Perm (MH m)/\(b=0∨od=MH m)
def Ik(TW PL PS WC:Addr):Sp:=fun vs H Q E=>∃(p o:Addr)(b:Int)(m:Nat)(es:En)(ts:List (List Nat))(ks:Kn)(od ms:List Nat),vs = [.ref p,.ref o,.int b]/\Askd PL PS WC H p o b m es ts ks od/\fy es od ms /\
 ((∃ M∈ms,8<(bl M).length)->∀ H',Same H H'->E (.ref TW) none H') /\
 ((∀ M∈ms,(bl M).length<=8)->∀ u v H',Same H H'->PrAt H' u v->AnsC es ks m v->Q u H')
def Fd(PL PS WC:Addr):Sp:=fun vs H Q _=>∃(p o:Addr)(b:Int)(m:Nat)(es:En)(ts:List (List Nat))(ks:Kn)(od ms:List Nat),vs = [.ref p,.ref o,.int b]/\Askd PL PS WC H p o b m es ts ks od/\fy es od ms/\(∃ M∈ms,8<(bl M).length)/\∀ H',Same H H'->Q (.bl true) H'
def Fe:Sp:=fun vs H Q _=>∃(v:V)(p:Pr),vs = [v]/\PrAt H v p/\Q (.bl true) H
def Fj:Sp:=fun vs H Q _=>∃(v:V)(p:Pr),vs = [v]/\PrAt H v p/\0<=p.1/\1<p.2/\p.2%2=0/\Q (.bl true) H
theorem t9{es:En}{od ms ms':List Nat}(fr:fy es od ms)(h:fy es od ms'):ms'=ms:=OZ fun k=>by
 by_cases hk:k<ms.length
 ·have hk':k<ms'.length:=by rw[h.1,← fr.1];exact hk
  rw[LS hk',LS hk,(fr.2 k _ (LS hk)).one (h.2 k _ (LS hk'))]
 ·rw[NC (by rw[h.1,← fr.1];omega),NC (by omega)]
section
variable{P:Program}{w:World}{K:LU}{mg:Str->Option Value}{base:Heap}
theorem Ay:aE ["found"] ["found"] (ai eO):=⟨rfl,rfl,rfl,by decide +kernel,rfl,by decide +kernel,by decide +kernel⟩
theorem KU{f fw:Addr}{fd fdw:FuncData} (F:Fun K "_law_pair" "_law_pair" eO f fd) (T:Txt mg) (G_law_whole:Cal P w K mg base 1 "_law_whole" ["found"] Kl fw fdw):FnOk P w K mg base CX0 2 f fd ["found"] Fe:=by
 refine F.ok Ay (fun vs H Q E h=>?_) (fun cdv A outer s H vs Q E hr h=>?_)
 ·obtain⟨v,p,rfl,_⟩:=h
  rfl
 obtain⟨v,p,rfl,⟨t,rfl,ht⟩,k⟩:=h
 refine⟨_,(af (dm (PW.pt (Iq (Jx (Fx (az wQ (by rfl) T.n_isinstance eG (aa (pv 0) (aa (A0 (v:=.ty "tuple") rfl T.n_tuple Jm rfl) ag))))) (C7 (aM vk (az aw (by rfl) T.n_len bF (aa (pv 0) ag)) ah (aR _))))) (ao (aO IC)) bc)
   (ao (aO (qj (aF G_law_whole.ok (hr.mono (by decide)) rfl G_law_whole.mg G_law_whole.kp G_law_whole.bn .nil aW (aa (aD aI (pv 0) ah (fun _ _=>rfl)) ag)) (yc (aF G_law_whole.ok (hr.mono (by decide)) rfl G_law_whole.mg G_law_whole.kp G_law_whole.bn .nil aW (aa (aD aI (pv 0) ah (fun _ _=>rfl)) ag))))))),?_⟩
 refine⟨_,rfl,_,_,_,_,_,rfl,TyOf.tup ht,Or.inl ⟨_,rfl,rfl⟩,kit_tt K,_,rfl,iteF ?_⟩
 refine⟨_,rfl,t,_,rfl,.inr (SqT.of ht),rfl,_,rfl,Lr rfl ?_⟩
 refine⟨_,rfl,t,_,0,_,rfl,rfl,SqT.of ht,at0,p.1,rfl,_,rfl,iteT ?_⟩
 exact⟨_,rfl,t,_,1,_,rfl,rfl,SqT.of ht,at1,p.2,rfl,k⟩
theorem AA:aE ["found"] ["found"] (ai eQ):=⟨rfl,rfl,rfl,by decide +kernel,rfl,by decide +kernel,by decide +kernel⟩
theorem K1{f fw:Addr}{fd fdw:FuncData} (F:Fun K "_law_good" "_law_good" eQ f fd) (G_law_pair:Cal P w K mg base 2 "_law_pair" ["found"] Fe fw fdw):FnOk P w K mg base CX0 3 f fd ["found"] Fj:=by
 refine F.ok AA (fun vs H Q E h=>?_) (fun cdv A outer s H vs Q E hr h=>?_)
 ·obtain⟨v,p,rfl,_⟩:=h
  rfl
 obtain⟨v,p,rfl,⟨t,rfl,ht⟩,g1,g2,g3,k⟩:=h
 refine⟨_,(ao (aO (qj (aF G_law_pair.ok (hr.mono (by decide)) rfl G_law_pair.mg G_law_pair.kp G_law_pair.bn .nil aW (aa (pv 0) ag)) (qj (iJ KQ (aD aI (pv 0) ah (fun _ _=>rfl)) ah (aR _)) (qj (iJ FO (aD aI (pv 0) ah (fun _ _=>rfl)) ah (aR _)) (yc (iJ jW (ay bD (aD aI (pv 0) ah (fun _ _=>rfl)) ah) ah (aR _)))))))),?_⟩
 refine⟨_,rfl,.ref t,p,rfl,⟨t,rfl,ht⟩,_,rfl,iteT ?_⟩
 refine⟨_,rfl,t,_,0,_,rfl,rfl,SqT.of ht,at0,_,_,rfl,rfl,_,rfl,ite2 (fun _=>?_) (fun c=>absurd (decide_eq_true g1) c)⟩
 refine⟨_,rfl,t,_,1,_,rfl,rfl,SqT.of ht,at1,_,_,rfl,rfl,_,rfl,ite2 (fun _=>?_) (fun c=>absurd (decide_eq_true g2) c)⟩
 refine⟨_,rfl,t,_,1,_,rfl,rfl,SqT.of ht,at1,_,_,rfl,rfl,(by show(0:Int)<2;decide),rfl,?_⟩
 rw[decide_eq_true (congrArg V.int g3)]
 exact k
theorem jA:aE ["ends","patch","ties","k"] ["ends","patch"] (ai gm):=⟨rfl,rfl,rfl,by decide +kernel,rfl,by decide +kernel,by decide +kernel⟩
theorem ok_rim{f:Addr}{fd:FuncData} (F:Fun K "_law_rim" "_law_rim" gm f fd) (T:Txt mg):FnOk P w K mg base CX0 1 f fd ["ends","patch"] (Kj K):=by
 refine F.ok jA (fun vs H Q E h=>?_) (fun cdv A outer s H vs Q E hr h=>?_)
 ·obtain⟨a,ys,es,Pm,m,rfl,_⟩:=h
  rfl
 obtain⟨a,ys,es,Pm,m,rfl,hS,hE,e60,m40,hbd,kk⟩:=h
 have hyl:ys.length=es.length:=hE.1
 refine⟨_,(af (au (i:=2) jA.nd rfl (Or.inl rfl) ah)
   (af (bC PassesOwn.never rfl (bP rfl T.n_range (aa (az aw (by rfl) T.n_len bF (aa (pv 0) ag)) ag)) (aJ (i:=3) jA.nd rfl (Or.inl rfl)) (ao (dm (aM jW (ay bD (ay b7 (ay qk (pv 1) (aD aI (aD aK (pv 0) (pv 3) (fun _ _=>rfl)) ah (fun _ _=>rfl))) (ay qk (pv 1) (aD aI (aD aK (pv 0) (pv 3) (fun _ _=>rfl)) ah (fun _ _=>rfl)))) ah) ah (aR _)) (ao (au (i:=2) jA.nd rfl (Or.inl rfl) (ay b7 (pv 2) (ay iK ah (pv 3))))) bc)))
   (ao (aO (pv 2))))),?_⟩
 refine⟨_,rfl,a,ys,rfl,.inl hS,_,rfl,by omega,by omega,cf (n:=(ys.length:Int).toNat) (fun i σ H2=>∃(R:Nat)(v3:Option V),σ = [some (.ref a),some (.int (Pm:Int)),some (.int (R:Int)),v3]/\H2=H/\(∀ t,i<=t->R.testBit t=false)/\∀(t:Nat)(e:Nat×Nat),t<i->es[t]?=some e->R.testBit t=(Pm.testBit e.1 != Pm.testBit e.2)) ⟨0,_,rfl,rfl,fun t _=>M3 t,fun t e z=>by omega⟩ ?_ ?_⟩
 ·rintro i σ H2 hi ⟨R,v3,rfl,rfl,hz,hr'⟩
  rw[Mv,hyl]at hi
  have e0:(0:Int)+(i:Int)=(i:Int):=Nf _
  rw[e0]
  obtain⟨e,he⟩:∃ e,es[i]?=some e:=⟨_,LS hi⟩
  obtain⟨t,x1,x2⟩:=hE.2 i e he
  obtain⟨b1,b2⟩:=hbd e (LV he)
  have d1:=bitD Pm e.1
  have d2:=bitD Pm e.2
  refine⟨_,rfl,_,rfl,_,rfl,a,ys,_,_,rfl,rfl,hS,aG x1,t,_,0,_,rfl,rfl,SqT.of x2,at0,_,_,rfl,rfl,by omega,_,rfl,_,rfl,_,rfl,a,ys,_,_,rfl,rfl,hS,aG x1,t,_,1,_,rfl,rfl,SqT.of x2,at1,_,_,rfl,rfl,by omega,_,_,rfl,rfl,_,_,rfl,rfl,(by show(0:Int)<2;decide),rfl,_,rfl,?_⟩
  have dif:((Pm:Int)/2^((e.1:Nat):Int).toNat+(Pm:Int)/2^((e.2:Nat):Int).toNat)%2=if(Pm.testBit e.1 != Pm.testBit e.2)=true then 1 else 0:=by
   rw[bn]
   omega
  refine ite2 (fun c=>?_) (fun c=>?_)
  ·have c':((Pm:Int)/2^((e.1:Nat):Int).toNat+(Pm:Int)/2^((e.2:Nat):Int).toNat)%2=1:=V.int.inj (of_decide_eq_true c)
   have on:(Pm.testBit e.1 != Pm.testBit e.2)=true:=by
    cases z:(Pm.testBit e.1 != Pm.testBit e.2) with
    |true=>rfl
    |false=>rw[dif,z,if_neg Mp]at c';cases c'
   refine⟨_,rfl,_,rfl,_,_,rfl,rfl,⟨by omega,by omega,by decide⟩,_,_,rfl,rfl,?_⟩
   refine⟨R+2^i,some (.int (i:Int)),?_,rfl,fun t ht=>?_,fun t e' ht he'=>?_⟩
   ·have:(R:Int)+1*2^((i:Nat):Int).toNat=((R+2^i:Nat):Int):=by rw[shlN];omega
    show[some (V.ref a),some (V.int (Pm:Int)),some (V.int ((R:Int)+1*2^((i:Nat):Int).toNat)),some (V.int (i:Int))]=_
    rw[this]
   ·rw[JK (hz i (Ma _)),M8,hz t (by omega),MM,decide_eq_false (by omega)]
    rfl
   ·rw[JK (hz i (Ma _)),M8,MM]
    by_cases ti:t<i
    ·rw[hr' t e' ti he',decide_eq_false (by omega),Oa]
    ·have:t=i:=by omega
     subst this
     rw[he]at he'
     cases he'
     rw[on,decide_eq_true rfl,Bool.or_true]
  ·have c':¬ ((Pm:Int)/2^((e.1:Nat):Int).toNat+(Pm:Int)/2^((e.2:Nat):Int).toNat)%2=1:=fun z=>c (decide_eq_true (congrArg V.int z))
   refine⟨R,_,rfl,rfl,fun t ht=>hz t (by omega),fun t e' ht he'=>?_⟩
   by_cases ti:t<i
   ·exact hr' t e' ti he'
   ·have:t=i:=by omega
    subst this
    rw[he]at he'
    cases he'
    rw[hz t (Ma _)]
    cases z:(Pm.testBit e.1 != Pm.testBit e.2) with
    |false=>rfl
    |true=>rw[dif,z,if_pos rfl]at c';exact absurd rfl c'
 ·rintro σ H2 ⟨R,v3,rfl,rfl,hz,hr'⟩
  refine⟨_,rfl,kk R _ (fun _ _ z=>z) fun t e he=>hr' t e ?_ he⟩
  rw[Mv,hyl]
  exact(LR.mp he).1
theorem gA:aE ["built","ties","told","k"] ["built","ties"] (ai cD):=⟨rfl,rfl,rfl,by decide +kernel,rfl,by decide +kernel,by decide +kernel⟩
theorem ok_trn{f:Addr}{fd:FuncData} (F:Fun K "_law_turned" "_law_turned" cD f fd) (T:Txt mg):FnOk P w K mg base CX0 1 f fd ["built","ties"] Ki:=by
 refine F.ok gA (fun vs H Q E h=>?_) (fun cdv A outer s H vs Q E hr h=>?_)
 ·obtain⟨t,pe,pt,pk,m,R,es,ts,ks,rfl,_⟩:=h
  rfl
 obtain⟨t,pe,pt,pk,m,R,es,ts,ks,rfl,bp,kk⟩:=h
 have few:=bp.few
 have kl:=bp.kl
 obtain⟨ht,wp,⟨ws,hpk,hT⟩,_,_⟩:=id bp
 have hwl:ws.length=ks.length:=hT.1
 refine⟨_,(af (au (i:=2) gA.nd rfl (Or.inl rfl) (cH ag))
   (af (bC PassesOwn.never rfl (bP rfl T.n_range (aa (az aw (by rfl) T.n_len bF (aa (aD aI (pv 0) ah (fun _ _=>rfl)) ag)) ag)) (aJ (i:=3) gA.nd rfl (Or.inl rfl)) (ao (aX (dI Mn Mz My aU (pv 2) (aa (b9 (aa (ay bD (ay b7 (aD aI (aD aK (aD aI (pv 0) ah (fun _ _=>rfl)) (pv 3) (fun _ _=>rfl)) ah (fun _ _=>rfl)) (ay qk (pv 1) (pv 3))) ah) (aa (aD aI (aD aK (aD aI (pv 0) ah (fun _ _=>rfl)) (pv 3) (fun _ _=>rfl)) ah (fun _ _=>rfl)) ag))) ag)))))
   (ao (aO (b9 (aa (aD aI (pv 0) ah (fun _ _=>rfl)) (aa (aD aI (pv 0) ah (fun _ _=>rfl)) (aa (pv 2) ag)))))))),?_⟩
 refine⟨(by show 0<=sizeLine;exact Na _),fun q hq=>?_⟩
 have s1:=aj hq (.lst [])
 refine⟨_,rfl,t,_,2,_,rfl,rfl,SqT.of (s1 _ _ ht),at32,pk,ws,rfl,.inl (SqL.of (s1 _ _ hpk)),_,rfl,by omega,by omega,cf (n:=(ws.length:Int).toNat) (fun i σ H2=>∃(zs:List V)(k2:Kn)(v3:Option V),σ = [some (.ref t),some (.int (R:Int)),some (.ref q),v3]/\Same H H2/\H2 q=some (.lst zs)/\gw H2 zs k2/\k2.length=i/\∀(n:Nat)(k:Int×Int),n<i->ks[n]?=some k->k2[n]?=some ((k.1+(if R.testBit n=true then 1 else 0))%2,k.2)) ⟨[],[],_,rfl,s1,ae,⟨rfl,fun i k e=>by simp at e⟩,rfl,fun n k z=>by omega⟩ ?_ ?_⟩
 ·rintro i σ H2 hi ⟨zs,k2,v3,rfl,s2,hq2,td,kl2,hk2⟩
  rw[Mv,hwl]at hi
  have e0:(0:Int)+(i:Int)=(i:Int):=Nf _
  rw[e0]
  obtain⟨k,hk⟩:∃ k,ks[i]?=some k:=⟨_,LS hi⟩
  obtain⟨k01,k0,t2,z1,z2⟩:=hT.2 i k hk
  have zl:zs.length=i:=by rw[td.1,kl2]
  have d1:=bitD R i
  have ev:(k.1+(R:Int)/2^((i:Nat):Int).toNat)%2=(k.1+(if R.testBit i=true then 1 else 0))%2:=by rw[← d1];omega
  refine⟨_,rfl,.inl ⟨rfl,_,SqL.of hq2⟩,_,rfl,t,_,2,_,rfl,rfl,SqT.of (s2 _ _ ht),at32,_,rfl,pk,ws,_,_,rfl,rfl,SqL.of (s2 _ _ hpk),aG z1,t2,_,0,_,rfl,rfl,SqT.of (s2 _ _ z2),at0,_,rfl,_,rfl,_,_,rfl,rfl,by omega,_,_,rfl,rfl,_,_,rfl,rfl,(by show(0:Int)<2;decide),_,rfl,t,_,2,_,rfl,rfl,SqT.of (s2 _ _ ht),at32,_,rfl,pk,ws,_,_,rfl,rfl,SqL.of (s2 _ _ hpk),aG z1,t2,_,1,_,rfl,rfl,SqT.of (s2 _ _ z2),at1,(by show 2<=sizeLine;decide),fun t3 ht3=>?_⟩
  dsimp only
  rw[ev]
  have s3:=aj ht3 (.tup [.int ((k.1+(if R.testBit i=true then 1 else 0))%2),.int k.2])
  have n3:t3≠q:=fun z=>by rw[z,hq2]at ht3;cases ht3
  refine⟨q,zs,_,rfl,rfl,s3 _ _ hq2,ar (by omega),?_⟩
  refine⟨zs++[.ref t3],k2++[((k.1+(if R.testBit i=true then 1 else 0))%2,k.2)],_,rfl,aL (s2.trans s3) hq _,ae,?_,by rw[LX,kl2];rfl,fun n k' hn hk'=>?_⟩
  ·have td3:=(td.mono s3).snoc (k:=((k.1+(if R.testBit i=true then 1 else 0))%2,k.2)) ae (by show(k.1+_)%2=0∨(k.1+_)%2=1;omega) k0
   refine⟨td3.1,fun n k' e=>?_⟩
   obtain⟨y1,y2,p,y3,y4⟩:=td3.2 n k' e
   refine⟨y1,y2,p,y3,?_⟩
   rw[aq (fun z=>by rw[z,s3 _ _ hq2]at y4;cases y4)]
   exact y4
  ·by_cases ni:n<i
   ·rw[L0 (by omega)]
    exact hk2 n k' ni hk'
   ·have:n=i:=by omega
    subst this
    rw[hk]at hk'
    cases hk'
    rw[LY (by omega),kl2,Mw]
    rfl
 ·rintro σ H2 ⟨zs,k2,v3,rfl,s2,hq2,td,kl2,hk2⟩
  rw[Mv,hwl]at kl2 hk2
  refine⟨_,rfl,t,_,0,_,rfl,rfl,SqT.of (s2 _ _ ht),at30,_,rfl,t,_,1,_,rfl,rfl,SqT.of (s2 _ _ ht),at31,_,rfl,(by show 3<=sizeLine;decide),fun t4 ht4=>?_⟩
  have s4:=aj ht4 (.tup [.ref pe,.ref pt,.ref q])
  have s24:=s2.trans s4
  exact kk t4 q k2 _ s24 ⟨ae,wp.mono s24,⟨zs,s4 _ _ hq2,td.mono s4⟩,few,by omega⟩ ⟨kl2,fun n k hk=>hk2 n k (LR.mp hk).1 hk⟩
end
end K8
namespace K8
open PySem L2
local macro_rules | `(tactic| walk_at "cc") => `(tactic| first | exact ⟨by decide, by decide⟩ | (show (0 : Int) < _; decide) | (show (0 : Int) < _; omega) | (show (0 : Int) ≤ _; omega) | exact ⟨by decide, by decide, by decide⟩ | exact ⟨by omega, by omega, by decide⟩ | exact Or.inl ⟨by decide, by decide⟩ | exact Or.inl ⟨by omega, by omega⟩)
local macro_rules | `(tactic| walk_at "rd") => `(tactic| repeat (first | refine ⟨_, rfl, ?_⟩ | refine ⟨_, _, rfl, rfl, ?_⟩ | refine ⟨rfl, ?_⟩ | (refine ⟨?cc, ?_⟩; (case cc => walk_at "cc"))))
structure TxtX(mg:Str->Option Value)(TW:Addr):Prop extends Txt mg where
 g_TooWide:mg "TooWide" = some (.ref TW)
section
variable{P:Program}{w:World}{K:LU}{mg:Str->Option Value}{base:Heap}
theorem ba:aE ["ends","order","spot","k","last","one","two","most"] ["ends","order"] (ai cC):=⟨rfl,rfl,rfl,by decide +kernel,rfl,by decide +kernel,by decide +kernel⟩
theorem ok_wid{f:Addr}{fd:FuncData} (F:Fun K "_law_widest" "_law_widest" cC f fd) (T:Txt mg):FnOk P w K mg base CX0 1 f fd ["ends","order"] (Kh K):=by
 refine F.ok ba (fun vs H Q E h=>?_) (fun cdv A outer s H vs Q E hr h=>?_)
 ·obtain⟨a,o,ys,es,od,ms,m,rfl,_⟩:=h
  rfl
 obtain⟨a,o,ys,es,od,ms,m,rfl,hS,hE,ho,pm,m40,hbd,fr,kk⟩:=h
 have hyl:ys.length=es.length:=hE.1
 have ol:od.length=m:=by rw[pm.length_eq,M6]
 have ob:∀ x∈od,x<m:=fun x hx=>MK.mp (pm.mem_iff.mp hx)
 have nd:od.Nodup:=pm.nodup_iff.mpr NK
 have oml:(od.map iV).length=m:=by rw[LW,ol]
 have hbd2:∀ e∈es,e.1<m/\e.2<m:=fun e he=>⟨(hbd e he).1,(hbd e he).2.1⟩
 refine⟨_,(af (au (i:=2) ba.nd rfl (Or.inr rfl) (dH rfl (fr:=[]) (by exact bK.plain (by rfl) (by decide +kernel) (by rfl) (by decide +kernel) (by rfl) (by decide +kernel)) (aV (pv 1)) (fun C ex s H=>ah)))
   (af (bC PassesOwn.never rfl (bP rfl T.n_range (aa (az aw (by rfl) T.n_len bF (aa (pv 1) ag)) ag)) (aJ (i:=3) ba.nd rfl (Or.inr rfl)) (ao (xQ (pv 3) (yb (pv 2) (aD aK (pv 1) (pv 3) (fun _ _=>rfl)) lR))))
   (af (au (i:=4) ba.nd rfl (Or.inr rfl) (cb bT (by rfl) T.n_list iq (aa (pv 2) ag)))
   (af (bC PassesOwn.never rfl (aV (pv 0)) (qg rfl (bG (aJ (i:=5) ba.nd rfl (Or.inl rfl)) (bG (aJ (i:=6) ba.nd rfl (Or.inl rfl)) kr))) (af (xQ (az (qZ rfl) (by rfl) T.n_max Hs (aa (aD aK (pv 4) (pv 5) (fun _ _=>rfl)) (aa (aD aK (pv 2) (pv 6) (fun _ _=>rfl)) ag))) (yb (pv 4) (pv 5) lR))
   (ao (xQ (az (qZ rfl) (by rfl) T.n_max Hs (aa (aD aK (pv 4) (pv 6) (fun _ _=>rfl)) (aa (aD aK (pv 2) (pv 5) (fun _ _=>rfl)) ag))) (yb (pv 4) (pv 6) lR)))))
   (af (au (i:=7) ba.nd rfl (Or.inl rfl) ah)
   (af (bC PassesOwn.never rfl (FF rfl T.n_range (aa ah (aa (ay b7 (az aw (by rfl) T.n_len bF (aa (pv 1) ag)) ah) ag))) (aJ (i:=3) ba.nd rfl (Or.inr rfl)) (ao (au (i:=7) ba.nd rfl (Or.inl rfl) (az (qZ rfl) (by rfl) T.n_max Hs (aa (pv 7) (aa (az (jV rfl) (by rfl) T.n_sum uh (aa (vj rfl (fr:=[("spot",2),("last",4),("k",3)]) (xs:=["place"]) (tN.of (by rfl) (by decide +kernel) (by rfl) (by decide +kernel) (by intro p hp;simp only[LZ,MP,or_false]at hp;rcases hp with rfl | rfl | rfl<;>exact⟨rfl,rfl⟩) (by decide +kernel) (by intro p hp;simp only[LZ,MP,or_false]at hp;rcases hp with rfl | rfl | rfl<;>rfl)) (aV (pv 1)) (fun C ex s H=>(aJ (i:=0) (show(["place","spot","last","k"]:List Str).Nodup from by decide +kernel) rfl (Or.inl rfl))) (fun C ex s H=>KA) (fun C ex s H=>(cb zD (by rfl) T.n_int Ht (aa (qj (iJ FN (aD (gX (K:=K) rfl) (pv 1) (pv 0) (fun _ _=>rfl)) (pv 3) (aR _)) (yc (iJ op_le (pv 3) (aD (gX (K:=K) rfl) (pv 2) (pv 0) (fun _ _=>rfl)) (aR _)))) ag)))) ag)) ag))))))
   (ao (aO (pv 7))))))))),?_⟩
 refine⟨_,rfl,o,rfl,⟨_,SqL.of ho⟩,bH (K:=K) (xs:=od.map iV) (fun i zs H2=>H2=H/\zs=(Ng i 0).map iV) (MX (ar (by rw[LW];omega))) ⟨rfl,rfl⟩ (fun i zs H2 _ z=>by rw[z.1];exact SqL.of ho) ?_ ?_⟩
 ·rintro i x zs H2 hx ⟨rfl,rfl⟩
  refine⟨rfl,?_⟩
  rw[OG,MD]
  rfl
 rintro zs H2 _ ⟨rfl,rfl⟩ q hq
 rw[LW,ol]
 have s1:=aj hq (.lst ((Ng m 0).map iV))
 refine⟨_,rfl,o,_,rfl,.inl (SqL.of (s1 _ _ ho)),_,rfl,by omega,by omega,cf (n:=(((od.map iV).length:Nat):Int).toNat) (fun k σ H3=>∃(S:List Nat)(v3:Option V),σ = [some (.ref a),some (.ref o),some (.ref q),v3,none,none,none,none]/\Same H2 H3/\H3 q=some (.lst (S.map iV))/\S.length=m/\∀ j x,j<k->od[j]?=some x->S[x]?=some j) ⟨Ng m 0,_,rfl,s1,ae,OE,fun j x hj=>by omega⟩ ?_ ?_⟩
 ·rintro k σ H3 hk ⟨S,v3,rfl,s3,hq3,sl,hsp⟩
  rw[Mv,LW,ol]at hk
  have z0:(0:Int)+(k:Int)=(k:Int):=Nf _
  rw[z0]
  obtain⟨pl,hpl⟩:∃ pl,od[k]?=some pl:=⟨_,LS (by omega)⟩
  have hpV:(od.map iV)[k]?=some (iV pl):=by rw[Mb,hpl];rfl
  have plm:=ob pl (LV hpl)
  refine⟨_,rfl,_,rfl,_,rfl,_,rfl,o,_,_,_,rfl,rfl,SqL.of (s3 _ _ ho),aG hpV,q,_,_,pl,rfl,rfl,hq3,qJ (by rw[LW];omega),?_⟩
  refine⟨S.set pl k,_,rfl,aL s3 hq _,by rw[ae,List.map_set];rfl,by rw[MR];exact sl,fun j x hj hx=>?_⟩
  by_cases jk:j=k
  ·subst jk
   rw[hpl]at hx
   cases hx
   rw[NL (by omega)]
  ·have nx:pl≠x:=fun z=>by
    subst z
    obtain⟨a1,a2⟩:=LR.mp hx
    obtain⟨b1,b2⟩:=LR.mp hpl
    exact absurd (a2.trans b2.symm) (Nm.mp nd j k a1 b1 (by omega))
   rw[Nq nx]
   exact hsp j x (by omega) hx
 rintro σ H3 ⟨S,v3,rfl,s3,hq3,sl,hsp⟩
 rw[Mv,LW,ol]at hsp
 have sp:SpAt od S m:=⟨sl,fun j x hx=>hsp j x (by rw[← ol];exact(LR.mp hx).1) hx⟩
 refine⟨_,rfl,q,_,rfl,.inl (SqL.of hq3),fun q4 hq4=>?_⟩
 have s4:=aj hq4 (.lst (S.map iV))
 have hE3:bV H3 ys es:=hE.mono s3
 have hS3:=s3.seq hS
 refine⟨_,rfl,a,rfl,⟨_,s4.seq hS3⟩,cn (K:=K) (xs:=ys) (fun i σ H5=>∃(La:List Nat)(v5 v6:Option V),σ = [some (.ref a),some (.ref o),some (.ref q),v3,some (.ref q4),v5,v6,none]/\Same H3 H5/\H5 q4=some (.lst (La.map iV))/\LaAt (es.take i) S La m) ⟨S,_,_,rfl,s4,ae,by rw[Oo];exact LaAt.nil sl⟩ (fun i σ H5 _ ⟨_,_,_,_,z,_⟩=>z.seq hS3) ?_ ?_⟩
 ·rintro i x σ H5 hx ⟨La,v5,v6,rfl,s5,hq5,la⟩
  obtain⟨e,he⟩:∃ e,es[i]?=some e:=⟨_,LS (by rw[← hyl];exact(LR.mp hx).1)⟩
  obtain⟨t,x1,x2⟩:=hE3.2 i e he
  rw[hx]at x1
  cases x1
  obtain⟨b1,b2,ne⟩:=hbd e (LV he)
  have et:es.take (i+1)=es.take i++[e]:=by rw[Mx,he];rfl
  obtain⟨l1,h1⟩:∃ l,La[e.1]?=some l:=⟨_,LS (by rw[la.1];exact b1)⟩
  obtain⟨l2,h2⟩:∃ l,La[e.2]?=some l:=⟨_,LS (by rw[la.1];exact b2)⟩
  obtain⟨c1,g1⟩:∃ l,S[e.1]?=some l:=⟨_,LS (by rw[sl];exact b1)⟩
  obtain⟨c2,g2⟩:∃ l,S[e.2]?=some l:=⟨_,LS (by rw[sl];exact b2)⟩
  have mV:∀{L:List Nat}{x l:Nat},L[x]?=some l->(L.map iV)[x]?=some (iV l):=fun h=>by rw[Mb,h];rfl
  refine⟨t,_,rfl,SqT.of (s5 _ _ x2),rfl,_,_,rfl,_,_,rfl,rfl,?_⟩
  refine⟨_,rfl,_,rfl,q4,_,_,_,rfl,rfl,SqL.of hq5,aG (mV h1),_,rfl,_,rfl,q,_,_,_,rfl,rfl,SqL.of (s5 _ _ hq3),aG (mV g2),_,_,rfl,?_⟩
  dsimp only
  rw[mxI]
  refine⟨_,rfl,_,rfl,q4,_,_,e.1,rfl,rfl,hq5,qJ (by rw[LW,la.1];exact b1),?_⟩
  have hq6:(upd H5 q4 (.lst ((La.map iV).set e.1 (.int ((mx l1 c2:Nat):Int))))) q4=some (.lst ((La.set e.1 (mx l1 c2)).map iV)):=by rw[ae,List.map_set];rfl
  have s6:Same H3 (upd H5 q4 (.lst ((La.map iV).set e.1 (.int ((mx l1 c2:Nat):Int))))):=aL s5 hq4 _
  generalize upd H5 q4 (.lst ((La.map iV).set e.1 (.int ((mx l1 c2:Nat):Int))))=H6 at hq6 s6
  have h2':(La.set e.1 (mx l1 c2))[e.2]?=some l2:=by rw[Nq ne];exact h2
  refine⟨_,rfl,_,rfl,q4,_,_,_,rfl,rfl,SqL.of hq6,aG (mV h2'),_,rfl,_,rfl,q,_,_,_,rfl,rfl,SqL.of (s6 _ _ hq3),aG (mV g1),_,_,rfl,?_⟩
  dsimp only
  rw[mxI]
  refine⟨_,rfl,_,rfl,q4,_,_,e.2,rfl,rfl,hq6,qJ (by rw[LW,MR,la.1];exact b2),?_⟩
  refine⟨(La.set e.1 (mx l1 c2)).set e.2 (mx l2 c1),_,_,rfl,aL s6 hq4 _,by rw[ae];exact congrArg (fun z=>some (HO.lst z)) List.map_set.symm,?_⟩
  rw[et]
  exact la.put ne h1 h2 g1 g2
 rintro σ H5 ⟨La,v5,v6,rfl,s5,hq5,la⟩
 rw[hyl,MI]at la
 have hq53:=s5 _ _ hq3
 have ho5:=(s3.trans s5) _ _ ho
 have msl:ms.length=m+1:=by rw[fr.1,ol]
 have e1:((((od.map iV).length:Nat):Int)+1-1).toNat=m:=by omega
 refine⟨_,rfl,o,_,rfl,.inl (SqL.of ho5),_,_,rfl,rfl,_,_,rfl,⟨by decide,by decide,by omega,by omega⟩,cf (fun i σ H6=>∃(W:Nat)(u3:Option V),σ = [some (.ref a),some (.ref o),some (.ref q),u3,some (.ref q4),v5,v6,some (.int (W:Int))]/\Same H5 H6/\(8<W↔∃ j M,j<=i/\ms[j]?=some M/\8<(bl M).length)) ⟨0,_,rfl,fun _ _ z=>z,⟨fun z=>by omega,fun⟨j,M,hj,hM,h8⟩=>?_⟩⟩ ?_ ?_⟩
 ·have:j=0:=by omega
  subst this
  have f0:=fr.2 0 M hM
  rw[Oo]at f0
  rw[bB.one f0 (GX es)]at h8
  have:(bl 0).length=0:=by
   show(K2.bitsF 0 0).length=0
   rw[K2.bitsF_zero]
   rfl
  omega
 ·rintro i σ H6 hi ⟨W,u3,rfl,s6,hw⟩
  rw[e1]at hi
  obtain⟨M,hM⟩:∃ M,ms[i+1]?=some M:=⟨_,LS (by omega)⟩
  have z0:(1:Int)+(i:Int)=((i+1:Nat):Int):=by omega
  rw[z0]
  have s56:=s5.trans s6
  have hq6:=s6 _ _ hq5
  have hqs:=s56 _ _ hq3
  have ho6:=s6 _ _ ho5
  have mV:∀{L:List Nat}{x l:Nat},L[x]?=some l->(L.map iV)[x]?=some (iV l):=fun h=>by rw[Mb,h];rfl
  refine⟨_,rfl,_,rfl,o,rfl,⟨_,SqL.of ho6⟩,nJ (K:=K) (xs:=od.map iV) (fun n zs H7=>H7=H6/\zs=((od.take n).map fun x=>if decide (S.getD x 0<i+1/\i+1<=La.getD x 0)=true then(1:Int) else 0).map V.int) (MX (ar (by rw[LW];omega))) ⟨rfl,rfl⟩ (fun n zs H7 _ z=>by rw[z.1];exact SqL.of ho6) ?_ ?_ (fun n zs H7 z=>by rw[z.2,LW,LW,MT];omega)⟩
  ·rintro n x zs H7 hx ⟨rfl,rfl⟩
   rw[Mb]at hx
   obtain⟨x,hx',rfl⟩:=Ms.mp hx
   have xm:=ob x (LV hx')
   obtain⟨sx,g1⟩:∃ l,S[x]?=some l:=⟨_,LS (by rw[sl];exact xm)⟩
   obtain⟨lx,h1⟩:∃ l,La[x]?=some l:=⟨_,LS (by rw[la.1];exact xm)⟩
   have ds:S.getD x 0=sx:=by rw[MN,g1];rfl
   have dl:La.getD x 0=lx:=by rw[MN,h1];rfl
   have step:∀ b:Int,b=(if decide (S.getD x 0<i+1/\i+1<=La.getD x 0)=true then(1:Int) else 0)->H7=H7/\((od.take n).map fun x=>if decide (S.getD x 0<i+1/\i+1<=La.getD x 0)=true then(1:Int) else 0).map V.int++[.int b]=((od.take (n+1)).map fun x=>if decide (S.getD x 0<i+1/\i+1<=La.getD x 0)=true then(1:Int) else 0).map V.int:=fun b hb=>by
    refine⟨rfl,?_⟩
    rw[Mx,hx',hb,MD,MD]
    rfl
   refine⟨rfl,yesT ?_⟩
   refine⟨_,rfl,_,rfl,q,_,_,_,rfl,rfl,SqL.of hqs,aG (mV g1),_,rfl,_,_,rfl,rfl,_,rfl,ite2 (fun c1=>?_) (fun c1=>?_)⟩
   ·have c1':(sx:Int)<((i+1:Nat):Int):=of_decide_eq_true c1
    refine⟨_,rfl,_,rfl,_,rfl,q4,_,_,_,rfl,rfl,SqL.of hq6,aG (mV h1),_,_,rfl,rfl,.inr ⟨_,rfl,step _ ?_⟩⟩
    rw[ds,dl]
    by_cases c2:i+1<=lx
    ·rw[if_pos (decide_eq_true (by omega)),if_pos (decide_eq_true (by omega))]
    ·rw[if_neg (fun z=>c2 (by have:=of_decide_eq_true z;omega)),if_neg (fun z=>c2 (of_decide_eq_true z).2)]
   ·have c1':¬ (sx:Int)<((i+1:Nat):Int):=fun z=>c1 (decide_eq_true z)
    refine .inr ⟨false,rfl,step _ ?_⟩
    rw[ds,dl]
    show(0:Int)=_
    rw[if_neg (fun z=>by have:=(of_decide_eq_true z).1;omega)]
  rintro zs H7 ⟨rfl,rfl⟩ D hD
  rw[oml,← ol,MI]
  have sD:=aj hD (.lst ((od.map fun x=>if decide (S.getD x 0<i+1/\i+1<=La.getD x 0)=true then(1:Int) else 0).map V.int))
  refine⟨D,_,rfl,SqL.of ae,?_⟩
  rw[Ke,HW pm sp la hbd2 (fr.2 (i+1) M hM)]
  refine⟨_,_,rfl,?_⟩
  dsimp only
  rw[mxI]
  refine⟨_,_,rfl,s6.trans sD,?_⟩
  have key:8<mx W (bl M).length↔8<W∨8<(bl M).length:=Lj 9 W (bl M).length
  rw[key,hw]
  constructor
  ·rintro(⟨j,M',hj,a,b⟩ | h8)
   ·exact⟨j,M',by omega,a,b⟩
   ·exact⟨i+1,M,Ma _,hM,h8⟩
  ·rintro⟨j,M',hj,a,b⟩
   by_cases c:j<=i
   ·exact .inl ⟨j,M',c,a,b⟩
   ·have:j=i+1:=by omega
    subst this
    rw[hM]at a
    cases a
    exact .inr b
 ·rintro σ H6 ⟨W,u3,rfl,s6,hw⟩
  rw[e1]at hw
  refine⟨_,rfl,kk W _ ((s3.trans s5).trans s6) (hw.trans ⟨fun⟨j,M,_,a,b⟩=>⟨M,LV a,b⟩,fun⟨M,a,b⟩=>?_⟩)⟩
  obtain⟨j,hj⟩:=Nr a
  have:=(LR.mp hj).1
  exact⟨j,M,by omega,hj,b⟩
theorem xM:aE ["web","order","bare"] ["web","order","bare"] (ai di):=⟨rfl,rfl,rfl,by decide +kernel,rfl,by decide +kernel,by decide +kernel⟩
theorem ok_ask{f f2 BO TW PL PS WC:Addr}{fd d2:FuncData} (F:Fun K "_law_asked" "_law_asked" di f fd) (G_least_many:CalX P w K mg base 6 "least_many" ["web","order"] (spLM BO TW PL PS WC) f2 d2) (bn1:iG K d2 ["web","order"] [.none]):FnOk P w K mg base (CXr P w) 7 f fd ["web","order","bare"] (Ik TW PL PS WC):=by
 refine F.okX xM (fun vs H Q E h=>?_) (fun cdv A outer s H vs Q E hr h=>?_)
 ·obtain⟨p,o,b,m,es,ts,ks,od,ms,rfl,_⟩:=h
  rfl
 obtain⟨p,o,b,m,es,ts,ks,od,ms,rfl,⟨wt,kl,tn,e100,m40,ho,pm,hb⟩,fr,kw,kk⟩:=h
 have inj:∀{x y:List Nat},cI x=cI y->x=y:=fun{x y} h=>(List.map_inj_right (fun a b h=>by omega)).mp h
 have pmI:(cI od).Perm (rI m):=pm.map _
 have ol:od.length=m:=by rw[pm.length_eq,M6]
 have hbd:∀ e∈es,e.1<m/\e.2<m:=fun e he=>⟨(tn.ends e he).1,(tn.ends e he).2.1⟩
 have msl:ms.length=m+1:=by rw[fr.1,ol]
 have tk:ms.take (m+1)=ms:=MY (by omega)
 have fin:∀ v,Told m v H (cI od)->spLM BO TW PL PS WC [.ref p,v] H Q E:=fun v hv=>by
  refine⟨p,m,es,ts,ks,v,cI od,rfl,wt,kl,tn,e100,m40,hv,fun z=>absurd pmI z,fun od' e' _ ms' fr' wd=>?_,fun od' e' _ ms' fr' nw u T' e H' s' pa be he=>?_⟩
  ·have:od'=od:=(inj e').symm
   subst this
   have:=t9 fr fr'
   subst this
   rw[tk]at wd
   exact kw wd
  ·have:od'=od:=(inj e').symm
   subst this
   have:=t9 fr fr'
   subst this
   rw[tk]at nw
   exact kk nw u e.2 H' s' pa (ans_of pm hbd be he)
 refine⟨_,(af (dm (aM jW (pv 2) ah (aR _)) (ao (aO (fD G_least_many.ok (hr.mono (by decide)) rfl G_least_many.mg G_least_many.kp bn1 (dvs:=[.non]) (.cons rfl .nil) j6 rfl (aa (pv 0) ag)))) bc)
   (af (dm (aM jW (pv 2) ah (aR _)) (ao (aO (fD G_least_many.ok (hr.mono (by decide)) rfl G_least_many.mg G_least_many.kp G_least_many.bn .nil j6 rfl (aa (pv 0) (aa FJ ag))))) bc)
   (ao (aO (fD G_least_many.ok (hr.mono (by decide)) rfl G_least_many.mg G_least_many.kp G_least_many.bn .nil j6 rfl (aa (pv 0) (aa (pv 1) ag))))))),?_⟩
 have bare:b≠0->Told m .non H (cI od):=fun z=>by
  rcases hb with y | y
  ·exact absurd y z
  ·subst y
   exact .inl ⟨rfl,rfl⟩
 refine⟨_,rfl,rfl,_,rfl,ite2 (fun c=>?_) (fun c=>?_)⟩
 ·have c':b=1:=V.int.inj (of_decide_eq_true c)
  exact⟨_,rfl,fin .non (bare (by omega))⟩
 refine⟨_,rfl,rfl,_,rfl,ite2 (fun c=>?_) (fun c=>?_)⟩
 ·have c':b=2:=V.int.inj (of_decide_eq_true c)
  exact⟨_,rfl,fin .non (bare (by omega))⟩
 exact⟨_,rfl,_,rfl,fin (.ref o) (.inr ⟨o,rfl,by rw[cI_V];exact ho,by unfold cI;rw[LW];omega⟩)⟩
theorem dz:aE ["web","order","bare","found","e"] ["web","order","bare"] (ai b4):=⟨rfl,rfl,rfl,by decide +kernel,rfl,by decide +kernel,by decide +kernel⟩
theorem KS{f f2 TW FE PL PS WC:Addr}{fd d2:FuncData} (F:Fun K "_law_refused" "_law_refused" b4 f fd) (T:TxtX mg TW) (X_FloorError:ErrC K mg "FloorError" FE) (X_TooWide:ErrC K mg "TooWide" TW) (mTF:NI K TW (.ref FE)=some true) (G_law_asked:CalX P w K mg base 7 "_law_asked" ["web","order","bare"] (Ik TW PL PS WC) f2 d2):FnOk P w K mg base CX0 8 f fd ["web","order","bare"] (Fd PL PS WC):=by
 have hCs:∀ c,c=TW->ExC K c/\NI K c (.ref FE)=some true:=fun c hc=>by subst hc;exact⟨X_TooWide.ec,mTF⟩
 refine F.ok dz (fun vs H Q E h=>?_) (fun cdv A outer s H vs Q E hr h=>?_)
 ·obtain⟨p,o,b,m,es,ts,ks,od,ms,rfl,_⟩:=h
  rfl
 obtain⟨p,o,b,m,es,ts,ks,od,ms,rfl,ak,fr,wd,kk⟩:=h
 refine⟨_,(af (au (i:=3) dz.nd rfl (Or.inl rfl) FJ)
   (af (Ir (ie:=4) (Cs:=(fun c=>c=TW)) rfl rfl rfl dz.nd rfl rfl rfl X_FloorError.mg X_FloorError.ec hCs (fun pins XE W ws=>(ao (aX (IB G_law_asked.ok (hr.mono (by decide)) rfl G_law_asked.mg G_law_asked.kp G_law_asked.bn .nil ws rfl (aa (pv 0) (aa (pv 1) (aa (pv 2) ag))))))) (fun v=>(ao (au (i:=3) dz.nd rfl (Or.inl rfl) (pv 4)))))
   (ao (aO (az Hm (by rfl) T.n_isinstance eG (aa (pv 3) (aa (FK (v:=.ref _) rfl T.g_TooWide rfl) ag))))))),?_⟩
 refine⟨_,rfl,_,rfl,_,rfl,p,o,b,m,es,ts,ks,od,ms,rfl,ak,fr,fun _ H1 s1=>⟨TW,rfl,rfl,fun x hx=>?_⟩,fun nw=>?_⟩
 ·refine⟨_,rfl,?_⟩
  exact⟨_,rfl,x,TW,rfl,ae,kk _ (s1.trans (aj hx _))⟩
 ·obtain⟨M,hM,h8⟩:=wd
  have:=nw M hM
  omega
end
end K8
namespace K8
open PySem L2
local macro_rules | `(tactic| walk_at "cc") => `(tactic| first | exact ⟨by decide, by decide⟩ | (show (0 : Int) < _; decide) | (show (0 : Int) < _; omega) | (show (0 : Int) ≤ _; omega) | exact ⟨by decide, by decide, by decide⟩ | exact ⟨by omega, by omega, by decide⟩ | exact Or.inl ⟨by decide, by decide⟩ | exact Or.inl ⟨by omega, by omega⟩)
local macro_rules | `(tactic| walk_at "rd") => `(tactic| repeat (first | refine ⟨_, rfl, ?_⟩ | refine ⟨_, _, rfl, rfl, ?_⟩ | refine ⟨rfl, ?_⟩ | (refine ⟨?cc, ?_⟩; (case cc => walk_at "cc"))))
theorem FI{o:List Nat}{m:Nat}(ol:o.length=m)(nd:o.Nodup)(ob:∀ x∈o,x<m):o.Perm (MH m):=by
 refine(NP nd NK).mpr fun x=>⟨fun h=>MK.mpr (ob x h),fun h=>?_⟩
 by_cases z:x∈o
 ·exact z
 ·exfalso
  have:=eY (Mo.mpr ⟨z,nd⟩) (N:=m) fun y hy=>by
   rcases LZ.mp hy with u | u
   ·rw[u];exact MK.mp h
   ·exact ob y u
  rw[MJ]at this
  omega
def restA(K:LU):TS:=fun D σ H=>∃(a t pe pt pk:Addr)(c:Int)(ns:List Int)(m:Nat)(es:En)(ts:List (List Nat))(ks:Kn),σ = [some (.ref a),some (.int c),some (.ref t),none,none,none,none,none,none,none,none] /\
 SqL K H a (ns.map V.int)/\mL H t pe pt pk m es ts ks/\0<es.length/\∀ H',D.rt (.bl true) H'
def restB(K:LU):TS:=fun D σ H=>∃(a t pe pt pk qo:Addr)(c b:Int)(ns:List Int)(m:Nat)(es:En)(ts:List (List Nat))(ks:Kn)(od:List Nat),σ = [some (.ref a),some (.int c),some (.ref t),some (.int (m:Int)),some (.int b),some (.ref qo),none,none,none,none,none] /\
 SqL K H a (ns.map V.int)/\mL H t pe pt pk m es ts ks/\0<es.length/\H qo=some (.lst (od.map iV))/\od.Perm (MH m)/\(b=0∨od=MH m)/\∀ H',D.rt (.bl true) H'
def restC:TS:=fun D σ H=>∃(x0 x1 x2 x3 x4 x5 x6 x8 x10:Option V)(qx q9:Addr)(od:List Nat),σ = [x0,x1,x2,x3,x4,x5,x6,some (.ref qx),x8,some (.ref q9),x10]/\H qx=some (.lst (od.map iV))/\H q9=some (.lst (od.map iV))/\D.nx σ H
section
variable{P:Program}{w:World}{K:LU}{mg:Str->Option Value}{base:Heap}
theorem Dd{K:LU}{H:Hp}{p:Addr}{a b:Int}(h:H p=some (.tup [.int a,.int b])):RdD K H (.ref p) (.tuple [.int a,.int b]):=by
 refine RdD.tup (SqT.of h) rfl fun j x d' q1 q2=>?_
 match j with
 |0=>cases q1;cases q2;exact .int _
 |1=>cases q1;cases q2;exact .int _
 |j+2=>cases q1
theorem yd(a b:Int):SeqAt.shaped (.tuple [.int a,.int b])=true:=by
 simp[SeqAt.shaped,PyData.canLay0,PyData.canLayAll0,PyData.depth,PyData.depthAll]
theorem gc:aE ["script","way","built","many","bare","first","answers","order","plain","handed","turned"] ["script"] (ai uX):=⟨rfl,rfl,rfl,by decide +kernel,rfl,by decide +kernel,by decide +kernel⟩
theorem ok_law{f fB fC fo fW fw fR fa fr ft fg TW PL PS WC:Addr}{fd dB dC do' dW dw dR da dr dt dg:FuncData} (F:Fun K "law" "law" uX f fd) (T:Txt mg) (G_law_built:Cal P w K mg base 5 "_law_built" ["script","first","most"] (uH K) fB dB) (G_law_cell:Cal P w K mg base 1 "_law_cell" ["script","k"] (C4 K) fC dC) (G_law_order:Cal P w K mg base 1 "_law_order" ["cell","many"] uE fo do')
  (G_law_web:Cal P w K mg base 7 "_law_web" ["built"] (Fh PL PS WC) fW dW) (G_law_widest:Cal P w K mg base 1 "_law_widest" ["ends","order"] (Kh K) fw dw) (G_law_refused:Cal P w K mg base 8 "_law_refused" ["web","order","bare"] (Fd PL PS WC) fR dR)
  (G_law_asked:CalX P w K mg base 7 "_law_asked" ["web","order","bare"] (Ik TW PL PS WC) fa da) (G_law_rim:Cal P w K mg base 1 "_law_rim" ["ends","patch"] (Kj K) fr dr) (G_law_turned:Cal P w K mg base 1 "_law_turned" ["built","ties"] Ki ft dt)
  (G_law_good:Cal P w K mg base 3 "_law_good" ["found"] Fj fg dg):FnOk P w K mg base CX0 9 f fd ["script"] (Ij K):=by
 refine F.ok gc (fun vs H Q E h=>?_) (fun cdv A outer s H vs Q E hr h=>?_)
 ·obtain⟨a,ns,rfl,_⟩:=h
  rfl
 obtain⟨a,ns,rfl,hS,h63,kk⟩:=h
 have hu64:=hr.units
 have hu:=GG hr
 refine⟨_,(af (au (i:=1) gc.nd rfl (Or.inl rfl) (aF G_law_cell.ok (hr.mono (by decide)) rfl G_law_cell.mg G_law_cell.kp G_law_cell.bn .nil aW (aa (pv 0) (aa ah ag))))
   (af (au (i:=2) gc.nd rfl (Or.inl rfl) (aF G_law_built.ok (hr.mono (by decide)) rfl G_law_built.mg G_law_built.kp G_law_built.bn .nil aW (aa (pv 0) (aa ah (aa ah ag)))))
   (af (dm (aM jW (ay bD (pv 1) ah) ah (aR _)) (ao (au (i:=2) gc.nd rfl (Or.inl rfl) (b9 (aa (aD aI (pv 2) ah (fun _ _=>rfl)) (aa (aD aI (pv 2) ah (fun _ _=>rfl)) (aa (dH rfl (fr:=[]) (by exact bK.plain (by rfl) (by decide +kernel) (by rfl) (by decide +kernel) (by rfl) (by decide +kernel)) (aV (aD aI (pv 2) ah (fun _ _=>rfl))) (fun C ex s H=>(b9 (aa (aD (kW (K:=K) rfl) (pv 0) ah (fun _ _=>rfl)) (aa (ay bD (aD (kW (K:=K) rfl) (pv 0) ah (fun _ _=>rfl)) ah) ag))))) ag)))))) bc)
   (AH (t2:=restA K) (af (au (i:=3) gc.nd rfl (Or.inl rfl) (az aw (by rfl) T.n_len bF (aa (aD aI (pv 2) ah (fun _ _=>rfl)) ag)))
   (af (au (i:=4) gc.nd rfl (Or.inl rfl) (ay bD (ay cQ (pv 1) ah) ah))
   (af (au (i:=5) gc.nd rfl (Or.inl rfl) (aF G_law_order.ok (hr.mono (by decide)) rfl G_law_order.mg G_law_order.kp G_law_order.bn .nil aW (aa (az (jV rfl) (by rfl) T.n_sum uh (aa (pv 0) ag)) (aa (pv 3) ag))))
   (af (dm (aM FO (pv 4) ah (aR _)) (ao (au (i:=5) gc.nd rfl (Or.inl rfl) (oq rfl rfl T.n_list rfl T.n_range (pv 3)))) bc)
   (AH (t2:=restB K) (af (au (i:=6) gc.nd rfl (Or.inr rfl) (cH ag))
   (af (bC PassesOwn.never rfl (aV (cH (aa (b9 (aa (pv 5) (aa (pv 4) ag))) (aa (b9 (aa (aF G_law_order.ok (hr.mono (by decide)) rfl G_law_order.mg G_law_order.kp G_law_order.bn .nil aW (aa (ay cQ (az (jV rfl) (by rfl) T.n_sum uh (aa (pv 0) ag)) ah) (aa (pv 3) ag))) (aa ah ag))) ag)))) (qg rfl (bG (aJ (i:=7) gc.nd rfl (Or.inl rfl)) (bG (aJ (i:=8) gc.nd rfl (Or.inl rfl)) kr))) (af (au (i:=9) gc.nd rfl (Or.inl rfl) (cb bT (by rfl) T.n_list iq (aa (pv 7) ag)))
   (af (dm (aM FO (aF G_law_widest.ok (hr.mono (by decide)) rfl G_law_widest.mg G_law_widest.kp G_law_widest.bn .nil aW (aa (aD aI (pv 2) ah (fun _ _=>rfl)) (aa (pv 7) ag))) ah (aR _)) (ao (dm (Jx (Fx (aF G_law_refused.ok (hr.mono (by decide)) rfl G_law_refused.mg G_law_refused.kp G_law_refused.bn .nil aW (aa (aF G_law_web.ok (hr.mono (by decide)) rfl G_law_web.mg G_law_web.kp G_law_web.bn .nil aW (aa (pv 2) ag)) (aa (pv 9) (aa (pv 8) ag)))))) (ao (aO IC)) bc)) (af (aX (dI Mn Mz My aU (pv 6) (aa (aF G_law_asked.ok (hr.mono (by decide)) rfl G_law_asked.mg G_law_asked.kp G_law_asked.bn .nil JA (aa (aF G_law_web.ok (hr.mono (by decide)) rfl G_law_web.mg G_law_web.kp G_law_web.bn .nil aW (aa (pv 2) ag)) (aa (pv 9) (aa (pv 8) ag)))) ag)))
   (af (au (i:=10) gc.nd rfl (Or.inl rfl) (aF G_law_turned.ok (hr.mono (by decide)) rfl G_law_turned.mg G_law_turned.kp G_law_turned.bn .nil aW (aa (pv 2) (aa (aF G_law_rim.ok (hr.mono (by decide)) rfl G_law_rim.mg G_law_rim.kp G_law_rim.bn .nil aW (aa (aD aI (pv 2) ah (fun _ _=>rfl)) (aa (ay bD (ay cQ (az (jV rfl) (by rfl) T.n_sum uh (aa (pv 0) ag)) ah) (ay iK ah (pv 3))) ag))) ag))))
   (ao (aX (dI Mn Mz My aU (pv 6) (aa (aF G_law_asked.ok (hr.mono (by decide)) rfl G_law_asked.mg G_law_asked.kp G_law_asked.bn .nil JA (aa (aF G_law_web.ok (hr.mono (by decide)) rfl G_law_web.mg G_law_web.kp G_law_web.bn .nil aW (aa (pv 10) ag)) (aa (pv 9) (aa (pv 8) ag)))) ag)))))))
   (AH (t2:=restC) (ao (dm (aM (JB hu64) (pv 9) (pv 7) (aR _)) (ao (aO IC)) bc)) (fun D0 S0 H0 h0=>?restc)))))
   (ao (aO (az (Hn rfl) (by rfl) T.n_all bt_all (aa (dH rfl (fr:=[("answers",6)]) (by exact bK.one (by rfl) (by decide +kernel) (by rfl) (by decide +kernel) (by rfl) (by decide +kernel) (by rfl) (by rfl) (by decide +kernel) (by rfl)) (aV (pv 6)) (fun C ex s H=>(qj (aF G_law_good.ok (hr.mono (by decide)) rfl G_law_good.mg G_law_good.kp G_law_good.bn .nil aW (aa (pv 0) ag)) (yc (iJ (show OpR _ (compareOp .Eq) (Kx true K) from op_eqD hu64) (pv 0) (aD (gX (K:=K) rfl) (pv 1) ah (fun _ _=>rfl)) (aR _)))))) ag)))))) (fun D0 S0 H0 h0=>?restb)))))) (fun D0 S0 H0 h0=>?resta))))),?_⟩
 case restc =>
  obtain⟨x0,x1,x2,x3,x4,x5,x6,x8,x10,qx,q9,od,rfl,hqx,hq9,kk⟩:=h0
  exact⟨_,rfl,_,rfl,_,Br (SqL.of hq9),Br (SqL.of hqx),kX _,_,rfl,iteF kk⟩
 case restb =>
  obtain⟨a,t,pe,pt,pk,qo,c,b,ns,m,es,ts,ks,od,rfl,hS,bp,e0,hqo,pm,hb,kk⟩:=h0
  have g:=bp.w.g
  have mf:=t5 g
  have few:=bp.few
  have kl:=bp.kl
  obtain⟨ht,⟨⟨ys,hpe,hE⟩,_,_⟩,⟨ws,hpk,hT⟩,_,_⟩:=id bp
  have k01:K01 ks:=fun n k hk=>(hT.2 n k hk).1
  have k0:∀(n:Nat)(k:Int×Int),ks[n]?=some k->0<=k.2:=fun n k hk=>(hT.2 n k hk).2.1
  have hbd:∀ e∈es,e.1<m/\e.2<m/\e.1≠e.2:=fun e he=>g.w.ends e he
  have hbd2:∀ e∈es,e.1<m/\e.2<m:=fun e he=>⟨(hbd e he).1,(hbd e he).2.1⟩
  have m0:0<m:=by
   obtain⟨e,he⟩:∃ e,es[0]?=some e:=⟨_,LS e0⟩
   have:=(hbd e (LV he)).1
   omega
  refine⟨(by show 0<=sizeLine;exact Na _),fun q6 hq6=>?_⟩
  have s1:=aj hq6 (.lst [])
  refine⟨_,rfl,_,rfl,(by show 2<=sizeLine;decide),fun t1 ht1=>?_⟩
  have s2:=aj ht1 (.tup [.ref qo,.int b])
  refine⟨_,rfl,a,ns,rfl,(s1.trans s2).seq hS,_,_,rfl,rfl,⟨by decide,by decide⟩,_,rfl,_,m,rfl,by omega,fun qo2 od2 H3 s3 nq hqo2 ol2 nd2 ob2=>?_⟩
  refine⟨(by show 2<=sizeLine;decide),fun t2 ht2=>?_⟩
  have s4:=aj ht2 (.tup [.ref qo2,.int 0])
  refine⟨(by show 2<=sizeLine;decide),fun ql hql=>?_⟩
  have s5:=aj hql (.lst [.ref t1,.ref t2])
  have pm2:=FI ol2 nd2 ob2
  have h61:=(((s2.trans s3).trans s4).trans s5) _ _ (ae (H:=H0) (a:=q6) (o:=.lst []))
  have h1:=((s3.trans s4).trans s5) _ _ (ae (a:=t1) (o:=.tup [.ref qo,.int b]) (H:=upd H0 q6 (.lst [])))
  have h2:=s5 _ _ (ae (a:=t2) (o:=.tup [.ref qo2,.int 0]) (H:=H3))
  have hl:=ae (a:=ql) (o:=.lst [.ref t1,.ref t2]) (H:=upd H3 t2 (.tup [.ref qo2,.int 0]))
  have hqo2':=(s4.trans s5) _ _ hqo2
  have s05:=(((s1.trans s2).trans s3).trans s4).trans s5
  generalize upd (upd H3 t2 (.tup [.ref qo2,.int 0])) ql (.lst [.ref t1,.ref t2])=H5 at h61 h1 h2 hl hqo2' s05
  have n26:qo2≠q6:=fun z=>by rw[z,s2 _ _ (ae (H:=H0) (a:=q6) (o:=.lst []))]at nq;cases nq
  have nl6:ql≠q6:=fun z=>by rw[z,h61]at hl;cases hl
  obtain⟨C,hC⟩:∃ C:Hp,C=fun b=>if b=q6 then none else H5 b:=⟨_,rfl⟩
  have CH:∀ b u,b≠q6->H5 b=some u->C b=some u:=fun b u n z=>by rw[hC];show(if b=q6 then none else H5 b)=_;rw[if_neg n];exact z
  have C6:C q6=none:=by rw[hC];show(if q6=q6 then none else H5 q6)=_;rw[if_pos rfl]
  have sC:Same C H5:=fun b u z=>by
   rw[hC]at z
   have z':(if b=q6 then none else H5 b)=some u:=z
   by_cases n:b=q6
   ·rw[if_pos n]at z';cases z'
   ·rw[if_neg n]at z';exact z'
  have s0C:Same H0 C:=fun b u z=>CH b u (aB z hq6) (s05 _ _ z)
  have hlC:=CH _ _ nl6 hl
  have h1C:=CH _ _ (fun z=>by rw[z,h61]at h1;cases h1) h1
  have h2C:=CH _ _ (fun z=>by rw[z,h61]at h2;cases h2) h2
  have hq2C:=CH _ _ n26 hqo2'
  have hq1C:=s0C _ _ hqo
  have bpC:=bp.mono s0C
  have row:∀(i:Nat)(x:V),[V.ref t1,V.ref t2][i]?=some x->∃ tx qx bx odx,x=.ref tx/\C tx=some (.tup [.ref qx,.int bx])/\C qx=some (.lst (odx.map iV))/\odx.Perm (MH m)/\(bx=0∨odx=MH m):=fun i x hx=>by
   match i,hx with
   |0,hx=>cases hx;exact⟨t1,qo,b,od,rfl,h1C,hq1C,pm,hb⟩
   |1,hx=>cases hx;exact⟨t2,qo2,0,od2,rfl,h2C,hq2C,pm2,.inl rfl⟩
   |i+2,hx=>cases hx
  refine⟨ql,rfl,⟨_,SqL.of hl⟩,cn (K:=K) (xs:=[.ref t1,.ref t2]) (fun i σ H6=>∃(zs:List V)(vs:List Pr)(v7 v8 v9 v10:Option V),σ = [some (.ref a),some (.int c),some (.ref t),some (.int (m:Int)),some (.int b),some (.ref qo),some (.ref q6),v7,v8,v9,v10]/\Same C H6/\H6 q6=some (.lst zs)/\LsAt PrAt H6 zs vs/\(∀ v∈vs,AnsC es ks m v)/\zs.length<=2*i) ⟨[],[],_,_,_,_,rfl,sC,h61,LsAt.nil,(fun v z=>by cases z),Ma _⟩ (fun i σ H6 _ ⟨_,_,_,_,_,_,_,z,_⟩=>SqL.of (z _ _ hlC)) ?_ ?_⟩
  ·rintro i x σ H6 hx ⟨zs,vs,v7,v8,v9,v10,rfl,s6,h6,ls,an,zl⟩
   obtain⟨tx,qx,bx,odx,rfl,htx,hqx,pmx,hbx⟩:=row i x hx
   have i2:i<2:=(LR.mp hx).1
   obtain⟨ms,fr⟩:=Et es odx
   have hqx6:=s6 _ _ hqx
   refine⟨tx,_,rfl,SqT.of (s6 _ _ htx),rfl,_,_,rfl,_,_,rfl,rfl,?_⟩
   refine⟨_,rfl,qx,_,rfl,.inl (SqL.of hqx6),fun q9 hq9=>?_⟩
   have s9:=aj hq9 (.lst (odx.map iV))
   have h9:(upd H6 q9 (.lst (odx.map iV))) q9=some (.lst (odx.map iV)):=ae
   have h69:=s9 _ _ h6
   have s69:=s6.trans s9
   have ls9:LsAt PrAt (upd H6 q9 (.lst (odx.map iV))) zs vs:=ls.imp fun y e q=>q.mono s9
   generalize upd H6 q9 (.lst (odx.map iV))=H9 at s9 h9 h69 s69 ls9
   have bp9:=bpC.mono s69
   have n96:q9≠q6:=fun z=>by rw[z,h6]at hq9;cases hq9
   have E9:bV H9 ys es:=hE.mono (s0C.trans s69)
   have hpe9:=(s0C.trans s69) _ _ hpe
   have ht9:=(s0C.trans s69) _ _ ht
   refine⟨_,rfl,t,_,0,_,rfl,rfl,SqT.of ht9,at30,_,rfl,pe,qx,ys,es,odx,ms,m,rfl,SqL.of hpe9,E9,s69 _ _ hqx,pmx,by omega,hbd,fr,fun W HA sA hW=>?_⟩
   refine⟨_,_,rfl,rfl,_,rfl,ite2 (fun c8=>?_) (fun c8=>?_)⟩
   ·have c8':(8:Int)<(W:Int):=of_decide_eq_true c8
    have wd:=hW.mp (by omega)
    refine⟨_,rfl,t,pe,pt,pk,m,es,ts,ks,rfl,bp9.mono sA,e0,fun p rs HB sB wf=>?_⟩
    have sAB:=sA.trans sB
    refine⟨_,rfl,_,rfl,p,q9,bx,m,es,ts,ks,odx,ms,rfl,⟨wf.t,kl,g.w,by omega,by omega,sAB _ _ h9,pmx,hbx⟩,fr,wd,fun HC sC'=>?_⟩
    have sAC:=sAB.trans sC'
    refine⟨_,rfl,iteF ?_⟩
    refine⟨_,_,_,_,_,_,_,_,_,qx,q9,odx,rfl,(s69.trans sAC) _ _ hqx,sAC _ _ h9,?_⟩
    exact⟨zs,vs,_,_,_,_,rfl,s69.trans sAC,sAC _ _ h69,ls9.imp fun y e q=>q.mono sAC,an,by omega⟩
   ·have c8':¬ (8:Int)<(W:Int):=fun z=>c8 (decide_eq_true z)
    have nwd:∀ M∈ms,(bl M).length<=8:=fun M hM=>by
     by_cases z:8<(bl M).length
     ·exact absurd (hW.mpr ⟨M,hM,z⟩) (by omega)
     ·omega
    have hA6:=sA _ _ h69
    refine⟨_,rfl,.inl ⟨rfl,_,SqL.of hA6⟩,_,rfl,t,pe,pt,pk,m,es,ts,ks,rfl,bp9.mono sA,e0,fun p rs HB sB wf=>?_⟩
    have sAB:=sA.trans sB
    refine⟨_,rfl,_,rfl,p,q9,bx,m,es,ts,ks,odx,ms,rfl,⟨wf.t,kl,g.w,by omega,by omega,sAB _ _ h9,pmx,hbx⟩,fr,fun⟨M,hM,h8⟩=>absurd (nwd M hM) (by omega),fun _ u v HC sC' pr av=>?_⟩
    have sAC:=sAB.trans sC'
    have hC6:=sAC _ _ h69
    refine⟨q6,zs,u,rfl,rfl,hC6,ar (by omega),?_⟩
    have sCD:Same C (upd HC q6 (.lst (zs++[u]))):=aL (s69.trans sAC) C6 _
    have lsC:LsAt PrAt HC (zs++[u]) (vs++[v]):=(ls9.imp fun y e q=>q.mono sAC).snoc pr
    have put:∀{HX:Hp}{zz:List V}{zw:List V}{vv:List Pr},HX q6=some (.lst zw)->LsAt PrAt HX zz vv->LsAt PrAt (upd HX q6 (.lst zz)) zz vv:=fun{HX zz zw vv} hX lX=>⟨lX.1,fun n e z=>by
     obtain⟨y,y1,y2,y3,y4⟩:=lX.2 n e z
     refine⟨y,y1,y2,y3,?_⟩
     rw[aq (fun z=>by rw[z,hX]at y4;cases y4)]
     exact y4⟩
    have lsD:=put hC6 lsC
    have hD6:(upd HC q6 (.lst (zs++[u]))) q6=some (.lst (zs++[u])):=ae
    have hD9:(upd HC q6 (.lst (zs++[u]))) q9=some (.lst (odx.map iV)):=by rw[aq n96];exact sAC _ _ h9
    generalize upd HC q6 (.lst (zs++[u]))=HD at sCD lsD hD6 hD9
    have bpD:=bpC.mono sCD
    obtain⟨Pm,ePm,hPm⟩:∃ n:Nat,ns.sum/3%(1*2^((m:Nat):Int).toNat)=(n:Int)/\n<2^m:=by
     rw[shlN]
     have p2:=OB m
     have h1:=Nw (ns.sum/3) (show((2^m:Nat):Int)≠0 by omega)
     have h2:=ND (ns.sum/3) (show(0:Int)<((2^m:Nat):Int) by omega)
     exact⟨(ns.sum/3%((2^m:Nat):Int)).toNat,by omega,by omega⟩
    refine⟨_,rfl,_,rfl,t,_,0,_,rfl,rfl,SqT.of ((s0C.trans sCD) _ _ ht),at30,_,rfl,a,ns,rfl,(s0C.trans sCD).seq hS,_,_,rfl,rfl,⟨by decide,by decide⟩,_,rfl,_,_,rfl,rfl,⟨by omega,by omega,by decide⟩,_,_,rfl,rfl,(by rw[shlN];have:=OB m;omega),?_⟩
    dsimp only
    rw[ePm]
    refine⟨pe,ys,es,Pm,m,rfl,SqL.of ((s0C.trans sCD) _ _ hpe),hE.mono (s0C.trans sCD),by omega,by omega,hbd2,fun R HE sE rim=>?_⟩
    refine⟨t,pe,pt,pk,m,R,es,ts,ks,rfl,bpD.mono sE,fun t' pk' ks' HF sF bpF trn=>?_⟩
    have sEF:=sE.trans sF
    have hF6:=sEF _ _ hD6
    refine⟨_,rfl,.inl ⟨rfl,_,SqL.of hF6⟩,_,rfl,t',pe,pt,pk',m,es,ts,ks',rfl,bpF,e0,fun p2 rs2 HG sG wf2=>?_⟩
    have sEG:=sEF.trans sG
    refine⟨_,rfl,_,rfl,p2,q9,bx,m,es,ts,ks',odx,ms,rfl,⟨wf2.t,bpF.kl,g.w,by omega,by omega,sEG _ _ hD9,pmx,hbx⟩,fr,fun⟨M,hM,h8⟩=>absurd (nwd M hM) (by omega),fun _ u2 v2 HI sI pr2 av2=>?_⟩
    have sEI:=sEG.trans sI
    have hI6:=sEI _ _ hD6
    refine⟨q6,_,u2,rfl,rfl,hI6,ar (by rw[LX,Me];omega),?_⟩
    have lsI:LsAt PrAt HI (zs++[u]++[u2]) (vs++[v]++[v2]):=(lsD.imp fun y e q=>q.mono sEI).snoc pr2
    refine⟨_,_,_,_,_,_,_,_,_,qx,q9,odx,rfl,?_,?_,?_⟩
    ·exact aL (sCD.trans sEI) C6 _ _ _ hqx
    ·rw[aq n96];exact sEI _ _ hD9
    refine⟨_,_,_,_,_,_,rfl,aL (sCD.trans sEI) C6 _,ae,put hI6 lsI,fun y hy=>?_,by rw[LX,LX];show zs.length+1+1<=_;omega⟩
    rcases Mc.mp hy with z | z
    ·rcases Mc.mp z with z | z
     ·exact an y z
     ·rw[Mu.mp z];exact av
    ·rw[Mu.mp z];exact Jq kl k01 trn rim hPm av2
  ·rintro σ H6 ⟨zs,vs,v7,v8,v9,v10,rfl,s6,h6,ls,an,zl⟩
   have zl4:zs.length<=4:=zl
   refine⟨_,rfl,q6,rfl,⟨_,SqL.of h6⟩,bH (K:=K) (xs:=zs) (fun n us H7=>Same H6 H7/\us=(Ng n true).map V.bl) (MX (ar (by omega))) ⟨fun _ _ z=>z,rfl⟩ (fun n us H7 _ z=>SqL.of (z.1 _ _ h6)) ?_ ?_⟩
   ·rintro n x us H7 hx ⟨s7,rfl⟩
    obtain⟨v,hv,pa⟩:=ls.get hx
    have zpos:0<zs.length:=OP (Na n) (LR.mp hx).1
    obtain⟨x0,hx0⟩:∃ x0,zs[0]?=some x0:=⟨_,LS zpos⟩
    obtain⟨v0,hv0,pa0⟩:=ls.get hx0
    have av:=an v (LV hv)
    have av0:=an v0 (LV hv0)
    have ev:=Jr kl k01 hbd2 m0 av
    have e1:v0=v:=Bst.one av0 av
    subst e1
    refine⟨_,rfl,x,v0,rfl,pa.mono s7,ans_nn k0 av,ev.1,ev.2,_,rfl,iteT ?_⟩
    obtain⟨tx,rfl,htx⟩:=pa
    obtain⟨tx0,rfl,htx0⟩:=pa0
    refine⟨_,rfl,_,rfl,q6,zs,0,_,rfl,rfl,SqL.of (s7 _ _ h6),(show atI zs ((0:Nat):Int)=some (.ref tx0) from aG hx0),?_⟩
    refine⟨_,Dd (s7 _ _ htx),Dd (s7 _ _ htx0),yd _ _,s7,?_⟩
    rw[OG,MD]
    rfl
   rintro us H7 _ ⟨s7,rfl⟩ D hD
   exact⟨D,zs.length,rfl,SqL.of ae,kk _⟩
 case resta =>
  obtain⟨a,t,pe,pt,pk,c,ns,m,es,ts,ks,rfl,hS,bp,e0,kk⟩:=h0
  have g:=bp.w.g
  have mf:=t5 g
  have few:=bp.few
  obtain⟨ht,⟨_,⟨xs,hpt,hR⟩,_⟩,_,_,_⟩:=id bp
  have hxm:xs.length=m:=by rw[hR.1,g.w.len]
  refine⟨_,rfl,t,_,1,_,rfl,rfl,SqT.of ht,at31,pt,xs,rfl,.inl (SqL.of hpt),?_⟩
  rw[hxm]
  refine⟨_,rfl,_,_,rfl,rfl,⟨by decide,by decide⟩,_,_,rfl,rfl,(by show(0:Int)<3;decide),?_⟩
  refine⟨_,rfl,a,ns,rfl,hS,_,rfl,_,m,rfl,by omega,fun qo o H3 s3 nq hqo ol nd ob=>?_⟩
  have pm:=FI ol nd ob
  refine⟨_,rfl,_,_,rfl,rfl,_,rfl,?_⟩
  have b3:0<=c/2%3:=Nw _ (by decide)
  refine ite2 (fun c2=>?_) (fun c2=>?_)
  ·refine⟨_,rfl,m,rfl,by omega,fun qr hqr=>?_⟩
   have s4:=aj hqr (.lst ((MH m).map fun(i:Nat)=>V.int ((i:Nat):Int)))
   exact⟨a,t,pe,pt,pk,qr,c,_,ns,m,es,ts,ks,MH m,rfl,(s3.trans s4).seq hS,(bp.mono s3).mono s4,e0,ae,NR _,.inr rfl,kk⟩
  ·have c2':¬ (0:Int)<c/2%3:=fun z=>c2 (decide_eq_true z)
   exact⟨a,t,pe,pt,pk,qo,c,_,ns,m,es,ts,ks,o,rfl,s3.seq hS,bp.mono s3,e0,hqo,pm,.inl (by omega),kk⟩
 refine⟨_,rfl,a,0,ns,rfl,hS,?_⟩
 refine⟨_,rfl,a,ns,rfl,hS,h63,fun t pe pt pk m es ts ks H1 s1 bp=>?_⟩
 have g:=bp.w.g
 have few:=bp.few
 have kl:=bp.kl
 obtain⟨ht,wp,⟨ws,hpk,hT⟩,_,_⟩:=id bp
 have hwl:ws.length=ks.length:=hT.1
 have e0:0<es.length:=by
  cases es with
  |nil =>
   exfalso
   obtain⟨rs,p,c⟩:=g.part
   have:rs.length=0∨0<rs.length:=by omega
   rcases this with z | z
   ·have m2:m=2:=by simpa[z] using c
    have:=g.conn (fun x=>x=0) (fun e he=>nomatch he) 0 1 (by omega) (by omega) rfl
    cases this
   ·obtain⟨d,hd⟩:=(p.cr _ (LV (LS z))).ne
    have:=(p.cr _ (LV (LS z))).lt d hd
    cases this
  |cons e es=>exact Nat.succ_pos _
 generalize pC ns 0=c
 refine⟨_,rfl,_,_,rfl,rfl,(by show(0:Int)<2;decide),rfl,_,rfl,?_⟩
 refine ite2 (fun c1=>?_) (fun c1=>?_)
 ·refine⟨_,rfl,t,_,0,_,rfl,rfl,SqT.of ht,at30,_,rfl,t,_,1,_,rfl,rfl,SqT.of ht,at31,_,rfl,t,_,2,_,rfl,rfl,SqT.of ht,at32,pk,rfl,⟨_,SqL.of hpk⟩,bH (K:=K) (xs:=ws) (fun i zs H2=>∃ k2:Kn,Same H1 H2/\gw H2 zs k2/\k2.length=i) (MX (ar (by omega))) ⟨[],fun _ _ z=>z,⟨rfl,fun i k e=>by simp at e⟩,rfl⟩ (fun i zs H2 _ ⟨_,z,_⟩=>SqL.of (z _ _ hpk)) ?_ ?_⟩
  ·rintro i x zs H2 hx ⟨k2,s2,td,kl2⟩
   obtain⟨k,hk⟩:∃ k,ks[i]?=some k:=⟨_,LS (by rw[← hwl];exact(LR.mp hx).1)⟩
   obtain⟨k01,k0,t2,z1,z2⟩:=hT.2 i k hk
   rw[hx]at z1
   cases z1
   refine⟨_,rfl,t2,_,0,_,rfl,rfl,SqT.of (s2 _ _ z2),at0,_,rfl,t2,_,1,_,rfl,rfl,SqT.of (s2 _ _ z2),at1,_,_,rfl,rfl,(by show(0:Int)<3;decide),(by show 2<=sizeLine;decide),fun t3 ht3=>?_⟩
   have s3:=aj ht3 (.tup [.int k.1,.int (k.2%3)])
   exact⟨k2++[(k.1,k.2%3)],s2.trans s3,(td.mono s3).snoc ae k01 (by show 0<=k.2%3;omega),by rw[LX,kl2];rfl⟩
  rintro zs H2 zl ⟨k2,s2,td,kl2⟩ D hD
  have sD:=aj hD (.lst zs)
  refine⟨(by show 3<=sizeLine;decide),fun t4 ht4=>?_⟩
  have s4:=aj ht4 (.tup [.ref pe,.ref pt,.ref D])
  have s24:=(s2.trans sD).trans s4
  refine⟨a,t4,pe,pt,D,c,ns,m,es,ts,k2,rfl,(s1.trans s24).seq hS,⟨ae,wp.mono s24,⟨zs,s4 _ _ ae,(td.mono sD).mono s4⟩,few,by omega⟩,e0,fun H'=>kk H'⟩
 ·exact⟨a,t,pe,pt,pk,c,ns,m,es,ts,ks,rfl,s1.seq hS,bp,e0,fun H'=>kk H'⟩
end
end K8
namespace K8
open PySem L2
theorem all_mk{l:O6}{w:World}{K:LU}{h:Heap}{mg:Str->Option Value}{fa cM cN cg bo bj eI Du Dr ma eF jO jT pV gZ bO er fM cq eE fO bE gs bh cu fi Dt md jU fN g8 jN eA dD cU cK jS jQ fT hV h7 hZ cp ia mh g9 jP fP fQ mn ib eB jR Ly:Addr}(X:K.In h)(G:h.Ns mainGlobals mg) (hfa:mg "law" = some (.ref fa))
  {Lc LO K9 LM DU ES sH tM A6 CJ Bb CP FY HL yf zR ku lB sj tI vm w6 mX nW sy tL vp xc vz xj Be CS o5 pG yp zZ yq z6 Lb LN DV ET Bc CQ vo xb yg zS A5 CI sq tJ qm rA o4 pF vy xi Ba CO A8 CM vx xh yi zU yk zW yj zV mW nV yn zX DW EU yh zT A7 CK vq xf vt xg DX EV yo zY su tK A9 CN od_law JJ:Option Addr} {Kt Kr DD rY Ap Av Fo xA kj rU uK mQ rX uO uU Ax oW xI xJ Ks DE Aw uM xB Ao rV qa oV uT Au Ar uR xD xF xE mP xG DF xC Aq uP uQ DG xH rW As sl_law:Array (Option Value)} {Lf Lq LD KJ Hi LI Ld Lo LB KH He LG DY El Ew DN ub EA sO sV tm sh kf tG Bh BJ B3 AM qQ Ce Bn BP B8 AS qV Cn FZ Gp G4 FC zC Hb yr yN za xR oy zk kx kU k8 kq fj k9 sJ sQ sW r6 ka tw vA vT wg u9 mr wF mZ nz nF mU gv nI sN sU tj se ke tF vC vV wk vb mw wH vH wa wy vg mE wN Bp BR Ca AV qX Cp o7 pj pz oZ iD pB yA yV zi x9 oI zx yB yW zj ya oJ zy Le Lp LC KI Hg LH DZ Em Ex DO uc EB Bo BQ B9 AU qW Co vB vU wj va mv wG yt yO zb xS oz zm Bg BI B0 AL qP Cc sL sR sY r8 kc tD qp qI qM qd i8 qN o6 pf pq oY iC pA vG vZ wx vf mD wM Bm BN B7 AR qU Cm Bj BL B5 AO qS Cj vF vY wu ve mB wK yv yQ zd xV oB zp yx yS zf xX oF zt yw yR ze xW oE zr mY nv nE mT gu nH yy yT zg xY oG zu D1 Eo Ey DP ud EC yu yP zc xU oA zo Bi BK B4 AN qR Ci vD vW wo vc my wI vE vX wq vd mz wJ D3 Ep Ez DQ ue ED yz yU zh xZ oH zv sM sS sZ r9 kd tE Bk BM B6 AQ qT Ck oc_law JD JF Jy Hf JG:Value}
  {ti_wide:Tok}
  {Dw:Addr} {Ha:Value} {G9:Option Addr} {G8:Nat} {G7:Array (Option Value)}
  {ox:Addr} {wD:Value} {wC:Option Addr} {wB:Nat} {wA:Array (Option Value)}
  (iA:Mg K mainGlobals "FloorError" = some (some (.ref cM)))
  (lK:Mg K mainGlobals "BadOrder" = some (some (.ref cN)))
  (oi:Mg K mainGlobals "TooWide" = some (some (.ref cg)))
  (CV:Mg K mainGlobals "Pull" = some (some (.ref bo)))
  (CU:Mg K mainGlobals "Push" = some (some (.ref bj)))
  (HQ:Mg K mainGlobals "Web" = some (some (.ref eI)))
  (iR:MA K (.ref bo) "__init__" = some (some (.ref bE)))
  (iQ:MA K (.ref bo) "wish" = some (some (.ref gs)))
  (dv:MA K (.ref bo) "unpleased" = some (some (.ref bh)))
  (gG:MA K (.ref bo) "price" = some (some (.ref cu)))
  (iP:MA K (.ref bj) "__init__" = some (some (.ref bE)))
  (iO:MA K (.ref bj) "wish" = some (some (.ref fi)))
  (du:MA K (.ref bj) "unpleased" = some (some (.ref bh)))
  (gF:MA K (.ref bj) "price" = some (some (.ref cu)))
  (kH:MA K (.ref eI) "__init__" = some (some (.ref cK)))
  (HP:Mg K mainGlobals "bits" = some (some (.ref Du)))
  (Gj:K.lookup Du=some ⟨Lf,Lc,.func (Mi "bits" "bits" (aA tS) (ax tS) (ai tS) .none Lq LD KJ LO Hi LI),Kt⟩)
  (Hr:Mf K Hi "bits" = true)
  (Dk:Md K (.ref Du)=true)
  (HM:Mg K mainGlobals "ones" = some (some (.ref Dr)))
  (Gg:K.lookup Dr=some ⟨Ld,K9,.func (Mi "ones" "ones" (aA tQ) (ax tQ) (ai tQ) .none Lo LB KH LM He LG),Kr⟩)
  (Ho:Mf K He "ones" = true)
  (Dj:Md K (.ref Dr)=true)
  (rB:Mg K mainGlobals "reached" = some (some (.ref ma)))
  (qD:K.lookup ma=some ⟨DY,DU,.func (Mi "reached" "reached" (aA gg) (ax gg) (ai gg) .none El Ew DN ES ub EA),DD⟩)
  (q0:Mf K ub "reached" = true)
  (lY:Md K (.ref ma)=true)
  (iz:Mg K mainGlobals "ends_within" = some (some (.ref eF)))
  (gM:K.lookup eF=some ⟨sO,sH,.func (Mi "ends_within" "ends_within" (aA b6) (ax b6) (ai b6) .none sV tm sh tM kf tG),rY⟩)
  (ip:Mf K kf "ends_within" = true)
  (eh:Md K (.ref eF)=true)
  (nY:Mg K mainGlobals "order_of" = some (some (.ref jO)))
  (m7:K.lookup jO=some ⟨Bh,A6,.func (Mi "order_of" "order_of" (aA eK) (ax eK) (ai eK) .none BJ B3 AM CJ qQ Ce),Ap⟩)
  (nL:Mf K qQ "order_of" = true)
  (jF:Md K (.ref jO)=true)
  (og:Mg K mainGlobals "front_of" = some (some (.ref jT)))
  (nj:K.lookup jT=some ⟨Bn,Bb,.func (Mi "front_of" "front_of" (aA eT) (ax eT) (ai eT) .none BP B8 AS CP qV Cn),Av⟩)
  (nQ:Mf K qV "front_of" = true)
  (jK:Md K (.ref jT)=true)
  (xk:Mg K mainGlobals "fronts" = some (some (.ref pV)))
  (vR:K.lookup pV=some ⟨FZ,FY,.func (Mi "fronts" "fronts" (aA jB) (ax jB) (ai jB) (.ref Dw) Gp G4 FC HL zC Hb),Fo⟩)
  (qC:K.lookup Dw=some ⟨Ha,G9,.seq #[.none] G8,G7⟩)
  (wR:Mf K zC "fronts" = true)
  (pT:Md K (.ref pV)=true)
  (lC:Mg K mainGlobals "ties_back" = some (some (.ref gZ)))
  (kJ:K.lookup gZ=some ⟨yr,yf,.func (Mi "ties_back" "ties_back" (aA cZ) (ax cZ) (ai cZ) .none yN za xR zR oy zk),xA⟩)
  (lg:Mf K oy "ties_back" = true)
  (gN:Md K (.ref gZ)=true)
  (cW:Mg K mainGlobals "counted_together" = some (some (.ref bO)))
  (cR:K.lookup bO=some ⟨kx,ku,.func (Mi "counted_together" "counted_together" (aA aY) (ax aY) (ai aY) .none kU k8 kq lB fj k9),kj⟩)
  (cV:Mf K fj "counted_together" = true)
  (bN:Md K (.ref bO)=true)
  (ir:Mg K mainGlobals "refuse_wide" = some (some (.ref er)))
  (gI:K.lookup er=some ⟨sJ,sj,.func (Mi "refuse_wide" "refuse_wide" (aA bY) (ax bY) (ai bY) .none sQ sW r6 tI ka tw),rU⟩)
  (ig:Mf K ka "refuse_wide" = true)
  (d7:Md K (.ref er)=true)
  (jn:Mg K mainGlobals "signs_with" = some (some (.ref fM)))
  (iT:K.lookup fM=some ⟨vA,vm,.func (Mi "signs_with" "signs_with" (aA cz) (ax cz) (ai cz) .none vT wg u9 w6 mr wF),uK⟩)
  (ja:Mf K mr "signs_with" = true)
  (fE:Md K (.ref fM)=true)
  (dX:Mg K mainGlobals "entries_behind" = some (some (.ref cq)))
  (dO:K.lookup cq=some ⟨mZ,mX,.func (Mi "entries_behind" "entries_behind" (aA br) (ax br) (ai br) .none nz nF mU nW gv nI),mQ⟩)
  (dQ:Mf K gv "entries_behind" = true)
  (ck:Md K (.ref cq)=true)
  (iy:Mg K mainGlobals "front_table" = some (some (.ref eE)))
  (gL:K.lookup eE=some ⟨sN,sy,.func (Mi "front_table" "front_table" (aA b5) (ax b5) (ai b5) .none sU tj se tL ke tF),rX⟩)
  (il:Mf K ke "front_table" = true)
  (eg:Md K (.ref eE)=true)
  (jq:Mg K mainGlobals "least_many" = some (some (.ref fO)))
  (iW:K.lookup fO=some ⟨vC,vp,.func (Mi "least_many" "least_many" (aA cB) (ax cB) (ai cB) (.ref ox) vV wk vb xc mw wH),uO⟩)
  (gH:K.lookup ox=some ⟨wD,wC,.seq #[.none] wB,wA⟩)
  (jc:Mf K mw "least_many" = true)
  (fG:Md K (.ref fO)=true)
  (i4:K.lookup bE=some ⟨vH,vz,.func (Mi "__init__" "Tie.__init__" (aA cG) (ax cG) (ai cG) .none wa wy vg xj mE wN),uU⟩)
  (jh:Mf K mE "Tie.__init__" = true)
  (i6:Md K (.ref bE)=true)
  (fL:NM K (.ref bE)=true)
  (nu:K.lookup gs=some ⟨Bp,Be,.func (Mi "wish" "Tie.wish" (aA eV) (ax eV) (ai eV) .none BR Ca AV CS qX Cp),Ax⟩)
  (nU:Mf K qX "Tie.wish" = true)
  (jM:Md K (.ref gs)=true)
  (nC:NM K (.ref gs)=true)
  (e8:K.lookup bh=some ⟨o7,o5,.func (Mi "unpleased" "Tie.unpleased" (aA bA) (ax bA) (ai bA) .none pj pz oZ pG iD pB),oW⟩)
  (fq:Mf K iD "Tie.unpleased" = true)
  (bS:Md K (.ref bh)=true)
  (cT:NM K (.ref bh)=true)
  (kS:K.lookup cu=some ⟨yA,yp,.func (Mi "price" "Tie.price" (aA dj) (ax dj) (ai dj) .none yV zi x9 zZ oI zx),xI⟩)
  (lz:Mf K oI "Tie.price" = true)
  (e9:Md K (.ref cu)=true)
  (gY:NM K (.ref cu)=true)
  (kT:K.lookup fi=some ⟨yB,yq,.func (Mi "wish" "Push.wish" (aA dk) (ax dk) (ai dk) .none yW zj ya z6 oJ zy),xJ⟩)
  (lA:Mf K oJ "Push.wish" = true)
  (gW:Md K (.ref fi)=true)
  (kY:NM K (.ref fi)=true)
  (HN:Mg K mainGlobals "head" = some (some (.ref Dt)))
  (Gi:K.lookup Dt=some ⟨Le,Lb,.func (Mi "head" "head" (aA tR) (ax tR) (ai tR) .none Lp LC KI LN Hg LH),Ks⟩)
  (Hq:Mf K Hg "head" = true)
  (k_head:Md K (.ref Dt)=true)
  (rC:Mg K mainGlobals "leaving" = some (some (.ref md)))
  (qE:K.lookup md=some ⟨DZ,DV,.func (Mi "leaving" "leaving" (aA gj) (ax gj) (ai gj) .none Em Ex DO ET uc EB),DE⟩)
  (ra:Mf K uc "leaving" = true)
  (lZ:Md K (.ref md)=true)
  (oh:Mg K mainGlobals "follower" = some (some (.ref jU)))
  (nk:K.lookup jU=some ⟨Bo,Bc,.func (Mi "follower" "follower" (aA eU) (ax eU) (ai eU) .none BQ B9 AU CQ qW Co),Aw⟩)
  (nR:Mf K qW "follower" = true)
  (jL:Md K (.ref jU)=true)
  (jo:Mg K mainGlobals "round_from" = some (some (.ref fN)))
  (iU:K.lookup fN=some ⟨vB,vo,.func (Mi "round_from" "round_from" (aA cA) (ax cA) (ai cA) .none vU wj va xb mv wG),uM⟩)
  (jb:Mf K mv "round_from" = true)
  (fF:Md K (.ref fN)=true)
  (lD:Mg K mainGlobals "rounds_of" = some (some (.ref g8)))
  (kK:K.lookup g8=some ⟨yt,yg,.func (Mi "rounds_of" "rounds_of" (aA c6) (ax c6) (ai c6) .none yO zb xS zS oz zm),xB⟩)
  (lh:Mf K oz "rounds_of" = true)
  (gO:Md K (.ref g8)=true)
  (nX:Mg K mainGlobals "sides_of" = some (some (.ref jN)))
  (m6:K.lookup jN=some ⟨Bg,A5,.func (Mi "sides_of" "sides_of" (aA eJ) (ax eJ) (ai eJ) .none BI B0 AL CI qP Cc),Ao⟩)
  (nK:Mf K qP "sides_of" = true)
  (jE:Md K (.ref jN)=true)
  (iu:Mg K mainGlobals "refuse_ends" = some (some (.ref eA)))
  (gJ:K.lookup eA=some ⟨sL,sq,.func (Mi "refuse_ends" "refuse_ends" (aA bZ) (ax bZ) (ai bZ) .none sR sY r8 tJ kc tD),rV⟩)
  (ij:Mf K kc "refuse_ends" = true)
  (d8:Md K (.ref eA)=true)
  (f9:Mg K mainGlobals "refuse_turns" = some (some (.ref dD)))
  (fZ:K.lookup dD=some ⟨qp,qm,.func (Mi "refuse_turns" "refuse_turns" (aA bL) (ax bL) (ai bL) .none qI qM qd rA i8 qN),qa⟩)
  (f7:Mf K i8 "refuse_turns" = true)
  (dA:Md K (.ref dD)=true)
  (fu:Mg K mainGlobals "refuse_parted" = some (some (.ref cU)))
  (eZ:K.lookup cU=some ⟨o6,o4,.func (Mi "refuse_parted" "refuse_parted" (aA bz) (ax bz) (ai bz) .none pf pq oY pF iC pA),oV⟩)
  (fm:Mf K iC "refuse_parted" = true)
  (cS:Md K (.ref cU)=true)
  (i0:K.lookup cK=some ⟨vG,vy,.func (Mi "__init__" "Web.__init__" (aA cF) (ax cF) (ai cF) .none vZ wx vf xi mD wM),uT⟩)
  (jg:Mf K mD "Web.__init__" = true)
  (i5:Md K (.ref cK)=true)
  (i7:NM K (.ref cK)=true)
  (oa:Mg K mainGlobals "_law_cell" = some (some (.ref jS)))
  (nh:K.lookup jS=some ⟨Bm,Ba,.func (Mi "_law_cell" "_law_cell" (aA eS) (ax eS) (ai eS) .none BN B7 AR CO qU Cm),Au⟩)
  (nP:Mf K qU "_law_cell" = true)
  (jJ:Md K (.ref jS)=true)
  (n8:Mg K mainGlobals "_law_head" = some (some (.ref jQ)))
  (m9:K.lookup jQ=some ⟨Bj,A8,.func (Mi "_law_head" "_law_head" (aA eP) (ax eP) (ai eP) .none BL B5 AO CM qS Cj),Ar⟩)
  (nN:Mf K qS "_law_head" = true)
  (jH:Md K (.ref jQ)=true)
  (jt:Mg K mainGlobals "_law_behind" = some (some (.ref fT)))
  (iZ:K.lookup fT=some ⟨vF,vx,.func (Mi "_law_behind" "_law_behind" (aA cE) (ax cE) (ai cE) .none vY wu ve xh mB wK),uR⟩)
  (jf:Mf K mB "_law_behind" = true)
  (fK:Md K (.ref fT)=true)
  (lF:Mg K mainGlobals "_law_round" = some (some (.ref hV)))
  (kM:K.lookup hV=some ⟨yv,yi,.func (Mi "_law_round" "_law_round" (aA c9) (ax c9) (ai c9) .none yQ zd xV zU oB zp),xD⟩)
  (lp:Mf K oB "_law_round" = true)
  (gQ:Md K (.ref hV)=true)
  (lH:Mg K mainGlobals "_law_grown" = some (some (.ref h7)))
  (kP:K.lookup h7=some ⟨yx,yk,.func (Mi "_law_grown" "_law_grown" (aA df) (ax df) (ai df) .none yS zf xX zW oF zt),xF⟩)
  (lr:Mf K oF "_law_grown" = true)
  (gS:Md K (.ref h7)=true)
  (lG:Mg K mainGlobals "_law_order" = some (some (.ref hZ)))
  (kN:K.lookup hZ=some ⟨yw,yj,.func (Mi "_law_order" "_law_order" (aA de) (ax de) (ai de) .none yR ze xW zV oE zr),xE⟩)
  (lq:Mf K oE "_law_order" = true)
  (gR:Md K (.ref hZ)=true)
  (dU:Mg K mainGlobals "_law_renumbered" = some (some (.ref cp)))
  (dN:K.lookup cp=some ⟨mY,mW,.func (Mi "_law_renumbered" "_law_renumbered" (aA bq) (ax bq) (ai bq) .none nv nE mT nV gu nH),mP⟩)
  (dP:Mf K gu "_law_renumbered" = true)
  (cj:Md K (.ref cp)=true)
  (lI:Mg K mainGlobals "_law_built" = some (some (.ref ia)))
  (kQ:K.lookup ia=some ⟨yy,yn,.func (Mi "_law_built" "_law_built" (aA dh) (ax dh) (ai dh) .none yT zg xY zX oG zu),xG⟩)
  (lu:Mf K oG "_law_built" = true)
  (gT:Md K (.ref ia)=true)
  (rD:Mg K mainGlobals "_law_web" = some (some (.ref mh)))
  (qF:K.lookup mh=some ⟨D1,DW,.func (Mi "_law_web" "_law_web" (aA gk) (ax gk) (ai gk) .none Eo Ey DP EU ud EC),DF⟩)
  (rf:Mf K ud "_law_web" = true)
  (l5:Md K (.ref mh)=true)
  (lE:Mg K mainGlobals "_law_whole" = some (some (.ref g9)))
  (kL:K.lookup g9=some ⟨yu,yh,.func (Mi "_law_whole" "_law_whole" (aA c7) (ax c7) (ai c7) .none yP zc xU zT oA zo),xC⟩)
  (lj:Mf K oA "_law_whole" = true)
  (gP:Md K (.ref g9)=true)
  (nZ:Mg K mainGlobals "_law_pair" = some (some (.ref jP)))
  (m8:K.lookup jP=some ⟨Bi,A7,.func (Mi "_law_pair" "_law_pair" (aA eO) (ax eO) (ai eO) .none BK B4 AN CK qR Ci),Aq⟩)
  (nM:Mf K qR "_law_pair" = true)
  (jG:Md K (.ref jP)=true)
  (jr:Mg K mainGlobals "_law_widest" = some (some (.ref fP)))
  (iX:K.lookup fP=some ⟨vD,vq,.func (Mi "_law_widest" "_law_widest" (aA cC) (ax cC) (ai cC) .none vW wo vc xf my wI),uP⟩)
  (jd:Mf K my "_law_widest" = true)
  (fH:Md K (.ref fP)=true)
  (js:Mg K mainGlobals "_law_turned" = some (some (.ref fQ)))
  (iY:K.lookup fQ=some ⟨vE,vt,.func (Mi "_law_turned" "_law_turned" (aA cD) (ax cD) (ai cD) .none vX wq vd xg mz wJ),uQ⟩)
  (je:Mf K mz "_law_turned" = true)
  (fJ:Md K (.ref fQ)=true)
  (rE:Mg K mainGlobals "_law_rim" = some (some (.ref mn)))
  (qG:K.lookup mn=some ⟨D3,DX,.func (Mi "_law_rim" "_law_rim" (aA gm) (ax gm) (ai gm) .none Ep Ez DQ EV ue ED),DG⟩)
  (rg:Mf K ue "_law_rim" = true)
  (l6:Md K (.ref mn)=true)
  (lJ:Mg K mainGlobals "_law_asked" = some (some (.ref ib)))
  (kR:K.lookup ib=some ⟨yz,yo,.func (Mi "_law_asked" "_law_asked" (aA di) (ax di) (ai di) .none yU zh xZ zY oH zv),xH⟩)
  (ly:Mf K oH "_law_asked" = true)
  (gU:Md K (.ref ib)=true)
  (iw:Mg K mainGlobals "_law_refused" = some (some (.ref eB)))
  (gK:K.lookup eB=some ⟨sM,su,.func (Mi "_law_refused" "_law_refused" (aA b4) (ax b4) (ai b4) .none sS sZ r9 tK kd tE),rW⟩)
  (ik:Mf K kd "_law_refused" = true)
  (ef:Md K (.ref eB)=true)
  (n9:Mg K mainGlobals "_law_good" = some (some (.ref jR)))
  (ng:K.lookup jR=some ⟨Bk,A9,.func (Mi "_law_good" "_law_good" (aA eQ) (ax eQ) (ai eQ) .none BM B6 AQ CN qT Ck),As⟩)
  (nO:Mf K qT "_law_good" = true)
  (jI:Md K (.ref jR)=true)
  (Js:Mg K mainGlobals "law" = some (some (.ref Ly)))
  (Lm:K.lookup Ly=some ⟨oc_law,od_law,.func (Mi "law" "law" (aA uX) (ax uX) (ai uX) .none JD JF Jy JJ Hf JG),sl_law⟩)
  (LJ:Mf K Hf "law" = true)
  (Ln:Md K (.ref Ly)=true)
  (gy:Ow K cM veM "ValueError.__new__" = true)
  (ki:Ow K cN veM "ValueError.__new__" = true)
  (cY:NI K cN (.ref cM)=some true)
  (mM:Ow K cg veM "ValueError.__new__" = true)
  (bQ:NI K cg (.ref cM)=some true)
  (AX:NJ K bo Str.empty=true)
  (BW:NN K bo=true)
  (AK:N1 K bo=true)
  (AF:MA K (.ref bo) "__setattr__" = some (some (.builtin "object.__setattr__")))
  (Bt:Ob K bo=true)
  (BH:Md K (.ref bo)=true)
  (kE:MA K (.ref bo) "one" = some none)
  (kD:MA K (.ref bo) "two" = some none)
  (dM:MA K (.ref bo) "strength" = some none)
  (AW:NJ K bj Str.empty=true)
  (BV:NN K bj=true)
  (AJ:N1 K bj=true)
  (AE:MA K (.ref bj) "__setattr__" = some (some (.builtin "object.__setattr__")))
  (Bs:Ob K bj=true)
  (BG:Md K (.ref bj)=true)
  (kC:MA K (.ref bj) "one" = some none)
  (kB:MA K (.ref bj) "two" = some none)
  (dJ:MA K (.ref bj) "strength" = some none)
  (FH:NJ K eI Str.empty=true)
  (GK:NN K eI=true)
  (FA:N1 K eI=true)
  (Fs:MA K (.ref eI) "__setattr__" = some (some (.builtin "object.__setattr__")))
  (F2:Ob K eI=true)
  (Gn:Md K (.ref eI)=true)
  (kA:MA K (.ref eI) "many" = some none)
  (ky:MA K (.ref eI) "ties" = some none)
  (iM:MA K (.ref eI) "turns" = some none)
  (gE:MA K (.ref eI) "rounds" = some none)
  (iN:MA K (.ref eI) "sides" = some none)
  (gi_wide:Mg K mainGlobals "WIDEST" = some (some (.int 8 ti_wide)))
  (JS:Mg K mainGlobals "len" = some none)
  (JT:Mg K mainGlobals "int" = some none)
  (EX:Mg K mainGlobals "bool" = some none)
  (EW:Mg K mainGlobals "list" = some none)
  (Ac:Mg K mainGlobals "tuple" = some none)
  (Ad:Mg K mainGlobals "range" = some none)
  (kh:Mg K mainGlobals "enumerate" = some none)
  (iH:Mg K mainGlobals "isinstance" = some none)
  (JQ:Mg K mainGlobals "min" = some none)
  (JP:Mg K mainGlobals "sum" = some none)
  (ux:Mg K mainGlobals "sorted" = some none)
  (JR:Mg K mainGlobals "max" = some none)
  (JV:Mg K mainGlobals "all" = some none)
  (JO:Mg K mainGlobals "zip" = some none)
  (JU:Mg K mainGlobals "any" = some none)
  : ∃ fd:FuncData,(∀(s:Shared)(v:Value),BindsTo s fd ⟨[v],[]⟩ [("script",v)])/\∀ base:Heap,K.In base->base.Ns mainGlobals mg->FnOk l.prog w K mg base CX0 9 fa fd ["script"] (Ij K):=by
 have e:=hfa.symm.trans (Mm X G Js)
 cases e
 have JN:=aQ (st:=tS) Gj Hr Dk
 have b_bits:=JN.binds (ps:=["mask"]) fun _ _ _ _ _ _ us hl=>by obtain⟨x0,rfl⟩:=pd hl;rfl
 have JL:=aQ (st:=tQ) Gg Ho Dj
 have b_ones:=JL.binds (ps:=["mask"]) fun _ _ _ _ _ _ us hl=>by obtain⟨x0,rfl⟩:=pd hl;rfl
 have z8:=aQ (st:=gg) qD q0 lY
 have Hw:=z8.binds (ps:=["start","pairs"]) fun _ _ _ _ _ _ us hl=>by obtain⟨x0,x1,rfl⟩:=fY hl;rfl
 have mK:=aQ (st:=b6) gM ip eh
 have wZ:=mK.binds (ps:=["tie","patch"]) fun _ _ _ _ _ _ us hl=>by obtain⟨x0,x1,rfl⟩:=fY hl;rfl
 have uk:=aQ (st:=eK) m7 nL jF
 have EI:=uk.binds (ps:=["web","order"]) fun _ _ _ _ _ _ us hl=>by obtain⟨x0,x1,rfl⟩:=fY hl;rfl
 have uu:=aQ (st:=eT) nj nQ jK
 have EN:=uu.binds (ps:=["web","behind"]) fun _ _ _ _ _ _ us hl=>by obtain⟨x0,x1,rfl⟩:=fY hl;rfl
 have xo:=GN (st:=jB) vR wR pT qC rfl
 have Jp:=xo.binds (ps:=["web","order"]) (ds:=[]) fun _ _ _ _ _ _ _ us hl=>match us,hl with | [_,_],_=>⟨_,rfl,rfl⟩
 have b1_fronts:=xo.binds (ps:=["web","order"]) (ds:=[.none]) fun _ _ _ _ _ _ _ us hl=>by
  have h1:us.length=1:=by simpa using hl
  match us,h1 with | [_],_=>exact⟨_,rfl,rfl⟩
 have rF:=aQ (st:=cZ) kJ lg gN
 have Cv:=rF.binds (ps:=["web","order"]) fun _ _ _ _ _ _ us hl=>by obtain⟨x0,x1,rfl⟩:=fY hl;rfl
 have fV:=aQ (st:=aY) cR cV bN
 have mF:=fV.binds (ps:=["entries"]) fun _ _ _ _ _ _ us hl=>by obtain⟨x0,rfl⟩:=pd hl;rfl
 have mG:=aQ (st:=bY) gI ig d7
 have wV:=mG.binds (ps:=["found"]) fun _ _ _ _ _ _ us hl=>by obtain⟨x0,rfl⟩:=pd hl;rfl
 have oN:=aQ (st:=cz) iT ja fE
 have zK:=oN.binds (ps:=["place","signs"]) fun _ _ _ _ _ _ us hl=>by obtain⟨x0,x1,rfl⟩:=fY hl;rfl
 have iF:=aQ (st:=br) dO dQ ck
 have pE:=iF.binds (ps:=["entries","place","ties","front"]) fun _ _ _ _ _ _ us hl=>by obtain⟨x0,x1,x2,x3,rfl⟩:=IV hl;rfl
 have mJ:=aQ (st:=b5) gL il eg
 have wY:=mJ.binds (ps:=["web","order","count"]) fun _ _ _ _ _ _ us hl=>by obtain⟨x0,x1,x2,rfl⟩:=qA hl;rfl
 have jw:=GN (st:=cB) iW jc fG gH rfl
 have zM:=jw.binds (ps:=["web","order"]) (ds:=[]) fun _ _ _ _ _ _ _ us hl=>match us,hl with | [_,_],_=>⟨_,rfl,rfl⟩
 have w4:=jw.binds (ps:=["web","order"]) (ds:=[.none]) fun _ _ _ _ _ _ _ us hl=>by
  have h1:us.length=1:=by simpa using hl
  match us,h1 with | [_],_=>exact⟨_,rfl,rfl⟩
 have oU:=aQ (st:=cG) i4 jh i6
 have oK:=oU.binds (ps:=["self","one","two","strength"]) fun _ _ _ _ _ _ us hl=>by obtain⟨x0,x1,x2,x3,rfl⟩:=IV hl;rfl
 have uw:=aQ (st:=eV) nu nU jM
 have ER:=uw.binds (ps:=["self"]) fun _ _ _ _ _ _ us hl=>by obtain⟨x0,rfl⟩:=pd hl;rfl
 have fz:=aQ (st:=bA) e8 fq bS
 have jm:=fz.binds (ps:=["self","laying"]) fun _ _ _ _ _ _ us hl=>by obtain⟨x0,x1,rfl⟩:=fY hl;rfl
 have lM:=aQ (st:=dj) kS lz e9
 have rq:=lM.binds (ps:=["self","laying"]) fun _ _ _ _ _ _ us hl=>by obtain⟨x0,x1,rfl⟩:=fY hl;rfl
 have rP:=aQ (st:=dk) kT lA gW
 have CF:=rP.binds (ps:=["self"]) fun _ _ _ _ _ _ us hl=>by obtain⟨x0,rfl⟩:=pd hl;rfl
 have JM:=aQ (st:=tR) Gi Hq k_head
 have b_head:=JM.binds (ps:=["ties","dart"]) fun _ _ _ _ _ _ us hl=>by obtain⟨x0,x1,rfl⟩:=fY hl;rfl
 have z9:=aQ (st:=gj) qE ra lZ
 have Hx:=z9.binds (ps:=["ties","number","place"]) fun _ _ _ _ _ _ us hl=>by obtain⟨x0,x1,x2,rfl⟩:=qA hl;rfl
 have uv:=aQ (st:=eU) nk nR jL
 have EO:=uv.binds (ps:=["ties","turns","dart"]) fun _ _ _ _ _ _ us hl=>by obtain⟨x0,x1,x2,rfl⟩:=qA hl;rfl
 have oO:=aQ (st:=cA) iU jb fF
 have zL:=oO.binds (ps:=["ties","turns","first"]) fun _ _ _ _ _ _ us hl=>by obtain⟨x0,x1,x2,rfl⟩:=qA hl;rfl
 have rG:=aQ (st:=c6) kK lh gO
 have Cw:=rG.binds (ps:=["ties","turns"]) fun _ _ _ _ _ _ us hl=>by obtain⟨x0,x1,rfl⟩:=fY hl;rfl
 have uj:=aQ (st:=eJ) m6 nK jE
 have EH:=uj.binds (ps:=["ties","rounds"]) fun _ _ _ _ _ _ us hl=>by obtain⟨x0,x1,rfl⟩:=fY hl;rfl
 have mH:=aQ (st:=bZ) gJ ij d8
 have wW:=mH.binds (ps:=["many","ties"]) fun _ _ _ _ _ _ us hl=>by obtain⟨x0,x1,rfl⟩:=fY hl;rfl
 have kg:=aQ (st:=bL) fZ f7 dA
 have tH:=kg.binds (ps:=["many","ties","turns"]) fun _ _ _ _ _ _ us hl=>by obtain⟨x0,x1,x2,rfl⟩:=qA hl;rfl
 have jv:=aQ (st:=bz) eZ fm cS
 have rp:=jv.binds (ps:=["many","ties"]) fun _ _ _ _ _ _ us hl=>by obtain⟨x0,x1,rfl⟩:=fY hl;rfl
 have oS:=aQ (st:=cF) i0 jg i5
 have zQ:=oS.binds (ps:=["self","many","ties","turns"]) fun _ _ _ _ _ _ us hl=>by obtain⟨x0,x1,x2,x3,rfl⟩:=IV hl;rfl
 have ur:=aQ (st:=eS) nh nP jJ
 have EM:=ur.binds (ps:=["script","k"]) fun _ _ _ _ _ _ us hl=>by obtain⟨x0,x1,rfl⟩:=fY hl;rfl
 have uo:=aQ (st:=eP) m9 nN jH
 have EK:=uo.binds (ps:=["ends","dart"]) fun _ _ _ _ _ _ us hl=>by obtain⟨x0,x1,rfl⟩:=fY hl;rfl
 have oR:=aQ (st:=cE) iZ jf fK
 have zP:=oR.binds (ps:=["ends","turns","dart"]) fun _ _ _ _ _ _ us hl=>by obtain⟨x0,x1,x2,rfl⟩:=qA hl;rfl
 have rJ:=aQ (st:=c9) kM lp gQ
 have Cz:=rJ.binds (ps:=["ends","turns","dart"]) fun _ _ _ _ _ _ us hl=>by obtain⟨x0,x1,x2,rfl⟩:=qA hl;rfl
 have rM:=aQ (st:=df) kP lr gS
 have CB:=rM.binds (ps:=["cells"]) fun _ _ _ _ _ _ us hl=>by obtain⟨x0,rfl⟩:=pd hl;rfl
 have rK:=aQ (st:=de) kN lq gR
 have CA:=rK.binds (ps:=["cell","many"]) fun _ _ _ _ _ _ us hl=>by obtain⟨x0,x1,rfl⟩:=fY hl;rfl
 have iE:=aQ (st:=bq) dN dP cj
 have pD:=iE.binds (ps:=["grown","cell"]) fun _ _ _ _ _ _ us hl=>by obtain⟨x0,x1,rfl⟩:=fY hl;rfl
 have rN:=aQ (st:=dh) kQ lu gT
 have CC:=rN.binds (ps:=["script","first","most"]) fun _ _ _ _ _ _ us hl=>by obtain⟨x0,x1,x2,rfl⟩:=qA hl;rfl
 have Aa:=aQ (st:=gk) qF rf l5
 have Hy:=Aa.binds (ps:=["built"]) fun _ _ _ _ _ _ us hl=>by obtain⟨x0,rfl⟩:=pd hl;rfl
 have rH:=aQ (st:=c7) kL lj gP
 have Cy:=rH.binds (ps:=["found"]) fun _ _ _ _ _ _ us hl=>by obtain⟨x0,rfl⟩:=pd hl;rfl
 have um:=aQ (st:=eO) m8 nM jG
 have EJ:=um.binds (ps:=["found"]) fun _ _ _ _ _ _ us hl=>by obtain⟨x0,rfl⟩:=pd hl;rfl
 have oP:=aQ (st:=cC) iX jd fH
 have zN:=oP.binds (ps:=["ends","order"]) fun _ _ _ _ _ _ us hl=>by obtain⟨x0,x1,rfl⟩:=fY hl;rfl
 have oQ:=aQ (st:=cD) iY je fJ
 have zO:=oQ.binds (ps:=["built","ties"]) fun _ _ _ _ _ _ us hl=>by obtain⟨x0,x1,rfl⟩:=fY hl;rfl
 have Ab:=aQ (st:=gm) qG rg l6
 have Hz:=Ab.binds (ps:=["ends","patch"]) fun _ _ _ _ _ _ us hl=>by obtain⟨x0,x1,rfl⟩:=fY hl;rfl
 have rO:=aQ (st:=di) kR ly gU
 have CD:=rO.binds (ps:=["web","order","bare"]) fun _ _ _ _ _ _ us hl=>by obtain⟨x0,x1,x2,rfl⟩:=qA hl;rfl
 have mI:=aQ (st:=b4) gK ik ef
 have wX:=mI.binds (ps:=["web","order","bare"]) fun _ _ _ _ _ _ us hl=>by obtain⟨x0,x1,x2,rfl⟩:=qA hl;rfl
 have uq:=aQ (st:=eQ) ng nO jI
 have EL:=uq.binds (ps:=["found"]) fun _ _ _ _ _ _ us hl=>by obtain⟨x0,rfl⟩:=pd hl;rfl
 have F_law:=aQ (st:=uX) Lm LJ Ln
 refine⟨Mi "law" "law" (aA uX) (ax uX) (ai uX) .none JD JF Jy JJ Hf JG,fun s v=>.of_eq rfl,fun base _ _=>?_⟩
 have m_bits:=Mm X G HP
 have m_ones:=Mm X G HM
 have F3:=Mm X G rB
 have vO:=Mm X G iz
 have Ed:=Mm X G nY
 have Ei:=Mm X G og
 have IU:=Mm X G xk
 have Bw:=Mm X G lC
 have lV:=Mm X G cW
 have vK:=Mm X G ir
 have yC:=Mm X G jn
 have o9:=Mm X G dX
 have vN:=Mm X G iy
 have yE:=Mm X G jq
 have m_head:=Mm X G HN
 have F4:=Mm X G rC
 have Ej:=Mm X G oh
 have yD:=Mm X G jo
 have Bx:=Mm X G lD
 have Ec:=Mm X G nX
 have vL:=Mm X G iu
 have sP:=Mm X G f9
 have qw:=Mm X G fu
 have Eh:=Mm X G oa
 have Ef:=Mm X G n8
 have yH:=Mm X G jt
 have Bz:=Mm X G lF
 have BB:=Mm X G lH
 have BA:=Mm X G lG
 have o8:=Mm X G dU
 have BC:=Mm X G lI
 have F5:=Mm X G rD
 have By:=Mm X G lE
 have Ee:=Mm X G nZ
 have yF:=Mm X G jr
 have yG:=Mm X G js
 have F6:=Mm X G rE
 have BD:=Mm X G lJ
 have vM:=Mm X G iw
 have Eg:=Mm X G n9
 have m_law:=Mm X G Js
 have yJ:=Mm X G iA
 have Ek:=Mm X G lK
 have yI:=Mm X G oi
 have m_Pull:=Mm X G CV
 have m_Push:=Mm X G CU
 have m_Web:=Mm X G HQ
 have wide:=Mm X G gi_wide
 have n_len:=MU X G JS
 have n_int:=MU X G JT
 have n_bool:=MU X G EX
 have n_list:=MU X G EW
 have n_tuple:=MU X G Ac
 have n_range:=MU X G Ad
 have n_enumerate:=MU X G kh
 have n_isinstance:=MU X G iH
 have n_min:=MU X G JQ
 have n_sum:=MU X G JP
 have n_sorted:=MU X G ux
 have n_max:=MU X G JR
 have n_all:=MU X G JV
 have n_zip:=MU X G JO
 have n_any:=MU X G JU
 have TL:CT K bo:=⟨⟨AX,BW,AK,AF⟩,kE,kD,dM⟩
 have TS:CT K bj:=⟨⟨AW,BV,AJ,AE⟩,kC,kB,dJ⟩
 have cw:CW K eI:=⟨⟨FH,GK,FA,Fs⟩,kA,ky,iM,gE,iN⟩
 have T:Txt mg:=⟨n_max,n_all,n_zip,n_any,n_len,n_int,n_bool,n_list,n_tuple,n_range,n_enumerate,n_isinstance,n_min,n_sum,n_sorted⟩
 have TW:TxtW mg:={ T with wide:=⟨_,wide⟩ }
 have GI:FnOk l.prog w K mg base CX0 1 bE _ _ (tP K):=KZ oU
 have ML:Mak l.prog w K mg base 1 "Pull" _ (tP K) bo bE _:=⟨⟨Bt,iR,fL,BH⟩,GI,oK,m_Pull⟩
 have MS:Mak l.prog w K mg base 1 "Push" _ (tP K) bj bE _:=⟨⟨Bs,iP,fL,BG⟩,GI,oK,m_Push⟩
 have wL:Met l.prog w K mg base 1 bo "wish" _ (xw false) gs _:=⟨⟨iQ,nC,jM⟩,IE uw,ER⟩
 have wS:Met l.prog w K mg base 1 bj "wish" _ (xw true) fi _:=⟨⟨iO,kY,gW⟩,ID rP,CF⟩
 have uL:Met l.prog w K mg base 2 bo "unpleased" _ (C2 bo false) bh _:=⟨⟨dv,cT,bS⟩,FQ fz TL wL,jm⟩
 have uS:Met l.prog w K mg base 2 bj "unpleased" _ (C2 bj true) bh _:=⟨⟨du,cT,bS⟩,FQ fz TS wS,jm⟩
 have rL:Met l.prog w K mg base 3 bo "price" _ (pZ bo false) cu _:=⟨⟨gG,gY,e9⟩,De lM TL uL,rq⟩
 have rS:Met l.prog w K mg base 3 bj "price" _ (pZ bj true) cu _:=⟨⟨gF,gY,e9⟩,De lM TS uS,rq⟩
 have Gh:Cal l.prog w K mg base 1 "head" _ (Fi K) Dt _:=⟨K0 JM,b_head,m_head,k_head⟩
 have Gl:Cal l.prog w K mg base 1 "leaving" _ (Fg K) md _:=⟨DS z9,Hx,F4,lZ⟩
 have Gf:Cal l.prog w K mg base 2 "follower" _ (Ko K) jU _:=⟨A4 uv T Gh Gl,EO,Ej,jL⟩
 have Gr:Cal l.prog w K mg base 3 "round_from" _ (Fl K) fN _:=⟨K3 oO Gf,zL,yD,fF⟩
 have GR:Cal l.prog w K mg base 4 "rounds_of" _ (uC K) g8 _:=⟨FT rG T Gr,Cw,Bx,gO⟩
 have GS:Cal l.prog w K mg base 1 "sides_of" _ (Ai K) jN _:=⟨II uj T,EH,Ec,jE⟩
 have Ga:Cal l.prog w K mg base 1 "reached" _ (Aj K) ma _:=⟨DR z8,Hw,F3,lY⟩
 have R1:Cal l.prog w K mg base 1 "refuse_ends" _ (Al K) eA _:=⟨IK mH,wW,vL,d8⟩
 have R2:Cal l.prog w K mg base 1 "refuse_turns" _ (uD K) dD _:=⟨FR kg T,tH,sP,dA⟩
 have R3:Cal l.prog w K mg base 2 "refuse_parted" _ (Ak K) cU _:=⟨IJ jv Ga,rp,qw,cS⟩
 have WI:FnOk l.prog w K mg base CX0 5 cK _ _ (uB K):=IF oS T R1 R2 R3 GR GS
 have MW:Mak l.prog w K mg base 5 "Web" _ (uB K) eI cK _:=⟨⟨F2,kH,i7,Gn⟩,WI,zQ,m_Web⟩
 have Gc:Cal l.prog w K mg base 1 "_law_cell" _ (C4 K) jS _:=⟨K4 ur T,EM,Eh,jJ⟩
 have L1:Cal l.prog w K mg base 1 "_law_head" _ (uG K) jQ _:=⟨IM uo,EK,Ef,jH⟩
 have L2':Cal l.prog w K mg base 2 "_law_behind" _ (uI K) fT _:=⟨DT oR T L1,zP,yH,fK⟩
 have L3:Cal l.prog w K mg base 3 "_law_round" _ (uF K) hV _:=⟨FU rJ L2',Cz,Bz,gQ⟩
 have L4:Cal l.prog w K mg base 4 "_law_grown" _ (Am K) h7 _:=⟨IP rM T L3 L1,CB,BB,gS⟩
 have L5:Cal l.prog w K mg base 1 "_law_order" _ uE hZ _:=⟨IL rK T,CA,BA,gR⟩
 have L6:Cal l.prog w K mg base 2 "_law_renumbered" _ Kk cp _:=⟨ok_ren iE T L5,pD,o8,cj⟩
 have L7:Cal l.prog w K mg base 5 "_law_built" _ (uH K) ia _:=⟨FV rN T L4 L6 Gc,CC,BC,gT⟩
 have L8:Cal l.prog w K mg base 7 "_law_web" _ (Fh bo bj eI) mh _:=⟨KY Aa T ML MS TL TS MW cw,Hy,F5,l5⟩
 have L9:Cal l.prog w K mg base 1 "_law_whole" _ Kl g9 _:=⟨IG rH T,Cy,By,gP⟩
 have Ge:Cal l.prog w K mg base 1 "ends_within" _ (pM K) eF _:=⟨FP mK,wZ,vO,eh⟩
 have XB:ErrC K mg "BadOrder" cN:=⟨Ek,ki⟩
 have XW:ErrC K mg "TooWide" cg:=⟨yI,mM⟩
 have Gt:Cal l.prog w K mg base 2 "front_of" _ (An bo bj eI) jT _:=⟨IQ uu cw TL TS Ge,EN,Ei,jK⟩
 have Go:CalX l.prog w K mg base 1 "order_of" _ (C3 cN eI) jO _:=⟨ok_ord uk T cw XB,EI,Ed,jF⟩
 have GF:CalX l.prog w K mg base 3 "fronts" _ (Km cN bo bj eI) pV _:=⟨FW xo Go Gt,Jp,IU,pT⟩
 have Gbt:Cal l.prog w K mg base 1 "bits" _ Fm Du _:=⟨K5 JN,b_bits,m_bits,Dk⟩
 have Gon:Cal l.prog w K mg base 2 "ones" _ Ff Dr _:=⟨KW JL T Gbt,b_ones,m_ones,Dj⟩
 have Gbk:Cal l.prog w K mg base 2 "ties_back" _ (Fn bo bj eI) gZ _:=⟨K6 rF cw TL TS Ge,Cv,Bw,gN⟩
 have Gct:Cal l.prog w K mg base 1 "counted_together" _ (spCT K) bO _:=⟨ok_ct fV T,mF,lV,bN⟩
 have Gsw:Cal l.prog w K mg base 1 "signs_with" _ Ag fM _:=⟨IH oN,zK,yC,fE⟩
 have Gen:Cal l.prog w K mg base 4 "entries_behind" _ (Kp bo bj) cq _:=⟨ok_ent iF T TL TS rL rS Gsw Gct,pE,o9,ck⟩
 have Grw:CalX l.prog w K mg base 3 "refuse_wide" _ (Fb K cg) er _:=⟨KR mG TW XW Gon,wV,vK,d7⟩
 have Gft:CalX l.prog w K mg base 5 "front_table" _ (spFT cN cg bo bj eI) eE _:=⟨ok_ft mJ TW cw Go GF Grw Gbk Gen,wY,vN,eg⟩
 have mTF:NI K cg (.ref cM)=some true:=bQ
 have XF:ErrC K mg "FloorError" cM:=⟨yJ,gy⟩
 have TX:TxtX mg cg:={ T with g_TooWide:=yI }
 have Glm:CalX l.prog w K mg base 6 "least_many" _ (spLM cN cg bo bj eI) fO _:=⟨ok_lm jw cw Gft,zM,yE,fG⟩
 have Gz0:Cal l.prog w K mg base 2 "_law_pair" _ Fe jP _:=⟨KU um T L9,EJ,Ee,jG⟩
 have Gz1:Cal l.prog w K mg base 3 "_law_good" _ Fj jR _:=⟨K1 uq Gz0,EL,Eg,jI⟩
 have Gz2:Cal l.prog w K mg base 1 "_law_rim" _ (Kj K) mn _:=⟨ok_rim Ab T,Hz,F6,l6⟩
 have Gz3:Cal l.prog w K mg base 1 "_law_turned" _ Ki fQ _:=⟨ok_trn oQ T,zO,yG,fJ⟩
 have Gz4:Cal l.prog w K mg base 1 "_law_widest" _ (Kh K) fP _:=⟨ok_wid oP T,zN,yF,fH⟩
 have Gz5:CalX l.prog w K mg base 7 "_law_asked" _ (Ik cg bo bj eI) ib _:=⟨ok_ask rO Glm w4,CD,BD,gU⟩
 have Gz6:Cal l.prog w K mg base 8 "_law_refused" _ (Fd bo bj eI) eB _:=⟨KS mI TX XF XW mTF Gz5,wX,vM,ef⟩
 exact ok_law F_law T L7 Gc L5 L8 Gz4 Gz6 Gz5 Gz2 Gz3 Gz1
theorem walk{l:O6}{q:Program}{loose:List Str}{XP:(Str->Option Value)->Heap->Prop}{YP:World->Heap->Prop}{d:DefRec}{K:Params->LU}(hn:l.most=some 63)(hdf:d.params.defaults = [])
  (hY:∀(w:World)(h:Heap),YP w h->(K w.params).In h)
  (F:∀(w:World)(mg:Str->Option Value)(fa:Addr)(h:Heap),(K w.params).In h->h.Ns mainGlobals mg->mg d.name=some (.ref fa) ->
   ∃ fd:FuncData,(∀(s:Shared)(u:Value),BindsTo s fd ⟨[u],[]⟩ [("script",u)])/\∀ base:Heap,(K w.params).In base->base.Ns mainGlobals mg->FnOk l.prog w (K w.params) mg base CX0 9 fa fd ["script"] (Ij (K w.params))) :
  PySem.W.WalkO q loose XP YP l.row.toRowW d [] (fun f vs=>PySem.call f vs) :=
 L2.walk_of (n:=63) (k:=9) (x:="script") (CX:=fun _=>CX0) (sp:=fun w=>Ij (K w.params)) hn (by decide) hdf ⟨rfl,by decide,by decide⟩ hY F (fun _ _ a ns hl _ hS=>⟨a,ns,rfl,hS,hl,fun _=>rfl⟩) fun _ _ _ _ _ z=>z
end K8
def PySem.W.Fast.tw5424340727462935138:Nat:=0
def PySem.W.Fast.tw15508654455680957221:Nat:=0
def PySem.W.Fast.tw16460773182256929990:Nat:=0
def PySem.W.Fast.tw6651338537964259718:Nat:=0
def PySem.W.Fast.tw4096349518793377863:Nat:=0
def PySem.W.Fast.tw14361339850964292363:Nat:=0
def PySem.W.Fast.tw14966392744980874605:Nat:=0
def PySem.W.Fast.tw4181371455739556653:Nat:=0
def PySem.W.Fast.tw9210043270518070510:Nat:=0
def PySem.W.Fast.tw14545077800130877231:Nat:=0
def PySem.W.Fast.tw11439882429629929330:Nat:=0
def PySem.W.Fast.tw1414969741083876695:Nat:=0
def PySem.W.Fast.tw15023459119845442875:Nat:=0
def PySem.W.Fast.tw11061139059509486331:Nat:=0
def PySem.W.Fast.tw13703761455899326300:Nat:=0
def PySem.W.Fast.tw8761977786635676605:Nat:=0
def PySem.W.Fast.tw4087145707635888735:Nat:=0
def PySem.W.Fast.tw2874226562740435807:Nat:=0
namespace PySem.W.Fast
def tw12843420963879284736:=0
def tw9602625420113564768:=0
def tw15874774193975232832:=0
def tw14761994338125472096:=0
def tw12029462236451079648:=0
def tw14827124827252457952:=0
def tw13597104297624991200:=0
def tw17308198099028600320:=0
def tw13580284664804214496:=0
def tw14660312211548031872:=0
def tw16580173443828371328:=0
def tw977057919720646560:=0
def tw2950456597855882241:=0
def tw10253351204785045569:=0
def tw8878760301519992929:=0
def tw13912474765088035937:=0
def tw13644792979684698241:=0
def tw3047780562196510849:=0
def tw17648429029669920001:=0
def tw1445826370477378913:=0
def tw10409302924882305409:=0
def tw7154793153390533025:=0
def tw174809394768173473:=0
def tw16793851045606150785:=0
def tw7422797112061293313:=0
def tw9488769855964445601:=0
def tw9624615567819278338:=0
def tw13373947151790923842:=0
def tw8618691799262342242:=0
def tw4565171759750110466:=0
def tw13827110519954137410:=0
def tw1064006083958288706:=0
def tw12143145243855778210:=0
def tw9815441905269702210:=0
def tw4708836818158073442:=0
def tw12880304955047818850:=0
def tw17951704138257261186:=0
def tw12290184963784356514:=0
def tw4020510304575275842:=0
def tw10034711527096186722:=0
def tw5151726303455283042:=0
def tw18414485874195894307:=0
def tw16252327065284546755:=0
def tw4708618885723336995:=0
def tw7267025954736830755:=0
def tw226676958844268867:=0
def tw2360387251020701091:=0
def tw10308135976482067875:=0
def tw3524311874611579523:=0
def tw12438069032480855715:=0
def tw14413728941691336419:=0
def tw4425216812131696387:=0
def tw1403478348303096579:=0
def tw13840279788993823523:=0
def tw661515462944394019:=0
def tw11766268312265658147:=0
def tw18275817916147682179:=0
def tw5279253212395040675:=0
def tw2696236983447695299:=0
def tw5312120763220310116:=0
def tw2871035034100638852:=0
def tw17885240305026037924:=0
def tw3374845569162054852:=0
def tw18275058574888499460:=0
def tw4945533780605198660:=0
def tw5480883891097939268:=0
def tw17190330284920758628:=0
def tw8608968919672892004:=0
def tw3076978221086108292:=0
def tw17539746201752427140:=0
def tw13164589093506330340:=0
def tw9387187588872009444:=0
def tw9362883539990615812:=0
def tw10326403096546702116:=0
def tw1796220073818586948:=0
def tw4893125386679198757:=0
def tw3152329474320431141:=0
def tw14539014138150116453:=0
def tw9461744327732883621:=0
def tw16394263640280559909:=0
def tw17743066941361611045:=0
def tw16575429117666927941:=0
def tw12573587578088036773:=0
def tw12331451597561278981:=0
def tw6761113685411029541:=0
def tw12008593471141541413:=0
def tw17741116523057661541:=0
def tw5147365998787838565:=0
def tw5744437469005710981:=0
def tw1743761259587216037:=0
def tw7805685898064168805:=0
def tw6677387672553383813:=0
def tw17004884252183665670:=0
def tw5169257931632337926:=0
def tw1449993033386728614:=0
def tw10436084097498822854:=0
def tw2442734771694159046:=0
def tw1109454207736966342:=0
def tw16377963326436897062:=0
def tw3430995166121580902:=0
def tw3030005475522268550:=0
def tw527735472950186406:=0
def tw6413167859699034790:=0
def tw17890747696000793286:=0
def tw14637965459021585094:=0
def tw16753301679335417606:=0
def tw10403041263664920358:=0
def tw5754264614128851782:=0
def tw18155234442992954182:=0
def tw9788687580459259718:=0
def tw9606144093949379430:=0
def tw1987173812605701990:=0
def tw4179456853334796166:=0
def tw9639161488412475334:=0
def tw15232754405395463175:=0
def tw5850683800886515751:=0
def tw12237076400499053671:=0
def tw9462748153558976615:=0
def tw8670674341227969671:=0
def tw7731129268900493511:=0
def tw1864249233199188231:=0
def tw15990499399778790791:=0
def tw18299717484794755495:=0
def tw10194481045522923975:=0
def tw11595547724401465831:=0
def tw5394286844013390407:=0
def tw3314504702203074119:=0
def tw467555777230346855:=0
def tw12599703353755986535:=0
def tw10105627789686042279:=0
def tw10996919071158855367:=0
def tw7968425546002496199:=0
def tw4900544408926500583:=0
def tw2480387318287967143:=0
def tw4652508209016669127:=0
def tw12742220690069860327:=0
def tw10985396816633557096:=0
def tw11956678745046124808:=0
def tw17813117978189834600:=0
def tw5738941059118944840:=0
def tw17523802417652851336:=0
def tw9149847702667090600:=0
def tw6960059445765160616:=0
def tw15610996689811869384:=0
def tw15496851167217423240:=0
def tw17979248507911627688:=0
def tw9810449975880205417:=0
def tw17342125785395838089:=0
def tw3903346641604701321:=0
def tw12542921056069200137:=0
def tw7421279963557321001:=0
def tw5708587377763013961:=0
def tw16053241726766253513:=0
def tw16819508502033937065:=0
def tw2618795219639989929:=0
def tw11358602565013114761:=0
def tw11080660526225460169:=0
def tw1952527954521533417:=0
def tw799815986775409738:=0
def tw8850120679617803338:=0
def tw18318581563231282314:=0
def tw17819292028350970026:=0
def tw6027823900407166218:=0
def tw11425889663005857066:=0
def tw2125010005088588074:=0
def tw13647111109759092138:=0
def tw1848392357419005386:=0
def tw7548249180417639978:=0
def tw3582915028618821194:=0
def tw17652882531143964266:=0
def tw14247511992600015530:=0
def tw10777989979255470794:=0
def tw11343396590307860202:=0
def tw8467908277718227818:=0
def tw13120352157416371082:=0
def tw10185515540725864330:=0
def tw14785552685199881162:=0
def tw4524110584221300747:=0
def tw18089951748206999659:=0
def tw15204758657314303083:=0
def tw8739765339538827403:=0
def tw1342887048640000139:=0
def tw3191586650061008107:=0
def tw15151637960422010123:=0
def tw1354097732011717931:=0
def tw9799950084643589419:=0
def tw7578612958762066283:=0
def tw16990000868413889931:=0
def tw12437981516154145195:=0
def tw5417085647156450763:=0
def tw4798776719886120427:=0
def tw821625441113784971:=0
def tw15662496626915405483:=0
def tw6220570575912478539:=0
def tw12031241231302216555:=0
def tw284943973123723211:=0
def tw8921123027037715500:=0
def tw6687301482050707532:=0
def tw9197064129139582060:=0
def tw709471215448601836:=0
def tw134208289153030476:=0
def tw7631404685786514796:=0
def tw13801446515143539116:=0
def tw5421386908142756332:=0
def tw5267372063309598252:=0
def tw6306405144574640684:=0
def tw16887061802541775468:=0
def tw17135323252319310508:=0
def tw10404227284776236748:=0
def tw9046871675215452972:=0
def tw18431821558167338796:=0
def tw6269362161220764524:=0
def tw16994711411994233772:=0
def tw9761282149435293644:=0
def tw16053046864913978316:=0
def tw16242994973263369196:=0
def tw6526092844911182828:=0
def tw10413868911751938061:=0
def tw15381484527821890637:=0
def tw16102099486862878829:=0
def tw6153681413709755501:=0
def tw3638810734371016973:=0
def tw4036547980733802765:=0
def tw252562824677092781:=0
def tw15370282173795216845:=0
def tw7046021216870691373:=0
def tw15329409032252541549:=0
def tw10570429422314581741:=0
def tw6571181113518404397:=0
def tw15366019889603786541:=0
def tw8884045828717902669:=0
def tw13594597377465068365:=0
def tw8500699922805628813:=0
def tw13613357443763757037:=0
def tw3393084516988454958:=0
def tw9712046293844043822:=0
def tw4649011539135157390:=0
def tw5441123199388495214:=0
def tw11359436614685138350:=0
def tw16254768337837117870:=0
def tw9075063729351683502:=0
def tw3819645424642755022:=0
def tw1478244281064266254:=0
def tw13178774871634795150:=0
def tw13231935726410887918:=0
def tw906667128548727534:=0
def tw868860712428012559:=0
def tw5087993724157814831:=0
def tw9690119373806084335:=0
def tw15767106017557109007:=0
def tw13398703091449836847:=0
def tw10006739629480372559:=0
def tw9690635241200171375:=0
def tw16435927753155399215:=0
def tw1076265991135689327:=0
def tw6416258168523551439:=0
def tw15195056958888480559:=0
def tw12418391307769499503:=0
def tw13081181472045881295:=0
def tw5460081245321187279:=0
def tw10553783250429942800:=0
def tw11802409146616573968:=0
def tw13614682527059238992:=0
def tw1649383028598074544:=0
def tw9898746594782331120:=0
def tw12387294716454330640:=0
def tw17669145309816425776:=0
def tw13943663967591309680:=0
def tw18445025711265743248:=0
def tw17406114022793202128:=0
def tw5093627559443946960:=0
def tw10180266516481729008:=0
def tw1825400335777329648:=0
def tw13871818211252764240:=0
def tw15547317026991807088:=0
def tw5932367343175424656:=0
def tw437411253975048048:=0
def tw3473001866574256080:=0
def tw3173901262024293425:=0
def tw3154239149521094801:=0
def tw7765106535319054513:=0
def tw287565191390222577:=0
def tw14507597873402682609:=0
def tw13444607959188697361:=0
def tw17537417381979667761:=0
def tw7159476968683540817:=0
def tw16284136740769884529:=0
def tw10195185079126448593:=0
def tw3717996279486214641:=0
def tw4410526965648171537:=0
def tw7991787002920131089:=0
def tw3976018067350114865:=0
def tw3139272090527669841:=0
def tw13723802501269606033:=0
def tw3733245180770800305:=0
def tw15583953072919878321:=0
def tw14479583227392274193:=0
def tw12018074612991717233:=0
def tw4466796343575538834:=0
def tw5874702897487022226:=0
def tw1738739295860133042:=0
def tw1703588939299668146:=0
def tw7380415562550315186:=0
def tw7631723071499870418:=0
def tw18057684427474810066:=0
def tw9647747616837650642:=0
def tw4305358157316785426:=0
def tw1240905409946082578:=0
def tw247117149238854962:=0
def tw11644317662566805810:=0
def tw11408213590983733554:=0
def tw10749699620870217042:=0
def tw13011020129968758194:=0
def tw6915231746719196594:=0
def tw4422029650029183506:=0
def tw5289901355085390354:=0
def tw11767965992658772530:=0
def tw1528988956082047602:=0
def tw1354071930584690322:=0
def tw200523324038024914:=0
def tw1701685078015557362:=0
def tw2049584398493900530:=0
def tw17348521104945836786:=0
def tw8229521688351926066:=0
def tw9965444142617719730:=0
def tw10993448457157799890:=0
def tw4954692857881118771:=0
def tw526284236443941971:=0
def tw13435770346202198131:=0
def tw8730620004002690195:=0
def tw10839567082040231091:=0
def tw3130021677822417107:=0
def tw10901789408018313491:=0
def tw7000992388202165555:=0
def tw1229819425544900947:=0
def tw15903157046877798771:=0
def tw17836243138285910483:=0
def tw3628888534795599411:=0
def tw3102020545012921971:=0
def tw4441305610859569875:=0
def tw9607489433841533683:=0
def tw13869823958378199859:=0
def tw15361472472130648979:=0
def tw11701518948084351923:=0
def tw11966264414093804531:=0
def tw9757039641224243187:=0
def tw6071101973014706163:=0
def tw2010194377953089556:=0
def tw6660826254781727828:=0
def tw13386124616034146516:=0
def tw18384934718178377972:=0
def tw7453656267687416276:=0
def tw18356369301991066100:=0
def tw4946837496707937780:=0
def tw6224271165016469012:=0
def tw17895641197731400468:=0
def tw14047402969027363636:=0
def tw14224692717752435572:=0
def tw3785517790116069300:=0
def tw11412923212923708437:=0
def tw15022009882483378229:=0
def tw3481683530675819605:=0
def tw17488076690998005909:=0
def tw7247370998668020885:=0
def tw2723403475394023573:=0
def tw6964169206306011445:=0
def tw5258022874304058901:=0
def tw5505525724568111637:=0
def tw12921440565159962165:=0
def tw13599798079694131765:=0
def tw13430922684511033941:=0
def tw1085117422691822229:=0
def tw4999150038104835797:=0
def tw7463380776929849237:=0
def tw4541827588888128405:=0
def tw7064937578739097686:=0
def tw17002039237661718614:=0
def tw4192045592316314838:=0
def tw5260562039541560566:=0
def tw4770852586196406:=0
def tw17072663108644336150:=0
def tw6963579386107407958:=0
def tw11751652528330082902:=0
def tw4306665641485525846:=0
def tw3417527431617077271:=0
def tw14750251184794901623:=0
def tw3957156962006707383:=0
def tw14124737345068035319:=0
def tw14414373922570923383:=0
def tw6098646027512102263:=0
def tw16387799401952723319:=0
def tw11215721086191946231:=0
def tw16280909363568877143:=0
def tw1621947550257183319:=0
def tw11970940669265447575:=0
def tw721339052666642071:=0
def tw1978301730005109527:=0
def tw836374091744061207:=0
def tw11509836619723807511:=0
def tw12540057852814336823:=0
def tw7193852998429476695:=0
def tw6309370615988316023:=0
def tw9265619293758243735:=0
def tw3177052499076272184:=0
def tw15269920441921747064:=0
def tw8343515825969380504:=0
def tw5503852703595410616:=0
def tw4979400530351839480:=0
def tw2463805273225650456:=0
def tw12618687568340119832:=0
def tw7632108974275889624:=0
def tw8558545291512386328:=0
def tw2823738401529007992:=0
def tw8018164514830354360:=0
def tw6683279197533794329:=0
def tw8492251540564269177:=0
def tw9405048691808356537:=0
def tw8257215312357723449:=0
def tw272904017945089433:=0
def tw13656954610818161113:=0
def tw2765111843128599001:=0
def tw7109628136891675097:=0
def tw1659279305714675449:=0
def tw11059230760472516473:=0
def tw2973401778921638777:=0
def tw8739247076438175673:=0
def tw3841581743723353049:=0
def tw16721575015739001882:=0
def tw3292604033261659162:=0
def tw16461423023327509562:=0
def tw9112008452009568346:=0
def tw13979599822293364826:=0
def tw11440213923418650778:=0
def tw14559594968938442938:=0
def tw12356412839009297658:=0
def tw16297063819196452090:=0
def tw6166162138342024442:=0
def tw10165446070046129434:=0
def tw13419476526388967770:=0
def tw17574126077870777818:=0
def tw10253005802800932314:=0
def tw11394263454768903802:=0
def tw6598952444237902522:=0
def tw1197384760048262874:=0
def tw14340474645053266682:=0
def tw15335530995795453786:=0
def tw2384324813004025786:=0
def tw16829248178961266715:=0
def tw10196203805075307579:=0
def tw8399046427936738363:=0
def tw4040872261553460347:=0
def tw18026237565055316123:=0
def tw328527808993789115:=0
def tw1381293010316539131:=0
def tw9993387050990788891:=0
def tw18312321570654879003:=0
def tw9832561089498284347:=0
def tw13768953322351993147:=0
def tw4335289237048972763:=0
def tw4842011300436022811:=0
def tw12469024550268761659:=0
def tw8507017815294918267:=0
def tw3150071180322476699:=0
def tw4343253318638903099:=0
def tw11759116763967911739:=0
def tw15680836136094301051:=0
def tw4326030085630737339:=0
def tw11989823773718644796:=0
def tw18203657404307254332:=0
def tw3098733109809195100:=0
def tw5961767899045865564:=0
def tw7313775393711582332:=0
def tw702679242391338140:=0
def tw15189560122162021596:=0
def tw13891718054395447580:=0
def tw211609109775184188:=0
def tw5041689676765967708:=0
def tw6931099450460035420:=0
def tw6952150321782530460:=0
def tw1357801291702691260:=0
def tw6015522837882738140:=0
def tw13608370186629003900:=0
def tw4561808088447850236:=0
def tw4241490624112190300:=0
def tw6100641964738696092:=0
def tw12741465171823285244:=0
def tw6393940180995005533:=0
def tw15885455967919077629:=0
def tw14322383950474585437:=0
def tw1484209998213579229:=0
def tw8120906575847949021:=0
def tw5109363856027673341:=0
def tw9794147357858336765:=0
def tw15264836637076575262:=0
def tw6865241961154633790:=0
def tw12770887517647012190:=0
def tw886698018071700862:=0
def tw14902128677103743550:=0
def tw9749762256198424158:=0
def tw11350242821002383070:=0
def tw7335619483986217822:=0
def tw1000590443884740510:=0
def tw10046345618032018430:=0
def tw15212306922665812095:=0
def tw6679448551881800863:=0
def tw4227362710309367999:=0
def tw13114231923846501631:=0
def tw12947964813609659647:=0
def tw4803372836087656767:=0
def tw5859519524496357727:=0
def tw8046433687869721983:=0
def tw11432780077270390495:=0
def tw15300581436564770559:=0
def tw1124872065752837887:=0
def tw12734970958277707615:=0
def tw17247147107184788447:=0
def tw3342352581448777695:=0
def tw14598318720014715795:=0
end PySem.W.Fast
open PySem PySem.W PyProof.Rows
set_option maxRecDepth 100000 in
set_option maxHeartbeats 0 in
theorem PySem.Challenge.cw_spinfloor_k72_whole_any_order_holds : PySem.Challenge.rw_spinfloor_k72_whole_any_order.Holds := by
 w_on;o_law;k_head;(case hw=>w_witness2)
 k_fill
 refine K8.walk (l:=PySem.Challenge.rw_spinfloor_k72_whole_any_order) rfl rfl (fun w h Y=>PySem.W.kIn_of Y) ?F
 case F =>
  intro w mg fa h KX G hmg
  refine' K8.all_mk KX G hmg ?iA ?lK ?oi ?CV ?CU ?HQ ?iR ?iQ ?dv ?gG ?iP ?iO ?du ?gF ?kH ?HP ?Gj ?Hr ?Dk ?HM ?Gg ?Ho ?Dj ?rB ?qD ?q0 ?lY ?iz ?gM ?ip ?eh ?nY ?m7 ?nL ?jF ?og ?nj ?nQ ?jK ?xk ?vR ?qC ?wR ?pT ?lC ?kJ ?lg ?gN ?cW ?cR ?cV ?bN ?ir ?gI ?ig ?d7 ?jn ?iT ?ja ?fE ?dX ?dO ?dQ ?ck ?iy ?gL ?il ?eg ?jq ?iW ?gH ?jc ?fG ?i4 ?jh ?i6 ?fL ?nu ?nU ?jM ?nC ?e8 ?fq ?bS ?cT ?kS ?lz ?e9 ?gY ?kT ?lA ?gW ?kY ?HN ?Gi ?Hq ?k_head ?rC ?qE ?ra ?lZ ?oh ?nk ?nR ?jL ?jo ?iU ?jb ?fF ?lD ?kK ?lh ?gO ?nX ?m6 ?nK ?jE ?iu ?gJ ?ij ?d8 ?f9 ?fZ ?f7 ?dA ?fu ?eZ ?fm ?cS ?i0 ?jg ?i5 ?i7 ?oa ?nh ?nP ?jJ ?n8 ?m9 ?nN ?jH ?jt ?iZ ?jf ?fK ?lF ?kM ?lp ?gQ ?lH ?kP ?lr ?gS ?lG ?kN ?lq ?gR ?dU ?dN ?dP ?cj ?lI ?kQ ?lu ?gT ?rD ?qF ?rf ?l5 ?lE ?kL ?lj ?gP ?nZ ?m8 ?nM ?jG ?jr ?iX ?jd ?fH ?js ?iY ?je ?fJ ?rE ?qG ?rg ?l6 ?lJ ?kR ?ly ?gU ?iw ?gK ?ik ?ef ?n9 ?ng ?nO ?jI ?Js ?Lm ?LJ ?Ln ?gy ?ki ?cY ?mM ?bQ ?AX ?BW ?AK ?AF ?Bt ?BH ?kE ?kD ?dM ?AW ?BV ?AJ ?AE ?Bs ?BG ?kC ?kB ?dJ ?FH ?GK ?FA ?Fs ?F2 ?Gn ?kA ?ky ?iM ?gE ?iN ?gi_wide ?JS ?JT ?EX ?EW ?Ac ?Ad ?kh ?iH ?JQ ?JP ?ux ?JR ?JV ?JO ?JU
  (case iA=>k_is)
  (case lK=>k_is)
  (case oi=>k_is)
  (case CV=>k_is)
  (case CU=>k_is)
  (case HQ=>k_is)
  (case iR=>k_is)
  (case iQ=>k_is)
  (case dv=>k_is)
  (case gG=>k_is)
  (case iP=>k_is)
  (case iO=>k_is)
  (case du=>k_is)
  (case gF=>k_is)
  (case kH=>k_is)
  (case HP=>k_is)
  (case Gj=>k_is)
  (case Hr=>k_is)
  (case Dk=>k_is)
  (case HM=>k_is)
  (case Gg=>k_is)
  (case Ho=>k_is)
  (case Dj=>k_is)
  (case rB=>k_is)
  (case qD=>k_is)
  (case q0=>k_is)
  (case lY=>k_is)
  (case iz=>k_is)
  (case gM=>k_is)
  (case ip=>k_is)
  (case eh=>k_is)
  (case nY=>k_is)
  (case m7=>k_is)
  (case nL=>k_is)
  (case jF=>k_is)
  (case og=>k_is)
  (case nj=>k_is)
  (case nQ=>k_is)
  (case jK=>k_is)
  (case xk=>k_is)
  (case vR=>k_is)
  (case qC=>k_is)
  (case wR=>k_is)
  (case pT=>k_is)
  (case lC=>k_is)
  (case kJ=>k_is)
  (case lg=>k_is)
  (case gN=>k_is)
  (case cW=>k_is)
  (case cR=>k_is)
  (case cV=>k_is)
  (case bN=>k_is)
  (case ir=>k_is)
  (case gI=>k_is)
  (case ig=>k_is)
  (case d7=>k_is)
  (case jn=>k_is)
  (case iT=>k_is)
  (case ja=>k_is)
  (case fE=>k_is)
  (case dX=>k_is)
  (case dO=>k_is)
  (case dQ=>k_is)
  (case ck=>k_is)
  (case iy=>k_is)
  (case gL=>k_is)
  (case il=>k_is)
  (case eg=>k_is)
  (case jq=>k_is)
  (case iW=>k_is)
  (case gH=>k_is)
  (case jc=>k_is)
  (case fG=>k_is)
  (case i4=>k_is)
  (case jh=>k_is)
  (case i6=>k_is)
  (case fL=>k_is)
  (case nu=>k_is)
  (case nU=>k_is)
  (case jM=>k_is)
  (case nC=>k_is)
  (case e8=>k_is)
  (case fq=>k_is)
  (case bS=>k_is)
  (case cT=>k_is)
  (case kS=>k_is)
  (case lz=>k_is)
  (case e9=>k_is)
  (case gY=>k_is)
  (case kT=>k_is)
  (case lA=>k_is)
  (case gW=>k_is)
  (case kY=>k_is)
  (case HN=>k_is)
  (case Gi=>k_is)
  (case Hq=>k_is)
  (case k_head=>k_is)
  (case rC=>k_is)
  (case qE=>k_is)
  (case ra=>k_is)
  (case lZ=>k_is)
  (case oh=>k_is)
  (case nk=>k_is)
  (case nR=>k_is)
  (case jL=>k_is)
  (case jo=>k_is)
  (case iU=>k_is)
  (case jb=>k_is)
  (case fF=>k_is)
  (case lD=>k_is)
  (case kK=>k_is)
  (case lh=>k_is)
  (case gO=>k_is)
  (case nX=>k_is)
  (case m6=>k_is)
  (case nK=>k_is)
  (case jE=>k_is)
  (case iu=>k_is)
  (case gJ=>k_is)
  (case ij=>k_is)
  (case d8=>k_is)
  (case f9=>k_is)
  (case fZ=>k_is)
  (case f7=>k_is)
  (case dA=>k_is)
  (case fu=>k_is)
  (case eZ=>k_is)
  (case fm=>k_is)
  (case cS=>k_is)
  (case i0=>k_is)
  (case jg=>k_is)
  (case i5=>k_is)
  (case i7=>k_is)
  (case oa=>k_is)
  (case nh=>k_is)
  (case nP=>k_is)
  (case jJ=>k_is)
  (case n8=>k_is)
  (case m9=>k_is)
  (case nN=>k_is)
  (case jH=>k_is)
  (case jt=>k_is)
  (case iZ=>k_is)
  (case jf=>k_is)
  (case fK=>k_is)
  (case lF=>k_is)
  (case kM=>k_is)
  (case lp=>k_is)
  (case gQ=>k_is)
  (case lH=>k_is)
  (case kP=>k_is)
  (case lr=>k_is)
  (case gS=>k_is)
  (case lG=>k_is)
  (case kN=>k_is)
  (case lq=>k_is)
  (case gR=>k_is)
  (case dU=>k_is)
  (case dN=>k_is)
  (case dP=>k_is)
  (case cj=>k_is)
  (case lI=>k_is)
  (case kQ=>k_is)
  (case lu=>k_is)
  (case gT=>k_is)
  (case rD=>k_is)
  (case qF=>k_is)
  (case rf=>k_is)
  (case l5=>k_is)
  (case lE=>k_is)
  (case kL=>k_is)
  (case lj=>k_is)
  (case gP=>k_is)
  (case nZ=>k_is)
  (case m8=>k_is)
  (case nM=>k_is)
  (case jG=>k_is)
  (case jr=>k_is)
  (case iX=>k_is)
  (case jd=>k_is)
  (case fH=>k_is)
  (case js=>k_is)
  (case iY=>k_is)
  (case je=>k_is)
  (case fJ=>k_is)
  (case rE=>k_is)
  (case qG=>k_is)
  (case rg=>k_is)
  (case l6=>k_is)
  (case lJ=>k_is)
  (case kR=>k_is)
  (case ly=>k_is)
  (case gU=>k_is)
  (case iw=>k_is)
  (case gK=>k_is)
  (case ik=>k_is)
  (case ef=>k_is)
  (case n9=>k_is)
  (case ng=>k_is)
  (case nO=>k_is)
  (case jI=>k_is)
  (case Js=>k_is)
  (case Lm=>k_is)
  (case LJ=>k_is)
  (case Ln=>k_is)
  (case gy=>k_exc)
  (case ki=>k_exc)
  (case cY=>k_is)
  (case mM=>k_exc)
  (case bQ=>k_is)
  (case AX=>k_is)
  (case BW=>k_is)
  (case AK=>k_is)
  (case AF=>k_is)
  (case Bt=>k_is)
  (case BH=>k_is)
  (case kE=>k_is)
  (case kD=>k_is)
  (case dM=>k_is)
  (case AW=>k_is)
  (case BV=>k_is)
  (case AJ=>k_is)
  (case AE=>k_is)
  (case Bs=>k_is)
  (case BG=>k_is)
  (case kC=>k_is)
  (case kB=>k_is)
  (case dJ=>k_is)
  (case FH=>k_is)
  (case GK=>k_is)
  (case FA=>k_is)
  (case Fs=>k_is)
  (case F2=>k_is)
  (case Gn=>k_is)
  (case kA=>k_is)
  (case ky=>k_is)
  (case iM=>k_is)
  (case gE=>k_is)
  (case iN=>k_is)
  (case gi_wide=>k_is)
  (case JS=>k_is)
  (case JT=>k_is)
  (case EX=>k_is)
  (case EW=>k_is)
  (case Ac=>k_is)
  (case Ad=>k_is)
  (case kh=>k_is)
  (case iH=>k_is)
  (case JQ=>k_is)
  (case JP=>k_is)
  (case ux=>k_is)
  (case JR=>k_is)
  (case JV=>k_is)
  (case JO=>k_is)
  (case JU=>k_is)
