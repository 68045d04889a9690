import PyProof.Rows.All
import Wide.All
import OpenK.AllK
import Wide.FinOn
import Lean
import PyProof.EqAt
import PyProof.EqKinds
import PyProof.TupleCall
import PySem.Challenge.RW_spinfloor_k11_whole_texts
open Array renaming toList_append → Mn, length_toList → MG, getElem?_toList → Nh, toList_extract → Nk, toList_push → NF, perm_iff_toList_perm → NG, toList_reverse → NH, toList_inj → OZ, toList_setIfInBounds → Pa, getElem?_eq_getElem → Pf, size_setIfInBounds → Pn
open Bool renaming false_ne_true → L8, false_eq_true → MR, eq_iff_iff → Ny, and_eq_true → NM, not_eq_true' → Ow, false_and → ON, xor_assoc → Pe, xor_comm → Pr
open Int renaming toNat_natCast → L7, zero_add → MZ, emod_lt_of_pos → M6, le_of_lt → M7, emod_nonneg → Nm, le_refl → Nr, toNat_of_nonneg → NN, toNat → O7
open List renaming getElem?_eq_getElem → Lw, getElem?_eq_some_iff → Lx, length_append → Ly, mem_of_getElem? → Lz, length_map → LB, mem_cons → LC, getElem?_append_right → LD, getElem?_append_left → LF, mem_cons_self → LI, mem_append → LJ, mem_cons_of_mem → LK, getElem?_map → LL, nodup_cons → LN, nodup_append → LR, length_singleton → LU, size_toArray → LV, length_take → LZ, take_append_drop → L3, mem_append_right → L4, mem_map → L9, append_assoc → Ma, length_cons → Mb, map_cons → Mc, flatten_cons → Me, getD_eq_getElem?_getD → Mg, length_drop → Mj, getElem_mem → Mm, take_add_one → Mo, getElem?_set → Mp, mem_flatten → Mq, take_of_length_le → Ms, map_append → Mu, length_set → Mv, mem_singleton → Mx, take_length → My, perm_append_comm → Mz, length_range → MA, mem_append_left → MC, mem_iff_getElem? → MD, map_map → ME, range → MH, pairwise_append → MI, flatten_append → MN, mem_of_mem_take → MO, mem_of_mem_drop → MP, drop_eq_getElem_cons → MV, getElem_of_mem → MY, cons_append → M1, getElem?_take → M5, getElem?_range → M9, append_nil → Na, length_pos_of_mem → Nb, not_mem_nil → Nd, getElem?_drop → Ng, mem_range → Nj, map_congr_left → Np, getElem?_replicate → Nq, replicate → Nu, drop_drop → Nv, pairwise_map → NC, any_cons → ND, pairwise_iff_getElem → NI, extract_eq_drop_take → NJ, all_eq_true → NL, idxOf_lt_length_iff → NO, pairwise_singleton → NP, pairwise_cons → NQ, map_take → NR, map_drop → NS, length_nil → NT, length_eq_zero_iff → NU, find?_cons → NV, getElem?_set_self → NW, drop_zero → NZ, drop_take → N0, cons_ne_nil → N9, take_add → Oc, map → Od, lookup → Oh, length → Oi, perm_ext_iff_of_nodup → Oj, append_of_mem → Ol, take_take → Om, nodup_nil → Oo, getElem_take → Ou, all_cons → OA, drop_eq_nil_of_le → OB, set_append_right → OE, range_succ → OF, nil_append → OG, getElem?_eq_none → OH, set_append_left → OI, idxOf_cons_self → OJ, getElem?_set_ne → OL, filterMap_cons → OP, getElem_drop → OT, ext_getElem? → OU, take_append_of_le_length → OX, drop_append → OY, of_mem_zip → O5, map_id → O6, exists_cons_of_ne_nil → O9, mem_or_eq_of_mem_set → Pc, length_erase_of_mem → Pm, getElem?_cons_succ → Pq
open List.Pairwise renaming imp_of_mem → Ov, nil → OV
open List.Perm renaming append_left → M4, refl → Pd
open List.cons renaming inj → Oe
open Nat renaming le_refl → LG, sub_self → Md, ne_of_lt → Mt, lt_of_lt_of_le → Mw, le_trans → MB, le_of_lt → MJ, lt_irrefl → MM, zero_le → MQ, min_eq_left → MU, mod_eq_of_lt → Nc, le_succ → Ni, toDigits_of_lt_base → Nn, le_succ_of_le → NB, lt_succ_self → NK, lt_succ_of_lt → NY, toDigits → N6, ne_of_gt → N8, not_lt_zero → Og, mod_self → OD, lt_of_le_of_lt → OQ, testBit → O3, le_antisymm → O4, testBit_or → Pb, add_sub_cancel_left → Pp
open Nat.succ renaming inj → OW
open Option renaming map_eq_some_iff → Mr, isSome → NA, isSome_iff_exists → Ot, map_some → OC
open Option.some renaming inj → L6
open PySem renaming Spec → L0, mem_of_lookup → MX
open PySem.F renaming plainAttrs_list → LY, type_list_append → Mh, slot_list_append → Mi, plainAttrs_str → MT, slot_str_join → Nf, slot_str_split → Nw, type_str_join → Nx, slot_list_lt → Oa, args_str_split_2 → Oq, type_list_index → Ox, slot_list_index → Oy, entry_str_split → Oz, slot_str_partition → O8, type_list_insert → Pg, type_list_extend → Ph, slot_list_insert → Pj, slot_list_extend → Pk
open PySem.NumText renaming digitsVal → Po
open PySem.Txt renaming split → M8
open PySem.W renaming Frag → LA, keepIn → LP, nsIn → LQ, codeIn → LS, mg_of → LW, fnOf → LX, findIn → Mf, mg_none_of → MF, kitOne → MK, kia_one → M0, emptyDict → M3, instObj → Nl, plainGet → Nt, hasDictIn → Nz, plainOver → NX, isFn → N5, mroIn → Ob, makesIn → Of, lookIn → OM, plainGet_of → OO, specialIn → OR, methodObj → OS, takesIn → O0, takerIn → O1, OpenLaw → O2
set_option Elab.async false
set_option linter.all false
set_option maxRecDepth 100000
local macro_rules | `(tactic| omega) => `(tactic| first | assumption | lia | omega +splitDisjunctions)
namespace L2
open PySem PySem.Spec PyProof.Rows
abbrev Key:=Sum Int Str
def DJ:Key->Value->Bool
 |.inl k,v=>Value.isInt k v
 |.inr x,v=>Value.isStrOf x v
def keyH(w:World):Key->Int
 |.inl k=>hashInt k
 |.inr x=>hashStr w x
theorem bG:∀{k:Key}{v:Value},DJ k v=true->(∃ i t,k=Sum.inl i/\v=Value.int i t)∨(∃ x t,k=Sum.inr x/\v=Value.str x t)
 |.inl i,v,h=>by
  obtain⟨t,e⟩:=Value.isInt_shape (k:=i) (v:=v) h
  exact .inl ⟨i,t,rfl,e⟩
 |.inr x,v,h=>by
  obtain⟨t,e⟩:=Value.isStrOf_shape (x:=x) (v:=v) h
  exact .inr ⟨x,t,rfl,e⟩
theorem F0(i:Int)(t:Tok):DJ (.inl i) (.int i t)=true:=by simp[DJ,Value.isInt]
theorem FZ(x:Str)(t:Tok):DJ (.inr x) (.str x t)=true:=by simp[DJ,Value.isStrOf]
theorem key_ll(a b:Int):decide ((Sum.inl a:Key)=Sum.inl b)=(a == b):=by
 by_cases e:a=b
 ·subst e;simp
 ·have h:¬ (Sum.inl a:Key)=Sum.inl b:=fun q=>e (Sum.inl.inj q)
  rw[decide_eq_false h]
  exact(beq_eq_false_iff_ne.mpr e).symm
theorem key_rr(a b:Str):decide ((Sum.inr a:Key)=Sum.inr b)=decide (a=b):=by
 by_cases e:a=b
 ·subst e;simp
 ·have h:¬ (Sum.inr a:Key)=Sum.inr b:=fun q=>e (Sum.inr.inj q)
  rw[decide_eq_false h,decide_eq_false e]
theorem key_lr(a:Int)(b:Str):decide ((Sum.inl a:Key)=Sum.inr b)=false:=decide_eq_false (fun q=>nomatch q)
theorem key_rl(a:Str)(b:Int):decide ((Sum.inr a:Key)=Sum.inl b)=false:=decide_eq_false (fun q=>nomatch q)
def c6(prog:Program)(w:World):PySem.KeyKind prog w Key where
 is:=DJ
 hash:=keyH w
 inj:=fun v a b ha hb=>by
  rcases bG ha with⟨i,t,rfl,rfl⟩ | ⟨x,t,rfl,rfl⟩
  ·rcases bG hb with⟨j,u,rfl,e⟩ | ⟨y,u,rfl,e⟩
   ·injection e with e1 _;rw[e1]
   ·exact nomatch e
  ·rcases bG hb with⟨j,u,rfl,e⟩ | ⟨y,u,rfl,e⟩
   ·exact nomatch e
   ·injection e with e1 _;rw[e1]
 byValue:=fun k v h=>by
  rcases bG h with⟨i,t,rfl,rfl⟩ | ⟨x,t,rfl,rfl⟩<;>rfl
 pyHash:=fun hv h=>by
  rcases bG hv with⟨i,t,rfl,rfl⟩ | ⟨x,t,rfl,rfl⟩
  ·exact wpAny_pyHash_int h
  ·exact wpAny_pyHash_str h
 eqBool:=fun hu hv h=>by
  rcases bG hu with⟨i,t,rfl,rfl⟩ | ⟨x,t,rfl,rfl⟩
  ·rcases bG hv with⟨j,u,rfl,rfl⟩ | ⟨y,u,rfl,rfl⟩
   ·rw[key_ll]at h;exact wpAny_eqBool_int h
   ·rw[key_lr]at h;exact SeqAt.EqAt.int_str i t y u _ _ _ _ h
  ·rcases bG hv with⟨j,u,rfl,rfl⟩ | ⟨y,u,rfl,rfl⟩
   ·rw[key_rl]at h;exact SeqAt.EqAt.str_int x t j u _ _ _ _ h
   ·rw[key_rr]at h;exact wpAny_eqBool_str h
 «strs»:=fun k x t v h=>by
  rcases bG h with⟨i,u,rfl,e⟩ | ⟨y,u,rfl,e⟩
  ·exact nomatch e
  ·injection e with e1 _
   subst e1
   cases v<;>rfl
theorem Ak(prog:Program)(w:World)(i:Int)(t:Tok):(c6 prog w).is (.inl i) (.int i t)=true:=F0 i t
theorem Aj(prog:Program)(w:World)(x:Str)(t:Tok):(c6 prog w).is (.inr x) (.str x t)=true:=FZ x t
end L2
namespace L2
open PySem PySem.Spec PyProof.Rows
inductive V where
 |non | bl (b:Bool) | int (i:Int) | str (x:Str) | byt (b:Array UInt8) | flt (b:UInt64) | ref (a:Addr) | ty (n:String)
 deriving DecidableEq
def RelV:V->Value->Prop
 |.non,u=>u=Value.none
 |.bl b,u=>u=Value.bool b
 |.int i,u=>∃ t,u=Value.int i t
 |.str x,u=>∃ t,u=Value.str x t
 |.byt b,u=>∃ t,u=Value.bytes b t
 |.flt b,u=>∃ t,u=Value.float b t
 |.ref a,u=>u=Value.ref a
 |.ty n,u=>u=Value.type n
abbrev Vals:List V->List Value->Prop:=Paired RelV
theorem Vals.length{xs:List V}{us:List Value}(r:Vals xs us):xs.length=us.length:=Paired.length r
theorem Vals.get:∀{xs:List V}{us:List Value}{i:Nat}{x:V},Vals xs us->xs[i]?=some x->∃ u,us[i]?=some u/\RelV x u
 |_,_,_,_,.nil,e=>by simp at e
 |_,_,0,_,.cons r _,e=>by simp at e;subst e;exact⟨_,rfl,r⟩
 |_,_,i+1,x,.cons _ t,e=>by
  obtain⟨u,h1,h2⟩:=Vals.get (i:=i) (x:=x) t (by simpa using e)
  exact⟨u,by simpa using h1,h2⟩
theorem Vals.set{x:V}{u:Value}(r:RelV x u):∀{xs:List V}{us:List Value}(i:Nat),Vals xs us->Vals (xs.set i x) (us.set i u)
 |_,_,_,.nil=>.nil
 |_,_,0,.cons _ t=>.cons r t
 |_,_,i+1,.cons q t=>.cons q (Vals.set r i t)
theorem Vals.append:∀{xs ys:List V}{us ws:List Value},Vals xs us->Vals ys ws->Vals (xs++ys) (us++ws)
 |_,_,_,_,.nil,s=>s
 |_,_,_,_,.cons r t,s=>.cons r (Vals.append t s)
theorem Vals.take:∀{xs:List V}{us:List Value}(n:Nat),Vals xs us->Vals (xs.take n) (us.take n)
 |_,_,0,_=>.nil
 |_,_,_+1,.nil=>.nil
 |_,_,n+1,.cons r t=>.cons r (Vals.take n t)
theorem Vals.drop:∀{xs:List V}{us:List Value}(n:Nat),Vals xs us->Vals (xs.drop n) (us.drop n)
 |_,_,0,r=>r
 |_,_,_+1,.nil=>.nil
 |_,_,n+1,.cons _ t=>Vals.drop n t
def RelO:Option V->Option Value->Prop
 |some v,some u=>RelV v u
 |none,none=>True
 |_,_=>False
def KV{κ:Type}:List (κ×V)->List (κ×Value)->Prop:=Paired fun(p:κ×V) (q:κ×Value)=>p.1=q.1/\RelV p.2 q.2
def kV:Key->V
 |.inl i=>.int i
 |.inr x=>.str x
inductive HO where
  |lst (xs:List V)
  |tup (xs:List V)
  |dK (kvs:List (Key×V)) | dT (kvs:List (List Key×V))
  |set (S:Int->Bool) (n:Nat)
  |ins (C dx:Addr) (fs:List (Str×V))
  |own (x:Addr)
  |xd (fs:List (Str×V))
  |met (f x:Addr)
  |rng (lo hi:Int)
  |frz (o:Obj) (u:HO)
  |tbl (ps:Array Value)
  |ext (φ:Heap->Prop)
abbrev Hp:=Addr->Option HO
def upd(H:Hp)(a:Addr)(o:HO):Hp:=fun b=>if b=a then some o else H b
theorem ae{H:Hp}{a:Addr}{o:HO}:upd H a o a=some o:=by unfold upd;rw[if_pos rfl]
theorem au{H:Hp}{a b:Addr}{o:HO}(h:b≠a):upd H a o b=H b:=by unfold upd;rw[if_neg h]
theorem ne_of{H:Hp}{a b:Addr}{o u:HO}(h:H a=some o)(h':H b=some u)(d:o≠u):a≠b:=by
 intro e;subst e;rw[h]at h';exact d (L6 h')
theorem aJ{H:Hp}{a b:Addr}{o:HO}(h:H a=some o)(h':H b=none):a≠b:=by
 intro e;subst e;rw[h]at h';cases h'
section
variable(P:Program)(w:World)
def bT(H:Hp)(h:Heap)(a:Addr):HO->Prop
 |.lst xs=>xs.length<=sizeLine/\∃(its:List Value)(n:Nat),Vals xs its/\h.get? a=some { cls:=.type "list",data:=.seq its.toArray n }
 |.tup xs=>xs.length<=sizeLine/\∃ its:List Value,Vals xs its/\IsTup h a its.toArray
 |.dK kvs=>kvs.length<=sizeLine/\(a == sysModules)=false/\∃ vs,KV kvs vs/\h.DictOf (c6 P w) a vs
 |.dT kvs=>kvs.length<=sizeLine/\(a == sysModules)=false/\∃ xs:List (List Key×Addr×Value),
   Paired (fun(p:List Key×V) (q:List Key×Addr×Value)=>p.1=q.1/\H q.2.1=some (.tup (p.1.map kV))/\RelV p.2 q.2.2) kvs xs /\
   ∃ o es ep,h.get? a=some o/\o.ExactDict/\o.data=.dict es ep/\es.toList=xs.map (entryOfKey (tupleKind (c6 P w)))/\(xs.map (·.1)).Nodup
 |.set S n=>h.SetOf (intKind P w) a S n
 |.ins C dx fs=>H dx=some (.own a)/\fs.length<=1000/\dx≠a/\h.get? a=some (Nl C dx) /\
   ∃ mA,h.Ns1 dx mA/\(∀ f,RelO (fs.lookup f) (mA f))/\PySem.Within mA (fs.map (·.1))
 |.own _=>∃ o,h.get? a=some o
 |.xd fs=>∃ mA,h.Ns1 a mA/\∀ f,RelO (fs.lookup f) (mA f)
 |.rng lo hi=>∃ t u v,h.get? a=some { cls:=.type "range",data:=.fields #[.int lo t,.int hi u,.int 1 v] }
 |.frz o u=>h.get? a=some o/\bT H h a u
 |.tbl ps=>h.get? a=some { cls:=.none,data:=.fields ps }
 |.met f x=>h.get? a=some (OS (.ref f) (.ref x))
 |.ext φ=>φ h/\(∃ o,h.get? a=some o)/\∀ h1 h2:Heap,φ h1->(∀ o,h1.get? a=some o->h2.get? a=some o)->φ h2
def HOk(H:Hp)(h:Heap):Prop:=∀ a o,H a=some o->bT P w H h a o
end
section
variable{P:Program}{w:World}{H H':Hp}{h h':Heap}{a:Addr}{o:HO}
theorem bT.lt(x:bT P w H h a o):a<h.objs.size:=by
 cases o with
 |lst xs=>obtain⟨_,_,_,_,e⟩:=x;exact Heap.lt_size e
 |tup xs=>obtain⟨_,_,_,p⟩:=x;exact p.lt
 |dK kvs=>obtain⟨_,_,_,_,o,_,_,e,_⟩:=x;exact Heap.lt_size e
 |dT kvs=>obtain⟨_,_,_,_,o,_,_,e,_⟩:=x;exact Heap.lt_size e
 |set S n=>obtain⟨o,_,_,_,e,_⟩:=x;exact Heap.lt_size e
 |ins C dx fs=>obtain⟨_,_,_,e,_⟩:=x;exact Heap.lt_size e
 |own y=>obtain⟨_,e⟩:=x;exact Heap.lt_size e
 |xd fs=>obtain⟨_,⟨_,_,_,e,_⟩,_⟩:=x;exact Heap.lt_size e
 |rng lo hi=>obtain⟨_,_,_,e⟩:=x;exact Heap.lt_size e
 |frz ob u=>obtain⟨e,_⟩:=x;exact Heap.lt_size e
 |tbl ps=>exact Heap.lt_size (show h.get? a=some _ from x)
 |met f y=>exact Heap.lt_size (show h.get? a=some _ from x)
 |ext φ=>obtain⟨_,⟨_,e⟩,_⟩:=x;exact Heap.lt_size e
theorem Paired.mapP{α β:Type}{F G:α->β->Prop}:∀{l₁:List α}{l₂:List β},Paired F l₁ l₂->(∀ a b,F a b->G a b)->Paired G l₁ l₂
 |_,_,.nil,_=>.nil
 |_,_,.cons r t,f=>.cons (f _ _ r) (Paired.mapP t f)
theorem bT.stay(x:bT P w H h a o)(k:∀ b u,(b=a∨H b=some (.own a))->h.get? b=some u->h'.get? b=some u)
  (ho:∀ b,H b=some (.own a)->H' b=some (.own a)) (ht:∀ b xs,H b=some (.tup xs)->H' b=some (.tup xs)):bT P w H' h' a o:=by
 induction o with
 |lst xs=>obtain⟨z,its,n,r,e⟩:=x;exact⟨z,its,n,r,k _ _ (.inl rfl) e⟩
 |tup xs=>obtain⟨z,its,r,ob,e,c⟩:=x;exact⟨z,its,r,ob,k _ _ (.inl rfl) e,c⟩
 |dK kvs=>obtain⟨z,y,vs,r,ob,es,ep,e,c⟩:=x;exact⟨z,y,vs,r,ob,es,ep,k _ _ (.inl rfl) e,c⟩
 |dT kvs =>
  obtain⟨z,y,xs,r,ob,es,ep,e,c⟩:=x
  exact⟨z,y,xs,Paired.mapP r fun p q z=>⟨z.1,ht _ _ z.2.1,z.2.2⟩,ob,es,ep,k _ _ (.inl rfl) e,c⟩
 |set S n=>obtain⟨ob,es,ep,t,e,c⟩:=x;exact⟨ob,es,ep,t,k _ _ (.inl rfl) e,c⟩
 |ins C dx fs =>
  obtain⟨d,z,ne,e,mA,⟨od,es,ep,e2,c⟩,r⟩:=x
  exact⟨ho _ d,z,ne,k _ _ (.inl rfl) e,mA,⟨od,es,ep,k _ _ (.inr d) e2,c⟩,r⟩
 |own y=>obtain⟨ob,e⟩:=x;exact⟨ob,k _ _ (.inl rfl) e⟩
 |xd fs=>obtain⟨mA,⟨od,es,ep,e,c⟩,r⟩:=x;exact⟨mA,⟨od,es,ep,k _ _ (.inl rfl) e,c⟩,r⟩
 |rng lo hi=>obtain⟨t,u,v,e⟩:=x;exact⟨t,u,v,k _ _ (.inl rfl) e⟩
 |frz ob u ih=>obtain⟨e,q⟩:=x;exact⟨k _ _ (.inl rfl) e,ih q⟩
 |tbl ps =>
  have e:h.get? a=some { cls:=.none,data:=.fields ps }:=x
  show h'.get? a=some { cls:=.none,data:=.fields ps }
  exact k a _ (.inl rfl) e
 |met f y =>
  have e:h.get? a=some (OS (.ref f) (.ref y)):=x
  show h'.get? a=some (OS (.ref f) (.ref y))
  exact k a _ (.inl rfl) e
 |ext φ=>obtain⟨p,⟨o,e⟩,st⟩:=x;exact⟨st _ _ p fun o q=>k _ _ (.inl rfl) q,⟨o,k _ _ (.inl rfl) e⟩,st⟩
theorem HOk.lt(x:HOk P w H h)(e:H a=some o):a<h.objs.size:=(x a o e).lt
theorem HOk.fresh(x:HOk P w H h)(e:h.objs.size<=a):H a=none:=by
 cases q:H a with
 |none=>rfl
 |some u=>exact absurd (Mw (x.lt q) e) (MM _)
theorem HOk.kept(x:HOk P w H h)(k:∀ b u,h.get? b=some u->h'.get? b=some u):HOk P w H h':=fun a o e =>
 (x a o e).stay (fun b u _ q=>k b u q) (fun _ q=>q) fun _ _ q=>q
theorem HOk.laid(x:HOk P w H h)(k:∀ b u,h.get? b=some u->h'.get? b=some u)(hp:h.objs.size<=a)(new:bT P w (upd H a o) h' a o):HOk P w (upd H a o) h':=fun b u e=>by
 have hn:=x.fresh hp
 by_cases hb:b=a
 ·subst hb;rw[ae]at e;cases e;exact new
 ·rw[au hb]at e
  exact(x b u e).stay (fun c v _ q=>k c v q) (fun c q=>by rw[au (aJ q hn)];exact q) fun c xs q=>by rw[au (aJ q hn)];exact q
end
def Rd(H:Hp)(a:Addr)(u:HO):Prop:=H a=some u∨∃ o,H a=some (.frz o u)
theorem Rd.ok{P:Program}{w:World}{H:Hp}{h:Heap}{a:Addr}{u:HO}(r:Rd H a u)(x:HOk P w H h):bT P w H h a u:=by
 rcases r with r | ⟨o,r⟩
 ·exact x a u r
 ·obtain⟨_,q⟩:=x a _ r
  exact q
def Mut:Option HO->Prop
 |some (.lst _)=>True
 |some (.dK _)=>True
 |some (.dT _)=>True
 |some (.set _ _)=>True
 |some (.ins _ _ _)=>True
 |some (.ext _)=>True
 |_=>False
section
variable{P:Program}{w:World}{H:Hp}{h h':Heap}{x e:Addr}{o':HO}
theorem HOk.write(ok:HOk P w H h)(mu:Mut (H x))(he:e=x∨H e=some (.own x))(k:∀ b u,b≠e->h.get? b=some u->h'.get? b=some u)(heo:∃ u,h'.get? e=some u)
  (new:bT P w (upd H x o') h' x o'):HOk P w (upd H x o') h':=fun b u q=>by
 have nown:∀ c y,H c=some (.own y)->c≠x:=fun c y r z=>by subst z;rw[r]at mu;exact mu
 have ntup:∀ c xs,H c=some (.tup xs)->c≠x:=fun c xs r z=>by subst z;rw[r]at mu;exact mu
 by_cases hb:b=x
 ·subst hb;rw[ae]at q;cases q;exact new
 ·rw[au hb]at q
  by_cases hbe:b=e
  ·have q':H b=some (.own x):=by
    rcases he with z | z
    ·exact absurd (hbe.trans z) hb
    ·rw[hbe];exact z
   rw[q]at q';cases q'
   obtain⟨v,hv⟩:=heo
   exact⟨v,by rw[hbe];exact hv⟩
  ·refine(ok b u q).stay (fun c v hc r=>k c v ?_ r) (fun c r=>by rw[au (nown c b r)];exact r) fun c xs r=>by rw[au (ntup c xs r)];exact r
   rcases hc with rfl | hc
   ·exact hbe
   ·rintro rfl
    rcases he with z | z
    ·exact nown c b hc z
    ·rw[hc]at z;cases z;exact hb rfl
end
structure Un(fs ex:List Addr)(H H':Hp)(h h':Heap):Prop where
 keep:∀ b o,h.get? b=some o->H b=none->b∉fs->b∉ex->h'.get? b=some o
 slot:∀ b o,h.get? b=some o->H b=none->b∈fs->b∉ex->∃ sl,h'.get? b=some { o with slots:=sl }
 free:∀ b o,h.get? b=some o->H b=none->b∉ex->H' b=none
 there:∀ b o,h.get? b=some o->b∉ex->∃ o',h'.get? b=some o'
 tups:∀ b xs,H b=some (.tup xs)->H' b=some (.tup xs)
 frzs:∀ b o u,H b=some (.frz o u)->H' b=some (.frz o u)
 tbls:∀ b ps,H b=some (.tbl ps)->∃ more,H' b=some (.tbl (ps++more))
section
variable{fs fs' ex ex':List Addr}{H H1 H2:Hp}{h h1 h2 h':Heap}{a x e:Addr}{o:HO}
theorem Un.any(u:Un fs ex H H1 h h1){b:Addr}{ob:Obj}(q:h.get? b=some ob)(n:H b=none)(hx:b∉ex):∃ sl,h1.get? b=some { ob with slots:=sl }:=by
 by_cases hb:b∈fs
 ·exact u.slot b ob q n hb hx
 ·exact⟨ob.slots,u.keep b ob q n hb hx⟩
theorem Un.kept(k:∀ b u,h.get? b=some u->h'.get? b=some u):Un fs ex H H h h' :=
 ⟨fun b ob q _ _ _=>k b ob q,fun b ob q _ _ _=>⟨ob.slots,k b ob q⟩,fun _ _ _ n _=>n,fun b ob q _=>⟨ob,k b ob q⟩,fun _ _ q=>q,fun _ _ _ q=>q,fun _ ps q=>⟨#[],by rw[q];simp⟩⟩
theorem Un.refl:Un fs ex H H h h:=Un.kept fun _ _ q=>q
theorem Un.laid(k:∀ b u,h.get? b=some u->h'.get? b=some u)(hp:h.objs.size<=a)(hn:H a=none):Un fs ex H (upd H a o) h h' where
 keep:=fun b u q _ _ _=>k b u q
 slot:=fun b u q _ _ _=>⟨u.slots,k b u q⟩
 free:=fun b u q n _=>by rw[au (Mt (Mw (Heap.lt_size q) hp))];exact n
 there:=fun b u q _=>⟨u,k b u q⟩
 tups:=fun b xs q=>by rw[au (aJ q hn)];exact q
 frzs:=fun b u xs q=>by rw[au (aJ q hn)];exact q
 tbls:=fun b ps q=>⟨#[],by rw[au (aJ q hn),q];simp⟩
theorem Un.write(mu:Mut (H x))(he:e=x∨H e=some (.own x))(k:∀ b u,b≠e->h.get? b=some u->h'.get? b=some u)(heo:∃ u,h'.get? e=some u):Un fs ex H (upd H x o) h h':=by
 have hx:∀ b,H b=none->b≠x:=fun b n z=>by subst z;rw[n]at mu;exact mu
 have hb:∀ b,H b=none->b≠e:=fun b n z=>by
  subst z
  rcases he with r | r
  ·exact hx b n r
  ·rw[n]at r;cases r
 have hm:∀ b u,H b=some u->¬ Mut (some u)->b≠x:=fun b u q nm z=>by subst z;rw[q]at mu;exact nm mu
 refine⟨fun b u q n _ _=>k b u (hb b n) q,fun b u q n _ _=>⟨u.slots,k b u (hb b n) q⟩,fun b u q n _=>by rw[au (hx b n)];exact n,fun b u q _=>?_,
  fun b xs q=>by rw[au (hm b _ q fun z=>z)];exact q,fun b u xs q=>by rw[au (hm b _ q fun z=>z)];exact q,fun b ps q=>⟨#[],by rw[au (hm b _ q fun z=>z),q];simp⟩⟩
 by_cases hbe:b=e
 ·subst hbe;exact heo
 ·exact⟨u,k b u hbe q⟩
end
def trk(h:Heap)(H:Hp):List Addr:=(MH h.objs.size).filter fun a=>(H a).isSome
def hidT(h:Heap)(H:Hp):Heap:=PySem.W.hideAll h (trk h H)
theorem Gg(h:Heap)(H:Hp):(hidT h H).objs.size=h.objs.size:=PySem.W.hideAll_size _ _
theorem ID{h:Heap}{H:Hp}{b:Addr}{o:Obj}(e:h.get? b=some o)(n:H b=none):(hidT h H).get? b=some o :=
 PySem.W.hideAll_get _ e fun hm=>by
  have q:(H b).isSome=true:=(List.mem_filter.mp hm).2
  rw[n]at q;simp at q
theorem Kw{h:Heap}{H:Hp}{b:Addr}{o:Obj}(e:(hidT h H).get? b=some o):h.get? b=some o/\H b=none:=by
 have e':h.get? b=some o:=PySem.W.of_hideAll (trk h H) e
 refine⟨e',?_⟩
 cases q:H b with
 |none=>rfl
 |some x =>
  have hm:b∈trk h H:=List.mem_filter.mpr ⟨Nj.mpr (Heap.lt_size e'),by simp[q]⟩
  have z:(hidT h H).get? b=none:=PySem.W.hideAll_none (trk h H) hm
  rw[z]at e;cases e
end L2
namespace L2
open PySem PySem.Spec PyProof.Rows
structure Mod(K:LA)(mg:Str->Option Value)(base:Heap):Prop where
 kin:K.In base
 glob:base.Ns mainGlobals mg
 blt:∃ mb,base.Ns builtinsNs mb/\∀ x:Str,x≠"__name__"->mb x=bootBuiltins x
 nolimit:base.NoLimit
structure Cx where
 prog:Program
 w:World
 K:LA
 mg:Str->Option Value
 base:Heap
 A:Around
 N:List Str
 s₀:Shared
 H₀:Hp
 env:Env
 outer:List Env
 stack:List Env
 ex:List Addr
 fn:Str->Bool
 calm:Bool
 pn:List (Addr×Obj)
 xe:Value->Shared->Prop
def frs(l:List Env):List Addr:=l.filterMap (·.frame)
abbrev Cx.fs(X:Cx):List Addr:=frs X.outer
def Vis(sc:Scope)(x:Str):Prop:=sc.names.lookup x=some .local∨sc.names.lookup x=some .cell∨sc.names.lookup x=some .free
def Loc(sc:Scope)(x:Str):Prop:=sc.names.lookup x=some .local∨sc.names.lookup x=some .cell
def Look(env:Env)(h:Heap)(m:Str->Option Value)(x:Str)(u:Value):Prop :=
 (env.kindOf x=some .local/\m x=some u)∨((env.kindOf x=some .cell∨env.kindOf x=some .free)/\∃ c,env.cells.lookup x=some c/\h.IsCell c (some u))
structure Cx.Ok(X:Cx):Prop where
 mod:Mod X.K X.mg X.base
 kind:X.env.scope.kind=.function
 glob:X.env.globals=mainGlobals
 blt:X.env.builtins=builtinsNs
 above:X.s₀.heap.objs.size<=X.env.locals
 inj:∀ x y c,X.env.cells.lookup x=some c->X.env.cells.lookup y=some c->x=y
 has:∀ x,(X.env.kindOf x=some .cell∨X.env.kindOf x=some .free)->∃ c,X.env.cells.lookup x=some c
 cab:∀ x c,X.fn x=true->X.env.cells.lookup x=some c->X.s₀.heap.objs.size<=c
 hd:X.calm=true->X.A.handled=none
 frames:X.A.frames=some X.stack
 stk:X.stack=X.outer∨(X.stack=X.env::X.outer/\X.env.frame=some X.env.locals)
 exf:∀ b∈X.ex,b≠X.env.locals/\∀ x c,X.env.cells.lookup x=some c->c≠b
 bs:∀ b o,X.base.get? b=some o->X.s₀.heap.get? b=some o/\X.H₀ b=none
 bsz:X.base.objs.size<=X.s₀.heap.objs.size
 noex:∀ b o,X.base.get? b=some o->b∉X.ex
 exfs:∀ b∈X.ex,b∉X.fs
 funs:X.s₀.heap.FunFrames X.base X.outer
 frf:∀ b∈X.fs,X.H₀ b=none
structure Inv(X:Cx)(pins:List (Addr×Obj))(σ:List (Option V))(H:Hp)(s:Shared):Prop where
 ok:X.Ok
 os:s.os=X.s₀.os
 bare:AllBare s.gens
 base:Un X.fs X.ex X.H₀ H X.s₀.heap s.heap
 loc:∃ m,s.heap.Ns X.env.locals m/\∀(i:Nat)(x:Str)(v:V),X.N[i]?=some x->σ[i]?=some (some v)->Vis X.env.scope x->∃ u,RelV v u/\Look X.env s.heap m x u
 cell:∀ x c,X.env.cells.lookup x=some c->∃ v,s.heap.IsCell c v
 free:H X.env.locals=none
 freeC:∀ x c,X.env.cells.lookup x=some c->H c=none
 pin:∀ p∈X.pn++pins,s.heap.get? p.1=some p.2/\H p.1=none/\p.1≠X.env.locals/\p.1∉X.fs/\∀ v,p.2.data≠.cell v
 hok:HOk X.prog X.w H s.heap
 len:σ.length=X.N.length
section
variable{X:Cx}{pins:List (Addr×Obj)}{σ:List (Option V)}{H H':Hp}{s:Shared}{h':Heap}
theorem Cx.Ok.nofr(ok:X.Ok){b:Addr}{o:Obj}(e:X.base.get? b=some o):b∉X.fs:=fun hb=>by
 have:=(ok.funs.mem hb).1
 rw[e]at this;cases this
theorem Inv.bs(I:Inv X pins σ H s):∀ b o,X.base.get? b=some o->s.heap.get? b=some o/\H b=none:=fun b o e =>
 ⟨I.base.keep b o (I.ok.bs b o e).1 (I.ok.bs b o e).2 (I.ok.nofr e) (I.ok.noex b o e),I.base.free b o (I.ok.bs b o e).1 (I.ok.bs b o e).2 (I.ok.noex b o e)⟩
theorem Inv.bk(I:Inv X pins σ H s):∀ b o,X.base.get? b=some o->s.heap.get? b=some o:=fun b o e=>(I.bs b o e).1
theorem Inv.mod(I:Inv X pins σ H s):Mod X.K X.mg X.base:=I.ok.mod
theorem Inv.kIn(I:Inv X pins σ H s):X.K.In s.heap:=I.ok.mod.kin.keeps I.bk
theorem Inv.lt(I:Inv X pins σ H s):X.env.locals<s.heap.objs.size:=let ⟨_,hn,_⟩:=I.loc;hn.lt
theorem Inv.sz(I:Inv X pins σ H s):X.s₀.heap.objs.size<=s.heap.objs.size:=MB I.ok.above (MJ I.lt)
theorem Inv.nofs(I:Inv X pins σ H s){a:Addr}(h:s.heap.objs.size<=a):a∉X.fs:=fun hb=>by
 obtain⟨_,o,ho,_⟩:=I.ok.funs.mem hb
 exact absurd (Mw (Heap.lt_size ho) (MB I.sz h)) (MM _)
theorem Inv.cne(I:Inv X pins σ H s):∀ x c,X.env.cells.lookup x=some c->c≠X.env.locals:=fun x c e z=>by
 obtain⟨v,o,ho,hd⟩:=I.cell x c e
 obtain⟨m,⟨o',es,ep,ho',hd',_⟩,_⟩:=I.loc
 rw[z,ho']at ho;cases ho;rw[hd']at hd;cases hd
theorem Inv.funs(I:Inv X pins σ H s):s.heap.FunFrames X.base X.outer:=by
 have all:∀(l:List Env),(∀ b∈frs l,b∈X.fs)->X.s₀.heap.FunFrames X.base l->s.heap.FunFrames X.base l:=by
  intro l
  induction l with
  |nil=>intro _ _;trivial
  |cons env r ih =>
   intro hs hl
   obtain⟨hk,⟨L,o,hf,hn,ho,hd⟩,hr⟩:=hl
   have hL:L∈X.fs:=hs L (by unfold frs;rw[OP,hf];exact LI)
   obtain⟨sl,e⟩:=I.base.slot L o ho (I.ok.frf L hL) hL fun z=>I.ok.exfs L z hL
   exact⟨hk,⟨L,_,hf,hn,e,hd⟩,ih (fun b hb=>hs b (by unfold frs;rw[OP,hf];exact LK _ hb)) hr⟩
 exact all X.outer (fun _ hb=>hb) I.ok.funs
theorem Inv.stack(I:Inv X pins σ H s):s.heap.FunFrames X.base X.stack:=by
 rcases I.ok.stk with e | ⟨e,hf⟩
 ·rw[e];exact I.funs
 ·rw[e]
  obtain⟨m,hn,_⟩:=I.loc
  refine .cons (by rw[I.ok.kind];decide) hf hn ?_ I.funs
  exact Heap.get?_none_of_le (MB I.ok.bsz I.ok.above)
theorem Inv.stkSub(I:Inv X pins σ H s):∀ b∈frs X.stack,b∈X.env.locals::X.fs:=fun b hb=>by
 rcases I.ok.stk with e | ⟨e,hf⟩
 ·rw[e]at hb;exact LK _ hb
 ·rw[e]at hb
  unfold frs at hb
  rw[OP,hf]at hb
  exact hb
theorem Inv.stkFree(I:Inv X pins σ H s):∀ b∈frs X.stack,H b=none:=fun b hb=>by
 rcases LC.mp (I.stkSub b hb)with e | hb
 ·rw[e];exact I.free
 ·obtain⟨_,o,ho,_⟩:=I.ok.funs.mem hb
  exact I.base.free b o ho (I.ok.frf b hb) fun z=>I.ok.exfs b z hb
theorem Inv.step{g':Array GenState}{t':Nat}{d':Drawn}{ch:List Addr}(I:Inv X pins σ H s)
  (hch:∀ b∈ch,(b∈X.ex∨X.s₀.heap.objs.size<=b)/\b≠X.env.locals/\(∀ x c,X.env.cells.lookup x=some c->c≠b)/\∀ p∈X.pn++pins,p.1≠b)
  (keep:∀ b o,b≠X.env.locals->b∉X.fs->b∉ch->s.heap.get? b=some o->H b=none->h'.get? b=some o)
  (slot:∀ b o,b≠X.env.locals->b∈X.fs->b∉ch->s.heap.get? b=some o->H b=none->∃ sl,h'.get? b=some { o with slots:=sl }) (free:∀ b o,b∉ch->s.heap.get? b=some o->H b=none->H' b=none)
  (there:∀ b o,b∉ch->s.heap.get? b=some o->∃ o',h'.get? b=some o')
  (tups:∀ b xs,H b=some (.tup xs)->H' b=some (.tup xs)) (frzs:∀ b o u,H b=some (.frz o u)->H' b=some (.frz o u)) (tbls:∀ b ps,H b=some (.tbl ps)->∃ more,H' b=some (.tbl (ps++more)))
  (ns:∀ m,s.heap.Ns X.env.locals m->h'.Ns X.env.locals m) (hok:HOk X.prog X.w H' h') (hg:AllBare g') :
  Inv X pins σ H' { s with heap:=h',gens:=g',drawn:=d',toks:=t' }:=by
 have neL:∀ b o,X.s₀.heap.get? b=some o->b≠X.env.locals:=fun b o e=>Mt (Mw (Heap.lt_size e) I.ok.above)
 have neC:∀ b o,X.s₀.heap.get? b=some o->b∉X.ex->b∉ch:=fun b o e hx hb=>by
  rcases(hch b hb).1 with z | z
  ·exact hx z
  ·exact absurd (Mw (Heap.lt_size e) z) (MM _)
 have cellK:∀ x c,X.env.cells.lookup x=some c->∀ v,s.heap.IsCell c v->h'.IsCell c v:=fun x c e v ⟨o,ho,hd⟩=>by
  have nch:c∉ch:=fun z=>(hch c z).2.2.1 x c e rfl
  by_cases hc:c∈X.fs
  ·obtain⟨sl,q⟩:=slot c o (I.cne x c e) hc nch ho (I.freeC x c e)
   exact⟨_,q,hd⟩
  ·exact⟨o,keep c o (I.cne x c e) hc nch ho (I.freeC x c e),hd⟩
 refine⟨I.ok,I.os,hg,⟨fun b o e n hb hx=>?_,fun b o e n hb hx=>?_,fun b o e n hx=>?_,fun b o e hx=>?_,fun b xs e=>tups b xs (I.base.tups b xs e),fun b o xs e=>frzs b o xs (I.base.frzs b o xs e),fun b ps e=>?_⟩,?_,fun x c e=>?_,?_,fun x c e=>?_,fun p hp=>?_,hok,I.len⟩
 ·exact keep b o (neL b o e) hb (neC b o e hx) (I.base.keep b o e n hb hx) (I.base.free b o e n hx)
 ·obtain⟨sl,e1⟩:=I.base.slot b o e n hb hx
  obtain⟨sl',e2⟩:=slot b _ (neL b o e) hb (neC b o e hx) e1 (I.base.free b o e n hx)
  exact⟨sl',e2⟩
 ·obtain⟨o',e1⟩:=I.base.there b o e hx
  exact free b o' (neC b o e hx) e1 (I.base.free b o e n hx)
 ·obtain⟨o',e1⟩:=I.base.there b o e hx
  exact there b o' (neC b o e hx) e1
 ·obtain⟨m1,e1⟩:=I.base.tbls b ps e
  obtain⟨m2,e2⟩:=tbls b _ e1
  exact⟨m1++m2,by rw[e2,Array.append_assoc]⟩
 ·obtain⟨m,hn,hl⟩:=I.loc
  refine⟨m,ns m hn,fun i x v e1 e2 e3=>?_⟩
  obtain⟨u,r,l⟩:=hl i x v e1 e2 e3
  refine⟨u,r,?_⟩
  rcases l with l | ⟨k,c,e,z⟩
  ·exact .inl l
  ·exact .inr ⟨k,c,e,cellK x c e _ z⟩
 ·obtain⟨v,z⟩:=I.cell x c e
  exact⟨v,cellK x c e v z⟩
 ·obtain⟨m,⟨o,_,_,ho,_⟩,_⟩:=I.loc
  exact free _ o (fun z=>(hch _ z).2.1 rfl) ho I.free
 ·obtain⟨v,o,ho,hd⟩:=I.cell x c e
  exact free c o (fun z=>(hch c z).2.2.1 x c e rfl) ho (I.freeC x c e)
 ·obtain⟨e,n,ne,nf,d⟩:=I.pin p hp
  have nch:p.1∉ch:=fun z=>(hch p.1 z).2.2.2 p hp rfl
  exact⟨keep p.1 p.2 ne nf nch e n,free p.1 p.2 nch e n,ne,nf,d⟩
theorem Inv.un{t':Nat}(I:Inv X pins σ H s)(u:Un X.fs [] H H' s.heap h')(hok:HOk X.prog X.w H' h'):Inv X pins σ H' { s with heap:=h',toks:=t' }:=by
 obtain⟨m,⟨o,es,ep,ho,r⟩,_⟩:=id I.loc
 obtain⟨sl,hL⟩:=u.any ho I.free (by simp)
 exact I.step (g':=s.gens) (d':=s.drawn) (ch:=[]) (fun _ z=>nomatch z) (fun b o _ hb _ e n=>u.keep b o e n hb (by simp)) (fun b o _ hb _ e n=>u.slot b o e n hb (by simp)) (fun b o _ e n=>u.free b o e n (by simp)) (fun b o _ e=>u.there b o e (by simp)) u.tups u.frzs u.tbls (fun m' hm=>by
  obtain⟨o',es',ep',ho',r'⟩:=hm
  rw[ho]at ho';cases ho'
  exact⟨_,es',ep',hL,r'⟩) hok I.bare
theorem Inv.call{g':Array GenState}{t':Nat}{d':Drawn}{ch:List Addr}(I:Inv X pins σ H s)(u:Un (frs X.stack) ch H H' s.heap h')(hok:HOk X.prog X.w H' h')(hg:AllBare g')
  (hch:∀ b∈ch,(b∈X.ex∨X.s₀.heap.objs.size<=b)/\b≠X.env.locals/\(∀ x c,X.env.cells.lookup x=some c->c≠b)/\∀ p∈X.pn++pins,p.1≠b) :
  Inv X pins σ H' { s with heap:=h',gens:=g',drawn:=d',toks:=t' }:=by
 obtain⟨m,⟨o,es,ep,ho,r⟩,_⟩:=id I.loc
 obtain⟨sl,hL⟩:=u.any ho I.free fun z=>(hch _ z).2.1 rfl
 exact I.step (ch:=ch) hch (fun b o hL hb hc e n=>u.keep b o e n (fun z=>(LC.mp (I.stkSub b z)).elim hL hb) hc) (fun b o _ _ hc e n=>u.any e n hc) (fun b o hc e n=>u.free b o e n hc) (fun b o hc e=>u.there b o e hc) u.tups u.frzs u.tbls (fun m' hm=>by
  obtain⟨o',es',ep',ho',r'⟩:=hm
  rw[ho]at ho';cases ho'
  exact⟨_,es',ep',hL,r'⟩) hok hg
theorem Inv.turned{t':Nat}{it:Addr}(I:Inv X pins σ H s)(k:∀ b o,b≠it->s.heap.get? b=some o->h'.get? b=some o)(hn:H it=none)(hL:it≠X.env.locals)
  (h1:it∈X.ex∨X.s₀.heap.objs.size<=it) (h2:∀ x c,X.env.cells.lookup x=some c->c≠it) (h3:∀ p∈X.pn++pins,p.1≠it):Inv X pins σ H { s with heap:=h',toks:=t' }:=by
 have nit:∀ b u,H b=some u->b≠it:=fun b u e z=>by rw[z,hn]at e;cases e
 refine I.step (g':=s.gens) (d':=s.drawn) (ch:=[it]) (fun b hb=>?_) (fun b o _ _ hc e _=>k b o (fun z=>hc (by simp[z])) e) (fun b o _ _ hc e _=>⟨o.slots,k b o (fun z=>hc (by simp[z])) e⟩) (fun _ _ _ _ n=>n)
  (fun b o hc e=>⟨o,k b o (fun z=>hc (by simp[z])) e⟩) (fun _ _ e=>e) (fun _ _ _ e=>e) (fun b ps e=>⟨#[],by rw[e];simp⟩) (fun m hm=>?_) (fun b u e=>?_) I.bare
 ·have e:b=it:=by simpa using hb
  subst e
  exact⟨h1,hL,h2,h3⟩
 ·obtain⟨o,es,ep,ho,r⟩:=hm
  exact⟨o,es,ep,k _ o (Ne.symm hL) ho,r⟩
 ·refine(I.hok b u e).stay (fun c v hc q=>k c v ?_ q) (fun _ q=>q) fun _ _ q=>q
  rcases hc with z | z
  ·rw[z];exact nit b u e
  ·exact nit c _ z
theorem Inv.tok(I:Inv X pins σ H s)(t:Nat):Inv X pins σ H { s with toks:=t }:=I.un (h':=s.heap) (t':=t) Un.refl I.hok
theorem Inv.kept{t':Nat}(I:Inv X pins σ H s)(k:∀ b u,s.heap.get? b=some u->h'.get? b=some u):Inv X pins σ H { s with heap:=h',toks:=t' }:=I.un (Un.kept k) (I.hok.kept k)
theorem Inv.laid{a:Addr}{o:HO}{t':Nat}(I:Inv X pins σ H s)(k:∀ b u,s.heap.get? b=some u->h'.get? b=some u)(hp:s.heap.objs.size<=a)(new:bT X.prog X.w (upd H a o) h' a o) :
  Inv X pins σ (upd H a o) { s with heap:=h',toks:=t' }:=I.un (Un.laid k hp (I.hok.fresh hp)) (I.hok.laid k hp new)
theorem Inv.write{x e:Addr}{o:HO}{t':Nat}(I:Inv X pins σ H s)(mu:Mut (H x))(he:e=x∨H e=some (.own x))(k:∀ b u,b≠e->s.heap.get? b=some u->h'.get? b=some u)(heo:∃ u,h'.get? e=some u)
  (new:bT X.prog X.w (upd H x o) h' x o):Inv X pins σ (upd H x o) { s with heap:=h',toks:=t' }:=I.un (Un.write mu he k heo) (I.hok.write mu he k heo new)
theorem Inv.weak{σ':List (Option V)}(I:Inv X pins σ H s)(hl:σ'.length=σ.length)(w:∀ (i:Nat) v,σ'[i]?=some (some v)->σ[i]?=some (some v)):Inv X pins σ' H s :=
 ⟨I.ok,I.os,I.bare,I.base,let ⟨m,hn,hl'⟩:=I.loc;⟨m,hn,fun i x v e1 e2 e3=>hl' i x v e1 (w i v e2) e3⟩,I.cell,I.free,I.freeC,I.pin,I.hok,hl.trans I.len⟩
theorem Inv.pins_of{pins':List (Addr×Obj)}(I:Inv X pins σ H s)(h:∀ p∈pins',s.heap.get? p.1=some p.2/\H p.1=none/\p.1≠X.env.locals/\p.1∉X.fs/\∀ v,p.2.data≠.cell v):Inv X pins' σ H s :=
 ⟨I.ok,I.os,I.bare,I.base,I.loc,I.cell,I.free,I.freeC,fun p hp=>(LJ.mp hp).elim (fun z=>I.pin p (MC _ z)) (h p),I.hok,I.len⟩
theorem Ce{N:List Str}(hN:N.Nodup){i j:Nat}{x:Str}(a:N[i]?=some x)(b:N[j]?=some x):i=j:=by
 obtain⟨h1,e1⟩:=Lx.mp a
 obtain⟨h2,e2⟩:=Lx.mp b
 exact(List.getElem_inj hN).mp (e1.trans e2.symm)
theorem EF{M:Model}{A:Around}{E:Value->Shared->Prop}{i:Nat}{x:Str}{v:V}{u:Value}{Q:Unit->Shared->Prop}(I:Inv X pins σ H s)(hN:X.N.Nodup)(hi:X.N[i]?=some x)(hx:Loc X.env.scope x)(r:RelV v u)
  (h:∀ s',Inv X pins (σ.set i (some v)) H s'->(∃ a,Heap.SameBut a s.heap s'.heap/\(a=X.env.locals∨X.env.cells.lookup x=some a))->Q () s') (hf:X.fn x=true∨X.env.scope.names.lookup x=some .local:=by first | exact .inl rfl | exact .inr rfl | assumption):wpAny M A (storeName X.env x u) Q E s:=by
 obtain⟨m,hn,hl⟩:=id I.loc
 have hcls:(X.env.scope.kind == .class||(X.env.scope.kind == .module&&X.env.locals != X.env.globals))=false:=by rw[I.ok.kind];rfl
 have hiσ:i<σ.length:=by rw[I.len];exact(Lx.mp hi).1
 have cne:=I.cne
 have tracked:∀{a:Addr}{h':Heap},(∃ o,s.heap.get? a=some o/\H a=none)->Heap.SameBut a s.heap h'->HOk X.prog X.w H h':=fun{a h'} ha hs b ob e=>by
  obtain⟨_,_,hfree⟩:=ha
  refine(I.hok b ob e).stay (fun c w' hc q=>(hs.2 c ?_).trans q) (fun _ q=>q) fun _ _ q=>q
  rintro rfl
  rcases hc with rfl | hc
  ·rw[hfree]at e;cases e
  ·rw[hfree]at hc;cases hc
 rcases hx with hk | hk
 ·refine wpAny_storeName_local hk hn (fun h' hn' hs=>?_) hcls
  obtain⟨oL,_,_,hoL,_⟩:=id hn
  refine h _ ⟨I.ok,I.os,I.bare,⟨fun b o e n hb hx=>?_,fun b o e n hb hx=>?_,I.base.free,fun b o e hx=>?_,I.base.tups,I.base.frzs,I.base.tbls⟩,⟨_,hn',fun j y v' e1 e2 e3=>?_⟩,fun y c e=>?_,I.free,I.freeC,fun p hp=>?_,tracked ⟨oL,hoL,I.free⟩ hs,by simpa using I.len⟩ ⟨_,hs,.inl rfl⟩
  ·exact(hs.2 b (Mt (Mw (Heap.lt_size e) I.ok.above))).trans (I.base.keep b o e n hb hx)
  ·obtain⟨sl,e1⟩:=I.base.slot b o e n hb hx
   exact⟨sl,(hs.2 b (Mt (Mw (Heap.lt_size e) I.ok.above))).trans e1⟩
  ·obtain⟨o',e1⟩:=I.base.there b o e hx
   exact⟨o',(hs.2 b (Mt (Mw (Heap.lt_size e) I.ok.above))).trans e1⟩
  ·by_cases hj:j=i
   ·subst hj
    rw[hi]at e1;cases e1
    rw[NW hiσ]at e2
    cases e2
    exact⟨u,r,.inl ⟨hk,by simp⟩⟩
   ·rw[OL (Ne.symm hj)]at e2
    obtain⟨u',r',q⟩:=hl j y v' e1 e2 e3
    refine⟨u',r',?_⟩
    rcases q with⟨k,e⟩ | ⟨k,c,e,z⟩
    ·refine .inl ⟨k,?_⟩
     have:y≠x:=fun e=>hj (Ce hN e1 (e▸hi))
     simp[this,e]
    ·exact .inr ⟨k,c,e,z.sameBut hs (cne y c e)⟩
  ·obtain⟨w',z⟩:=I.cell y c e
   exact⟨w',z.sameBut hs (cne y c e)⟩
  ·obtain⟨e,n,ne,nf,d⟩:=I.pin p hp
   exact⟨(hs.2 p.1 ne).trans e,n,ne,nf,d⟩
 ·have hfn:X.fn x=true:=by
   rcases hf with z | z
   ·exact z
   ·rw[z]at hk;cases hk
  obtain⟨c,hc⟩:=I.ok.has x (.inl hk)
  obtain⟨w',z⟩:=I.cell x c hc
  refine wpAny_storeName_cell I.ok.kind hk hc z (fun h' hc' hs=>?_)
  obtain⟨oc,hoc,hocd⟩:=id z
  refine h { s with heap:=h' } ⟨I.ok,I.os,I.bare,⟨fun b o e n hb hx=>?_,fun b o e n hb hx=>?_,I.base.free,fun b o e hx=>?_,I.base.tups,I.base.frzs,I.base.tbls⟩,⟨m,hn.sameBut hs (Ne.symm (cne x c hc)),fun j y v' e1 e2 e3=>?_⟩,fun y c' e=>?_,I.free,I.freeC,fun p hp=>?_,tracked ⟨oc,hoc,I.freeC x c hc⟩ hs,by simpa using I.len⟩ ⟨c,hs,.inr hc⟩
  ·exact(hs.2 b (Mt (Mw (Heap.lt_size e) (I.ok.cab x c hfn hc)))).trans (I.base.keep b o e n hb hx)
  ·obtain⟨sl,e1⟩:=I.base.slot b o e n hb hx
   exact⟨sl,(hs.2 b (Mt (Mw (Heap.lt_size e) (I.ok.cab x c hfn hc)))).trans e1⟩
  ·obtain⟨o',e1⟩:=I.base.there b o e hx
   exact⟨o',(hs.2 b (Mt (Mw (Heap.lt_size e) (I.ok.cab x c hfn hc)))).trans e1⟩
  ·by_cases hj:j=i
   ·subst hj
    rw[hi]at e1;cases e1
    rw[NW hiσ]at e2
    cases e2
    exact⟨u,r,.inr ⟨.inl hk,c,hc,hc'⟩⟩
   ·rw[OL (Ne.symm hj)]at e2
    obtain⟨u',r',q⟩:=hl j y v' e1 e2 e3
    refine⟨u',r',?_⟩
    rcases q with q | ⟨k,c',e,z'⟩
    ·exact .inl q
    ·refine .inr ⟨k,c',e,z'.sameBut hs ?_⟩
     rintro rfl
     exact hj (Ce hN e1 (I.ok.inj _ _ _ e hc▸hi))
  ·by_cases hcc:c'=c
   ·subst hcc;exact⟨_,hc'⟩
   ·obtain⟨w2,z2⟩:=I.cell y c' e
    exact⟨w2,z2.sameBut hs hcc⟩
  ·obtain⟨e,n,ne,nf,d⟩:=I.pin p hp
   refine⟨(hs.2 p.1 ?_).trans e,n,ne,nf,d⟩
   intro q
   rw[q,hoc]at e
   have q':oc=p.2:=L6 e
   exact d w' (by rw[← q'];exact hocd)
theorem rW{M:Model}{A:Around}{E:Value->Shared->Prop}{i:Nat}{x:Str}{v:V}{u:Value}{Q:Unit->Shared->Prop}(I:Inv X pins σ H s)(hN:X.N.Nodup)(hi:X.N[i]?=some x)(hx:Loc X.env.scope x)(r:RelV v u)
  (h:∀ s',Inv X pins (σ.set i (some v)) H s'->Q () s') (hf:X.fn x=true∨X.env.scope.names.lookup x=some .local:=by first | exact .inl rfl | exact .inr rfl | assumption):wpAny M A (storeName X.env x u) Q E s :=
 EF I hN hi hx r (fun s' I' _=>h s' I') hf
theorem Inv.call'{s':Shared}{ch:List Addr}(I:Inv X pins σ H s)(ho:s'.os=s.os)(u:Un (frs X.stack) ch H H' s.heap s'.heap)(hok:HOk X.prog X.w H' s'.heap)(hg:AllBare s'.gens)
  (hch:∀ b∈ch,(b∈X.ex∨X.s₀.heap.objs.size<=b)/\b≠X.env.locals/\(∀ x c,X.env.cells.lookup x=some c->c≠b)/\∀ p∈X.pn++pins,p.1≠b):Inv X pins σ H' s':=by
 obtain⟨h',g',d',t',o'⟩:=s'
 have e:o'=s.os:=ho
 subst e
 exact I.call (g':=g') (t':=t') (d':=d') u hok hg hch
end
abbrev XK:=Value->Option Addr->Hp->Prop
abbrev St:=List (Option V)
abbrev VK:=V->Hp->Prop
abbrev TE:=St->Hp->VK->Prop
abbrev TT:=St->Hp->(Bool->Hp->Prop)->Prop
abbrev TA:=St->Hp->(List V->Hp->Prop)->Prop
structure Ends where
 nx:St->Hp->Prop
 rt:VK
 bk:St->Hp->Prop:=fun _ _=>False
 ct:St->Hp->Prop:=fun _ _=>False
abbrev TS:=Ends->St->Hp->Prop
def EP(X:Cx)(pins:List (Addr×Obj))(σ:St)(Q:VK)(u:Value)(s':Shared):Prop:=∃ v H',Inv X pins σ H' s'/\RelV v u/\Q v H'
def TP(X:Cx)(pins:List (Addr×Obj))(σ:St)(Q:Bool->Hp->Prop)(b:Bool)(s':Shared):Prop:=∃ H',Inv X pins σ H' s'/\Q b H'
def AP(X:Cx)(pins:List (Addr×Obj))(σ:St)(Q:List V->Hp->Prop)(us:List Value)(s':Shared):Prop:=∃ vs H',Inv X pins σ H' s'/\Vals vs us/\Q vs H'
def SP(X:Cx)(pins:List (Addr×Obj))(D:Ends)(f:Flow)(s':Shared):Prop :=
 match f with
 |.next=>∃ σ' H',Inv X pins σ' H' s'/\D.nx σ' H'
 |.brk=>∃ σ' H',Inv X pins σ' H' s'/\D.bk σ' H'
 |.cont=>∃ σ' H',Inv X pins σ' H' s'/\D.ct σ' H'
 |.ret u=>∃ v σ' H',Inv X pins σ' H' s'/\RelV v u/\D.rt v H'
def PE(X:Cx)(e:Expr)(t:TE):Prop :=
 ∀(pins:List (Addr×Obj))(s:Shared)(σ:St)(H:Hp)(Q:VK),Inv X pins σ H s->t σ H Q->wpAny (model X.prog X.w) X.A (eval e X.env) (EP X pins σ Q) X.xe s
def PT(X:Cx)(e:Expr)(t:TT):Prop :=
 ∀(pins:List (Addr×Obj))(s:Shared)(σ:St)(H:Hp)(Q:Bool->Hp->Prop),Inv X pins σ H s->t σ H Q->wpAny (model X.prog X.w) X.A (isTrue e X.env (eval e X.env)) (TP X pins σ Q) X.xe s
def PW(X:Cx)(e:Expr)(t:TT):Prop :=
 ∀(whole:Sem Value)(pins:List (Addr×Obj))(s:Shared)(σ:St)(H:Hp)(Q:Bool->Hp->Prop),Inv X pins σ H s->t σ H Q->wpAny (model X.prog X.w) X.A (isTrue e X.env whole) (TP X pins σ Q) X.xe s
theorem PW.pt{X:Cx}{e:Expr}{t:TT}(h:PW X e t):PT X e t:=h _
def PA(X:Cx)(es:List Expr)(t:TA):Prop :=
 ∀(pos:Pos)(pins:List (Addr×Obj))(s:Shared)(σ:St)(H:Hp)(Q:List V->Hp->Prop),Inv X pins σ H s->t σ H Q->wpAny (model X.prog X.w) X.A (spliced (backTo pos (starEach es X.env))) (AP X pins σ Q) X.xe s
def PS(X:Cx)(st:Stmt)(t:TS):Prop :=
 ∀(pins:List (Addr×Obj))(s:Shared)(σ:St)(H:Hp)(D:Ends),Inv X pins σ H s->t D σ H->wpAny (model X.prog X.w) X.A (exec st X.env) (SP X pins D) X.xe s
def PSs(X:Cx)(st:List Stmt)(t:TS):Prop :=
 ∀(pins:List (Addr×Obj))(s:Shared)(σ:St)(H:Hp)(D:Ends),Inv X pins σ H s->t D σ H->wpAny (model X.prog X.w) X.A (execs st X.env) (SP X pins D) X.xe s
theorem thn{α:Type}{t:Sem α}{Q Q':α->Shared->Prop}{M:Model}{A:Around}{E:Value->Shared->Prop}{s:Shared}(h:wpAny M A t Q E s)(hQ:∀ a s,Q a s->Q' a s):wpAny M A t Q' E s:=wpAny_mono h hQ fun _ _ x=>x
end L2
namespace L2
open PySem PySem.Spec PyProof.Rows
section
variable{X:Cx}
def tVar(i:Nat):TE:=fun σ H Q=>∃ v,σ[i]?=some (some v)/\Q v H
def tC(v:V):TE:=fun _ H Q=>Q v H
theorem pe_var{i:Nat}{x:Str}{pos:Pos}(hN:X.N[i]?=some x)(hv:Vis X.env.scope x) (hd:(x == ("__debug__" : Str))=false:=by decide) (hcd:(x == ("__classdict__" : Str))=false:=by decide):PE X (.Name x pos) (tVar i):=by
 intro pins s σ H Q I h
 obtain⟨v,e,h⟩:=h
 obtain⟨m,hn,hl⟩:=I.loc
 obtain⟨u,r,l⟩:=hl i x v hN e hv
 have fin:EP X pins σ Q u s:=⟨v,H,I,r,h⟩
 rcases l with⟨hk,hm⟩ | ⟨hk,c,hc,hcell⟩
 ·exact wpAny_Name (wpAny_loadName_local I.ok.kind hk hn hm fin) hd
 ·rcases hk with hk | hk
  ·exact wpAny_Name (wpAny_loadName_cell I.ok.kind hk hc hcell fin) hd
  ·exact wpAny_Name (wpAny_loadName_free I.ok.kind hk hc hcell fin hcd) hd
theorem ak{i j pos}:PE X (.Constant (.int i) j pos) (tC (.int i)):=fun _ _ _ H _ I h=>wpAny_Constant_int ⟨.int i,H,I.tok _,⟨_,rfl⟩,h⟩
theorem gd{b j pos}:PE X (.Constant (.bool b) j pos) (tC (.bl b)):=fun _ _ _ H _ I h=>Constant_bool ⟨.bl b,H,I,rfl,h⟩
theorem hG{j pos}:PE X (.Constant .none j pos) (tC .non):=fun _ _ _ H _ I h=>Constant_none ⟨.non,H,I,rfl,h⟩
theorem bg{x j pos}:PE X (.Constant (.str x) j pos) (tC (.str x)):=fun _ _ _ H _ I h=>Calls.Constant_str ⟨.str x,H,I.tok _,⟨_,rfl⟩,h⟩
def Gl(X:Cx)(x:Str):Prop:=X.env.kindOf x=some .globalImplicit
theorem Au{E:Value->Shared->Prop}{pins:List (Addr×Obj)}{s:Shared}{σ:St}{H:Hp}{x:Str}{u:Value}{pos:Pos}{Q:Value->Shared->Prop}(I:Inv X pins σ H s)(hg:Gl X x)(hm:X.mg x=some u)(h:Q u s)
  (hd:(x == ("__debug__" : Str))=false:=by decide):wpAny (model X.prog X.w) X.A (eval (.Name x pos) X.env) Q E s :=
 Calls.Name_function_global I.ok.kind hg (Calls.loadGlobal_global (by rw[I.ok.glob];exact I.mod.glob.keeps I.bk) hm h) hd
theorem xh{E:Value->Shared->Prop}{pins:List (Addr×Obj)}{s:Shared}{σ:St}{H:Hp}{x:Str}{u:Value}{pos:Pos}{Q:Value->Shared->Prop}(I:Inv X pins σ H s)(hg:Gl X x)(hm:X.mg x=none)(hv:bootBuiltins x=some u)(h:Q u s)
  (hn:x≠"__name__":=by decide) (hd:(x == ("__debug__" : Str))=false:=by decide):wpAny (model X.prog X.w) X.A (eval (.Name x pos) X.env) Q E s:=by
 obtain⟨mb,h1,h2⟩:=I.mod.blt
 exact Calls.Name_function_global I.ok.kind hg (Calls.loadGlobal_builtin (by rw[I.ok.glob];exact I.mod.glob.keeps I.bk) hm (by rw[I.ok.blt];exact h1.keeps I.bk) ((h2 x hn).trans hv) h) hd
theorem zM{x:Str}{v:V}{u:Value}{pos:Pos}(hg:Gl X x)(hm:X.mg x=some u)(r:RelV v u) (hd:(x == ("__debug__" : Str))=false:=by decide):PE X (.Name x pos) (tC v) :=
 fun _ _ _ H _ I h=>Au I hg hm ⟨v,H,I,r,h⟩ hd
theorem gc{x:Str}{v:V}{u:Value}{pos:Pos}(hg:Gl X x)(hm:X.mg x=none)(hv:bootBuiltins x=some u)(r:RelV v u) (hn:x≠"__name__":=by decide) (hd:(x == ("__debug__" : Str))=false:=by decide):PE X (.Name x pos) (tC v) :=
 fun _ _ _ H _ I h=>xh I hg hm hv ⟨v,H,I,r,h⟩ hn hd
variable{a b:Expr}{ta tb:TE}{pos:Pos}
def PC(X:Cx)(op:CmpOp)(a b:Expr)(t:TE):Prop :=
 ∀(pins:List (Addr×Obj))(s:Shared)(σ:St)(H:Hp)(Q:VK),Inv X pins σ H s->t σ H Q ->
  wpAny (model X.prog X.w) X.A (eval a X.env) (fun v s₁=>wpAny (model X.prog X.w) X.A (eval b X.env) (fun u s₂=>wpAny (model X.prog X.w) X.A (compareOp op v u) (EP X pins σ Q) X.xe s₂) X.xe s₁) X.xe s
def tB(t:TE):TT:=fun σ H Q=>t σ H fun x H1=>∃ c,x=.bl c/\Q c H1
theorem pt_cmp{op:CmpOp}{t:TE}(h:PC X op a b t)(h1:behindInMarks op b=false:=by first | exact nobehind _ (by decide) (by decide) | rfl):PT X (.Compare a [op] [b] pos) (tB t):=by
 intro pins s σ H Q I hw
 refine wpAny_isTrue_Compare1 (thn (h pins s σ H _ I hw) fun v s1 h1=>thn h1 fun u s2 h2=>thn h2 fun c s3 ⟨x,H1,I1,r1,q1⟩=>?_) h1
 obtain⟨d,rfl,q⟩:=q1
 cases r1
 exact wpAny_truthy_bool ⟨H1,I1,q⟩
theorem df{e:Expr}{t:TE}(h:PE X e t)(he:∀ whole,isTrue e X.env whole=(do let v ← whole;standAt e.pos;holding [v] (truthy v)):=by intro _;rfl):PT X e (tB t):=by
 intro pins s σ H Q I hw
 refine isTrue_plain (thn (h pins s σ H _ I hw) fun v s1 ⟨x,H1,I1,r1,q1⟩=>?_) (he _)
 obtain⟨d,rfl,q⟩:=q1
 cases r1
 exact wpAny_truthy_bool ⟨H1,I1,q⟩
variable{tA tB':TT}{rest:List Expr}
def tAnd(t u:TT):TT:=fun σ H Q=>t σ H fun c H1=>if c=true then u σ H1 Q else Q false H1
def tOr(t u:TT):TT:=fun σ H Q=>t σ H fun c H1=>if c=true then Q true H1 else u σ H1 Q
def tNot(t:TT):TT:=fun σ H Q=>t σ H fun c H1=>Q (!c) H1
theorem zv(ha:PT X a tA):PW X (.BoolOp .And [a] pos) tA:=by
 intro wh pins s σ H Q I h
 refine isTrue_and (thn (ha pins s σ H Q I h) fun c s1 e=>?_)
 cases c with
 |true=>exact isTrue_and_nil e
 |false=>exact e
theorem bN(ha:PT X a tA):PW X (.BoolOp .Or [a] pos) tA:=by
 intro wh pins s σ H Q I h
 refine isTrue_or (thn (ha pins s σ H Q I h) fun c s1 e=>?_)
 cases c with
 |false=>exact isTrue_or_nil e
 |true=>exact e
theorem E7(ha:PT X a tA)(hb:PW X (.BoolOp .And (b::rest) pos) tB'):PW X (.BoolOp .And (a::b::rest) pos) (tAnd tA tB'):=by
 intro wh pins s σ H Q I h
 refine isTrue_and (thn (ha pins s σ H _ I h) fun c s1 ⟨H1,I1,q1⟩=>?_)
 cases c with
 |true=>exact hb wh pins s1 σ H1 Q I1 q1
 |false=>exact⟨H1,I1,q1⟩
theorem cG(ha:PT X a tA)(hb:PW X (.BoolOp .Or (b::rest) pos) tB'):PW X (.BoolOp .Or (a::b::rest) pos) (tOr tA tB'):=by
 intro wh pins s σ H Q I h
 refine isTrue_or (thn (ha pins s σ H _ I h) fun c s1 ⟨H1,I1,q1⟩=>?_)
 cases c with
 |true=>exact⟨H1,I1,q1⟩
 |false=>exact hb wh pins s1 σ H1 Q I1 q1
theorem dg(ha:PT X a tA):PT X (.UnaryOp .Not a pos) (tNot tA):=by
 intro pins s σ H Q I h
 exact isTrue_not (ha pins s σ H (fun c H1=>Q (!c) H1) I h)
def tAndV(ta tb:TE):TE:=fun σ H Q=>ta σ H fun x H1=>∃ c,x=.bl c/\if c=true then tb σ H1 Q else Q (.bl false) H1
def tNotV(ta:TE):TE:=fun σ H Q=>ta σ H fun x H1=>∃ c,x=.bl c/\Q (.bl (!c)) H1
theorem Fh{op}{t:TE}(h:PE X a t):PE X (.BoolOp op [a] pos) t:=fun pins s σ H Q I hw=>BoolOp_one (h pins s σ H Q I hw)
theorem Fl(ha:PE X a ta)(hb:PE X (.BoolOp .And (b::rest) pos) tb):PE X (.BoolOp .And (a::b::rest) pos) (tAndV ta tb):=by
 intro pins s σ H Q I h
 refine BoolOp_and (thn (ha pins s σ H _ I h) fun v s1 ⟨x,H1,I1,r1,q1⟩=>?_)
 obtain⟨c,rfl,q1⟩:=q1
 cases r1
 refine wpAny_truthy_bool ?_
 cases c with
 |true=>exact hb pins s1 σ H1 Q I1 q1
 |false=>exact⟨.bl false,H1,I1,rfl,q1⟩
theorem pe_not(ha:PE X a ta):PE X (.UnaryOp .Not a pos) (tNotV ta):=by
 intro pins s σ H Q I h
 refine UnaryOp_ (thn (ha pins s σ H _ I h) fun v s1 ⟨x,H1,I1,r1,q1⟩=>?_)
 obtain⟨c,rfl,q1⟩:=q1
 cases r1
 exact not_of (wpAny_truthy_bool ⟨.bl (!c),H1,I1,rfl,q1⟩)
def tIf(t:TT)(ta tb:TE):TE:=fun σ H Q=>t σ H fun c H1=>if c=true then ta σ H1 Q else tb σ H1 Q
theorem oq{c:Expr}(hc:PT X c tA)(ha:PE X a ta)(hb:PE X b tb):PE X (.IfExp c a b pos) (tIf tA ta tb):=by
 intro pins s σ H Q I h
 refine wpAny_IfExp (thn (hc pins s σ H _ I h) fun d s1 ⟨H1,I1,q1⟩=>?_)
 cases d with
 |true=>exact ha pins s1 σ H1 Q I1 q1
 |false=>exact hb pins s1 σ H1 Q I1 q1
end
end L2
namespace L2
open PySem PySem.Spec PyProof.Rows
def SqL(K:LA)(H:Hp)(a:Addr)(xs:List V):Prop :=
 Rd H a (.lst xs) ∨
  ∃(o:Obj)(its:Array Value)(n:Nat),K.lookup a=some o/\o.cls=.type "list"/\o.dict=none/\o.data=.seq its n/\its.size<=sizeLine/\Vals xs its.toList
def SqT(K:LA)(H:Hp)(a:Addr)(xs:List V):Prop :=
 Rd H a (.tup xs) ∨
  ∃(o:Obj)(its:Array Value)(n:Nat),K.lookup a=some o/\o.cls=.type "tuple"/\o.data=.seq its n/\its.size<=sizeLine/\Vals xs its.toList
def absV:Value->Option V
 |.none=>some .non
 |.bool b=>some (.bl b)
 |.int i _=>some (.int i)
 |.str x _=>some (.str x)
 |.bytes b _=>some (.byt b)
 |.float b _=>some (.flt b)
 |.ref a=>some (.ref a)
 |.type n=>some (.ty n)
 |_=>none
theorem RelV.abs{x:V}{u:Value}(r:RelV x u):absV u=some x:=by
 cases x with
 |non=>cases r;rfl
 |bl _=>cases r;rfl
 |int _=>obtain⟨t,rfl⟩:=r;rfl
 |str _=>obtain⟨t,rfl⟩:=r;rfl
 |byt _=>obtain⟨t,rfl⟩:=r;rfl
 |flt _=>obtain⟨t,rfl⟩:=r;rfl
 |ref _=>cases r;rfl
 |ty _=>cases r;rfl
theorem RelV.inj{x y:V}{u:Value}(r:RelV x u)(q:RelV y u):x=y:=L6 (r.abs.symm.trans q.abs)
theorem Vals.inj:∀{xs ys:List V}{us:List Value},Vals xs us->Vals ys us->xs=ys
 |_,_,_,.nil,.nil=>rfl
 |_,_,_,.cons r t,.cons r' t'=>by rw[r.inj r',Vals.inj t t']
section
variable{X:Cx}{pins:List (Addr×Obj)}{σ:St}{H:Hp}{s:Shared}{a:Addr}{xs ys:List V}
theorem SqL.of{K:LA}(h:H a=some (.lst xs)):SqL K H a xs:=.inl (.inl h)
theorem SqT.of{K:LA}(h:H a=some (.tup xs)):SqT K H a xs:=.inl (.inl h)
theorem Inv.list(I:Inv X pins σ H s)(h:SqL X.K H a xs):∃ its:List Value,Vals xs its/\PlainL s.heap a its.toArray/\xs.length<=sizeLine:=by
 rcases h with h | ⟨o,its,n,hk,hc,hd,hs,hz,r⟩
 ·obtain⟨z,its,n,r,e⟩:=h.ok I.hok
  exact⟨its,r,⟨_,n,e,rfl,rfl,rfl⟩,z⟩
 ·refine⟨its.toList,r,⟨o,n,I.kIn a o hk,hc,hd,by simpa using hs⟩,?_⟩
  have e:=r.length
  simp only[MG]at e
  omega
theorem Inv.tuple(I:Inv X pins σ H s)(h:SqT X.K H a xs):∃ its:List Value,Vals xs its/\IsTup s.heap a its.toArray/\xs.length<=sizeLine:=by
 rcases h with h | ⟨o,its,n,hk,hc,hs,hz,r⟩
 ·obtain⟨z,its,r,p⟩:=h.ok I.hok
  exact⟨its,r,p,z⟩
 ·refine⟨its.toList,r,⟨o,I.kIn a o hk,hc,n,by simpa using hs⟩,?_⟩
  have e:=r.length
  simp only[MG]at e
  omega
theorem Inv.list_inj(I:Inv X pins σ H s)(h:SqL X.K H a xs)(h':SqL X.K H a ys):xs=ys:=by
 obtain⟨its,r,⟨o,n,e,_,_,d⟩,_⟩:=I.list h
 obtain⟨its',r',⟨o',n',e',_,_,d'⟩,_⟩:=I.list h'
 rw[e]at e';cases e'
 rw[d]at d'
 injection d' with d1 _
 have:its=its':=by simpa using congrArg Array.toList d1
 subst this
 exact r.inj r'
end
abbrev Cx.wish(X:Cx)(E:Value->Shared->Prop):Cx:={ X with xe:=E }
abbrev Cx.nox(X:Cx):Cx:=X.wish fun _ _=>False
theorem Cx.Ok.wish{X:Cx}(ok:X.Ok)(E:Value->Shared->Prop):(X.wish E).Ok :=
 ⟨ok.mod,ok.kind,ok.glob,ok.blt,ok.above,ok.inj,ok.has,ok.cab,ok.hd,ok.frames,ok.stk,ok.exf,ok.bs,ok.bsz,ok.noex,ok.exfs,ok.funs,ok.frf⟩
theorem Cx.Ok.unwish{X:Cx}{E:Value->Shared->Prop}(ok:(X.wish E).Ok):X.Ok :=
 ⟨ok.mod,ok.kind,ok.glob,ok.blt,ok.above,ok.inj,ok.has,ok.cab,ok.hd,ok.frames,ok.stk,ok.exf,ok.bs,ok.bsz,ok.noex,ok.exfs,ok.funs,ok.frf⟩
section
variable{X:Cx}{pins:List (Addr×Obj)}{σ:St}{H:Hp}{s:Shared}{E:Value->Shared->Prop}
theorem Inv.wish(I:Inv X pins σ H s)(E:Value->Shared->Prop):Inv (X.wish E) pins σ H s:=⟨I.ok.wish E,I.os,I.bare,I.base,I.loc,I.cell,I.free,I.freeC,I.pin,I.hok,I.len⟩
theorem Inv.unwish(I:Inv (X.wish E) pins σ H s):Inv X pins σ H s:=⟨I.ok.unwish,I.os,I.bare,I.base,I.loc,I.cell,I.free,I.freeC,I.pin,I.hok,I.len⟩
theorem SP.unwish{D:Ends}{f:Flow}{s':Shared}(h:SP (X.wish E) pins D f s'):SP X pins D f s':=by
 cases f with
 |next=>obtain⟨σ',H',I,q⟩:=h;exact⟨σ',H',I.unwish,q⟩
 |brk=>obtain⟨σ',H',I,q⟩:=h;exact⟨σ',H',I.unwish,q⟩
 |cont=>obtain⟨σ',H',I,q⟩:=h;exact⟨σ',H',I.unwish,q⟩
 |ret u=>obtain⟨v,σ',H',I,r,q⟩:=h;exact⟨v,σ',H',I.unwish,r,q⟩
theorem PSs.nox{st:List Stmt}{t:TS}(h:PSs X.nox st t):PSs X st t:=fun pins s σ H D I hw =>
 wpAny_mono (h pins s σ H D (I.wish _) hw) (fun _ _ q=>q.unwish) fun _ _ z=>False.elim z
end
section
variable{X:Cx}{st:Stmt}{rest:List Stmt}{t u:TS}{e:Expr}{te:TE}{pos:Pos}
def tNext:TS:=fun D σ H=>D.nx σ H
def tSeq(t u:TS):TS:=fun D σ H=>t { D with nx:=u D } σ H
theorem aN:PSs X [] tNext:=fun _ _ σ H _ I h=>wpAny_execs_nil ⟨σ,H,I,h⟩
theorem af(h1:PS X st t)(h2:PSs X rest u):PSs X (st::rest) (tSeq t u):=by
 intro pins s σ H D I h
 refine wpAny_execs_cons (thn (h1 pins s σ H { D with nx:=u D } I h) fun f s1 q=>?_)
 cases f with
 |next =>
  obtain⟨σ',H',I',q⟩:=q
  exact h2 pins s1 σ' H' D I' q
 |ret v=>exact q
 |brk=>exact q
 |cont=>exact q
theorem ao(h1:PS X st t):PSs X [st] t:=by
 intro pins s σ H D I h
 refine wpAny_execs_cons (thn (h1 pins s σ H D I h) fun f s1 q=>?_)
 cases f with
 |next=>exact wpAny_execs_nil q
 |ret v=>exact q
 |brk=>exact q
 |cont=>exact q
theorem Inv.quiet{pins:List (Addr×Obj)}{σ:St}{H:Hp}{s:Shared}(I:Inv X pins σ H s):interactive X.env=false:=by simp[interactive,I.ok.kind]
def tDrop(te:TE):TS:=fun D σ H=>te σ H fun _ H1=>D.nx σ H1
theorem a8(he:PE X e te)(hs:swapsWith e none pos.line X.env=pure false:=by rfl):PS X (.Expr e pos) (tDrop te):=by
 intro pins s σ H D I h
 exact wpAny_Expr_any (thn (he pins s σ H _ I h) fun v s1 ⟨x,H1,I1,r1,q1⟩=>⟨σ,H1,I1,q1⟩) I.quiet hs
def tRet(te:TE):TS:=fun D σ H=>te σ H D.rt
theorem aL(he:PE X e te):PS X (.Return (some e) pos) (tRet te):=by
 intro pins s σ H D I h
 exact wpAny_Return_some (thn (he pins s σ H _ I h) fun v s1 ⟨x,H1,I1,r1,q1⟩=>⟨x,σ,H1,I1,r1,q1⟩)
def tRetN:TS:=fun D _ H=>D.rt .non H
theorem Kg:PS X (.Return none pos) tRetN:=fun _ _ σ H _ I h=>wpAny_Return_none ⟨.non,σ,H,I,rfl,h⟩
def tIfS(c:TT)(t u:TS):TS:=fun D σ H=>c σ H fun b H1=>if b=true then t D σ H1 else u D σ H1
theorem bt{c:Expr}{a b:List Stmt}{tc:TT}(hc:PT X c tc)(ha:PSs X a t)(hb:PSs X b u):PS X (.If c a b pos) (tIfS tc t u):=by
 intro pins s σ H D I h
 refine wpAny_If (thn (hc pins s σ H _ I h) fun d s1 ⟨H1,I1,q1⟩=>?_)
 cases d with
 |true=>exact ha pins s1 σ H1 D I1 q1
 |false=>exact hb pins s1 σ H1 D I1 q1
def tNever:TS:=fun _ _ _=>False
theorem cH:PS X st tNever:=fun _ _ _ _ _ _ h=>h.elim
end
abbrev TG:=V->St->Hp->(St->Hp->Prop)->Prop
abbrev TGs:=List V->St->Hp->(St->Hp->Prop)->Prop
def PG(X:Cx)(target:Expr)(t:TG):Prop :=
 ∀(pins:List (Addr×Obj))(s:Shared)(σ:St)(H:Hp)(v:V)(u:Value)(Q:St->Hp->Prop),Inv X pins σ H s->RelV v u->t v σ H Q ->
  wpAny (model X.prog X.w) X.A (assign target X.env u) (fun _ s'=>∃ σ' H',Inv X pins σ' H' s'/\Q σ' H') X.xe s
def PGs(X:Cx)(ts:List Expr)(t:TGs):Prop :=
 ∀(pins:List (Addr×Obj))(s:Shared)(σ:St)(H:Hp)(vs:List V)(us:List Value)(Q:St->Hp->Prop),Inv X pins σ H s->Vals vs us->t vs σ H Q ->
  wpAny (model X.prog X.w) X.A (assignInOrder ((assignEach ts X.env).map (·.2)) us) (fun _ s'=>∃ σ' H',Inv X pins σ' H' s'/\Q σ' H') X.xe s
abbrev TSet:=V->V->V->Hp->(Hp->Prop)->Prop
def PSet(X:Cx)(t:TSet):Prop :=
 ∀(pins:List (Addr×Obj))(s:Shared)(σ:St)(H:Hp)(o i v:V)(ov iv u:Value)(Q:Hp->Prop),Inv X pins σ H s->RelV o ov->RelV i iv->RelV v u->t o i v H Q ->
  wpAny (model X.prog X.w) X.A (setItem ov iv u) (fun _ s'=>∃ H',Inv X pins σ H' s'/\Q H') X.xe s
section
variable{X:Cx}{pos:Pos}
def K1(i:Nat):TG:=fun v σ H Q=>Q (σ.set i (some v)) H
theorem aU{i:Nat}{x:Str}(hN:X.N.Nodup)(hi:X.N[i]?=some x)(hx:Loc X.env.scope x)(hf:X.fn x=true∨X.env.scope.names.lookup x=some .local:=by first | exact .inl rfl | exact .inr rfl | assumption):PG X (.Name x pos) (K1 i):=by
 intro pins s σ H v u Q I r h
 exact wpAny_assign_Name (rW I hN hi hx r (fun s' I'=>⟨_,H,I',h⟩) hf)
def gNil:TGs:=fun vs σ H Q=>vs = []/\Q σ H
def gCons(t:TG)(u:TGs):TGs:=fun vs σ H Q=>∃ v r,vs=v::r/\t v σ H fun σ' H'=>u r σ' H' Q
theorem oT:PGs X [] gNil:=by
 intro pins s σ H vs us Q I r h
 obtain⟨e,h⟩:=h
 subst e
 cases r
 exact assignInOrder_nil ⟨σ,H,I,h⟩
theorem bX{e:Expr}{es:List Expr}{t:TG}{u:TGs}(h1:PG X e t)(h2:PGs X es u)
  (hs:(assignEach (e::es) X.env).map (·.2)=assign e X.env::(assignEach es X.env).map (·.2):=by rfl):PGs X (e::es) (gCons t u):=by
 intro pins s σ H vs us Q I r h
 obtain⟨v,vr,e1,h⟩:=h
 subst e1
 cases r with
 |cons r rr =>
  rw[hs]
  refine assignInOrder_cons (thn (h1 pins s σ H _ _ _ I r h) fun _ s1 ⟨σ1,H1,I1,q1⟩=>?_)
  exact h2 pins s1 σ1 H1 _ _ Q I1 rr q1
def gTup(K:LA)(n:Nat)(t:TGs):TG:=fun v σ H Q=>∃ a xs,v=.ref a/\SqT K H a xs/\xs.length=n/\t xs σ H Q
theorem BX{es:List Expr}{k:Nat}{t:TGs}{n:Nat}(hc:X.calm=true)(h:PGs X es t)
  (hn:(assignEach es X.env).length=n:=by rfl) (hst:(assignEach es X.env).findIdx? (·.1)=none:=by rfl):PG X (.Tuple es k pos) (gTup X.K n t):=by
 intro pins s σ H v u Q I r hw
 obtain⟨a,xs,e1,hq,hl,hw⟩:=hw
 subst e1
 cases r
 obtain⟨its,rv,ht,hz⟩:=I.tuple hq
 refine assign_Tuple_tuple (I.ok.hd hc) ht (by simp[hn,← hl,rv.length]) hst fun h' hx=>?_
 have I1:Inv X pins σ H { s with heap:=h' }:=I.kept (t':=s.toks) fun b o e=>hx b o (Mt (Heap.lt_size e)) e
 exact h pins _ σ H xs _ Q I1 (by simpa using rv) hw
def gSub(to ti:TE)(t:TSet):TG:=fun v σ H Q=>to σ H fun o H1=>ti σ H1 fun i H2=>t o i v H2 fun H3=>Q σ H3
theorem BY{o i:Expr}{to ti:TE}{t:TSet}(ho:PE X o to)(hi:PE X i ti)(hs:PSet X t)
  (ha:∀ v,assign (.Subscript o i pos) X.env v=(do
   let ov ← holding [v] (eval o X.env)
   let iv ← holding [v,ov] (eval i X.env)
   standAt pos
   holding [v,ov,iv] (setItem ov iv v)
   release [v,ov,iv] []):=by intro _;rfl):PG X (.Subscript o i pos) (gSub to ti t):=by
 intro pins s σ H v u Q I r h
 rw[ha]
 refine wpAny_bind (wpAny_holding (thn (ho pins s σ H _ I h) fun ov s1 ⟨x,H1,I1,r1,q1⟩=>?_))
 refine wpAny_bind (wpAny_holding (thn (hi pins s1 σ H1 _ I1 q1) fun iv s2 ⟨y,H2,I2,r2,q2⟩=>?_))
 refine wpAny_bind (wpAny_standAt (wpAny_bind (wpAny_holding (thn (hs pins s2 σ H2 x y v ov iv u _ I2 r1 r2 r q2) fun _ s3 ⟨H3,I3,q3⟩=>?_))))
 exact wpAny_release ⟨σ,H3,I3,q3⟩
def tAsg(te:TE)(g:TG):TS:=fun D σ H=>te σ H fun x H1=>g x σ H1 D.nx
theorem BW{tg e:Expr}{te:TE}{g:TG}(he:PE X e te)(hg:PG X tg g)(hs:swapsWithSole [tg] e pos.line X.env=pure false:=by rfl)(hw:swappedStores [tg] e X.env=pure none:=by rfl)
  (h1:(assignEach [tg] X.env).map (·.2) = [assign tg X.env]:=by rfl):PS X (.Assign [tg] e pos) (tAsg te g):=by
 intro pins s σ H D I h
 refine wpAny_Assign_stores (thn (he pins s σ H _ I h) fun v s1 ⟨x,H1,I1,r1,q1⟩=>?_) hs hw
 rw[h1]
 exact thn (hg pins s1 σ H1 x v _ I1 r1 q1) fun _ s2 q=>q
theorem ay{i:Nat}{x:Str}{e:Expr}{te:TE}{pos':Pos}(hN:X.N.Nodup)(hi:X.N[i]?=some x)(hx:Loc X.env.scope x)(he:PE X e te)(hs:swapsWith e (some (.Name x pos')) pos.line X.env=pure false:=by rfl)(hf:X.fn x=true∨X.env.scope.names.lookup x=some .local:=by first | exact .inl rfl | exact .inr rfl | assumption) :
  PS X (.Assign [.Name x pos'] e pos) (tAsg te (K1 i)):=by
 intro pins s σ H D I h
 refine wpAny_Assign_Name (thn (he pins s σ H _ I h) fun v s1 ⟨y,H1,I1,r1,q1⟩=>?_) hs
 exact rW I1 hN hi hx r1 (fun s2 I2=>⟨_,H1,I2,q1⟩) hf
end
section
variable{X:Cx}{pos:Pos}
def I9(c:TT)(tb:TS):TS:=fun D σ H=>∃ W:Nat->St->Hp->Prop,(∃ m,W m σ H)/\∀ m σ H,W m σ H ->
 c σ H fun b H1=>if b=true then ∃ N:St->Hp->Prop,(∀ σ' H',N σ' H'->∃ m',m'<m/\W m' σ' H')/\tb { D with nx:=N,ct:=N,bk:=D.nx } σ H1 else D.nx σ H1
theorem sW{c:Expr}{body:List Stmt}{tc:TT}{tb:TS}(hp:PassesOwn (model X.prog X.w) X.A X.env X.xe)(hc:PT X c tc)(hb:PSs X body tb):PS X (.While c body [] pos) (I9 tc tb):=by
 intro pins s σ H D I h
 obtain⟨W,⟨m0,w0⟩,turn⟩:=h
 refine wpAny_While (codeAny_whileLoop (fun n s'=>∃ σ' H',Inv X pins σ' H' s'/\W n σ' H') ?_ m0 ⟨σ,H,I,w0⟩)
 rintro n s1 ⟨σ1,H1,I1,w1⟩
 refine wpAny_passesOwn hp (thn (hc pins s1 σ1 H1 _ I1 (turn n σ1 H1 w1)) fun b s2 ⟨H2,I2,q2⟩=>?_)
 cases b with
 |true =>
  obtain⟨N,hN,q2⟩:=q2
  rw[if_pos rfl]
  refine wpAny_passesOwn hp (thn (hb pins s2 σ1 H2 _ I2 q2) fun f s3 q3=>?_)
  cases f with
  |next =>
   obtain⟨σ3,H3,I3,n3⟩:=q3
   obtain⟨m',hm,w3⟩:=hN σ3 H3 n3
   exact⟨m',hm,σ3,H3,I3,w3⟩
  |cont =>
   obtain⟨σ3,H3,I3,n3⟩:=q3
   obtain⟨m',hm,w3⟩:=hN σ3 H3 n3
   exact⟨m',hm,σ3,H3,I3,w3⟩
  |brk=>exact q3
  |ret v=>exact q3
 |false =>
  rw[if_neg L8]
  exact wpAny_execs_nil ⟨σ1,H2,I2,q2⟩
end
structure It where
 go:Nat->Hp->Prop
 yld:Nat->Hp->V->Hp->Prop
 stop:Nat->Hp->Prop
def FpOk(X:Cx)(pins:List (Addr×Obj))(H:Hp)(b:Addr):Prop :=
 H b=none/\b≠X.env.locals/\b∉X.fs/\(b∈X.ex∨X.s₀.heap.objs.size<=b)/\(∀ x c,X.env.cells.lookup x=some c->c≠b)/\∀ p∈X.pn++pins,p.1≠b
theorem Inv.fpOk{X:Cx}{pins:List (Addr×Obj)}{σ:St}{H H':Hp}{s:Shared}{b:Addr}(I:Inv X pins σ H s)(hb:s.heap.objs.size<=b)(hn:H' b=none):FpOk X pins H' b:=by
 refine⟨hn,N8 (Mw I.lt hb),I.nofs hb,.inr (MB I.sz hb),fun x c e z=>?_,fun p hp z=>?_⟩
 ·obtain⟨v,q⟩:=I.cell x c e
  exact absurd (Mw q.lt (by rw[z];exact hb)) (MM _)
 ·exact absurd (Mw (Heap.lt_size (I.pin p hp).1) (by rw[z];exact hb)) (MM _)
structure Turn(P:Program)(w:World)(K:LA)(tg:Expr)(J:It)(fp:List Addr)(it:Addr)(tn:Nat->Heap->Prop):Prop where
 mem:it∈fp
 obj:∀ i h,tn i h->∀ b∈fp,∃ o,h.get? b=some o/\∀ v,o.data≠.cell v
 keep:∀ i h h',tn i h->(∀ b∈fp,∀ o,h.get? b=some o->h'.get? b=some o)->tn i h'
 item:∀(X:Cx),X.prog=P->X.w=w->X.K=K->X.calm=true->∀(i:Nat)(pins:List (Addr×Obj))(s:Shared)(σ:St)(H:Hp)(E:Value->Shared->Prop),Inv X pins σ H s->(∀ b∈fp,FpOk X pins H b)->tn i s.heap->J.go i H ->
  wpAny (model P w) X.A (pyNext (.ref it)) (fun r s1=>∃ u,r=some u /\
   wpAny (model P w) X.A (letOwnedTupleGo tg (.ref it) u) (fun _ s2=>∃ x H',Inv X pins σ H' s2/\RelV x u/\J.yld i H x H'/\tn (i+1) s2.heap/\∀ b∈fp,H' b=none) E s1) E s
 done:∀(X:Cx),X.prog=P->X.w=w->X.K=K->X.calm=true->∀(i:Nat)(pins:List (Addr×Obj))(s:Shared)(σ:St)(H:Hp)(E:Value->Shared->Prop),Inv X pins σ H s->(∀ b∈fp,FpOk X pins H b)->tn i s.heap->J.stop i H ->
  wpAny (model P w) X.A (pyNext (.ref it)) (fun r s1=>r=none/\Inv X pins σ H s1) E s
 self:∀(A:Around)(i:Nat)(s:Shared)(Q:Value->Shared->Prop)(E:Value->Shared->Prop),tn i s.heap->Q (.ref it) s->wpAny (model P w) A (pyIter (.ref it)) Q E s
abbrev TI:=St->Hp->(It->Hp->Prop)->Prop
def PIE(X:Cx)(pins:List (Addr×Obj))(σ:St)(tg:Expr)(R:It->Hp->Prop)(itv:Value)(s2:Shared):Prop :=
 ∃(it:Addr)(fp:List Addr)(tn:Nat->Heap->Prop)(J:It)(H':Hp),itv=.ref it/\Inv X pins σ H' s2/\Turn X.prog X.w X.K tg J fp it tn/\tn 0 s2.heap/\(∀ b∈fp,FpOk X pins H' b)/\R J H'
def PI(X:Cx)(tg iter:Expr)(wi:TI):Prop :=
 ∀(pins:List (Addr×Obj))(s:Shared)(σ:St)(H:Hp)(R:It->Hp->Prop),Inv X pins σ H s->wi σ H R ->
  wpAny (model X.prog X.w) X.A (eval iter X.env) (fun v s1=>wpAny (model X.prog X.w) X.A (pyIter v) (PIE X pins σ tg R) X.xe s1) X.xe s
theorem KZ{M:Model}{A:Around}{E:Value->Shared->Prop}{s:Shared}{tg:Expr}{it:Addr}{u:Value}{o:Obj}{n:String}{vs:Array Value}{Q:Unit->Shared->Prop}(ho:s.heap.get? it=some o)(hc:o.cls=.type n)(hd:o.data=.fields vs)
  (hn : ["enumerate","zip","dict_itemiterator","dict_reverseitemiterator","odict_iterator","itertools.zip_longest","itertools.pairwise"].contains n=false) (hQ:Q () s):wpAny M A (letOwnedTupleGo tg (.ref it) u) Q E s:=by
 unfold letOwnedTupleGo
 cases tg<;>first
  |exact wpAny_pure hQ
  | (cases u<;>first
    |exact wpAny_pure hQ
    | (refine wpAny_bind (wpAny_load ho ?_)
       rw[hc,hd]
       show wpAny M A (if(["enumerate","zip","dict_itemiterator","dict_reverseitemiterator","odict_iterator","itertools.zip_longest","itertools.pairwise"].contains n&&vs[0]? == some (rawInt _))=true then _ else _) Q E s
       rw[if_neg (by intro h;rw[hn,ON]at h;cases h)]
       exact wpAny_pure hQ))
def Itl(K:LA)(a:Addr):It :=
 ⟨fun i H=>∃ xs x,SqL K H a xs/\xs[i]?=some x,fun i H x H'=>H'=H/\∀ xs,SqL K H a xs->xs[i]?=some x,fun i H=>∃ xs,SqL K H a xs/\xs.length<=i⟩
def Itr(lo:Int)(n:Nat):It:=⟨fun i _=>i<n,fun i H x H'=>H'=H/\x=.int (lo+i),fun i _=>n<=i⟩
theorem EB{P:Program}{w:World}{K:LA}{tg:Expr}(a it:Addr):Turn P w K tg (Itl K a) [it] it (fun i h=>h.IsListIter it a i) where
 mem:=by simp
 obj:=fun i h st b hb=>by
  have e:b=it:=by simpa using hb
  subst e
  obtain⟨o,e,c,d⟩:=st
  exact⟨o,e,fun v z=>by rw[d]at z;cases z⟩
 keep:=fun i h h' st k=>st.at fun o e=>k it (by simp) o e
 item:=by
  intro X hP hw hK hc i pins s σ H E I hf st hg
  subst hP hw hK
  obtain⟨xs,x,hq,hx⟩:=hg
  obtain⟨its,rv,p,hz⟩:=I.list hq
  obtain⟨u,hu,ru⟩:=rv.get hx
  obtain⟨f0,f1,f2,f3,f4,f5⟩:=hf it (by simp)
  refine wpAny_pyNext_list_item st p.isList (x:=u) (by simpa using hu) fun h' st' sb=>?_
  have I1:Inv X pins σ H { s with heap:=h' }:=I.turned (t':=s.toks) (fun b o hb e=>(sb.2 b hb).trans e) f0 f1 f3 f4 f5
  obtain⟨o,e,c,d⟩:=id st'
  exact⟨u,rfl,KZ (s:={ s with heap:=h' }) e c d (by decide) ⟨x,H,I1,ru,⟨rfl,fun ys hy=>by rw[I.list_inj hy hq];exact hx⟩,st',fun b hb=>(hf b hb).1⟩⟩
 done:=by
  intro X hP hw hK hc i pins s σ H E I hf st hg
  subst hP hw hK
  obtain⟨xs,hq,hx⟩:=hg
  obtain⟨its,rv,p,hz⟩:=I.list hq
  obtain⟨f0,f1,f2,f3,f4,f5⟩:=hf it (by simp)
  have hl:=rv.length
  exact wpAny_pyNext_list_end (I.ok.hd hc) st p.isList (by simp;omega) fun h' eb=>⟨rfl,I.turned (t':=s.toks) (fun b o hb e=>eb b o hb e) f0 f1 f3 f4 f5⟩
 self:=fun _ _ _ _ _ st h=>wpAny_pyIter_listiter st h
theorem CP{P:Program}{w:World}{K:LA}{tg:Expr}(it:Addr)(lo:Int)(n:Nat):Turn P w K tg (Itr lo n) [it] it (fun i h=>IsRangeIter h it (lo+(i:Nat)*1) ((n:Int)-(i:Nat)) 1) where
 mem:=by simp
 obj:=fun i h st b hb=>by
  have e:b=it:=by simpa using hb
  subst e
  exact⟨_,st,fun v z=>by
   have z':Data.fields _=Data.cell v:=z
   cases z'⟩
 keep:=fun i h h' st k=>k it (by simp) _ st
 item:=by
  intro X hP hw hK hc i pins s σ H E I hf st hg
  subst hP hw hK
  obtain⟨f0,f1,f2,f3,f4,f5⟩:=hf it (by simp)
  have W:=Walks.range (prog:=X.prog) (w:=X.w) (I.ok.hd hc) it lo 1 n
  refine W.item i s _ _ hg st fun v h' tk hv st' kk=>?_
  obtain⟨t,rfl⟩:=hv
  have I1:Inv X pins σ H { s with heap:=h',toks:=tk }:=I.turned (fun b o hb e=>kk b o (by simpa using hb) e) f0 f1 f3 f4 f5
  refine⟨_,rfl,KZ (s:={ s with heap:=h',toks:=tk }) (n:="range_iterator") st' rfl rfl (by decide) ⟨.int (lo+i),H,I1,⟨t,?_⟩,⟨rfl,rfl⟩,st',fun b hb=>(hf b hb).1⟩⟩
  rw[Int.mul_one]
 done:=by
  intro X hP hw hK hc i pins s σ H E I hf st hg
  subst hP hw hK
  obtain⟨f0,f1,f2,f3,f4,f5⟩:=hf it (by simp)
  exact wpAny_pyNext_range_end (I.ok.hd hc) st (by have:n<=i:=hg;omega) fun h' eb=>⟨rfl,I.turned (t':=s.toks) (fun b o hb e=>eb b o hb e) f0 f1 f3 f4 f5⟩
 self:=fun _ _ _ _ _ st h=>wpAny_pyIter_rangeiter st h
end L2
namespace L2
open PySem PySem.Spec PyProof.Rows
section
variable{X:Cx}{tg:Expr}
def iList(K:LA)(tl:TE):TI:=fun σ H R=>tl σ H fun x H1=>∃ a,x=.ref a/\(∃ xs,SqL K H1 a xs)/\R (Itl K a) H1
theorem bz{l:Expr}{tl:TE}(hl:PE X l tl):PI X tg l (iList X.K tl):=by
 intro pins s σ H R I h
 refine thn (hl pins s σ H _ I h) fun v s1 ⟨x,H1,I1,r1,q1⟩=>?_
 obtain⟨a,e,⟨xs,hq⟩,q⟩:=q1
 subst e
 cases r1
 obtain⟨its,rv,p,hz⟩:=I1.list hq
 refine wpAny_pyIter_list p.isList ?_
 refine⟨s1.heap.objs.size,[s1.heap.objs.size],_,_,H1,rfl,I1.kept (t':=s1.toks) fun b o e=>Heap.get?_push_of_some _ e,EB a _,⟨_,Heap.get?_push_size _ rfl,rfl,rfl⟩,fun b hb=>?_,q⟩
 have e:b=s1.heap.objs.size:=by simpa using hb
 subst e
 exact I1.fpOk (LG _) (I1.hok.fresh (LG _))
theorem HH{pins:List (Addr×Obj)}{σ:St}{H:Hp}{s:Shared}{R:It->Hp->Prop}{E:Value->Shared->Prop}{lo hi:Int}{t u v:Tok}{tk:Nat}(I:Inv X pins σ H s)(h1 : -(2^62)<=lo)(h2:lo<2^62)(h3 : -(2^62)<=hi)(h4:hi<2^62)
  (q:R (Itr lo (hi-lo).toNat) H):wpAny (model X.prog X.w) X.A (pyIter (.ref s.heap.objs.size)) (PIE X pins σ tg R) E { s with heap:=s.heap.push { cls:=.type "range",data:=.fields #[.int lo t,.int hi u,.int 1 v] },toks:=tk }:=by
 refine wpAny_pyIter_range (IsRange.new ..) (small_one h1 h2 h3 h4) ?_
 have I1:Inv X pins σ H { s with heap:=s.heap.push { cls:=.type "range",data:=.fields #[.int lo t,.int hi u,.int 1 v] },toks:=tk }:=I.kept fun b o e=>Heap.get?_push_of_some _ e
 refine⟨(s.heap.push { cls:=.type "range",data:=.fields #[.int lo t,.int hi u,.int 1 v] }).objs.size,[(s.heap.push { cls:=.type "range",data:=.fields #[.int lo t,.int hi u,.int 1 v] }).objs.size],_,_,H,rfl,
  I1.kept (t':=tk) fun b o e=>Heap.get?_push_of_some _ e,CP _ lo (hi-lo).toNat,?_,fun b hb=>?_,q⟩
 ·have e1:lo+((0:Nat):Int)*1=lo:=by simp
  have e2:(((hi-lo).toNat:Nat):Int)-((0:Nat):Int)=Builtin.Range.rangeSize lo hi 1:=by rw[rangeSize_one];split<;>omega +splitDisjunctions
  show IsRangeIter _ _ (lo+((0:Nat):Int)*1) ((((hi-lo).toNat:Nat):Int)-((0:Nat):Int)) 1
  rw[e1,e2]
  exact Heap.get?_push_size _ rfl
 ·have e:b=(s.heap.push { cls:=.type "range",data:=.fields #[.int lo t,.int hi u,.int 1 v] }).objs.size:=by simpa using hb
  subst e
  exact I1.fpOk (LG _) (I1.hok.fresh (LG _))
def iRng1(ta:TA):TI:=fun σ H R=>ta σ H fun vs H1=>∃ j:Int,vs = [.int j]/\-(2^62)<=j/\j<2^62/\R (Itr 0 j.toNat) H1
theorem ba{a:Expr}{ta:TA}{p pos:Pos} (hg:Gl X "range") (hm:X.mg "range" = none) (ha:PA X [a] ta) (hs:starEach [a] X.env = [(false,eval a X.env)]:=by rfl):PI X tg (.Call (.Name "range" p) [a] [] pos) (iRng1 ta):=by
 intro pins s σ H R I h
 refine Call_ (xh I hg hm boot_range (PyProof.Rows.callWith_type1 (thn (ha pos pins s σ H _ I h) fun us s1 ⟨vs,H1,I1,r1,q1⟩=>?_) hs rfl))
 obtain⟨j,e,q1,q2,q⟩:=q1
 subst e
 cases r1 with
 |cons r rr =>
  cases rr
  obtain⟨t,rfl⟩:=r
  exact call_range_1 (HH I1 (by omega) (by omega) q1 q2 (by simpa using q))
def tFor(wi:TI)(g:TG)(tb:TS):TS:=fun D σ H=>wi σ H fun J H1=>∃ W:Nat->Nat->St->Hp->Prop,(∃ m,W 0 m σ H1)/\∀ i m σ H,W i m σ H ->
 (J.stop i H/\D.nx σ H)∨(J.go i H/\∃ N:St->Hp->Prop,(∀ σ' H',N σ' H'->∃ m',m'<m/\W (i+1) m' σ' H')/\∀ x H',J.yld i H x H'->g x σ H' fun σ2 H2=>tb { D with nx:=N,ct:=N,bk:=D.nx } σ2 H2)
def wm(fp:List Addr)(h:Heap):List (Addr×Obj):=fp.filterMap fun b=>(h.get? b).map fun o=>(b,o)
theorem fS{fp:List Addr}{h:Heap}{b:Addr}{o:Obj}(hb:b∈fp)(e:h.get? b=some o):(b,o)∈wm fp h:=List.mem_filterMap.mpr ⟨b,hb,by rw[e];rfl⟩
theorem FD{fp:List Addr}{h:Heap}{p:Addr×Obj}(hp:p∈wm fp h):p.1∈fp/\h.get? p.1=some p.2:=by
 obtain⟨b,hb,e⟩:=List.mem_filterMap.mp hp
 cases q:h.get? b with
 |none=>rw[q]at e;cases e
 |some o =>
  rw[q]at e
  have e':(b,o)=p:=L6 e
  subst e'
  exact⟨hb,q⟩
theorem Inv.pinned{pins:List (Addr×Obj)}{σ:St}{H:Hp}{s:Shared}{fp:List Addr}(I:Inv X pins σ H s)(hf:∀ b∈fp,FpOk X pins H b)(ho:∀ b∈fp,∃ o,s.heap.get? b=some o/\∀ v,o.data≠.cell v):Inv X (pins++wm fp s.heap) σ H s :=
 I.pins_of fun p hp=>(LJ.mp hp).elim (fun z=>I.pin p (L4 _ z)) fun z=>by
  obtain⟨hb,e⟩:=FD z
  obtain⟨f0,f1,f2,_⟩:=hf p.1 hb
  obtain⟨o,e',d⟩:=ho p.1 hb
  rw[e]at e';cases e'
  exact⟨e,f0,f1,f2,d⟩
theorem Inv.unpinned{pins pl:List (Addr×Obj)}{σ:St}{H:Hp}{s:Shared}(I:Inv X (pins++pl) σ H s):Inv X pins σ H s:=I.pins_of fun p hp=>I.pin p (L4 _ (MC _ hp))
theorem bO{iter:Expr}{body:List Stmt}{wi:TI}{g:TG}{tb:TS}{pos:Pos}(hp:PassesOwn (model X.prog X.w) X.A X.env X.xe)(hc:X.calm=true)(hi:PI X tg iter wi)(hg:PG X tg g)(hb:PSs X body tb)
  (hs:∀ x,foldedSetIterable iter X.env x=pure x:=by intro _;rfl):PS X (.For tg iter body [] pos) (tFor wi g tb):=by
 intro pins s σ H D I h
 refine wpAny_For (thn (hi pins s σ H _ I h) fun v s1 h1=>thn h1 fun itv s2 h2=>?_) hs
 obtain⟨it,fp,tn,J,H2,e,I2,T,st2,f2,W,⟨m0,w0⟩,turn⟩:=h2
 subst e
 have stat:∀{H':Hp},(∀ b∈fp,H' b=none)->∀ b∈fp,FpOk X pins H' b:=fun hn b hb=>⟨hn b hb,(f2 b hb).2⟩
 refine codeAny_forLoop_any (fun n s'=>∃ i σ' H',Inv X pins σ' H' s'/\tn i s'.heap/\(∀ b∈fp,H' b=none)/\W i n σ' H') ?_ m0 ⟨0,σ,H2,I2,st2,fun b hb=>(f2 b hb).1,w0⟩
 rintro n s3 ⟨i,σ3,H3,I3,st3,fr3,w3⟩
 rcases turn i n σ3 H3 w3 with⟨stop,qn⟩ | ⟨go,N,hN,step⟩
 ·refine wpAny_passesOwn hp (thn (T.done X rfl rfl rfl hc i pins s3 σ3 H3 X.xe I3 (stat fr3) st3 stop) fun r s4 ⟨hr,I4⟩=>?_)
  subst hr
  exact wpAny_execs_nil ⟨σ3,H3,I4,qn⟩
 ·refine wpAny_passesOwn hp (thn (T.item X rfl rfl rfl hc i pins s3 σ3 H3 X.xe I3 (stat fr3) st3 go) fun r s4 ⟨u,hr,h4⟩=>?_)
  subst hr
  refine wpAny_passesOwn hp (thn h4 fun _ s5 ⟨x,H5,I5,r5,y5,st5,fr5⟩=>?_)
  have I5':=I5.pinned (stat fr5) (T.obj _ _ st5)
  refine wpAny_passesOwn hp (thn (hg _ s5 σ3 H5 x u _ I5' r5 (step x H5 y5)) fun _ s6 ⟨σ6,H6,I6,q6⟩=>?_)
  refine wpAny_passesOwn hp (thn (hb _ s6 σ6 H6 _ I6 q6) fun f s7 q7=>?_)
  have again:∀{σ7:St}{H7:Hp},Inv X (pins++wm fp s5.heap) σ7 H7 s7->N σ7 H7->∃ m,m<n/\∃ i σ' H',Inv X pins σ' H' s7/\tn i s7.heap/\(∀ b∈fp,H' b=none)/\W i m σ' H':=fun{σ7 H7} I7 n7=>by
   obtain⟨m',hm,w7⟩:=hN σ7 H7 n7
   refine⟨m',hm,i+1,σ7,H7,I7.unpinned,T.keep _ _ _ st5 fun b hb o e=>(I7.pin (b,o) (L4 _ (L4 _ (fS hb e)))).1,fun b hb=>?_,w7⟩
   obtain⟨o,e,d⟩:=T.obj _ _ st5 b hb
   exact(I7.pin (b,o) (L4 _ (L4 _ (fS hb e)))).2.1
  cases f with
  |next=>obtain⟨σ7,H7,I7,n7⟩:=q7;exact again I7 n7
  |cont=>obtain⟨σ7,H7,I7,n7⟩:=q7;exact again I7 n7
  |brk=>obtain⟨σ7,H7,I7,q7⟩:=q7;exact⟨σ7,H7,I7.unpinned,q7⟩
  |ret v=>obtain⟨x7,σ7,H7,I7,r7,q7⟩:=q7;exact⟨x7,σ7,H7,I7.unpinned,r7,q7⟩
end
theorem gD{K:LA}{a:Addr}{xs:List V}{g:TG}{tb:TS}{D:Ends}{σ:St}{H:Hp}(Pv:Nat->St->Hp->Prop)(h0:Pv 0 σ H)(hl:∀ i σ H,i<=xs.length->Pv i σ H->SqL K H a xs)
  (hs:∀ i x σ H,xs[i]?=some x->Pv i σ H->g x σ H fun σ2 H2=>tb { D with nx:=Pv (i+1),ct:=Pv (i+1),bk:=D.nx } σ2 H2) (hd:∀ σ H,Pv xs.length σ H->D.nx σ H) :
  ∃ W:Nat->Nat->St->Hp->Prop,(∃ m,W 0 m σ H)/\∀ i m σ H,W i m σ H ->
   ((Itl K a).stop i H/\D.nx σ H)∨((Itl K a).go i H/\∃ N:St->Hp->Prop,(∀ σ' H',N σ' H'->∃ m',m'<m/\W (i+1) m' σ' H')/\∀ x H',(Itl K a).yld i H x H'->g x σ H' fun σ2 H2=>tb { D with nx:=N,ct:=N,bk:=D.nx } σ2 H2):=by
 refine⟨fun i m σ H=>m=xs.length-i/\i<=xs.length/\Pv i σ H,⟨xs.length,by simp,MQ _,h0⟩,?_⟩
 rintro i m σ H ⟨rfl,hi,p⟩
 have q:=hl i σ H hi p
 by_cases hlt:i<xs.length
 ·refine .inr ⟨⟨xs,xs[i],q,by simp[hlt]⟩,Pv (i+1),fun σ' H' p'=>⟨xs.length-(i+1),by omega,rfl,hlt,p'⟩,fun x H' y=>?_⟩
  obtain⟨e,y⟩:=y
  subst e
  exact hs i x σ _ (y xs q) p
 ·have e:i=xs.length:=by omega
  subst e
  exact .inl ⟨⟨xs,q,LG _⟩,hd σ H p⟩
theorem br{lo:Int}{n:Nat}{g:TG}{tb:TS}{D:Ends}{σ:St}{H:Hp}(Pv:Nat->St->Hp->Prop)(h0:Pv 0 σ H)
  (hs:∀ i σ H,i<n->Pv i σ H->g (.int (lo+i)) σ H fun σ2 H2=>tb { D with nx:=Pv (i+1),ct:=Pv (i+1),bk:=D.nx } σ2 H2) (hd:∀ σ H,Pv n σ H->D.nx σ H) :
  ∃ W:Nat->Nat->St->Hp->Prop,(∃ m,W 0 m σ H)/\∀ i m σ H,W i m σ H ->
   ((Itr lo n).stop i H/\D.nx σ H)∨((Itr lo n).go i H/\∃ N:St->Hp->Prop,(∀ σ' H',N σ' H'->∃ m',m'<m/\W (i+1) m' σ' H')/\∀ x H',(Itr lo n).yld i H x H'->g x σ H' fun σ2 H2=>tb { D with nx:=N,ct:=N,bk:=D.nx } σ2 H2):=by
 refine⟨fun i m σ H=>m=n-i/\i<=n/\Pv i σ H,⟨n,by simp,MQ _,h0⟩,?_⟩
 rintro i m σ H ⟨rfl,hi,p⟩
 by_cases hlt:i<n
 ·refine .inr ⟨hlt,Pv (i+1),fun σ' H' p'=>⟨n-(i+1),by omega,rfl,hlt,p'⟩,fun x H' y=>?_⟩
  obtain⟨e,y⟩:=y
  subst e y
  exact hs i σ _ hlt p
 ·have e:i=n:=by omega
  subst e
  exact .inl ⟨LG _,hd σ H p⟩
theorem BP{c:TT}{tb:TS}{D:Ends}{σ:St}{H:Hp}(Pv:St->Hp->Prop)(μ:St->Hp->Nat)(h0:Pv σ H)
  (hs:∀ σ H,Pv σ H->c σ H fun b H1=>if b=true then tb { D with nx:=fun σ' H'=>Pv σ' H'/\μ σ' H'<μ σ H,ct:=fun σ' H'=>Pv σ' H'/\μ σ' H'<μ σ H,bk:=D.nx } σ H1 else D.nx σ H1)
  (mono:∀ σ H Q Q',(∀ b H1,Q b H1->Q' b H1)->c σ H Q->c σ H Q'):I9 c tb D σ H:=by
 refine⟨fun m σ H=>m=μ σ H/\Pv σ H,⟨_,rfl,h0⟩,?_⟩
 rintro m σ H ⟨rfl,p⟩
 refine mono σ H _ _ (fun b H1 q=>?_) (hs σ H p)
 cases b with
 |true=>exact⟨_,fun σ' H' ⟨p',l⟩=>⟨_,l,rfl,p'⟩,q⟩
 |false=>exact q
end L2
namespace L2
open PySem PySem.Spec PyProof.Rows
abbrev R2:=V->V->Hp->VK->Prop
def OpR(X:Cx)(f:Value->Value->Sem Value)(r:R2):Prop :=
 ∀(pins:List (Addr×Obj))(s:Shared)(σ:St)(H:Hp)(x y:V)(v u:Value)(Q:VK),Inv X pins σ H s->RelV x v->RelV y u->r x y H Q ->
  wpAny (model X.prog X.w) X.A (f v u) (EP X pins σ Q) X.xe s
def i7(X:Cx)(f:Value)(r:List V->Hp->VK->Prop):Prop :=
 ∀(pins:List (Addr×Obj))(s:Shared)(σ:St)(H:Hp)(xs:List V)(us:List Value)(Q:VK),Inv X pins σ H s->Vals xs us->r xs H Q ->
  wpAny (model X.prog X.w) X.A (call f us) (EP X pins σ Q) X.xe s
def tOp(r:R2)(ta tb:TE):TE:=fun σ H Q=>ta σ H fun x H1=>tb σ H1 fun y H2=>r x y H2 Q
def rI(C:Int->Int->Prop)(g:Int->Int->V):R2:=fun x y H Q=>∃ i j,x=.int i/\y=.int j/\C i j/\Q (g i j) H
def rI0(g:Int->Int->V):R2:=fun x y H Q=>∃ i j,x=.int i/\y=.int j/\Q (g i j) H
section
variable{X:Cx}{a b c:Expr}{ta tb tc:TE}{pos:Pos}
theorem binT(ha:PE X a ta)(hb:PE X b tb){pins:List (Addr×Obj)}{s:Shared}{σ:St}{H:Hp}{R:V->V->Hp->Prop}(I:Inv X pins σ H s)
  (h:ta σ H fun x H1=>tb σ H1 fun y H2=>R x y H2) {Q:Value->Shared->Prop} {f:Value->Value->Sem Value}
  (hf:∀ v u s2 x y H2,Inv X pins σ H2 s2->RelV x v->RelV y u->R x y H2->wpAny (model X.prog X.w) X.A (f v u) Q X.xe s2) :
  wpAny (model X.prog X.w) X.A (eval a X.env) (fun v s₁=>wpAny (model X.prog X.w) X.A (eval b X.env) (fun u s₂=>wpAny (model X.prog X.w) X.A (f v u) Q X.xe s₂) X.xe s₁) X.xe s:=by
 refine thn (ha pins s σ H _ I h) fun v s1 ⟨x,H1,I1,r1,q1⟩=>?_
 refine thn (hb pins s1 σ H1 _ I1 q1) fun u s2 ⟨y,H2,I2,r2,q2⟩=>?_
 exact hf v u s2 x y H2 I2 r1 r2 q2
theorem aF{op:Operator}{r:R2}(ho:OpR X (binaryOp op) r)(ha:PE X a ta)(hb:PE X b tb):PE X (.BinOp a op b pos) (tOp r ta tb):=by
 intro pins s σ H Q I h
 exact wpAny_BinOp (binT ha hb I h fun v u s2 x y H2 I2 rx ry q=>ho pins s2 σ H2 x y v u Q I2 rx ry q)
theorem opI{f:Value->Value->Sem Value}{C:Int->Int->Prop}{g:Int->Int->Int}
  (rule:∀(i j:Int)(t u:Tok)(s:Shared)(Q:Value->Shared->Prop)(E:Value->Shared->Prop),C i j->Q (.int (g i j) s.toks) { s with toks:=s.toks+1 }->wpAny (model X.prog X.w) X.A (f (.int i t) (.int j u)) Q E s) :
  OpR X f (rI C fun i j=>.int (g i j)):=by
 intro pins s σ H x y v u Q I rx ry h
 obtain⟨i,j,rfl,rfl,hc,q⟩:=h
 obtain⟨t,rfl⟩:=rx
 obtain⟨t',rfl⟩:=ry
 exact rule i j t t' s _ _ hc ⟨.int (g i j),H,I.tok _,⟨_,rfl⟩,q⟩
theorem opI0{f:Value->Value->Sem Value}{g:Int->Int->Int}
  (rule:∀(i j:Int)(t u:Tok)(s:Shared)(Q:Value->Shared->Prop)(E:Value->Shared->Prop),Q (.int (g i j) s.toks) { s with toks:=s.toks+1 }->wpAny (model X.prog X.w) X.A (f (.int i t) (.int j u)) Q E s) :
  OpR X f (rI0 fun i j=>.int (g i j)):=by
 intro pins s σ H x y v u Q I rx ry h
 obtain⟨i,j,rfl,rfl,q⟩:=h
 obtain⟨t,rfl⟩:=rx
 obtain⟨t',rfl⟩:=ry
 exact rule i j t t' s _ _ ⟨.int (g i j),H,I.tok _,⟨_,rfl⟩,q⟩
theorem opB0{f:Value->Value->Sem Value}{g:Int->Int->Bool}
  (rule:∀(i j:Int)(t u:Tok)(s:Shared)(Q:Value->Shared->Prop)(E:Value->Shared->Prop),Q (.bool (g i j)) s->wpAny (model X.prog X.w) X.A (f (.int i t) (.int j u)) Q E s) :
  OpR X f (rI0 fun i j=>.bl (g i j)):=by
 intro pins s σ H x y v u Q I rx ry h
 obtain⟨i,j,rfl,rfl,q⟩:=h
 obtain⟨t,rfl⟩:=rx
 obtain⟨t',rfl⟩:=ry
 exact rule i j t t' s _ _ ⟨.bl (g i j),H,I,rfl,q⟩
def CDiv(i j:Int):Prop:=0<j/\j<1073741824
def CPow(i j:Int):Prop:=0<=j/\j<=1000000/\i.natAbs<2^64
def CMul(i j:Int):Prop:=(-(2^64)<i/\i<2^64)∨(-(2^64)<j/\j<2^64)
theorem CMul.ok{i j:Int}(h:CMul i j):IntMulOk i j:=by
 rcases h with⟨h1,h2⟩ | ⟨h1,h2⟩
 ·exact .of_left (intBits_le_64 h1 h2)
 ·exact .of_right (intBits_le_64 h1 h2)
theorem bB:OpR X (binaryOp .Add) (rI0 fun i j=>.int (i+j)):=opI0 fun _ _ _ _ _ _ _ q=>add_int q
theorem wq:OpR X (binaryOp .Sub) (rI0 fun i j=>.int (i-j)):=opI0 fun _ _ _ _ _ _ _ q=>sub_int q
theorem dD:OpR X (binaryOp .Mult) (rI CMul fun i j=>.int (i*j)):=opI fun _ _ _ _ _ _ _ hc q=>mul_int q hc.ok
theorem c5:OpR X (binaryOp .FloorDiv) (rI CDiv fun i j=>.int (i/j)):=opI fun i j _ _ _ _ _ hc q=>by
 have h1:(0:Int)<j:=hc.1
 have h2:j<1073741824:=hc.2
 exact floordiv_int (by omega) (by rw[Int.fdiv_eq_ediv_of_nonneg i (by omega)];exact q) (.inl (PyProof.noPylong_small (by omega)))
theorem bV:OpR X (binaryOp .Mod) (rI (fun _ j=>0<j) fun i j=>.int (i%j)):=opI fun i j _ _ _ _ _ hc q=>by
 have h1:(0:Int)<j:=hc
 exact mod_int' (by omega) (by rw[Int.fmod_eq_emod_of_nonneg i (by omega)];exact q)
theorem Fp:OpR X (binaryOp .Pow) (rI CPow fun i j=>.int (i^j.toNat)):=opI fun _ _ _ _ _ _ _ hc q=>pow_int_small hc.1 hc.2.1 hc.2.2 q
theorem Cb:OpR X (binaryOp .LShift) (rI CPow fun i j=>.int (i*2^j.toNat)):=opI fun _ _ _ _ _ _ _ hc q=>lshift_int_small hc.1 hc.2.1 hc.2.2 q
theorem op_and:OpR X (binaryOp .BitAnd) (rI0 fun i j=>.int (Builtin.bitAnd i j)):=opI0 fun _ _ _ _ _ _ _ q=>and_int q
theorem op_or:OpR X (binaryOp .BitOr) (rI0 fun i j=>.int (Builtin.bitOr i j)):=opI0 fun _ _ _ _ _ _ _ q=>or_int q
end
def scal:V->V->Bool
 |.non,.non=>true | .non,.int _=>true | .int _,.non=>true | .non,.bl _=>true | .bl _,.non=>true | .non,.str _=>true | .str _,.non=>true
 |.int _,.int _=>true | .bl _,.bl _=>true | .str _,.str _=>true | .byt _,.byt _=>true
 |.int _,.str _=>true | .str _,.int _=>true | .bl _,.str _=>true | .str _,.bl _=>true
 |_,_=>false
def rEq:R2:=fun x y H Q=>scal x y=true/\Q (.bl (decide (x=y))) H
def rNe:R2:=fun x y H Q=>scal x y=true/\Q (.bl (!decide (x=y))) H
theorem GA{i j:Int}:decide (V.int i=V.int j)=(i == j):=by
 rw[Ny]
 simp
theorem Jx{i j:Bool}:decide (V.bl i=V.bl j)=(i == j):=by
 rw[Ny]
 simp
theorem Gy{i j:Str}:decide (V.str i=V.str j)=(i == j):=by
 rw[Ny]
 simp
theorem GC{i j:Array UInt8}:decide (V.byt i=V.byt j)=(i.toList == j.toList):=by
 rw[Ny]
 cases i
 cases j
 simp
section
variable{X:Cx}{a b c:Expr}{ta tb tc:TE}{pos:Pos}
theorem bf{pins:List (Addr×Obj)}{σ:St}{H:Hp}{s:Shared}{Q:VK}{k k':Bool}(I:Inv X pins σ H s)(q:Q (.bl k) H)(e:k=k'):EP X pins σ Q (.bool k') s:=by
 subst e
 exact⟨.bl k,H,I,rfl,q⟩
theorem jw:OpR X (compareOp .Eq) rEq:=by
 intro pins s σ H x y v u Q I rx ry h
 obtain⟨hs,q⟩:=h
 cases x with
 |non =>
  cases rx
  cases y with
  |non=>cases ry;exact PySem.EqNone.eq_none_none (bf I q (by simp))
  |bl j=>cases ry;exact PySem.EqNone.eq_none_bool (bf I q (by simp))
  |int j=>obtain⟨t',rfl⟩:=ry;exact PySem.EqNone.eq_none_int (bf I q (by simp))
  |str j=>obtain⟨t',rfl⟩:=ry;exact PySem.EqNone.eq_none_str (bf I q (by simp))
  |_=>exact absurd (show false=true from hs) L8
 |bl i =>
  cases rx
  cases y with
  |non=>cases ry;exact PySem.EqNone.eq_bool_none (bf I q (by simp))
  |bl j=>cases ry;exact eq_bool (bf I q Jx)
  |str j=>obtain⟨t',rfl⟩:=ry;exact PySem.EqMixed.eq_bool_str (bf I q (by simp))
  |_=>exact absurd (show false=true from hs) L8
 |int i =>
  obtain⟨t,rfl⟩:=rx
  cases y with
  |non=>cases ry;exact PySem.EqNone.eq_int_none (bf I q (by simp))
  |int j=>obtain⟨t',rfl⟩:=ry;exact eq_int (bf I q GA)
  |str j=>obtain⟨t',rfl⟩:=ry;exact PySem.EqMixed.eq_int_str (bf I q (by simp))
  |_=>exact absurd (show false=true from hs) L8
 |str i =>
  obtain⟨t,rfl⟩:=rx
  cases y with
  |non=>cases ry;exact PySem.EqNone.eq_str_none (bf I q (by simp))
  |bl j=>cases ry;exact PySem.EqMixed.eq_str_bool (bf I q (by simp))
  |int j=>obtain⟨t',rfl⟩:=ry;exact PySem.EqMixed.eq_str_int (bf I q (by simp))
  |str j=>obtain⟨t',rfl⟩:=ry;exact eq_str (bf I q Gy)
  |_=>exact absurd (show false=true from hs) L8
 |byt i =>
  obtain⟨t,rfl⟩:=rx
  cases y with
  |byt j=>obtain⟨t',rfl⟩:=ry;exact PySem.W.eq_bytes (bf I q GC)
  |_=>exact absurd (show false=true from hs) L8
 |_=>cases y<;>exact absurd (show false=true from hs) L8
theorem dr:OpR X (compareOp .NotEq) rNe:=by
 intro pins s σ H x y v u Q I rx ry h
 obtain⟨hs,q⟩:=h
 cases x with
 |non =>
  cases rx
  cases y with
  |non=>cases ry;exact PySem.EqNone.ne_none_none (bf I q (by simp))
  |bl j=>cases ry;exact PySem.EqNone.ne_none_bool (bf I q (by simp))
  |int j=>obtain⟨t',rfl⟩:=ry;exact PySem.EqNone.ne_none_int (bf I q (by simp))
  |str j=>obtain⟨t',rfl⟩:=ry;exact PySem.EqNone.ne_none_str (bf I q (by simp))
  |_=>exact absurd (show false=true from hs) L8
 |bl i =>
  cases rx
  cases y with
  |non=>cases ry;exact PySem.EqNone.ne_bool_none (bf I q (by simp))
  |bl j=>cases ry;exact ne_bool (bf I q (congrArg not Jx))
  |str j=>obtain⟨t',rfl⟩:=ry;exact PySem.EqMixed.ne_bool_str (bf I q (by simp))
  |_=>exact absurd (show false=true from hs) L8
 |int i =>
  obtain⟨t,rfl⟩:=rx
  cases y with
  |non=>cases ry;exact PySem.EqNone.ne_int_none (bf I q (by simp))
  |int j=>obtain⟨t',rfl⟩:=ry;exact ne_int (bf I q (congrArg not GA))
  |str j=>obtain⟨t',rfl⟩:=ry;exact PySem.EqMixed.ne_int_str (bf I q (by simp))
  |_=>exact absurd (show false=true from hs) L8
 |str i =>
  obtain⟨t,rfl⟩:=rx
  cases y with
  |non=>cases ry;exact PySem.EqNone.ne_str_none (bf I q (by simp))
  |bl j=>cases ry;exact PySem.EqMixed.ne_str_bool (bf I q (by simp))
  |int j=>obtain⟨t',rfl⟩:=ry;exact PySem.EqMixed.ne_str_int (bf I q (by simp))
  |str j=>obtain⟨t',rfl⟩:=ry;exact ne_str (bf I q (congrArg not Gy))
  |_=>exact absurd (show false=true from hs) L8
 |byt i =>
  obtain⟨t,rfl⟩:=rx
  cases y with
  |byt j=>obtain⟨t',rfl⟩:=ry;exact PySem.W.ne_bytes (bf I q (congrArg not GC))
  |_=>exact absurd (show false=true from hs) L8
 |_=>cases y<;>exact absurd (show false=true from hs) L8
theorem zP:OpR X (compareOp .Lt) (rI0 fun i j=>.bl (decide (i<j))):=opB0 fun _ _ _ _ _ _ _ q=>lt_int q
theorem Fs:OpR X (compareOp .Gt) (rI0 fun i j=>.bl (decide (j<i))):=opB0 fun _ _ _ _ _ _ _ q=>gt_int q
theorem HP:OpR X (compareOp .GtE) (rI0 fun i j=>.bl (decide (j<=i))):=opB0 fun _ _ _ _ _ _ _ q=>ge_int q
theorem Fq:OpR X (compareOp .In) (fun x y H Q=>∃ i j,x=.str i/\y=.str j/\Q (.bl (!(Builtin.Str.occurrences j i 0 j.length 1).isEmpty)) H):=by
 intro pins s σ H x y v u Q I rx ry h
 obtain⟨i,j,rfl,rfl,q⟩:=h
 obtain⟨t,rfl⟩:=rx
 obtain⟨t',rfl⟩:=ry
 exact in_str (bf I q rfl)
theorem Cc:OpR X (compareOp .Is) (fun x y H Q=>y=.non/\Q (.bl (decide (x=.non))) H):=by
 intro pins s σ H x y v u Q I rx ry h
 obtain⟨rfl,q⟩:=h
 cases ry
 refine is_none_gen (bf I q ?_)
 cases x<;>first
  | (cases rx;rfl)
  | (obtain⟨t,rfl⟩:=rx;rfl)
theorem aK(b:Expr){op:CmpOp}(h:op≠.In:=by decide)(h2:op≠.NotIn:=by decide):behindInMarks op b=false:=by
 have e1:(op == CmpOp.In)=false:=by cases op<;>first | rfl | exact absurd rfl h
 have e2:(op == CmpOp.NotIn)=false:=by cases op<;>first | rfl | exact absurd rfl h2
 cases b<;>simp[behindInMarks,e1,e2]
theorem zN{op:CmpOp}{r:R2}(ho:OpR X (compareOp op) r)(ha:PE X a ta)(hb:PE X b tb)(hm:behindInMarks op b=false):PE X (.Compare a [op] [b] pos) (tOp r ta tb):=by
 intro pins s σ H Q I h
 exact wpAny_Compare1 (binT ha hb I h fun v u s2 x y H2 I2 rx ry q=>ho pins s2 σ H2 x y v u Q I2 rx ry q) hm
def tTest(t:TE):TT:=fun σ H Q=>t σ H fun x H'=>∃ k,x=.bl k/\Q k H'
theorem av{op:CmpOp}{r:R2}(ho:OpR X (compareOp op) r)(ha:PE X a ta)(hb:PE X b tb)(hm:behindInMarks op b=false):PT X (.Compare a [op] [b] pos) (tTest (tOp r ta tb)):=by
 intro pins s σ H Q I h
 refine wpAny_isTrue_Compare1 (thn (ha pins s σ H _ I h) fun v s1 ⟨x,H1,I1,r1,q1⟩=>thn (hb pins s1 σ H1 _ I1 q1) fun u s2 ⟨y,H2,I2,r2,q2⟩ =>
  thn (ho pins s2 σ H2 x y v u _ I2 r1 r2 q2) fun c s3 ⟨z,H3,I3,r3,k,e,q3⟩=>?_) hm
 subst e
 cases r3
 exact wpAny_truthy_bool ⟨H3,I3,q3⟩
theorem o5:(sizeLine:Nat)<2^63:=by rw[sizeLine_eq];decide
theorem lO:OpR X (binaryOp .Add) (fun x y H Q=>∃ i j,x=.str i/\y=.str j/\i.length+j.length<=sizeLine/\Q (.str (i++j)) H):=by
 intro pins s σ H x y v u Q I rx ry h
 obtain⟨i,j,rfl,rfl,hz,q⟩:=h
 obtain⟨t,rfl⟩:=rx
 obtain⟨t',rfl⟩:=ry
 exact add_str (fun t' tk=>⟨.str (i++j),H,I.tok _,⟨_,rfl⟩,q⟩) hz
theorem lE{x:V}{us:List Value}(r:Vals [x] us):∃ u,us = [u]/\RelV x u:=by
 cases r with
 |cons r1 r2=>cases r2;exact⟨_,rfl,r1⟩
theorem vals2{x y:V}{us:List Value}(r:Vals [x,y] us):∃ u w',us = [u,w']/\RelV x u/\RelV y w':=by
 cases r with
 |cons r1 r2 =>
  cases r2 with
  |cons r3 r4=>cases r4;exact⟨_,_,rfl,r1,r3⟩
theorem G2(hc:X.calm=true):i7 X (.builtin "max") (fun xs H Q=>∃ i j,xs = [.int i,.int j]/\Q (.int (if j > i then j else i)) H):=by
 intro pins s σ H xs us Q I r h
 obtain⟨i,j,rfl,q⟩:=h
 obtain⟨u,w',rfl,⟨t,rfl⟩,⟨t',rfl⟩⟩:=vals2 r
 refine max_two_ints (I.ok.hd hc) fun h' tk k=>⟨_,H,I.kept k,?_,q⟩
 by_cases hj:j > i
 ·rw[if_pos hj,if_pos hj];exact⟨_,rfl⟩
 ·rw[if_neg hj,if_neg hj];exact⟨_,rfl⟩
theorem cD:i7 X (.type "str") (fun xs H Q=>∃ i,xs = [.int i]/\i.natAbs.log2<1920/\Q (.str (toString i)) H):=by
 intro pins s σ H xs us Q I r h
 obtain⟨i,rfl,hz,q⟩:=h
 obtain⟨u,rfl,t,rfl⟩:=lE r
 exact PySem.P.str_of_int hz ⟨.str _,H,I.tok _,⟨_,rfl⟩,q⟩
end
end L2
namespace L2
open PySem PySem.Spec PyProof.Rows
structure ObjM(h:Heap)(x dx C:Addr)(mA:Str->Option Value):Prop where
 obj:h.get? x=some (Nl C dx)
 ns:h.Ns1 dx mA
 ne:dx≠x
theorem FU{h:Heap}{dx:Addr}{mA:Str->Option Value}(n:h.Ns1 dx mA):∃ od,h.get? dx=some od/\∀ name,OM name od=some (mA name):=by
 obtain⟨o,es,ep,ho,hd,hk,_,hm⟩:=n
 refine⟨o,ho,fun name=>?_⟩
 have e:=hm name
 unfold nsFind findBy at e
 rw[← Array.find?_toList]at e
 unfold OM
 rw[hd]
 dsimp only
 split
 ·rename_i y q
  rw[q]at e
  exact congrArg some e
 ·rename_i q
  rw[q]at e
  have a:es.toList.any (·.refKey)=false:=by
   rw[List.any_eq_false]
   intro y hy
   obtain⟨z,t,hkey⟩:=hk y (Array.mem_toList_iff.mp hy)
   simp[DictEntry.refKey,hkey]
  have a':¬ es.toList.any (·.refKey)=true:=by rw[a];exact L8
  rw[if_neg a']
  exact congrArg some e
theorem ObjM.look{h:Heap}{x dx C:Addr}{mA:Str->Option Value}(I:ObjM h x dx C mA):∃ od,PySem.W.InstAt h x (Nl C dx) C (some od)/\∀ name,OM name od=some (mA name) :=
 let ⟨od,ho,hl⟩:=FU I.ns
 ⟨od,⟨I.obj,rfl,rfl,ho⟩,hl⟩
section
variable{prog:Program}{w:World}{A:Around}{E:Value->Shared->Prop}{s:Shared}{K:LA}{x dx C f:Addr}{mA:Str->Option Value}{name:Str}{v:Value}
theorem K0{expr:Bool}{Q:Value->Shared->Prop}(X:K.In s.heap)(I:ObjM s.heap x dx C mA)(hg:Nt K C name=true)(hh:Nz K C=true)
  (ha:Mf K (.ref C) name=some none) (hv:mA name=some v) (hv':PySem.W.handedIn v=true) (h:Q v { s with toks:=s.toks+1 }) :
  wpAny (model prog w) A (getAttr (.ref x) name expr) Q E s:=by
 obtain⟨od,J,hl⟩:=I.look
 exact PySem.W.get_value X J (OO hg).1 (PySem.W.findObj_own hh ha rfl (by rw[hl,hv])) hv' h
theorem IE{pl:Sem Bool}{Q:Value×List Value->Shared->Prop}(X:K.In s.heap)(I:ObjM s.heap x dx C mA)(hg:Nt K C name=true)
  (hf:Mf K (.ref C) name=some (some (.ref f))) (ht:N5 K (.ref f)=true) (hv:mA name=none) (h:Q (.ref f,[.ref x]) s) :
  wpAny (model prog w) A (getMethod (.ref x) name pl) Q E s:=by
 obtain⟨od,J,hl⟩:=I.look
 exact PySem.W.method_fn X J (OO hg).1 (OO hg).2 hf (beq_iff_eq.mp ht) (by show(OM name od).map (·.isSome)=some false;rw[hl,hv];rfl) h
theorem J2{ns:List Str}{Q:Unit->Shared->Prop}(X:K.In s.heap)(I:ObjM s.heap x dx C mA)
  (hs:Mf K (.ref C) "__setattr__" = some (some (.builtin "object.__setattr__"))) (hp:NX K C=true) (ht:O1 K C name=some none) (hh:Nz K C=true)
  (hw:PySem.Within mA ns) (hsz:ns.length<=sizeLine)
  (h:∀ h',ObjM h' x dx C (fun y=>if y=name then some v else mA y)->Heap.SameBut dx s.heap h'->Q () { s with heap:=h',toks:=s.toks+2 }) :
  wpAny (model prog w) A (setAttr (.ref x) name v) Q E s:=by
 obtain⟨od,J,hl⟩:=I.look
 refine PySem.W.set_plain X J hs (PySem.W.osa_open (s:={ s with toks:=s.toks+1 }) (r:=none) X J hp ht fun b=>?_)
 obtain⟨cd,hc,hd'⟩:=PySem.W.any_some hh
 have hx:s.heap.get? x=some ⟨.ref C,some dx,.plain,#[]⟩:=I.obj
 refine wpAny_bind (wpAny_pure (wpAny_bind (wpAny_bind (wpAny_loadPart hx (wpAny_bind (PySem.W.Looks.here (s:={ s with toks:=s.toks+1 }) (PySem.W.looks_clsIn X hc) ?_))))))
 rw[hd']
 refine wpAny_pure (a:=some dx) (wpAny_bind (wpAny_pure (wpAny_bind ?_)))
 refine wpAny_nsSet1 (s:={ s with toks:=s.toks+1 }) I.ns fun h' hn2 hs2=>?_
 obtain⟨oD,esD,epD,hoD,hdD,hcD⟩:=hn2.count (PySem.Within.cons name v hw)
 refine wpAny_bind (wpAny_lookBehind hoD (by rw[hdD];exact pastItsLine_dict (MB hcD (by rw[Mb];omega))) ?_)
 exact wpAny_pure (h _ ⟨(hs2.2 _ (Ne.symm I.ne)).trans I.obj,hn2,I.ne⟩ hs2)
theorem Il{R:Result->Shared->Prop}{vs:List Value}{kw:List (Str×Value)}(X:K.In s.heap)(hm:Of K C=true)
  (hi:Mf K (.ref C) "__init__" = some (some (.ref f))) (hf:PySem.W.typeIn K (.ref f)=some (.type "function"))
  (h:codeAny (model prog w) (A.under (.builtin "type.__call__" ⟨.ref C::vs,kw⟩)) (.call (.ref f) ⟨.ref (s.heap.objs.size+1)::vs,kw⟩) (PySem.W.InitBack (s.heap.objs.size+1) R)
   { s with heap:=(s.heap.push M3).push (Nl C s.heap.objs.size) }) :
  codeAny (model prog w) A (.call (.ref C) ⟨vs,kw⟩) R s:=by
 obtain⟨hh,g,d,t,os⟩:=s
 exact PySem.W.make_core (PySem.W.makes_of X hm) (PySem.W.looks_findIn X hi) (fun self=>PySem.W.bind_fn X self hf) (.inl rfl) h
end
def putF(f:Str)(v:V):List (Str×V)->List (Str×V)
 |[]=>[(f,v)]
 | (g,x)::r=>if g=f then(g,v)::r else(g,x)::putF f v r
theorem aC(f g:Str)(v:V):∀ fs:List (Str×V),(putF f v fs).lookup g=if g=f then some v else fs.lookup g
 |[]=>by
  show Oh g [(f,v)]=_
  by_cases h:g=f
  ·have hb:(g == f)=true:=beq_iff_eq.mpr h
   simp only[Oh,hb,if_pos h]
  ·have hb:(g == f)=false:=beq_eq_false_iff_ne.mpr h
   simp only[Oh,hb,if_neg h]
 | (k,x)::r=>by
  have ih:=aC f g v r
  rw[show putF f v ((k,x)::r)=(if k=f then(k,v)::r else(k,x)::putF f v r) from rfl]
  by_cases hk:k=f
  ·rw[if_pos hk]
   by_cases h:g=k
   ·have hb:(g == k)=true:=beq_iff_eq.mpr h
    simp only[Oh,hb,if_pos (h.trans hk)]
   ·have hb:(g == k)=false:=beq_eq_false_iff_ne.mpr h
    simp only[Oh,hb,if_neg (fun e:g=f=>h (e.trans hk.symm))]
  ·rw[if_neg hk]
   by_cases h:g=k
   ·have hb:(g == k)=true:=beq_iff_eq.mpr h
    simp only[Oh,hb,if_neg (fun e:g=f=>hk (h.symm.trans e))]
   ·have hb:(g == k)=false:=beq_eq_false_iff_ne.mpr h
    simp only[Oh,hb]
    exact ih
theorem pA(f:Str)(v:V):∀ fs:List (Str×V),f∈(putF f v fs).map (·.1)/\∀ g,g∈fs.map (·.1)->g∈(putF f v fs).map (·.1)
 |[]=>⟨by simp[putF],fun g h=>by simp at h⟩
 | (k,x)::r=>by
  obtain⟨i1,i2⟩:=pA f v r
  rw[show putF f v ((k,x)::r)=(if k=f then(k,v)::r else(k,x)::putF f v r) from rfl]
  by_cases hk:k=f
  ·rw[if_pos hk]
   subst hk
   exact⟨by simp,fun g h=>by simpa using h⟩
  ·rw[if_neg hk]
   refine⟨?_,fun g h=>?_⟩
   ·rw[Mc]
    exact LK _ i1
   ·rw[Mc]at h ⊢
    rcases LC.mp h with e | e
    ·exact LC.mpr (.inl e)
    ·exact LK _ (i2 g e)
theorem o6(f:Str)(v:V):∀ fs:List (Str×V),(putF f v fs).length<=fs.length+1
 |[]=>by simp[putF]
 | (k,x)::r=>by
  have ih:=o6 f v r
  rw[show putF f v ((k,x)::r)=(if k=f then(k,v)::r else(k,x)::putF f v r) from rfl]
  by_cases hk:k=f
  ·rw[if_pos hk,Mb,Mb];omega
  ·rw[if_neg hk,Mb,Mb];omega
theorem RelO.some_of{v:V}{o:Option Value}(r:RelO (some v) o):∃ u,o=some u/\RelV v u:=by
 cases o with
 |none=>exact(show False from r).elim
 |some u=>exact⟨u,rfl,r⟩
theorem RelO.none_of{o:Option Value}(r:RelO none o):o=none:=by
 cases o with
 |none=>rfl
 |some u=>exact(show False from r).elim
theorem Gk{v:V}{u:Value}(r:RelV v u):PySem.W.handedIn u=true:=by
 cases v with
 |non=>cases (show u=Value.none from r);rfl
 |bl b=>cases (show u=Value.bool b from r);rfl
 |int i=>obtain⟨t,e⟩:=(show ∃ t,u=Value.int i t from r);cases e;rfl
 |str x=>obtain⟨t,e⟩:=(show ∃ t,u=Value.str x t from r);cases e;rfl
 |byt b=>obtain⟨t,e⟩:=(show ∃ t,u=Value.bytes b t from r);cases e;rfl
 |flt b=>obtain⟨t,e⟩:=(show ∃ t,u=Value.float b t from r);cases e;rfl
 |ref a=>cases (show u=Value.ref a from r);rfl
 |ty n=>cases (show u=Value.type n from r);rfl
section
variable{P:Program}{w:World}{H H':Hp}{h h':Heap}{a C dx:Addr}{fs fs':List (Str×V)}
theorem uJ(hok:HOk P w H h)(e:H a=some (.ins C dx fs)):∃ mA,ObjM h a dx C mA/\(∀ f,RelO (fs.lookup f) (mA f))/\PySem.Within mA (fs.map (·.1))/\fs.length<=1000/\H dx=some (.own a):=by
 obtain⟨d,z,ne,ob,mA,n,r,q⟩:=(show bT P w H h a (.ins C dx fs) from hok a _ e)
 exact⟨mA,⟨ob,n,ne⟩,r,q,z,d⟩
end
structure Cls(K:LA)(C:Addr):Prop where
 pg:Nt K C Str.empty=true
 hd:Nz K C=true
 po:NX K C=true
 sa:Mf K (.ref C) "__setattr__" = some (some (.builtin "object.__setattr__"))
theorem Cls.get{K:LA}{C:Addr}(c:Cls K C)(f:Str):Nt K C f=true:=c.pg
def ft(K:LA)(C:Addr)(f:Str):Prop:=Mf K (.ref C) f=some none
theorem ft.taker{K:LA}{C:Addr}{f:Str}(n:ft K C f):O1 K C f=some none:=by
 unfold O1
 rw[show Mf K (.ref C) f=some none from n]
 rfl
structure Meth(K:LA)(C:Addr)(m:Str)(f:Addr):Prop where
 at_:Mf K (.ref C) m=some (some (.ref f))
 fn:N5 K (.ref f)=true
 kp:LP K (.ref f)=true
section
variable{X:Cx}{pins:List (Addr×Obj)}{σ:St}{H:Hp}{s:Shared}{a C dx:Addr}{fs:List (Str×V)}{f:Str}{v:V}{A:Around}{E:Value->Shared->Prop}
theorem DR{b:Bool}{Q:Value->Shared->Prop}(I:Inv X pins σ H s)(e:H a=some (.ins C dx fs))(c:Cls X.K C)(n:ft X.K C f)(l:fs.lookup f=some v)
  (h:∀ u s',Inv X pins σ H s'->RelV v u->Q u s'):wpAny (model X.prog X.w) A (getAttr (.ref a) f b) Q E s:=by
 obtain⟨mA,O,r,_,_,_⟩:=uJ I.hok e
 obtain⟨u,hu,ru⟩:=RelO.some_of (v:=v) (o:=mA f) (by rw[← l];exact r f)
 exact K0 I.kIn O (c.get f) c.hd n hu (Gk ru) (h u _ (I.tok _) ru)
theorem DQ{m:Str}{g:Addr}{pl:Sem Bool}{Q:Value×List Value->Shared->Prop}(I:Inv X pins σ H s)(e:H a=some (.ins C dx fs))(c:Cls X.K C)(k:Meth X.K C m g)(l:fs.lookup m=none)
  (h:Q (.ref g,[.ref a]) s):wpAny (model X.prog X.w) A (getMethod (.ref a) m pl) Q E s:=by
 obtain⟨mA,O,r,_,_,_⟩:=uJ I.hok e
 have hn:mA m=none:=RelO.none_of (by rw[← l];exact r m)
 exact IE I.kIn O (c.get m) k.at_ k.fn hn h
theorem C2{y:V}{u:Value}{Q:Unit->Shared->Prop}(I:Inv X pins σ H s)(e:H a=some (.ins C dx fs))(c:Cls X.K C)(n:ft X.K C f)(hl:fs.length<1000)(ry:RelV y u)
  (h:∀ s',Inv X pins σ (upd H a (.ins C dx (putF f y fs))) s'->Q () s'):wpAny (model X.prog X.w) A (setAttr (.ref a) f u) Q E s:=by
 obtain⟨mA,O,r,wi,_,ho⟩:=uJ I.hok e
 have hz:(fs.map (·.1)).length<=sizeLine:=by rw[LB,sizeLine_eq];omega
 refine J2 I.kIn O c.sa c.po n.taker c.hd wi hz fun h' O' sb=>h _ ?_
 have hd:∃ o,h'.get? dx=some o:=let ⟨o,_,_,e',_⟩:=O'.ns;⟨o,e'⟩
 refine I.write (x:=a) (e:=dx) (by rw[e];exact True.intro) (.inr ho) (fun b q hb z=>(sb.2 b hb).trans z) hd ?_
 refine⟨by rw[au O.ne];exact ho,?_,O.ne,O'.obj,_,O'.ns,fun g=>?_,fun g hg=>?_⟩
 ·have:=o6 f y fs;omega
 ·show RelO ((putF f y fs).lookup g) (if g=f then some u else mA g)
  rw[aC]
  by_cases q:g=f
  ·rw[if_pos q,if_pos q];exact ry
  ·rw[if_neg q,if_neg q];exact r g
 ·by_cases q:g=f
  ·rw[q];exact(pA f y fs).1
  ·refine(pA f y fs).2 g (wi g fun z=>hg ?_)
   show(if g=f then some u else mA g)=none
   rw[if_neg q];exact z
theorem Inv.made(I:Inv X pins σ H s):Inv X pins σ (upd (upd H s.heap.objs.size (.own (s.heap.objs.size+1))) (s.heap.objs.size+1) (.ins C s.heap.objs.size []))
  { s with heap:=(s.heap.push M3).push (Nl C s.heap.objs.size) }:=by
 have e1:(s.heap.push M3).get? s.heap.objs.size=some M3:=Heap.get?_push_size s.heap rfl
 have e2:((s.heap.push M3).push (Nl C s.heap.objs.size)).get? (s.heap.objs.size+1)=some (Nl C s.heap.objs.size):=by
  have:=Heap.get?_push_size (s.heap.push M3) (o:=Nl C s.heap.objs.size) rfl
  rwa[Heap.size_push]at this
 have e3:(s.heap.push M3).Ns s.heap.objs.size (fun _=>none):=⟨M3,#[],_,e1,rfl,(fun e he=>absurd he (by simp)),fun _=>rfl⟩
 have I1:=I.laid (a:=s.heap.objs.size) (o:=.own (s.heap.objs.size+1)) (h':=s.heap.push M3) (t':=s.toks) (fun b u q=>Heap.get?_push_of_some _ q) (LG _) ⟨_,e1⟩
 refine I1.laid (a:=s.heap.objs.size+1) (o:=.ins C s.heap.objs.size []) (t':=s.toks) (fun b u q=>Heap.get?_push_of_some _ q) (Nat.le_of_eq (Heap.size_push _ _)) ?_
 have ne:s.heap.objs.size≠s.heap.objs.size+1:=Mt (NK _)
 refine⟨by rw[au ne,ae],MQ _,ne,e2,fun _=>none,(Heap.Ns1.of_empty e3).at fun o q=>Heap.get?_push_of_some _ q,fun _=>True.intro,fun y hy=>absurd rfl hy⟩
theorem Lo{prog:Program}{w:World}{env:Env}{e:Expr}{f:Str}{pos:Pos}{s:Shared}{Q:Value->Shared->Prop}(hb:attributeBase e f env (eval e env)=eval e env)
  (h:wpAny (model prog w) A (eval e env) (fun o s₁=>wpAny (model prog w) A (getAttr o f true) Q E s₁) E s):wpAny (model prog w) A (eval (.Attribute e f pos) env) Q E s :=
 Attribute_any_ h (by rw[arm_eval_Attribute,hb])
end
def tFld(K:LA)(ta:TE)(f:Str):TE:=fun σ H Q=>ta σ H fun x H1=>∃ a C dx fs v,x=.ref a/\H1 a=some (.ins C dx fs)/\Cls K C/\ft K C f/\fs.lookup f=some v/\Q v H1
def sFld(K:LA)(ta tv:TE)(f:Str):TS:=fun D σ H=>tv σ H fun y H1=>ta σ H1 fun x H2=>∃ a C dx fs,x=.ref a/\H2 a=some (.ins C dx fs)/\Cls K C/\ft K C f/\fs.length<1000 /\
 D.nx σ (upd H2 a (.ins C dx (putF f y fs)))
section
variable{X:Cx}{o e value:Expr}{f:Str}{pos pos' tpos:Pos}{ta tv:TE}
theorem bE(he:PE X e ta)(hb:attributeBase e f X.env (eval e X.env)=eval e X.env):PE X (.Attribute e f pos) (tFld X.K ta f):=by
 intro pins s σ H Q I h
 refine Lo hb (thn (he pins s σ H _ I h) fun u s1 ⟨x,H1,I1,rx,a,C,dx,fs,v,ex,ea,c,n,l,q⟩=>?_)
 subst ex
 obtain rfl:u=Value.ref a:=rx
 exact DR I1 ea c n l fun u' s2 I2 ru=>⟨v,H1,I2,ru,q⟩
theorem m9(ha:PE X o ta)(hv:PE X value tv)(hs:swapsWith value (some (.Attribute o f pos')) pos.line X.env=pure false):PS X (.Assign [.Attribute o f pos'] value pos) (sFld X.K ta tv f):=by
 intro pins s σ H D I h
 refine plainObj_wpAny_Assign_Attribute (thn (hv pins s σ H _ I h) fun u s1 ⟨y,H1,I1,ry,q⟩=>thn (ha pins s1 σ H1 _ I1 q) fun ov s2 ⟨x,H2,I2,rx,a,C,dx,fs,ex,ea,c,n,l,q2⟩=>?_) hs
 subst ex
 obtain rfl:ov=Value.ref a:=rx
 exact C2 I2 ea c n l ry fun s3 I3=>⟨σ,_,I3,q2⟩
end
section
variable{X:Cx}{pins:List (Addr×Obj)}{σ:St}{H:Hp}{s:Shared}{A:Around}{E:Value->Shared->Prop}{Q:Value->Shared->Prop}{c:Value}{b:Bool}
inductive TyOf(K:LA)(H:Hp):V->Value->Prop where
 |non:TyOf K H .non (.type "NoneType")
 |bl (x:Bool):TyOf K H (.bl x) (.type "bool")
 |int (i:Int):TyOf K H (.int i) (.type "int")
 |str (x:Str):TyOf K H (.str x) (.type "str")
 |flt (x:UInt64):TyOf K H (.flt x) (.type "float")
 |lst {a:Addr} {xs:List V} (e:H a=some (.lst xs)):TyOf K H (.ref a) (.type "list")
 |frz {a:Addr} {o:Obj} {xs:List V} (e:H a=some (.frz o (.lst xs))):TyOf K H (.ref a) (.type "list")
 |tup {a:Addr} {xs:List V} (e:H a=some (.tup xs)):TyOf K H (.ref a) (.type "tuple")
 |dK {a:Addr} {kvs:List (Key×V)} (e:H a=some (.dK kvs)):TyOf K H (.ref a) (.type "dict")
 |dT {a:Addr} {kvs:List (List Key×V)} (e:H a=some (.dT kvs)):TyOf K H (.ref a) (.type "dict")
 |ins {a C dx:Addr} {fs:List (Str×V)} (e:H a=some (.ins C dx fs)) (cl:Cls K C) (ha:Mf K (.ref C) "__class__" = some (some (.builtin "object.__class__")))
   (hn:OR K (.builtin "object.__class__") "__get__" = some (some (.builtin "getset_descriptor.__get__"))) (htk:O0 K (.builtin "object.__class__")=some true)
   (hm:Ob K C (.type "object")=some true):TyOf K H (.ref a) (.ref C)
theorem F5{x:V}{u t:Value}(I:Inv X pins σ H s)(rx:RelV x u)(ty:TyOf X.K H x t)(e:MK X.K t c=some b)(h:∀ tk,Q (.bool b) { s with toks:=tk }) :
  wpAny (model X.prog X.w) A (call (.builtin "isinstance") [u,c]) Q E s:=by
 cases ty with
 |non=>cases (show u=Value.none from rx);exact M0 PySem.W.kitx_none I.kIn True.intro e (fun z=>nomatch z) h
 |bl y=>cases (show u=Value.bool y from rx);exact M0 PySem.W.kitx_bool I.kIn True.intro e (fun z=>nomatch z) h
 |int i=>obtain⟨t,q⟩:=(show ∃ t,u=Value.int i t from rx);cases q;exact M0 PySem.W.kitx_int I.kIn True.intro e (fun z=>nomatch z) h
 |str y=>obtain⟨t,q⟩:=(show ∃ t,u=Value.str y t from rx);cases q;exact M0 PySem.W.kitx_str I.kIn True.intro e (fun z=>nomatch z) h
 |flt y=>obtain⟨t,q⟩:=(show ∃ t,u=Value.float y t from rx);cases q;exact M0 PySem.W.kitx_float I.kIn True.intro e (fun z=>nomatch z) h
 | @lst a xs ea =>
  cases (show u=Value.ref a from rx)
  obtain⟨_,_,n,_,h1⟩:=(show bT X.prog X.w H s.heap a (.lst xs) from I.hok a _ ea)
  exact M0 PySem.W.kitx_list I.kIn ⟨_,h1,rfl⟩ e (fun z=>nomatch z) h
 | @frz a ob xs ea =>
  cases (show u=Value.ref a from rx)
  obtain⟨_,_,_,n,_,h1⟩:=(show bT X.prog X.w H s.heap a (.frz ob (.lst xs)) from I.hok a _ ea)
  exact M0 PySem.W.kitx_list I.kIn ⟨_,h1,rfl⟩ e (fun z=>nomatch z) h
 | @tup a xs ea =>
  cases (show u=Value.ref a from rx)
  obtain⟨_,_,_,p⟩:=(show bT X.prog X.w H s.heap a (.tup xs) from I.hok a _ ea)
  obtain⟨o,h1,h2,_⟩:=p
  exact M0 PySem.W.kitx_tuple I.kIn ⟨o,h1,h2⟩ e (fun z=>nomatch z) h
 | @dK a kvs ea =>
  cases (show u=Value.ref a from rx)
  obtain⟨_,_,vs,_,p⟩:=(show bT X.prog X.w H s.heap a (.dK kvs) from I.hok a _ ea)
  obtain⟨o,es,ep,h1,h2,_⟩:=p
  exact M0 PySem.W.kitx_dict I.kIn ⟨o,h1,h2.1⟩ e (fun z=>nomatch z) h
 | @dT a kvs ea =>
  cases (show u=Value.ref a from rx)
  obtain⟨_,_,xs,_,o,es,ep,h1,h2,_⟩:=(show bT X.prog X.w H s.heap a (.dT kvs) from I.hok a _ ea)
  exact M0 PySem.W.kitx_dict I.kIn ⟨o,h1,h2.1⟩ e (fun z=>nomatch z) h
 | @ins a C dx fs ea cl ha hn htk hm =>
  cases (show u=Value.ref a from rx)
  obtain⟨mA,O,_⟩:=uJ I.hok ea
  obtain⟨od,J,_⟩:=O.look
  exact M0 (PySem.W.kitx_own (cl.get _) cl.hd ha hn htk hm) I.kIn J e (fun z=>nomatch z) h
end
end L2
namespace L2
open PySem PySem.Spec PyProof.Rows
structure Room(k:Nat)(A:Around):Prop where
 hd:A.handled=none
 dp:A.depth+3*k+5<recursionLimit
 un:A.units+16*k+200<cLine
theorem Room.mono{j k:Nat}{A:Around}(r:Room k A)(h:j<=k):Room j A:=⟨r.hd,by have:=r.dp;omega,by have:=r.un;omega⟩
theorem Room.deeper{k:Nat}{A:Around}(r:Room (k+1) A)(env:Env):Room k (A.deeper env) :=
 ⟨r.hd,by have:=r.dp;show A.depth+1+3*k+5<_;omega,by have:=r.un;show A.units+3+16*k+200<_;omega⟩
theorem Dy{A:Around}{C:Addr}{us:List Value}{kw:List (Str×Value)}:(A.under (.builtin "type.__call__" ⟨.ref C::us,kw⟩)).depth=A.depth+1:=by
 first | rfl | simp[Around.under,Code.weight,Code.isCreation,Code.isGuard,Code.isCaller,Code.frames,Code.isFrame,guardIds]
theorem Dx{A:Around}{C:Addr}{us:List Value}{kw:List (Str×Value)}:(A.under (.builtin "type.__call__" ⟨.ref C::us,kw⟩)).units=A.units+1:=by
 first | rfl | simp[Around.under,Code.cUnits,Code.frames,Code.isFrame]
theorem Room.make{k:Nat}{A:Around}(r:Room (k+1) A)(C:Addr)(us:List Value)(kw:List (Str×Value)):Room k (A.under (.builtin "type.__call__" ⟨.ref C::us,kw⟩)) :=
 ⟨r.hd,by have:=r.dp;rw[Dy];omega,by have:=r.un;rw[Dx];omega⟩
theorem Room.depth{k:Nat}{A:Around}(r:Room k A):A.depth<recursionLimit:=by have:=r.dp;omega
theorem Room.units{k:Nat}{A:Around}(r:Room k A):A.units+64<cLine:=by have:=r.un;omega
def tNil:TA:=fun _ H Q=>Q [] H
def yP(ta:TE)(tr:TA):TA:=fun σ H Q=>ta σ H fun x H1=>tr σ H1 fun xs H2=>Q (x::xs) H2
section
variable{X:Cx}{e:Expr}{es:List Expr}{te:TE}{t:TA}{pos:Pos}
theorem ag:PA X [] tNil:=fun _ _ _ _ H Q I h=>Calls.spliced_nil ⟨[],H,I,.nil,h⟩
theorem aa(ha:PE X e te)(hr:PA X es t)(hs:starEach (e::es) X.env=(false,eval e X.env)::starEach es X.env:=by rfl):PA X (e::es) (yP te t):=by
 intro pos pins s σ H Q I h
 rw[hs]
 show wpAny _ _ (spliced ((false,eval e X.env)::backTo pos (starEach es X.env))) _ _ s
 refine Calls.spliced_cons (thn (ha pins s σ H _ I h) fun u s1 ⟨x,H1,I1,r1,q1⟩=>?_)
 exact thn (hr pos pins s1 σ H1 _ I1 q1) fun us s2 ⟨xs,H2,I2,r2,q2⟩=>⟨x::xs,H2,I2,.cons r1 r2,q2⟩
def tTup(t:TA):TE:=fun σ H Q=>t σ H fun xs H1=>xs.length<=sizeLine/\∀ p,H1 p=none->Q (.ref p) (upd H1 p (.tup xs))
def tLst(t:TA):TE:=fun σ H Q=>t σ H fun xs H1=>xs.length<=sizeLine/\∀ p,H1 p=none->Q (.ref p) (upd H1 p (.lst xs))
theorem gU{x1}(h:PA X es t):PE X (.Tuple es x1 pos) (tTup t):=by
 intro pins s σ H Q I hq
 refine wpAny_Tuple_spliced (thn (h pos pins s σ H _ I hq) fun us s1 ⟨xs,H1,I1,r,z,q⟩=>⟨by rw[← r.length];exact z,?_⟩)
 have hf:H1 s1.heap.objs.size=none:=I1.hok.fresh (LG _)
 refine⟨.ref s1.heap.objs.size,upd H1 s1.heap.objs.size (.tup xs),I1.laid (t':=s1.toks) (fun b u e=>Heap.get?_push_of_some _ e) (LG _) ?_,rfl,q _ hf⟩
 exact⟨z,us,r,⟨_,Heap.get?_push_size _ rfl,rfl,_,rfl⟩⟩
theorem bu(h:PA X es t):PE X (.List es pos) (tLst t):=by
 intro pins s σ H Q I hq
 refine wpAny_List_spliced (thn (h pos pins s σ H _ I hq) fun us s1 ⟨xs,H1,I1,r,z,q⟩=>⟨by rw[← r.length];exact z,?_⟩)
 have hf:H1 s1.heap.objs.size=none:=I1.hok.fresh (LG _)
 refine⟨.ref s1.heap.objs.size,upd H1 s1.heap.objs.size (.lst xs),I1.laid (t':=s1.toks) (fun b u e=>Heap.get?_push_of_some _ e) (LG _) ?_,rfl,q _ hf⟩
 exact⟨z,us,0,r,Heap.get?_push_size _ rfl⟩
end
abbrev Sp:=List V->Hp->VK->XK->Prop
abbrev CXT:=List Env->Hp->Shared->XK->Value->Shared->Prop
structure Env0(P:Program)(w:World)(K:LA)(mg:Str->Option Value)(base:Heap)(A:Around)(outer:List Env)(s:Shared)(H:Hp):Prop where
 frames:A.frames=some outer
 mod:Mod K mg base
 bs:∀ b o,base.get? b=some o->s.heap.get? b=some o/\H b=none
 bsz:base.objs.size<=s.heap.objs.size
 funs:s.heap.FunFrames base outer
 frf:∀ b∈frs outer,H b=none
 hok:HOk P w H s.heap
 bare:AllBare s.gens
def CE(outer:List Env)(P:Program)(w:World)(H:Hp)(s:Shared)(Q:VK)(u:Value)(s':Shared):Prop :=
 ∃ v H',s'.os=s.os/\AllBare s'.gens/\Un (frs outer) [] H H' s.heap s'.heap/\HOk P w H' s'.heap/\RelV v u/\Q v H'
def CR(CX:CXT)(outer:List Env)(P:Program)(w:World)(H:Hp)(s:Shared)(Q:VK)(E:XK)(r:Result)(s':Shared):Prop :=
 match r with
 |.ok (.ret u)=>CE outer P w H s Q u s'
 |.ok _=>False
 |.error e=>CX outer H s E e s'
structure FnOk(P:Program)(w:World)(K:LA)(mg:Str->Option Value)(base:Heap)(CX:CXT)(k:Nat)(f:Addr)(fd:FuncData)(ps:List Str)(sp:Sp):Prop where
 len:∀ vs H Q E,sp vs H Q E->vs.length=ps.length
 run:∀(A:Around)(outer:List Env)(s:Shared)(H:Hp)(args:Args)(us:List Value)(vs:List V)(Q:VK)(E:XK),Room k A->Env0 P w K mg base A outer s H->BindsTo s fd args (ps.zip us)->Vals vs us->sp vs H Q E ->
  codeAny (model P w) A (.call (.ref f) args) (CR CX outer P w H s Q E) s
theorem Env0.make{P:Program}{w:World}{K:LA}{mg:Str->Option Value}{base:Heap}{A:Around}{outer:List Env}{s:Shared}{H:Hp}(e:Env0 P w K mg base A outer s H)(C:Addr)(us:List Value)(kw:List (Str×Value)) :
  Env0 P w K mg base (A.under (.builtin "type.__call__" ⟨.ref C::us,kw⟩)) outer s H:=⟨by first | exact e.frames | (simpa[Around.under,Code.envs,Code.isFrame,pushEnvs] using e.frames),e.mod,e.bs,e.bsz,e.funs,e.frf,e.hok,e.bare⟩
section
variable{X:Cx}{pins:List (Addr×Obj)}{σ:St}{H:Hp}{s s':Shared}
theorem Inv.env0(I:Inv X pins σ H s):Env0 X.prog X.w X.K X.mg X.base X.A X.stack s H :=
 ⟨I.ok.frames,I.ok.mod,I.bs,MB I.ok.bsz I.sz,I.stack,I.stkFree,I.hok,I.bare⟩
theorem Inv.after{Q:VK}{u:Value}(I:Inv X pins σ H s)(h:CE X.stack X.prog X.w H s Q u s'):EP X pins σ Q u s':=by
 obtain⟨v,H',os,bare,un,hok,r,q⟩:=h
 obtain⟨hh,g,d,t,os'⟩:=s'
 obtain rfl:os'=s.os:=os
 exact⟨v,H',I.call (h':=hh) (g':=g) (d':=d) (t':=t) (ch:=[]) un hok bare (fun b z=>absurd z (by simp)),r,q⟩
end
def tCall(sp:Sp)(dvs:List V)(E:XK)(t:TA):TE:=fun σ H Q=>t σ H fun vs H1=>sp (vs++dvs) H1 Q E
def tMeth(C:Addr)(m:Str)(sp:Sp)(dvs:List V)(E:XK)(ta:TE)(t:TA):TE:=fun σ H Q=>ta σ H fun x H1=>∃ a dx fs,x=.ref a/\H1 a=some (.ins C dx fs)/\fs.lookup m=none /\
 t σ H1 fun vs H2=>sp (x::(vs++dvs)) H2 Q E
def tMake(C:Addr)(sp:Sp)(dvs:List V)(E:XK)(t:TA):TE:=fun σ H Q=>t σ H fun vs H1=>∀ x dx,H1 x=none->H1 dx=none->dx≠x ->
 sp (.ref x::(vs++dvs)) (upd (upd H1 dx (.own x)) x (.ins C dx [])) (fun v H2=>v=.non/\Q (.ref x) H2) E
def qz(K:LA)(fd:FuncData)(ps:List Str)(ds:List Value):Prop :=
 ∀(s:Shared)(us:List Value),K.In s.heap->(us++ds).length=ps.length->BindsTo s fd ⟨us,[]⟩ (ps.zip (us++ds))
theorem qz.all{K:LA}{fd:FuncData}{ps:List Str}(h:∀ us:List Value,us.length=ps.length->bindArgs fd ⟨us,[]⟩=pure (ps.zip us)):qz K fd ps []:=fun s us _ hl=>by
 rw[Na]at hl ⊢
 exact .of_eq (h us hl)
def rH(CX:CXT)(X:Cx)(E:XK):Prop:=∀(pins:List (Addr×Obj))(σ:St)(H:Hp)(s:Shared)(e:Value)(s':Shared),Inv X pins σ H s->CX X.stack H s E e s'->X.xe e s'
section
variable{X:Cx}{CX:CXT}{k:Nat}{f C:Addr}{fd:FuncData}{ps:List Str}{sp:Sp}{dvs:List V}{ds:List Value}{E:XK}{x m:Str}{p pos apos:Pos}{e o:Expr}{es:List Expr}{ta:TE}{t:TA}
theorem Jf{pins:List (Addr×Obj)}{σ:St}{H:Hp}{s:Shared}{Q:VK}{us:List Value}{vs:List V}(F:FnOk X.prog X.w X.K X.mg X.base CX k f fd ps sp)(hr:Room k X.A)(hb:qz X.K fd ps ds)(hd:Vals dvs ds)(hx:rH CX X E)
  (I:Inv X pins σ H s) (r:Vals vs us) (h:sp (vs++dvs) H Q E):wpAny (model X.prog X.w) X.A (call (.ref f) us) (EP X pins σ Q) X.xe s:=by
 have r2:Vals (vs++dvs) (us++ds):=r.append hd
 have hl:(us++ds).length=ps.length:=by rw[← r2.length];exact F.len _ _ _ _ h
 refine wpAny_call (codeAny_mono (F.run X.A X.stack s H ⟨us,[]⟩ (us++ds) (vs++dvs) Q E hr I.env0 (hb s us I.kIn hl) r2 h) fun r s' hq=>?_)
 cases r with
 |error e=>exact hx pins σ H s e s' I hq
 |ok fl =>
  cases fl with
  |ret u=>exact I.after hq
  |next=>exact False.elim hq
  |brk=>exact False.elim hq
  |cont=>exact False.elim hq
theorem ax(F:FnOk X.prog X.w X.K X.mg X.base CX k f fd ps sp)(hr:Room k X.A)(hg:Gl X x)(hm:X.mg x=some (.ref f))(hk:LP X.K (.ref f)=true)(hb:qz X.K fd ps ds)(hd:Vals dvs ds)(hx:rH CX X E)
  (ha:PA X (e::es) t) (hdb:(x == ("__debug__" : Str))=false:=by decide) (he:starEach (e::es) X.env=(false,eval e X.env)::starEach es X.env:=by rfl) (hpl:(backTo pos (starEach es X.env)).any (·.1)=false:=by rfl) :
  PE X (.Call (.Name x p) (e::es) [] pos) (tCall sp dvs E t):=by
 intro pins s σ H Q I h
 refine wpAny_Call_Name_kw (Au I hg hm ?_ hdb)
 refine PySem.W.callWith_K (h₀:=X.base) I.ok.mod.kin hk (thn (ha pos pins s σ H _ I h) fun us s1 ⟨vs,H1,I1,r,q⟩=>⟨I1.kIn,?_⟩) he hpl
 exact Jf F hr hb hd hx I1 r q
theorem B0{pl:Sem Bool}(he:PE X o ta)(c:Cls X.K C)(hm:Meth X.K C m f)(F:FnOk X.prog X.w X.K X.mg X.base CX k f fd ps sp)(hr:Room k X.A)(hb:qz X.K fd ps ds)(hd:Vals dvs ds)(hx:rH CX X E)
  (ht:eval (.Call (.Attribute o m apos) [] [] pos) X.env=(do
   let ov ← eval o X.env
   standAt apos.atName
   let (f,first) ← holding [ov] (getMethod ov m pl)
   callWith pos f first (backTo pos (starEach [] X.env)) (backToKw pos (keywordEach [] X.env))):=by rfl) :
  PE X (.Call (.Attribute o m apos) [] [] pos) (tMeth C m sp dvs E ta tNil):=by
 intro pins s σ H Q I h
 refine PySem.W.methodCall_KW (pl:=pl) (thn (he pins s σ H _ I h) fun u s1 ⟨x,H1,I1,rx,a,dx,fs,ex,ea,l,q⟩=>?_) ht
 subst ex
 obtain rfl:u=Value.ref a:=rx
 refine DQ I1 ea c hm l ?_
 exact PySem.W.callWith_K0 (first:=[.ref a]) I1.kIn hm.kp (Jf (us:=[.ref a]) (vs:=[.ref a]) F hr hb hd hx I1 (.cons rfl .nil) q)
structure Mk(K:LA)(C f:Addr):Prop where
 makes:Of K C=true
 init:Mf K (.ref C) "__init__" = some (some (.ref f))
 fn:N5 K (.ref f)=true
 kp:LP K (.ref C)=true
theorem HF{pins:List (Addr×Obj)}{σ:St}{H:Hp}{s:Shared}{Q:VK}{us:List Value}{vs:List V}(M:Mk X.K C f)(F:FnOk X.prog X.w X.K X.mg X.base CX k f fd ps sp)(hr:Room (k+1) X.A)(hb:qz X.K fd ps ds)(hd:Vals dvs ds)
  (hx:rH CX X E) (I:Inv X pins σ H s) (r:Vals vs us)
  (h:∀ x dx,H x=none->H dx=none->dx≠x->sp (.ref x::(vs++dvs)) (upd (upd H dx (.own x)) x (.ins C dx [])) (fun v H2=>v=.non/\Q (.ref x) H2) E) :
  wpAny (model X.prog X.w) X.A (call (.ref C) us) (EP X pins σ Q) X.xe s:=by
 have hq:=h (s.heap.objs.size+1) s.heap.objs.size (I.hok.fresh (Ni _)) (I.hok.fresh (LG _)) (Mt (NK _))
 have I2:=Inv.made (C:=C) I
 have r2:Vals (V.ref (s.heap.objs.size+1)::(vs++dvs)) (Value.ref (s.heap.objs.size+1)::(us++ds)):=.cons rfl (r.append hd)
 have hl:(Value.ref (s.heap.objs.size+1)::us++ds).length=ps.length:=by
  have e:=r2.length
  rw[F.len _ _ _ _ hq]at e
  exact e.symm
 refine wpAny_call (Il (f:=f) I.kIn M.makes M.init (beq_iff_eq.mp M.fn) (codeAny_mono (F.run _ X.stack _ _ ⟨Value.ref (s.heap.objs.size+1)::us,[]⟩ (Value.ref (s.heap.objs.size+1)::(us++ds)) _ _ E (hr.make C us [])
  (I2.env0.make C us []) (hb _ (Value.ref (s.heap.objs.size+1)::us) I2.kIn hl) r2 hq) fun r s' hq'=>?_))
 cases r with
 |error e=>exact hx pins σ _ _ e s' I2 hq'
 |ok fl =>
  cases fl with
  |ret u =>
   obtain⟨v,H',I3,rv,ev,q3⟩:=I2.after hq'
   subst ev
   exact⟨rv,⟨V.ref (s.heap.objs.size+1),H',I3,rfl,q3⟩⟩
  |next=>exact False.elim hq'
  |brk=>exact False.elim hq'
  |cont=>exact False.elim hq'
theorem lN(M:Mk X.K C f)(F:FnOk X.prog X.w X.K X.mg X.base CX k f fd ps sp)(hr:Room (k+1) X.A)(hg:Gl X x)(hm:X.mg x=some (.ref C))(hb:qz X.K fd ps ds)(hd:Vals dvs ds)(hx:rH CX X E)
  (ha:PA X (e::es) t) (hdb:(x == ("__debug__" : Str))=false:=by decide) (he:starEach (e::es) X.env=(false,eval e X.env)::starEach es X.env:=by rfl) (hpl:(backTo pos (starEach es X.env)).any (·.1)=false:=by rfl) :
  PE X (.Call (.Name x p) (e::es) [] pos) (tMake C sp dvs E t):=by
 intro pins s σ H Q I h
 refine wpAny_Call_Name_kw (Au I hg hm ?_ hdb)
 refine PySem.W.callWith_K (h₀:=X.base) I.ok.mod.kin M.kp (thn (ha pos pins s σ H _ I h) fun us s1 ⟨vs,H1,I1,r,q⟩=>⟨I1.kIn,?_⟩) he hpl
 exact HF M F hr hb hd hx I1 r q
end
section
variable{X:Cx}{CX:CXT}{k:Nat}{f C:Addr}{fd:FuncData}{ps ks:List Str}{sp:Sp}{E:XK}{x m:Str}{p pos apos kpos:Pos}{e o:Expr}{es:List Expr}{kws:List Keyword}{te ta:TE}{t tk:TA}{nm:Option Str}
variable{g:List Value->List Value->List Value}{gV:List V->List V->List V}
end
structure aI(N P:List Str)(sc:Scope):Prop where
 kind:sc.kind=.function
 co:sc.isCoroutine=false
 gen:sc.isGenerator=false
 nd:N.Nodup
 pre:N.take P.length=P
 par:∀ x∈P,sc.names.lookup x=some .local∨sc.names.lookup x=some .cell
 nofree:∀ y∈sc.names,y.2≠.free
theorem ye{kindOf:Str->Option NameKind}{x:Str}:∀{binds:List (Str×Value)}{m:Str->Option Value},(∀ v,(x,v)∉binds)->bindL kindOf binds m x=m x
 |[],_,_=>rfl
 | (n,v)::r,m,h=>by
  unfold bindL
  rw[ye fun w hw=>h w (LK _ hw)]
  split
  ·have:x≠n:=by rintro rfl;exact h v LI
   simp[this]
  ·rfl
theorem yg{kindOf:Str->Option NameKind}{x:Str}:∀{binds:List (Str×Value)}{m:Str->Option Value},(∀ v,(x,v)∉binds)->bindC kindOf binds m x=m x
 |[],_,_=>rfl
 | (n,v)::r,m,h=>by
  unfold bindC
  rw[yg fun w hw=>h w (LK _ hw)]
  split
  ·rfl
  ·have:x≠n:=by rintro rfl;exact h v LI
   simp[this]
theorem yf{kindOf:Str->Option NameKind}{x:Str}{v:Value}:∀{P:List Str}{vs:List Value}{i:Nat}{m:Str->Option Value},P.Nodup->P[i]?=some x->vs[i]?=some v->kindOf x=some .local ->
  bindL kindOf (P.zip vs) m x=some v
 |[],_,_,_,_,h,_,_=>by simp at h
 |_::_,[],_,_,_,_,h,_=>by simp at h
 |p::P,w::vs,0,m,nd,h1,h2,hk=>by
  simp at h1 h2;subst h1;subst h2
  show bindL kindOf ((p,w)::P.zip vs) m p=_
  unfold bindL
  rw[ye fun v hv=>(LN.mp nd).1 (O5 hv).1,if_pos hk]
  simp
 |p::P,w::vs,i+1,m,nd,h1,h2,hk=>by
  show bindL kindOf ((p,w)::P.zip vs) m x=_
  unfold bindL
  exact yf (i:=i) (LN.mp nd).2 (by simpa using h1) (by simpa using h2) hk
theorem yh{kindOf:Str->Option NameKind}{x:Str}{v:Value}:∀{P:List Str}{vs:List Value}{i:Nat}{m:Str->Option Value},P.Nodup->P[i]?=some x->vs[i]?=some v->kindOf x≠some .local ->
  bindC kindOf (P.zip vs) m x=some v
 |[],_,_,_,_,h,_,_=>by simp at h
 |_::_,[],_,_,_,_,h,_=>by simp at h
 |p::P,w::vs,0,m,nd,h1,h2,hk=>by
  simp at h1 h2;subst h1;subst h2
  show bindC kindOf ((p,w)::P.zip vs) m p=_
  unfold bindC
  rw[yg fun v hv=>(LN.mp nd).1 (O5 hv).1,if_neg hk]
  simp
 |p::P,w::vs,i+1,m,nd,h1,h2,hk=>by
  show bindC kindOf ((p,w)::P.zip vs) m x=_
  unfold bindC
  exact yh (i:=i) (LN.mp nd).2 (by simpa using h1) (by simpa using h2) hk
def start(N:List Str)(vs:List V):St:=vs.map some++Nu (N.length-vs.length) none
def cxOf(CX:CXT)(P:Program)(w:World)(K:LA)(mg:Str->Option Value)(base:Heap)(N:List Str)(qual:Str)(scope:Scope)(f:Addr)(cd:Value)(A:Around)(outer:List Env)(s:Shared)(H:Hp)(E:XK):Cx where
 prog:=P
 w:=w
 K:=K
 mg:=mg
 base:=base
 A:=A.deeper (envOfC qual scope s.heap.objs.size f cd)
 N:=N
 s₀:=s
 H₀:=H
 env:=envOfC qual scope s.heap.objs.size f cd
 outer:=outer
 stack:=envOfC qual scope s.heap.objs.size f cd::outer
 ex:=[]
 calm:=true
 fn:=fun _=>true
 pn:=[]
 xe:=fun e s'=>wpAny (model P w) (A.deeper (envOfC qual scope s.heap.objs.size f cd)) (leaving (envOfC qual scope s.heap.objs.size f cd) e) (fun _ s''=>CX outer H s E e s'') (fun e' s''=>CX outer H s E e' s'') s'
theorem CH{sc:Scope}{n:Nat}{x:Str}(h:sc.names.lookup x=some .cell):∃ c,(cellsFrom n sc.names []).lookup x=some c:=by
 have q:=PySem.W.cellsFrom_some sc.names n [] (.inl h)
 exact Ot.mp q
theorem F6{CX:CXT}{P:Program}{w:World}{K:LA}{mg:Str->Option Value}{base:Heap}{N ps:List Str}{qual:Str}{scope:Scope}{f:Addr}{cd:Value}{A:Around}{outer:List Env}{s s1:Shared}{H:Hp}{E:XK}{us:List Value}{vs:List V}
  (S:aI N ps scope) (hd:A.handled=none) (e0:Env0 P w K mg base A outer s H) (hl:vs.length=ps.length) (r:Vals vs us)
  (x:InCallC s s.heap.objs.size (bindL (envOfC qual scope s.heap.objs.size f cd).kindOf (ps.zip us) fun _=>none) (cellsFrom (s.heap.objs.size+1) scope.names []) (bindC (envOfC qual scope s.heap.objs.size f cd).kindOf (ps.zip us) fun _=>none) s1) :
  Inv (cxOf CX P w K mg base N qual scope f cd A outer s H E) [] (start N vs) H s1:=by
 have hpl:ps.length<=N.length:=by have:=congrArg Oi S.pre;rw[LZ]at this;omega
 obtain⟨h1,tk,rfl,hk⟩:=x.done
 have noA:∀ b:Addr,b∉(cxOf CX P w K mg base N qual scope f cd A outer s H E).ex:=fun b z=>absurd (show b∈([]:List Addr) from z) (by simp)
 refine⟨⟨e0.mod,S.kind,rfl,rfl,LG _,fun y z c h1 h2=>?_,fun y hy=>?_,fun y c _ h=>?_,fun _=>hd,Around.frames_deeper e0.frames,.inr ⟨rfl,rfl⟩,fun b z=>absurd z (noA b),e0.bs,e0.bsz,fun b _ _=>noA b,fun b z=>absurd z (noA b),e0.funs,e0.frf⟩,
  rfl,e0.bare,Un.kept hk,⟨_,x.toInCall.ns,fun i y v h1 h2 h3=>?_⟩,fun y c h=>⟨_,x.cell y c h⟩,e0.hok.fresh (LG _),fun y c h=>?_,fun p hp=>absurd (show p∈([]:List (Addr×Obj)) from hp) (by simp),e0.hok.kept hk,?_⟩
 ·exact name_of_addr x.apart (MX h1) (MX h2)
 ·have hy:scope.names.lookup y=some .cell∨scope.names.lookup y=some .free:=hy
  rcases hy with hy | hy
  ·exact CH hy
  ·exact absurd rfl (S.nofree _ (MX hy))
 ·exact MJ (x.above y c (MX h))
 ·have hi:i<vs.length:=by
   unfold start at h2
   by_cases hi:i<vs.length
   ·exact hi
   ·rw[LD (by simpa using hi)]at h2
    rw[Nq]at h2
    split at h2<;>cases h2
  have ha:vs[i]?=some v:=by
   unfold start at h2
   rw[LF (by simpa using hi),LL]at h2
   cases e:vs[i]? with
   |none=>rw[e]at h2;cases h2
   |some a=>rw[e]at h2;cases h2;rfl
  obtain⟨u,hu,rv⟩:=r.get ha
  have hp:ps[i]?=some y:=by
   rw[← S.pre,List.getElem?_take_of_lt (by omega)];exact h1
  have ndP:ps.Nodup:=by rw[← S.pre];exact S.nd.sublist (List.take_sublist _ _)
  refine⟨u,rv,?_⟩
  rcases S.par y (Lz hp)with k | k
  ·exact .inl ⟨k,yf ndP hp hu k⟩
  ·obtain⟨c,e⟩:=CH (n:=s.heap.objs.size+1) k
   refine .inr ⟨.inl k,c,e,?_⟩
   have q:=x.cell y c e
   rw[yh ndP hp hu (by show scope.names.lookup y≠_;rw[k];decide)]at q
   exact q
 ·exact e0.hok.fresh (MJ (x.above y c (MX h)))
 ·unfold start
  show _=N.length
  rw[Ly,LB,List.length_replicate]
  omega
theorem fn_of{CX:CXT}{P:Program}{w:World}{K:LA}{mg:Str->Option Value}{base:Heap}{k:Nat}{f:Addr}{name qual:Str}{params:Arguments}{body:List Stmt}{scope:Scope}{dV kV doc pm cdv ct oc:Value}{an od:Option Addr}
  {osl:Array (Option Value)} {N ps:List Str} {sp:Sp} (lk:K.lookup f=some ⟨oc,od,.func (LX name qual params body scope dV kV doc pm an cdv ct),osl⟩) (hcd:LS K cdv qual=true) (S:aI N ps scope)
  (len:∀ vs H Q E,sp vs H Q E->vs.length=ps.length)
  (hbody:∀(A:Around)(outer:List Env)(s:Shared)(H:Hp)(vs:List V)(Q:VK)(E:XK),Room k (A.deeper (envOfC qual scope s.heap.objs.size f cdv))->sp vs H Q E ->
   ∃ t,PSs (cxOf CX P w K mg base N qual scope f cdv A outer s H E) body t/\t { nx:=fun _ H'=>Q .non H',rt:=Q } (start N vs) H) :
  FnOk P w K mg base CX (k+1) f (LX name qual params body scope dV kV doc pm an cdv ct) ps sp:=by
 refine⟨len,fun A outer s H args us vs Q E hr e0 hb r hsp=>?_⟩
 have hl:=len _ _ _ _ hsp
 have KX:K.In s.heap:=e0.mod.kin.keeps fun b o e=>(e0.bs b o e).1
 have lim:s.heap.NoLimit:=e0.mod.nolimit.keeps fun b o e=>(e0.bs b o e).1
 have hkind:∀ y∈ps.zip us,scope.names.lookup y.1=some .local∨(scope.names.lookup y.1=some .cell/\((cellsFrom (s.heap.objs.size+1) scope.names []).lookup y.1).isSome=true):=fun⟨n,v⟩ hy=>by
  rcases S.par n (O5 hy).1 with q | q
  ·exact .inl q
  ·exact .inr ⟨q,PySem.W.cellsFrom_some _ _ _ (.inl q)⟩
 refine codeAny_call_function hr.depth (KX _ _ lk) rfl S.co S.gen rfl (PySem.W.codeRec_of KX hcd) (hb _ _ _ _ ?_)
 refine wpAny_newFunctionEnv_cells S.kind hkind fun env he s1 x=>?_
 subst he
 refine⟨lim.keeps x.toInCall.keep,codeAny_func ?_⟩
 obtain⟨t,ht,hq⟩:=hbody A outer s H vs Q E (hr.deeper _) hsp
 have I:Inv (cxOf CX P w K mg base N qual scope f cdv A outer s H E) [] (start N vs) H s1:=F6 S hr.hd e0 hl r x
 refine wpAny_mono (ht [] s1 (start N vs) H _ I hq) (fun fl s' hs=>?_) fun e s' hs=>hs
 have fin:∀{σ':St}{H':Hp}{v:V}{u:Value},Inv (cxOf CX P w K mg base N qual scope f cdv A outer s H E) [] σ' H' s'->RelV v u->Q v H'->CE outer P w H s Q u s' :=
  fun{σ' H' v u} J rv q=>⟨v,H',J.os,J.bare,J.base,J.hok,rv,q⟩
 cases fl with
 |ret u =>
  obtain⟨v,σ',H',J,rv,q⟩:=hs
  exact fin J rv q
 |next =>
  obtain⟨σ',H',J,q⟩:=hs
  exact fin (v:=V.non) (u:=Value.none) J rfl q
 |brk =>
  obtain⟨_,_,_,q⟩:=hs
  exact False.elim q
 |cont =>
  obtain⟨_,_,_,q⟩:=hs
  exact False.elim q
end L2
namespace L2
open PySem PySem.Spec PyProof.Rows
section
variable{X:Cx}{x:Str}{p pos:Pos}{e:Expr}{es:List Expr}{t:TA}{id T:String}{r:List V->Hp->VK->Prop}
def tCB(r:List V->Hp->VK->Prop)(t:TA):TE:=fun σ H Q=>t σ H fun vs H1=>r vs H1 Q
theorem ar(hc:i7 X (.builtin id) r)(hg:Gl X x)(hm:X.mg x=none)(hv:bootBuiltins x=some (.builtin id))(ha:PA X (e::es) t) (hn:x≠"__name__":=by decide) (hdb:(x == ("__debug__" : Str))=false:=by decide)
  (he:starEach (e::es) X.env=(false,eval e X.env)::starEach es X.env:=by rfl) (hpl:(backTo pos (starEach es X.env)).any (·.1)=false:=by rfl):PE X (.Call (.Name x p) (e::es) [] pos) (tCB r t):=by
 intro pins s σ H Q I h
 refine wpAny_Call_Name_kw (xh I hg hm hv ?_ hn hdb)
 exact PyProof.Rows.callWith_builtin1 (thn (ha pos pins s σ H _ I h) fun us s1 ⟨vs,H1,I1,r1,q1⟩=>hc pins s1 σ H1 vs us Q I1 r1 q1) he hpl
theorem bA(hc:i7 X (.type T) r)(hg:Gl X x)(hm:X.mg x=none)(hv:bootBuiltins x=some (.type T))(ha:PA X (e::es) t) (hn:x≠"__name__":=by decide) (hdb:(x == ("__debug__" : Str))=false:=by decide)
  (he:starEach (e::es) X.env=(false,eval e X.env)::starEach es X.env:=by rfl) (hpl:(backTo pos (starEach es X.env)).any (·.1)=false:=by rfl):PE X (.Call (.Name x p) (e::es) [] pos) (tCB r t):=by
 intro pins s σ H Q I h
 refine wpAny_Call_Name_kw (xh I hg hm hv ?_ hn hdb)
 exact PyProof.Rows.callWith_type1 (thn (ha pos pins s σ H _ I h) fun us s1 ⟨vs,H1,I1,r1,q1⟩=>hc pins s1 σ H1 vs us Q I1 r1 q1) he hpl
end
end L2
namespace HT
open PySem PyProof.Rows
section
open PySem.SeqAt
open PySem.AutoSeq1 (wpAny_loadPart')
open PySem.MeetsSeq PySem.MeetsSeq2 PySem.MeetsSeq3
end
section
variable{prog:Program}{w:World}{A:Around}{E:Value->Shared->Prop}{s:Shared}
def sIx(n d:Nat):Option Int->Nat
 |none=>d
 |some v=>if v<0 then(v+(n:Int)).toNat else min v.toNat n
theorem sIx_none(n d:Nat):sIx n d none=d:=rfl
theorem sIx_nat(n d k:Nat):sIx n d (some (k:Int))=min k n:=by
 show(if(k:Int)<0 then((k:Int)+(n:Int)).toNat else min (k:Int).toNat n)=min k n
 rw[if_neg (by omega),L7]
end
end HT
namespace L2
open PySem PySem.Spec PyProof.Rows
abbrev TO:=St->Hp->(Option Int->Hp->Prop)->Prop
def PO(X:Cx)(e:Option Expr)(t:TO):Prop :=
 ∀(pins:List (Addr×Obj))(s:Shared)(σ:St)(H:Hp)(Q:Option Int->Hp->Prop),Inv X pins σ H s->t σ H Q ->
  wpAny (model X.prog X.w) X.A (evalPart e X.env) (fun u s'=>∃ o H',Inv X pins σ H' s'/\IsPart u o/\Q o H') X.xe s
def JR:TO:=fun _ H Q=>Q none H
def tPart(t:TE):TO:=fun σ H Q=>t σ H fun x H1=>∃ i,x=.int i/\Q (some i) H1
section
variable{X:Cx}{e:Expr}{te:TE}{lo hi:Option Expr}{tl th:TO}{pos p2:Pos}
theorem fu:PO X none JR:=by
 intro pins s σ H Q I h
 rw[evalPart_none]
 exact wpAny_pure ⟨none,H,I,.none,h⟩
theorem cJ(h:PE X e te):PO X (some e) (tPart te):=by
 intro pins s σ H Q I hw
 rw[evalPart_some]
 refine thn (h pins s σ H _ I hw) fun u s1 ⟨x,H1,I1,r1,q1⟩=>?_
 obtain⟨i,rfl,q⟩:=q1
 obtain⟨t,rfl⟩:=r1
 exact⟨some i,H1,I1,.int i t,q⟩
def SlR(X:Cx)(r:V->Option Int->Option Int->Hp->VK->Prop):Prop :=
 ∀(pins:List (Addr×Obj))(s:Shared)(σ:St)(H:Hp)(x:V)(v vl vu:Value)(lo hi:Option Int)(sl:Addr)(Q:VK),Inv X pins σ H s->RelV x v->s.heap.IsSliceOf sl vl vu .none->IsPart vl lo->IsPart vu hi->r x lo hi H Q ->
  ∃ T id,typeLookup (.type T) "__getitem__" = pure (some (.builtin id))/\s.TypeIs v T/\wpAny (model X.prog X.w) X.A (getItem v (.ref sl)) (EP X pins σ Q) X.xe s
def tSl(r:V->Option Int->Option Int->Hp->VK->Prop)(te:TE)(tl th:TO):TE:=fun σ H Q=>te σ H fun x H1=>tl σ H1 fun l H2=>th σ H2 fun u H3=>r x l u H3 Q
theorem bY{r:V->Option Int->Option Int->Hp->VK->Prop}(hr:SlR X r)(he:PE X e te)(hl:PO X lo tl)(hu:PO X hi th):PE X (.Subscript e (.Slice lo hi none p2) pos) (tSl r te tl th):=by
 intro pins s σ H Q I h
 refine Subscript_ (thn (he pins s σ H _ I h) fun v s1 ⟨x,H1,I1,r1,q1⟩=>?_)
 refine wpAny_Slice (thn (hl pins s1 σ H1 _ I1 q1) fun vl s2 ⟨l,H2,I2,pl,q2⟩=>thn (hu pins s2 σ H2 _ I2 q2) fun vu s3 ⟨u,H3,I3,pu,q3⟩=>?_)
 rw[evalPart_none]
 refine wpAny_pure ?_
 have I4:Inv X pins σ H3 { s3 with heap:=s3.heap.push { cls:=.type "slice",data:=.fields #[vl,vu,.none] } }:=I3.kept (t':=s3.toks) fun b ob q=>Heap.get?_push_of_some _ q
 obtain⟨T,id,hT,ht,hg⟩:=hr pins { s3 with heap:=s3.heap.push { cls:=.type "slice",data:=.fields #[vl,vu,.none] } } σ H3 x v vl vu l u s3.heap.objs.size Q I4 r1 (Heap.IsSliceOf.new ..) pl pu q3
 show wpAny (model X.prog X.w) X.A (subscriptTail e (.Slice lo hi none p2) v (.ref s3.heap.objs.size)) (EP X pins σ Q) X.xe { s3 with heap:=s3.heap.push { cls:=.type "slice",data:=.fields #[vl,vu,.none] } }
 exact tail_any (ops:=[.ref s3.heap.objs.size,v]) ht hT hg (by with_unfolding_all rfl)
def cutV(xs:List V)(lo hi:Option Int):List V:=(xs.drop (HT.sIx xs.length 0 lo)).take (HT.sIx xs.length xs.length hi-HT.sIx xs.length 0 lo)
theorem Bd(xs:List V)(lo hi:Option Int):(cutV xs lo hi).length<=xs.length:=by
 unfold cutV
 rw[LZ,Mj]
 omega
end
end L2
namespace L2
open PySem PySem.Spec PyProof.Rows
def ixN(n:Nat)(i:Int):Option Nat:=if 0<=i then(if i<n then some i.toNat else none) else if -(n:Int)<=i then some (i+n).toNat else none
def atI{α:Type}(xs:List α)(i:Int):Option α:=(ixN xs.length i).bind fun j=>xs[j]?
theorem F4{n:Nat}{i:Int}{j:Nat}(h:ixN n i=some j):seqIndex? i n=some j/\j<n/\-(n:Int)<=i/\i<n:=by
 unfold ixN at h
 by_cases h0:0<=i
 ·rw[if_pos h0]at h
  by_cases h1:i<n
  ·rw[if_pos h1]at h
   have e:i.toNat=j:=L6 h
   exact⟨by rw[seqIndex_of h0 h1,e],by omega,by omega,h1⟩
  ·rw[if_neg h1]at h;cases h
 ·rw[if_neg h0]at h
  by_cases h1 : -(n:Int)<=i
  ·rw[if_pos h1]at h
   have e:(i+n).toNat=j:=L6 h
   exact⟨by rw[seqIndex_neg (by omega) h1,e],by omega,h1,by omega⟩
  ·rw[if_neg h1]at h;cases h
theorem By{α:Type}{xs:List α}{i:Int}{v:α}(h:atI xs i=some v):∃ j,seqIndex? i xs.length=some j/\xs[j]?=some v/\j<xs.length/\-(xs.length:Int)<=i/\i<xs.length:=by
 unfold atI at h
 cases e:ixN xs.length i with
 |none=>rw[e]at h;cases h
 |some j =>
  rw[e]at h
  obtain⟨h1,h2,h3,h4⟩:=F4 e
  exact⟨j,h1,h,h2,h3,h4⟩
theorem aD{α:Type}{xs:List α}{j:Nat}{v:α}(h:xs[j]?=some v):atI xs (j:Int)=some v:=by
 have hj:j<xs.length:=(Lx.mp h).1
 have e:ixN xs.length (j:Int)=some j:=by
  unfold ixN
  rw[if_pos (by omega),if_pos (by omega)];simp
 unfold atI;rw[e];exact h
def Lu(b:Expr):Prop:=∀ o i,subscripted b false o i=operate [o,i] (getItem o i)
def IxR(X:Cx)(r:R2):Prop :=
 ∀(value slice:Expr)(pins:List (Addr×Obj))(s:Shared)(σ:St)(H:Hp)(x y:V)(v u:Value)(Q:VK),Inv X pins σ H s->RelV x v->RelV y u->r x y H Q ->
  subscripted slice false v u=operate [v,u] (getItem v u)->wpAny (model X.prog X.w) X.A (subscriptTail value slice v u) (EP X pins σ Q) X.xe s
def MtR(X:Cx)(id:String)(r:V->List V->Hp->VK->Prop):Prop :=
 ∀(pins:List (Addr×Obj))(s:Shared)(σ:St)(H:Hp)(x:V)(xs:List V)(v:Value)(us:List Value)(Q:VK),Inv X pins σ H s->RelV x v->Vals xs us->r x xs H Q ->
  wpAny (model X.prog X.w) X.A (call (.builtin id) (v::us)) (EP X pins σ Q) X.xe s
section
variable{X:Cx}{a b:Expr}{ta tb:TE}{pos:Pos}
theorem aG{r:R2}(hr:IxR X r)(ha:PE X a ta)(hb:PE X b tb)(hs:Lu b):PE X (.Subscript a b pos) (tOp r ta tb):=by
 intro pins s σ H Q I h
 exact Subscript_ (binT ha hb I h fun v u s2 x y H2 I2 rx ry q=>hr a b pins s2 σ H2 x y v u Q I2 rx ry q (hs _ _))
def rIxL(K:LA):R2:=fun x y H Q=>∃ p xs i v,x=.ref p/\y=.int i/\SqL K H p xs/\atI xs i=some v/\Q v H
def rIxT(K:LA):R2:=fun x y H Q=>∃ p xs i v,x=.ref p/\y=.int i/\SqT K H p xs/\atI xs i=some v/\Q v H
def rIxS:R2:=fun x y H Q=>∃ z i c,x=.str z/\y=.int i/\z.length<=sizeLine/\atI z.cps.toList i=some c/\Q (.str ⟨#[c]⟩) H
theorem aA:IxR X (rIxL X.K):=by
 intro value slice pins s σ H x y v u Q I rx ry h hs
 obtain⟨p,xs,i,z,rfl,rfl,hq,he,q⟩:=h
 cases rx
 obtain⟨t,rfl⟩:=ry
 obtain⟨its,r,pl,hz⟩:=I.list hq
 obtain⟨j,h1,h2,h3,h4,h5⟩:=By he
 obtain⟨w,ew,rw'⟩:=r.get h2
 have hl:=r.length
 have hn:=o5
 have fin:EP X pins σ Q w s:=⟨z,H,I,rw',q⟩
 by_cases h0:0<=i
 ·have hj:i.toNat=j:=by
   rw[seqIndex_of h0 h5]at h1
   exact L6 h1
  exact item_listR pl.isList h0 (by omega) (by rw[hj];simpa using ew) fin hs
 ·have hj:(i+(its.toArray.size:Int)).toNat=j:=by
   rw[seqIndex_neg (by omega) h4]at h1
   rw[LV,← hl]
   exact L6 h1
  exact subscriptTail_builtinR (x:=w) pl.isList.typeIs slot_list_getitem.lookup
   (wpAny_getItem_list_neg (Q:=fun r s'=>r=w/\EP X pins σ Q r s') pl.isList (by omega) (by rw[LV]<;>omega) (by omega) (by rw[hj];simpa using ew) ⟨rfl,fin⟩) hs
theorem aX:IxR X (rIxT X.K):=by
 intro value slice pins s σ H x y v u Q I rx ry h hs
 obtain⟨p,xs,i,z,rfl,rfl,hq,he,q⟩:=h
 cases rx
 obtain⟨t,rfl⟩:=ry
 obtain⟨its,r,pl,hz⟩:=I.tuple hq
 obtain⟨j,h1,h2,h3,h4,h5⟩:=By he
 obtain⟨w,ew,rw'⟩:=r.get h2
 have hl:=r.length
 have hn:=o5
 have fin:EP X pins σ Q w s:=⟨z,H,I,rw',q⟩
 exact subscriptTail_builtinR (x:=w) pl.typeIs slot_tuple_getitem.lookup
  (getItem_tuple (j:=j) (Q:=fun r s'=>r=w/\EP X pins σ Q r s') pl (by omega) (by omega) (by rw[LV,← hl];exact h1) (by simpa using ew) ⟨rfl,fin⟩) hs
theorem ix_str:IxR X rIxS:=by
 intro value slice pins s σ H x y v u Q I rx ry h hs
 obtain⟨z,i,c,rfl,rfl,hz,he,q⟩:=h
 obtain⟨t,rfl⟩:=rx
 obtain⟨t',rfl⟩:=ry
 obtain⟨j,h1,h2,h3,h4,h5⟩:=By he
 have hl:z.cps.toList.length=z.length:=by simp[Str.length]
 rw[hl]at h1 h4 h5
 have hn:=o5
 exact tail_any (typeIs_str s z t) slot_str_getitem.lookup (getItem_str (c:=c) (by
  have e1:decide (i < -(2^63:Int))=false:=decide_eq_false (by omega)
  have e2:decide (i ≥ 2^63)=false:=decide_eq_false (by omega)
  rw[e1,e2,Bool.or_false]) (by rw[h1];simpa using h2) ⟨.str ⟨#[c]⟩,H,I.tok _,⟨_,rfl⟩,q⟩) hs
theorem Dw(its:List Value)(n j:Nat)(u:Value):Obj.mapSeq (·.setIfInBounds j u) { cls:=.type "list",data:=.seq its.toArray n }={ cls:=.type "list",data:=.seq (its.set j u).toArray n }:=by
 simp[Obj.mapSeq]
theorem Inv.lst{pins:List (Addr×Obj)}{σ:St}{H:Hp}{s:Shared}{p:Addr}{xs:List V}(I:Inv X pins σ H s)(h:H p=some (.lst xs)) :
  ∃(its:List Value)(n:Nat),Vals xs its/\s.heap.get? p=some { cls:=.type "list",data:=.seq its.toArray n }/\xs.length<=sizeLine:=by
 obtain⟨z,its,n,r,e⟩:=I.hok p _ h
 exact⟨its,n,r,e,z⟩
theorem Inv.lstUpd{pins:List (Addr×Obj)}{σ:St}{H:Hp}{s:Shared}{p:Addr}{xs ys:List V}{its its':List Value}{n n':Nat}{f:Obj->Obj}(I:Inv X pins σ H s)(h:H p=some (.lst xs))
  (ho:s.heap.get? p=some { cls:=.type "list",data:=.seq its.toArray n }) (hf:f { cls:=.type "list",data:=.seq its.toArray n }={ cls:=.type "list",data:=.seq its'.toArray n' }) (r:Vals ys its') (hz:ys.length<=sizeLine) (t:Nat) :
  Inv X pins σ (upd H p (.lst ys)) { s with heap:=s.heap.update p f,toks:=t }:=by
 have e:(s.heap.update p f).get? p=some { cls:=.type "list",data:=.seq its'.toArray n' }:=by
  rw[Heap.get?_update_self f ho (by rw[hf]<;>rfl),hf]
 refine I.write (x:=p) (e:=p) (by rw[h];trivial) (.inl rfl) (fun b u hb q=>(Heap.get?_update_other _ _ (Ne.symm hb)).trans q) ⟨_,e⟩ ?_
 exact⟨hz,its',n',r,e⟩
def rSetL:V->V->V->Hp->(Hp->Prop)->Prop:=fun o i v H Q=>∃ p xs k j,o=.ref p/\i=.int k/\H p=some (.lst xs)/\ixN xs.length k=some j/\Q (upd H p (.lst (xs.set j v)))
theorem oo:PSet X rSetL:=by
 intro pins s σ H o i v ov iv u Q I ro ri rv h
 obtain⟨p,xs,k,j,rfl,rfl,hp,hj,q⟩:=h
 cases ro
 obtain⟨t,rfl⟩:=ri
 obtain⟨its,n,r,ho,hz⟩:=I.lst hp
 obtain⟨h1,h2,h3,h4⟩:=F4 hj
 have hl:=r.length
 have hn:=o5
 have I':Inv X pins σ (upd H p (.lst (xs.set j v))) { s with heap:=s.heap.update p (Obj.mapSeq (·.setIfInBounds j u)) } :=
  I.lstUpd hp ho (Dw its n j u) (r.set rv j) (by rw[Mv];exact hz) s.toks
 by_cases h0:0<=k
 ·have hk:k.toNat=j:=by
   rw[seqIndex_of h0 h4]at h1
   exact L6 h1
  exact PySem.W.ki_setAt ho h0 (by omega) (by rw[LV,← hl];exact h4) (by rw[hk];exact⟨_,I',q⟩)
 ·have hk:(k+(its.toArray.size:Int)).toNat=j:=by
   rw[seqIndex_neg (by omega) h3]at h1
   rw[LV,← hl]
   exact L6 h1
  exact PySem.W.ki_setBack ho (by omega) (by rw[LV,← hl];exact h3) (by omega) (by rw[hk];exact⟨_,I',q⟩)
theorem vK(lo hi:Option Int)(n:Nat):(sliceBounds lo hi none n).1=((HT.sIx n 0 lo:Nat):Int)/\(sliceBounds lo hi none n).2.1=((HT.sIx n n hi:Nat):Int)/\(sliceBounds lo hi none n).2.2=1:=by
 refine⟨?_,?_,rfl⟩
 ·cases lo with
  |none=>simp[sliceBounds,HT.sIx]
  |some i =>
   simp only[sliceBounds,HT.sIx,Option.getD_none,show(1:Int) > 0 by decide,if_true]
   by_cases h:i<0
   ·simp only[h,if_true]<;>omega
   ·simp only[h,if_false]<;>omega
 ·cases hi with
  |none=>simp[sliceBounds,HT.sIx]
  |some i =>
   simp only[sliceBounds,HT.sIx,Option.getD_none,show(1:Int) > 0 by decide,if_true]
   by_cases h:i<0
   ·simp only[h,if_true]<;>omega
   ·simp only[h,if_false]<;>omega
theorem sv(its:List Value)(lo hi:Option Int):slicePick its.toArray lo hi none=((its.drop (HT.sIx its.length 0 lo)).take (HT.sIx its.length its.length hi-HT.sIx its.length 0 lo)).toArray:=by
 obtain⟨h1,h2,h3⟩:=vK lo hi its.toArray.size
 unfold slicePick
 rw[h1,h2,h3]
 simp only[sliceRange_one,pick_run,LV]<;>rfl
def rSlL(K:LA):V->Option Int->Option Int->Hp->VK->Prop:=fun x lo hi H Q=>∃ a xs,x=.ref a/\SqL K H a xs/\∀ p,H p=none->Q (.ref p) (upd H p (.lst (cutV xs lo hi)))
theorem dk:SlR X (rSlL X.K):=by
 intro pins s σ H x v vl vu lo hi sl Q I rx hs pl pu h
 obtain⟨a,xs,rfl,hx,q⟩:=h
 cases rx
 obtain⟨its,r,ht,hz⟩:=I.list hx
 have hlen:=r.length
 refine⟨"list",_,slot_list_getitem.lookup,ht.isList.typeIs,?_⟩
 refine wpAny_getItem_list_slice ht.isList hs pl pu .none (by simp) ?_ (by rw[LV]<;>omega)
 rw[sv,← hlen]
 refine⟨.ref s.heap.objs.size,_,I.laid (t':=s.toks) (o:=.lst (cutV xs lo hi)) (fun b ob q=>Heap.get?_push_of_some _ q) (LG _) ?_,rfl,q _ (I.hok.fresh (LG _))⟩
 exact⟨MB (Bd xs lo hi) hz,_,0,(r.drop (HT.sIx xs.length 0 lo)).take (HT.sIx xs.length xs.length hi-HT.sIx xs.length 0 lo),Heap.get?_push_size _ rfl⟩
def uL:V->Bool
 |.non=>true
 |.bl _=>true
 |.int _=>true
 |.str _=>true
 |_=>false
def eqV:V->V->Bool
 |.non,.non=>true
 |.bl a,.bl b=>a == b
 |.bl a,.int b=>(if a then 1 else 0) == b
 |.int a,.bl b=>a == (if b then 1 else 0)
 |.int a,.int b=>a == b
 |.str a,.str b=>a == b
 |_,_=>false
theorem eqAt_V{A:Around}{s:Shared}{y x:V}{u v:Value}(ry:RelV y u)(rx:RelV x v)(fy:uL y=true)(fx:uL x=true):SeqAt.EqAt A s u v (eqV y x):=by
 cases y with
 |non =>
  cases ry
  cases x with
  |non=>cases rx;exact SeqAt.EqAt.same _
  |bl b=>cases rx;exact SeqAt.EqAt.none_bool b
  |int b=>obtain⟨t,rfl⟩:=rx;exact SeqAt.EqAt.none_int b t
  |str b=>obtain⟨t,rfl⟩:=rx;exact SeqAt.EqAt.none_str b t
  |_=>exact absurd (show false=true from fx) L8
 |bl a =>
  cases ry
  cases x with
  |non=>cases rx;exact SeqAt.EqAt.bool_none a
  |bl b=>cases rx;exact SeqAt.EqAt.bool_bool a b
  |int b=>obtain⟨t,rfl⟩:=rx;exact SeqAt.EqAt.bool_int a b t
  |str b=>obtain⟨t,rfl⟩:=rx;exact SeqAt.EqAt.bool_str a b t
  |_=>exact absurd (show false=true from fx) L8
 |int a =>
  obtain⟨t',rfl⟩:=ry
  cases x with
  |non=>cases rx;exact SeqAt.EqAt.int_none a t'
  |bl b=>cases rx;exact SeqAt.EqAt.int_bool a t' b
  |int b=>obtain⟨t,rfl⟩:=rx;exact SeqAt.EqAt.int_int a t' b t
  |str b=>obtain⟨t,rfl⟩:=rx;exact SeqAt.EqAt.int_str a t' b t
  |_=>exact absurd (show false=true from fx) L8
 |str a =>
  obtain⟨t',rfl⟩:=ry
  cases x with
  |non=>cases rx;exact SeqAt.EqAt.str_none a t'
  |bl b=>cases rx;exact SeqAt.EqAt.str_bool a t' b
  |int b=>obtain⟨t,rfl⟩:=rx;exact SeqAt.EqAt.str_int a t' b t
  |str b=>obtain⟨t,rfl⟩:=rx;exact SeqAt.EqAt.str_str a t' b t
  |_=>exact absurd (show false=true from fx) L8
 |_=>exact absurd (show false=true from fy) L8
def eqU(x:V)(u:Value):Bool:=match u with
 |.none=>eqV .non x
 |.bool b=>eqV (.bl b) x
 |.int i _=>eqV (.int i) x
 |.str z _=>eqV (.str z) x
 |_=>false
theorem Jw{x y:V}{u:Value}(r:RelV y u)(f:uL y=true):eqU x u=eqV y x:=by
 cases y with
 |non=>cases r;rfl
 |bl b=>cases r;rfl
 |int i=>obtain⟨t,rfl⟩:=r;rfl
 |str z=>obtain⟨t,rfl⟩:=r;rfl
 |_=>exact absurd (show false=true from f) L8
theorem Bz{x:V}:∀{xs:List V}{us:List Value},Vals xs us->xs.all uL=true->us.any (eqU x)=xs.any fun y=>eqV y x
 |_,_,.nil,_=>rfl
 |y::xs,u::us,.cons r t,f=>by
  rw[OA,NM]at f
  rw[ND,ND,Jw r f.1,Bz t f.2]
theorem uj{A:Around}{s:Shared}{x:V}{v:Value}(rx:RelV x v)(fx:uL x=true):∀{xs:List V}{us:List Value},Vals xs us->xs.all uL=true->∀ u∈us,SeqAt.EqAt A s u v (eqU x u)
 |_,_,.nil,_=>fun u hu=>by cases hu
 |y::xs,u::us,.cons r t,f=>fun u' hu=>by
  rw[OA,NM]at f
  rcases LC.mp hu with rfl | hu
  ·rw[Jw r f.1];exact eqAt_V r rx f.1 fx
  ·exact uj rx fx t f.2 u' hu
def inV(x:V)(xs:List V):Bool:=xs.any fun y=>eqV y x
def rIn(K:LA)(neg:Bool):R2:=fun x y H Q=>∃ p xs,y=.ref p/\(SqL K H p xs∨SqT K H p xs)/\uL x=true/\xs.all uL=true/\Q (.bl (if neg then !inV x xs else inV x xs)) H
theorem wu:OpR X (compareOp .In) (rIn X.K false):=by
 intro pins s σ H x y v u Q I rx ry h
 obtain⟨p,xs,rfl,hq,fx,fs,q⟩:=h
 cases ry
 rcases hq with hq | hq
 ·obtain⟨its,r,pl,hz⟩:=I.list hq
  refine SeqAt.in_listAt (eqU x) pl.isList (fun w hw=>uj rx fx r fs w (by simpa using hw)) ⟨.bl _,H,I,rfl,?_⟩
  rw[show its.toArray.any (eqU x)=its.any (eqU x) by simp,Bz r fs]
  exact q
 ·obtain⟨its,r,pl,hz⟩:=I.tuple hq
  refine SeqAt.in_tupleAt (eqU x) pl (fun w hw=>uj rx fx r fs w (by simpa using hw)) ⟨.bl _,H,I,rfl,?_⟩
  rw[show its.toArray.any (eqU x)=its.any (eqU x) by simp,Bz r fs]
  exact q
theorem aq:i7 X (.builtin "len") (fun xs H Q=>∃ p ys,xs = [.ref p]/\(SqL X.K H p ys∨SqT X.K H p ys)/\Q (.int ys.length) H):=by
 intro pins s σ H xs us Q I r h
 obtain⟨p,ys,rfl,hq,q⟩:=h
 obtain⟨u,rfl,rx⟩:=lE r
 cases rx
 have hn:=o5
 rcases hq with hq | hq
 ·obtain⟨its,r',pl,hz⟩:=I.list hq
  have hlen:=r'.length
  exact Calls.call_len_list pl.isList (by simp only[LV]<;>omega) ⟨.int ys.length,H,I.tok _,⟨s.toks+1,by rw[LV,hlen]⟩,q⟩
 ·obtain⟨its,r',pl,hz⟩:=I.tuple hq
  have hlen:=r'.length
  exact len_tuple pl (by simp only[LV]<;>omega) ⟨.int ys.length,H,I.tok _,⟨s.toks+1,by rw[LV,hlen]⟩,q⟩
theorem x9:i7 X (.builtin "len") (fun xs H Q=>∃ z,xs = [.str z]/\z.length<=sizeLine/\Q (.int z.length) H):=by
 intro pins s σ H xs us Q I r h
 obtain⟨z,rfl,hz,q⟩:=h
 obtain⟨u,rfl,t,rfl⟩:=lE r
 have hn:=o5
 exact len_str (by omega) ⟨.int z.length,H,I.tok _,⟨_,rfl⟩,q⟩
theorem fq:i7 X (.type "list") (fun xs H Q=>∃ p ys,xs = [.ref p]/\(SqL X.K H p ys∨SqT X.K H p ys)/\∀ l,H l=none->Q (.ref l) (upd H l (.lst ys))):=by
 intro pins s σ H xs us Q I r h
 obtain⟨p,ys,rfl,hq,q⟩:=h
 obtain⟨u,rfl,rx⟩:=lE r
 cases rx
 have fin:∀(its:List Value),Vals ys its->ys.length<=sizeLine->∀(h':Heap)(c':Nat),(∀ b o',s.heap.get? b=some o'->h'.get? b=some o') ->
   h'.get? s.heap.objs.size=some { cls:=.type "list",dict:=none,data:=.seq its.toArray c',slots:=#[] }->EP X pins σ Q (.ref s.heap.objs.size) { s with heap:=h' }:=fun its r' hz h' c' kp e =>
  ⟨.ref s.heap.objs.size,_,I.laid (t':=s.toks) kp (LG _) (show bT X.prog X.w _ h' _ (.lst ys) from⟨hz,its,c',r',e⟩),rfl,q _ (I.hok.fresh (LG _))⟩
 rcases hq with hq | hq
 ·obtain⟨its,r',pl,hz⟩:=I.list hq
  have hlen:=r'.length
  obtain⟨o,ho,hc,n,hd⟩:=pl.isList
  exact call_list_seq p (.inl rfl) ho hc hd (fun h' c' kp e=>fin its r' hz h' c' kp e) (by simp only[LV]<;>omega)
 ·obtain⟨its,r',pl,hz⟩:=I.tuple hq
  have hlen:=r'.length
  obtain⟨o,ho,hc,n,hd⟩:=pl
  exact call_list_seq p (.inr rfl) ho hc hd (fun h' c' kp e=>fin its r' hz h' c' kp e) (by simp only[LV]<;>omega)
def tyV(K:LA)(T:String)(x:V)(H:Hp):Prop:=match x with
 |.str _=>T = "str"
 |.int _=>T = "int"
 |.ref p=>(T = "list"/\∃ xs,SqL K H p xs)∨(T = "tuple"/\∃ o,K.lookup p=some o/\o.cls=.type "tuple"/\o.dict=none) ∨
   (T = "dict"/\((∃ kvs,H p=some (.dK kvs))∨∃ kvs,H p=some (.dT kvs)))∨(T = "set"/\∃ S n,H p=some (.set S n))
 |_=>False
theorem IZ{pins:List (Addr×Obj)}{σ:St}{H:Hp}{s:Shared}{T:String}{x:V}{v:Value}(I:Inv X pins σ H s)(r:RelV x v)(ty:tyV X.K T x H) :
  s.TypeIs v T/\∀ a,v=.ref a->∃ ob,s.heap.get? a=some ob/\ob.dict=none:=by
 cases x with
 |str z =>
  obtain⟨t,rfl⟩:=r
  cases (show T = "str" from ty)
  exact⟨typeIs_str s z t,fun _ e=>nomatch e⟩
 |int i =>
  obtain⟨t,rfl⟩:=r
  cases (show T = "int" from ty)
  exact⟨typeIs_int s i t,fun _ e=>nomatch e⟩
 |ref p =>
  cases r
  rcases ty with⟨rfl,xs,hq⟩ | ⟨rfl,o,hk,hc,hd⟩ | ⟨rfl,hk⟩ | ⟨rfl,S,n,hk⟩
  ·obtain⟨its,_,pl,_⟩:=I.list hq
   refine⟨pl.isList.typeIs,fun a e=>?_⟩
   cases e
   obtain⟨o,n,e,c,hd,_⟩:=pl
   exact⟨o,e,hd⟩
  ·refine⟨⟨o,I.kIn p o hk,hc⟩,fun a e=>?_⟩
   cases e
   exact⟨o,I.kIn _ o hk,hd⟩
  ·have z:∃ o,s.heap.get? p=some o/\o.ExactDict:=by
    rcases hk with⟨kvs,hk⟩ | ⟨kvs,hk⟩
    ·obtain⟨_,_,_,_,o,_,_,e,ex,_⟩:=I.hok p _ hk
     exact⟨o,e,ex⟩
    ·obtain⟨_,_,_,_,o,_,_,e,ex,_⟩:=I.hok p _ hk
     exact⟨o,e,ex⟩
   obtain⟨o,e,ex⟩:=z
   refine⟨⟨o,e,ex.1⟩,fun a e2=>?_⟩
   cases e2
   exact⟨o,e,ex.2.1⟩
  ·obtain⟨o,_,_,_,e,ex,_⟩:=I.hok p _ hk
   refine⟨⟨o,e,ex.1⟩,fun a e2=>?_⟩
   cases e2
   exact⟨o,e,ex.2.1⟩
 |_=>exact False.elim ty
def tBM0(K:LA)(T:String)(r:V->List V->Hp->VK->Prop)(to:TE):TE:=fun σ H Q=>to σ H fun x H1=>tyV K T x H1/\r x [] H1 Q
def tBM(K:LA)(T:String)(r:V->List V->Hp->VK->Prop)(to:TE)(t:TA):TE:=fun σ H Q=>to σ H fun x H1=>tyV K T x H1/\t σ H1 fun xs H2=>r x xs H2 Q
variable{o e:Expr}{es:List Expr}{to:TE}{t:TA}{name:Str}{apos cpos:Pos}{T id:String}{r:V->List V->Hp->VK->Prop}
theorem pe_bm0(pa:PlainAttrs T)(slot:Slot T name id) (hty:typeOf (.builtin id)=pure (.type "method_descriptor")) (hm:MtR X id r) (ho:PE X o to)
  (hbase:attributeBase o name X.env (eval o X.env)=eval o X.env:=by rfl) (hline:(apos.endLine == cpos.line)=true:=by rfl):PE X (.Call (.Attribute o name apos) [] [] cpos) (tBM0 X.K T r to):=by
 intro pins s σ H Q I h
 refine wpAny_Call_method0_late hbase hline (thn (ho pins s σ H _ I h) fun v s1 ⟨x,H1,I1,r1,ty,q1⟩=>?_)
 obtain⟨h1,h2⟩:=IZ I1 r1 ty
 exact⟨T,id,pa,slot,hty,h1,h2,Calls.callWith_builtin rfl (PySem.evalArgs_none (hm pins s1 σ H1 x [] v [] Q I1 r1 .nil q1))⟩
theorem cg(pa:PlainAttrs T)(slot:Slot T name id) (hty:typeOf (.builtin id)=pure (.type "method_descriptor")) (hm:MtR X id r) (ho:PE X o to) (ha:PA X (e::es) t)
  (hbase:attributeBase o name X.env (eval o X.env)=eval o X.env:=by rfl)
  (hfew:((backTo cpos (starEach (e::es) X.env)).all (fun x=>!x.1)&&(backToKw cpos (keywordEach [] X.env)).all (fun x=>x.1.isSome)
   && decide ((e::es).length+([]:List Keyword).length+(if([]:List Keyword).isEmpty then 0 else 1)<30))=true:=by rfl)
  (hline:(apos.endLine == cpos.line)=true:=by rfl) (hs:starEach (e::es) X.env=(false,eval e X.env)::starEach es X.env:=by rfl) (hplain:(backTo cpos (starEach es X.env)).any (·.1)=false:=by rfl) :
  PE X (.Call (.Attribute o name apos) (e::es) [] cpos) (tBM X.K T r to t):=by
 intro pins s σ H Q I h
 refine wpAny_Call_method_late hbase hfew hline rfl (thn (ho pins s σ H _ I h) fun v s1 ⟨x,H1,I1,r1,ty,q1⟩=>?_)
 obtain⟨h1,h2⟩:=IZ I1 r1 ty
 refine⟨T,id,pa,slot,hty,h1,h2,?_⟩
 have hA:=ha cpos pins s1 σ H1 _ I1 q1
 rw[hs]at hA ⊢
 refine Calls.callWith_builtin (by show(false||(backTo cpos (starEach es X.env)).any (·.1))=false;rw[hplain]<;>rfl) (Calls.evalArgs_plain ?_)
 exact thn hA fun us s2 ⟨vs,H2,I2,r2,q2⟩=>hm pins s2 σ H2 x vs v us Q I2 r1 r2 q2
end
end L2
namespace L2
open PySem PySem.Spec PyProof.Rows
def MtM(X:Cx)(id:String)(r:V->List V->Hp->VK->Prop):Prop :=
 ∀(pins:List (Addr×Obj))(s:Shared)(σ:St)(H:Hp)(x:V)(xs:List V)(v:Value)(us:List Value)(Q:VK),Inv X pins σ H s->RelV x v->Vals xs us->r x xs H Q ->
  wpAny (model X.prog X.w) X.A (call (.builtin id) (v::us)) (EP X pins σ Q) X.xe s
theorem Vals.one:∀{x:V}{us:List Value},Vals [x] us->∃ u,us = [u]/\RelV x u
 |_,_,.cons r .nil=>⟨_,rfl,r⟩
theorem Vals.two:∀{x y:V}{us:List Value},Vals [x,y] us->∃ u v,us = [u,v]/\RelV x u/\RelV y v
 |_,_,_,.cons r (.cons q .nil)=>⟨_,_,rfl,r,q⟩
theorem Vals.zero:∀{us:List Value},Vals [] us->us = []
 |_,.nil=>rfl
theorem Vals.dropLast{xs:List V}{us:List Value}(h:Vals xs us):Vals xs.dropLast us.dropLast:=by
 induction h with
 |nil=>exact .nil
 |cons r t ih =>
  cases t with
  |nil=>exact .nil
  |cons q t'=>exact .cons r ih
theorem DS{α:Type}(l:List α):l.eraseIdx (l.length-1)=l.dropLast:=by
 induction l with
 |nil=>rfl
 |cons a r ih =>
  cases r with
  |nil=>rfl
  |cons b r =>
   have e:(a::b::r).length-1=((b::r).length-1)+1:=by
    have h1:(a::b::r).length=r.length+2:=rfl
    have h2:(b::r).length=r.length+1:=rfl
    omega
   rw[e,List.eraseIdx_cons_succ,ih]
   all_goals rfl
section
variable{X:Cx}{pins:List (Addr×Obj)}{σ:St}{H:Hp}{s:Shared}{l b:Addr}{xs ys zs:List V}
theorem Inv.lset{its its':List Value}{n:Nat}{f:Array Value->Array Value}{t':Nat}(I:Inv X pins σ H s)(hH:H l=some (.lst xs))
  (e:s.heap.get? l=some { cls:=.type "list",data:=.seq its.toArray n }) (hf:f its.toArray=its'.toArray) (hv:Vals ys its') (hz:ys.length<=sizeLine) :
  Inv X pins σ (upd H l (.lst ys)) { s with heap:=s.heap.update l (Obj.mapSeq f),toks:=t' }:=by
 have q:=PySem.IsL.update e f
 rw[hf]at q
 refine I.write (x:=l) (e:=l) (by rw[hH];exact trivial) (.inl rfl) (fun b' u hb hu=>(Heap.get?_update_other s.heap (Obj.mapSeq f) (Ne.symm hb)).trans hu) ⟨_,q⟩ ?_
 exact⟨hz,its',_,hv,q⟩
theorem Inv.lnew{its:List Value}{t':Nat}(I:Inv X pins σ H s)(hv:Vals ys its)(hz:ys.length<=sizeLine) :
  Inv X pins σ (upd H s.heap.objs.size (.lst ys)) { s with heap:=s.heap.push { cls:=.type "list",data:=.seq its.toArray },toks:=t' } :=
 I.laid (fun _ _ q=>Heap.get?_push_of_some _ q) (LG _) ⟨hz,its,0,hv,Heap.get?_push_size _ rfl⟩
theorem Inv.fresh(I:Inv X pins σ H s):H s.heap.objs.size=none:=I.hok.fresh (LG _)
theorem Inv.lstM(I:Inv X pins σ H s)(hH:H l=some (.lst xs)):xs.length<=sizeLine/\∃(its:List Value)(n:Nat),Vals xs its/\xs.length=its.length/\s.heap.get? l=some { cls:=.type "list",data:=.seq its.toArray n }:=by
 obtain⟨z,its,n,r,e⟩:=I.hok l _ hH
 exact⟨z,its,n,r,r.length,e⟩
theorem Ij{n:Nat}(h:n<=sizeLine):Builtin.List.listTooLong n=false:=by
 unfold Builtin.List.listTooLong
 exact decide_eq_false (by omega)
end
section
variable{X:Cx}
def Kf:V->List V->Hp->VK->Prop:=fun x vs H Q=>∃ l xs y,x=.ref l/\vs = [y]/\H l=some (.lst xs)/\xs.length<sizeLine/\Q .non (upd H l (.lst (xs++[y])))
theorem bb:MtM X "list.append" Kf:=by
 intro pins s σ H x vs v us Q I rx rv h
 obtain⟨l,xs,y,rfl,rfl,hH,hz,q⟩:=h
 cases rx
 obtain⟨u,rfl,ru⟩:=rv.one
 obtain⟨z,its,n,r,hl,e⟩:=I.lstM hH
 refine call_meets F.slot_list_append ⟨_,e,rfl⟩ F.entry_list_append (F.args_list_append_2 _ _) (PySem.list_append l its.toArray n u (by rw[LV];omega)) ⟨e,?_⟩
 refine⟨.non,_,I.lset (its':=its++[u]) hH e (by simp) (r.append (.cons ru .nil)) ?_,rfl,q⟩
 rw[Ly,LU]
 omega
def Ke:V->List V->Hp->VK->Prop:=fun x vs H Q=>∃ l b xs zs,x=.ref l/\vs = [.ref b]/\H l=some (.lst xs)/\H b=some (.lst zs)/\xs.length+zs.length<=sizeLine/\Q .non (upd H l (.lst (xs++zs)))
theorem wW:MtM X "list.extend" Ke:=by
 intro pins s σ H x vs v us Q I rx rv h
 obtain⟨l,b,xs,zs,rfl,rfl,hH,hB,hz,q⟩:=h
 cases rx
 obtain⟨u,rfl,ru⟩:=rv.one
 cases ru
 obtain⟨z,its,n,r,hl,e⟩:=I.lstM hH
 obtain⟨z2,its2,n2,r2,hl2,e2⟩:=I.lstM hB
 have hsz:its.toArray.size+its2.toArray.size<=sizeLine:=by rw[LV,LV];omega
 have hlong:¬ (!its.toArray.isEmpty&&Builtin.List.listTooLong (its.toArray.size+its2.toArray.size))=true:=by
  rw[Ij hsz,Bool.and_false]
  exact L8
 refine call_meets F.slot_list_extend ⟨_,e,rfl⟩ F.entry_list_extend (F.args_list_extend_2 _ _)
  (AutoSeq1.list_extend_list_list_0 l its.toArray n b its2.toArray n2 hlong (by rw[LV];omega) (by omega)) ⟨e,e2,?_⟩
 refine⟨.non,_,I.lset (its':=its++its2) hH e (by simp) (r.append r2) ?_,rfl,q⟩
 rw[Ly]
 omega
def rPop:V->List V->Hp->VK->Prop:=fun x vs H Q=>∃ l xs y,x=.ref l/\vs = []/\H l=some (.lst xs)/\xs[xs.length-1]?=some y/\Q y (upd H l (.lst xs.dropLast))
theorem mt_pop:MtM X "list.pop" rPop:=by
 intro pins s σ H x vs v us Q I rx rv h
 obtain⟨l,xs,y,rfl,rfl,hH,hy,q⟩:=h
 cases rx
 have hus:=rv.zero
 subst hus
 obtain⟨z,its,n,r,hl,e⟩:=I.lstM hH
 obtain⟨u,hu,ru⟩:=r.get hy
 have hy':its.toArray[its.toArray.size-1]?=some u:=by
  show its.toArray[its.length-1]?=some u
  rw[← Nh,← hl]
  exact hu
 refine call_meets F.slot_list_pop ⟨_,e,rfl⟩ F.entry_list_pop (F.args_list_pop_1 _) (MeetsSeq.list_pop_last l its.toArray n u hy' (by rw[LV];omega)) ⟨e,?_⟩
 refine⟨y,_,I.lset (its':=its.dropLast) hH e ?_ r.dropLast ?_,ru,q⟩
 ·show its.toArray.eraseIdxIfInBounds (its.toArray.size-1)=its.dropLast.toArray
  rw[LV,List.eraseIdxIfInBounds_toArray,DS]
 ·rw[List.length_dropLast]
  omega
def rCat:R2:=fun x y H Q=>∃ l b xs zs,x=.ref l/\y=.ref b/\H l=some (.lst xs)/\H b=some (.lst zs)/\xs.length+zs.length<=sizeLine/\∀ p,H p=none->Q (.ref p) (upd H p (.lst (xs++zs)))
theorem Ji:OpR X (binaryOp .Add) rCat:=by
 intro pins s σ H x y v u Q I rx ry h
 obtain⟨l,b,xs,zs,rfl,rfl,hH,hB,hz,q⟩:=h
 cases rx
 cases ry
 obtain⟨z,its,n,r,hl,e⟩:=I.lstM hH
 obtain⟨z2,its2,n2,r2,hl2,e2⟩:=I.lstM hB
 refine PySem.P.add_list e e2 ?_ (by rw[LV,LV];omega)
 have ea:its.toArray++its2.toArray=(its++its2).toArray:=by simp
 rw[ea]
 exact⟨.ref _,_,I.lnew (t':=s.toks) (r.append r2) (by rw[Ly];omega),rfl,q _ I.fresh⟩
end
section
variable{prog:Program}{w:World}{A:Around}{E:Value->Shared->Prop}{s:Shared}
end
section
variable{X:Cx}
end
end L2
namespace Att
open PySem PySem.W PySem.Calls PyProof.Rows
theorem pE{P:Params}{h:Heap}:∀(ns:List Int)(vs:List Value),WellAll P h vs (ns.map WData.int)->IntsAre vs ns:=by
 intro ns
 induction ns with
 |nil =>
  intro vs w
  rw[List.map_nil]at w
  cases w
  exact .nil
 |cons n ns ih =>
  intro vs w
  rw[Mc]at w
  cases w with
  |cons a b =>
   cases a
   exact .cons _ _ (ih _ b)
theorem EY{l:OpenLaw}{n:Nat}(hn:l.most=some n){P:Params}{h:Heap}{args:List WData}{vals:List Value}
  (hpre:l.row.toRowW.claim.pre args=true) (hwl:WellAll P h vals args) :
  ∃ a vs ns,vals = [Value.ref a]/\args = [WData.list (ns.map WData.int)]/\h.get? a=some { cls:=.type "list",data:=.seq vs.toArray }/\IntsAre vs ns/\ns.length<=n:=by
 have hsh:WShape.hasAll [] args [.list .int]=true:=(pre_splitW hpre).1
 have hc:l.pre.holds [] { args:=args }=true:=(pre_splitW hpre).2
 obtain⟨d,r,rfl,h1,h2⟩:=hasAllW_cons hsh
 obtain rfl:=hasAllW_nil h2
 obtain⟨xs,rfl,h3⟩:=hasW_list h1
 obtain⟨ns,rfl⟩:=items_int h3
 have hlen:ns.length<=n:=by
  unfold OpenLaw.pre at hc
  have h4:(WTm.not (.lt (.lit (.int (n:Int))) (.len (.arg 0)))).holds [] { args:=[.list (ns.map .int)] }=true:=by
   have h4:=(holds_andW hc).1
   rw[hn]at h4
   exact h4
  have h5:=condW_of h4 (w_not (w_lt w_lit (w_len_list (w_arg rfl))))
  rw[LB]at h5
  refine Nat.le_of_not_lt fun q=>?_
  have q':(n:Int)<((ns.length:Nat):Int):=by omega
  first
   | (rw[decide_eq_true q']at h5;exact absurd h5 (by decide))
   | (simp at h5;omega)
 cases hwl with
 |cons w1 w2 =>
  cases w2
  cases w1 with
  |list ho hall=>exact⟨_,_,ns,rfl,rfl,ho,pE ns _ hall,hlen⟩
theorem E9(l:OpenLaw)(args:List WData):l.row.toRowW.claim.post args (.bool true) args=true :=
 postW_of (r:=l.row.toRowW) (X:=(true == true))
  (show WShape.has [] (.bool true) .bool=true by first | rfl | decide | simp[WShape.has,WShape.arms,WShape.armsAll])
  (show(WTm.eq .res (.lit (.bool true))).value [] { args:=args,res:=some (.bool true),after:=args }=some (.bool (true == true)) from w_eq_bool (w_res rfl) w_lit) rfl
theorem attach_call{l:OpenLaw}{n:Nat}{q:Program}{loose:List Str}{XP:(Str->Option Value)->Heap->Prop}{YP:World->Heap->Prop}{d:DefRec}
  (hn:l.most=some n) (hdf:d.params.defaults = [])
  (call:∀(w:World)(s₀ s₁:Shared)(mg mb:Str->Option Value)(fa:Addr)(o:Obj)(pm cd doc:Value)(a:Addr)(vs:List Value)(ns:List Int),
   Ground q loose [] XP w s₀ mg mb s₁.heap->YP w s₁.heap ->
   s₁.heap.get? fa=some o->o.data=.func (docDef d.name d.params d.body d.scope pm cd doc)->s₁.heap.CodeRec cd d.name->mg d.name=some (.ref fa) ->
   s₁.heap.get? a=some { cls:=.type "list",data:=.seq vs.toArray }->IntsAre vs ns->ns.length<=n->s₁.gens=#[] ->
   codeAny (model l.prog w) callerA (.call (.ref fa) ⟨[.ref a],[]⟩) (fun r s'=>r=.ok (.ret (.bool true))/\OldK s₁.heap s'.heap/\s'.os=s₁.os/\AllBare s'.gens) s₁) :
  WalkO q loose XP YP l.row.toRowW d [] (fun f vs=>PySem.call f vs):=by
 intro w s₀ s₁ mg mb G Y fa o pm cd doc dV kV ho hd hcd hD hmg hg args vals as hpre hlay hrd hwl hlo
 obtain rfl:dV=.none:=Dflts.none hD hdf
 obtain rfl:kV=.none:=Dflts.noKw hD
 obtain⟨a,vs,ns,rfl,rfl,hobj,hints,hlen⟩:=EY hn hpre hwl
 refine enter_call (codeAny_mono (call w s₀ s₁ mg mb fa o pm cd doc a vs ns G Y ho (fd_plain hd) hcd hmg hobj hints hlen hg) fun r s' hq=>?_)
 obtain⟨rfl,h2,h3,h4⟩:=hq
 exact⟨.inl ⟨.bool true,.bool true,[],rfl,fun _=>rfl,.bool true,E9 l _,fun _=>⟨OV,fun _ hm=>(nomatch hm)⟩⟩,h2,h3,h4⟩
section
variable{prog:Program}{w:World}{A:Around}{E:Value->Shared->Prop}{s:Shared}{K:Frag}
end
end Att
namespace L2
open PySem PySem.Spec PyProof.Rows
theorem vE:∀{vs:List Value}{ns:List Int},IntsAre vs ns->Vals (ns.map V.int) vs
 |_,_,.nil=>.nil
 |_,_,.cons n t h=>.cons ⟨t,rfl⟩ (vE h)
def Only(H:Hp):Prop:=∀ b,H b=none∨∃ o xs,H b=some (.frz o (.lst xs))
theorem Iw{P:Program}{w:World}{K:LA}{mg mb:Str->Option Value}{CX:CXT}{k:Nat}{fa a:Addr}{fd:FuncData}{x:Str}{sp:Sp}{s₁:Shared}{vs:List Value}{ns:List Int}
  (KX:K.In s₁.heap) (hns:s₁.heap.Ns mainGlobals mg) (hb:s₁.heap.Ns builtinsNs mb) (hbb:∀ x:Str,x≠"__name__"->mb x=bootBuiltins x) (hlim:s₁.heap.NoLimit) (hg:s₁.gens=#[])
  (ha:s₁.heap.get? a=some { cls:=.type "list",data:=.seq vs.toArray }) (hi:IntsAre vs ns) (hl:ns.length<=sizeLine) (hr:Room k callerA)
  (F:∀ base:Heap,K.In base->base.Ns mainGlobals mg->FnOk P w K mg base CX k fa fd [x] sp) (hbind:∀(s:Shared)(u:Value),BindsTo s fd ⟨[u],[]⟩ [(x,u)])
  (hsp:∀ H:Hp,Only H->SqL K H a (ns.map V.int)->sp [.ref a] H (fun v _=>v=.bl true) fun _ _ _=>False)
  (hCX:∀ H e s',CX [] H s₁ (fun _ _ _=>False) e s'->False) :
  codeAny (model P w) callerA (.call (.ref fa) ⟨[.ref a],[]⟩) (fun r s'=>r=.ok (.ret (.bool true))/\OldK s₁.heap s'.heap/\s'.os=s₁.os/\AllBare s'.gens) s₁:=by
 have rv:=vE hi
 have lenV:=hi.length
 have core:∀ H:Hp,Only H->SqL K H a (ns.map V.int)->HOk P w H s₁.heap->(∀ b,H b≠none->b=a)->(H a≠none->K.lookup a=none) ->
   codeAny (model P w) callerA (.call (.ref fa) ⟨[.ref a],[]⟩) (fun r s'=>r=.ok (.ret (.bool true))/\OldK s₁.heap s'.heap/\s'.os=s₁.os/\AllBare s'.gens) s₁:=by
  intro H hO hS hok hA hK
  have base_of:∀{b:Addr}{o:Obj},s₁.heap.get? b=some o->H b=none->(hidT s₁.heap H).get? b=some o:=fun e n=>ID e n
  have noA:∀{b:Addr}{o:Obj}{es:Array DictEntry}{ep:Nat},s₁.heap.get? b=some o->o.data=.dict es ep->H b=none:=fun{b o es ep} e d=>by
   cases q:H b with
   |none=>rfl
   |some u =>
    have e':b=a:=hA b (by rw[q];simp)
    subst e'
    rw[ha]at e;cases e
    have d':Data.seq vs.toArray _=Data.dict es ep:=d
    cases d'
  have nsK:∀{b:Addr}{m:Str->Option Value},s₁.heap.Ns b m->(hidT s₁.heap H).Ns b m:=fun{b m} ⟨o,es,ep,e,d,r⟩=>⟨o,es,ep,base_of e (noA e d),d,r⟩
  have hKb:K.In (hidT s₁.heap H):=fun b o e=>base_of (KX b o e) (by
   cases q:H b with
   |none=>rfl
   |some u =>
    have e':b=a:=hA b (by rw[q];simp)
    subst e'
    rw[hK (by rw[q];simp)]at e;cases e)
  have hM:Mod K mg (hidT s₁.heap H):=⟨hKb,nsK hns,⟨mb,nsK hb,hbb⟩,let ⟨mc,h1,h2⟩:=hlim;⟨mc,nsK h1,h2⟩⟩
  have e0:Env0 P w K mg (hidT s₁.heap H) callerA [] s₁ H:=⟨rfl,hM,fun b o e=>Kw e,Nat.le_of_eq (Gg _ _),trivial,fun b hb=>absurd (show b∈([]:List Addr) from hb) (by simp),hok,.of_eq hg⟩
  refine codeAny_mono ((F _ hKb (nsK hns)).run callerA [] s₁ H ⟨[.ref a],[]⟩ [.ref a] [.ref a] _ _ hr e0 (hbind s₁ (.ref a)) (.cons rfl .nil) (hsp H hO hS)) fun r s' h=>?_
  cases r with
  |error e=>exact(hCX H e s' h).elim
  |ok fl =>
   cases fl with
   |next=>exact False.elim h
   |brk=>exact False.elim h
   |cont=>exact False.elim h
   |ret u =>
    obtain⟨v,H',os,bare,un,hok',r',q⟩:=h
    have q':v=.bl true:=q
    subst q'
    obtain rfl:u=Value.bool true:=r'
    refine⟨rfl,OldK.of_keep fun b o e=>?_,os,bare⟩
    cases q:H b with
    |none=>exact un.keep b o e q (by intro z;exact absurd (show b∈([]:List Addr) from z) (by simp)) (by simp)
    |some u =>
     rcases hO b with z | ⟨ob,xs,z⟩
     ·rw[q]at z;cases z
     ·have z2:=un.frzs b ob _ z
      obtain⟨e1,_⟩:=hok b _ z
      obtain⟨e2,_⟩:=hok' b _ z2
      rw[e]at e1;cases e1
      exact e2
 cases hk:K.lookup a with
 |some o =>
  have e:=KX a o hk
  rw[ha]at e
  cases e
  refine core (fun _=>none) (fun _=>.inl rfl) (.inr ⟨_,vs.toArray,_,hk,rfl,rfl,rfl,by rw[LV,lenV];exact hl,by simpa using rv⟩) (fun b u z=>by have z':(none:Option HO)=some u:=z;cases z') (fun b z=>absurd rfl z) fun z=>absurd rfl z
 |none =>
  refine core (fun b=>if b=a then some (.frz { cls:=.type "list",data:=.seq vs.toArray } (.lst (ns.map V.int))) else none) (fun b=>?_) (.inl (.inr ⟨{ cls:=.type "list",data:=.seq vs.toArray },if_pos rfl⟩)) (fun b u z=>?_) (fun b z=>?_) fun _=>hk
  ·by_cases hb:b=a
   ·exact .inr ⟨_,_,if_pos hb⟩
   ·exact .inl (if_neg hb)
  ·by_cases hb:b=a
   ·have z':=(if_pos hb).symm.trans z
    cases z'
    subst hb
    exact⟨ha,by rw[LB];exact hl,vs,_,rv,ha⟩
   ·have z':=(if_neg hb).symm.trans z
    cases z'
  ·by_cases hb:b=a
   ·exact hb
   ·exact absurd (if_neg hb) z
end L2
namespace L2
open PySem PySem.Spec PyProof.Rows
theorem walk_of{l:O2}{n k:Nat}{q:Program}{loose:List Str}{XP:(Str->Option Value)->Heap->Prop}{YP:World->Heap->Prop}{d:DefRec}{K:Params->LA}{CX:World->CXT}{sp:World->Sp}{x:Str}
  (hn:l.most=some n) (hn2:n<=sizeLine) (hdf:d.params.defaults = []) (hr:Room k callerA)
  (hY:∀(w:World)(h:Heap),YP w h->(K w.params).In h)
  (F:∀(w:World)(mg:Str->Option Value)(fa:Addr)(h:Heap),(K w.params).In h->h.Ns mainGlobals mg->mg d.name=some (.ref fa) ->
   ∃ fd:FuncData,(∀(s:Shared)(u:Value),BindsTo s fd ⟨[u],[]⟩ [(x,u)]) /\
    ∀ base:Heap,(K w.params).In base->base.Ns mainGlobals mg->FnOk l.prog w (K w.params) mg base (CX w) k fa fd [x] (sp w))
  (hsp:∀(w:World)(H:Hp)(a:Addr)(ns:List Int),ns.length<=n->Only H->SqL (K w.params) H a (ns.map V.int)->sp w [.ref a] H (fun v _=>v=.bl true) fun _ _ _=>False)
  (hCX:∀(w:World)(H:Hp)(s:Shared)(e:Value)(s':Shared),CX w [] H s (fun _ _ _=>False) e s'->False) :
  PySem.W.WalkO q loose XP YP l.row.toRowW d [] (fun f vs=>PySem.call f vs):=by
 refine Att.attach_call hn hdf fun w s₀ s₁ mg mb fa o pm cd doc a vs ns G Y ho hd hcd hmg hobj hints hlen hg=>?_
 have KX:=hY w _ Y
 obtain⟨fd,hb,hF⟩:=F w mg fa _ KX G.T.g hmg
 exact Iw KX G.T.g G.T.b G.T.builtins G.T.nolimit hg hobj hints (MB hlen hn2) hr hF hb (fun H hO hS=>hsp w H a ns hlen hO hS) fun H e s'=>hCX w H s₁ e s'
end L2
namespace L2
open PySem PySem.Spec PyProof.Rows
def uK(s:Stmt)(j:Nat):Stmt:=match s with
 |.ClassDef _ _ _ body _ _ _ _ _ _ _=>body.getD j (.Pass ⟨0,0,0,0⟩)
 |_=>.Pass ⟨0,0,0,0⟩
def aH(s:Stmt):Arguments:=match s with
 |.FunctionDef _ a _ _ _ _ _ _ _ _=>a
 |_=>{ posonlyargs:=[],args:=[],vararg:=none,kwonlyargs:=[],kw_defaults:=[],kwarg:=none,defaults:=[] }
def aE(s:Stmt):List Stmt:=match s with
 |.FunctionDef _ _ b _ _ _ _ _ _ _=>b
 |_=>[]
def aj(s:Stmt):Scope:=match s with
 |.FunctionDef _ _ _ _ _ _ sc _ _ _=>sc
 |_=>{ kind:=.function,names:=[],isGenerator:=false,isCoroutine:=false }
abbrev CX0:CXT:=fun _ _ _ _ _ _=>False
abbrev E0:XK:=fun _ _ _=>False
theorem aR{X:Cx}:rH CX0 X E0:=fun _ _ _ _ _ _ _ h=>h.elim
structure Fun(K:LA)(x qual:Str)(st:Stmt)(f:Addr)(fd:FuncData):Prop where
 ex:∃(oc:Value)(od:Option Addr)(kV doc pm:Value)(an:Option Addr)(cdv ct:Value)(osl:Array (Option Value)),
  fd=LX x qual (aH st) (aE st) (aj st) .none kV doc pm an cdv ct/\K.lookup f=some ⟨oc,od,.func fd,osl⟩/\LS K cdv qual=true
 kp:LP K (.ref f)=true
section
variable{P:Program}{w:World}{K:LA}{mg:Str->Option Value}{base:Heap}
theorem Fun.ok{x qual:Str}{st:Stmt}{f:Addr}{fd:FuncData}{N ps:List Str}{k:Nat}{sp:Sp}(F:Fun K x qual st f fd)(S:aI N ps (aj st))(len:∀ vs H Q E,sp vs H Q E->vs.length=ps.length)
  (hbody:∀(cdv:Value)(A:Around)(outer:List Env)(s:Shared)(H:Hp)(vs:List V)(Q:VK)(E:XK),Room k (A.deeper (envOfC qual (aj st) s.heap.objs.size f cdv))->sp vs H Q E ->
   ∃ t,PSs (cxOf CX0 P w K mg base N qual (aj st) f cdv A outer s H E).nox (aE st) t/\t { nx:=fun _ H'=>Q .non H',rt:=Q } (start N vs) H):FnOk P w K mg base CX0 (k+1) f fd ps sp:=by
 obtain⟨oc,od,kV,doc,pm,an,cdv,ct,osl,rfl,lk,hcd⟩:=F.ex
 refine fn_of lk hcd S len fun A outer s H vs Q E hr hsp=>?_
 obtain⟨t,h,q⟩:=hbody cdv A outer s H vs Q E hr hsp
 exact⟨t,h.nox,q⟩
theorem Fun.binds{x qual:Str}{st:Stmt}{f:Addr}{fd:FuncData}{ps:List Str}(F:Fun K x qual st f fd)
  (h:∀(kV doc pm:Value)(an:Option Addr)(cdv ct:Value)(us:List Value),us.length=ps.length->bindArgs (LX x qual (aH st) (aE st) (aj st) .none kV doc pm an cdv ct) ⟨us,[]⟩=pure (ps.zip us)):qz K fd ps []:=by
 obtain⟨oc,od,kV,doc,pm,an,cdv,ct,osl,rfl,lk,hcd⟩:=F.ex
 exact .all (h kV doc pm an cdv ct)
theorem aT{x qual:Str}{st:Stmt}{f:Addr}{oc:Value}{od an:Option Addr}{osl:Array (Option Value)}{kV doc pm cdv ct:Value}(l:K.lookup f=some ⟨oc,od,.func (LX x qual (aH st) (aE st) (aj st) .none kV doc pm an cdv ct),osl⟩)
  (c:LS K cdv qual=true) (k:LP K (.ref f)=true):Fun K x qual st f (LX x qual (aH st) (aE st) (aj st) .none kV doc pm an cdv ct):=⟨⟨oc,od,kV,doc,pm,an,cdv,ct,osl,rfl,l,c⟩,k⟩
end
theorem KW{A:Around}{k:Nat}(hr:Room k A):A.units+1<cLine:=OQ (Nat.add_le_add_left (by decide:1<=64) _) hr.units
theorem aB{n:Nat}(h:n<=1000):n<sizeLine:=OQ h (by decide)
section
variable{X:Cx}
theorem pv(i:Nat){x:Str}{pos:Pos}(hN:X.N[i]?=some x:=by rfl)(hv:Vis X.env.scope x:=by first | exact Or.inl rfl | exact Or.inr (Or.inl rfl) | exact Or.inr (Or.inr rfl)) (hd:(x == ("__debug__" : Str))=false:=by decide)
  (hcd:(x == ("__classdict__" : Str))=false:=by decide):PE X (.Name x pos) (tVar i):=pe_var hN hv hd hcd
end
theorem iteF{A B:Prop}(h:B):if false=true then A else B:=by
 rw[if_neg L8]
 exact h
theorem iteT{A B:Prop}(h:A):if true=true then A else B:=by
 rw[if_pos rfl]
 exact h
theorem ite2{c A B:Prop} [Decidable c] (h1:c->A) (h2:¬ c->B):if c then A else B:=by
 by_cases h:c
 ·rw[if_pos h]
  exact h1 h
 ·rw[if_neg h]
  exact h2 h
theorem kT{c A B:Prop} [Decidable c] (hc:c) (h:B):if(!decide c)=true then A else B:=by
 rw[decide_eq_true hc]
 exact iteF h
def Same(H H':Hp):Prop:=∀ b o,H b=some o->H' b=some o
theorem Same.trans{H H1 H2:Hp}(a:Same H H1)(b:Same H1 H2):Same H H2:=fun c o h=>b c o (a c o h)
theorem Same.seq{K:LA}{H H':Hp}{a:Addr}{xs:List V}(e:Same H H')(h:SqL K H a xs):SqL K H' a xs:=by
 rcases h with(h | ⟨o,h⟩) | h
 ·exact .inl (.inl (e _ _ h))
 ·exact .inl (.inr ⟨o,e _ _ h⟩)
 ·exact .inr h
end L2
set_option maxRecDepth 100000
set_option maxHeartbeats 4000000
namespace L2
open PySem PySem.Spec PyProof.Rows
end L2
namespace L2
open PySem PySem.Spec PyProof.Rows
section
variable(P:Program)(w:World)
end
section
variable{P:Program}{w:World}{H H':Hp}{h h':Heap}{a:Addr}{o:HO}
end
section
variable{P:Program}{w:World}{H:Hp}{h h':Heap}{x e:Addr}{o':HO}
end
section
variable{fs fs' ex ex':List Addr}{H H1 H2:Hp}{h h1 h2 h':Heap}{a x e:Addr}{o:HO}
end
end L2
namespace L2
open PySem PySem.Spec PyProof.Rows
section
variable{X:Cx}{pins:List (Addr×Obj)}{σ:List (Option V)}{H H':Hp}{s:Shared}{h':Heap}
end
end L2
namespace L2
open PySem PySem.Spec PyProof.Rows
section
variable{X:Cx}
variable{a b:Expr}{ta tb:TE}{pos:Pos}
variable{tA tB':TT}{rest:List Expr}
end
end L2
namespace L2
open PySem PySem.Spec PyProof.Rows
section
variable{X:Cx}{pins:List (Addr×Obj)}{σ:St}{H:Hp}{s:Shared}{a:Addr}{xs ys:List V}
end
section
variable{X:Cx}{pins:List (Addr×Obj)}{σ:St}{H:Hp}{s:Shared}{E:Value->Shared->Prop}
end
section
variable{X:Cx}{st:Stmt}{rest:List Stmt}{t u:TS}{e:Expr}{te:TE}{pos:Pos}
end
section
variable{X:Cx}{pos:Pos}
end
section
variable{X:Cx}{pos:Pos}
end
end L2
namespace L2
open PySem PySem.Spec PyProof.Rows
section
variable{X:Cx}{tg:Expr}
end
end L2
namespace L2
open PySem PySem.Spec PyProof.Rows
section
variable{X:Cx}{a b c:Expr}{ta tb tc:TE}{pos:Pos}
end
section
variable{X:Cx}{a b c:Expr}{ta tb tc:TE}{pos:Pos}
end
end L2
namespace L2
open PySem PySem.Spec PyProof.Rows
section
variable{prog:Program}{w:World}{A:Around}{E:Value->Shared->Prop}{s:Shared}{K:LA}{x dx C f:Addr}{mA:Str->Option Value}{name:Str}{v:Value}
end
section
variable{P:Program}{w:World}{H H':Hp}{h h':Heap}{a C dx:Addr}{fs fs':List (Str×V)}
end
section
variable{X:Cx}{pins:List (Addr×Obj)}{σ:St}{H:Hp}{s:Shared}{a C dx:Addr}{fs:List (Str×V)}{f:Str}{v:V}{A:Around}{E:Value->Shared->Prop}
end
section
variable{X:Cx}{o e value:Expr}{f:Str}{pos pos' tpos:Pos}{ta tv:TE}
end
section
variable{X:Cx}{pins:List (Addr×Obj)}{σ:St}{H:Hp}{s:Shared}{A:Around}{E:Value->Shared->Prop}{Q:Value->Shared->Prop}{c:Value}{b:Bool}
end
end L2
namespace L2
open PySem PySem.Spec PyProof.Rows
section
variable{X:Cx}{e:Expr}{es:List Expr}{te:TE}{t:TA}{pos:Pos}
end
section
variable{X:Cx}{pins:List (Addr×Obj)}{σ:St}{H:Hp}{s s':Shared}
end
section
variable{X:Cx}{CX:CXT}{k:Nat}{f C:Addr}{fd:FuncData}{ps:List Str}{sp:Sp}{dvs:List V}{ds:List Value}{E:XK}{x m:Str}{p pos apos:Pos}{e o:Expr}{es:List Expr}{ta:TE}{t:TA}
end
section
variable{X:Cx}{CX:CXT}{k:Nat}{f C:Addr}{fd:FuncData}{ps ks:List Str}{sp:Sp}{E:XK}{x m:Str}{p pos apos kpos:Pos}{e o:Expr}{es:List Expr}{kws:List Keyword}{te ta:TE}{t tk:TA}{nm:Option Str}
variable{g:List Value->List Value->List Value}{gV:List V->List V->List V}
end
end L2
namespace L2
open PySem PySem.Spec PyProof.Rows
section
variable{X:Cx}{x:Str}{p pos:Pos}{e:Expr}{es:List Expr}{t:TA}{id T:String}{r:List V->Hp->VK->Prop}
end
end L2
namespace L2
open PySem PySem.Spec PyProof.Rows
section
variable{κ:Type} [DecidableEq κ]
def valV(kvs:List (κ×V))(k:κ):Option V:=(kvs.find? fun kv=>decide (kv.1=k)).map (·.2)
def putK(kvs:List (κ×V))(k:κ)(v:V):List (κ×V) :=
 if(kvs.any fun kv=>decide (kv.1=k))=true then kvs.map (fun kv=>if kv.1=k then(kv.1,v) else kv) else kvs++[(k,v)]
theorem cE{p:κ×V}{r:List (κ×V)}{k:κ}(e:p.1=k):valV (p::r) k=some p.2:=by simp[valV,NV,e]
theorem bW{p:κ×V}{r:List (κ×V)}{k:κ}(e:¬ p.1=k):valV (p::r) k=valV r k:=by simp[valV,NV,e]
theorem kE(k:κ):∀ kvs:List (κ×V),(kvs.any fun kv=>decide (kv.1=k))=(valV kvs k).isSome
 |[]=>rfl
 |p::r=>by
  rw[ND]
  by_cases e:p.1=k
  ·simp only[cE e,decide_eq_true e,Bool.true_or,Option.isSome_some]
  ·rw[bW e,decide_eq_false e,Bool.false_or];exact kE k r
theorem BR(k j:κ)(y:V):∀ kvs:List (κ×V),valV (kvs.map fun kv=>if kv.1=k then(kv.1,y) else kv) j=(valV kvs j).map fun x=>if j=k then y else x
 |[]=>rfl
 |p::r=>by
  have ih:=BR k j y r
  rw[Mc]
  by_cases h:p.1=k
  ·rw[if_pos h]
   by_cases e:p.1=j
   ·rw[cE (p:=(p.1,y)) e,cE e,OC,if_pos (e.symm.trans h)]
   ·rw[bW (p:=(p.1,y)) e,bW e,ih]
  ·rw[if_neg h]
   by_cases e:p.1=j
   ·rw[cE (p:=p) e,cE e,OC,if_neg (fun z=>h (e.trans z))]
   ·rw[bW (p:=p) e,bW e,ih]
theorem vF(k j:κ)(y:V):∀ kvs:List (κ×V),valV kvs k=none->valV (kvs++[(k,y)]) j=if j=k then some y else valV kvs j
 |[],_=>by
  by_cases e:k=j
  ·rw[if_pos e.symm];exact cE (p:=(k,y)) e
  ·rw[if_neg (fun z=>e z.symm)];exact bW (p:=(k,y)) e
 |p::r,hn=>by
  rw[M1]
  have hk:¬ p.1=k:=fun z=>by rw[cE z]at hn;cases hn
  rw[bW hk]at hn
  have ih:=vF k j y r hn
  by_cases e:p.1=j
  ·rw[cE e,cE e,if_neg (fun z=>hk (e.trans z))]
  ·rw[bW e,bW e,ih]
theorem om(kvs:List (κ×V))(k j:κ)(y:V):valV (putK kvs k y) j=if j=k then some y else valV kvs j:=by
 unfold putK
 by_cases a:(kvs.any fun kv=>decide (kv.1=k))=true
 ·rw[if_pos a,BR]
  rw[kE]at a
  by_cases e:j=k
  ·obtain⟨x,hx⟩:=Ot.mp a
   rw[if_pos e,e,hx,OC,if_pos rfl]
  ·rw[if_neg e]
   cases valV kvs j with
   |none=>rfl
   |some x=>rw[OC,if_neg e]
 ·rw[if_neg a]
  refine vF k j y kvs ?_
  rw[kE]at a
  cases q:valV kvs k with
  |none=>rfl
  |some x=>rw[q]at a;exact(a rfl).elim
theorem gh(kvs:List (κ×V))(k:κ)(v:V):(putK kvs k v).length<=kvs.length+1:=by
 unfold putK
 split
 ·rw[LB];omega
 ·rw[Ly,Mb,NT];omega
theorem HI{kvs:List (κ×V)}{k:κ}(v:V)(h:valV kvs k=none):putK kvs k v=kvs++[(k,v)]:=by
 unfold putK
 rw[kE,h]
 exact if_neg (by decide)
theorem RelO.isSome_eq{o:Option V}{u:Option Value}(r:RelO o u):o.isSome=u.isSome:=by
 cases o with
 |none=>cases u with
  |none=>rfl
  |some _=>exact(show False from r).elim
 |some _=>cases u with
  |none=>exact(show False from r).elim
  |some _=>rfl
theorem KV.val{kvs:List (κ×V)}{vs:List (κ×Value)}(r:KV kvs vs)(k:κ):RelO (valV kvs k) (valueAt vs k):=by
 unfold KV at r
 induction r with
 |nil=>exact True.intro
 | @cons p q ps qs h t ih =>
  obtain⟨h1,h2⟩:=h
  by_cases e:p.1=k
  ·have e':q.1=k:=h1.symm.trans e
   have b:valueAt (q::qs) k=some q.2:=by simp[valueAt,NV,e']
   rw[cE e,b];exact h2
  ·have e':¬ q.1=k:=fun z=>e (h1.trans z)
   have b:valueAt (q::qs) k=valueAt qs k:=by simp[valueAt,NV,e']
   rw[bW e,b];exact ih
theorem KV.any{kvs:List (κ×V)}{vs:List (κ×Value)}(r:KV kvs vs)(k:κ):(kvs.any fun kv=>decide (kv.1=k))=vs.any fun kv=>decide (kv.1=k):=by
 unfold KV at r
 induction r with
 |nil=>rfl
 |cons h t ih=>rw[ND,ND,ih,h.1]
theorem KV.repl{kvs:List (κ×V)}{vs:List (κ×Value)}(r:KV kvs vs)(k:κ){y:V}{u:Value}(ry:RelV y u) :
  KV (kvs.map fun kv=>if kv.1=k then(kv.1,y) else kv) (vs.map fun kv=>if kv.1=k then(kv.1,u) else kv):=by
 unfold KV at r ⊢
 induction r with
 |nil=>exact .nil
 | @cons p q ps qs h t ih =>
  rw[Mc,Mc]
  refine .cons ?_ ih
  obtain⟨h1,h2⟩:=h
  by_cases e:p.1=k
  ·rw[if_pos e,if_pos (h1.symm.trans e)];exact⟨h1,ry⟩
  ·rw[if_neg e,if_neg (fun z=>e (h1.trans z))];exact⟨h1,h2⟩
theorem KV.put{kvs:List (κ×V)}{vs:List (κ×Value)}(r:KV kvs vs)(k:κ){y:V}{u:Value}(ry:RelV y u):KV (putK kvs k y) (stored vs k u):=by
 unfold putK stored
 rw[r.any k]
 by_cases e:(vs.any fun kv=>decide (kv.1=k))=true
 ·rw[if_pos e,if_pos e];exact r.repl k ry
 ·rw[if_neg e,if_neg e];exact Paired.snoc r ⟨rfl,ry⟩
theorem KV.length{kvs:List (κ×V)}{vs:List (κ×Value)}(r:KV kvs vs):kvs.length=vs.length:=Paired.length r
end
theorem Iz{P:Program}{w:World}{k:Key}{u:Value}(r:RelV (kV k) u):(c6 P w).is k u=true:=by
 cases k with
 |inl i=>obtain⟨t,e⟩:=(show ∃ t,u=Value.int i t from r);subst e;exact Ak P w i t
 |inr x=>obtain⟨t,e⟩:=(show ∃ t,u=Value.str x t from r);subst e;exact Aj P w x t
theorem xu{P:Program}{w:World}:∀{ks:List Key}{us:List Value},Vals (ks.map kV) us->ItemsAre (c6 P w) ks us
 |[],_,r=>by rw[List.map_nil]at r;cases r;exact .nil
 |k::ks,_,r=>by
  rw[Mc]at r
  cases r with
  |cons h t=>exact .cons (Iz h) (xu t)
abbrev KT(H:Hp):List (List Key×V)->List (List Key×Addr×Value)->Prop:=Paired fun p q=>p.1=q.1/\H q.2.1=some (.tup (p.1.map kV))/\RelV p.2 q.2.2
theorem KT.val{H:Hp}{kvs:List (List Key×V)}{xs:List (List Key×Addr×Value)}(r:KT H kvs xs)(k:List Key):RelO (valV kvs k) ((atKey xs k).map (·.2)):=by
 induction r with
 |nil=>exact True.intro
 | @cons p q ps qs h t ih =>
  obtain⟨h1,_,h2⟩:=h
  by_cases e:p.1=k
  ·have e':q.1=k:=h1.symm.trans e
   have b:atKey (q::qs) k=some q.2:=by simp[atKey,NV,e']
   rw[cE e,b];exact h2
  ·have e':¬ q.1=k:=fun z=>e (h1.trans z)
   have b:atKey (q::qs) k=atKey qs k:=by simp[atKey,NV,e']
   rw[bW e,b];exact ih
theorem KT.repl{H:Hp}{kvs:List (List Key×V)}{xs:List (List Key×Addr×Value)}(r:KT H kvs xs)(k:List Key){y:V}{u:Value}(ry:RelV y u) :
  KT H (kvs.map fun kv=>if kv.1=k then(kv.1,y) else kv) (xs.map (putAt k u)):=by
 induction r with
 |nil=>exact .nil
 | @cons p q ps qs h t ih =>
  rw[Mc,Mc]
  refine .cons ?_ ih
  obtain⟨h1,h2,h3⟩:=h
  unfold putAt
  by_cases e:p.1=k
  ·rw[if_pos e,if_pos (h1.symm.trans e)];exact⟨h1,h2,ry⟩
  ·rw[if_neg e,if_neg (fun z=>e (h1.trans z))];exact⟨h1,h2,h3⟩
theorem KT.put{H:Hp}{kvs:List (List Key×V)}{xs:List (List Key×Addr×Value)}(r:KT H kvs xs)(k:List Key){b:Addr}{y:V}{u:Value}(hb:H b=some (.tup (k.map kV)))(ry:RelV y u) :
  KT H (putK kvs k y) (storedH xs k b u):=by
 have e:(kvs.any fun kv=>decide (kv.1=k))=(atKey xs k).isSome:=by
  rw[kE,(r.val k).isSome_eq,Option.isSome_map]
 unfold putK storedH
 rw[e]
 by_cases q:(atKey xs k).isSome=true
 ·rw[if_pos q,if_pos q];exact r.repl k ry
 ·rw[if_neg q,if_neg q];exact Paired.snoc r ⟨rfl,hb,ry⟩
theorem KT.keeps{H H':Hp}{kvs:List (List Key×V)}{xs:List (List Key×Addr×Value)}(r:KT H kvs xs)(ht:∀ b ys,H b=some (.tup ys)->H' b=some (.tup ys)):KT H' kvs xs :=
 Paired.mapP r fun _ _ z=>⟨z.1,ht _ _ z.2.1,z.2.2⟩
section
variable{P:Program}{w:World}{H:Hp}{h:Heap}{a:Addr}
theorem rd_of{u:HO}(ok:HOk P w H h)(e:Rd H a u):bT P w H h a u:=e.ok ok
theorem Gv{kvs:List (Key×V)}(ok:HOk P w H h)(e:Rd H a (.dK kvs)):kvs.length<=sizeLine/\(a == sysModules)=false/\∃ vs,KV kvs vs/\h.DictOf (c6 P w) a vs :=
 show bT P w H h a (.dK kvs) from rd_of ok e
theorem dk_of{kvs:List (Key×V)}(ok:HOk P w H h)(e:H a=some (.dK kvs)):kvs.length<=sizeLine/\(a == sysModules)=false/\∃ vs,KV kvs vs/\h.DictOf (c6 P w) a vs:=Gv ok (.inl e)
theorem Cq{ks:List Key}(ok:HOk P w H h)(e:H a=some (.tup (ks.map kV))):(tupleKind (c6 P w)).is h ks a:=by
 obtain⟨_,its,r,o,h1,h2,n,h3⟩:=(show bT P w H h a (.tup (ks.map kV)) from ok a _ e)
 exact⟨o,its.toArray,n,h1,h2,h3,by simpa using xu r⟩
theorem IH{kvs:List (List Key×V)}(ok:HOk P w H h)(e:Rd H a (.dT kvs)):kvs.length<=sizeLine/\(a == sysModules)=false /\
  ∃ xs,KT H kvs xs/\h.DictOfH (tupleKind (c6 P w)) a xs:=by
 obtain⟨z,y,xs,r,o,es,ep,h1,h2,h3,h4,h5⟩:=(show bT P w H h a (.dT kvs) from rd_of ok e)
 refine⟨z,y,xs,r,o,es,ep,h1,h2,h3,h4,fun x hx=>?_,h5⟩
 have all:∀{l:List (List Key×V)}{m:List (List Key×Addr×Value)},KT H l m->∀ x∈m,(tupleKind (c6 P w)).is h x.1 x.2.1:=by
  intro l m q
  induction q with
  |nil=>intro x hx;exact nomatch hx
  | @cons p q ps qs hq t ih =>
   intro x hx
   rcases LC.mp hx with e | hx
   ·subst e
    exact Cq ok (by rw[← hq.1];exact hq.2.1)
   ·exact ih x hx
 exact all r x hx
theorem dt_of{kvs:List (List Key×V)}(ok:HOk P w H h)(e:H a=some (.dT kvs)):kvs.length<=sizeLine/\(a == sysModules)=false /\
  ∃ xs,KT H kvs xs/\h.DictOfH (tupleKind (c6 P w)) a xs:=IH ok (.inl e)
end
def DGet(H:Hp)(a:Addr)(y:V)(r:Option V):Prop :=
 (∃ kvs k,Rd H a (.dK kvs)/\y=kV k/\r=valV kvs k)∨∃ kvs k b,Rd H a (.dT kvs)/\y=.ref b/\H b=some (.tup (k.map kV))/\r=valV kvs k
def DPut(H:Hp)(a:Addr)(y v:V)(H':Hp):Prop :=
 (∃ kvs k,H a=some (.dK kvs)/\y=kV k/\kvs.length<sizeLine/\H'=upd H a (.dK (putK kvs k v))) ∨
 ∃ kvs k b,H a=some (.dT kvs)/\y=.ref b/\H b=some (.tup (k.map kV))/\kvs.length<sizeLine/\H'=upd H a (.dT (putK kvs k v))
theorem DGet.k{H:Hp}{a:Addr}{kvs:List (Key×V)}{k:Key}(e:H a=some (.dK kvs)):DGet H a (kV k) (valV kvs k):=.inl ⟨kvs,k,.inl e,rfl,rfl⟩
theorem DPut.k{H:Hp}{a:Addr}{kvs:List (Key×V)}{k:Key}{v:V}(e:H a=some (.dK kvs))(hl:kvs.length<sizeLine):DPut H a (kV k) v (upd H a (.dK (putK kvs k v))):=.inl ⟨kvs,k,e,rfl,hl,rfl⟩
section
variable{X:Cx}{pins:List (Addr×Obj)}{σ:St}{H:Hp}{s:Shared}{a:Addr}{y v:V}{u r:Value}{o:Option V}{A:Around}{E:Value->Shared->Prop}
theorem Inv.big(I:Inv X pins σ H s):sysModules<s.heap.objs.size:=by
 have h:mainGlobals<s.heap.objs.size:=(I.mod.glob.keeps I.bk).lt
 exact Nat.lt_trans (by decide) h
theorem GJ{Q:Value->Shared->Prop}(hu:A.units+1<cLine)(I:Inv X pins σ H s)(g:DGet H a y (some v))(ry:RelV y u)(h:∀ w' s',Inv X pins σ H s'->RelV v w'->Q w' s') :
  wpAny (model X.prog X.w) A (getItem (.ref a) u) Q E s:=by
 rcases g with⟨kvs,k,e,ey,l⟩ | ⟨kvs,k,b,e,ey,eb,l⟩
 ·subst ey
  obtain⟨z,hd,vs,rel,dd⟩:=Gv I.hok e
  obtain⟨w',hw,rw'⟩:=RelO.some_of (v:=v) (o:=valueAt vs k) (by rw[l];exact rel.val k)
  exact wpAny_getItem_of (Iz ry) dd.mapOf hw (h w' _ (I.tok _) rw')
 ·subst ey
  cases (show u=Value.ref b from ry)
  obtain⟨z,hd,xs,rel,dd⟩:=IH I.hok e
  obtain⟨w',hw,rw'⟩:=RelO.some_of (v:=v) (o:=(atKey xs k).map (·.2)) (by rw[l];exact rel.val k)
  obtain⟨p,hp,hp2⟩:=Mr.mp hw
  refine wpAny_getItem_heap (tupleKind_room_in1 hu) (Cq I.hok eb) dd hp ?_
  rw[hp2]
  exact h w' _ (I.tok _) rw'
theorem Ld{Q:Value->Shared->Prop}(hu:A.units+1<cLine)(I:Inv X pins σ H s)(g:DGet H a y o)(ry:RelV y u)(h:∀ s',Inv X pins σ H s'->Q (.bool (!o.isSome)) s') :
  wpAny (model X.prog X.w) A (compareOp .NotIn u (.ref a)) Q E s:=by
 rcases g with⟨kvs,k,e,ey,l⟩ | ⟨kvs,k,b,e,ey,eb,l⟩
 ·subst ey
  obtain⟨z,hd,vs,rel,dd⟩:=Gv I.hok e
  refine wpAny_notIn_of (Iz ry) hd dd.mapOf ?_
  rw[← (rel.val k).isSome_eq,← l]
  exact h _ (I.tok _)
 ·subst ey
  cases (show u=Value.ref b from ry)
  obtain⟨z,hd,xs,rel,dd⟩:=IH I.hok e
  refine wpAny_notIn_heap (tupleKind_room_in1 hu) (Cq I.hok eb) hd dd ?_
  have q:=(rel.val k).isSome_eq
  rw[Option.isSome_map]at q
  rw[← q,← l]
  exact h _ (I.tok _)
theorem GG{h':Heap}{t':Nat}{ob:HO}(I:Inv X pins σ H s)(mu:Mut (H a))(hs:Heap.SameBut a s.heap h')(he:∃ q,h'.get? a=some q)(new:bT X.prog X.w (upd H a ob) h' a ob) :
  Inv X pins σ (upd H a ob) { s with heap:=h',toks:=t' } :=
 I.write (x:=a) (e:=a) mu (.inl rfl) (fun b q hb z=>(hs.2 b hb).trans z) he new
theorem dk_new{P:Program}{w:World}{H':Hp}{h':Heap}{kvs:List (Key×V)}{vs:List (Key×Value)}(z:kvs.length<=sizeLine)(hd:(a == sysModules)=false)(rel:KV kvs vs)(dd:h'.DictOf (c6 P w) a vs) :
  bT P w H' h' a (.dK kvs):=⟨z,hd,vs,rel,dd⟩
theorem GH{H':Hp}{Q:Unit->Shared->Prop}(hu:A.units+1<cLine)(I:Inv X pins σ H s)(g:DPut H a y v H')(ry:RelV y u)(rv:RelV v r)(h:∀ s',Inv X pins σ H' s'->Q () s') :
  wpAny (model X.prog X.w) A (setItem (.ref a) u r) Q E s:=by
 rcases g with⟨kvs,k,e,ey,l,eH⟩ | ⟨kvs,k,b,e,ey,eb,l,eH⟩
 ·subst ey eH
  obtain⟨z,hd,vs,rel,dd⟩:=dk_of I.hok e
  have hz:vs.length<=sizeLine:=by rw[← rel.length];exact z
  have hl:(putK kvs k v).length<=sizeLine:=by have:=gh kvs k v;omega
  refine wpAny_setItem_pairs (hsz:=hz) (Iz ry) dd fun h' dd' hs=>h _ ?_
  have he:∃ q,h'.get? a=some q:=let ⟨q,_,_,hq,_⟩:=dd';⟨q,hq⟩
  exact GG I (by rw[e];exact True.intro) hs he (dk_new hl hd (rel.put k rv) dd')
 ·subst ey eH
  cases (show u=Value.ref b from ry)
  obtain⟨z,hd,xs,rel,dd⟩:=dt_of I.hok e
  have hz:xs.length<=sizeLine:=by rw[← Paired.length rel];exact z
  have hl:(putK kvs k v).length<=sizeLine:=by have:=gh kvs k v;omega
  refine wpAny_setItem_heap (hsz:=hz) (tupleKind_room_in1 hu) (Cq I.hok eb) dd fun h' dd' hs=>h _ ?_
  obtain⟨q,es,ep,hq,h2,h3,h4,_,h5⟩:=dd'
  refine GG I (by rw[e];exact True.intro) hs ⟨q,hq⟩ ⟨hl,hd,_,(rel.put k eb rv).keeps fun c ys ec=>?_,q,es,ep,hq,h2,h3,h4,h5⟩
  rw[au (ne_of ec e (fun z=>nomatch z))]
  exact ec
end
section
variable{X:Cx}{pins:List (Addr×Obj)}{σ:St}{H:Hp}{s:Shared}{a:Addr}{kvs:List (Key×V)}{k:Key}{u:Value}{A:Around}{E:Value->Shared->Prop}
theorem d_len{Q:Value->Shared->Prop}(I:Inv X pins σ H s)(e:Rd H a (.dK kvs))(h:∀ t s',Inv X pins σ H s'->Q (.int kvs.length t) s'):wpAny (model X.prog X.w) A (call (.builtin "len") [.ref a]) Q E s:=by
 obtain⟨z,hd,vs,rel,dd⟩:=Gv I.hok e
 refine call_len_dict hd dd (by rw[← rel.length];rw[sizeLine_eq]at z;omega) ?_
 rw[← rel.length]
 exact h _ _ (I.tok _)
end
def NoSl(i:Expr):Prop:=∀ ov iv,subscripted i false ov iv=operate [ov,iv] (getItem ov iv)
theorem JT{prog:Program}{w:World}{A:Around}{E:Value->Shared->Prop}{s:Shared}{env:Env}{value slice:Expr}{pos:Pos}{T id:String}{Q:Value->Shared->Prop}
  (hl:typeLookup (.type T) "__getitem__" = pure (some (.builtin id))) (hs:NoSl slice)
  (h:wpAny (model prog w) A (eval value env) (fun o s₁=>wpAny (model prog w) A (eval slice env) (fun i s₂=>s₂.TypeIs o T/\wpAny (model prog w) A (getItem o i) Q E s₂) E s₁) E s) :
  wpAny (model prog w) A (eval (.Subscript value slice pos) env) Q E s:=by
 refine Subscript_ (wpAny_mono h (fun o s₁ h₁=>wpAny_mono h₁ (fun i s₂ h₂=>?_) fun _ _ x=>x) fun _ _ x=>x)
 obtain⟨hT,h₂⟩:=h₂
 unfold subscriptTail
 refine wpAny_bind ?_
 rw[getitemInPython_of_ne hT.not_modules]
 refine wpAny_bind (wpAny_specialOf hT hl ?_)
 have fin:wpAny (model prog w) A (subscripted slice false o i) (fun r s₃=>wpAny (model prog w) A (letTemporaryGo value o r >>= fun _=>pure r) Q E s₃) E s₂:=by
  rw[hs o i]
  exact wpAny_operating (wpAny_mono h₂ (fun r s₃ h₃=>wpAny_bind (wpAny_letTemporaryGo (wpAny_pure h₃))) fun _ _ x=>x)
 first
  |exact wpAny_pure (wpAny_bind fin)
  |exact wpAny_bind (wpAny_pure (wpAny_bind fin))
  |exact wpAny_bind fin
theorem AU{X:Cx}{pins:List (Addr×Obj)}{σ:St}{H:Hp}{s:Shared}{a:Addr}{y:V}{o:Option V}(I:Inv X pins σ H s)(g:DGet H a y o):s.TypeIs (.ref a) "dict":=by
 rcases g with⟨kvs,k,e,_,_⟩ | ⟨kvs,k,b,e,_,_,_⟩
 ·obtain⟨_,_,vs,_,dd⟩:=Gv I.hok e
  exact dd.typeIs
 ·obtain⟨_,_,xs,_,dd⟩:=IH I.hok e
  exact dd.typeIs
def tDGet(td ty:TE):TE:=fun σ H Q=>td σ H fun x H1=>ty σ H1 fun y H2=>∃ a v,x=.ref a/\DGet H2 a y (some v)/\Q v H2
def JS(ty td:TE):TE:=fun σ H Q=>ty σ H fun y H1=>td σ H1 fun x H2=>∃ a o,x=.ref a/\DGet H2 a y o/\Q (.bl (!o.isSome)) H2
def sDPut(td ty tv:TE):TS:=fun D σ H=>tv σ H fun v H1=>td σ H1 fun x H2=>ty σ H2 fun y H3=>∃ a H4,x=.ref a/\DPut H3 a y v H4/\D.nx σ H4
section
variable{X:Cx}{o i e value:Expr}{pos pos' tpos:Pos}{td ty tv:TE}
theorem tK(hu:X.A.units+1<cLine)(ho:PE X o td)(hi:PE X i ty)(hs:NoSl i):PE X (.Subscript o i pos) (tDGet td ty):=by
 intro pins s σ H Q I h
 refine JT PySem.F.slot_dict_getitem.lookup hs (thn (ho pins s σ H _ I h) fun u s1 ⟨x,H1,I1,rx,q1⟩=>thn (hi pins s1 σ H1 _ I1 q1) fun iv s2 ⟨y,H2,I2,ry,a,v,ex,g,q2⟩=>?_)
 subst ex
 obtain rfl:u=Value.ref a:=rx
 exact⟨AU I2 g,GJ hu I2 g ry fun w' s3 I3 rw'=>⟨v,H2,I3,rw',q2⟩⟩
theorem Fm(hu:X.A.units+1<cLine)(hi:PE X i ty)(ho:PE X o td):PC X .NotIn i o (JS ty td):=by
 intro pins s σ H Q I h
 refine thn (hi pins s σ H _ I h) fun iv s1 ⟨y,H1,I1,ry,q1⟩=>thn (ho pins s1 σ H1 _ I1 q1) fun u s2 ⟨x,H2,I2,rx,a,ov,ex,g,q2⟩=>?_
 subst ex
 obtain rfl:u=Value.ref a:=rx
 exact Ld hu I2 g ry fun s3 I3=>⟨.bl (!ov.isSome),H2,I3,rfl,q2⟩
theorem zx(hu:X.A.units+1<cLine)(ho:PE X o td)(hi:PE X i ty)(hv:PE X value tv)(hs:swapsWith value (some (.Subscript o i pos')) pos.line X.env=pure false) :
  PS X (.Assign [.Subscript o i pos'] value pos) (sDPut td ty tv):=by
 intro pins s σ H D I h
 refine wpAny_Assign_Subscript (thn (hv pins s σ H _ I h) fun r s1 ⟨v,H1,I1,rv,q1⟩=>thn (ho pins s1 σ H1 _ I1 q1) fun u s2 ⟨x,H2,I2,rx,q2⟩=>thn (hi pins s2 σ H2 _ I2 q2) fun iv s3 ⟨y,H3,I3,ry,a,H4,ex,g,q3⟩=>?_) hs
 subst ex
 obtain rfl:u=Value.ref a:=rx
 exact GH hu I3 g ry rv fun s4 I4=>⟨σ,H4,I4,q3⟩
end
theorem IJ{P:Program}{w:World}{H:Hp}(h:Heap)(hb:sysModules<h.objs.size):bT P w H (h.push { cls:=.type "dict",data:=.dict #[] }) h.objs.size (.dK []) :=
 ⟨MQ _,beq_eq_false_iff_ne.mpr (Ne.symm (Mt hb)),[],.nil,Heap.DictOf.new h⟩
def tDNewK:TE:=fun _ H Q=>∀ p,H p=none->Q (.ref p) (upd H p (.dK []))
section
variable{X:Cx}{pos:Pos}
theorem tJ:PE X (.Dict [] [] pos) tDNewK:=fun pins s σ H Q I h =>
 wpAny_Dict_empty ⟨.ref s.heap.objs.size,_,I.laid (a:=s.heap.objs.size) (o:=.dK []) (t':=s.toks) (fun _ _ q=>Heap.get?_push_of_some _ q) (LG _) (IJ s.heap I.big),rfl,h _ (I.hok.fresh (LG _))⟩
end
section
variable{X:Cx}{pins:List (Addr×Obj)}{σ:St}{H:Hp}{s:Shared}{a:Addr}{y d:V}{u r:Value}{o:Option V}{A:Around}{E:Value->Shared->Prop}
end
section
variable{X:Cx}{o e f:Expr}{apos cpos:Pos}{td ty tx:TE}
end
section
variable{X:Cx}{pins:List (Addr×Obj)}{σ:St}{H:Hp}{s:Shared}{a:Addr}{kvs:List (Key×V)}{A:Around}{E:Value->Shared->Prop}
end
section
variable{X:Cx}{pins:List (Addr×Obj)}{σ:St}{H:Hp}{s:Shared}{a:Addr}{y:V}{u:Value}{A:Around}{E:Value->Shared->Prop}
end
end L2
namespace Att
open PySem PySem.W PySem.Calls PyProof.Rows
section
variable{prog:Program}{w:World}{A:Around}{E:Value->Shared->Prop}{s:Shared}{K:Frag}
end
end Att
namespace L2
open PySem PySem.Spec PyProof.Rows
end L2
namespace L2
open PySem PySem.Spec PyProof.Rows
end L2
namespace L2
open PySem PySem.Spec PyProof.Rows
section
variable{P:Program}{w:World}{K:LA}{mg:Str->Option Value}{base:Heap}
end
section
variable{X:Cx}
theorem G3:i7 X (.builtin "len") (fun xs H Q=>∃ a kvs,xs = [V.ref a]/\H a=some (.dK kvs)/\Q (.int kvs.length) H):=by
 intro pins s σ H xs us Q I r h
 obtain⟨a,kvs,rfl,ha,q⟩:=h
 obtain⟨u,rfl,ru⟩:=lE r
 cases ru
 exact d_len I (.inl ha) fun t s' I'=>⟨.int kvs.length,H,I',⟨t,rfl⟩,q⟩
end
section
variable{κ:Type} [DecidableEq κ]
end
end L2
namespace L2
open PySem PySem.Spec PyProof.Rows
def clOf(env:Env)(fr:List (Str×Nat)):List (Str×Addr):=fr.map fun p=>(p.1,(env.cells.lookup p.1).getD 0)
def frOf(fr:List (Str×Nat))(σ:St):St:=fr.map fun p=>(σ[p.2]?).join
def dE(X:Cx)(scope:Scope)(fr:List (Str×Nat))(x:Str)(C:Addr)(ex:List Addr)(s:Shared)(H:Hp):Cx where
 prog:=X.prog
 w:=X.w
 K:=X.K
 mg:=X.mg
 base:=X.base
 A:=X.A
 N:=x::fr.map (·.1)
 s₀:=s
 H₀:=H
 env:=compEnvC scope (clOf X.env fr) C X.env
 outer:=X.stack
 stack:=X.stack
 ex:=ex
 fn:=fun _=>false
 calm:=X.calm
 pn:=[]
 xe:=fun _ _=>False
structure bK(X:Cx)(scope:Scope)(fr:List (Str×Nat))(x:Str):Prop where
 clos:closureFor scope X.env=pure (clOf X.env fr)
 cell:∀ y∈scope.names,y.2≠.cell
 kind:scope.kind=.function
 names:∀ y∈scope.names,y.2=.local->scope.names.lookup y.1=some .local
 xl:scope.names.lookup x=some .local
 nd:(x::fr.map (·.1)).Nodup
 slot:∀ p∈fr,X.N[p.2]?=some p.1/\X.env.kindOf p.1=some .cell
 has:∀ y∈(relabel scope X.env).names,(y.2=.cell∨y.2=.free)->y.1∈fr.map (·.1)
 frk:∀ p∈fr,(relabel scope X.env).names.lookup p.1=some .cell
theorem bK.plain{X:Cx}{scope:Scope}{x:Str}(clos:closureFor scope X.env=pure [])(cell:∀ y∈scope.names,y.2≠.cell)(kind:scope.kind=.function)(names:∀ y∈scope.names,y.2=.local->scope.names.lookup y.1=some .local)
  (hx:scope.names.lookup x=some .local) (nf:∀ y∈scope.names,y.2≠.free):bK X scope [] x where
 clos:=clos
 cell:=cell
 kind:=kind
 names:=names
 xl:=hx
 nd:=by simp
 slot:=fun p hp=>nomatch hp
 has:=fun y hy hk=>by
  obtain⟨⟨n,k⟩,hz,e⟩:=L9.mp (show y∈scope.names.map _ from hy)
  have h1:=nf _ hz
  have h2:=cell _ hz
  dsimp only at e h1 h2
  have hf:(k == NameKind.free)=false:=by simpa using h1
  rw[hf]at e
  simp only[ON,MR,if_false]at e
  subst e
  exact(hk.elim h2 h1).elim
 frk:=fun p hp=>nomatch hp
theorem bK.one{X:Cx}{scope:Scope}{x y:Str}{j:Nat}(clos:closureFor scope X.env=pure (clOf X.env [(y,j)]))(cell:∀ y∈scope.names,y.2≠.cell)(kind:scope.kind=.function)(names:∀ y∈scope.names,y.2=.local->scope.names.lookup y.1=some .local)
  (hx:scope.names.lookup x=some .local) (nd:([x,y]:List Str).Nodup) (hN:X.N[j]?=some y) (hk:X.env.kindOf y=some .cell) (nf:∀ z∈scope.names,z.2=.free->z.1=y) (hr:(relabel scope X.env).names.lookup y=some .cell):bK X scope [(y,j)] x where
 clos:=clos
 cell:=cell
 kind:=kind
 names:=names
 xl:=hx
 nd:=nd
 slot:=fun p hp=>by
  have e:p=(y,j):=by simpa using hp
  subst e
  exact⟨hN,hk⟩
 has:=fun z hz hk=>by
  obtain⟨⟨n,k⟩,hm,e⟩:=L9.mp (show z∈scope.names.map _ from hz)
  have h2:=cell _ hm
  dsimp only at e h2
  have hn:z.1=n:=by rw[← e];split<;>rfl
  have hf:k=.free:=by
   by_cases q:k=.free
   ·exact q
   ·have hb:(k == NameKind.free)=false:=by simpa using q
    rw[hb]at e
    simp only[ON,MR,if_false]at e
    subst e
    exact(hk.elim h2 q).elim
  have:=nf _ hm hf
  rw[hn]
  simp[← this]
 frk:=fun p hp=>by
  have e:p=(y,j):=by simpa using hp
  subst e
  exact hr
theorem fz{env:Env}:∀{fr:List (Str×Nat)}{y:Str}{c:Addr},(clOf env fr).lookup y=some c->y∈fr.map (·.1)/\c=(env.cells.lookup y).getD 0
 |[],_,_,h=>by cases h
 |p::r,y,c,h=>by
  unfold clOf at h
  rw[Mc,List.lookup_cons]at h
  cases e:y == p.1 with
  |true =>
   rw[e]at h
   have ey:y=p.1:=eq_of_beq e
   cases h
   exact⟨by rw[ey];exact LI,by rw[ey]⟩
  |false =>
   rw[e]at h
   obtain⟨a,b⟩:=fz (env:=env) (fr:=r) h
   exact⟨LK _ a,b⟩
theorem bP{env:Env}:∀{fr:List (Str×Nat)}{y:Str},y∈fr.map (·.1)->(clOf env fr).lookup y=some ((env.cells.lookup y).getD 0)
 |[],_,h=>by cases h
 |p::r,y,h=>by
  unfold clOf
  rw[Mc,List.lookup_cons]
  cases e:y == p.1 with
  |true =>
   have ey:y=p.1:=eq_of_beq e
   rw[ey]
  |false =>
   have ny:y≠p.1:=fun z=>by rw[z]at e;simp at e
   rcases LC.mp h with z | z
   ·exact absurd z ny
   ·exact bP (env:=env) (fr:=r) z
section
variable{X:Cx}{pins:List (Addr×Obj)}{σ:St}{H:Hp}{s:Shared}{scope:Scope}{fr:List (Str×Nat)}{x:Str}
theorem bK.cells(O:bK X scope fr x)(I:Inv X pins σ H s){y:Str}{c:Addr}(h:(clOf X.env fr).lookup y=some c):X.env.cells.lookup y=some c:=by
 obtain⟨hm,e⟩:=fz h
 obtain⟨p,hp,ep⟩:=L9.mp hm
 have k:=(O.slot p hp).2
 rw[ep]at k
 obtain⟨c',e'⟩:=I.ok.has y (.inl k)
 rw[e']at e
 rw[e',e]
 rfl
theorem IA{fp:List Addr}(O:bK X scope fr x)(I:Inv X pins σ H s)(hf:∀ b∈fp,FpOk X pins H b)(hfs:∀ b∈fp,b<s.heap.objs.size){g h':Heap}{tk:Nat}(hg:g=s.heap.push (LCg.lst []))
  (hk:∀ b o,g.get? b=some o->h'.get? b=some o) (hC:h'.Ns g.objs.size fun _=>none) :
  Inv (dE X scope fr x g.objs.size (s.heap.objs.size::fp) { s with heap:=g } H) (X.pn++pins++[(s.heap.objs.size,LCg.lst [])]) (none::frOf fr σ) H { s with heap:=h',toks:=tk }:=by
 have hsz:g.objs.size=s.heap.objs.size+1:=by rw[hg,Heap.size_push]
 have kp:∀ b o,s.heap.get? b=some o->g.get? b=some o:=fun b o e=>by rw[hg];exact Heap.get?_push_of_some _ e
 have hk0:∀ b o,s.heap.get? b=some o->h'.get? b=some o:=fun b o e=>hk b o (kp b o e)
 have hDo:h'.get? s.heap.objs.size=some (LCg.lst []):=hk _ _ (by rw[hg];exact Heap.get?_push_size _ rfl)
 have neC:∀ b,b<s.heap.objs.size->b≠g.objs.size:=fun b e=>by rw[hsz];exact Mt (NY e)
 have hDC:s.heap.objs.size≠g.objs.size:=by rw[hsz];exact Mt (NK _)
 have hfr:H g.objs.size=none:=I.hok.fresh (by rw[hsz];exact Ni _)
 have hfD:H s.heap.objs.size=none:=I.hok.fresh (LG _)
 have cne:∀ y c,X.env.cells.lookup y=some c->c<s.heap.objs.size:=fun y c e=>by
  obtain⟨v,q⟩:=I.cell y c e
  exact q.lt
 have nst:∀ b,b≠X.env.locals->b∉X.fs->b∉frs X.stack:=fun b h1 h2 z=>(LC.mp (I.stkSub b z)).elim h1 h2
 have nstD:s.heap.objs.size∉frs X.stack:=nst _ (N8 I.lt) (I.nofs (LG _))
 refine⟨⟨I.ok.mod,O.kind,I.ok.glob,I.ok.blt,LG _,?_,?_,fun _ _ z _=>(by cases z),I.ok.hd,I.ok.frames,.inl rfl,?_,?_,?_,?_,?_,?_,I.stkFree⟩,rfl,I.bare,Un.kept hk,?_,?_,hfr,?_,?_,I.hok.kept hk0,?_⟩
 ·intro y z c h1 h2
  exact I.ok.inj y z c (O.cells I h1) (O.cells I h2)
 ·intro y hy
  have hm:y∈fr.map (·.1):=by
   rcases hy with hy | hy
   ·exact O.has (y,_) (MX hy) (.inl rfl)
   ·exact O.has (y,_) (MX hy) (.inr rfl)
  exact⟨_,bP hm⟩
 ·intro b hb
  rcases LC.mp hb with rfl | hb
  ·exact⟨hDC,fun y c e=>Mt (cne y c (O.cells I e))⟩
  ·exact⟨neC b (hfs b hb),fun y c e=>(hf b hb).2.2.2.2.1 y c (O.cells I e)⟩
 ·intro b o e
  exact⟨kp b o (I.bs b o e).1,(I.bs b o e).2⟩
 ·show X.base.objs.size<=g.objs.size
  rw[hsz]
  exact NB (MB I.ok.bsz I.sz)
 ·intro b o e hb
  rcases LC.mp hb with z | hb
  ·have:=Heap.lt_size (I.bs b o e).1
   rw[z]at this
   exact MM _ this
  ·rcases(hf b hb).2.2.2.1 with z | z
   ·exact I.ok.noex b o e z
   ·exact absurd (Mw (Heap.lt_size (I.ok.bs b o e).1) z) (MM _)
 ·intro b hb
  rcases LC.mp hb with z | hb
  ·rw[z];exact nstD
  ·exact nst b (hf b hb).2.1 (hf b hb).2.2.1
 ·exact(I.kept (h':=g) (t':=s.toks) kp).stack
 ·refine⟨_,hC,fun i y v e1 e2 e3=>?_⟩
  cases i with
  |zero=>cases e2
  |succ k =>
   have e1':(fr.map (·.1))[k]?=some y:=e1
   have e2':(frOf fr σ)[k]?=some (some v):=e2
   unfold frOf at e2'
   rw[LL]at e1' e2'
   cases q:fr[k]? with
   |none=>rw[q]at e1';cases e1'
   |some p =>
    rw[q]at e1' e2'
    have ey:p.1=y:=L6 e1'
    have ev:(σ[p.2]?).join=some v:=L6 e2'
    have hp:p∈fr:=Lz q
    obtain⟨hN,hK⟩:=O.slot p hp
    have hkk:=O.frk p hp
    rw[ey]at hN hK hkk
    have ev':σ[p.2]?=some (some v):=by
     cases q2:σ[p.2]? with
     |none=>rw[q2]at ev;cases ev
     |some w=>rw[q2]at ev;exact congrArg some ev
    obtain⟨m,hn,hl⟩:=I.loc
    obtain⟨u,r,l⟩:=hl p.2 y v hN ev' (.inr (.inl hK))
    refine⟨u,r,?_⟩
    rcases l with⟨k1,_⟩ | ⟨_,c,ec,z⟩
    ·rw[hK]at k1;cases k1
    ·have hm:y∈fr.map (·.1):=by rw[← ey];exact L9.mpr ⟨p,hp,rfl⟩
     have el:=bP (env:=X.env) hm
     rw[ec]at el
     exact .inr ⟨.inl hkk,c,el,by obtain⟨o,ho,hd⟩:=z;exact⟨o,hk0 _ _ ho,hd⟩⟩
 ·intro y c e
  obtain⟨v,o,ho,hd⟩:=I.cell y c (O.cells I e)
  exact⟨v,o,hk0 _ _ ho,hd⟩
 ·intro y c e
  exact I.freeC y c (O.cells I e)
 ·intro p hp
  rcases LJ.mp hp with hp | hp
  ·cases hp
  ·rcases LJ.mp hp with hp | hp
   ·obtain⟨e,n,ne,nf,d⟩:=I.pin p hp
    exact⟨hk0 _ _ e,n,neC _ (Heap.lt_size e),nst _ ne nf,d⟩
   ·have ep:p=(s.heap.objs.size,LCg.lst []):=by simpa using hp
    subst ep
    exact⟨hDo,hfD,hDC,nstD,fun v z=>by cases z⟩
 ·show(none::frOf fr σ).length=(x::fr.map (·.1)).length
  unfold frOf
  simp
theorem xw{fp:List Addr}{g:Heap}{s':Shared}{H':Hp}{σ':St}{ys:List V}{us:List Value}(I:Inv X pins σ H s)(hf:∀ b∈fp,FpOk X pins H b)(hg:g=s.heap.push (LCg.lst []))
  (J:Inv (dE X scope fr x g.objs.size (s.heap.objs.size::fp) { s with heap:=g } H) (X.pn++pins++[(s.heap.objs.size,LCg.lst us)]) σ' H' s') (hv:Vals ys us) (hl:ys.length<=sizeLine) :
  Inv X pins σ (upd H' s.heap.objs.size (.lst ys)) s'/\H' s.heap.objs.size=none/\FpOk X pins (upd H' s.heap.objs.size (.lst ys)) g.objs.size/\∃ m,s'.heap.Ns g.objs.size m:=by
 have hsz:g.objs.size=s.heap.objs.size+1:=by rw[hg,Heap.size_push]
 have kp:∀ b o,s.heap.get? b=some o->g.get? b=some o:=fun b o e=>by rw[hg];exact Heap.get?_push_of_some _ e
 obtain⟨eD,nD,_,_,_⟩:=J.pin (s.heap.objs.size,LCg.lst us) (by simp)
 have hDC:g.objs.size≠s.heap.objs.size:=by rw[hsz];exact N8 (NK _)
 have nD':∀ b u,H' b=some u->b≠s.heap.objs.size:=fun b u e z=>by rw[z]at e;rw[e]at nD;cases nD
 have hx:∀ b o,s.heap.get? b=some o->b∉fp->b∉s.heap.objs.size::fp:=fun b o e hb z=>by
  rcases LC.mp z with z | z
  ·have:=Heap.lt_size e
   rw[z]at this
   exact MM _ this
  ·exact hb z
 have bU:Un (frs X.stack) (s.heap.objs.size::fp) H H' g s'.heap:=J.base
 have ltD:∀ b o,s.heap.get? b=some o->b≠s.heap.objs.size:=fun b o e=>Mt (Heap.lt_size e)
 have un:Un (frs X.stack) fp H (upd H' s.heap.objs.size (.lst ys)) s.heap s'.heap:=by
  refine⟨fun b o e n hb he=>bU.keep b o (kp b o e) n hb (hx b o e he),fun b o e n hb he=>bU.slot b o (kp b o e) n hb (hx b o e he),fun b o e n he=>?_,fun b o e he=>bU.there b o (kp b o e) (hx b o e he),fun b xs e=>?_,fun b o u e=>?_,fun b ps e=>?_⟩
  ·rw[au (ltD b o e)];exact bU.free b o (kp b o e) n (hx b o e he)
  ·have q:=bU.tups b xs e
   rw[au (nD' b _ q)];exact q
  ·have q:=bU.frzs b o u e
   rw[au (nD' b _ q)];exact q
  ·obtain⟨more,q⟩:=bU.tbls b ps e
   exact⟨more,by rw[au (nD' b _ q)];exact q⟩
 have hok:HOk X.prog X.w (upd H' s.heap.objs.size (.lst ys)) s'.heap:=fun b u e=>by
  by_cases hb:b=s.heap.objs.size
  ·rw[hb,ae]at e
   cases e
   rw[hb]
   exact⟨hl,us,us.length,hv,eD⟩
  ·rw[au hb]at e
   exact(J.hok b u e).stay (fun c v _ q=>q) (fun c q=>by rw[au (nD' c _ q)];exact q) fun c xs q=>by rw[au (nD' c _ q)];exact q
 have os:s'.os=s.os:=J.os
 refine⟨I.call' os un hok J.bare fun b hb=>⟨(hf b hb).2.2.2.1,(hf b hb).2.1,(hf b hb).2.2.2.2⟩,nD,?_,?_⟩
 ·refine I.fpOk (H':=upd H' s.heap.objs.size (.lst ys)) (b:=g.objs.size) (by rw[hsz];exact Ni _) ?_
  rw[au hDC]
  exact J.free
 ·obtain⟨m,hn,_⟩:=J.loc
  exact⟨m,hn⟩
end
def qW(te:TE)(fv:St)(J:It)(H1:Hp)(QQ:List V->Hp->Prop):Prop :=
 ∃ W:Nat->Nat->List V->Hp->Prop,(∃ m,W 0 m [] H1)/\∀ i m ys H,W i m ys H->ys.length<=sizeLine /\
  ((J.stop i H/\QQ ys H)∨(J.go i H/\∃ N:V->Hp->Prop,(∀ y H2,N y H2->∃ m',m'<m/\W (i+1) m' (ys++[y]) H2)/\∀ x H',J.yld i H x H'->te (some x::fv) H' N))
section
variable{X:Cx}{scope:Scope}{fr:List (Str×Nat)}{x:Str}{elt iter:Expr}{px pos:Pos}{te:TE}{wi:TI}
theorem xX{pins:List (Addr×Obj)}{σ:St}{H:Hp}{s:Shared}{E:Value->Shared->Prop}{it:Addr}{fp:List Addr}{tn:Nat->Heap->Prop}{J:It}{RR:Value->Addr->Result->Shared->Prop}{QQ:List V->Hp->Prop}(hc:X.calm=true)(O:bK X scope fr x)
  (he:∀ C ex s H,PE (dE X scope fr x C ex s H) elt te) (I:Inv X pins σ H s) (T:Turn X.prog X.w X.K (.Name x px) J fp it tn) (st:tn 0 s.heap) (hf:∀ b∈fp,FpOk X pins H b) (hq:qW te (frOf fr σ) J H QQ)
  (fin:∀ D C H4 ys s4 m,Inv X pins σ (upd H4 D (.lst ys)) s4->H4 D=none->FpOk X pins (upd H4 D (.lst ys)) C->s4.heap.Ns C m->QQ ys H4->RR (.ref D) C (.ok .next) s4) :
  wpAny (model X.prog X.w) X.A (newList []) (fun acc s₃=>wpAny (model X.prog X.w) X.A (newFunctionEnv scope X.env.globals (clOf X.env fr) [] X.env.qual none .none (some X.env)) (fun cenv s₄ =>
   codeAny (model X.prog X.w) X.A (.compStart (.ListComp elt [⟨.Name x px,iter,[],0⟩] scope pos) 0 (.ref it) acc { cenv with scope:=relabel scope X.env }) (RR acc cenv.locals) s₄) E s₃) E s:=by
 obtain⟨W,⟨m0,w0⟩,turn⟩:=hq
 have hfs:∀ b∈fp,b<s.heap.objs.size:=fun b hb=>by
  obtain⟨o,e,_⟩:=T.obj 0 s.heap st b hb
  exact Heap.lt_size e
 refine wpAny_newObj_type (wpAny_newFunctionEnv O.cell (by intro y hy;simp at hy) (fun h₁ hns₁ hsb₁=>?_) O.kind)
 dsimp only at hns₁ hsb₁ ⊢
 generalize hH2:s.heap.push { cls:=.type "list",dict:=none,data:=.seq ([]:List Value).toArray }=g at hns₁ hsb₁ ⊢
 have hg:g=s.heap.push (LCg.lst []):=hH2.symm
 have hsz:g.objs.size=s.heap.objs.size+1:=by rw[hg,Heap.size_push]
 have hk:∀ b o,g.get? b=some o->h₁.get? b=some o:=fun b o e=>hsb₁.extBut b o (Mt (Heap.lt_size e)) (Heap.get?_push_of_some _ e)
 have kp:∀ b o,s.heap.get? b=some o->h₁.get? b=some o:=fun b o e=>hk b o (by rw[hg];exact Heap.get?_push_of_some _ e)
 have J0:=IA (h':=h₁) (tk:=s.toks+([]:List (Str×Value)).length) O I hf hfs hg hk hns₁
 have stat:∀{H':Hp}{us:List Value},(∀ b∈fp,H' b=none)->∀ b∈fp,FpOk (dE X scope fr x g.objs.size (s.heap.objs.size::fp) { s with heap:=g } H) (X.pn++pins++[(s.heap.objs.size,LCg.lst us)]) H' b:=fun{H' us} hn b hb=>by
  obtain⟨_,f1,f2,f3,f4,f5⟩:=hf b hb
  refine⟨hn b hb,?_,fun z=>(LC.mp (I.stkSub b z)).elim f1 f2,.inl (LK _ hb),fun y c e=>f4 y c (O.cells I e),fun p hp=>?_⟩
  ·show b≠g.objs.size
   rw[hsz];exact Mt (NY (hfs b hb))
  ·rcases LJ.mp hp with hp | hp
   ·cases hp
   ·rcases LJ.mp hp with hp | hp
    ·exact f5 p hp
    ·have ep:p=(s.heap.objs.size,LCg.lst us):=by simpa using hp
     rw[ep]
     exact N8 (hfs b hb)
 have loop:codeAny (model X.prog X.w) X.A (.compLoop (.ListComp elt [⟨.Name x px,iter,[],0⟩] scope pos) 0 (.ref it) (.ref s.heap.objs.size) (compEnvC scope (clOf X.env fr) g.objs.size X.env))
   (RR (.ref s.heap.objs.size) g.objs.size) { s with heap:=h₁,toks:=s.toks+([]:List (Str×Value)).length }:=by
  refine codeAny_compLoop_tests (fun n s'=>∃ i ys us H',Inv (dE X scope fr x g.objs.size (s.heap.objs.size::fp) { s with heap:=g } H) (X.pn++pins++[(s.heap.objs.size,LCg.lst us)]) (none::frOf fr σ) H' s'/\Vals ys us/\tn i s'.heap/\(∀ b∈fp,H' b=none)/\W i n ys H') ?_ m0
   ⟨0,[],[],H,J0,.nil,T.keep 0 s.heap h₁ st fun b _ o e=>kp b o e,fun b hb=>(hf b hb).1,w0⟩
  rintro n s3 ⟨i,ys,us,H3,J3,hv,st3,fr3,w3⟩
  obtain⟨hlen,hh⟩:=turn i n ys H3 w3
  have none_err:∀{α:Type}{t:Sem α}{Q:α->Shared->Prop}{E':Value->Shared->Prop}{s:Shared},wpAny (model X.prog X.w) X.A t Q (fun _ _=>False) s->wpAny (model X.prog X.w) X.A t Q E' s:=fun h=>wpAny_mono h (fun _ _ q=>q) fun _ _ z=>z.elim
  rcases hh with⟨stop,qn⟩ | ⟨go,N,hN,step⟩
  ·refine none_err (thn (T.done (dE X scope fr x g.objs.size (s.heap.objs.size::fp) { s with heap:=g } H) rfl rfl rfl hc i _ s3 _ H3 _ J3 (stat fr3) st3 stop) fun r s4 ⟨hr,J4⟩=>?_)
   subst hr
   obtain⟨I4,nD,fC,m,hn⟩:=xw I hf hg J4 hv hlen
   exact fin _ _ H3 ys s4 m I4 nD fC hn qn
  ·refine none_err (thn (T.item (dE X scope fr x g.objs.size (s.heap.objs.size::fp) { s with heap:=g } H) rfl rfl rfl hc i _ s3 _ H3 _ J3 (stat fr3) st3 go) fun r s4 ⟨u,hr,h4⟩=>?_)
   subst hr
   have h4':=wpAny_bind (f:=fun _=>assign (.Name x px) (compEnvC scope (clOf X.env fr) g.objs.size X.env) u) (thn h4 (Q':=fun _ s5=>wpAny (model X.prog X.w) X.A (assign (.Name x px) (compEnvC scope (clOf X.env fr) g.objs.size X.env) u) (fun _ s6=>∃(σ6:St)(H6:Hp)(v:V)(s5':Shared)(H5:Hp),Inv (dE X scope fr x g.objs.size (s.heap.objs.size::fp) { s with heap:=g } H) (X.pn++pins++[(s.heap.objs.size,LCg.lst us)]++wm fp s5'.heap) σ6 H6 s6/\σ6=some v::frOf fr σ/\H6=H5/\J.yld i H3 v H5/\tn (i+1) s5'.heap) (fun _ _=>False) s5) fun _ s5 ⟨v,H5,J5,r5,y5,st5,fr5⟩=>by
    have J5':=J5.pinned (stat fr5) (T.obj _ _ st5)
    have hNd:(dE X scope fr x g.objs.size (s.heap.objs.size::fp) { s with heap:=g } H).N.Nodup:=O.nd
    have hxl:(dE X scope fr x g.objs.size (s.heap.objs.size::fp) { s with heap:=g } H).env.scope.names.lookup x=some .local:=lookup_relabel_local O.xl
    exact thn (aU (X:=dE X scope fr x g.objs.size (s.heap.objs.size::fp) { s with heap:=g } H) (i:=0) hNd rfl (.inl hxl) (.inr hxl) _ s5 _ H5 v u (fun σ6 H6=>σ6=some v::frOf fr σ/\H6=H5) J5' r5 ⟨rfl,rfl⟩) fun _ s6 ⟨σ6,H6,J6,e6,e7⟩=>⟨σ6,H6,v,s5,H5,J6,e6,e7,y5,st5⟩)
   refine none_err (thn h4' fun _ s6 ⟨σ6,H6,v,s5,H5,J6,e6,e7,y5,st5⟩=>?_)
   subst e6 e7
   refine wpAny_tests_nil ?_
   rw[if_pos rfl]
   refine none_err (thn (he _ _ _ _ _ s6 _ H6 _ J6 (step v H6 y5)) fun u7 s7 ⟨v7,H7,J7,r7,q7⟩=>?_)
   obtain⟨m',hm,w7⟩:=hN v7 H7 q7
   obtain⟨eD,nD,dC,dF,dd⟩:=J7.pin (s.heap.objs.size,LCg.lst us) (L4 _ (MC _ (L4 _ (by simp))))
   have hvl:=hv.length
   refine append_at (hsz:=by show us.toArray.size<=sizeLine;rw[LV,← hvl];exact hlen) eD fun h8 hs8 hD8=>?_
   have pinD:∀ p∈X.pn++pins,p.1≠s.heap.objs.size:=fun p hp z=>by
    have:=Heap.lt_size (I.pin p hp).1
    rw[z]at this
    exact MM _ this
   have J7a:Inv (dE X scope fr x g.objs.size (s.heap.objs.size::fp) { s with heap:=g } H) (X.pn++pins) _ H7 s7:=J7.pins_of fun p hp=>J7.pin p (L4 _ (MC _ (MC _ hp)))
   have J8:Inv (dE X scope fr x g.objs.size (s.heap.objs.size::fp) { s with heap:=g } H) (X.pn++pins) _ H7 { s7 with heap:=h8 }:=J7a.turned (t':=s7.toks) (fun b o hb e=>(hs8.2 b hb).trans e) nD dC (.inl LI) (fun y c e z=>by
    obtain⟨w',q⟩:=I.cell y c (O.cells I e)
    have:=q.lt
    rw[z]at this
    exact MM _ this) (fun p hp=>(LJ.mp hp).elim (fun z=>by cases z) (pinD p))
   have J9:Inv (dE X scope fr x g.objs.size (s.heap.objs.size::fp) { s with heap:=g } H) (X.pn++pins++[(s.heap.objs.size,LCg.lst (us++[u7]))]) _ H7 { s7 with heap:=h8 }:=J8.pins_of fun p hp=>by
    rcases LJ.mp hp with hp | hp
    ·exact J8.pin p (L4 _ hp)
    ·have ep:p=(s.heap.objs.size,LCg.lst (us++[u7])):=by simpa using hp
     subst ep
     exact⟨hD8.trans (congrArg some (LCg.lst_snoc us u7)),nD,dC,dF,fun v z=>by cases z⟩
   have J10:=J9.weak (σ':=none::frOf fr σ) rfl fun i v e=>by
    cases i with
    |zero=>cases e
    |succ k=>exact e
   have pinF:∀ b∈fp,∀ o,s5.heap.get? b=some o->s7.heap.get? b=some o/\H7 b=none:=fun b hb o e=>by
    obtain⟨q1,q2,_⟩:=J7.pin (b,o) (L4 _ (L4 _ (fS hb e)))
    exact⟨q1,q2⟩
   refine⟨m',hm,i+1,ys++[v7],us++[u7],H7,J10,hv.append (.cons r7 .nil),T.keep _ _ _ st5 fun b hb o e=>(hs8.2 b (Mt (hfs b hb))).trans (pinF b hb o e).1,fun b hb=>?_,w7⟩
   obtain⟨o,e,_⟩:=T.obj _ _ st5 b hb
   exact(pinF b hb o e).2
 exact codeAny_compStart_list loop (T.self X.A 0 _ _ _ (T.keep 0 s.heap h₁ st fun b _ o e=>kp b o e) loop)
def tComp(wi:TI)(te:TE)(fr:List (Str×Nat)):TE:=fun σ H Q=>wi σ H fun J H1=>qW te (frOf fr σ) J H1 fun ys H2=>∀ D,H2 D=none->Q (.ref D) (upd H2 D (.lst ys))
theorem dq(hc:X.calm=true)(O:bK X scope fr x)(hi:PI X (.Name x px) iter wi)(he:∀ C ex s H,PE (dE X scope fr x C ex s H) elt te)(hs:∀ x,foldedSetIterable iter X.env x=pure x:=by intro _;rfl) :
  PE X (.ListComp elt [⟨.Name x px,iter,[],0⟩] scope pos) (tComp wi te fr):=by
 intro pins s σ H Q I h
 rw[eval_ListComp]
 refine wpAny_comprehension_free (use:=none) rfl hs O.clos O.kind O.names (thn (hi pins s σ H _ I h) fun xv s1 h1=>thn h1 fun itv s2 h2=>?_)
 obtain⟨it,fp,tn,J,H2,e,I2,T,st2,f2,q2⟩:=h2
 subst e
 refine xX (RR:=fun acc C=>compPost (model X.prog X.w) X.A X.xe none (EP X pins σ Q) acc C) hc O he I2 T st2 f2 q2 ?_
 intro D C H4 ys s4 m I4 nD fC hn q4
 refine⟨m,hn,fun h' hs'=>?_⟩
 obtain⟨g0,g1,g2,g3,g4,g5⟩:=fC
 exact⟨.ref D,_,I4.turned (t':=s4.toks) (fun b o hb e=>(hs'.2 b hb).trans e) g0 g1 g3 g4 g5,rfl,q4 D nD⟩
def HA(i:Nat)(wi:TI)(te:TE)(fr:List (Str×Nat)):TS:=fun D σ H=>wi σ H fun J H1=>qW te (frOf fr σ) J H1 fun ys H2=>∀ a,H2 a=none->D.nx (σ.set i (some (.ref a))) (upd H2 a (.lst ys))
theorem lK{i:Nat}{y:Str}{py spos:Pos}(hc:X.calm=true)(hN:X.N.Nodup)(hi':X.N[i]?=some y)(hy:X.env.scope.names.lookup y=some .local)(O:bK X scope fr x)(hi:PI X (.Name x px) iter wi)(he:∀ C ex s H,PE (dE X scope fr x C ex s H) elt te)
  (hsw:swapsWith (.ListComp elt [⟨.Name x px,iter,[],0⟩] scope pos) (some (.Name y py)) spos.line X.env=pure true:=by rfl) (hs:∀ x,foldedSetIterable iter X.env x=pure x:=by intro _;rfl) :
  PS X (.Assign [.Name y py] (.ListComp elt [⟨.Name x px,iter,[],0⟩] scope pos) spos) (HA i wi te fr):=by
 intro pins s σ H D I h
 rw[exec_Assign_Name_used _ _ _ _ hsw]
 refine wpAny_bind (wpAny_standAt (wpAny_bind ?_))
 show wpAny _ X.A (do let _ ← comprehension (.ListComp elt [⟨.Name x px,iter,[],0⟩] scope pos) scope X.env _ (newList []) false (eval iter X.env) (some (assign (.Name y py) X.env))) _ _ s
 refine wpAny_bind (thn (wpAny_comprehension_free (use:=some (assign (.Name y py) X.env)) (Q:=fun _ s'=>SP X pins D .next s') rfl hs O.clos O.kind O.names (thn (hi pins s σ H _ I h) fun xv s1 h1=>thn h1 fun itv s2 h2=>?_)) fun _ s' hq=>wpAny_pure (wpAny_pure hq))
 obtain⟨it,fp,tn,J,H2,e,I2,T,st2,f2,q2⟩:=h2
 subst e
 refine xX (RR:=fun acc C=>compPost (model X.prog X.w) X.A X.xe (some (assign (.Name y py) X.env)) (fun _ s'=>SP X pins D .next s') acc C) hc O he I2 T st2 f2 q2 ?_
 intro a C H4 ys s4 m I4 nD fC hn q4
 obtain⟨g0,g1,g2,g3,g4,g5⟩:=fC
 obtain⟨oC,eC,hoC⟩:=LCg.ns_obj hn
 have I5:Inv X (pins++[(C,oC)]) σ (upd H4 a (.lst ys)) s4:=I4.pins_of fun p hp=>by
  rcases LJ.mp hp with hp | hp
  ·exact I4.pin p (L4 _ hp)
  ·have ep:p=(C,oC):=by simpa using hp
   subst ep
   obtain⟨es,epp,hd,_⟩:=hoC
   exact⟨eC,g0,g1,g2,fun v z=>by rw[hd]at z;cases z⟩
 show wpAny _ X.A (assign (.Name y py) X.env (.ref a)) _ _ _
 refine wpAny_assign_Name (rW I5 hN hi' (.inl hy) (v:=.ref a) rfl (fun s6 I6=>?_) (.inr hy))
 obtain⟨e6,_⟩:=I6.pin (C,oC) (L4 _ (L4 _ (by simp)))
 refine⟨m,hoC.ns e6,fun h' hs'=>?_⟩
 exact⟨_,_,I6.unpinned.turned (t':=s6.toks) (fun b o hb e=>(hs'.2 b hb).trans e) g0 g1 g3 g4 g5,q4 a nD⟩
end
theorem bI{K:LA}{a:Addr}{xs:List V}{te:TE}{fv:St}{H1:Hp}{QQ:List V->Hp->Prop}(Pv:Nat->List V->Hp->Prop)(hz:xs.length<=sizeLine)(h0:Pv 0 [] H1)(hl:∀ i ys H,i<=xs.length->Pv i ys H->SqL K H a xs)
  (hs:∀ i x ys H,xs[i]?=some x->Pv i ys H->te (some x::fv) H fun y H2=>Pv (i+1) (ys++[y]) H2) (hd:∀ ys H,ys.length=xs.length->Pv xs.length ys H->QQ ys H)
  : qW te fv (Itl K a) H1 QQ:=by
 refine⟨fun i m ys H=>m=xs.length-i/\i<=xs.length/\ys.length=i/\Pv i ys H,⟨xs.length,by simp,MQ _,rfl,h0⟩,?_⟩
 rintro i m ys H ⟨rfl,hi,hy,p⟩
 have q:=hl i ys H hi p
 refine⟨by omega,?_⟩
 by_cases hlt:i<xs.length
 ·refine .inr ⟨⟨xs,xs[i],q,by simp[hlt]⟩,fun y H2=>Pv (i+1) (ys++[y]) H2,fun y H2 p2=>⟨xs.length-(i+1),by omega,rfl,hlt,by rw[Ly,hy];rfl,p2⟩,fun x H' y=>?_⟩
  obtain⟨e,y⟩:=y
  subst e
  exact hs i x ys _ (y xs q) p
 ·have e:i=xs.length:=by omega
  subst e
  exact .inl ⟨⟨xs,q,LG _⟩,hd ys H hy p⟩
theorem rk{lo:Int}{n:Nat}{te:TE}{fv:St}{H1:Hp}{QQ:List V->Hp->Prop}(Pv:Nat->List V->Hp->Prop)(hz:n<=sizeLine)(h0:Pv 0 [] H1)
  (hs:∀ i ys H,i<n->Pv i ys H->te (some (.int (lo+i))::fv) H fun y H2=>Pv (i+1) (ys++[y]) H2) (hd:∀ ys H,ys.length=n->Pv n ys H->QQ ys H)
  : qW te fv (Itr lo n) H1 QQ:=by
 refine⟨fun i m ys H=>m=n-i/\i<=n/\ys.length=i/\Pv i ys H,⟨n,by simp,MQ _,rfl,h0⟩,?_⟩
 rintro i m ys H ⟨rfl,hi,hy,p⟩
 refine⟨by omega,?_⟩
 by_cases hlt:i<n
 ·refine .inr ⟨hlt,fun y H2=>Pv (i+1) (ys++[y]) H2,fun y H2 p2=>⟨n-(i+1),by omega,rfl,hlt,by rw[Ly,hy];rfl,p2⟩,fun x H' y=>?_⟩
  obtain⟨e,y⟩:=y
  subst e y
  exact hs i ys _ hlt p
 ·have e:i=n:=by omega
  subst e
  exact .inl ⟨LG _,hd ys H hy p⟩
end L2
namespace L2
open PySem PySem.Spec PyProof.Rows
theorem JC:bootBuiltins "int" = some (.type "int"):=by decide +kernel
theorem Ll:bootBuiltins "bool" = some (.type "bool"):=by decide +kernel
theorem gQ:bootBuiltins "list" = some (.type "list"):=by decide +kernel
theorem IS:bootBuiltins "tuple" = some (.type "tuple"):=by decide +kernel
theorem aQ:bootBuiltins "len" = some (.builtin "len"):=by decide +kernel
theorem a6:bootBuiltins "isinstance" = some (.builtin "isinstance"):=by decide +kernel
theorem yc:bootBuiltins "sorted" = some (.builtin "sorted"):=by decide +kernel
theorem yd:bootBuiltins "enumerate" = some (.type "enumerate"):=by decide +kernel
structure Cal(P:Program)(w:World)(K:LA)(mg:Str->Option Value)(base:Heap)(k:Nat)(x:Str)(ps:List Str)(sp:Sp)(f:Addr)(fd:FuncData):Prop where
 ok:FnOk P w K mg base CX0 k f fd ps sp
 bn:qz K fd ps []
 mg:mg x=some (.ref f)
 kp:LP K (.ref f)=true
structure Mak(P:Program)(w:World)(K:LA)(mg:Str->Option Value)(base:Heap)(k:Nat)(x:Str)(ps:List Str)(sp:Sp)(C f:Addr)(fd:FuncData):Prop where
 mkc:Mk K C f
 ok:FnOk P w K mg base CX0 k f fd ps sp
 bn:qz K fd ps []
 mg:mg x=some (.ref C)
structure Met(P:Program)(w:World)(K:LA)(mg:Str->Option Value)(base:Heap)(k:Nat)(C:Addr)(m:Str)(ps:List Str)(sp:Sp)(f:Addr)(fd:FuncData):Prop where
 me:Meth K C m f
 ok:FnOk P w K mg base CX0 k f fd ps sp
 bn:qz K fd ps []
theorem sV{X:Cx}{sts:List Stmt}{t t2:TS}(h:PSs X sts t)(i:∀ D σ H,t2 D σ H->t D σ H):PSs X sts t2:=fun pins s σ H D I q=>h pins s σ H D I (i D σ H q)
section
variable{X:Cx}
def rIsi(K:LA):List V->Hp->VK->Prop:=fun xs H Q=>∃ x c t b u,xs = [x,c]/\TyOf K H x t/\((∃ n,c=.ty n/\u=Value.type n)∨∃ a,c=.ref a/\u=Value.ref a)/\MK K t u=some b/\Q (.bl b) H
theorem cO:i7 X (.builtin "isinstance") (rIsi X.K):=by
 intro pins s σ H xs us Q I r h
 obtain⟨x,c,t,b,u,rfl,ty,hu,e,q⟩:=h
 obtain⟨v1,v2,rfl,r1,r2⟩:=vals2 r
 have e2:v2=u:=by
  rcases hu with⟨n,rfl,rfl⟩ | ⟨a,rfl,rfl⟩
  ·exact r2
  ·exact r2
 subst e2
 exact F5 I r1 ty e fun tk=>⟨.bl b,H,I.tok tk,rfl,q⟩
theorem kit_ii(K:LA):MK K (.type "int") (.type "int")=some true:=by with_unfolding_all rfl
theorem kit_ib(K:LA):MK K (.type "int") (.type "bool")=some false:=by with_unfolding_all rfl
theorem Cp(K:LA):MK K (.type "list") (.type "list")=some true:=by with_unfolding_all rfl
theorem kit_tt(K:LA):MK K (.type "tuple") (.type "tuple")=some true:=by with_unfolding_all rfl
end
inductive RdD(K:LA)(H:Hp):V->PyData->Prop where
 |non:RdD K H .non .none
 |bl (b:Bool):RdD K H (.bl b) (.bool b)
 |int (i:Int):RdD K H (.int i) (.int i)
 |lst {a:Addr} {xs:List V} {ds:List PyData} (h:SqL K H a xs) (hl:xs.length=ds.length) (r:∀(i:Nat)(x:V)(d:PyData),xs[i]?=some x->ds[i]?=some d->RdD K H x d):RdD K H (.ref a) (.list ds)
 |tup {a:Addr} {xs:List V} {ds:List PyData} (h:SqT K H a xs) (hl:xs.length=ds.length) (r:∀(i:Nat)(x:V)(d:PyData),xs[i]?=some x->ds[i]?=some d->RdD K H x d):RdD K H (.ref a) (.tuple ds)
theorem jJ{h:Heap}:∀{xs:List V}{us:List Value}{ds:List PyData},Vals xs us->xs.length=ds.length->(∀(i:Nat) x d,xs[i]?=some x->ds[i]?=some d->∀ u,RelV x u->∃ as,Reads h u d as)->∃ as,ReadsAll h us ds as
 |_,_,[],.nil,_,_=>⟨_,.nil⟩
 |_,_,_::_,.nil,e,_=>by cases e
 |_,_,[],.cons _ _,e,_=>by cases e
 |_,_,d::ds,.cons r rr,e,k=>by
  obtain⟨a1,q1⟩:=k 0 _ d rfl rfl _ r
  obtain⟨a2,q2⟩:=jJ rr (OW e) fun i x d' e1 e2=>k (i+1) x d' e1 e2
  exact⟨_,.cons q1 q2⟩
section
variable{X:Cx}
theorem RdD.reads{pins:List (Addr×Obj)}{σ:St}{H:Hp}{s:Shared}(I:Inv X pins σ H s){x:V}{d:PyData}(r:RdD X.K H x d):∀ u,RelV x u->∃ as,Reads s.heap u d as:=by
 induction r with
 |non=>intro u hu;cases hu;exact⟨_,.none⟩
 |bl b=>intro u hu;cases hu;exact⟨_,.bool b⟩
 |int i=>intro u hu;obtain⟨t,rfl⟩:=hu;exact⟨_,.int i t⟩
 |lst h hl r ih =>
  intro u hu
  cases hu
  obtain⟨its,rv,p,_⟩:=I.list h
  obtain⟨as,q⟩:=jJ (h:=s.heap) rv hl ih
  obtain⟨o,n,e,c,_,d⟩:=p
  exact⟨_,.list e c d (by simpa using q)⟩
 |tup h hl r ih =>
  intro u hu
  cases hu
  obtain⟨its,rv,p,_⟩:=I.tuple h
  obtain⟨as,q⟩:=jJ (h:=s.heap) rv hl ih
  obtain⟨o,e,c,n,d⟩:=p
  exact⟨_,.tuple e c d (by simpa using q)⟩
def rSame(b:Bool)(K:LA):R2:=fun x y H Q=>∃ d,RdD K H x d/\RdD K H y d/\SeqAt.shaped d=true/\Q (.bl b) H
theorem Jh(hu:X.A.units+64<cLine):OpR X (compareOp .NotEq) (rSame false X.K):=by
 intro pins s σ H x y v u Q I rx ry h
 obtain⟨d,r1,r2,hs,q⟩:=h
 obtain⟨as,q1⟩:=r1.reads I v rx
 obtain⟨bs,q2⟩:=r2.reads I u ry
 refine ne_dataH q1 q2 hs hs hu ?_
 rw[SeqAt.eqv_refl d (SeqAt.canLay_of_shaped hs)]
 exact⟨.bl false,H,I,rfl,q⟩
end
section
variable{X:Cx}{tg:Expr}
end
end L2
namespace L2
open PySem PySem.Spec PyProof.Rows
section
variable{P:Program}{w:World}{H:Hp}{h:Heap}{a:Addr}{o:HO}
end
section
variable{X:Cx}{pins:List (Addr×Obj)}{σ:St}{H H':Hp}{s s':Shared}{b:Addr}
end
section
variable{X:Cx}{pins:List (Addr×Obj)}{σ:St}{H:Hp}{s:Shared}{x:Addr}{C:Value}{E:Value->Shared->Prop}
end
section
variable{X:Cx}{k:Nat}{f C:Addr}{fd:FuncData}{ps:List Str}{sp:Sp}{dvs:List V}{ds:List Value}{W:WK}{x m:Str}{p pos apos:Pos}{e o:Expr}{es:List Expr}{ta:TE}{t:TA}
end
end L2
namespace L2
open PySem PySem.Spec PyProof.Rows
section
variable{X:Cx}{pins:List (Addr×Obj)}{σ:St}{H:Hp}{s:Shared}{x:Addr}{C:Value}
end
section
variable{M:Model}{A:Around}{E:Value->Shared->Prop}{h:Heap}{g:Array GenState}{d:Drawn}{t:Nat}{os:OsState}
end
section
variable{X:Cx}{pins pins':List (Addr×Obj)}{σ:St}{H:Hp}{s:Shared}{E:Value->Shared->Prop}{b:Addr}
end
section
variable{X:Cx}{k:Nat}{f:Addr}{fd:FuncData}{ps:List Str}{sp:Sp}{dvs:List V}{ds:List Value}{W:WK}{x:Str}{p pos:Pos}{e:Expr}{es:List Expr}{t:TA}
end
end L2
namespace L2
open PySem PySem.Spec PyProof.Rows
end L2
namespace L2
open PySem PySem.Spec PyProof.Rows
section
variable{prog:Program}{w:World}{A:Around}{E:Value->Shared->Prop}{s:Shared}
end
end L2
namespace L2
open PySem PySem.Spec PyProof.Rows
section
variable{prog:Program}{w:World}{A:Around}{E:Value->Shared->Prop}{s:Shared}
end
section
variable{X:Cx}
end
end L2
namespace L2
open PySem PySem.Spec PyProof.Rows
section
variable{X:Cx}
end
end L2
namespace L2
open PySem PySem.Spec PyProof.Rows
theorem Inv.turnedL{X:Cx}{pins:List (Addr×Obj)}{σ:St}{H:Hp}{s:Shared}{h':Heap}{t':Nat}{fp:List Addr}(I:Inv X pins σ H s)(k:∀ b o,b∉fp->s.heap.get? b=some o->h'.get? b=some o)(hf:∀ b∈fp,FpOk X pins H b):Inv X pins σ H { s with heap:=h',toks:=t' }:=by
 have nit:∀ b u,H b=some u->b∉fp:=fun b u e z=>by rw[(hf b z).1]at e;cases e
 refine I.step (g':=s.gens) (d':=s.drawn) (ch:=fp) (fun b hb=>?_) (fun b o _ _ hc e _=>k b o hc e) (fun b o _ _ hc e _=>⟨o.slots,k b o hc e⟩) (fun _ _ _ _ n=>n)
  (fun b o hc e=>⟨o,k b o hc e⟩) (fun _ _ e=>e) (fun _ _ _ e=>e) (fun b ps e=>⟨#[],by rw[e];simp⟩) (fun m hm=>?_) (fun b u e=>?_) I.bare
 ·obtain⟨f0,f1,f2,f3,f4,f5⟩:=hf b hb
  exact⟨f3,f1,f4,f5⟩
 ·obtain⟨o,es,ep,ho,r⟩:=hm
  exact⟨o,es,ep,k _ o (fun z=>(hf _ z).2.1 rfl) ho,r⟩
 ·refine(I.hok b u e).stay (fun c v hc q=>k c v ?_ q) (fun _ q=>q) fun _ _ q=>q
  rcases hc with z | z
  ·rw[z];exact nit b u e
  ·exact nit c _ z
def Ite(K:LA)(a:Addr):It :=
 ⟨fun i H=>∃ xs x,SqL K H a xs/\xs[i]?=some x,fun i H v H'=>∃ T x,H T=none/\v=.ref T/\H'=upd H T (.tup [.int (i:Int),x])/\∀ xs,SqL K H a xs->xs[i]?=some x,fun i H=>∃ xs,SqL K H a xs/\xs.length<=i⟩
theorem EC{P:Program}{w:World}{K:LA}{es:List Expr}{k:Nat}{pos:Pos}(a e it:Addr)(hei:e≠it):Turn P w K (.Tuple es k pos) (Ite K a) [e,it] e (fun i h=>(∃ old,IsEnum h e it ((i:Nat):Int) old)/\h.IsListIter it a i) where
 mem:=by simp
 obj:=fun i h st b hb=>by
  obtain⟨⟨old,he⟩,o,e2,c,d⟩:=st
  rcases LC.mp hb with rfl | hb
  ·exact⟨_,he,fun v z=>by
    have z':Data.fields _=Data.cell v:=z
    cases z'⟩
  ·have e3:b=it:=by simpa using hb
   subst e3
   exact⟨o,e2,fun v z=>by rw[d]at z;cases z⟩
 keep:=fun i h h' st kk=>by
  obtain⟨⟨old,he⟩,hit⟩:=st
  exact⟨⟨old,kk e (by simp) _ he⟩,hit.at fun o q=>kk it (by simp) o q⟩
 item:=by
  intro X hP hw hK hc i pins s σ H E I hf st hg
  subst hP hw hK
  obtain⟨xs,x,hq,hx⟩:=hg
  obtain⟨its,rv,p,hz⟩:=I.list hq
  obtain⟨u,hu,ru⟩:=rv.get hx
  obtain⟨⟨old,he⟩,hit⟩:=st
  refine wpAny_pyNext_enum_item he hit p.isList (x:=u) (by simpa using hu) hei fun h' ho hit' hT hsz hk=>?_
  refine⟨_,rfl,?_⟩
  refine wpAny_letOwnedTupleGo_enum ho fun h2 he2 hs2=>?_
  have hs2':Heap.SameBut e h' h2:=hs2
  have hel:e<s.heap.objs.size:=Heap.lt_size he
  have hil:it<s.heap.objs.size:=by obtain⟨_,q,_⟩:=hit;exact Heap.lt_size q
  have hfr:H s.heap.objs.size=none:=I.hok.fresh (LG _)
  have I0:Inv X pins σ (upd H s.heap.objs.size (.tup [.int (i:Int),x])) { s with heap:=s.heap.push { cls:=.type "tuple",data:=.seq #[.int (i:Int) s.toks,u] },toks:=s.toks+1 } :=
   I.laid (t':=s.toks+1) (fun b u e=>Heap.get?_push_of_some _ e) (LG _) ⟨by show 2<=sizeLine;decide,[.int (i:Int) s.toks,u],.cons ⟨_,rfl⟩ (.cons ru .nil),⟨_,Heap.get?_push_size _ rfl,rfl,_,rfl⟩⟩
  have hfb:∀ b∈[e,it],b<s.heap.objs.size:=fun b hb=>by
   rcases LC.mp hb with rfl | hb
   ·exact hel
   ·have e3:b=it:=by simpa using hb
    rw[e3];exact hil
  have hn:∀ b∈[e,it],upd H s.heap.objs.size (.tup [.int (i:Int),x]) b=none:=fun b hb=>by
   rw[au (Mt (hfb b hb))]
   exact(hf b hb).1
  have I2:Inv X pins σ (upd H s.heap.objs.size (.tup [.int (i:Int),x])) { s with heap:=h2,toks:=s.toks+1 }:=Inv.turnedL (s:={ s with heap:=s.heap.push { cls:=.type "tuple",data:=.seq #[.int (i:Int) s.toks,u] },toks:=s.toks+1 }) (h':=h2) I0 (t':=s.toks+1) (fp:=[e,it]) (fun b o hb q=>by
   have nb:b≠e:=fun z=>hb (by simp[z])
   have nb2:b≠it:=fun z=>hb (by simp[z])
   refine(hs2'.2 b nb).trans ?_
   rcases Heap.get?_push_cases q with⟨z1,z2⟩ | q
   ·rw[z1,z2];exact hT
   ·exact hk b o nb nb2 q) fun b hb=>⟨hn b hb,(hf b hb).2⟩
  refine⟨.ref s.heap.objs.size,_,I2,rfl,⟨s.heap.objs.size,x,hfr,rfl,rfl,fun ys hy=>by rw[I.list_inj hy hq];exact hx⟩,?_,hn⟩
  refine⟨⟨u,?_⟩,hit'.at fun o q=>(hs2'.2 it (Ne.symm hei)).trans q⟩
  have e4:(((i+1:Nat):Nat):Int)=(i:Int)+1:=by omega
  rw[e4]
  exact he2
 done:=by
  intro X hP hw hK hc i pins s σ H E I hf st hg
  subst hP hw hK
  obtain⟨xs,hq,hx⟩:=hg
  obtain⟨its,rv,p,hz⟩:=I.list hq
  obtain⟨⟨old,he⟩,hit⟩:=st
  have hl:=rv.length
  obtain⟨f0,f1,f2,f3,f4,f5⟩:=hf it (by simp)
  exact wpAny_pyNext_enum_end (I.ok.hd hc) he hit p.isList (by simp;omega) fun h' eb=>⟨rfl,I.turned (t':=s.toks) (fun b o hb e=>eb b o hb e) f0 f1 f3 f4 f5⟩
 self:=fun _ _ _ _ _ st h=>by
  obtain⟨⟨old,he⟩,_⟩:=st
  exact wpAny_pyIter_enum he h
section
variable{X:Cx}
def iEnum(K:LA)(ta:TA):TI:=fun σ H R=>ta σ H fun vs H1=>∃ a,vs = [.ref a]/\(∃ xs,SqL K H1 a xs)/\R (Ite K a) H1
theorem zJ{l:Expr}{ta:TA}{es:List Expr}{k:Nat}{tp p pos:Pos} (hg:Gl X "enumerate") (hm:X.mg "enumerate" = none) (ha:PA X [l] ta) (hs:starEach [l] X.env = [(false,eval l X.env)]:=by rfl) :
  PI X (.Tuple es k tp) (.Call (.Name "enumerate" p) [l] [] pos) (iEnum X.K ta):=by
 intro pins s σ H R I h
 refine Call_ (xh I hg hm yd (PyProof.Rows.callWith_type1 (thn (ha pos pins s σ H _ I h) fun us s1 ⟨vs,H1,I1,r1,q1⟩=>?_) hs rfl))
 obtain⟨a,e,⟨xs,hq⟩,q⟩:=q1
 subst e
 obtain⟨u,rfl,ru⟩:=lE r1
 cases ru
 obtain⟨its,rv,p,hz⟩:=I1.list hq
 refine call_enumerate_list p.isList fun h' he hit hsz hk=>?_
 refine wpAny_pyIter_enum he ?_
 refine⟨s1.heap.objs.size+1,[s1.heap.objs.size+1,s1.heap.objs.size],_,_,H1,rfl,I1.kept (t':=s1.toks) hk,EC a _ _ (Nat.succ_ne_self _),⟨⟨_,he⟩,hit⟩,fun b hb=>?_,q⟩
 have hb':s1.heap.objs.size<=b:=by
  rcases LC.mp hb with rfl | hb
  ·exact Ni _
  ·have e3:b=s1.heap.objs.size:=by simpa using hb
   rw[e3];exact LG _
 exact I1.fpOk hb' (I1.hok.fresh hb')
end
theorem Cv{K:LA}{a:Addr}{xs:List V}{g:TG}{tb:TS}{D:Ends}{σ:St}{H:Hp}(Pv:Nat->St->Hp->Prop)(h0:Pv 0 σ H)(hl:∀ i σ H,i<=xs.length->Pv i σ H->SqL K H a xs)
  (hs:∀ i x σ H T,xs[i]?=some x->Pv i σ H->H T=none->g (.ref T) σ (upd H T (.tup [.int (i:Int),x])) fun σ2 H2=>tb { D with nx:=Pv (i+1),ct:=Pv (i+1),bk:=D.nx } σ2 H2) (hd:∀ σ H,Pv xs.length σ H->D.nx σ H) :
  ∃ W:Nat->Nat->St->Hp->Prop,(∃ m,W 0 m σ H)/\∀ i m σ H,W i m σ H ->
   ((Ite K a).stop i H/\D.nx σ H)∨((Ite K a).go i H/\∃ N:St->Hp->Prop,(∀ σ' H',N σ' H'->∃ m',m'<m/\W (i+1) m' σ' H')/\∀ x H',(Ite K a).yld i H x H'->g x σ H' fun σ2 H2=>tb { D with nx:=N,ct:=N,bk:=D.nx } σ2 H2):=by
 refine⟨fun i m σ H=>m=xs.length-i/\i<=xs.length/\Pv i σ H,⟨xs.length,by simp,MQ _,h0⟩,?_⟩
 rintro i m σ H ⟨rfl,hi,p⟩
 have q:=hl i σ H hi p
 by_cases hlt:i<xs.length
 ·refine .inr ⟨⟨xs,xs[i],q,by simp[hlt]⟩,Pv (i+1),fun σ' H' p'=>⟨xs.length-(i+1),by omega,rfl,hlt,p'⟩,fun v H' y=>?_⟩
  obtain⟨T,x,hT,rfl,rfl,y⟩:=y
  exact hs i x σ _ T (y xs q) p hT
 ·have e:i=xs.length:=by omega
  subst e
  exact .inl ⟨⟨xs,q,LG _⟩,hd σ H p⟩
end L2
namespace L2
open PySem PySem.Spec PyProof.Rows
section
variable{X:Cx}
end
theorem uG{n j:Nat}(h:j<n):ixN n (j:Int)=some j:=by
 unfold ixN
 rw[if_pos (by omega),if_pos (by omega)]
 rfl
end L2
namespace L2
open PySem PySem.Spec PyProof.Rows
theorem iJ:∀{ds:List PyData},(∀ d∈ds,d.canLay0=true)->PyData.canLayAll0 ds=true
 |[],_=>by simp[PyData.canLayAll0]
 |d::ds,h=>by
  rw[PyData.canLayAll0,h d (by simp),iJ fun x hx=>h x (by simp[hx])]
  rfl
theorem j4{n:Nat}:∀{ds:List PyData},(∀ d∈ds,d.depth<=n)->PyData.depthAll ds<=n
 |[],_=>by simp[PyData.depthAll]
 |d::ds,h=>by
  have h1:=h d (by simp)
  have h2:=j4 (ds:=ds) fun x hx=>h x (LK _ hx)
  rw[PyData.depthAll]
  omega
theorem oQ{ds:List PyData}(h:∀ d∈ds,d.canLay0=true/\d.depth<=10):SeqAt.shaped (.list ds)=true:=by
 have h1:=iJ fun d hd=>(h d hd).1
 have h2:=j4 fun d hd=>(h d hd).2
 have h3:PyData.depth (.list ds)<=64:=by simp only[PyData.depth];omega
 show(PyData.canLay0 (.list ds)&&decide (PyData.depth (.list ds)<=64))=true
 rw[NM]
 exact⟨by simp only[PyData.canLay0];exact h1,decide_eq_true h3⟩
end L2
namespace L2
open PySem PySem.Spec PyProof.Rows
def cxG(X:Cx)(scope:Scope)(fr:List (Str×Nat))(xs:List Str)(C:Addr)(ex:List Addr)(s:Shared)(H:Hp):Cx where
 prog:=X.prog
 w:=X.w
 K:=X.K
 mg:=X.mg
 base:=X.base
 A:=X.A
 N:=xs++fr.map (·.1)
 s₀:=s
 H₀:=H
 env:=compEnvC scope (clOf X.env fr) C X.env
 outer:=X.stack
 stack:=X.stack
 ex:=ex
 fn:=fun _=>false
 calm:=X.calm
 pn:=[]
 xe:=fun _ _=>False
structure vB(X:Cx)(scope:Scope)(fr:List (Str×Nat))(xs:List Str):Prop where
 clos:closureFor scope X.env=pure (clOf X.env fr)
 cell:∀ y∈scope.names,y.2≠.cell
 kind:scope.kind=.function
 names:∀ y∈scope.names,y.2=.local->scope.names.lookup y.1=some .local
 slot:∀ p∈fr,X.N[p.2]?=some p.1/\X.env.kindOf p.1=some .cell
 has:∀ y∈(relabel scope X.env).names,(y.2=.cell∨y.2=.free)->y.1∈fr.map (·.1)
 frk:∀ p∈fr,(relabel scope X.env).names.lookup p.1=some .cell
theorem vB.of{X:Cx}{scope:Scope}{fr:List (Str×Nat)}{xs:List Str}(clos:closureFor scope X.env=pure (clOf X.env fr))(cell:∀ y∈scope.names,y.2≠.cell)(kind:scope.kind=.function)(names:∀ y∈scope.names,y.2=.local->scope.names.lookup y.1=some .local)
  (slot:∀ p∈fr,X.N[p.2]?=some p.1/\X.env.kindOf p.1=some .cell) (nf:∀ z∈scope.names,z.2=.free->z.1∈fr.map (·.1)) (frk:∀ p∈fr,(relabel scope X.env).names.lookup p.1=some .cell):vB X scope fr xs where
 clos:=clos
 cell:=cell
 kind:=kind
 names:=names
 slot:=slot
 has:=fun z hz hk=>by
  obtain⟨⟨n,k⟩,hm,e⟩:=L9.mp (show z∈scope.names.map _ from hz)
  have h2:=cell _ hm
  dsimp only at e h2
  have hn:z.1=n:=by rw[← e];split<;>rfl
  have hf:k=.free:=by
   by_cases q:k=.free
   ·exact q
   ·have hb:(k == NameKind.free)=false:=by simpa using q
    rw[hb]at e
    simp only[ON,MR,if_false]at e
    subst e
    exact(hk.elim h2 q).elim
  have:=nf _ hm hf
  rw[hn]
  exact this
 frk:=frk
abbrev nons(xs:List Str):St:=Nu xs.length none
section
variable{X:Cx}{pins:List (Addr×Obj)}{σ:St}{H:Hp}{s:Shared}{scope:Scope}{fr:List (Str×Nat)}{xs:List Str}
theorem vB.cells(O:vB X scope fr xs)(I:Inv X pins σ H s){y:Str}{c:Addr}(h:(clOf X.env fr).lookup y=some c):X.env.cells.lookup y=some c:=by
 obtain⟨hm,e⟩:=fz h
 obtain⟨p,hp,ep⟩:=L9.mp hm
 have k:=(O.slot p hp).2
 rw[ep]at k
 obtain⟨c',e'⟩:=I.ok.has y (.inl k)
 rw[e']at e
 rw[e',e]
 rfl
theorem F7{fp:List Addr}(O:vB X scope fr xs)(I:Inv X pins σ H s)(hf:∀ b∈fp,FpOk X pins H b)(hfs:∀ b∈fp,b<s.heap.objs.size){g h':Heap}{tk:Nat}(hg:g=s.heap.push (LCg.lst []))
  (hk:∀ b o,g.get? b=some o->h'.get? b=some o) (hC:h'.Ns g.objs.size fun _=>none) :
  Inv (cxG X scope fr xs g.objs.size (s.heap.objs.size::fp) { s with heap:=g } H) (X.pn++pins++[(s.heap.objs.size,LCg.lst [])]) (nons xs++frOf fr σ) H { s with heap:=h',toks:=tk }:=by
 have hsz:g.objs.size=s.heap.objs.size+1:=by rw[hg,Heap.size_push]
 have kp:∀ b o,s.heap.get? b=some o->g.get? b=some o:=fun b o e=>by rw[hg];exact Heap.get?_push_of_some _ e
 have hk0:∀ b o,s.heap.get? b=some o->h'.get? b=some o:=fun b o e=>hk b o (kp b o e)
 have hDo:h'.get? s.heap.objs.size=some (LCg.lst []):=hk _ _ (by rw[hg];exact Heap.get?_push_size _ rfl)
 have neC:∀ b,b<s.heap.objs.size->b≠g.objs.size:=fun b e=>by rw[hsz];exact Mt (NY e)
 have hDC:s.heap.objs.size≠g.objs.size:=by rw[hsz];exact Mt (NK _)
 have hfr:H g.objs.size=none:=I.hok.fresh (by rw[hsz];exact Ni _)
 have hfD:H s.heap.objs.size=none:=I.hok.fresh (LG _)
 have cne:∀ y c,X.env.cells.lookup y=some c->c<s.heap.objs.size:=fun y c e=>by
  obtain⟨v,q⟩:=I.cell y c e
  exact q.lt
 have nst:∀ b,b≠X.env.locals->b∉X.fs->b∉frs X.stack:=fun b h1 h2 z=>(LC.mp (I.stkSub b z)).elim h1 h2
 have nstD:s.heap.objs.size∉frs X.stack:=nst _ (N8 I.lt) (I.nofs (LG _))
 refine⟨⟨I.ok.mod,O.kind,I.ok.glob,I.ok.blt,LG _,?_,?_,fun _ _ z _=>(by cases z),I.ok.hd,I.ok.frames,.inl rfl,?_,?_,?_,?_,?_,?_,I.stkFree⟩,rfl,I.bare,Un.kept hk,?_,?_,hfr,?_,?_,I.hok.kept hk0,?_⟩
 ·intro y z c h1 h2
  exact I.ok.inj y z c (O.cells I h1) (O.cells I h2)
 ·intro y hy
  have hm:y∈fr.map (·.1):=by
   rcases hy with hy | hy
   ·exact O.has (y,_) (MX hy) (.inl rfl)
   ·exact O.has (y,_) (MX hy) (.inr rfl)
  exact⟨_,bP hm⟩
 ·intro b hb
  rcases LC.mp hb with rfl | hb
  ·exact⟨hDC,fun y c e=>Mt (cne y c (O.cells I e))⟩
  ·exact⟨neC b (hfs b hb),fun y c e=>(hf b hb).2.2.2.2.1 y c (O.cells I e)⟩
 ·intro b o e
  exact⟨kp b o (I.bs b o e).1,(I.bs b o e).2⟩
 ·show X.base.objs.size<=g.objs.size
  rw[hsz]
  exact NB (MB I.ok.bsz I.sz)
 ·intro b o e hb
  rcases LC.mp hb with z | hb
  ·have:=Heap.lt_size (I.bs b o e).1
   rw[z]at this
   exact MM _ this
  ·rcases(hf b hb).2.2.2.1 with z | z
   ·exact I.ok.noex b o e z
   ·exact absurd (Mw (Heap.lt_size (I.ok.bs b o e).1) z) (MM _)
 ·intro b hb
  rcases LC.mp hb with z | hb
  ·rw[z];exact nstD
  ·exact nst b (hf b hb).2.1 (hf b hb).2.2.1
 ·exact(I.kept (h':=g) (t':=s.toks) kp).stack
 ·refine⟨_,hC,fun i y v e1 e2 e3=>?_⟩
  have e1a:(xs++fr.map (·.1))[i]?=some y:=e1
  by_cases hi:i<xs.length
  ·rw[LF (by simpa using hi)]at e2
   rw[Nq,if_pos hi]at e2
   cases e2
  ·have e1':(fr.map (·.1))[i-xs.length]?=some y:=by
    rw[LD (by omega)]at e1a
    exact e1a
   have e2':(frOf fr σ)[i-xs.length]?=some (some v):=by
    rw[LD (by simp;omega)]at e2
    simpa using e2
   generalize i-xs.length=k at e1' e2'
   unfold frOf at e2'
   rw[LL]at e1' e2'
   cases q:fr[k]? with
   |none=>rw[q]at e1';cases e1'
   |some p =>
    rw[q]at e1' e2'
    have ey:p.1=y:=L6 e1'
    have ev:(σ[p.2]?).join=some v:=L6 e2'
    have hp:p∈fr:=Lz q
    obtain⟨hN,hK⟩:=O.slot p hp
    have hkk:=O.frk p hp
    rw[ey]at hN hK hkk
    have ev':σ[p.2]?=some (some v):=by
     cases q2:σ[p.2]? with
     |none=>rw[q2]at ev;cases ev
     |some w=>rw[q2]at ev;exact congrArg some ev
    obtain⟨m,hn,hl⟩:=I.loc
    obtain⟨u,r,l⟩:=hl p.2 y v hN ev' (.inr (.inl hK))
    refine⟨u,r,?_⟩
    rcases l with⟨k1,_⟩ | ⟨_,c,ec,z⟩
    ·rw[hK]at k1;cases k1
    ·have hm:y∈fr.map (·.1):=by rw[← ey];exact L9.mpr ⟨p,hp,rfl⟩
     have el:=bP (env:=X.env) hm
     rw[ec]at el
     exact .inr ⟨.inl hkk,c,el,by obtain⟨o,ho,hd⟩:=z;exact⟨o,hk0 _ _ ho,hd⟩⟩
 ·intro y c e
  obtain⟨v,o,ho,hd⟩:=I.cell y c (O.cells I e)
  exact⟨v,o,hk0 _ _ ho,hd⟩
 ·intro y c e
  exact I.freeC y c (O.cells I e)
 ·intro p hp
  rcases LJ.mp hp with hp | hp
  ·cases hp
  ·rcases LJ.mp hp with hp | hp
   ·obtain⟨e,n,ne,nf,d⟩:=I.pin p hp
    exact⟨hk0 _ _ e,n,neC _ (Heap.lt_size e),nst _ ne nf,d⟩
   ·have ep:p=(s.heap.objs.size,LCg.lst []):=by simpa using hp
    subst ep
    exact⟨hDo,hfD,hDC,nstD,fun v z=>by cases z⟩
 ·show(nons xs++frOf fr σ).length=(xs++fr.map (·.1)).length
  unfold frOf
  simp
theorem uH{fp:List Addr}{g:Heap}{s':Shared}{H':Hp}{σ':St}{ys:List V}{us:List Value}(I:Inv X pins σ H s)(hf:∀ b∈fp,FpOk X pins H b)(hg:g=s.heap.push (LCg.lst []))
  (J:Inv (cxG X scope fr xs g.objs.size (s.heap.objs.size::fp) { s with heap:=g } H) (X.pn++pins++[(s.heap.objs.size,LCg.lst us)]) σ' H' s') (hv:Vals ys us) (hl:ys.length<=sizeLine) :
  Inv X pins σ (upd H' s.heap.objs.size (.lst ys)) s'/\H' s.heap.objs.size=none/\FpOk X pins (upd H' s.heap.objs.size (.lst ys)) g.objs.size/\∃ m,s'.heap.Ns g.objs.size m:=by
 have hsz:g.objs.size=s.heap.objs.size+1:=by rw[hg,Heap.size_push]
 have kp:∀ b o,s.heap.get? b=some o->g.get? b=some o:=fun b o e=>by rw[hg];exact Heap.get?_push_of_some _ e
 obtain⟨eD,nD,_,_,_⟩:=J.pin (s.heap.objs.size,LCg.lst us) (by simp)
 have hDC:g.objs.size≠s.heap.objs.size:=by rw[hsz];exact N8 (NK _)
 have nD':∀ b u,H' b=some u->b≠s.heap.objs.size:=fun b u e z=>by rw[z]at e;rw[e]at nD;cases nD
 have hx:∀ b o,s.heap.get? b=some o->b∉fp->b∉s.heap.objs.size::fp:=fun b o e hb z=>by
  rcases LC.mp z with z | z
  ·have:=Heap.lt_size e
   rw[z]at this
   exact MM _ this
  ·exact hb z
 have bU:Un (frs X.stack) (s.heap.objs.size::fp) H H' g s'.heap:=J.base
 have ltD:∀ b o,s.heap.get? b=some o->b≠s.heap.objs.size:=fun b o e=>Mt (Heap.lt_size e)
 have un:Un (frs X.stack) fp H (upd H' s.heap.objs.size (.lst ys)) s.heap s'.heap:=by
  refine⟨fun b o e n hb he=>bU.keep b o (kp b o e) n hb (hx b o e he),fun b o e n hb he=>bU.slot b o (kp b o e) n hb (hx b o e he),fun b o e n he=>?_,fun b o e he=>bU.there b o (kp b o e) (hx b o e he),fun b xs e=>?_,fun b o u e=>?_,fun b ps e=>?_⟩
  ·rw[au (ltD b o e)];exact bU.free b o (kp b o e) n (hx b o e he)
  ·have q:=bU.tups b xs e
   rw[au (nD' b _ q)];exact q
  ·have q:=bU.frzs b o u e
   rw[au (nD' b _ q)];exact q
  ·obtain⟨more,q⟩:=bU.tbls b ps e
   exact⟨more,by rw[au (nD' b _ q)];exact q⟩
 have hok:HOk X.prog X.w (upd H' s.heap.objs.size (.lst ys)) s'.heap:=fun b u e=>by
  by_cases hb:b=s.heap.objs.size
  ·rw[hb,ae]at e
   cases e
   rw[hb]
   exact⟨hl,us,us.length,hv,eD⟩
  ·rw[au hb]at e
   exact(J.hok b u e).stay (fun c v _ q=>q) (fun c q=>by rw[au (nD' c _ q)];exact q) fun c xs q=>by rw[au (nD' c _ q)];exact q
 have os:s'.os=s.os:=J.os
 refine⟨I.call' os un hok J.bare fun b hb=>⟨(hf b hb).2.2.2.1,(hf b hb).2.1,(hf b hb).2.2.2.2⟩,nD,?_,?_⟩
 ·refine I.fpOk (H':=upd H' s.heap.objs.size (.lst ys)) (b:=g.objs.size) (by rw[hsz];exact Ni _) ?_
  rw[au hDC]
  exact J.free
 ·obtain⟨m,hn,_⟩:=J.loc
  exact⟨m,hn⟩
end
def PTs(X:Cx)(ifs:List Expr)(t:TT):Prop :=
 ∀(pins:List (Addr×Obj))(s:Shared)(σ:St)(H:Hp)(Q:Bool->Hp->Prop),Inv X pins σ H s->t σ H Q ->
  wpAny (model X.prog X.w) X.A (forIn ifs true fun c r=>if r=true then do let ok ← isTrue c X.env (eval c X.env);pure (ForInStep.yield ok) else pure (ForInStep.yield r)) (fun b s'=>∃ H',Inv X pins σ H' s'/\Q b H') X.xe s
def tYes:TT:=fun _ H Q=>Q true H
theorem E8{X:Cx}:PTs X [] tYes:=fun _ _ _ H _ I h=>wpAny_tests_nil ⟨H,I,h⟩
section
variable{prog:Program}{w:World}{A:Around}{s:Shared}
theorem GP{elt target iter:Expr}{ifs:List Expr}{scope:Scope}{pos:Pos}{it acc:Value}{env:Env}{R:Result->Shared->Prop}(I:Nat->Shared->Prop)
  (turn:∀ n s,I n s->wpAny (model prog w) A (pyNext it) (fun r s₁=>match r with
   |none=>R (.ok .next) s₁
   |some v=>wpAny (model prog w) A (letOwnedTupleGo target it v) (fun _ s₀=>wpAny (model prog w) A (assign target env v) (fun _ s₂ =>
     wpAny (model prog w) A (forIn ifs true fun c r=>if r=true then do let ok ← isTrue c env (eval c env);pure (ForInStep.yield ok) else pure (ForInStep.yield r)) (fun ok s₃=>if ok=true then wpAny (model prog w) A (eval elt env) (fun x s₄ =>
      wpAny (model prog w) A (call (.builtin "list.append") [acc,x]) (fun _ s₅=>∃ m,m<n/\I m s₅) (notedBy (model prog w) A env fun e s'=>R (.error e) s') s₄) (notedBy (model prog w) A env fun e s'=>R (.error e) s') s₃
      else ∃ m,m<n/\I m s₃) (notedBy (model prog w) A env fun e s'=>R (.error e) s') s₂)
     (notedBy (model prog w) A env fun e s'=>R (.error e) s') s₀) (notedBy (model prog w) A env fun e s'=>R (.error e) s') s₁) (notedBy (model prog w) A env fun e s'=>R (.error e) s') s)
  (n:Nat) (h:I n s):codeAny (model prog w) A (.compLoop (.ListComp elt [⟨target,iter,ifs,0⟩] scope pos) 0 it acc env) R s:=by
 refine codeAny_loop rfl I (fun n s hI=>?_) n h
 show wpAny _ A ((compTurn (.ListComp elt [⟨target,iter,ifs,0⟩] scope pos) 0 it acc env).onRaise (fun x=>do noteFrame x env;theTreesLotGoes x)) _ _ s
 refine wpAny_noted ?_
 rw[compTurn_list]
 refine wpAny_bind (wpAny_standAt (wpAny_bind (wpAny_mono (turn n s hI) (fun r s₁ h₁=>?_) fun _ _ h'=>h')))
 cases r with
 |none=>exact wpAny_pure h₁
 |some v =>
  refine wpAny_bind (wpAny_mono h₁ (fun _ s₀ h₀'=>?_) fun _ _ h'=>h')
  refine wpAny_bind (wpAny_mono h₀' (fun _ s₂ h₂=>?_) fun _ _ h'=>h')
  refine wpAny_bind (wpAny_mono h₂ (fun okb s₃ h₃=>?_) fun _ _ h'=>h')
  cases okb with
  |false=>exact wpAny_pure ⟨rfl,h₃⟩
  |true=>exact wpAny_bind (wpAny_bind (wpAny_mono h₃ (fun x s₄ h₄=>wpAny_bind (wpAny_mono h₄ (fun _ s₅ h₅=>wpAny_pure (wpAny_pure ⟨rfl,h₅⟩)) fun _ _ h'=>h')) fun _ _ h'=>h'))
end
def BU(g:TG)(tt:TT)(te:TE)(n:Nat)(fv:St)(J:It)(H1:Hp)(QQ:List V->Hp->Prop):Prop :=
 ∃ W:Nat->Nat->List V->Hp->Prop,(∃ m,W 0 m [] H1)/\∀ i m ys H,W i m ys H->ys.length<=sizeLine /\
  ((J.stop i H/\QQ ys H)∨(J.go i H/\∃ N:List V->Hp->Prop,(∀ zs H2,N zs H2->∃ m',m'<m/\W (i+1) m' zs H2) /\
   ∀ x H',J.yld i H x H'->g x (Nu n none++fv) H' fun σ2 H2=>σ2.drop n=fv/\tt σ2 H2 fun b H3=>if b=true then te σ2 H3 (fun y H4=>N (ys++[y]) H4) else N ys H3))
section
variable{X:Cx}{scope:Scope}{fr:List (Str×Nat)}{xs:List Str}{elt iter tg:Expr}{ifs:List Expr}{pos:Pos}{te:TE}{tt:TT}{tgt:TG}{wi:TI}
theorem D5{pins:List (Addr×Obj)}{σ:St}{H:Hp}{s:Shared}{E:Value->Shared->Prop}{it:Addr}{fp:List Addr}{tn:Nat->Heap->Prop}{J:It}{RR:Value->Addr->Result->Shared->Prop}{QQ:List V->Hp->Prop}(hc:X.calm=true)(O:vB X scope fr xs)
  (hg0:∀ C ex s H,PG (cxG X scope fr xs C ex s H) tg tgt) (ht:∀ C ex s H,PTs (cxG X scope fr xs C ex s H) ifs tt) (he:∀ C ex s H,PE (cxG X scope fr xs C ex s H) elt te) (I:Inv X pins σ H s) (T:Turn X.prog X.w X.K tg J fp it tn) (st:tn 0 s.heap) (hf:∀ b∈fp,FpOk X pins H b) (hq:BU tgt tt te xs.length (frOf fr σ) J H QQ)
  (fin:∀ D C H4 ys s4 m,Inv X pins σ (upd H4 D (.lst ys)) s4->H4 D=none->FpOk X pins (upd H4 D (.lst ys)) C->s4.heap.Ns C m->QQ ys H4->RR (.ref D) C (.ok .next) s4) :
  wpAny (model X.prog X.w) X.A (newList []) (fun acc s₃=>wpAny (model X.prog X.w) X.A (newFunctionEnv scope X.env.globals (clOf X.env fr) [] X.env.qual none .none (some X.env)) (fun cenv s₄ =>
   codeAny (model X.prog X.w) X.A (.compStart (.ListComp elt [⟨tg,iter,ifs,0⟩] scope pos) 0 (.ref it) acc { cenv with scope:=relabel scope X.env }) (RR acc cenv.locals) s₄) E s₃) E s:=by
 obtain⟨W,⟨m0,w0⟩,turn⟩:=hq
 have hfs:∀ b∈fp,b<s.heap.objs.size:=fun b hb=>by
  obtain⟨o,e,_⟩:=T.obj 0 s.heap st b hb
  exact Heap.lt_size e
 refine wpAny_newObj_type (wpAny_newFunctionEnv O.cell (by intro y hy;simp at hy) (fun h₁ hns₁ hsb₁=>?_) O.kind)
 dsimp only at hns₁ hsb₁ ⊢
 generalize hH2:s.heap.push { cls:=.type "list",dict:=none,data:=.seq ([]:List Value).toArray }=g at hns₁ hsb₁ ⊢
 have hg:g=s.heap.push (LCg.lst []):=hH2.symm
 have hsz:g.objs.size=s.heap.objs.size+1:=by rw[hg,Heap.size_push]
 have hk:∀ b o,g.get? b=some o->h₁.get? b=some o:=fun b o e=>hsb₁.extBut b o (Mt (Heap.lt_size e)) (Heap.get?_push_of_some _ e)
 have kp:∀ b o,s.heap.get? b=some o->h₁.get? b=some o:=fun b o e=>hk b o (by rw[hg];exact Heap.get?_push_of_some _ e)
 have J0:=F7 (h':=h₁) (tk:=s.toks+([]:List (Str×Value)).length) O I hf hfs hg hk hns₁
 have stat:∀{H':Hp}{us:List Value},(∀ b∈fp,H' b=none)->∀ b∈fp,FpOk (cxG X scope fr xs g.objs.size (s.heap.objs.size::fp) { s with heap:=g } H) (X.pn++pins++[(s.heap.objs.size,LCg.lst us)]) H' b:=fun{H' us} hn b hb=>by
  obtain⟨_,f1,f2,f3,f4,f5⟩:=hf b hb
  refine⟨hn b hb,?_,fun z=>(LC.mp (I.stkSub b z)).elim f1 f2,.inl (LK _ hb),fun y c e=>f4 y c (O.cells I e),fun p hp=>?_⟩
  ·show b≠g.objs.size
   rw[hsz];exact Mt (NY (hfs b hb))
  ·rcases LJ.mp hp with hp | hp
   ·cases hp
   ·rcases LJ.mp hp with hp | hp
    ·exact f5 p hp
    ·have ep:p=(s.heap.objs.size,LCg.lst us):=by simpa using hp
     rw[ep]
     exact N8 (hfs b hb)
 have loop:codeAny (model X.prog X.w) X.A (.compLoop (.ListComp elt [⟨tg,iter,ifs,0⟩] scope pos) 0 (.ref it) (.ref s.heap.objs.size) (compEnvC scope (clOf X.env fr) g.objs.size X.env))
   (RR (.ref s.heap.objs.size) g.objs.size) { s with heap:=h₁,toks:=s.toks+([]:List (Str×Value)).length }:=by
  refine GP (fun n s'=>∃ i ys us H',Inv (cxG X scope fr xs g.objs.size (s.heap.objs.size::fp) { s with heap:=g } H) (X.pn++pins++[(s.heap.objs.size,LCg.lst us)]) (nons xs++frOf fr σ) H' s'/\Vals ys us/\tn i s'.heap/\(∀ b∈fp,H' b=none)/\W i n ys H') ?_ m0
   ⟨0,[],[],H,J0,.nil,T.keep 0 s.heap h₁ st fun b _ o e=>kp b o e,fun b hb=>(hf b hb).1,w0⟩
  rintro n s3 ⟨i,ys,us,H3,J3,hv,st3,fr3,w3⟩
  obtain⟨hlen,hh⟩:=turn i n ys H3 w3
  have none_err:∀{α:Type}{t:Sem α}{Q:α->Shared->Prop}{E':Value->Shared->Prop}{s:Shared},wpAny (model X.prog X.w) X.A t Q (fun _ _=>False) s->wpAny (model X.prog X.w) X.A t Q E' s:=fun h=>wpAny_mono h (fun _ _ q=>q) fun _ _ z=>z.elim
  have weakN:∀{σ6:St},σ6.length=(nons xs++frOf fr σ).length->σ6.drop xs.length=frOf fr σ->∀(i:Nat) v,(nons xs++frOf fr σ)[i]?=some (some v)->σ6[i]?=some (some v):=fun{σ6} hl6 e6 i v e=>by
   by_cases hi:i<xs.length
   ·rw[LF (by simpa using hi),Nq,if_pos hi]at e
    cases e
   ·rw[LD (by simp;omega),← e6,Ng]at e
    have:xs.length+(i-(nons xs).length)=i:=by simp;omega
    rw[this]at e
    exact e
  rcases hh with⟨stop,qn⟩ | ⟨go,N,hN,step⟩
  ·refine none_err (thn (T.done (cxG X scope fr xs g.objs.size (s.heap.objs.size::fp) { s with heap:=g } H) rfl rfl rfl hc i _ s3 _ H3 _ J3 (stat fr3) st3 stop) fun r s4 ⟨hr,J4⟩=>?_)
   subst hr
   obtain⟨I4,nD,fC,m,hn⟩:=uH I hf hg J4 hv hlen
   exact fin _ _ H3 ys s4 m I4 nD fC hn qn
  ·refine none_err (thn (T.item (cxG X scope fr xs g.objs.size (s.heap.objs.size::fp) { s with heap:=g } H) rfl rfl rfl hc i _ s3 _ H3 _ J3 (stat fr3) st3 go) fun r s4 ⟨u,hr,h4⟩=>?_)
   subst hr
   refine none_err (thn h4 fun _ s5 ⟨v,H5,J5,r5,y5,st5,fr5⟩=>?_)
   have J5':=J5.pinned (stat fr5) (T.obj _ _ st5)
   refine none_err (thn (hg0 _ _ _ _ _ s5 _ H5 v u _ J5' r5 (step v H5 y5)) fun _ s6 ⟨σ6,H6,J6,e6,q6⟩=>?_)
   refine none_err (thn (ht _ _ _ _ _ s6 σ6 H6 _ J6 q6) fun b s6' ⟨H6',J6',q6'⟩=>?_)
   have hl6:σ6.length=(nons xs++frOf fr σ).length:=J6.len.trans J3.len.symm
   cases b with
   |false =>
    rw[if_neg L8]at q6' ⊢
    obtain⟨m',hm,w7⟩:=hN ys H6' q6'
    have pinF:∀ b∈fp,∀ o,s5.heap.get? b=some o->s6'.heap.get? b=some o/\H6' b=none:=fun b hb o e=>by
     obtain⟨q1,q2,_⟩:=J6'.pin (b,o) (L4 _ (L4 _ (fS hb e)))
     exact⟨q1,q2⟩
    refine⟨m',hm,i+1,ys,us,H6',J6'.unpinned.weak (σ':=nons xs++frOf fr σ) hl6.symm (weakN hl6 e6),hv,T.keep _ _ _ st5 fun b hb o e=>(pinF b hb o e).1,fun b hb=>?_,w7⟩
    obtain⟨o,e,_⟩:=T.obj _ _ st5 b hb
    exact(pinF b hb o e).2
   |true =>
    rw[if_pos rfl]at q6' ⊢
    refine none_err (thn (he _ _ _ _ _ s6' _ H6' _ J6' q6') fun u7 s7 ⟨v7,H7,J7,r7,q7⟩=>?_)
    obtain⟨m',hm,w7⟩:=hN _ H7 q7
    obtain⟨eD,nD,dC,dF,dd⟩:=J7.pin (s.heap.objs.size,LCg.lst us) (L4 _ (MC _ (L4 _ (by simp))))
    have hvl:=hv.length
    refine append_at (hsz:=by show us.toArray.size<=sizeLine;rw[LV,← hvl];exact hlen) eD fun h8 hs8 hD8=>?_
    have pinD:∀ p∈X.pn++pins,p.1≠s.heap.objs.size:=fun p hp z=>by
     have:=Heap.lt_size (I.pin p hp).1
     rw[z]at this
     exact MM _ this
    have J7a:Inv (cxG X scope fr xs g.objs.size (s.heap.objs.size::fp) { s with heap:=g } H) (X.pn++pins) _ H7 s7:=J7.pins_of fun p hp=>J7.pin p (L4 _ (MC _ (MC _ hp)))
    have J8:Inv (cxG X scope fr xs g.objs.size (s.heap.objs.size::fp) { s with heap:=g } H) (X.pn++pins) _ H7 { s7 with heap:=h8 }:=J7a.turned (t':=s7.toks) (fun b o hb e=>(hs8.2 b hb).trans e) nD dC (.inl LI) (fun y c e z=>by
     obtain⟨w',q⟩:=I.cell y c (O.cells I e)
     have:=q.lt
     rw[z]at this
     exact MM _ this) (fun p hp=>(LJ.mp hp).elim (fun z=>by cases z) (pinD p))
    have J9:Inv (cxG X scope fr xs g.objs.size (s.heap.objs.size::fp) { s with heap:=g } H) (X.pn++pins++[(s.heap.objs.size,LCg.lst (us++[u7]))]) _ H7 { s7 with heap:=h8 }:=J8.pins_of fun p hp=>by
     rcases LJ.mp hp with hp | hp
     ·exact J8.pin p (L4 _ hp)
     ·have ep:p=(s.heap.objs.size,LCg.lst (us++[u7])):=by simpa using hp
      subst ep
      exact⟨hD8.trans (congrArg some (LCg.lst_snoc us u7)),nD,dC,dF,fun v z=>by cases z⟩
    have J10:=J9.weak (σ':=nons xs++frOf fr σ) hl6.symm (weakN hl6 e6)
    have pinF:∀ b∈fp,∀ o,s5.heap.get? b=some o->s7.heap.get? b=some o/\H7 b=none:=fun b hb o e=>by
     obtain⟨q1,q2,_⟩:=J7.pin (b,o) (L4 _ (L4 _ (fS hb e)))
     exact⟨q1,q2⟩
    refine⟨m',hm,i+1,ys++[v7],us++[u7],H7,J10,hv.append (.cons r7 .nil),T.keep _ _ _ st5 fun b hb o e=>(hs8.2 b (Mt (hfs b hb))).trans (pinF b hb o e).1,fun b hb=>?_,w7⟩
    obtain⟨o,e,_⟩:=T.obj _ _ st5 b hb
    exact(pinF b hb o e).2
 exact codeAny_compStart_list loop (T.self X.A 0 _ _ _ (T.keep 0 s.heap h₁ st fun b _ o e=>kp b o e) loop)
def tCompE(wi:TI)(g:TG)(tt:TT)(te:TE)(n:Nat)(fr:List (Str×Nat)):TE:=fun σ H Q=>wi σ H fun J H1=>BU g tt te n (frOf fr σ) J H1 fun ys H2=>∀ D,H2 D=none->Q (.ref D) (upd H2 D (.lst ys))
theorem B8(hc:X.calm=true)(O:vB X scope fr xs)(hi:PI X tg iter wi)(hg0:∀ C ex s H,PG (cxG X scope fr xs C ex s H) tg tgt)(ht:∀ C ex s H,PTs (cxG X scope fr xs C ex s H) ifs tt)(he:∀ C ex s H,PE (cxG X scope fr xs C ex s H) elt te)(hs:∀ x,foldedSetIterable iter X.env x=pure x:=by intro _;rfl) :
  PE X (.ListComp elt [⟨tg,iter,ifs,0⟩] scope pos) (tCompE wi tgt tt te xs.length fr):=by
 intro pins s σ H Q I h
 rw[eval_ListComp]
 refine wpAny_comprehension_free (use:=none) rfl hs O.clos O.kind O.names (thn (hi pins s σ H _ I h) fun xv s1 h1=>thn h1 fun itv s2 h2=>?_)
 obtain⟨it,fp,tn,J,H2,e,I2,T,st2,f2,q2⟩:=h2
 subst e
 refine D5 (RR:=fun acc C=>compPost (model X.prog X.w) X.A X.xe none (EP X pins σ Q) acc C) hc O hg0 ht he I2 T st2 f2 q2 ?_
 intro D C H4 ys s4 m I4 nD fC hn q4
 refine⟨m,hn,fun h' hs'=>?_⟩
 obtain⟨g0,g1,g2,g3,g4,g5⟩:=fC
 exact⟨.ref D,_,I4.turned (t':=s4.toks) (fun b o hb e=>(hs'.2 b hb).trans e) g0 g1 g3 g4 g5,rfl,q4 D nD⟩
end
theorem D6{K:LA}{a:Addr}{xs:List V}{g:TG}{tt:TT}{te:TE}{n:Nat}{fv:St}{H1:Hp}{QQ:List V->Hp->Prop}(Pv:Nat->List V->Hp->Prop)(hz:xs.length<=sizeLine)(h0:Pv 0 [] H1)(hl:∀ i ys H,i<=xs.length->Pv i ys H->SqL K H a xs)
  (hs:∀ i x ys H,xs[i]?=some x->Pv i ys H->g x (Nu n none++fv) H fun σ2 H2=>σ2.drop n=fv/\tt σ2 H2 fun b H3=>if b=true then te σ2 H3 (fun y H4=>Pv (i+1) (ys++[y]) H4) else Pv (i+1) ys H3) (hd:∀ ys H,Pv xs.length ys H->QQ ys H) (hy:∀ i ys H,Pv i ys H->ys.length<=i)
  : BU g tt te n fv (Itl K a) H1 QQ:=by
 refine⟨fun i m ys H=>m=xs.length-i/\i<=xs.length/\Pv i ys H,⟨xs.length,by simp,MQ _,h0⟩,?_⟩
 rintro i m ys H ⟨rfl,hi,p⟩
 have q:=hl i ys H hi p
 have hyl:=hy i ys H p
 refine⟨by omega,?_⟩
 by_cases hlt:i<xs.length
 ·refine .inr ⟨⟨xs,xs[i],q,by simp[hlt]⟩,fun zs H2=>Pv (i+1) zs H2,fun zs H2 p2=>⟨xs.length-(i+1),by omega,rfl,hlt,p2⟩,fun x H' y=>?_⟩
  obtain⟨e,y⟩:=y
  subst e
  exact hs i x ys _ (y xs q) p
 ·have e:i=xs.length:=by omega
  subst e
  exact .inl ⟨⟨xs,q,LG _⟩,hd ys H p⟩
theorem D8{K:LA}{a:Addr}{xs:List V}{g:TG}{tt:TT}{te:TE}{n:Nat}{fv:St}{H1:Hp}{QQ:List V->Hp->Prop}(Pv:Nat->List V->Hp->Prop)(hz:xs.length<=sizeLine)(h0:Pv 0 [] H1)(hl:∀ i ys H,i<=xs.length->Pv i ys H->SqL K H a xs)
  (hs:∀ i x ys H T,xs[i]?=some x->Pv i ys H->H T=none->g (.ref T) (Nu n none++fv) (upd H T (.tup [.int (i:Int),x])) fun σ2 H2=>σ2.drop n=fv/\tt σ2 H2 fun b H3=>if b=true then te σ2 H3 (fun y H4=>Pv (i+1) (ys++[y]) H4) else Pv (i+1) ys H3) (hd:∀ ys H,Pv xs.length ys H->QQ ys H) (hy:∀ i ys H,Pv i ys H->ys.length<=i)
  : BU g tt te n fv (Ite K a) H1 QQ:=by
 refine⟨fun i m ys H=>m=xs.length-i/\i<=xs.length/\Pv i ys H,⟨xs.length,by simp,MQ _,h0⟩,?_⟩
 rintro i m ys H ⟨rfl,hi,p⟩
 have q:=hl i ys H hi p
 have hyl:=hy i ys H p
 refine⟨by omega,?_⟩
 by_cases hlt:i<xs.length
 ·refine .inr ⟨⟨xs,xs[i],q,by simp[hlt]⟩,fun zs H2=>Pv (i+1) zs H2,fun zs H2 p2=>⟨xs.length-(i+1),by omega,rfl,hlt,p2⟩,fun v H' y=>?_⟩
  obtain⟨T,x,hT,rfl,rfl,y⟩:=y
  exact hs i x ys _ T (y xs q) p hT
 ·have e:i=xs.length:=by omega
  subst e
  exact .inl ⟨⟨xs,q,LG _⟩,hd ys H p⟩
end L2
namespace L2
open PySem PySem.Spec PyProof.Rows
section
variable{X:Cx}{K:LA}{pos:Pos}
theorem Ct(h:X.K=K):IxR X (rIxL K):=h▸aA
theorem Ff{es:List Expr}{k:Nat}{t:TGs}{n:Nat}(hK:X.K=K)(hc:X.calm=true)(h:PGs X es t)(hn:(assignEach es X.env).length=n:=by rfl)(hst:(assignEach es X.env).findIdx? (·.1)=none:=by rfl):PG X (.Tuple es k pos) (gTup K n t):=hK▸BX hc h hn hst
theorem rF(h:X.K=K):i7 X (.type "list") (fun xs H Q=>∃ p ys,xs = [.ref p]/\(SqL K H p ys∨SqT K H p ys)/\∀ l,H l=none->Q (.ref l) (upd H l (.lst ys))):=h▸fq
theorem Fi{e:Expr}{f:Str}{ta:TE}(h:X.K=K)(he:PE X e ta)(hb:attributeBase e f X.env (eval e X.env)=eval e X.env):PE X (.Attribute e f pos) (tFld K ta f):=h▸bE he hb
end
end L2
namespace L2
open PySem PySem.Spec PyProof.Rows
section
variable{X:Cx}
def Kd:V->List V->Hp->VK->Prop:=fun x vs H Q=>∃ l xs k y,x=.ref l/\vs = [.int k,y]/\H l=some (.lst xs)/\0<=k/\k<=xs.length/\xs.length<sizeLine/\Q .non (upd H l (.lst (xs.take k.toNat++y::xs.drop k.toNat)))
theorem wV:MtM X "list.insert" Kd:=by
 intro pins s σ H x vs v us Q I rx rv h
 obtain⟨l,xs,k,y,rfl,rfl,hH,h0,hk,hz,q⟩:=h
 cases rx
 obtain⟨u1,u2,rfl,r1,r2⟩:=rv.two
 obtain⟨t,rfl⟩:=r1
 obtain⟨z,its,n,r,hl,e⟩:=I.lstM hH
 have hn:=o5
 have hfit:¬ (!Builtin.List.listFitsIndex k)=true:=by
  rw[fitsIndex_both (by omega) (by omega)]
  exact L8
 refine call_meets F.slot_list_insert ⟨_,e,rfl⟩ F.entry_list_insert (F.args_list_insert_3 _ _ _) (AutoListH.list_insert_list_int_val_1 l its.toArray n k t u2 hfit (by rw[LV];omega)) ⟨e,?_⟩
 refine⟨.non,_,I.lset (its':=its.take k.toNat++u2::its.drop k.toNat) hH e ?_ ((r.take _).append (.cons r2 (r.drop _))) ?_,rfl,q⟩
 ·dsimp only
  rw[if_neg (by omega),LV,MU (by omega)]
  simp
  exact Ms (by rw[Mj];omega)
 ·rw[Ly,Mb,LZ,Mj]
  omega
theorem uI:∀{ns:List Int}{us:List Value},Vals (ns.map V.int) us->IntsAre us ns
 |[],_,.nil=>.nil
 |n::ns,_,.cons r rr=>by
  obtain⟨t,rfl⟩:=r
  exact .cons n t (uI rr)
end
end L2
namespace L2
open PySem PySem.Spec PyProof.Rows
theorem oJ:∀{ps:List Nat},(∀ p∈ps,p<1000)->PyData.weightAll ((ps.map fun(p:Nat)=>((p:Nat):Int)).map PyData.int)<=12*ps.length
 |[],_=>by simp[PyData.weightAll]
 |p::ps,h=>by
  have ih:=oJ (ps:=ps) fun x hx=>h x (LK _ hx)
  have hp:=h p (by simp)
  have hw:PyData.weight (.int (p:Int))<=11:=by
   rw[PyData.weight]
   split
   ·exact MQ _
   ·rename_i z
    have z':p≠0:=fun e=>z (by rw[e];rfl)
    have e:((p:Int)).natAbs=p:=rfl
    rw[e]
    have:=(Nat.log2_lt z').mpr (show p<2^10 by omega)
    omega
  rw[Mc,Mc,PyData.weightAll,Mb]
  omega
theorem Iv{ps:List Nat}(h:∀ p∈ps,p<1000)(hl:ps.length<=1000):PyData.layable0 (.list ((ps.map fun(p:Nat)=>((p:Nat):Int)).map PyData.int))=true:=by
 have h1:=PySem.W.shaped_ints (ps.map fun(p:Nat)=>((p:Nat):Int))
 have h2:=oJ h
 have h3:PyData.weight (.list ((ps.map fun(p:Nat)=>((p:Nat):Int)).map PyData.int))<=2^20:=by
  rw[PyData.weight];omega +splitDisjunctions
 unfold PyData.layable0
 unfold SeqAt.shaped at h1
 rw[h1,decide_eq_true h3]
 rfl
section
variable{X:Cx}
def rIndex(K:LA):V->List V->Hp->VK->Prop:=fun x vs H Q=>∃(l:Addr)(ps:List Nat)(k:Nat),x=.ref l/\vs = [.int (k:Int)]/\SqL K H l (ps.map fun(p:Nat)=>V.int (p:Int))/\(∀ p∈ps,p<1000)/\ps.length<=1000/\k∈ps/\Q (.int ((ps.idxOf k:Nat):Int)) H
theorem IB{ps:List Nat}{k:Nat}:(ps.map fun(p:Nat)=>((p:Nat):Int)).idxOf (k:Int)=ps.idxOf k:=by
 induction ps with
 |nil=>rfl
 |cons p ps ih =>
  rw[Mc,List.idxOf_cons,List.idxOf_cons,ih]
  have e:(((p:Nat):Int) == (k:Int))=(p == k):=by
   by_cases h:p=k
   ·subst h;simp
   ·have h2:¬ (p:Int)=(k:Int):=fun z=>h (by omega)
    rw[beq_eq_false_iff_ne.mpr h,beq_eq_false_iff_ne.mpr h2]
  rw[e]
theorem ui:MtM X "list.index" (rIndex X.K):=by
 intro pins s σ H x vs v us Q I rx rv h
 obtain⟨l,ps,k,rfl,rfl,hq,hs,hl,hk,q⟩:=h
 cases rx
 obtain⟨u,rfl,ru⟩:=rv.one
 obtain⟨t,rfl⟩:=ru
 have e:(ps.map fun(p:Nat)=>V.int (p:Int))=(ps.map fun(p:Nat)=>((p:Nat):Int)).map V.int:=by rw[ME];rfl
 rw[e]at hq
 obtain⟨its,r,pl,hz⟩:=I.list hq
 refine index_list_ints pl.isList (uI r) (Iv hs hl) (L9.mpr ⟨k,hk,rfl⟩) ?_
 rw[IB]
 exact⟨.int _,H,I.tok _,⟨_,rfl⟩,q⟩
theorem op_eqG(hu:X.A.units+64<cLine):OpR X (compareOp .Eq) (fun x y H Q=>∃ d1 d2,RdD X.K H x d1/\RdD X.K H y d2/\SeqAt.shaped d1=true/\SeqAt.shaped d2=true/\Q (.bl (PyData.eqv d1 d2)) H):=by
 intro pins s σ H x y v u Q I rx ry h
 obtain⟨d1,d2,r1,r2,h1,h2,q⟩:=h
 obtain⟨as,q1⟩:=r1.reads I v rx
 obtain⟨bs,q2⟩:=r2.reads I u ry
 exact eq_dataH q1 q2 h1 h2 hu ⟨.bl _,H,I,rfl,q⟩
end
end L2
namespace L2
open PySem PySem.Spec PyProof.Rows
theorem Ey:∀{us:List Value}{ns:List Int},IntsAre us ns->Vals (ns.map V.int) us
 |_,_,.nil=>.nil
 |_,_,.cons _ t r=>.cons ⟨t,rfl⟩ (Ey r)
section
variable{X:Cx}
def E6(K:LA):List V->Hp->VK->Prop:=fun xs H Q=>∃(p:Addr)(ns:List Int),xs = [.ref p]/\SqL K H p (ns.map V.int)/\ns.length<64/\∀(l:Addr)(out:List Int),H l=none->out.Perm ns->out.Pairwise (·<=·)->Q (.ref l) (upd H l (.lst (out.map V.int)))
theorem Bn:i7 X (.builtin "sorted") (E6 X.K):=by
 intro pins s σ H xs us Q I r h
 obtain⟨p,ns,rfl,hq,h64,q⟩:=h
 obtain⟨u,rfl,ru⟩:=lE r
 cases ru
 obtain⟨its,rv,pl,hz⟩:=I.list hq
 have hi:=uI rv
 have hl:=rv.length
 rw[LB]at hl
 refine sorted_ints pl.isList hi (by omega) fun out ns' a1 a2 a3=>?_
 obtain⟨e,he⟩:=sortedAll_at s.heap its out
 refine⟨.ref (s.heap.objs.size+1),_,I.laid (t':=s.toks) (fun _ _=>sortedAll_old) (Ni _) (show bT X.prog X.w _ _ _ (.lst (ns'.map V.int)) from⟨?_,out.toList,e,Ey a1,?_⟩),rfl,q _ ns' (I.hok.fresh (Ni _)) a2 a3⟩
 ·rw[LB,a2.length_eq]
  exact MJ (aB (by omega))
 ·exact he
theorem yb{K:LA}(h:X.K=K):i7 X (.builtin "sorted") (E6 K):=h▸Bn
end
end L2
namespace L2
open PySem PySem.Spec PyProof.Rows
section
variable{X:Cx}{tg:Expr}
end
end L2
namespace L2
open PySem PySem.Spec PyProof.Rows
theorem bt_max:bootBuiltins "max" = some (.builtin "max"):=by decide +kernel
section
variable{X:Cx}
def rCatS(K:LA):R2:=fun x y H Q=>∃ l b xs zs,x=.ref l/\y=.ref b/\SqL K H l xs/\SqL K H b zs/\xs.length+zs.length<=sizeLine/\∀ p,H p=none->Q (.ref p) (upd H p (.lst (xs++zs)))
theorem jK:OpR X (binaryOp .Add) (rCatS X.K):=by
 intro pins s σ H x y v u Q I rx ry h
 obtain⟨l,b,xs,zs,rfl,rfl,hH,hB,hz,q⟩:=h
 cases rx
 cases ry
 obtain⟨its,r,pl,_⟩:=I.list hH
 obtain⟨its2,r2,pl2,_⟩:=I.list hB
 obtain⟨⟨cls,dd,data,sl⟩,ho,hc,n,hd⟩:=pl.isList
 obtain⟨⟨cls2,dd2,data2,sl2⟩,ho2,hc2,n2,hd2⟩:=pl2.isList
 simp only at hc hd hc2 hd2
 subst hc hd hc2 hd2
 have ea:its.toArray++its2.toArray=(its++its2).toArray:=by simp
 have e1:=r.length
 have e2:=r2.length
 refine concat_meets ⟨_,ho,rfl⟩ ⟨_,ho2,rfl⟩ noFill_list_add seq_list_add PySem.F.slot_list_add PySem.F.entry_list_add (PySem.F.args_list_add_2 _ _) (list_addW l b its.toArray its2.toArray n n2 dd dd2 sl sl2 (by rw[LV,LV];omega)) ⟨ho,ho2,?_⟩
 rw[ea]
 exact⟨.ref _,_,I.lnew (t':=s.toks) (r.append r2) (by rw[Ly];omega),rfl,q _ I.fresh⟩
theorem ug:∀{ns:List Int}{us:List Value},Vals (ns.map V.int) us->IntsAre us ns
 |[],_,.nil=>.nil
 |n::ns,_,.cons r rr=>by
  obtain⟨t,rfl⟩:=r
  exact .cons n t (ug rr)
end
end L2
namespace L2
open PySem PySem.Spec PyProof.Rows
theorem yesT{σ:St}{H:Hp}{A B:Hp->Prop}(h:A H):tYes σ H fun b H3=>if b=true then A H3 else B H3 :=
 show(if true=true then A H else B H) from iteT (B:=B H) h
section
variable{X:Cx}
end
section
variable{X:Cx}
def rMinL(K:LA):List V->Hp->VK->Prop:=fun xs H Q=>∃(p:Addr)(ns:List Int),xs = [.ref p]/\SqL K H p (ns.map V.int)/\0<ns.length/\∀ m:Int,m∈ns->(∀ x∈ns,m<=x)->Q (.int m) H
theorem G0(hc:X.calm=true):i7 X (.builtin "min") (rMinL X.K):=by
 intro pins s σ H xs us Q I r h
 obtain⟨p,ns,rfl,hq,hne,q⟩:=h
 obtain⟨u,rfl,ru⟩:=lE r
 cases ru
 obtain⟨its,rv,pl,hz⟩:=I.list hq
 have hi:=ug rv
 obtain⟨zs,e⟩:=hi.allInts.items
 have hl:s.heap.IsList p (intItems zs):=by rw[← e];exact pl.isList
 have e1:ns=zs.toList.map (·.1):=by
  rw[← nums_intItems,← e]
  exact(show numsOf its.toArray.toList=ns from hi.numsOf).symm
 subst e1
 rw[LB,MG]at hne
 refine min_intList (I.ok.hd hc) hl hne fun v h' tk hv hk=>?_
 obtain⟨t,rfl⟩:=intItems_at hv
 obtain⟨h1,h2⟩:=argBest_lt (numAt zs) (zs.size-1)
 refine⟨.int _,H,I.kept (t':=tk) hk,⟨t,rfl⟩,q _ ?_ fun a ha=>?_⟩
 ·rw[numAt_eq];exact PySem.getD_mem (by rw[LB,MG];omega)
 ·obtain⟨j,hj,rfl⟩:=PySem.mem_getD ha
  rw[LB,MG]at hj
  rw[← numAt_eq];exact h2 j (by omega)
end
end L2
namespace L2
open PySem PySem.Spec PyProof.Rows
end L2
namespace L2
open PySem PySem.Spec PyProof.Rows
section
variable{X:Cx}
theorem pG:∀(a b:List Int),PyData.eqvAll (a.map PyData.int) (b.map PyData.int)=decide (a=b)
 |[],[]=>by simp[PyData.eqvAll]
 |[],y::b=>by simp[PyData.eqvAll]
 |x::a,[]=>by simp[PyData.eqvAll]
 |x::a,y::b=>by
  rw[Mc,Mc]
  simp only[PyData.eqvAll,PyData.eqv,pG a b]
  by_cases h:x=y
  ·by_cases h2:a=b
   ·simp[h,h2]
   ·simp[h,h2]
  ·simp[h]
theorem IF(a b:List Int):PyData.eqv (.list (a.map PyData.int)) (.list (b.map PyData.int))=decide (a=b):=by
 rw[← pG]
 simp only[PyData.eqv]
end
section
variable{X:Cx}{tg:Expr}
end
section
variable{P:Program}{w:World}{K:LA}{mg:Str->Option Value}{base:Heap}
end
end L2
namespace PyProof.Rows
open PySem
local macro_rules | `(tactic| walk_at "gallop") => do
 let n:=Lean.mkIdent (Lean.mkPrivateNameCore `PySem.Builtin.List.W1All `PySem.Builtin.gallop)
 `(tactic| delta $n)
local macro_rules | `(tactic| walk_at "st") => `(tactic| try dsimp -zeta -zetaHave only)
local macro_rules | `(tactic| walk_at "l4") => `(tactic| (extract_lets -underBinder +onlyGivenNames a b; subst a b))
variable{prog:Program}{w:World}{A:Around}{E:Value->Shared->Prop}{s:Shared}
end PyProof.Rows
namespace PyProof.Rows
open PySem
local macro_rules | `(tactic| walk_at "setG") => do
 let n:=Lean.mkIdent (Lean.mkPrivateNameCore `PySem.Builtin.List.W1All `PySem.Builtin.setMinGallop)
 `(tactic| delta $n)
local macro_rules | `(tactic| walk_at "mergeLo") => do
 let n:=Lean.mkIdent (Lean.mkPrivateNameCore `PySem.Builtin.List.W1All `PySem.Builtin.mergeLo)
 `(tactic| delta $n)
local macro_rules | `(tactic| walk_at "st") => `(tactic| try dsimp -zeta -zetaHave only)
local macro_rules | `(tactic| walk_at "l3") => `(tactic| (extract_lets -underBinder +onlyGivenNames a b c; subst a b c))
local macro_rules | `(tactic| walk_at "l11") => `(tactic| (extract_lets -underBinder +onlyGivenNames a b c d e f g h i j k; subst a b c d e f g h i j k; dsimp -zeta -zetaHave only))
variable{prog:Program}{w:World}{A:Around}{E:Value->Shared->Prop}{s:Shared}
end PyProof.Rows
namespace PyProof.Rows
open PySem
local macro_rules | `(tactic| walk_at "mergeHi") => do
 let n:=Lean.mkIdent (Lean.mkPrivateNameCore `PySem.Builtin.List.W1All `PySem.Builtin.mergeHi)
 `(tactic| delta $n)
local macro_rules | `(tactic| walk_at "st") => `(tactic| try dsimp -zeta -zetaHave only)
local macro_rules | `(tactic| walk_at "l3") => `(tactic| (extract_lets -underBinder +onlyGivenNames a b c; subst a b c))
local macro_rules | `(tactic| walk_at "l11") => `(tactic| (extract_lets -underBinder +onlyGivenNames a b c d e f g h i j k; subst a b c d e f g h i j k; dsimp -zeta -zetaHave only))
variable{prog:Program}{w:World}{A:Around}{E:Value->Shared->Prop}{s:Shared}
end PyProof.Rows
namespace PyProof.Rows
open PySem
local macro_rules | `(tactic| walk_at "countRun") => do
 let n:=Lean.mkIdent (Lean.mkPrivateNameCore `PySem.Builtin.List.W1All `PySem.Builtin.countRun)
 `(tactic| delta $n)
local macro_rules | `(tactic| walk_at "binarySort") => do
 let n:=Lean.mkIdent (Lean.mkPrivateNameCore `PySem.Builtin.List.W1All `PySem.Builtin.binarySort)
 `(tactic| delta $n)
local macro_rules | `(tactic| walk_at "st") => `(tactic| try dsimp -zeta -zetaHave only)
local macro_rules | `(tactic| walk_at "l3") => `(tactic| (extract_lets -underBinder +onlyGivenNames a b c; subst a b c))
local macro_rules | `(tactic| walk_at "l11") => `(tactic| (extract_lets -underBinder +onlyGivenNames a b c d e f g h i j k; subst a b c d e f g h i j k; dsimp -zeta -zetaHave only))
local macro_rules | `(tactic| walk_at "l1") => `(tactic| (extract_lets -underBinder +onlyGivenNames a; subst a; try dsimp -zeta -zetaHave only))
local macro_rules | `(tactic| walk_at "l2") => `(tactic| (extract_lets -underBinder +onlyGivenNames a b; subst a b; try dsimp -zeta -zetaHave only))
local macro_rules | `(tactic| walk_at "l4") => `(tactic| (extract_lets -underBinder +onlyGivenNames a b c d; subst a b c d; try dsimp -zeta -zetaHave only))
variable{prog:Program}{w:World}{A:Around}{E:Value->Shared->Prop}{s:Shared}
end PyProof.Rows
namespace PyProof.Rows
open PySem
local macro_rules | `(tactic| walk_at "mergeAt") => do
 let n:=Lean.mkIdent (Lean.mkPrivateNameCore `PySem.Builtin.List.W1All `PySem.Builtin.mergeAt)
 `(tactic| delta $n)
local macro_rules | `(tactic| walk_at "st") => `(tactic| try dsimp -zeta -zetaHave only)
local macro_rules | `(tactic| walk_at "l3") => `(tactic| (extract_lets -underBinder +onlyGivenNames a b c; subst a b c))
local macro_rules | `(tactic| walk_at "l11") => `(tactic| (extract_lets -underBinder +onlyGivenNames a b c d e f g h i j k; subst a b c d e f g h i j k; dsimp -zeta -zetaHave only))
local macro_rules | `(tactic| walk_at "l1") => `(tactic| (extract_lets -underBinder +onlyGivenNames a; subst a; try dsimp -zeta -zetaHave only))
local macro_rules | `(tactic| walk_at "l2") => `(tactic| (extract_lets -underBinder +onlyGivenNames a b; subst a b; try dsimp -zeta -zetaHave only))
local macro_rules | `(tactic| walk_at "l4") => `(tactic| (extract_lets -underBinder +onlyGivenNames a b c d; subst a b c d; try dsimp -zeta -zetaHave only))
variable{prog:Program}{w:World}{A:Around}{E:Value->Shared->Prop}{s:Shared}
end PyProof.Rows
namespace PyProof.Rows
open PySem
local macro_rules | `(tactic| walk_at "sortRuns") => do
 let n:=Lean.mkIdent (Lean.mkPrivateNameCore `PySem.Builtin.List.W1All `PySem.Builtin.sortRuns)
 `(tactic| delta $n)
local macro_rules | `(tactic| walk_at "st") => `(tactic| try dsimp -zeta -zetaHave only)
local macro_rules | `(tactic| walk_at "l3") => `(tactic| (extract_lets -underBinder +onlyGivenNames a b c; subst a b c))
local macro_rules | `(tactic| walk_at "l11") => `(tactic| (extract_lets -underBinder +onlyGivenNames a b c d e f g h i j k; subst a b c d e f g h i j k; dsimp -zeta -zetaHave only))
local macro_rules | `(tactic| walk_at "l1") => `(tactic| (extract_lets -underBinder +onlyGivenNames a; subst a; try dsimp -zeta -zetaHave only))
local macro_rules | `(tactic| walk_at "l2") => `(tactic| (extract_lets -underBinder +onlyGivenNames a b; subst a b; try dsimp -zeta -zetaHave only))
local macro_rules | `(tactic| walk_at "l4") => `(tactic| (extract_lets -underBinder +onlyGivenNames a b c d; subst a b c d; try dsimp -zeta -zetaHave only))
variable{prog:Program}{w:World}{A:Around}{E:Value->Shared->Prop}{s:Shared}
end PyProof.Rows
namespace PyProof.Rows
open PySem
variable{prog:Program}{w:World}{A:Around}{E:Value->Shared->Prop}{s:Shared}
end PyProof.Rows
namespace L2
open PySem PySem.Spec PyProof.Rows
section
variable{X:Cx}
end
end L2
namespace L2
open PySem PySem.Spec PyProof.Rows
section
variable{X:Cx}
end
end L2
namespace L2
open PySem PySem.Spec PyProof.Rows
section
variable{prog:Program}{w:World}{A:Around}{E:Value->Shared->Prop}{s:Shared}{z TI TO i1 i2 l1 l2:Addr}{f0:Value}{f1:Bool}
end
section
variable{X:Cx}
end
end L2
namespace L2
open PySem PySem.Spec PyProof.Rows
section
variable{X:Cx}
theorem bt_all:bootBuiltins "all" = some (.builtin "all"):=by decide +kernel
end
end L2
namespace L2
open PySem PySem.Spec PyProof.Rows
section
variable{prog:Program}{w:World}{A:Around}{E:Value->Shared->Prop}{s:Shared}{d:Addr}
end
section
variable{X:Cx}{pins:List (Addr×Obj)}{σ:St}{H:Hp}{s:Shared}{d:Addr}{u:HO}{o:Obj}
end
section
variable{X:Cx}
end
end L2
namespace L2
open PySem PySem.Spec PyProof.Rows
section
open PySem.W
end
section
open PySem.W
variable{prog:Program}{w:World}{A:Around}{E:Value->Shared->Prop}{s:Shared}
end
section
variable{X:Cx}
theorem BQ:∀{ys:List V}{us:List Value},Vals ys us->∀ u∈us,∃ y∈ys,RelV y u
 |_,_,.nil,u,h=>nomatch h
 |_,_,.cons (a:=y) r t,u,h=>by
  rcases LC.mp h with rfl | h
  ·exact⟨y,LI ..,r⟩
  ·obtain⟨z,hz,rz⟩:=BQ t u h
   exact⟨z,LK _ hz,rz⟩
theorem vD{ys:List V}{us:List Value}(r:Vals ys us):∀{out:List Value},(∀ u∈out,u∈us)->∃ zs,Vals zs out/\zs.length=out.length/\∀ z∈zs,z∈ys
 |[],_=>⟨[],.nil,rfl,fun z h=>nomatch h⟩
 |u::out,h=>by
  obtain⟨zs,r1,l1,m1⟩:=vD r (out:=out) fun x hx=>h x (LK _ hx)
  obtain⟨y,hy,ry⟩:=BQ r u (h u (LI ..))
  exact⟨y::zs,.cons ry r1,by rw[Mb,Mb,l1],fun z hz=>by
   rcases LC.mp hz with rfl | hz
   ·exact hy
   ·exact m1 z hz⟩
end
section
variable{X:Cx}
def rAllB(K:LA):List V->Hp->VK->Prop:=fun xs H Q=>∃(p:Addr)(bs:List Bool),xs = [.ref p]/\SqL K H p (bs.map V.bl)/\Q (.bl (bs.all id)) H
theorem G5(hc:X.calm=true):i7 X (.builtin "all") (rAllB X.K):=by
 intro pins s σ H xs us Q I r h
 obtain⟨p,bs,rfl,hq,q⟩:=h
 obtain⟨u,rfl,ru⟩:=lE r
 cases ru
 obtain⟨its,rv,pl,hz⟩:=I.list hq
 have hln:=rv.length
 rw[LB]at hln
 have hlt:p<s.heap.objs.size:=by obtain⟨_,_,q,_⟩:=pl;exact Heap.lt_size q
 refine call_all_walk (wpAny_pyIter_list pl.isList ?_)
 refine⟨s.heap.objs.size,[s.heap.objs.size,p],[s.heap.objs.size],its.toArray.size,_,_,fun i=>bs.getD i true,rfl,Walks.list (A:=X.A.in1) (I.ok.hd hc) _ p (Mt hlt) its.toArray,⟨⟨_,Heap.get?_push_size _ rfl,rfl,rfl⟩,pl.isList.push _⟩,fun i v s' Q' E' hP hQ=>?_,fun h' tk hk=>?_⟩
 ·have hv:its[i]?=some v:=by simpa using hP
  have hi:i<bs.length:=by have:=(Lx.mp hv).1;omega
  obtain⟨w,hw,rw'⟩:=rv.get (i:=i) (x:=.bl bs[i]) (by rw[LL,Lw hi];rfl)
  rw[hv]at hw
  cases hw
  cases rw'
  replace hQ:Q' (bs.getD i true) s':=hQ
  rw[show bs.getD i true=bs[i] by rw[Mg,Lw hi];rfl]at hQ
  exact wpAny_truthy_bool hQ
 ·have ea:((MH its.toArray.size).all fun i=>bs.getD i true)=bs.all id:=by
   rw[LV,← hln,Ny,NL,NL]
   constructor
   ·intro h b hb
    obtain⟨i,hi,rfl⟩:=MY hb
    have:=h i (Nj.mpr hi)
    rw[Mg,Lw hi]at this
    exact this
   ·intro h i hi
    have hi':=Nj.mp hi
    rw[Mg,Lw hi']
    exact h _ (Mm hi')
  rw[ea]
  refine⟨.bl _,H,I.kept (t':=tk) (fun b o e=>hk b o (fun hm=>?_) (Heap.get?_push_of_some _ e)),rfl,q⟩
  rw[Mx.mp hm]at e
  exact MM _ (Heap.lt_size e)
end
end L2
namespace L2
open PySem PySem.Spec PyProof.Rows
section
variable{prog:Program}{w:World}{K:Type} [DecidableEq K] {knd:KeyKind prog w K} {A:Around} {E:Value->Shared->Prop} {s:Shared}
end
section
variable{X:Cx}{o e f:Expr}{apos cpos:Pos}{td ty tx:TE}
end
section
variable{X:Cx}
end
section
variable{prog:Program}{w:World}{A:Around}{E:Value->Shared->Prop}{s:Shared}{T:String}{r d:Addr}{n:Nat}{P:Nat->Value->Prop}{OK:Heap->Prop}
end
section
variable{X:Cx}
end
section
variable{prog:Program}{w:World}{A:Around}{E:Value->Shared->Prop}{s:Shared}
end
section
variable{X:Cx}
end
end L2
namespace L2
open PySem PySem.Spec PyProof.Rows
section
variable{prog:Program}{w:World}{A:Around}{E:Value->Shared->Prop}{s:Shared}
end
section
variable{X:Cx}{pins:List (Addr×Obj)}{σ:St}{H:Hp}{s:Shared}{h':Heap}{T:Addr}{ps more:Array Value}{t':Nat}
end
end L2
namespace PyProof.RowsP
open PySem PyProof.Rows
local macro_rules | `(tactic| walk_at "gallop") => do
 let n:=Lean.mkIdent (Lean.mkPrivateNameCore `PySem.Builtin.List.W1All `PySem.Builtin.gallop)
 `(tactic| delta $n)
local macro_rules | `(tactic| walk_at "st") => `(tactic| try dsimp -zeta -zetaHave only)
local macro_rules | `(tactic| walk_at "l4") => `(tactic| (extract_lets -underBinder +onlyGivenNames a b; subst a b))
abbrev Gp:Bool->Keyed->Array Keyed->Nat->Nat->Nat->StateT SortSt Sem (Option Nat):=sortPriv% PySem.Builtin.gallop
class KeyFn where
 kf:Value->Int
 ip:Value->Prop
 kd:SortKind
def IntP [KF:KeyFn] (p:Keyed):Prop:=KeyFn.ip p.1
def ky [KF:KeyFn] (p:Keyed):Int:=KeyFn.kf p.1
def K [KF:KeyFn] (xs:Array Keyed) (i:Nat):Int:=match xs[i]? with | some p=>ky p | none=>0
def i4 [KF:KeyFn] (xs:Array Keyed):Prop:=∀ p,p∈xs.toList->IntP p
theorem ql [KF:KeyFn] {xs ys:Array Keyed} {i j:Nat} (h:xs[i]?=ys[j]?):K xs i=K ys j:=by unfold K;rw[h]
theorem K_eq [KF:KeyFn] {xs:Array Keyed} {i:Nat} (hi:i<xs.size):K xs i=ky xs[i]:=by unfold K;rw[getElem?_pos xs i hi]
theorem IY [KF:KeyFn] {xs:Array Keyed} {i j:Nat} (hj:j<=xs.size) (k:Nat):K (mirror xs i j ((j-i)/2)) k=if i<=k/\k<j then K xs (i+j-1-k) else K xs k:=by
 have e:=getElem?_mirror_all (i:=i) hj k
 by_cases h1:i<=k/\k<j
 ·rw[if_pos h1]at e ⊢;exact ql e
 ·rw[if_neg h1]at e ⊢;exact ql e
theorem CL [KF:KeyFn] {xs:Array Keyed} {src d:Nat} (hs:src<xs.size) (hd:d<=src) (k:Nat):K (bubble xs src d) k=if k=src-d then K xs src else if src-d<k/\k<=src then K xs (k-1) else K xs k:=by
 have e:=getElem?_bubble hs d hd k
 by_cases h1:k=src-d
 ·rw[if_pos h1]at e ⊢;exact ql e
 ·rw[if_neg h1]at e ⊢
  by_cases h2:src-d<k/\k<=src
  ·rw[if_pos h2]at e ⊢;exact ql e
  ·rw[if_neg h2]at e ⊢;exact ql e
class LtOk (prog:Program) (w:World) (A:Around) (E:Value->Shared->Prop) (s:Shared) [KF:KeyFn]:Prop where
 lt:∀{st:SortSt}{x y:Keyed}{Q:Option Bool->SortSt->Prop},kindOf st=KeyFn.kd->IntP x->IntP y->Q (some (decide (ky x<ky y))) st->wpS (model prog w) A E s ((sortPriv% PySem.Builtin.lt) x y) Q st
theorem aP{σ α:Type}{M:Model}{A:Around}{E:Value->Shared->Prop}{s:Shared}{c:Prop} [Decidable c] {a b:StateT σ Sem α} {Q:α->σ->Prop} {st:σ} (h:c) (q:wpS M A E s a Q st):wpS M A E s (if c then a else b) Q st:=by rw[if_pos h];exact q
theorem aO{σ α:Type}{M:Model}{A:Around}{E:Value->Shared->Prop}{s:Shared}{c:Prop} [Decidable c] {a b:StateT σ Sem α} {Q:α->σ->Prop} {st:σ} (h:¬ c) (q:wpS M A E s b Q st):wpS M A E s (if c then a else b) Q st:=by rw[if_neg h];exact q
variable{prog:Program}{w:World}{A:Around}{E:Value->Shared->Prop}{s:Shared} [KF:KeyFn] [LO:LtOk prog w A E s]
theorem oI{st:SortSt}{x y:Keyed}{Q:Option Bool->SortSt->Prop}(hk:kindOf st=KeyFn.kd)(hx:IntP x)(hy:IntP y)(h:Q (some (decide (ky x<ky y))) st):wpS (model prog w) A E s ((sortPriv% PySem.Builtin.lt) x y) Q st:=LtOk.lt hk hx hy h
theorem aV{st:SortSt}{arr:Array Keyed}{i:Nat}{p:Keyed}{Q:Keyed->SortSt->Prop}(hi:arr[i]?=some p)(h:Q p st):wpS (model prog w) A E s ((sortPriv% PySem.Builtin.elem) arr i) Q st:=by
 show wpS (model prog w) A E s (elem' arr i) Q st
 rw[elem'_eq,hi]
 exact wpS_pure h
theorem i8{st:SortSt}{left:Bool}{key:Keyed}{arr:Array Keyed}{base n hint:Nat}{Q:Option Nat->SortSt->Prop}(f:Nat->Bool)(hk:kindOf st=KeyFn.kd)(hkey:IntP key)(hin:∀ i,i<n->∃ p,arr[base+i]?=some p/\IntP p/\f i=if left then decide (ky p<ky key) else !decide (ky key<ky p))
  (mono:∀ i j,i<=j->j<n->f j=true->f i=true) (hh:hint<n) (h:∀ k,k<=n->(∀ i,i<k->f i=true)->(∀ i,k<=i->i<n->f i=false)->Q (some k) st) :
  wpS (model prog w) A E s (Gp left key arr base n hint) Q st:=by
 unfold Gp
 walk_at "gallop"
 extract_lets -underBinder +onlyGivenNames beyond
 clear_value (eb:beyond=_)
 have hb:∀(i:Nat)(Q':Option Bool->SortSt->Prop),i<n->Q' (some (f i)) st->wpS (model prog w) A E s (beyond i) Q' st:=by
  intro i Q' hi q
  obtain⟨p,hp,ip,ef⟩:=hin i hi
  rw[eb]
  refine wpS_bind (aV hp ?_)
  rw[ef]at q
  cases left with
  |true=>exact oI hk ip hkey q
  |false=>exact wpS_bind (oI hk hkey ip (wpS_pure q))
 clear eb
 walk_at "l4"
 refine wpS_bind (hb hint _ hh ?_)
 walk_at "st"
 have nmono:∀ i j,i<=j->j<n->f i=false->f j=false:=fun i j hij hj e=>by
  cases z:f j with
  |false=>rfl
  |true=>rw[mono i j hij hj z]at e;cases e
 extract_lets -underBinder +onlyGivenNames jp
 clear_value (ej:jp=_)
 have hj:∀(u:Unit)(a0 a1 lo hi:Nat),lo<=hi->hi<=n->(∀ i,i<lo->f i=true)->(∀ i,hi<=i->i<n->f i=false)->wpS (model prog w) A E s (jp u a0 a1 lo hi) Q st:=by
  intro u a0 a1 lo hi h1 h2 h3 h4
  rw[ej]
  dsimp only
  refine wpS_bind (wpS_mono (wpS_forRange (I:=fun x c st'=>st'=st/\∃ l r,c=(none,l,r)/\l<=r/\r<=n/\r-l<=n-x/\(∀ i,i<l->f i=true)/\(∀ i,r<=i->i<n->f i=false))
   (Q:=fun c st'=>st'=st/\∃ l,c=(none,l,l)/\l<=n/\(∀ i,i<l->f i=true)/\(∀ i,l<=i->i<n->f i=false)) ?step ?fin ⟨rfl,lo,hi,rfl,h1,h2,by omega,h3,h4⟩) ?post)
  case post =>
   rintro c st' ⟨rfl,l,rfl,g1,g2,g3⟩
   exact wpS_pure (h l g1 g2 g3)
  case fin =>
   rintro c st' ⟨rfl,l,r,rfl,g1,g2,g3,g4,g5⟩
   have:l=r:=by omega
   subst this
   exact⟨rfl,l,rfl,g2,g4,g5⟩
  case step =>
   rintro x c st' _ hx ⟨rfl,l,r,rfl,g1,g2,g3,g4,g5⟩
   dsimp only
   by_cases z:l ≥ r
   ·refine aP z ?_
    have:l=r:=by omega
    subst this
    exact wpS_pure ⟨rfl,l,rfl,g2,g4,g5⟩
   ·refine aO z ?_
    refine wpS_bind (hb _ _ (by omega) ?_)
    cases e:f (l+(r-l)/2) with
    |true=>exact wpS_pure ⟨rfl,_,r,rfl,by omega,g2,by omega,fun i hi=>mono i _ (by omega) (by omega) e,g5⟩
    |false=>exact wpS_pure ⟨rfl,l,_,rfl,by omega,by omega,by omega,g4,fun i h1 h2=>nmono _ i h1 h2 e⟩
 clear ej
 cases er:f hint with
 |true =>
  refine aP rfl ?_
  dsimp only
  refine wpS_bind (wpS_mono (wpS_forRange (I:=fun x c st'=>st'=st/\∃ l o,c=(none,l,o)/\l<o/\x+1<=o/\hint+l<n/\f (hint+l)=true)
   (Q:=fun c st'=>st'=st/\∃ l o,c=(none,l,o)/\l<o/\hint+l<n/\f (hint+l)=true/\(n-hint<=o∨f (hint+o)=false)) ?step ?fin ⟨rfl,0,1,rfl,by omega,by omega,by omega,er⟩) ?post)
  case post =>
   rintro c st' ⟨rfl,l,o,rfl,g1,g2,g3,g4⟩
   dsimp only
   refine hj _ _ _ _ _ (by omega) (by omega) (fun i hi=>mono i _ (by omega) g2 g3) fun i h1 h2=>?_
   rcases g4 with g4 | g4
   ·omega
   ·exact nmono (hint+o) i (by omega) h2 g4
  case fin =>
   rintro c st' ⟨rfl,l,o,rfl,g1,g2,g3,g4⟩
   exact⟨rfl,l,o,rfl,g1,g3,g4,.inl (by omega)⟩
  case step =>
   rintro x c st' _ hx ⟨rfl,l,o,rfl,g1,g2,g3,g4⟩
   dsimp only
   by_cases z:o ≥ n-hint
   ·refine aP z ?_
    exact wpS_pure ⟨rfl,l,o,rfl,g1,g3,g4,.inl z⟩
   ·refine aO z ?_
    refine wpS_bind (hb _ _ (by omega) ?_)
    cases e:f (hint+o) with
    |true=>exact wpS_pure ⟨rfl,_,_,rfl,by omega,by omega,by omega,e⟩
    |false=>exact wpS_pure ⟨rfl,l,o,rfl,g1,g3,g4,.inr e⟩
 |false =>
  refine aO L8 ?_
  dsimp only
  refine wpS_bind (wpS_mono (wpS_forRange (I:=fun x c st'=>st'=st/\∃ l o,c=(none,l,o)/\l<o/\x+1<=o/\l<=hint/\f (hint-l)=false)
   (Q:=fun c st'=>st'=st/\∃ l o,c=(none,l,o)/\l<o/\l<=hint/\f (hint-l)=false/\(hint+1<=o∨f (hint-o)=true)) ?step ?fin ⟨rfl,0,1,rfl,by omega,by omega,by omega,er⟩) ?post)
  case post =>
   rintro c st' ⟨rfl,l,o,rfl,g1,g2,g3,g4⟩
   dsimp only
   refine hj _ _ _ _ _ (by omega) (by omega) (fun i hi=>?_) fun i h1 h2=>nmono _ i h1 h2 g3
   rcases g4 with g4 | g4
   ·omega
   ·exact mono i (hint-o) (by omega) (by omega) g4
  case fin =>
   rintro c st' ⟨rfl,l,o,rfl,g1,g2,g3,g4⟩
   exact⟨rfl,l,o,rfl,g1,g3,g4,.inl (by omega)⟩
  case step =>
   rintro x c st' _ hx ⟨rfl,l,o,rfl,g1,g2,g3,g4⟩
   dsimp only
   by_cases z:o ≥ hint+1
   ·refine aP z ?_
    exact wpS_pure ⟨rfl,l,o,rfl,g1,g3,g4,.inl z⟩
   ·refine aO z ?_
    refine wpS_bind (hb _ _ (by omega) ?_)
    cases e:f (hint-o) with
    |true=>exact wpS_pure ⟨rfl,l,o,rfl,g1,g3,g4,.inr e⟩
    |false=>exact wpS_pure ⟨rfl,_,_,rfl,by omega,by omega,by omega,e⟩
def Upl(l:List Keyed):Prop:=l.Pairwise fun x y=>ky x<=ky y
structure LM(P R o:List Keyed)(i j:Nat):Prop where
 pm:o.Perm (P.take i++R.take j)
 up:Upl o
 la:∀ x∈o,∀ y∈P.drop i,ky x<=ky y
 lb:∀ x∈o,∀ y∈R.drop j,ky x<=ky y
theorem LM.swap{P R o:List Keyed}{i j:Nat}(h:LM P R o i j):LM R P o j i:=⟨h.pm.trans Mz,h.up,h.lb,h.la⟩
theorem LM.a{P R o:List Keyed}{i j:Nat}(h:LM P R o i j)(u:Upl P)(k:Nat)(c:∀ x∈(P.drop i).take k,∀ y∈R.drop j,ky x<=ky y):LM P R (o++(P.drop i).take k) (i+k) j where
 pm:=by
  rw[Oc,Ma]
  refine(h.pm.append_right _).trans ?_
  rw[Ma]
  exact M4 _ Mz
 up:=MI.mpr ⟨h.up,(u.drop).take,fun x hx y hy=>h.la x hx y (MO hy)⟩
 la:=fun x hx y hy=>by
  rw[← Nv]at hy
  rcases LJ.mp hx with hx | hx
  ·exact h.la x hx y (MP hy)
  ·have z:Upl ((P.drop i).take k++(P.drop i).drop k):=by rw[L3];exact u.drop
   exact(MI.mp z).2.2 x hx y hy
 lb:=fun x hx y hy=>by
  rcases LJ.mp hx with hx | hx
  ·exact h.lb x hx y hy
  ·exact c x hx y hy
theorem LM.fin{P R o:List Keyed}{i j:Nat}(h:LM P R o i j)(u:Upl P)(v:Upl R)(c:∀ x∈P.drop i,∀ y∈R.drop j,ky x<=ky y):(o++P.drop i++R.drop j).Perm (P++R)/\Upl (o++P.drop i++R.drop j):=by
 constructor
 ·refine((h.pm.append_right _).append_right _).trans ?_
  have e:P++R=(P.take i++P.drop i)++(R.take j++R.drop j):=by rw[L3,L3]
  rw[e,← Ma]
  refine List.Perm.append_right _ ?_
  rw[Ma,Ma]
  exact M4 _ Mz
 ·refine MI.mpr ⟨MI.mpr ⟨h.up,u.drop,h.la⟩,v.drop,fun x hx y hy=>?_⟩
  rcases LJ.mp hx with hx | hx
  ·exact h.lb x hx y hy
  ·exact c x hx y hy
end PyProof.RowsP
namespace PyProof.RowsP
open PySem PyProof.Rows
local macro_rules | `(tactic| walk_at "setG") => do
 let n:=Lean.mkIdent (Lean.mkPrivateNameCore `PySem.Builtin.List.W1All `PySem.Builtin.setMinGallop)
 `(tactic| delta $n)
local macro_rules | `(tactic| walk_at "mergeLo") => do
 let n:=Lean.mkIdent (Lean.mkPrivateNameCore `PySem.Builtin.List.W1All `PySem.Builtin.mergeLo)
 `(tactic| delta $n)
local macro_rules | `(tactic| walk_at "st") => `(tactic| try dsimp -zeta -zetaHave only)
local macro_rules | `(tactic| walk_at "l3") => `(tactic| (extract_lets -underBinder +onlyGivenNames a b c; subst a b c))
local macro_rules | `(tactic| walk_at "l11") => `(tactic| (extract_lets -underBinder +onlyGivenNames a b c d e f g h i j k; subst a b c d e f g h i j k; dsimp -zeta -zetaHave only))
variable{prog:Program}{w:World}{A:Around}{E:Value->Shared->Prop}{s:Shared} [KF:KeyFn] [LO:LtOk prog w A E s]
structure SmG(st st':SortSt):Prop where
 k:kindOf st'=kindOf st
 a:arrOf st'=arrOf st
 p:pendingOf st'=pendingOf st
 f:failedOf st'=failedOf st
theorem SmG.rfl'(st:SortSt):SmG st st:=⟨rfl,rfl,rfl,rfl⟩
theorem SmG.trans{a b c:SortSt}(h:SmG a b)(g:SmG b c):SmG a c:=⟨g.k.trans h.k,g.a.trans h.a,g.p.trans h.p,g.f.trans h.f⟩
theorem oi{st:SortSt}{g:Nat}{Q:Unit->SortSt->Prop}(h:∀ st',SmG st st'->Q () st'):wpS (model prog w) A E s ((sortPriv% PySem.Builtin.setMinGallop) g) Q st:=by
 walk_at "setG"
 exact wpS_modify (h _ ⟨rfl,rfl,rfl,rfl⟩)
theorem iH(a:Array Keyed)(i:Nat):(a.extract i).toList=a.toList.drop i:=by
 rw[Nk,NJ]
 exact Ms (by rw[Mj];exact LG _)
theorem oE(a:Array Keyed)(i k:Nat):(a.extract i (i+k)).toList=(a.toList.drop i).take k:=by
 rw[Nk,NJ]
 congr 1
 omega
theorem fJ{P:List Keyed}{i:Nat}{x:Keyed}(h:P[i]?=some x):(P.drop i).take 1 = [x]:=by
 have hi:=(Lx.mp h).1
 rw[MV hi]
 rw[Lw hi]at h
 cases h
 rfl
theorem LM.a1{P R o:List Keyed}{i j:Nat}{x:Keyed}(h:LM P R o i j)(u:Upl P)(hx:P[i]?=some x)(c:∀ y∈R.drop j,ky x<=ky y):LM P R (o++[x]) (i+1) j:=by
 have:=h.a u 1 (by rw[fJ hx];intro z hz;rw[Mx.mp hz];exact c)
 rwa[fJ hx]at this
theorem jE{P:List Keyed}{i:Nat}{x:Keyed}(u:Upl P)(hx:P[i]?=some x):∀ y∈P.drop i,ky x<=ky y:=by
 have hi:=(Lx.mp hx).1
 have z:Upl (P.drop i):=u.drop
 rw[MV hi]at z ⊢
 rw[Lw hi]at hx
 cases hx
 intro y hy
 rcases LC.mp hy with rfl | hy
 ·exact Nr _
 ·exact(NQ.mp z).1 y hy
theorem FK{P:List Keyed}{i k:Nat}{x:Keyed}(h:x∈(P.drop i).take k):∃ m,m<k/\P[i+m]?=some x:=by
 obtain⟨m,hm,e⟩:=MY h
 rw[LZ,Mj]at hm
 refine⟨m,by omega,?_⟩
 rw[Ou,OT]at e
 rw[Lw (by omega),e]
theorem Hw{P:List Keyed}{i j:Nat}{x y:Keyed}(u:Upl P)(hx:P[i]?=some x)(hy:P[j]?=some y)(h:i<=j):ky x<=ky y:=jE u hx y (by
 have hj:=(Lx.mp hy).1
 refine Lz (i:=j-i) ?_
 rw[Ng,show i+(j-i)=j by omega,hy])
theorem FN{P:List Keyed}{i:Nat}{x:Keyed}(h:x∈P.drop i):∃ m,P[i+m]?=some x:=by
 obtain⟨m,hm⟩:=List.getElem?_of_mem h
 exact⟨m,by rw[← hm,Ng]⟩
def fR(P:List Keyed)(i:Nat)(v:Keyed)(m:Nat):Bool:=match P[i+m]? with | some p=>!decide (ky v<ky p) | none=>false
def fL(P:List Keyed)(i:Nat)(v:Keyed)(m:Nat):Bool:=match P[i+m]? with | some p=>decide (ky p<ky v) | none=>false
theorem pF{P:List Keyed}{i m:Nat}{v p:Keyed}(h:P[i+m]?=some p):fR P i v m = !decide (ky v<ky p):=by unfold fR;rw[h]
theorem qN{P:List Keyed}{i m:Nat}{v p:Keyed}(h:P[i+m]?=some p):fL P i v m=decide (ky p<ky v):=by unfold fL;rw[h]
theorem K3{P:List Keyed}{i:Nat}{v:Keyed}(u:Upl P){n:Nat}(hn:i+n<=P.length):∀ x y,x<=y->y<n->fR P i v y=true->fR P i v x=true:=fun x y hxy hy e=>by
 have hx:P[i+x]?=some P[i+x]:=Lw (by omega)
 have hy':P[i+y]?=some P[i+y]:=Lw (by omega)
 rw[pF hy']at e
 rw[pF hx]
 have:=Hw u hx hy' (by omega)
 simp only[Ow,decide_eq_false_iff_not]at e ⊢
 omega
theorem K5{P:List Keyed}{i:Nat}{v:Keyed}(u:Upl P){n:Nat}(hn:i+n<=P.length):∀ x y,x<=y->y<n->fL P i v y=true->fL P i v x=true:=fun x y hxy hy e=>by
 have hx:P[i+x]?=some P[i+x]:=Lw (by omega)
 have hy':P[i+y]?=some P[i+y]:=Lw (by omega)
 rw[qN hy']at e
 rw[qN hx]
 have:=Hw u hx hy' (by omega)
 simp only[decide_eq_true_eq]at e ⊢
 omega
theorem K4{P:List Keyed}{i k:Nat}{v:Keyed}(h:∀ m,m<k->fR P i v m=true):∀ x∈(P.drop i).take k,ky x<=ky v:=fun x hx=>by
 obtain⟨m,hm,e⟩:=FK hx
 have:=h m hm
 rw[pF e]at this
 simp only[Ow,decide_eq_false_iff_not]at this
 omega
theorem K6{P:List Keyed}{i k:Nat}{v:Keyed}(h:∀ m,m<k->fL P i v m=true):∀ x∈(P.drop i).take k,ky x<ky v:=fun x hx=>by
 obtain⟨m,hm,e⟩:=FK hx
 have:=h m hm
 rw[qN e]at this
 simpa using this
theorem fR_hi{P:List Keyed}{i k n:Nat}{v:Keyed}(hn:P.length<=i+n)(h:∀ m,k<=m->m<n->fR P i v m=false):∀ y∈P.drop (i+k),ky v<ky y:=fun y hy=>by
 obtain⟨m,e⟩:=FN hy
 have hl:=(Lx.mp e).1
 have:=h (k+m) (by omega) (by omega)
 rw[pF (show P[i+(k+m)]?=some y by rw[← Nat.add_assoc];exact e)]at this
 simpa using this
theorem fL_hi{P:List Keyed}{i k n:Nat}{v:Keyed}(hn:P.length<=i+n)(h:∀ m,k<=m->m<n->fL P i v m=false):∀ y∈P.drop (i+k),ky v<=ky y:=fun y hy=>by
 obtain⟨m,e⟩:=FN hy
 have hl:=(Lx.mp e).1
 have:=h (k+m) (by omega) (by omega)
 rw[qN (show P[i+(k+m)]?=some y by rw[← Nat.add_assoc];exact e)]at this
 simp only[decide_eq_false_iff_not]at this
 omega
theorem BM{st:SortSt}{key:Keyed}{arr:Array Keyed}{base n hint:Nat}{Q:Option Nat->SortSt->Prop}(hk:kindOf st=KeyFn.kd)(hkey:IntP key)(u:Upl arr.toList)(ip:∀ x∈arr.toList,IntP x)(hn:base+n<=arr.size)(hh:hint<n)
  (h:∀ k,k<=n->(∀ i,i<k->fR arr.toList base key i=true)->(∀ i,k<=i->i<n->fR arr.toList base key i=false)->Q (some k) st):wpS (model prog w) A E s ((sortPriv% PySem.Builtin.gallop) false key arr base n hint) Q st :=
 have la:arr.toList.length=arr.size:=by simp
 i8 (fR arr.toList base key) hk hkey (fun i hi=>by
  have hx:arr.toList[base+i]?=some arr.toList[base+i]:=Lw (by omega)
  exact⟨_,by rw[← hx];simp,ip _ (Mm _),by rw[pF hx];rfl⟩) (K3 u (by omega)) hh h
theorem BN{st:SortSt}{key:Keyed}{arr:Array Keyed}{base n hint:Nat}{Q:Option Nat->SortSt->Prop}(hk:kindOf st=KeyFn.kd)(hkey:IntP key)(u:Upl arr.toList)(ip:∀ x∈arr.toList,IntP x)(hn:base+n<=arr.size)(hh:hint<n)
  (h:∀ k,k<=n->(∀ i,i<k->fL arr.toList base key i=true)->(∀ i,k<=i->i<n->fL arr.toList base key i=false)->Q (some k) st):wpS (model prog w) A E s ((sortPriv% PySem.Builtin.gallop) true key arr base n hint) Q st :=
 have la:arr.toList.length=arr.size:=by simp
 i8 (fL arr.toList base key) hk hkey (fun i hi=>by
  have hx:arr.toList[base+i]?=some arr.toList[base+i]:=Lw (by omega)
  exact⟨_,by rw[← hx];simp,ip _ (Mm _),by rw[qN hx];rfl⟩) (K5 u (by omega)) hh h
theorem Ju{σ α β:Type}{M:Model}{c:Prop} [Decidable c] {F:α->StateT σ Sem β} {x y:α} {Q:β->σ->Prop} {st:σ} (h:∀ z,wpS M A E s (F z) Q st):wpS M A E s (if c then F x else F y) Q st:=by
 split<;>exact h _
theorem yN{σ α:Type}{M:Model}{m:StateT σ Sem α}{Q:α->σ->Prop}{st:σ}(h:∀ R:α->σ->Prop,(∀ a st',Q a st'->R a st')->wpS M A E s m R st):wpS M A E s m Q st:=h Q fun _ _ q=>q
def Ck:Array Keyed->Array Keyed->StateT SortSt Sem (Array Keyed):=sortPriv% PySem.Builtin.mergeLo
theorem at_l{a:Array Keyed}{i:Nat}{x:Keyed}(h:a.toList[i]?=some x):a[i]?=some x:=by rw[← h];simp
theorem yK{st:SortSt}{a b:Array Keyed}{Q:Array Keyed->SortSt->Prop}(hk:kindOf st=KeyFn.kd)(ua:Upl a.toList)(ub:Upl b.toList)(ia:∀ x∈a.toList,IntP x)(ib:∀ x∈b.toList,IntP x)(a1:1<=a.size)(b1:1<=b.size)
  (h0:∀ x y:Keyed,b.toList[0]?=some x->y∈a.toList->ky x<=ky y) (hst:∀ x y:Keyed,x∈b.toList->a.toList[a.size-1]?=some y->ky x<ky y)
  (h:∀ R st',SmG st st'->R.toList.Perm (a.toList++b.toList)->Upl R.toList->Q R st'):wpS (model prog w) A E s (Ck a b) Q st:=by
 unfold Ck
 walk_at "mergeLo"
 have la:a.toList.length=a.size:=by simp
 have lb:b.toList.length=b.size:=by simp
 have atA:∀ i,i<a.size->∃ x,a.toList[i]?=some x/\IntP x:=fun i hi=>⟨_,Lw (by omega),ia _ (Mm _)⟩
 have atB:∀ i,i<b.size->∃ x,b.toList[i]?=some x/\IntP x:=fun i hi=>⟨_,Lw (by omega),ib _ (Mm _)⟩
 have dn:∀(o:Array Keyed)(i j:Nat)(st':SortSt),SmG st st'->LM a.toList b.toList o.toList i j->j=b.size->Q (o++a.extract i++b.extract j) st':=by
  intro o i j st' sg lm e
  have nb:b.toList.drop j = []:=OB (by omega)
  obtain⟨g1,g2⟩:=lm.fin ua ub (by rw[nb];intro x _ y hy;cases hy)
  refine h _ st' sg ?_ ?_
  ·rw[Mn,Mn,iH,iH];exact g1
  ·rw[Mn,Mn,iH,iH];exact g2
 have ls:∀(o:Array Keyed)(i j:Nat)(st':SortSt),SmG st st'->LM a.toList b.toList o.toList i j->i+1=a.size->Q (o++b.extract j++a.extract i) st':=by
  intro o i j st' sg lm e
  obtain⟨z,hz,_⟩:=atA i (by omega)
  have na:a.toList.drop i = [z]:=by
   rw[← fJ hz]
   exact(Ms (by rw[Mj];omega)).symm
  obtain⟨g1,g2⟩:=lm.swap.fin ub ua (by
   rw[na]
   intro x hx y hy
   rw[Mx.mp hy]
   exact M7 (hst x z (MP hx) (by rw[← e];exact hz)))
  refine h _ st' sg ?_ ?_
  ·rw[Mn,Mn,iH,iH];exact g1.trans Mz
  ·rw[Mn,Mn,iH,iH];exact g2
 refine wpS_bind (wpS_lift (wpAny_rule ⟨rfl,?_⟩))
 obtain⟨y0,hy0,iy0⟩:=atB 0 (by omega)
 walk_at "l3"
 refine wpS_bind (aV (at_l hy0) ?_)
 have m0:LM a.toList b.toList [y0] 0 1:=⟨by rw[List.take_zero,OG,← fJ hy0];exact Pd _,NP ..,fun x hx y hy=>by rw[Mx.mp hx];exact h0 y0 y hy0 hy,fun x hx y hy=>by
  rw[Mx.mp hx]
  exact jE ub hy0 y (MP hy)⟩
 by_cases c1:(1 == b.size)=true
 ·refine aP c1 ?_
  exact wpS_pure (dn _ _ _ _ (SmG.rfl' _) m0 (by simpa using c1))
 refine aO c1 ?_
 have c1':1≠b.size:=by simpa using c1
 by_cases c2:(0+1 == a.size)=true
 ·refine aP c2 ?_
  exact wpS_pure (ls _ _ _ _ (SmG.rfl' _) m0 (by simpa using c2))
 refine aO c2 ?_
 have c2':0+1≠a.size:=by simpa using c2
 refine wpS_bind (wpS_get ?_)
 refine wpS_bind (wpS_mono (wpS_forRange (I:=fun x c st'=>SmG st st'/\∃(o:Array Keyed)(i j g:Nat),c=(none,o,i,j,g)/\LM a.toList b.toList o.toList i j/\i+1<a.size/\j<b.size/\x+1<=i+j)
  (Q:=fun c st'=>∃(r:Array Keyed)(z:Array Keyed×Nat×Nat×Nat),c=(some r,z)/\Q r st') ?step ?fin ⟨SmG.rfl' _,_,_,_,_,rfl,m0,by omega,by omega,by omega⟩) ?post)
 case post =>
  rintro c st' ⟨r,z,rfl,q⟩
  exact wpS_pure q
 case fin =>
  rintro c st' ⟨sg,o,i,j,g,rfl,lm,g1,g2,g3⟩
  omega
 case step =>
  rintro x c st1 _ hx ⟨sg1,o,i,j,g,rfl,lm,g1,g2,g3⟩
  refine wpS_bind (wpS_mono (wpS_forRange (I:=fun y c st'=>SmG st st'/\∃(o:Array Keyed)(i j ac bc:Nat),c=(none,o,i,j,ac,bc)/\LM a.toList b.toList o.toList i j/\i+1<a.size/\j<b.size/\x+1+y<=i+j)
   (Q:=fun c st'=>(∃(r:Array Keyed)(z:Array Keyed×Nat×Nat×Nat×Nat),c=(some r,z)/\Q r st')∨SmG st st'/\∃(o:Array Keyed)(i j ac bc:Nat),c=(none,o,i,j,ac,bc)/\LM a.toList b.toList o.toList i j/\i+1<a.size/\j<b.size/\x+2<=i+j) ?istep ?ifin ⟨sg1,o,i,j,0,0,rfl,lm,g1,g2,by omega⟩) ?ipost)
  case ifin =>
   rintro c st' ⟨sg,o,i,j,ac,bc,rfl,lm,g1,g2,g3⟩
   exact .inr ⟨sg,o,i,j,ac,bc,rfl,lm,g1,g2,by omega⟩
  case istep =>
   rintro y c st2 _ hy ⟨sg2,o,i,j,ac,bc,rfl,lm,g1,g2,g3⟩
   obtain⟨vb,hvb,ivb⟩:=atB j g2
   obtain⟨va,hva,iva⟩:=atA i (by omega)
   dsimp only
   refine wpS_bind (aV (at_l hvb) (wpS_bind (aV (at_l hva) (wpS_bind (oI (sg2.k.trans hk) ivb iva ?_)))))
   by_cases c:ky vb<ky va
   ·rw[decide_eq_true c]
    dsimp only
    refine aP rfl ?_
    refine wpS_bind (aV (at_l hvb) ?_)
    have m2:LM a.toList b.toList (o.push vb).toList i (j+1):=by
     rw[NF]
     exact(lm.swap.a1 ub hvb fun z hz=>by have:=jE ua hva z hz;omega).swap
    by_cases d1:(j+1 == b.size)=true
    ·refine aP d1 ?_
     exact wpS_pure (.inl ⟨_,_,rfl,dn _ _ _ _ sg2 m2 (by simpa using d1)⟩)
    ·refine aO d1 ?_
     have d1':j+1≠b.size:=by simpa using d1
     split
     ·exact wpS_pure (.inr ⟨sg2,_,_,_,_,_,rfl,m2,g1,by omega,by omega⟩)
     ·exact wpS_pure ⟨sg2,_,_,_,_,_,rfl,m2,g1,by omega,by omega⟩
   ·rw[decide_eq_false c]
    dsimp only
    refine aO L8 ?_
    refine wpS_bind (aV (at_l hva) ?_)
    have m2:LM a.toList b.toList (o.push va).toList (i+1) j:=by
     rw[NF]
     exact lm.a1 ua hva fun z hz=>by have:=jE ub hvb z hz;omega
    by_cases d1:(i+1+1 == a.size)=true
    ·refine aP d1 ?_
     exact wpS_pure (.inl ⟨_,_,rfl,ls _ _ _ _ sg2 m2 (by simpa using d1)⟩)
    ·refine aO d1 ?_
     have d1':i+1+1≠a.size:=by simpa using d1
     split
     ·exact wpS_pure (.inr ⟨sg2,_,_,_,_,_,rfl,m2,by omega,g2,by omega⟩)
     ·exact wpS_pure ⟨sg2,_,_,_,_,_,rfl,m2,by omega,g2,by omega⟩
  case ipost =>
   rintro c st2 (⟨r,z,rfl,q⟩ | ⟨sg2,o,i,j,ac,bc,rfl,lm,g1,g2,g3⟩)
   ·exact wpS_pure ⟨_,_,rfl,q⟩
   dsimp -zeta -zetaHave only
   refine wpS_bind (wpS_lift (wpAny_rule ⟨rfl,?_⟩))
   refine wpS_bind (wpS_mono (wpS_forRange (I:=fun y c st'=>SmG st st'/\∃(o:Array Keyed)(i j g ac bc:Nat),c=(none,o,i,j,g,ac,bc)/\LM a.toList b.toList o.toList i j/\i+1<a.size/\j<b.size/\x+2<=i+j)
    (Q:=fun c st'=>(∃(r:Array Keyed)(z:Array Keyed×Nat×Nat×Nat×Nat×Nat),c=(some r,z)/\Q r st')∨SmG st st'/\∃(o:Array Keyed)(i j g ac bc:Nat),c=(none,o,i,j,g,ac,bc)/\LM a.toList b.toList o.toList i j/\i+1<a.size/\j<b.size/\x+2<=i+j) ?jstep ?jfin ⟨sg2,o,i,j,_,ac,bc,rfl,lm,g1,g2,g3⟩) ?jpost)
   case jfin=>exact fun c st' q=>.inr q
   case jpost =>
    rintro c st3 (⟨r,z,rfl,q⟩ | ⟨sg3,o,i,j,g,ac,bc,rfl,lm,g1,g2,g3⟩)
    ·exact wpS_pure ⟨_,_,rfl,q⟩
    dsimp only
    exact wpS_bind (oi fun st4 sg4=>wpS_pure ⟨sg3.trans sg4,_,_,_,_,rfl,lm,g1,g2,by omega⟩)
   case jstep =>
    rintro y c st3 _ hy ⟨sg3,o,i,j,g,ac,bc,rfl,lm,g1,g2,g3⟩
    walk_at "st"
    walk_at "l11"
    extract_lets -underBinder +onlyGivenNames jp
    clear_value (ej:jp=_)
    refine yN fun R hR=>?_
    refine Ju (F:=fun z=>jp () z) fun g'=>?_
    rw[ej]
    clear ej jp
    walk_at "st"
    refine wpS_bind (oi fun st4 sg4=>?_)
    have sg34:=sg3.trans sg4
    have k4:=sg34.k.trans hk
    obtain⟨vb,hvb,ivb⟩:=atB j g2
    refine wpS_bind (aV (at_l hvb) ?_)
    refine wpS_bind (BM k4 ivb ua ia (by omega) (by omega) fun k kn kt kf=>?_)
    walk_at "st"
    extract_lets -underBinder +onlyGivenNames ac jp
    subst ac
    clear_value (ej:jp=_)
    have vbl:=jE ub hvb
    have hlo:=K4 kt
    have hhi:=fR_hi (by omega) kf
    have hj:∀(o':Array Keyed)(i':Nat),LM a.toList b.toList o'.toList i' j->i'+1<a.size->(∀ y∈a.toList.drop i',ky vb<=ky y)->x+2<=i'+j->wpS (model prog w) A E s (jp () o' i') R st4:=by
     intro o' i' lm' g1' gv g3'
     rw[ej]
     clear ej jp
     walk_at "st"
     refine wpS_bind (aV (at_l hvb) ?_)
     have m2:LM a.toList b.toList (o'.push vb).toList i' (j+1):=by
      rw[NF]
      exact(lm'.swap.a1 ub hvb gv).swap
     by_cases d1:(j+1 == b.size)=true
     ·refine aP d1 ?_
      exact wpS_pure (hR _ _ (.inl ⟨_,_,rfl,dn _ _ _ _ sg34 m2 (by simpa using d1)⟩))
     refine aO d1 ?_
     have d1':j+1≠b.size:=by simpa using d1
     obtain⟨va,hva,iva⟩:=atA i' (by omega)
     have val:=jE ua hva
     refine wpS_bind (aV (at_l hva) ?_)
     refine wpS_bind (BN k4 iva ub ib (by omega) (by omega) fun k2 kn2 kt2 kf2=>?_)
     walk_at "st"
     extract_lets -underBinder +onlyGivenNames ac jp
     subst ac
     clear_value (ej:jp=_)
     have hlo2:=K6 kt2
     have hhi2:=fL_hi (by omega) kf2
     have hj:∀(o':Array Keyed)(j':Nat),LM a.toList b.toList o'.toList i' j'->j'<b.size->(∀ y∈b.toList.drop j',ky va<=ky y)->x+2<=i'+j'->wpS (model prog w) A E s (jp () o' j') R st4:=by
      intro o' j' lm2 g2' gv' g3''
      rw[ej]
      clear ej jp
      walk_at "st"
      refine wpS_bind (aV (at_l hva) ?_)
      have m3:LM a.toList b.toList (o'.push va).toList (i'+1) j':=by
       rw[NF]
       exact lm2.a1 ua hva gv'
      by_cases d2:(i'+1+1 == a.size)=true
      ·refine aP d2 ?_
       exact wpS_pure (hR _ _ (.inl ⟨_,_,rfl,ls _ _ _ _ sg34 m3 (by simpa using d2)⟩))
      refine aO d2 ?_
      have d2':i'+1+1≠a.size:=by simpa using d2
      split
      ·exact wpS_pure (hR _ _ (.inr ⟨sg34,_,_,_,_,_,_,rfl,m3,by omega,g2',by omega⟩))
      ·exact wpS_pure (hR _ _ ⟨sg34,_,_,_,_,_,_,rfl,m3,by omega,g2',by omega⟩)
     clear ej
     by_cases z2:k2 > 0
     ·refine aP z2 ?_
      have m3:LM a.toList b.toList (o'.push vb++b.extract (j+1) (j+1+k2)).toList i' (j+1+k2):=by
       rw[Mn,oE]
       exact(m2.swap.a ub k2 fun x hx y hy=>by have:=hlo2 x hx;have:=val y hy;omega).swap
      by_cases d2:(j+1+k2 == b.size)=true
      ·refine aP d2 ?_
       exact wpS_pure (hR _ _ (.inl ⟨_,_,rfl,dn _ _ _ _ sg34 m3 (by simpa using d2)⟩))
      refine aO d2 ?_
      have d2':j+1+k2≠b.size:=by simpa using d2
      exact hj _ _ m3 (by omega) hhi2 (by omega)
     ·refine aO z2 ?_
      have:k2=0:=by omega
      subst this
      exact hj _ _ m2 (by omega) hhi2 (by omega)
    clear ej
    by_cases z:k > 0
    ·refine aP z ?_
     have m2:LM a.toList b.toList (o++a.extract i (i+k)).toList (i+k) j:=by
      rw[Mn,oE]
      exact lm.a ua k fun x hx y hy=>by have:=hlo x hx;have:=vbl y hy;omega
     by_cases d1:(i+k+1 == a.size)=true
     ·refine aP d1 ?_
      exact wpS_pure (hR _ _ (.inl ⟨_,_,rfl,ls _ _ _ _ sg34 m2 (by simpa using d1)⟩))
     refine aO d1 ?_
     have d1':i+k+1≠a.size:=by simpa using d1
     by_cases d2:(i+k == a.size)=true
     ·exfalso
      have d2':i+k=a.size:=by simpa using d2
      obtain⟨vl,hvl,_⟩:=atA (a.size-1) (by omega)
      have h1:=kt (a.size-1-i) (by omega)
      rw[pF (show a.toList[i+(a.size-1-i)]?=some vl by rw[show i+(a.size-1-i)=a.size-1 by omega];exact hvl)]at h1
      have h2:=hst vb vl (Lz hvb) hvl
      simp only[Ow,decide_eq_false_iff_not]at h1
      omega
     refine aO d2 ?_
     have d2':i+k≠a.size:=by simpa using d2
     exact hj _ _ m2 (by omega) (fun y hy=>M7 (hhi y hy)) (by omega)
    ·refine aO z ?_
     have:k=0:=by omega
     subst this
     exact hj _ _ lm g1 (fun y hy=>M7 (hhi y hy)) (by omega)
end PyProof.RowsP
namespace PyProof.RowsP
open PySem PyProof.Rows
local macro_rules | `(tactic| walk_at "mergeHi") => do
 let n:=Lean.mkIdent (Lean.mkPrivateNameCore `PySem.Builtin.List.W1All `PySem.Builtin.mergeHi)
 `(tactic| delta $n)
local macro_rules | `(tactic| walk_at "st") => `(tactic| try dsimp -zeta -zetaHave only)
local macro_rules | `(tactic| walk_at "l3") => `(tactic| (extract_lets -underBinder +onlyGivenNames a b c; subst a b c))
local macro_rules | `(tactic| walk_at "l11") => `(tactic| (extract_lets -underBinder +onlyGivenNames a b c d e f g h i j k; subst a b c d e f g h i j k; dsimp -zeta -zetaHave only))
variable{prog:Program}{w:World}{A:Around}{E:Value->Shared->Prop}{s:Shared} [KF:KeyFn] [LO:LtOk prog w A E s]
structure LH(P R o:List Keyed)(i j:Nat):Prop where
 pm:o.Perm (P.drop i++R.drop j)
 up:Upl o
 la:∀ x∈P.take i,∀ y∈o,ky x<=ky y
 lb:∀ x∈R.take j,∀ y∈o,ky x<=ky y
theorem LH.swap{P R o:List Keyed}{i j:Nat}(h:LH P R o i j):LH R P o j i:=⟨h.pm.trans Mz,h.up,h.lb,h.la⟩
theorem II(P:List Keyed){i i':Nat}(h:i'<=i)(hi:i<=P.length):P.drop i'=(P.take i).drop i'++P.drop i:=by
 have e:=congrArg (List.drop i') (L3 i P)
 rw[OY,LZ,show i'-min i P.length=0 by omega,NZ]at e
 exact e.symm
theorem LH.a{P R o:List Keyed}{i j:Nat}(h:LH P R o i j)(u:Upl P){i':Nat}(hi':i'<=i)(hi:i<=P.length)(c:∀ x∈R.take j,∀ y∈(P.take i).drop i',ky x<=ky y):LH P R ((P.take i).drop i'++o) i' j where
 pm:=by
  rw[II P hi' hi,Ma]
  exact M4 _ h.pm
 up:=MI.mpr ⟨(u.take).drop,h.up,fun x hx y hy=>h.la x (MP hx) y hy⟩
 la:=fun x hx y hy=>by
  have e:P.take i'=(P.take i).take i':=by rw[Om,MU hi']
  rw[e]at hx
  rcases LJ.mp hy with hy | hy
  ·have z:Upl ((P.take i).take i'++(P.take i).drop i'):=by rw[L3];exact u.take
   exact(MI.mp z).2.2 x hx y hy
  ·exact h.la x (MO hx) y hy
 lb:=fun x hx y hy=>by
  rcases LJ.mp hy with hy | hy
  ·exact c x hx y hy
  ·exact h.lb x hx y hy
theorem uo{P:List Keyed}{i:Nat}{x:Keyed}(h:P[i]?=some x):(P.take (i+1)).drop i = [x]:=by
 have hi:=(Lx.mp h).1
 rw[N0,show i+1-i=1 by omega]
 exact fJ h
theorem LH.a1{P R o:List Keyed}{i j:Nat}{x:Keyed}(h:LH P R o (i+1) j)(u:Upl P)(hx:P[i]?=some x)(c:∀ y∈R.take j,ky y<=ky x):LH P R (x::o) i j:=by
 have hi:=(Lx.mp hx).1
 have:=h.a u (i':=i) (by omega) (by omega) (by rw[uo hx];intro y hy z hz;rw[Mx.mp hz];exact c y hy)
 rwa[uo hx]at this
theorem LH.fin{P R o:List Keyed}{i j:Nat}(h:LH P R o i j)(u:Upl P)(v:Upl R)(c:∀ x∈P.take i,∀ y∈R.take j,ky x<=ky y):(P.take i++R.take j++o).Perm (P++R)/\Upl (P.take i++R.take j++o):=by
 constructor
 ·refine(M4 _ h.pm).trans ?_
  have e:P++R=(P.take i++P.drop i)++(R.take j++R.drop j):=by rw[L3,L3]
  rw[e,← Ma,← Ma]
  refine List.Perm.append_right _ ?_
  rw[Ma,Ma]
  exact M4 _ Mz
 ·refine MI.mpr ⟨MI.mpr ⟨u.take,v.take,c⟩,h.up,fun x hx y hy=>?_⟩
  rcases LJ.mp hx with hx | hx
  ·exact h.la x hx y hy
  ·exact h.lb x hx y hy
theorem lF{P:List Keyed}{i:Nat}{x:Keyed}(u:Upl P)(hx:P[i]?=some x):∀ y∈P.take (i+1),ky y<=ky x:=fun y hy=>by
 obtain⟨m,hm,e⟩:=MY hy
 rw[LZ]at hm
 rw[Ou]at e
 exact Hw u (i:=m) (by rw[Lw (by omega),e]) hx (by omega)
theorem fR_lo'{P:List Keyed}{k:Nat}{v:Keyed}(h:∀ m,m<k->fR P 0 v m=true):∀ x∈P.take k,ky x<=ky v:=K4 (P:=P) (i:=0) h
theorem fL_lo'{P:List Keyed}{k:Nat}{v:Keyed}(h:∀ m,m<k->fL P 0 v m=true):∀ x∈P.take k,ky x<ky v:=K6 (P:=P) (i:=0) h
theorem Co{P:List Keyed}{i k:Nat}{y:Keyed}(h:y∈(P.take i).drop k):∃ m,k<=m/\m<i/\P[m]?=some y:=by
 rw[N0]at h
 obtain⟨m,hm,e⟩:=FK h
 exact⟨k+m,by omega,by omega,e⟩
theorem fR_hi'{P:List Keyed}{k n:Nat}{v:Keyed}(h:∀ m,k<=m->m<n->fR P 0 v m=false):∀ y∈(P.take n).drop k,ky v<ky y:=fun y hy=>by
 obtain⟨m,h1,h2,e⟩:=Co hy
 have:=h m h1 h2
 rw[pF (show P[0+m]?=some y by rw[Nat.zero_add];exact e)]at this
 simpa using this
theorem fL_hi'{P:List Keyed}{k n:Nat}{v:Keyed}(h:∀ m,k<=m->m<n->fL P 0 v m=false):∀ y∈(P.take n).drop k,ky v<=ky y:=fun y hy=>by
 obtain⟨m,h1,h2,e⟩:=Co hy
 have:=h m h1 h2
 rw[qN (show P[0+m]?=some y by rw[Nat.zero_add];exact e)]at this
 simp only[decide_eq_false_iff_not]at this
 omega
theorem ng(a:Array Keyed)(i:Nat):(a.extract 0 i).toList=a.toList.take i:=by
 rw[Nk,NJ]
 rfl
theorem uN(a:Array Keyed)(i k:Nat):(a.extract k i).toList=(a.toList.take i).drop k:=by
 rw[Nk,NJ,N0]
def rv(o:Array Keyed):List Keyed:=o.toList.reverse
theorem sU(o:Array Keyed)(x:Keyed):rv (o.push x)=x::rv o:=by unfold rv;rw[NF,List.reverse_append];rfl
theorem Je(o p:Array Keyed):rv (o++p.reverse)=p.toList++rv o:=by unfold rv;rw[Mn,List.reverse_append,NH,List.reverse_reverse]
def Cm:Array Keyed->Array Keyed->StateT SortSt Sem (Array Keyed):=sortPriv% PySem.Builtin.mergeHi
theorem yL{st:SortSt}{a b:Array Keyed}{Q:Array Keyed->SortSt->Prop}(hk:kindOf st=KeyFn.kd)(ua:Upl a.toList)(ub:Upl b.toList)(ia:∀ x∈a.toList,IntP x)(ib:∀ x∈b.toList,IntP x)(a1:1<=a.size)(b1:1<=b.size)
  (h0:∀ x y:Keyed,b.toList[0]?=some x->y∈a.toList->ky x<ky y) (hst:∀ x y:Keyed,x∈b.toList->a.toList[a.size-1]?=some y->ky x<ky y)
  (h:∀ R st',SmG st st'->R.toList.Perm (a.toList++b.toList)->Upl R.toList->Q R st'):wpS (model prog w) A E s (Cm a b) Q st:=by
 unfold Cm
 walk_at "mergeHi"
 have la:a.toList.length=a.size:=by simp
 have lb:b.toList.length=b.size:=by simp
 have atA:∀ i,i<a.size->∃ x,a.toList[i]?=some x/\IntP x:=fun i hi=>⟨_,Lw (by omega),ia _ (Mm _)⟩
 have atB:∀ i,i<b.size->∃ x,b.toList[i]?=some x/\IntP x:=fun i hi=>⟨_,Lw (by omega),ib _ (Mm _)⟩
 have dn:∀(o:Array Keyed)(i j:Nat)(st':SortSt),SmG st st'->LH a.toList b.toList (rv o) i j->i=0∨j=0->Q (a.extract 0 i++b.extract 0 j++o.reverse) st':=by
  intro o i j st' sg lm e
  obtain⟨g1,g2⟩:=lm.fin ua ub (by
   rcases e with e | e
   ·subst e;intro x hx;cases hx
   ·subst e;intro x _ y hy;cases hy)
  refine h _ st' sg ?_ ?_
  ·rw[Mn,Mn,ng,ng,NH];exact g1
  ·rw[Mn,Mn,ng,ng,NH];exact g2
 have ls:∀(o:Array Keyed)(i j:Nat)(st':SortSt),SmG st st'->LH a.toList b.toList (rv o) i j->j=1->Q (b.extract 0 j++a.extract 0 i++o.reverse) st':=by
  intro o i j st' sg lm e
  subst e
  obtain⟨z,hz,_⟩:=atB 0 (by omega)
  have nb:b.toList.take 1 = [z]:=fJ (P:=b.toList) (i:=0) hz
  obtain⟨g1,g2⟩:=lm.swap.fin ub ua (by
   rw[nb]
   intro x hx y hy
   rw[Mx.mp hx]
   exact M7 (h0 z y hz (MO hy)))
  refine h _ st' sg ?_ ?_
  ·rw[Mn,Mn,ng,ng,NH];exact g1.trans Mz
  ·rw[Mn,Mn,ng,ng,NH];exact g2
 refine wpS_bind (wpS_lift (wpAny_rule ⟨rfl,?_⟩))
 obtain⟨y0,hy0,iy0⟩:=atA (a.size-1) (by omega)
 walk_at "l3"
 refine wpS_bind (aV (at_l hy0) ?_)
 have m0:LH a.toList b.toList (rv #[y0]) (a.size-1) b.size:=⟨by
   show[y0].Perm _
   rw[OB (show b.toList.length<=b.size by omega),Na]
   have e:=uo hy0
   rw[show a.size-1+1=a.size by omega,Ms (by omega)]at e
   rw[e],NP ..,fun x hx y hy=>by
   have:y=y0:=Mx.mp hy
   rw[this]
   refine lF ua hy0 x ?_
   rw[show a.size-1+1=a.size by omega,Ms (by omega)]
   exact MO hx,fun x hx y hy=>by
   have:y=y0:=Mx.mp hy
   rw[this]
   exact M7 (hst x y0 (MO hx) hy0)⟩
 by_cases c1:(a.size-1 == 0)=true
 ·refine aP c1 ?_
  exact wpS_pure (dn _ _ _ _ (SmG.rfl' _) m0 (.inl (by simpa using c1)))
 refine aO c1 ?_
 have c1':a.size-1≠0:=by simpa using c1
 by_cases c2:(b.size == 1)=true
 ·refine aP c2 ?_
  exact wpS_pure (ls _ _ _ _ (SmG.rfl' _) m0 (by simpa using c2))
 refine aO c2 ?_
 have c2':b.size≠1:=by simpa using c2
 refine wpS_bind (wpS_get ?_)
 refine wpS_bind (wpS_mono (wpS_forRange (I:=fun x c st'=>SmG st st'/\∃(o:Array Keyed)(i j g:Nat),c=(none,i,j,o,g)/\LH a.toList b.toList (rv o) i j/\1<=i/\i<=a.size/\2<=j/\j<=b.size/\x+1+(i+j)<=a.size+b.size)
  (Q:=fun c st'=>∃(r:Array Keyed)(z:Nat×Nat×Array Keyed×Nat),c=(some r,z)/\Q r st') ?step ?fin ⟨SmG.rfl' _,_,_,_,_,rfl,m0,by omega,by omega,by omega,by omega,by omega⟩) ?post)
 case post =>
  rintro c st' ⟨r,z,rfl,q⟩
  exact wpS_pure q
 case fin =>
  rintro c st' ⟨sg,o,i,j,g,rfl,lm,g1,g1',g2,g2',g3⟩
  omega
 case step =>
  rintro x c st1 _ hx ⟨sg1,o,i,j,g,rfl,lm,g1,g1',g2,g2',g3⟩
  refine wpS_bind (wpS_mono (wpS_forRange (I:=fun y c st'=>SmG st st'/\∃(o:Array Keyed)(i j ac bc:Nat),c=(none,i,j,o,ac,bc)/\LH a.toList b.toList (rv o) i j/\1<=i/\i<=a.size/\2<=j/\j<=b.size/\x+1+y+(i+j)<=a.size+b.size)
   (Q:=fun c st'=>(∃(r:Array Keyed)(z:Nat×Nat×Array Keyed×Nat×Nat),c=(some r,z)/\Q r st')∨SmG st st'/\∃(o:Array Keyed)(i j ac bc:Nat),c=(none,i,j,o,ac,bc)/\LH a.toList b.toList (rv o) i j/\1<=i/\i<=a.size/\2<=j/\j<=b.size/\x+2+(i+j)<=a.size+b.size) ?istep ?ifin ⟨sg1,o,i,j,0,0,rfl,lm,g1,g1',g2,g2',by omega⟩) ?ipost)
  case ifin =>
   rintro c st' ⟨sg,o,i,j,ac,bc,rfl,lm,g1,g1',g2,g2',g3⟩
   exact .inr ⟨sg,o,i,j,ac,bc,rfl,lm,g1,g1',g2,g2',by omega⟩
  case istep =>
   rintro y c st2 _ hy ⟨sg2,o,i,j,ac,bc,rfl,lm,g1,g1',g2,g2',g3⟩
   obtain⟨vb,hvb,ivb⟩:=atB (j-1) (by omega)
   obtain⟨va,hva,iva⟩:=atA (i-1) (by omega)
   have ei:i-1+1=i:=by omega
   have ej:j-1+1=j:=by omega
   dsimp only
   refine wpS_bind (aV (at_l hvb) (wpS_bind (aV (at_l hva) (wpS_bind (oI (sg2.k.trans hk) ivb iva ?_)))))
   by_cases c:ky vb<ky va
   ·rw[decide_eq_true c]
    dsimp only
    refine aP rfl ?_
    refine wpS_bind (aV (at_l hva) ?_)
    have m2:LH a.toList b.toList (rv (o.push va)) (i-1) j:=by
     rw[sU]
     exact LH.a1 (by rw[ei];exact lm) ua hva fun z hz=>by
      have:=lF ub hvb z (by rw[ej];exact hz)
      omega
    by_cases d1:(i-1 == 0)=true
    ·refine aP d1 ?_
     exact wpS_pure (.inl ⟨_,_,rfl,dn _ _ _ _ sg2 m2 (.inl (by simpa using d1))⟩)
    ·refine aO d1 ?_
     have d1':i-1≠0:=by simpa using d1
     split
     ·exact wpS_pure (.inr ⟨sg2,_,_,_,_,_,rfl,m2,by omega,by omega,g2,g2',by omega⟩)
     ·exact wpS_pure ⟨sg2,_,_,_,_,_,rfl,m2,by omega,by omega,g2,g2',by omega⟩
   ·rw[decide_eq_false c]
    dsimp only
    refine aO L8 ?_
    refine wpS_bind (aV (at_l hvb) ?_)
    have m2:LH a.toList b.toList (rv (o.push vb)) i (j-1):=by
     rw[sU]
     exact(LH.a1 (by rw[ej];exact lm.swap) ub hvb fun z hz=>by
      have:=lF ua hva z (by rw[ei];exact hz)
      omega).swap
    by_cases d1:(j-1 == 1)=true
    ·refine aP d1 ?_
     exact wpS_pure (.inl ⟨_,_,rfl,ls _ _ _ _ sg2 m2 (by simpa using d1)⟩)
    ·refine aO d1 ?_
     have d1':j-1≠1:=by simpa using d1
     split
     ·exact wpS_pure (.inr ⟨sg2,_,_,_,_,_,rfl,m2,g1,g1',by omega,by omega,by omega⟩)
     ·exact wpS_pure ⟨sg2,_,_,_,_,_,rfl,m2,g1,g1',by omega,by omega,by omega⟩
  case ipost =>
   rintro c st2 (⟨r,z,rfl,q⟩ | ⟨sg2,o,i,j,ac,bc,rfl,lm,g1,g1',g2,g2',g3⟩)
   ·exact wpS_pure ⟨_,_,rfl,q⟩
   dsimp -zeta -zetaHave only
   refine wpS_bind (wpS_lift (wpAny_rule ⟨rfl,?_⟩))
   refine wpS_bind (wpS_mono (wpS_forRange (I:=fun y c st'=>SmG st st'/\∃(o:Array Keyed)(i j g ac bc:Nat),c=(none,i,j,o,g,ac,bc)/\LH a.toList b.toList (rv o) i j/\1<=i/\i<=a.size/\2<=j/\j<=b.size/\x+2+(i+j)<=a.size+b.size)
    (Q:=fun c st'=>(∃(r:Array Keyed)(z:Nat×Nat×Array Keyed×Nat×Nat×Nat),c=(some r,z)/\Q r st')∨SmG st st'/\∃(o:Array Keyed)(i j g ac bc:Nat),c=(none,i,j,o,g,ac,bc)/\LH a.toList b.toList (rv o) i j/\1<=i/\i<=a.size/\2<=j/\j<=b.size/\x+2+(i+j)<=a.size+b.size) ?jstep ?jfin ⟨sg2,o,i,j,_,ac,bc,rfl,lm,g1,g1',g2,g2',g3⟩) ?jpost)
   case jfin=>exact fun c st' q=>.inr q
   case jpost =>
    rintro c st3 (⟨r,z,rfl,q⟩ | ⟨sg3,o,i,j,g,ac,bc,rfl,lm,g1,g1',g2,g2',g3⟩)
    ·exact wpS_pure ⟨_,_,rfl,q⟩
    dsimp only
    exact wpS_bind (oi fun st4 sg4=>wpS_pure ⟨sg3.trans sg4,_,_,_,_,rfl,lm,g1,g1',g2,g2',by omega⟩)
   case jstep =>
    rintro y c st3 _ hy ⟨sg3,o,i,j,g,ac,bc,rfl,lm,g1,g1',g2,g2',g3⟩
    walk_at "st"
    walk_at "l11"
    extract_lets -underBinder +onlyGivenNames jp
    clear_value (ej:jp=_)
    refine yN fun R hR=>?_
    refine Ju (F:=fun z=>jp () z) fun g'=>?_
    rw[ej]
    clear ej jp
    walk_at "st"
    refine wpS_bind (oi fun st4 sg4=>?_)
    have sg34:=sg3.trans sg4
    have k4:=sg34.k.trans hk
    have ej1:j-1+1=j:=by omega
    obtain⟨vb,hvb,ivb⟩:=atB (j-1) (by omega)
    refine wpS_bind (aV (at_l hvb) ?_)
    refine wpS_bind (BM k4 ivb ua ia (by omega) (by omega) fun k kn kt kf=>?_)
    walk_at "st"
    extract_lets -underBinder +onlyGivenNames kk ac jp
    subst kk ac
    clear_value (ej:jp=_)
    have vbl:=lF ub hvb
    rw[ej1]at vbl
    have hlo:=fR_lo' kt
    have hhi:=fR_hi' kf
    have hj:∀(i':Nat)(o':Array Keyed),LH a.toList b.toList (rv o') i' j->1<=i'->i'<=a.size->(∀ y∈a.toList.take i',ky y<=ky vb)->x+2+(i'+j)<=a.size+b.size->wpS (model prog w) A E s (jp () i' o') R st4:=by
     intro i' o' lm' q1 q1' gv g3'
     rw[ej]
     clear ej jp
     walk_at "st"
     refine wpS_bind (aV (at_l hvb) ?_)
     have m2:LH a.toList b.toList (rv (o'.push vb)) i' (j-1):=by
      rw[sU]
      exact(LH.a1 (by rw[ej1];exact lm'.swap) ub hvb gv).swap
     by_cases d1:(j-1 == 1)=true
     ·refine aP d1 ?_
      exact wpS_pure (hR _ _ (.inl ⟨_,_,rfl,ls _ _ _ _ sg34 m2 (by simpa using d1)⟩))
     refine aO d1 ?_
     have d1':j-1≠1:=by simpa using d1
     have ei1:i'-1+1=i':=by omega
     obtain⟨va,hva,iva⟩:=atA (i'-1) (by omega)
     have val:=lF ua hva
     rw[ei1]at val
     refine wpS_bind (aV (at_l hva) ?_)
     refine wpS_bind (BN k4 iva ub ib (by omega) (by omega) fun k2 kn2 kt2 kf2=>?_)
     walk_at "st"
     extract_lets -underBinder +onlyGivenNames kk ac jp
     subst kk ac
     clear_value (ej:jp=_)
     have hlo2:=fL_lo' kt2
     have hhi2:=fL_hi' kf2
     have hj:∀(j':Nat)(o':Array Keyed),LH a.toList b.toList (rv o') i' j'->2<=j'->j'<=b.size->(∀ y∈b.toList.take j',ky y<=ky va)->x+2+(i'+j')<=a.size+b.size->wpS (model prog w) A E s (jp () j' o') R st4:=by
      intro j' o' lm2 q2 q2' gv' g3''
      rw[ej]
      clear ej jp
      walk_at "st"
      refine wpS_bind (aV (at_l hva) ?_)
      have m3:LH a.toList b.toList (rv (o'.push va)) (i'-1) j':=by
       rw[sU]
       exact LH.a1 (by rw[ei1];exact lm2) ua hva gv'
      by_cases d2:(i'-1 == 0)=true
      ·refine aP d2 ?_
       exact wpS_pure (hR _ _ (.inl ⟨_,_,rfl,dn _ _ _ _ sg34 m3 (.inl (by simpa using d2))⟩))
      refine aO d2 ?_
      have d2':i'-1≠0:=by simpa using d2
      split
      ·exact wpS_pure (hR _ _ (.inr ⟨sg34,_,_,_,_,_,_,rfl,m3,by omega,by omega,q2,q2',by omega⟩))
      ·exact wpS_pure (hR _ _ ⟨sg34,_,_,_,_,_,_,rfl,m3,by omega,by omega,q2,q2',by omega⟩)
     clear ej
     by_cases z2:j-1-k2 > 0
     ·refine aP z2 ?_
      have m3:LH a.toList b.toList (rv (o'.push vb++(b.extract k2 (j-1)).reverse)) i' k2:=by
       rw[Je,uN]
       exact(m2.swap.a ub (by omega) (by omega) fun x hx y hy=>by have:=hhi2 y hy;have:=val x hx;omega).swap
      by_cases d2:(k2 == 1)=true
      ·refine aP d2 ?_
       exact wpS_pure (hR _ _ (.inl ⟨_,_,rfl,ls _ _ _ _ sg34 m3 (by simpa using d2)⟩))
      refine aO d2 ?_
      have d2':k2≠1:=by simpa using d2
      by_cases d3:(k2 == 0)=true
      ·refine aP d3 ?_
       exact wpS_pure (hR _ _ (.inl ⟨_,_,rfl,dn _ _ _ _ sg34 m3 (.inr (by simpa using d3))⟩))
      refine aO d3 ?_
      have d3':k2≠0:=by simpa using d3
      exact hj _ _ m3 (by omega) (by omega) (fun y hy=>M7 (hlo2 y hy)) (by omega)
     ·refine aO z2 ?_
      have:k2=j-1:=by omega
      subst this
      exact hj _ _ m2 (by omega) (by omega) (fun y hy=>M7 (hlo2 y hy)) (by omega)
    clear ej
    by_cases z:i-k > 0
    ·refine aP z ?_
     have m2:LH a.toList b.toList (rv (o++(a.extract k i).reverse)) k j:=by
      rw[Je,uN]
      exact lm.a ua (by omega) (by omega) fun x hx y hy=>by have:=hhi y hy;have:=vbl x hx;omega
     by_cases d1:(k == 0)=true
     ·refine aP d1 ?_
      exact wpS_pure (hR _ _ (.inl ⟨_,_,rfl,dn _ _ _ _ sg34 m2 (.inl (by simpa using d1))⟩))
     refine aO d1 ?_
     have d1':k≠0:=by simpa using d1
     exact hj _ _ m2 (by omega) (by omega) hlo (by omega)
    ·refine aO z ?_
     have:k=i:=by omega
     subst this
     exact hj _ _ lm g1 g1' hlo (by omega)
end PyProof.RowsP
namespace PyProof.RowsP
open PySem PyProof.Rows
local macro_rules | `(tactic| walk_at "countRun") => do
 let n:=Lean.mkIdent (Lean.mkPrivateNameCore `PySem.Builtin.List.W1All `PySem.Builtin.countRun)
 `(tactic| delta $n)
local macro_rules | `(tactic| walk_at "binarySort") => do
 let n:=Lean.mkIdent (Lean.mkPrivateNameCore `PySem.Builtin.List.W1All `PySem.Builtin.binarySort)
 `(tactic| delta $n)
local macro_rules | `(tactic| walk_at "st") => `(tactic| try dsimp -zeta -zetaHave only)
local macro_rules | `(tactic| walk_at "l3") => `(tactic| (extract_lets -underBinder +onlyGivenNames a b c; subst a b c))
local macro_rules | `(tactic| walk_at "l11") => `(tactic| (extract_lets -underBinder +onlyGivenNames a b c d e f g h i j k; subst a b c d e f g h i j k; dsimp -zeta -zetaHave only))
local macro_rules | `(tactic| walk_at "l1") => `(tactic| (extract_lets -underBinder +onlyGivenNames a; subst a; try dsimp -zeta -zetaHave only))
local macro_rules | `(tactic| walk_at "l2") => `(tactic| (extract_lets -underBinder +onlyGivenNames a b; subst a b; try dsimp -zeta -zetaHave only))
local macro_rules | `(tactic| walk_at "l4") => `(tactic| (extract_lets -underBinder +onlyGivenNames a b c d; subst a b c d; try dsimp -zeta -zetaHave only))
variable{prog:Program}{w:World}{A:Around}{E:Value->Shared->Prop}{s:Shared} [KF:KeyFn] [LO:LtOk prog w A E s]
structure SB(lo:Nat)(st0 st:SortSt):Prop where
 perm:(arrOf st).Perm (arrOf st0)
 kind:kindOf st=KeyFn.kd
 failed:failedOf st=failedOf st0
 pend:pendingOf st=pendingOf st0
 low:∀ i,i<lo->(arrOf st)[i]?=(arrOf st0)[i]?
theorem SB.set{lo:Nat}{st0 st:SortSt}(h:SB lo st0 st){xs:Array Keyed}(hp:xs.Perm (arrOf st))(hl:∀ i,i<lo->xs[i]?=(arrOf st)[i]?):SB lo st0 (setArr st xs) :=
 ⟨hp.trans h.perm,h.kind,h.failed,h.pend,fun i hi=>(hl i hi).trans (h.low i hi)⟩
theorem SB.size{lo:Nat}{st0 st:SortSt}(h:SB lo st0 st):(arrOf st).size=(arrOf st0).size:=h.perm.size_eq
def Sin(xs:Array Keyed)(lo n:Nat):Prop:=∀ i j,lo<=i->i<=j->j<lo+n->K xs i<=K xs j
def Nin(xs:Array Keyed)(lo n:Nat):Prop:=∀ i j,lo<=i->i<=j->j<lo+n->K xs j<=K xs i
theorem lD{lo:Nat}{st0 st:SortSt}{i j:Nat}{Q:Option Bool->SortSt->Prop}(hB:SB lo st0 st)(h0:i4 (arrOf st0))(hi:i<(arrOf st0).size)(hj:j<(arrOf st0).size)
  (h:Q (some (decide (K (arrOf st) i<K (arrOf st) j))) st):wpS (model prog w) A E s ((sortPriv% PySem.Builtin.ltAt) i j) Q st:=by
 have at':∀ i,i<(arrOf st0).size->∃ p,(arrOf st)[i]?=some p/\IntP p/\K (arrOf st) i=ky p:=fun i hi=>by
  have hi':i<(arrOf st).size:=by rw[hB.size];exact hi
  have e:(arrOf st)[i]?=some (arrOf st)[i]:=getElem?_pos _ i hi'
  exact⟨(arrOf st)[i],e,h0 (arrOf st)[i] ((NG.mp hB.perm).mem_iff.mp (by simp)),K_eq hi'⟩
 obtain⟨p,e1,i1,k1⟩:=at' i hi
 obtain⟨q,e2,i2,k2⟩:=at' j hj
 rw[k1,k2]at h
 show wpS _ _ _ _ (ltAt' i j) Q st
 rw[ltAt'_eq]
 refine wpS_bind (wpS_get ?_)
 show wpS _ _ _ _ (do let x ← elem' (arrOf st) i;let y ← elem' (arrOf st) j;lt' x y) Q st
 rw[elem'_eq,elem'_eq,e1,e2]
 refine wpS_bind (wpS_pure (wpS_bind (wpS_pure ?_)))
 exact oI hB.kind i1 i2 h
theorem oj{lo:Nat}{st0 st:SortSt}{i j:Nat}{Q:Unit->SortSt->Prop}(hB:SB lo st0 st)(hl:lo<=i)(hj:j<=(arrOf st0).size)(h:∀ st',SB lo st0 st'->(∀ k,K (arrOf st') k=if i<=k/\k<j then K (arrOf st) (i+j-1-k) else K (arrOf st) k)->Q () st') :
  wpS (model prog w) A E s ((sortPriv% PySem.Builtin.reverseSlice) i j) Q st:=by
 have hj':j<=(arrOf st).size:=by rw[hB.size];exact hj
 refine wpS_reverse (h _ (hB.set (mirror_perm _ _ _ _) fun k hk=>?_) fun k=>IY hj' k)
 rw[getElem?_mirror_all hj',if_neg (by omega)]
theorem J1(xs:Array Keyed)(lo:Nat):Sin xs lo 1:=fun i j h1 h2 h3=>by
 have:i=j:=by omega
 rw[this];exact Nr _
theorem Jc{xs:Array Keyed}{lo n:Nat}(h:Sin xs lo n)(n1:1<=n)(c:¬ K xs (lo+n)<K xs (lo+n-1)):Sin xs lo (n+1):=fun i j h1 h2 h3=>by
 by_cases z:j<lo+n
 ·exact h i j h1 h2 z
 ·have ej:j=lo+n:=by omega
  by_cases zi:i=j
  ·rw[zi];exact Nr _
  ·have:=h i (lo+n-1) h1 (by omega) (by omega)
   rw[ej];omega
theorem Cf{xs:Array Keyed}{lo n:Nat}(h:Nin xs lo n)(n1:1<=n)(c:K xs (lo+n)<=K xs (lo+n-1)):Nin xs lo (n+1):=fun i j h1 h2 h3=>by
 by_cases z:j<lo+n
 ·exact h i j h1 h2 z
 ·have ej:j=lo+n:=by omega
  by_cases zi:i=j
  ·rw[zi];exact Nr _
  ·have:=h i (lo+n-1) h1 (by omega) (by omega)
   rw[ej];omega
def xW:Nat->Nat->StateT SortSt Sem (Option Nat):=sortPriv% PySem.Builtin.countRun
theorem CO{st0:SortSt}{lo nrem:Nat}{Q:Option Nat->SortSt->Prop}(hk:kindOf st0=KeyFn.kd)(h0:i4 (arrOf st0))(hn:lo+nrem<=(arrOf st0).size)(n1:1<=nrem)
  (h:∀ m st',SB lo st0 st'->1<=m->m<=nrem->Sin (arrOf st') lo m->Q (some m) st'):wpS (model prog w) A E s (xW lo nrem) Q st0:=by
 have hB:SB lo st0 st0:=⟨Array.Perm.refl _,hk,rfl,rfl,fun _ _=>rfl⟩
 unfold xW
 walk_at "countRun"
 refine wpS_bind (wpS_mono (wpS_forRange (I:=fun x c st'=>st'=st0/\c=(none,x)/\Sin (arrOf st0) lo x)
  (Q:=fun c st'=>st'=st0/\∃ n,c=(none,n)/\1<=n/\n<=nrem/\Sin (arrOf st0) lo n/\(n=nrem∨K (arrOf st0) (lo+n)<K (arrOf st0) (lo+n-1))) ?step ?fin ⟨rfl,rfl,J1 _ _⟩) ?post)
 case fin =>
  rintro c st' ⟨rfl,rfl,hs⟩
  rw[show max 1 nrem=nrem by omega]at hs ⊢
  exact⟨rfl,nrem,rfl,n1,LG _,hs,.inl rfl⟩
 case step =>
  rintro x c st' h1 h2 ⟨rfl,rfl,hs⟩
  dsimp only
  refine wpS_bind (lD hB h0 (by omega) (by omega) ?_)
  by_cases z:K (arrOf st') (lo+x)<K (arrOf st') (lo+x-1)
  ·simp only[z,decide_true,if_true]
   exact wpS_pure ⟨rfl,x,rfl,h1,by omega,hs,.inr z⟩
  ·simp only[z,decide_false,MR,if_false]
   exact wpS_pure ⟨rfl,rfl,Jc hs h1 z⟩
 case post =>
  rintro c st' ⟨rfl,n,rfl,g1,g2,hs,hor⟩
  walk_at "st"
  walk_at "l2"
  by_cases z:(n == nrem)=true
  ·refine aP z ?_
   exact wpS_pure (h n st' hB g1 g2 hs)
  refine aO z ?_
  have z':n≠nrem:=by simpa using z
  have hlt:=hor.resolve_left z'
  extract_lets -underBinder +onlyGivenNames jp
  clear_value (ej:jp=_)
  have hj:∀ st1,SB lo st' st1->Nin (arrOf st1) lo (n+1)->wpS (model prog w) A E s (jp ()) Q st1:=by
   intro st1 hB1 hs1
   rw[ej]
   clear ej jp
   walk_at "st"
   refine wpS_bind (wpS_lift (wpAny_rule ⟨rfl,?_⟩))
   refine wpS_bind (wpS_mono (wpS_forRange (I:=fun x c st2=>SB lo st' st2/\∃ neq,c=(none,x,neq)/\Nin (arrOf st2) lo x/\neq+1<=x/\(∀ i,lo+x-(neq+1)<=i->i<lo+x->K (arrOf st2) i=K (arrOf st2) (lo+x-1)))
    (Q:=fun c st2=>SB lo st' st2/\∃ m neq,c=(none,m,neq)/\1<=m/\m<=nrem/\Nin (arrOf st2) lo m/\neq+1<=m/\(∀ i,lo+m-(neq+1)<=i->i<lo+m->K (arrOf st2) i=K (arrOf st2) (lo+m-1))) ?dstep ?dfin ⟨hB1,0,rfl,hs1,by omega,fun i h1 h2=>by congr 1;omega⟩) ?dpost)
   case dfin =>
    rintro c st2 ⟨hB2,neq,rfl,hs2,q1,q2⟩
    rw[show max (n+1) nrem=nrem by omega]at hs2 q1 q2 ⊢
    exact⟨hB2,nrem,neq,rfl,by omega,LG _,hs2,q1,q2⟩
   case dstep =>
    rintro x c st2 h1 h2 ⟨hB2,neq,rfl,hs2,q1,q2⟩
    dsimp only
    refine wpS_bind (lD hB2 h0 (by omega) (by omega) ?_)
    by_cases z:K (arrOf st2) (lo+x)<K (arrOf st2) (lo+x-1)
    ·simp only[z,decide_true,if_true]
     have nx:=Cf hs2 (by omega) (M7 z)
     by_cases y:neq > 0
     ·refine aP y ?_
      refine wpS_bind (oj hB2 (by omega) (by omega) fun st3 hB3 e3=>?_)
      have e3':∀ k,K (arrOf st3) k=K (arrOf st2) k:=fun k=>by
       rw[e3]
       split
       ·rename_i hk
        rw[q2 _ (by omega) (by omega),q2 k (by omega) (by omega)]
       ·rfl
      refine wpS_pure ⟨hB3,0,rfl,fun i j a1 a2 a3=>?_,by omega,fun i h1 h2=>by congr 1;omega⟩
      rw[e3',e3']
      exact nx i j a1 a2 a3
     ·refine aO y ?_
      exact wpS_pure ⟨hB2,0,rfl,nx,by omega,fun i h1 h2=>by congr 1;omega⟩
    ·simp only[z,decide_false,MR,if_false]
     refine wpS_bind (lD hB2 h0 (by omega) (by omega) ?_)
     by_cases y:K (arrOf st2) (lo+x-1)<K (arrOf st2) (lo+x)
     ·simp only[y,decide_true,if_true]
      exact wpS_pure ⟨hB2,x,neq,rfl,by omega,by omega,hs2,q1,q2⟩
     ·simp only[y,decide_false,MR,if_false]
      have eq:K (arrOf st2) (lo+x)=K (arrOf st2) (lo+x-1):=by omega
      refine wpS_pure ⟨hB2,neq+1,rfl,Cf hs2 (by omega) (by omega),by omega,fun i a1 a2=>?_⟩
      rw[show lo+(x+1)-1=lo+x by omega]
      by_cases ix:i=lo+x
      ·rw[ix]
      ·rw[eq];exact q2 i (by omega) (by omega)
   case dpost =>
    rintro c st2 ⟨hB2,m,neq,rfl,m1,m2,hs2,q1,q2⟩
    walk_at "st"
    walk_at "l4"
    extract_lets -underBinder +onlyGivenNames jp
    clear_value (ej:jp=_)
    have hj:∀ st3,SB lo st' st3->Nin (arrOf st3) lo m->wpS (model prog w) A E s (jp ()) Q st3:=by
     intro st3 hB3 hs3
     rw[ej]
     clear ej jp
     walk_at "st"
     refine wpS_bind (oj hB3 (LG _) (by omega) fun st4 hB4 e4=>?_)
     have hs4:Sin (arrOf st4) lo m:=fun i j a1 a2 a3=>by
      rw[e4,e4,if_pos (by omega),if_pos (by omega)]
      exact hs3 _ _ (by omega) (by omega) (by omega)
     refine wpS_bind (wpS_mono (wpS_forRange (I:=fun x c st'=>st'=st4/\c=(none,x)/\Sin (arrOf st4) lo x) (Q:=fun c st'=>st'=st4/\∃ n,c=(none,n)/\1<=n/\n<=nrem/\Sin (arrOf st4) lo n) ?ustep ?ufin ⟨rfl,rfl,hs4⟩) ?upost)
     case ufin =>
      rintro c st5 ⟨rfl,rfl,hs5⟩
      rw[show max m nrem=nrem by omega]at hs5 ⊢
      exact⟨rfl,nrem,rfl,n1,LG _,hs5⟩
     case ustep =>
      rintro x c st5 h1 h2 ⟨rfl,rfl,hs5⟩
      dsimp only
      refine wpS_bind (lD hB4 h0 (by omega) (by omega) ?_)
      by_cases z:K (arrOf st5) (lo+x)<K (arrOf st5) (lo+x-1)
      ·simp only[z,decide_true,if_true]
       exact wpS_pure ⟨rfl,x,rfl,by omega,by omega,hs5⟩
      ·simp only[z,decide_false,MR,if_false]
       exact wpS_pure ⟨rfl,rfl,Jc hs5 (by omega) z⟩
     case upost =>
      rintro c st5 ⟨rfl,k,rfl,k1,k2,hs5⟩
      exact wpS_pure (h k st5 hB4 k1 k2 hs5)
    by_cases y:neq > 0
    ·refine aP y ?_
     refine wpS_bind (oj hB2 (by omega) (by omega) fun st3 hB3 e3=>hj st3 hB3 fun i j a1 a2 a3=>?_)
     have e3':∀ k,K (arrOf st3) k=K (arrOf st2) k:=fun k=>by
      rw[e3]
      split
      ·rename_i hk
       rw[q2 _ (by omega) (by omega),q2 k (by omega) (by omega)]
      ·rfl
     rw[e3',e3']
     exact hs2 i j a1 a2 a3
    ·refine aO y ?_
     exact hj st2 hB2 hs2
  by_cases y:n > 1
  ·refine aP y ?_
   refine wpS_bind (lD hB h0 (by omega) (by omega) ?_)
   by_cases r:K (arrOf st') lo<K (arrOf st') (lo+n-1)
   ·simp only[r,decide_true,if_true]
    exact wpS_pure (h n st' hB g1 g2 hs)
   ·simp only[r,decide_false,MR,if_false]
    have all:∀ k,lo<=k->k<lo+n->K (arrOf st') k=K (arrOf st') (lo+n-1):=fun k a1 a2=>by
     have b1:=hs lo k (LG _) a1 a2
     have b2:=hs k (lo+n-1) a1 (by omega) (by omega)
     omega
    refine wpS_bind (oj hB (LG _) (by omega) fun st1 hB1 e1=>hj st1 hB1 ?_)
    have e1':∀ k,K (arrOf st1) k=K (arrOf st') k:=fun k=>by
     rw[e1]
     split
     ·rename_i hk
      rw[all _ (by omega) (by omega),all k (by omega) (by omega)]
     ·rfl
    refine Cf (fun i j a1 a2 a3=>?_) (by omega) ?_
    ·rw[e1',e1',all i a1 (by omega),all j (by omega) a3]
     exact Nr _
    ·rw[e1',e1']
     exact M7 hlt
  ·refine aO y ?_
   have:n=1:=by omega
   subst this
   refine hj st' hB (Cf (fun i j a1 a2 a3=>?_) (by omega) (M7 hlt))
   have:i=j:=by omega
   rw[this];exact Nr _
def pY:Nat->Nat->Nat->StateT SortSt Sem Bool:=sortPriv% PySem.Builtin.binarySort
theorem Hv{st0 st:SortSt}{lo n m:Nat}{Q:Bool->SortSt->Prop}(h0:i4 (arrOf st0))(hn:lo+n<=(arrOf st0).size)(hm:m<=n)(hB:SB lo st0 st)(hs:Sin (arrOf st) lo m)
  (h:∀ st',SB lo st0 st'->Sin (arrOf st') lo n->Q true st'):wpS (model prog w) A E s (pY lo n m) Q st:=by
 unfold pY
 walk_at "binarySort"
 refine wpS_bind (wpS_mono (wpS_forRange (I:=fun k c st'=>c=(none,())/\SB lo st0 st'/\Sin (arrOf st') lo (min k n))
  (Q:=fun c st'=>c=(none,())/\SB lo st0 st'/\Sin (arrOf st') lo n) ?step ?fin ?init) ?post)
 case post =>
  rintro c st' ⟨rfl,hB',hs'⟩
  exact wpS_pure (h st' hB' hs')
 case init =>
  refine⟨rfl,hB,fun i j h1 h2 h3=>?_⟩
  by_cases z:m=0
  ·have:i=j:=by omega
   rw[this];exact Nr _
  ·exact hs i j h1 h2 (by omega)
 case fin =>
  rintro c st' ⟨hc,hB',hs'⟩
  refine⟨hc,hB',?_⟩
  rwa[show min (max (max m 1) n) n=n by omega]at hs'
 case step =>
  rintro k c st' hak hkn ⟨rfl,hB',hs'⟩
  rw[show min k n=k by omega]at hs'
  dsimp only
  refine wpS_bind (wpS_mono (wpS_forRange (I:=fun x c st''=>st''=st'/\∃ l r,c=(none,l,r)/\l<=r/\r<=k/\r-l<=k-x /\
    (∀ i,lo<=i->i<lo+l->K (arrOf st') i<=K (arrOf st') (lo+k))/\(∀ i,lo+r<=i->i<lo+k->K (arrOf st') (lo+k)<K (arrOf st') i))
   (Q:=fun c st''=>st''=st'/\∃ l,c=(none,l,l)/\l<=k /\
    (∀ i,lo<=i->i<lo+l->K (arrOf st') i<=K (arrOf st') (lo+k))/\(∀ i,lo+l<=i->i<lo+k->K (arrOf st') (lo+k)<K (arrOf st') i)) ?istep ?ifin ⟨rfl,0,k,rfl,by omega,by omega,by omega,fun i h1 h2=>by omega,fun i h1 h2=>by omega⟩) ?ipost)
  case ifin =>
   rintro c st'' ⟨rfl,l,r,rfl,q1,q2,q3,q4,q5⟩
   have:l=r:=by omega
   subst this
   exact⟨rfl,l,rfl,q2,q4,q5⟩
  case istep =>
   rintro x c st'' _ hxk ⟨rfl,l,r,rfl,q1,q2,q3,q4,q5⟩
   dsimp only
   by_cases z:l ≥ r
   ·refine aP z ?_
    have:l=r:=by omega
    subst this
    exact wpS_pure ⟨rfl,l,rfl,q2,q4,q5⟩
   ·refine aO z ?_
    refine wpS_bind (lD hB' h0 (by omega) (by omega) ?_)
    by_cases y:K (arrOf st'') (lo+k)<K (arrOf st'') (lo+(l+r)/2)
    ·simp only[y,decide_true,if_true]
     refine wpS_pure ⟨rfl,l,(l+r)/2,rfl,by omega,by omega,by omega,q4,fun i h1 h2=>?_⟩
     have:=hs' (lo+(l+r)/2) i (by omega) h1 h2
     omega
    ·simp only[y,decide_false,MR,if_false]
     refine wpS_pure ⟨rfl,(l+r)/2+1,r,rfl,by omega,by omega,by omega,fun i h1 h2=>?_,q5⟩
     have:=hs' i (lo+(l+r)/2) h1 (by omega) (by omega)
     omega
  case ipost =>
   rintro c st'' ⟨rfl,l,rfl,q1,q2,q3⟩
   dsimp only
   have hks:lo+k<(arrOf st'').size:=by rw[hB'.size];omega
   have el:lo+k-(lo+k-(lo+l))=lo+l:=by omega
   refine wpS_bind ?_
   show wpS _ _ _ _ (moveDown' (lo+k) (lo+l)) _ _
   rw[moveDown'_eq]
   refine wpS_modify (wpS_pure ⟨rfl,hB'.set (bubble_perm _ _ _) fun i hi=>?_,?_⟩)
   ·rw[getElem?_bubble hks _ (by omega),el,if_neg (by omega),if_neg (by omega)]
   ·rw[show min (k+1) n=k+1 by omega]
    intro i j h1 h2 h3
    show K (bubble (arrOf st'') (lo+k) (lo+k-(lo+l))) i<=K (bubble (arrOf st'') (lo+k) (lo+k-(lo+l))) j
    rw[CL hks (by omega),CL hks (by omega),el]
    repeat' split
    all_goals first
     | (exfalso;omega)
     |exact Nr _
     |exact q2 _ (by omega) (by omega)
     |exact M7 (q3 _ (by omega) (by omega))
     |exact hs' _ _ (by omega) (by omega) (by omega)
end PyProof.RowsP
namespace PyProof.RowsP
open PySem PyProof.Rows
local macro_rules | `(tactic| walk_at "mergeAt") => do
 let n:=Lean.mkIdent (Lean.mkPrivateNameCore `PySem.Builtin.List.W1All `PySem.Builtin.mergeAt)
 `(tactic| delta $n)
local macro_rules | `(tactic| walk_at "st") => `(tactic| try dsimp -zeta -zetaHave only)
local macro_rules | `(tactic| walk_at "l3") => `(tactic| (extract_lets -underBinder +onlyGivenNames a b c; subst a b c))
local macro_rules | `(tactic| walk_at "l11") => `(tactic| (extract_lets -underBinder +onlyGivenNames a b c d e f g h i j k; subst a b c d e f g h i j k; dsimp -zeta -zetaHave only))
local macro_rules | `(tactic| walk_at "l1") => `(tactic| (extract_lets -underBinder +onlyGivenNames a; subst a; try dsimp -zeta -zetaHave only))
local macro_rules | `(tactic| walk_at "l2") => `(tactic| (extract_lets -underBinder +onlyGivenNames a b; subst a b; try dsimp -zeta -zetaHave only))
local macro_rules | `(tactic| walk_at "l4") => `(tactic| (extract_lets -underBinder +onlyGivenNames a b c d; subst a b c d; try dsimp -zeta -zetaHave only))
variable{prog:Program}{w:World}{A:Around}{E:Value->Shared->Prop}{s:Shared} [KF:KeyFn] [LO:LtOk prog w A E s]
theorem vU{P:List Keyed}{i n m:Nat}(hm:m<n):((P.drop i).take n)[m]?=P[i+m]?:=by
 rw[M5,if_pos hm,Ng]
theorem Jd{P:List Keyed}{i n x y:Nat}{p q:Keyed}(u:Upl ((P.drop i).take n))(hp:P[i+x]?=some p)(hq:P[i+y]?=some q)(h:x<=y)(hy:y<n):ky p<=ky q :=
 Hw u (i:=x) (j:=y) (by rw[vU (by omega)];exact hp) (by rw[vU hy];exact hq) h
theorem Eu{st:SortSt}{key:Keyed}{arr:Array Keyed}{base n hint:Nat}{Q:Option Nat->SortSt->Prop}(hk:kindOf st=KeyFn.kd)(hkey:IntP key)(u:Upl ((arr.toList.drop base).take n))(ip:∀ x∈arr.toList,IntP x)(hn:base+n<=arr.size)(hh:hint<n)
  (h:∀ k,k<=n->(∀ i,i<k->fR arr.toList base key i=true)->(∀ i,k<=i->i<n->fR arr.toList base key i=false)->Q (some k) st):wpS (model prog w) A E s ((sortPriv% PySem.Builtin.gallop) false key arr base n hint) Q st:=by
 have la:arr.toList.length=arr.size:=by simp
 refine i8 (fR arr.toList base key) hk hkey (fun i hi=>?_) (fun x y hxy hy e=>?_) hh h
 ·have hx:arr.toList[base+i]?=some arr.toList[base+i]:=Lw (by omega)
  exact⟨_,by rw[← hx];simp,ip _ (Mm _),by rw[pF hx];rfl⟩
 ·have hx:arr.toList[base+x]?=some arr.toList[base+x]:=Lw (by omega)
  have hy':arr.toList[base+y]?=some arr.toList[base+y]:=Lw (by omega)
  rw[pF hy']at e
  rw[pF hx]
  have:=Jd u hx hy' hxy hy
  simp only[Ow,decide_eq_false_iff_not]at e ⊢
  omega
theorem Ew{st:SortSt}{key:Keyed}{arr:Array Keyed}{base n hint:Nat}{Q:Option Nat->SortSt->Prop}(hk:kindOf st=KeyFn.kd)(hkey:IntP key)(u:Upl ((arr.toList.drop base).take n))(ip:∀ x∈arr.toList,IntP x)(hn:base+n<=arr.size)(hh:hint<n)
  (h:∀ k,k<=n->(∀ i,i<k->fL arr.toList base key i=true)->(∀ i,k<=i->i<n->fL arr.toList base key i=false)->Q (some k) st):wpS (model prog w) A E s ((sortPriv% PySem.Builtin.gallop) true key arr base n hint) Q st:=by
 have la:arr.toList.length=arr.size:=by simp
 refine i8 (fL arr.toList base key) hk hkey (fun i hi=>?_) (fun x y hxy hy e=>?_) hh h
 ·have hx:arr.toList[base+i]?=some arr.toList[base+i]:=Lw (by omega)
  exact⟨_,by rw[← hx];simp,ip _ (Mm _),by rw[qN hx];rfl⟩
 ·have hx:arr.toList[base+x]?=some arr.toList[base+x]:=Lw (by omega)
  have hy':arr.toList[base+y]?=some arr.toList[base+y]:=Lw (by omega)
  rw[qN hy']at e
  rw[qN hx]
  have:=Jd u hx hy' hxy hy
  simp only[decide_eq_true_eq]at e ⊢
  omega
theorem FL{P:List Keyed}{i n k:Nat}{y:Keyed}(h:y∈((P.drop i).take n).drop k):∃ m,k<=m/\m<n/\P[i+m]?=some y:=by
 obtain⟨m,e⟩:=FN h
 have hl:=(Lx.mp e).1
 rw[LZ]at hl
 rw[vU (by omega)]at e
 exact⟨k+m,by omega,by omega,e⟩
theorem fR_sh{P:List Keyed}{i n k:Nat}{v:Keyed}(h:∀ m,k<=m->m<n->fR P i v m=false):∀ y∈((P.drop i).take n).drop k,ky v<ky y:=fun y hy=>by
 obtain⟨m,h1,h2,e⟩:=FL hy
 have:=h m h1 h2
 rw[pF e]at this
 simpa using this
theorem fL_sh{P:List Keyed}{i n k:Nat}{v:Keyed}(h:∀ m,k<=m->m<n->fL P i v m=false):∀ y∈((P.drop i).take n).drop k,ky v<=ky y:=fun y hy=>by
 obtain⟨m,h1,h2,e⟩:=FL hy
 have:=h m h1 h2
 rw[qN e]at this
 simp only[decide_eq_false_iff_not]at this
 omega
theorem Cw(c:Nat):∀(l:List Keyed)(n:Nat)(xs:Array Keyed),c+n+l.length<=xs.size->((l.zipIdx n).foldl (fun a x=>match x with | (p,j)=>a.setIfInBounds (c+j) p) xs).toList=xs.toList.take (c+n)++l++xs.toList.drop (c+n+l.length)
 |[],n,xs,_=>by
  show xs.toList=_
  rw[Na,NT,Nat.add_zero,L3]
 |p::l,n,xs,h=>by
  have ll:xs.toList.length=xs.size:=by simp
  rw[Mb]at h ⊢
  rw[List.zipIdx_cons,List.foldl_cons]
  show((l.zipIdx (n+1)).foldl _ (xs.setIfInBounds (c+n) p)).toList=_
  rw[Cw c l (n+1) _ (by rw[Pn];omega),Pa,List.drop_set_of_lt (by omega),show c+(n+1)=c+n+1 by omega,show c+n+1+l.length=c+n+(l.length+1) by omega]
  have e:(xs.toList.set (c+n) p).take (c+n+1)=xs.toList.take (c+n)++[p]:=by
   rw[Mo,List.take_set_of_le (LG _),NW (by omega)]
   rfl
  rw[e,Ma (xs.toList.take (c+n)) [p] l]
  rfl
theorem BS{P R:List Keyed}(u:Upl P)(v:Upl R)(c:∀ x∈P,∀ y∈R,ky x<=ky y):Upl (P++R):=MI.mpr ⟨u,v,c⟩
theorem JO{σ:Type}{M:Model}{x st:σ}{Q:PUnit->σ->Prop}(h:Q ⟨⟩ x):wpS M A E s (set x:StateT σ Sem PUnit) Q st:=by
 unfold wpS
 rw[StateT.run_set]
 exact wpAny_pure ⟨rfl,h⟩
def Cn:Nat->StateT SortSt Sem Bool:=sortPriv% PySem.Builtin.mergeAt
theorem yM{st:SortSt}{i sa na pa sb nb pb:Nat}{Q:Bool->SortSt->Prop}(hk:kindOf st=KeyFn.kd)(hf:failedOf st=none)(h0:i4 (arrOf st))(p1:(pendingOf st)[i]?=some (sa,na,pa))(p2:(pendingOf st)[i+1]?=some (sb,nb,pb))(es:sb=sa+na)(a1:1<=na)(b1:1<=nb)(le:sb+nb<=(arrOf st).size)
  (s1:Upl (((arrOf st).toList.drop sa).take na)) (s2:Upl (((arrOf st).toList.drop sb).take nb))
  (h:∀(st':SortSt)(M:List Keyed),kindOf st'=KeyFn.kd->failedOf st'=none->pendingOf st'=((pendingOf st).setIfInBounds i (sa,na+nb,pa)).eraseIdxIfInBounds (i+1)->(arrOf st').toList=(arrOf st).toList.take sa++M++(arrOf st).toList.drop (sb+nb)->M.Perm (((arrOf st).toList.drop sa).take na++((arrOf st).toList.drop sb).take nb)->Upl M->Q true st') :
  wpS (model prog w) A E s (Cn i) Q st:=by
 unfold Cn
 walk_at "mergeAt"
 refine wpS_bind (wpS_get ?_)
 rw[show((sortPriv% PySem.Builtin.SortState.pending) st)[i]?=some (sa,na,pa) from p1,show((sortPriv% PySem.Builtin.SortState.pending) st)[i+1]?=some (sb,nb,pb) from p2]
 dsimp -zeta -zetaHave only
 refine wpS_bind (JO ?_)
 obtain⟨xs,exs⟩:∃ xs,arrOf st=xs:=⟨_,rfl⟩
 obtain⟨st1,est1⟩:∃ st1:SortSt,SortSt.mk' (kindOf st) (arrOf st) (((pendingOf st).setIfInBounds i (sa,na+nb,pa)).eraseIdxIfInBounds (i+1)) (gallopOf st) (failedOf st)=st1:=⟨_,rfl⟩
 have k1:kindOf st1=KeyFn.kd:=by rw[← est1];exact hk
 have f1:failedOf st1=none:=by rw[← est1];exact hf
 have e1:arrOf st1=xs:=by rw[← est1,← exs]
 have q1:pendingOf st1=((pendingOf st).setIfInBounds i (sa,na+nb,pa)).eraseIdxIfInBounds (i+1):=by rw[← est1]
 show wpS (model prog w) A E s _ Q (SortSt.mk' (kindOf st) (arrOf st) (((pendingOf st).setIfInBounds i (sa,na+nb,pa)).eraseIdxIfInBounds (i+1)) (gallopOf st) (failedOf st))
 rw[est1]
 clear est1
 rw[show(sortPriv% PySem.Builtin.SortState.a) st=xs from exs]
 rw[exs]at h0 le s1 s2 h
 clear exs p1 p2 hf hk
 have ll:xs.toList.length=xs.size:=by simp
 have ip:∀ x∈xs.toList,IntP x:=fun x hx=>h0 x hx
 have at':∀ i,i<xs.size->∃ x,xs.toList[i]?=some x/\IntP x:=fun i hi=>⟨_,Lw (by omega),ip _ (Mm _)⟩
 obtain⟨b0,hb0,ib0⟩:=at' sb (by omega)
 refine wpS_bind (aV (at_l hb0) ?_)
 refine wpS_bind (Eu k1 ib0 s1 ip (by omega) (by omega) fun k kn kt kf=>?_)
 dsimp -zeta -zetaHave only
 obtain⟨S1,eS1⟩:∃ S1,(xs.toList.drop sa).take na=S1:=⟨_,rfl⟩
 obtain⟨S2,eS2⟩:∃ S2,(xs.toList.drop sb).take nb=S2:=⟨_,rfl⟩
 have l1:S1.length=na:=by rw[← eS1,LZ,Mj];omega
 have l2:S2.length=nb:=by rw[← eS2,LZ,Mj];omega
 have tk1:S1.take k=(xs.toList.drop sa).take k:=by rw[← eS1,Om,MU kn]
 have lo1:∀ x∈S1.take k,ky x<=ky b0:=by rw[tk1];exact K4 kt
 have hi1:∀ y∈S1.drop k,ky b0<ky y:=by rw[← eS1];exact fR_sh kf
 have bS:S2[0]?=some b0:=by rw[← eS2,vU (by omega)];exact hb0
 rw[eS1]at s1
 rw[eS2]at s2
 have b0l:∀ y∈S2,ky b0<=ky y:=jE (i:=0) s2 bS
 have whole:Upl (S1++S2)->Q true st1:=fun u=>h st1 (S1++S2) k1 f1 q1 (by
  rw[e1,← eS1,← eS2,← Ma,es,← Oc,← Oc,← es,L3]) (by rw[eS1,eS2]) u
 by_cases z:(na-k == 0)=true
 ·refine aP z ?_
  have z':na-k=0:=by simpa using z
  refine wpS_pure (whole (BS s1 s2 fun x hx y hy=>?_))
  have:=lo1 x (by rw[Ms (by omega)];exact hx)
  have:=b0l y hy
  omega
 refine aO z ?_
 have z':na-k≠0:=by simpa using z
 obtain⟨al,hal,ial⟩:=at' (sa+k+(na-k)-1) (by omega)
 have aS:S1[na-1]?=some al:=by rw[← eS1,vU (by omega),← hal];congr 1;omega
 refine wpS_bind (aV (at_l hal) ?_)
 refine wpS_bind (Ew k1 ial (by rw[eS2];exact s2) ip (by omega) (by omega) fun m mn mt mf=>?_)
 dsimp -zeta -zetaHave only
 have tk2:S2.take m=(xs.toList.drop sb).take m:=by rw[← eS2,Om,MU mn]
 have lo2:∀ x∈S2.take m,ky x<ky al:=by rw[tk2];exact K6 mt
 have hi2:∀ y∈S2.drop m,ky al<=ky y:=by rw[← eS2];exact fL_sh mf
 have all:∀ x∈S1,ky x<=ky al:=fun x hx=>lF s1 aS x (by rw[Ms (by omega)];exact hx)
 by_cases y:(m == 0)=true
 ·refine aP y ?_
  have y':m=0:=by simpa using y
  subst y'
  exact wpS_pure (whole (BS s1 s2 fun x hx y hy=>Int.le_trans (all x hx) (hi2 y hy)))
 refine aO y ?_
 have y':m≠0:=by simpa using y
 walk_at "st"
 extract_lets -underBinder +onlyGivenNames xx yy jp
 subst xx yy
 clear_value (ej:jp=_)
 have ea:(xs.extract (sa+k) sb).toList=S1.drop k:=by
  rw[uN,← eS1,N0,N0,Nv]
  congr 1
  omega
 have eb:(xs.extract sb (sb+m)).toList=S2.take m:=by rw[oE,tk2]
 have za:(xs.extract (sa+k) sb).size=na-k:=by rw[← MG,ea,Mj,l1]
 have zb:(xs.extract sb (sb+m)).size=m:=by rw[← MG,eb,LZ];omega
 have ipa:∀ x∈(xs.extract (sa+k) sb).toList,IntP x:=fun x hx=>by
  rw[uN]at hx
  exact ip x (MO (MP hx))
 have ipb:∀ x∈(xs.extract sb (sb+m)).toList,IntP x:=fun x hx=>by
  rw[oE]at hx
  exact ip x (MP (MO hx))
 have ua:Upl (xs.extract (sa+k) sb).toList:=by rw[ea];exact s1.drop
 have ub:Upl (xs.extract sb (sb+m)).toList:=by rw[eb];exact s2.take
 have c0:∀ x y:Keyed,(xs.extract sb (sb+m)).toList[0]?=some x->y∈(xs.extract (sa+k) sb).toList->ky x<ky y:=fun x y hx hy=>by
  rw[eb,M5,if_pos (by omega),bS]at hx
  cases hx
  rw[ea]at hy
  exact hi1 y hy
 have cl:∀ x y:Keyed,x∈(xs.extract sb (sb+m)).toList->(xs.extract (sa+k) sb).toList[(xs.extract (sa+k) sb).size-1]?=some y->ky x<ky y:=fun x y hx hy=>by
  rw[za,ea,Ng,show k+(na-k-1)=na-1 by omega,aS]at hy
  cases hy
  rw[eb]at hx
  exact lo2 x hx
 have hj:∀(R:Array Keyed)(st2:SortSt),SmG st1 st2->R.toList.Perm ((xs.extract (sa+k) sb).toList++(xs.extract sb (sb+m)).toList)->Upl R.toList->wpS (model prog w) A E s (jp R) Q st2:=by
  intro R st2 sg pm up
  rw[ej]
  clear ej jp
  walk_at "st"
  rw[ea,eb]at pm
  have rl:R.toList.length=na-k+m:=by rw[pm.length_eq,Ly,Mj,LZ,l1,l2];omega
  refine wpS_bind (wpS_modify ?_)
  refine wpS_bind (wpS_get ?_)
  have ff:(sortPriv% PySem.Builtin.SortState.failed) st2=none:=sg.f.trans f1
  show wpS (model prog w) A E s (pure ((sortPriv% PySem.Builtin.SortState.failed) st2).isNone) Q _
  rw[ff]
  have tk:∀ x∈S1.take k,∀ y∈S1.drop k,ky x<=ky y:=by
   have:Upl (S1.take k++S1.drop k):=by rw[L3];exact s1
   exact(MI.mp this).2.2
  have tk':∀ x∈S2.take m,∀ y∈S2.drop m,ky x<=ky y:=by
   have:Upl (S2.take m++S2.drop m):=by rw[L3];exact s2
   exact(MI.mp this).2.2
  refine wpS_pure (h _ (S1.take k++R.toList++S2.drop m) (sg.k.trans k1) rfl (sg.p.trans q1) ?_ ?_ ?_)
  ·show(R.toList.zipIdx.foldl (fun a x=>match x with | (p,j)=>a.setIfInBounds (sa+k+j) p) (arrOf st2)).toList=_
   rw[sg.a,e1,Cw (sa+k) R.toList 0 xs (by omega),Nat.add_zero,rl,show sa+k+(na-k+m)=sb+m by omega,Oc,← tk1]
   have ed:xs.toList.drop (sb+m)=S2.drop m++xs.toList.drop (sb+nb):=by
    rw[← Nv,← eS2]
    have e:=congrArg (List.drop m) (L3 nb (xs.toList.drop sb))
    rw[OY,LZ,Mj,show m-min nb (xs.toList.length-sb)=0 by omega,NZ,Nv]at e
    exact e.symm
   rw[ed]
   simp only[Ma]
  ·rw[eS1,eS2]
   have e:S1++S2=S1.take k++(S1.drop k++S2.take m)++S2.drop m:=by
    rw[Ma,Ma,L3,← Ma,L3]
   rw[e]
   exact(M4 _ pm).append_right _
  ·refine BS (BS s1.take up fun x hx y hy=>?_) s2.drop fun x hx y hy=>?_
   ·rcases LJ.mp (pm.mem_iff.mp hy)with hy | hy
    ·exact tk x hx y hy
    ·have:=lo1 x hx
     have:=b0l y (MO hy)
     omega
   ·rcases LJ.mp hx with hx | hx
    ·have:=lo1 x hx
     have:=b0l y (MP hy)
     omega
    ·rcases LJ.mp (pm.mem_iff.mp hx)with hx | hx
     ·exact Int.le_trans (all x (MP hx)) (hi2 y hy)
     ·exact tk' x hx y hy
 clear ej
 by_cases c:na-k<=m
 ·refine aP c ?_
  exact wpS_bind (yK k1 ua ub ipa ipb (by omega) (by omega) (fun x y a b=>M7 (c0 x y a b)) cl fun R st2 sg pm up=>hj R st2 sg pm up)
 ·refine aO c ?_
  exact wpS_bind (yL k1 ua ub ipa ipb (by omega) (by omega) c0 cl fun R st2 sg pm up=>hj R st2 sg pm up)
end PyProof.RowsP
namespace PyProof.RowsP
open PySem PyProof.Rows
local macro_rules | `(tactic| walk_at "sortRuns") => do
 let n:=Lean.mkIdent (Lean.mkPrivateNameCore `PySem.Builtin.List.W1All `PySem.Builtin.sortRuns)
 `(tactic| delta $n)
local macro_rules | `(tactic| walk_at "st") => `(tactic| try dsimp -zeta -zetaHave only)
local macro_rules | `(tactic| walk_at "l3") => `(tactic| (extract_lets -underBinder +onlyGivenNames a b c; subst a b c))
local macro_rules | `(tactic| walk_at "l11") => `(tactic| (extract_lets -underBinder +onlyGivenNames a b c d e f g h i j k; subst a b c d e f g h i j k; dsimp -zeta -zetaHave only))
local macro_rules | `(tactic| walk_at "l1") => `(tactic| (extract_lets -underBinder +onlyGivenNames a; subst a; try dsimp -zeta -zetaHave only))
local macro_rules | `(tactic| walk_at "l2") => `(tactic| (extract_lets -underBinder +onlyGivenNames a b; subst a b; try dsimp -zeta -zetaHave only))
local macro_rules | `(tactic| walk_at "l4") => `(tactic| (extract_lets -underBinder +onlyGivenNames a b c d; subst a b c d; try dsimp -zeta -zetaHave only))
variable{prog:Program}{w:World}{A:Around}{E:Value->Shared->Prop}{s:Shared} [KF:KeyFn] [LO:LtOk prog w A E s]
def Rn(L:List Keyed):List (Nat×Nat×Nat)->Nat->Nat->Prop
 |[],c,e=>c=e
 |p::t,c,e=>p.1=c/\1<=p.2.1/\Upl ((L.drop p.1).take p.2.1)/\Rn L t (c+p.2.1) e
theorem Rn.le{L:List Keyed}:∀{T:List (Nat×Nat×Nat)}{c e:Nat},Rn L T c e->c+T.length<=e
 |[],c,e,h=>by cases h;exact LG _
 |p::t,c,e,⟨_,h1,_,h⟩=>by
  have:=Rn.le h
  rw[Mb]
  omega
theorem Rn.app{L:List Keyed}:∀{T1 T2:List (Nat×Nat×Nat)}{c e:Nat},Rn L (T1++T2) c e↔∃ m,Rn L T1 c m/\Rn L T2 m e
 |[],T2,c,e=>⟨fun h=>⟨c,rfl,h⟩,fun⟨m,h1,h2⟩=>by cases h1;exact h2⟩
 |p::t,T2,c,e=>by
  constructor
  ·rintro⟨h1,h2,h3,h4⟩
   obtain⟨m,g1,g2⟩:=Rn.app.mp h4
   exact⟨m,⟨h1,h2,h3,g1⟩,g2⟩
  ·rintro⟨m,⟨h1,h2,h3,g1⟩,g2⟩
   exact⟨h1,h2,h3,Rn.app.mpr ⟨m,g1,g2⟩⟩
theorem Rn.lo{L L':List Keyed}{m:Nat}(hm:L.take m=L'.take m):∀{T:List (Nat×Nat×Nat)}{c e:Nat},Rn L T c e->e<=m->Rn L' T c e
 |[],c,e,h,_=>h
 |p::t,c,e,⟨h1,h2,h3,h4⟩,he=>by
  have hl:=h4.le
  refine⟨h1,h2,?_,Rn.lo hm h4 he⟩
  have cut:∀ Z:List Keyed,(Z.drop p.1).take p.2.1=((Z.take m).drop p.1).take p.2.1:=fun Z=>by
   rw[N0,Om,MU (by omega)]
  rw[cut L',← hm,← cut L]
  exact h3
theorem Rn.hi{L L':List Keyed}{m:Nat}(hm:L.drop m=L'.drop m):∀{T:List (Nat×Nat×Nat)}{c e:Nat},Rn L T c e->m<=c->Rn L' T c e
 |[],c,e,h,_=>h
 |p::t,c,e,⟨h1,h2,h3,h4⟩,he=>by
  refine⟨h1,h2,?_,Rn.hi hm h4 (by omega)⟩
  have cut:∀ Z:List Keyed,Z.drop p.1=(Z.drop m).drop (p.1-m):=fun Z=>by rw[Nv];congr 1;omega
  rw[cut L',← hm,← cut L]
  exact h3
theorem Rn.like{L:List Keyed}:∀{T T':List (Nat×Nat×Nat)}{c e:Nat},T.map (fun p=>(p.1,p.2.1))=T'.map (fun p=>(p.1,p.2.1))->Rn L T c e->Rn L T' c e
 |[],[],c,e,_,h=>h
 |p::t,q::t',c,e,hm,⟨h1,h2,h3,h4⟩=>by
  rw[Mc,Mc]at hm
  injection hm with a b
  injection a with a1 a2
  refine⟨by rw[← a1];exact h1,by rw[← a2];exact h2,by rw[← a1,← a2];exact h3,?_⟩
  rw[← a2]
  exact Rn.like b h4
 |[],q::t',c,e,hm,h=>by cases hm
 |p::t,[],c,e,hm,h=>by cases hm
structure SI(a₀:Array Keyed)(lo:Nat)(st:SortSt):Prop where
 perm:(arrOf st).Perm a₀
 kind:kindOf st=KeyFn.kd
 failed:failedOf st=none
 rn:Rn (arrOf st).toList (pendingOf st).toList 0 lo
 le:lo<=a₀.size
theorem SI.size{a₀:Array Keyed}{lo:Nat}{st:SortSt}(h:SI a₀ lo st):(arrOf st).size=a₀.size:=h.perm.size_eq
theorem SI.keys{a₀:Array Keyed}{lo:Nat}{st:SortSt}(h:SI a₀ lo st)(h0:i4 a₀):i4 (arrOf st):=fun p hp=>h0 p ((NG.mp h.perm).mem_iff.mp hp)
theorem oH{a₀:Array Keyed}{lo i:Nat}{st:SortSt}{Q:Bool->SortSt->Prop}(h0:i4 a₀)(hS:SI a₀ lo st)(hi:i+1<(pendingOf st).size)(h:∀ st',SI a₀ lo st'->(pendingOf st').size+1=(pendingOf st).size->(arrOf st').toList.drop lo=(arrOf st).toList.drop lo->Q true st') :
  wpS (model prog w) A E s ((sortPriv% PySem.Builtin.mergeAt) i) Q st:=by
 have tl:(pendingOf st).toList.length=(pendingOf st).size:=by simp
 obtain⟨T,eT⟩:∃ T,(pendingOf st).toList=T:=⟨_,rfl⟩
 rw[eT]at tl
 have g1:(pendingOf st)[i]?=some T[i]:=by rw[← Lw,← eT];simp
 have g2:(pendingOf st)[i+1]?=some T[i+1]:=by rw[← Lw,← eT];simp
 have sp:T=T.take i++T[i]::T[i+1]::T.drop (i+2):=by
  rw[← MV,← MV,L3]
 obtain⟨T1,eT1⟩:∃ T1,T.take i=T1:=⟨_,rfl⟩
 obtain⟨T2,eT2⟩:∃ T2,T.drop (i+2)=T2:=⟨_,rfl⟩
 obtain⟨⟨sa,na,pa⟩,ep⟩:∃ p,T[i]=p:=⟨_,rfl⟩
 obtain⟨⟨sb,nb,pb⟩,eq⟩:∃ p,T[i+1]=p:=⟨_,rfl⟩
 have t1l:T1.length=i:=by rw[← eT1,LZ];omega
 rw[ep]at g1
 rw[eq]at g2
 rw[eT1,eT2,ep,eq]at sp
 have rn:=hS.rn
 rw[eT,sp]at rn
 obtain⟨m,r1,⟨x1,x2,x3,⟨y1,y2,y3,r2⟩⟩⟩:=Rn.app.mp rn
 dsimp only at x1 x2 x3 y1 y2 y3 r2
 have le2:=r2.le
 have le:=hS.le
 have sz:=hS.size
 have ll:(arrOf st).toList.length=(arrOf st).size:=by simp
 refine yM hS.kind hS.failed (hS.keys h0) g1 g2 (by omega) x2 y2 (by omega) x3 y3 fun st' M k' f' p' e' pm up=>?_
 have Ml:M.length=na+nb:=by
  rw[pm.length_eq,Ly,LZ,LZ,Mj,Mj]
  omega
 have hpp:(pendingOf st').toList=T1++(sa,na+nb,pa)::T2:=by
  rw[p']
  have:(((pendingOf st).setIfInBounds i (sa,na+nb,pa)).eraseIdxIfInBounds (i+1)).toList=(T.set i (sa,na+nb,pa)).eraseIdx (i+1):=by
   unfold Array.eraseIdxIfInBounds
   rw[dif_pos (by rw[Pn];exact hi),Array.toList_eraseIdx,Pa,eT]
  rw[this,sp,← t1l,OE _ _ (LG _),Md,List.set_cons_zero,List.eraseIdx_append_of_length_le (by omega),show T1.length+1-T1.length=1 by omega]
  rfl
 have ptl:(pendingOf st').size+1=(pendingOf st).size:=by
  have a:=congrArg Oi hpp
  have b:=congrArg Oi sp
  simp only[Ly,Mb,MG]at a b
  omega
 have es:sb=sa+na:=by omega
 have lt:((arrOf st).toList.take sa).length=sa:=by rw[LZ];omega
 have tke:(arrOf st).toList.take m=(arrOf st').toList.take m:=by
  rw[e',Ma,OX (by omega),Om,x1,Nat.min_self]
 have dre:(arrOf st).toList.drop (sb+nb)=(arrOf st').toList.drop (sb+nb):=by
  rw[e',List.drop_left' (by rw[Ly,lt,Ml];omega)]
 refine h st' ⟨?_,k',f',?_,le⟩ ptl (by
  have e:=congrArg (List.drop (lo-(sb+nb))) dre
  rw[Nv,Nv,show sb+nb+(lo-(sb+nb))=lo by omega]at e
  exact e.symm)
 ·refine Array.Perm.trans (NG.mpr ?_) hS.perm
  rw[e']
  have e2:(arrOf st).toList=(arrOf st).toList.take sa++(((arrOf st).toList.drop sa).take na++((arrOf st).toList.drop sb).take nb)++(arrOf st).toList.drop (sb+nb):=by
   have es:sb=sa+na:=by omega
   rw[← Ma,es,← Oc,← Oc,L3]
  exact((M4 _ pm).append_right _).trans (List.Perm.of_eq e2.symm)
 ·rw[hpp]
  refine Rn.app.mpr ⟨m,r1.lo tke (LG _),x1,by show 1<=na+nb;omega,?_,?_⟩
  ·show Upl (((arrOf st').toList.drop sa).take (na+nb))
   have:((arrOf st').toList.drop sa).take (na+nb)=M:=by
    rw[e',Ma,OY,lt,Md,NZ,OB (by omega),OG,OX (by omega),Ms (by omega)]
   rw[this]
   exact up
  ·show Rn _ T2 (m+(na+nb)) lo
   have:=r2.hi dre (by omega)
   rw[show m+(na+nb)=m+na+nb by omega]
   exact this
theorem JZ{xs:Array Keyed}{lo n:Nat}(h:Sin xs lo n)(hn:lo+n<=xs.size):Upl ((xs.toList.drop lo).take n):=by
 have ll:xs.toList.length=xs.size:=by simp
 refine NI.mpr fun i j hi hj hij=>?_
 rw[LZ,Mj]at hj
 rw[Ou,OT,Ou,OT]
 have z:=h (lo+i) (lo+j) (by omega) (by omega) (by omega)
 rw[K_eq (by omega),K_eq (by omega)]at z
 simpa[ky] using z
theorem SB.si{a₀:Array Keyed}{lo:Nat}{st0 st:SortSt}(h:SB lo st0 st)(hS:SI a₀ lo st0):SI a₀ lo st:=by
 refine⟨h.perm.trans hS.perm,h.kind,h.failed.trans hS.failed,?_,hS.le⟩
 rw[h.pend]
 refine hS.rn.lo (OU fun i=>?_) (LG _)
 rw[M5,M5]
 split
 ·rename_i hi
  have:=h.low i hi
  rw[← Nh,← Nh]at this
  exact this.symm
 ·rfl
theorem ite_lt(c:Bool){n:Nat}(h:¬ n<=1):(if c=true then n-2-1 else n-2)+1<n:=by split<;>omega
def vJ:StateT SortSt Sem Unit:=sortPriv% PySem.Builtin.sortRuns
theorem wpS_sortAll{a₀:Array Keyed}{st:SortSt}{Q:Unit->SortSt->Prop}(h0:i4 a₀)(hS:SI a₀ 0 st)(h:∀ st',(arrOf st').Perm a₀->failedOf st'=none->Upl (arrOf st').toList->Q () st'):wpS (model prog w) A E s vJ Q st:=by
 unfold vJ
 walk_at "sortRuns"
 refine wpS_bind (wpS_get ?_)
 rw[show((sortPriv% PySem.Builtin.SortState.a) st).size=a₀.size from hS.size]
 walk_at "st"
 walk_at "l3"
 generalize (sortPriv% PySem.Builtin.minRun) a₀.size a₀.size 0=mr
 refine wpS_bind (wpS_mono (wpS_forRange (I:=fun x c st'=>∃ lo,c=(none,lo)/\SI a₀ lo st'/\(lo=a₀.size∨x<=lo)) (Q:=fun c st'=>c=(none,a₀.size)/\SI a₀ a₀.size st') ?step ?fin ⟨0,rfl,hS,.inr (LG _)⟩) ?post)
 case fin =>
  rintro c st' ⟨lo,rfl,hS',g⟩
  have:=hS'.le
  have:lo=a₀.size:=by omega
  subst this
  exact⟨rfl,hS'⟩
 case step =>
  rintro x c st' _ hx ⟨lo,rfl,hS',g⟩
  have le:=hS'.le
  have sz:=hS'.size
  by_cases z:lo ≥ a₀.size
  ·refine aP z ?_
   have:lo=a₀.size:=by omega
   subst this
   exact wpS_pure ⟨rfl,hS'⟩
  refine aO z ?_
  refine yN fun R hR=>?_
  refine wpS_bind (CO hS'.kind (hS'.keys h0) (by omega) (by omega) fun m st1 hB1 m1 m2 hs1=>?_)
  walk_at "st"
  extract_lets -underBinder +onlyGivenNames nn jp
  subst nn
  clear_value (ej:jp=_)
  have hj:∀(n:Nat)(st2:SortSt),SB lo st' st2->1<=n->lo+n<=a₀.size->Sin (arrOf st2) lo n->wpS (model prog w) A E s (jp () n) R st2:=by
   intro n st2 hB2 n1 n2 hs2
   rw[ej]
   clear ej jp
   walk_at "st"
   have S2:=hB2.si hS'
   have u2:=JZ hs2 (by rw[S2.size];exact n2)
   refine wpS_bind (wpS_get ?_)
   walk_at "st"
   extract_lets -underBinder +onlyGivenNames jp
   clear_value (ej:jp=_)
   have hj:∀ st3:SortSt,SI a₀ lo st3->(arrOf st3).toList.drop lo=(arrOf st2).toList.drop lo->wpS (model prog w) A E s (jp ()) R st3:=by
    intro st3 S3 e3
    rw[ej]
    clear ej jp
    walk_at "st"
    refine wpS_bind (wpS_modify (wpS_pure (hR _ _ ⟨lo+n,rfl,⟨S3.perm,S3.kind,S3.failed,?_,n2⟩,?_⟩)))
    ·show Rn (arrOf st3).toList ((pendingOf st3).push (lo,n,0)).toList 0 (lo+n)
     rw[NF]
     refine Rn.app.mpr ⟨lo,S3.rn,rfl,n1,?_,rfl⟩
     show Upl (((arrOf st3).toList.drop lo).take n)
     rw[e3]
     exact u2
    ·rcases g with g | g
     ·exact absurd g (by omega)
     ·exact .inr (by omega)
   clear ej
   cases eb:((sortPriv% PySem.Builtin.SortState.pending) st2).back? with
   |none=>exact hj st2 S2 rfl
   |some p =>
    obtain⟨s1,n1',p1⟩:=p
    walk_at "st"
    extract_lets -underBinder +onlyGivenNames pw
    clear_value pw
    refine wpS_bind (wpS_mono (wpS_forRange (I:=fun _ c st3=>c=(none,())/\SI a₀ lo st3/\(arrOf st3).toList.drop lo=(arrOf st2).toList.drop lo) (Q:=fun c st3=>c=(none,())/\SI a₀ lo st3/\(arrOf st3).toList.drop lo=(arrOf st2).toList.drop lo) ?pstep (fun c st3 q=>q) ⟨rfl,S2,rfl⟩) ?ppost)
    case pstep =>
     rintro y c st3 _ hy ⟨rfl,S3,e3⟩
     refine wpS_bind (wpS_get ?_)
     walk_at "st"
     walk_at "l1"
     by_cases big:((sortPriv% PySem.Builtin.SortState.pending) st3).size > 1
     ·rw[if_pos big]
      obtain⟨⟨q1,q2,q3⟩,eq⟩:∃ p,((sortPriv% PySem.Builtin.SortState.pending) st3)[((sortPriv% PySem.Builtin.SortState.pending) st3).size-2]?=some p:=⟨_,getElem?_pos _ _ (by omega)⟩
      rw[eq]
      dsimp -zeta -zetaHave only
      split
      ·exact wpS_pure ⟨rfl,S3,e3⟩
      ·exact wpS_bind (oH h0 S3 (show(pendingOf st3).size-2+1<(pendingOf st3).size from by have:(pendingOf st3).size > 1:=big;omega) fun st4 S4 _ e4=>wpS_pure ⟨rfl,S4,e4.trans e3⟩)
     ·rw[if_neg big]
      exact wpS_pure ⟨rfl,S3,e3⟩
    case ppost =>
     rintro c st3 ⟨rfl,S3,e3⟩
     walk_at "st"
     walk_at "l1"
     refine wpS_bind (wpS_modify (hj _ ⟨S3.perm,S3.kind,S3.failed,?_,S3.le⟩ e3))
     refine Rn.like ?_ S3.rn
     show _=Od _ ((pendingOf st3).modify _ _).toList
     rw[Array.toList_modify]
     refine OU fun i=>?_
     rw[LL,LL,List.getElem?_modify]
     cases (pendingOf st3).toList[i]? with
     |none=>rfl
     |some p =>
      show some (p.1,p.2.1)=some ((if _=i then _ else p).1,(if _=i then _ else p).2.1)
      split<;>rfl
  clear ej
  by_cases c:m<mr
  ·refine aP c ?_
   refine wpS_bind (wpS_lift (wpAny_rule ⟨rfl,?_⟩))
   refine wpS_bind (Hv (hS'.keys h0) (by rw[sz];omega) (by omega) hB1 hs1 fun st2 hB2 hs2=>?_)
   exact hj _ st2 hB2 (by omega) (by omega) hs2
  ·refine aO c ?_
   exact hj m st1 hB1 m1 (by omega) hs1
 case post =>
  rintro c st' ⟨rfl,hS'⟩
  walk_at "st"
  walk_at "l1"
  have pl:(pendingOf st').size<=a₀.size:=by
   have:=hS'.rn.le
   rw[MG]at this
   omega
  refine wpS_bind (wpS_mono (wpS_forRange (I:=fun x c st3=>c=(none,())/\SI a₀ a₀.size st3/\((pendingOf st3).size<=1∨(pendingOf st3).size+x<=a₀.size)) (Q:=fun c st3=>c=(none,())/\SI a₀ a₀.size st3/\(pendingOf st3).size<=1) ?fstep ?ffin ⟨rfl,hS',.inr pl⟩) ?fpost)
  case ffin =>
   rintro c st3 ⟨rfl,S3,g⟩
   exact⟨rfl,S3,by omega⟩
  case fpost =>
   rintro c st3 ⟨rfl,S3,g⟩
   refine wpS_pure (h st3 S3.perm S3.failed ?_)
   have rn:=S3.rn
   have sz:=S3.size
   have ll:(arrOf st3).toList.length=(arrOf st3).size:=by simp
   have tl:(pendingOf st3).toList.length=(pendingOf st3).size:=by simp
   match e:(pendingOf st3).toList with
   |[] =>
    rw[e]at rn
    have rn':0=a₀.size:=rn
    rw[List.eq_nil_of_length_eq_zero (show(arrOf st3).toList.length=0 by omega)]
    exact OV
   |[p] =>
    rw[e]at rn
    obtain⟨r1,_,r3,r4⟩:=rn
    have r4':0+p.2.1=a₀.size:=r4
    rw[r1,NZ,Ms (by omega)]at r3
    exact r3
   |p::q::t =>
    rw[e]at tl
    simp only[Mb]at tl
    omega
  case fstep =>
   rintro x c st3 _ hx ⟨rfl,S3,g⟩
   refine wpS_bind (wpS_get ?_)
   by_cases z:((sortPriv% PySem.Builtin.SortState.pending) st3).size<=1
   ·refine aP z ?_
    exact wpS_pure ⟨rfl,S3,z⟩
   refine aO z ?_
   refine wpS_bind (oH h0 S3 (ite_lt _ z) fun st4 S4 p4 _=>wpS_pure ⟨rfl,S4,?_⟩)
   have z':¬ (pendingOf st3).size<=1:=z
   omega
end PyProof.RowsP
namespace L2
open PySem PySem.Spec PyProof.Rows
section
open PySem.W
variable{prog:Program}{w:World}{A:Around}{E:Value->Shared->Prop}{s:Shared}
def HdV(h:Heap)(v:Value):Prop:=∃(a:Addr)(o:Obj)(n:Nat)(its:Array Value)(x:Int)(xs:List Int),v=.ref a/\h.get? a=some o/\o.cls=.type "list"/\o.data=.seq its n/\IntsAre its.toList (x::xs)
theorem HdV.keep{h h':Heap}{v:Value}(p:HdV h v)(k:∀ b o,v=.ref b->h.get? b=some o->h'.get? b=some o):HdV h' v:=by
 obtain⟨a,o,n,its,x,xs,rfl,h1,r⟩:=p
 exact⟨a,o,n,its,x,xs,rfl,k _ _ rfl h1,r⟩
def hdOf(h:Heap):Value->Int
 |.ref a=>match h.get? a with
  |some o=>match o.data with
   |.seq xs _=>match(xs[0]? : Option Value) with
    |some (.int x _)=>x
    |_=>0
   |_=>0
  |none=>0
 |_=>0
theorem mh{its:Array Value}{x:Int}{xs:List Int}(h:IntsAre its.toList (x::xs)):∃ t,its[0]?=some (.int x t):=by
 rw[← Nh]
 generalize its.toList=l at h
 cases h with
 |cons n t r=>exact⟨t,rfl⟩
theorem j3{h:Heap}{a:Addr}{o:Obj}{n:Nat}{its:Array Value}{x:Int}{xs:List Int}(h1:h.get? a=some o)(h3:o.data=.seq its n)(h4:IntsAre its.toList (x::xs)):hdOf h (.ref a)=x:=by
 obtain⟨t,e⟩:=mh h4
 unfold hdOf
 simp only[h1,h3,e]
theorem Gi{M:Model}{h:Heap}{v:Value}(p:HdV h v):Looks M h (typeOf v) (.type "list"):=by
 obtain⟨a,o,n,its,x,xs,rfl,h1,h2,_⟩:=p
 exact kitAt_ty M h ⟨o,h1,h2⟩
theorem Iq(l b:Addr)(items items2:Array Value)(n n2:Nat)(dd dd2:Option Addr)(sl sl2:Array (Option Value))(x y:Int)(tx ty:Tok)(hx:items[0]?=some (.int x tx))(hy:items2[0]?=some (.int y ty))(ne:x≠y) :
  Meets (Builtin.«list.__eq__.loop» ⟨[.ref l,.ref b,rawInt 0,rawInt 0],[]⟩)
   (fun A R s=>s.heap.get? l=some { cls:=.type "list",dict:=dd,data:=.seq items n,slots:=sl }/\s.heap.get? b=some { cls:=.type "list",dict:=dd2,data:=.seq items2 n2,slots:=sl2 }/\R (.ok (.ret (.bool (decide (x<y))))) s):=by
 intro prog w A R s h
 obtain⟨hp,g,d,tk,os⟩:=s;obtain⟨hl,hb,h⟩:=h
 have hi1:items[((0:Int)).toNat]?=some (.int x tx):=hx
 have hi2:items2[((0:Int)).toNat]?=some (.int y ty):=hy
 have hf:(x == y)=false:=by simpa using ne
 wp_walk using AutoSeq1.wpAny_loadPart' hl,AutoSeq1.wpAny_loadPart' hb
 rw[hi1,hi2]
 refine wpAny_bind (wpAny_eqBool_int ?_)
 rw[hf]
 wp_walk using AutoSeq1.wpAny_loadPart' hl,AutoSeq1.wpAny_loadPart' hb
 rw[hi1,hi2]
 show wpAny _ _ (compareOp .Lt (.int x tx) (.int y ty) >>= fun r=>ret r) _ _ _
 exact wpAny_bind (PyProof.Rows.lt_int (wpAny_pure h))
theorem Ip(l:Addr)(items:Array Value)(n:Nat)(dd:Option Addr)(sl:Array (Option Value))(ns:List Int)(hi:IntsAre items.toList ns)(k:Nat) :
  ∀ i:Nat,items.size-i=k->Meets (Builtin.«list.__eq__.loop» ⟨[.ref l,.ref l,rawInt i,rawInt 0],[]⟩)
   (fun A R s=>s.heap.get? l=some { cls:=.type "list",dict:=dd,data:=.seq items n,slots:=sl }/\R (.ok (.ret (.bool false))) s):=by
 have at':∀ i (h:i<items.size),∃ x t,items[i]=.int x t:=fun i h=>by
  have hl:=hi.length
  rw[MG]at hl
  have e:items.toList[i]?=some items[i]:=by rw[Nh,Pf h]
  generalize items[i]=v at e
  generalize items.toList=vs at hi e
  clear hl h
  induction hi generalizing i with
  |nil=>simp at e
  |cons m t r ih =>
   cases i with
   |zero=>exact⟨m,t,(L6 e).symm⟩
   |succ i=>exact ih i e
 induction k with
 |zero =>
  intro i hk prog w A R s h
  obtain⟨hp,g,d,tk,os⟩:=s;obtain⟨hl,h⟩:=h
  wp_walk using AutoSeq1.wpAny_loadPart' hl
  have hi1:items[((i:Nat):Int).toNat]?=none:=by simp;omega
  rw[hi1]
  wp_walk using AutoSeq1.wpAny_loadPart' hl
  show R (.ok (.ret (.bool (decide (items.size<items.size))))) _
  rw[decide_eq_false (MM _)]
  exact h
 |succ k ih =>
  intro i hk prog w A R s h
  obtain⟨hp,g,d,tk,os⟩:=s;obtain⟨hl,h⟩:=h
  have hlt:i<items.size:=by omega
  obtain⟨x,t,ex⟩:=at' i hlt
  have hi1:items[((i:Nat):Int).toNat]?=some (.int x t):=by rw[L7,Pf hlt,ex]
  have hc:((i:Int)+1)=((i+1:Nat):Int):=by push_cast;rfl
  wp_walk using AutoSeq1.wpAny_loadPart' hl
  rw[hi1]
  refine wpAny_bind (wpAny_eqBool_int ?_)
  rw[beq_self_eq_true]
  wp_walk
  rw[hc]
  exact⟨plainId_quiet MeetsSeq3.plain_eq_loop _,codeAny_builtin MeetsSeq3.entry_eq_loop (by
   rw[Around.under_plainId MeetsSeq3.plain_eq_loop _]
   exact ih (i+1) (by omega) prog w A R _ ⟨hl,h⟩)⟩
theorem Iu(l b:Addr)(items items2:Array Value)(n n2:Nat)(dd dd2:Option Addr)(sl sl2:Array (Option Value))(x y:Int)(tx ty:Tok)(hx:items[0]?=some (.int x tx))(hy:items2[0]?=some (.int y ty))(ne:x≠y) :
  Meets (Builtin.«list.__lt__» ⟨[.ref l,.ref b],[]⟩)
   (fun A R s=>s.heap.get? l=some { cls:=.type "list",dict:=dd,data:=.seq items n,slots:=sl }/\s.heap.get? b=some { cls:=.type "list",dict:=dd2,data:=.seq items2 n2,slots:=sl2 }/\R (.ok (.ret (.bool (decide (x<y))))) s):=by
 intro prog w A R s h
 obtain⟨hp,g,d,tk,os⟩:=s;obtain⟨hl,hb,h⟩:=h
 have f3:=AutoSeq1.sub_list_list
 wp_walk using AutoSeq1.wpAny_loadPart' hl,AutoSeq1.wpAny_loadPart' hb
 exact⟨plainId_quiet MeetsSeq3.plain_eq_loop _,codeAny_builtin MeetsSeq3.entry_eq_loop (by
  rw[Around.under_plainId MeetsSeq3.plain_eq_loop _]
  exact Iq l b items items2 n n2 dd dd2 sl sl2 x y tx ty hx hy ne prog w A R _ ⟨hl,hb,h⟩)⟩
theorem Ir(l:Addr)(items:Array Value)(n:Nat)(dd:Option Addr)(sl:Array (Option Value))(ns:List Int)(hi:IntsAre items.toList ns) :
  Meets (Builtin.«list.__lt__» ⟨[.ref l,.ref l],[]⟩)
   (fun A R s=>s.heap.get? l=some { cls:=.type "list",dict:=dd,data:=.seq items n,slots:=sl }/\R (.ok (.ret (.bool false))) s):=by
 intro prog w A R s h
 obtain⟨hp,g,d,tk,os⟩:=s;obtain⟨hl,h⟩:=h
 have f3:=AutoSeq1.sub_list_list
 wp_walk using AutoSeq1.wpAny_loadPart' hl
 exact⟨plainId_quiet MeetsSeq3.plain_eq_loop _,codeAny_builtin MeetsSeq3.entry_eq_loop (by
  rw[Around.under_plainId MeetsSeq3.plain_eq_loop _]
  exact Ip l items n dd sl ns hi _ 0 rfl prog w A R _ ⟨hl,h⟩)⟩
theorem hdv_lt{u v:Value}{Q:Bool->Shared->Prop}(hA:A.units<cLine)(hu:HdV s.heap u)(hv:HdV s.heap v)(hd:hdOf s.heap u=hdOf s.heap v->u=v)(h:Q (decide (hdOf s.heap u<hdOf s.heap v)) s):wpAny (model prog w) A (keyLt' oneType' u v) Q E s:=by
 obtain⟨a,⟨c1,dd,da,sl⟩,n,its,x,xs,rfl,h1,h2,h3,h4⟩:=hu
 obtain⟨b,⟨c2,dd2,da2,sl2⟩,n2,its2,y,ys,rfl,k1,k2,k3,k4⟩:=hv
 rw[j3 h1 h3 h4,j3 k1 k3 k4]at h hd
 simp only at h2 h3 k2 k3
 subst h2 h3 k2 k3
 rw[keyLt'_oneType,oneLt'_eq]
 simp only[if_true]
 refine wpAny_bind (wpAny_cRoomFor hA ?_)
 have tl:s.TypeIs (.ref a) "list":=⟨_,h1,rfl⟩
 obtain⟨tx,ex⟩:=mh h4
 obtain⟨ty,ey⟩:=mh k4
 by_cases e:x=y
 ·have:=hd e
  cases this
  rw[h1]at k1
  cases k1
  rw[e,decide_eq_false (Int.lt_irrefl _)]at h
  exact wpAny_bind (wpAny_callSpecialIfBound?_slot tl Oa (call_meets Oa tl PySem.F.entry_list_lt (PySem.F.args_list_lt_2 _ _) (Ir a its n dd sl _ h4) ⟨h1,wpAny_truthy_bool h⟩))
 ·exact wpAny_bind (wpAny_callSpecialIfBound?_slot tl Oa (call_meets Oa tl PySem.F.entry_list_lt (PySem.F.args_list_lt_2 _ _) (Iu a b its its2 n n2 dd dd2 sl sl2 x y tx ty ex ey e) ⟨h1,k1,wpAny_truthy_bool h⟩))
theorem DH{vs:List Value}{h6:Heap}(hA:A.units<cLine)(hs:s.heap=h6)(hp:∀ v∈vs,HdV h6 v)(hd:∀ u∈vs,∀ v∈vs,hdOf h6 u=hdOf h6 v->u=v):@PyProof.RowsP.LtOk prog w A E s ⟨hdOf h6,fun v=>v∈vs,oneType'⟩:=by
 subst hs
 refine @PyProof.RowsP.LtOk.mk prog w A E s ⟨hdOf s.heap,fun v=>v∈vs,oneType'⟩ ?_
 intro st x y Q hk hx hy h
 have hx':x.1∈vs:=hx
 have hy':y.1∈vs:=hy
 show wpS (model prog w) A E s (lt' x y) Q st
 rw[lt'_eq]
 refine wpS_bind (wpS_get ?_)
 have hk':kindOf st=oneType':=hk
 rw[hk']
 refine wpS_bind (wpS_lift (wpAny_attempt (hdv_lt hA (hp _ hx') (hp _ hy') (hd _ hx' _ hy') ⟨rfl,?_⟩)))
 exact wpS_pure h
theorem CQ{a:Addr}{vs:List Value}{n:Nat}{P:PySem.Fin->Shared->Prop} (ho:s.heap.get? a=some (seqObj "list" vs.toArray n)) (hp:∀ v∈vs,HdV s.heap v) (hd:∀ u∈vs,∀ v∈vs,hdOf s.heap u=hdOf s.heap v->u=v) (hna:∀ v∈vs,v≠.ref a) (hu:A.units<cLine) (line:vs.length<=sizeLine)
  (h:∀ out:List Value,out.Perm vs->out.Pairwise (fun u v=>hdOf s.heap u<=hdOf s.heap v)->P (.done (.ret .none)) { s with heap:=sortedHeap s.heap a vs out.toArray }):wpAny (model prog w) A (Builtin.«list.sort» ⟨[.ref a],[]⟩) P E s:=by
 have ha:a<s.heap.objs.size:=Heap.lt_size ho
 obtain⟨e1,ho1⟩:∃ e1,(s.heap.update a (Obj.mapSeq fun _=>(#[]:Array Value))).get? a=some (seqObj "list" #[] e1):=⟨_,get?_update_seq ho fun _=>#[]⟩
 have ho6:(((s.heap.update a (Obj.mapSeq fun _=>(#[]:Array Value))).push (seqObj "tuple" vs.toArray 0)).push (seqObj "list" #[] 0)).get? a=some (seqObj "list" #[] e1):=Heap.get?_push_of_some _ (Heap.get?_push_of_some _ ho1)
 have keep6:∀ v∈vs,∀ b o,v=.ref b->s.heap.get? b=some o->(((s.heap.update a (Obj.mapSeq fun _=>(#[]:Array Value))).push (seqObj "tuple" vs.toArray 0)).push (seqObj "list" #[] 0)).get? b=some o:=fun v hv b o eb e=>by
  have pv:=hp v hv
  refine Heap.get?_push_of_some _ (Heap.get?_push_of_some _ ?_)
  have nb:b≠a:=fun z=>hna v hv (by rw[eb,z])
  rw[Heap.get?_update_ne _ _ _ _ nb]
  exact e
 have hp6:∀ v∈vs,HdV (((s.heap.update a (Obj.mapSeq fun _=>(#[]:Array Value))).push (seqObj "tuple" vs.toArray 0)).push (seqObj "list" #[] 0)) v:=fun v hv=>(hp v hv).keep fun b o eb e=>keep6 v hv b o eb e
 have hf6:∀ v∈vs,hdOf (((s.heap.update a (Obj.mapSeq fun _=>(#[]:Array Value))).push (seqObj "tuple" vs.toArray 0)).push (seqObj "list" #[] 0)) v=hdOf s.heap v:=fun v hv=>by
  obtain⟨b,o,m,its,x,xs,rfl,k1,k2,k3,k4⟩:=hp v hv
  rw[j3 k1 k3 k4,j3 (keep6 _ hv b o rfl k1) k3 k4]
 rw[list_sort_plain]
 refine wpAny_bind (listItems_at ho rfl (wpAny_bind (listUpdate_at ho rfl (wpAny_bind (seqEpoch_at ho1 rfl (wpAny_bind (wpAny_newTuple (wpAny_bind (wpAny_newList (wpAny_holding ?_) (MQ _))) line)))) (by rw[LV];exact line) (MQ _))))
 show wpAny (model prog w) A _ P E { s with heap:=((s.heap.update a (Obj.mapSeq fun _=>(#[]:Array Value))).push (seqObj "tuple" vs.toArray 0)).push (seqObj "list" #[] 0) }
 have fin:∀ out:List Value,sortedHeap s.heap a vs out.toArray=(((s.heap.update a (Obj.mapSeq fun _=>(#[]:Array Value))).push (seqObj "tuple" vs.toArray 0)).push (seqObj "list" #[] 0)).update a (Obj.mapSeq fun _=>out.toArray):=fun _=>rfl
 generalize ((s.heap.update a (Obj.mapSeq fun _=>(#[]:Array Value))).push (seqObj "tuple" vs.toArray 0)).push (seqObj "list" #[] 0)=h6 at ho6 hp6 fin hf6
 dsimp only
 by_cases h2:vs.toArray.size<2
 ·rw[if_pos h2,if_pos h2]
  refine wpAny_bind (wpAny_pure ?_)
  rw[StateT.run_pure]
  refine wpAny_bind (wpAny_pure (wpAny_bind (seqEpoch_at ho6 rfl ?_)))
  dsimp only
  have eo:(arrOf (SortSt.mk' general' (vs.toArray.zip vs.toArray) #[] 7 none)).map (·.2)=vs.toArray:=by
   show(vs.toArray.zip vs.toArray).map (·.2)=vs.toArray
   apply Array.ext
   ·simp
   ·intro i h1 h2
    simp
  rw[eo]
  refine wpAny_bind (listUpdate_at ho6 rfl ?_ (MQ _) (by rw[LV];exact NB line))
  simp only[bne_self_eq_false,MR,if_false]
  refine wpAny_pure ?_
  have one:vs.Pairwise (fun u v=>hdOf s.heap u<=hdOf s.heap v):=by
   rw[LV]at h2
   match vs,h2 with
   |[],_=>exact .nil
   |[_],_=>exact NP _ _
  have:=h vs (Pd _) one
  rw[fin]at this
  exact this
 ·rw[if_neg h2,if_neg h2]
  rw[LV]at h2
  refine wpAny_bind (kas_kind (T:=.type "list") (by omega) (fun v hv=>Gi (hp6 v hv)) (by decide) (by decide) ?_)
  letI KF:PyProof.RowsP.KeyFn:=⟨hdOf h6,fun v=>v∈vs,oneType'⟩
  haveI LO:PyProof.RowsP.LtOk prog w A E { s with heap:=h6 }:=DH hu rfl hp6 fun u hu v hv e=>hd u hu v hv (by rw[← hf6 u hu,← hf6 v hv];exact e)
  have run:=PyProof.RowsP.wpS_sortAll (prog:=prog) (w:=w) (A:=A) (E:=E) (s:={ s with heap:=h6 }) (a₀:=pairsOf vs) (st:=SortSt.mk' (oneType') (vs.toArray.zip vs.toArray) #[] 7 none)
   (Q:=fun _ st'=>(arrOf st').Perm (pairsOf vs)/\failedOf st'=none/\PyProof.RowsP.Upl (arrOf st').toList) (fun p hp'=>?_) ⟨Array.Perm.refl _,rfl,rfl,rfl,MQ _⟩ fun st' q1 q2 q3=>⟨q1,q2,q3⟩
  ·refine wpAny_bind (wpAny_mono run ?_ fun _ _ e=>e)
   rintro⟨⟨⟩,st'⟩ s' ⟨rfl,hpm,hf,hu⟩
   dsimp only
   have hl:(arrOf st').toList.Perm (vs.zip vs):=by rw[← pairsOf_toList];exact NG.mp hpm
   have hmem:∀ p,p∈(arrOf st').toList->p.1=p.2/\p.1∈vs:=fun p hp'=>mem_zip_self (hl.mem_iff.mp hp')
   have eo:((arrOf st').map (·.2)).toList=(arrOf st').toList.map (·.2):=Array.toList_map ..
   have eo2:(arrOf st').map (·.2)=((arrOf st').toList.map (·.2)).toArray:=by rw[← eo]
   have pm:((arrOf st').toList.map (·.2)).Perm vs:=by
    have z:=hl.map (·.2)
    rw[show(vs.zip vs).map (·.2)=vs from List.map_snd_zip (LG _)]at z
    exact z
   rw[eo2]
   refine wpAny_bind (seqEpoch_at ho6 rfl (wpAny_bind (listUpdate_at ho6 rfl ?_ (MQ _) (by rw[LV,pm.length_eq];exact NB line))))
   rw[hf]
   simp only[bne_self_eq_false,MR,if_false]
   refine wpAny_pure ?_
   have up:((arrOf st').toList.map (·.2)).Pairwise (fun u v=>hdOf s.heap u<=hdOf s.heap v):=by
    refine NC.mpr (Ov (fun{x y} hx hy hxy=>?_) hu)
    have hxy':hdOf h6 x.1<=hdOf h6 y.1:=hxy
    obtain⟨ex,mx⟩:=hmem x hx
    obtain⟨ey,my⟩:=hmem y hy
    rw[← ex,← ey,← hf6 _ mx,← hf6 _ my]
    exact hxy'
   have:=h _ pm up
   rw[fin]at this
   exact this
  ·show p.1∈vs
   have hp2:p∈vs.zip vs:=by rw[← pairsOf_toList];exact hp'
   exact(mem_zip_self hp2).2
theorem vI{l:Addr}{vs:List Value}{Q:Value->Shared->Prop}(hl:s.heap.IsList l vs.toArray)(hp:∀ v∈vs,HdV s.heap v)(hd:∀ u∈vs,∀ v∈vs,hdOf s.heap u=hdOf s.heap v->u=v)(hu:A.units+64<cLine)(h64:vs.length<64)
  (h:∀ out:List Value,out.Perm vs->out.Pairwise (fun u v=>hdOf s.heap u<=hdOf s.heap v)->Q (.ref (s.heap.objs.size+1)) { s with heap:=sortedAll s.heap vs out.toArray }):wpAny (model prog w) A (call (.builtin "sorted") [.ref l]) Q E s:=by
 refine Calls.call_function_entry kind_sorted plain_sorted entry_sorted (args_sorted1 _) ?_
 unfold Builtin.«sorted»
 refine wpAny_bind (m:=checkCount "sorted" 1 1 _) (wpAny_pure ?_)
 refine wpAny_bind (collect_list hl ?_ (by rw[sizeLine_eq];omega))
 refine wpAny_bind (wpAny_newList ?_ (by rw[sizeLine_eq];omega))
 have hsz:((s.heap.push (seqObj "list" #[] 0)).update s.heap.objs.size (Obj.mapSeq (·++vs.toArray))).objs.size=s.heap.objs.size+1:=by rw[Heap.size_update,size_push']
 have hoL:(((s.heap.push (seqObj "list" #[] 0)).update s.heap.objs.size (Obj.mapSeq (·++vs.toArray))).push (seqObj "list" vs.toArray 0)).get? (s.heap.objs.size+1)=some (seqObj "list" vs.toArray 0):=by rw[← hsz];exact Heap.get?_push_size _ rfl
 show wpAny _ _ _ _ _ { s with heap:=((s.heap.push (seqObj "list" #[] 0)).update s.heap.objs.size (Obj.mapSeq (·++vs.toArray))).push (seqObj "list" vs.toArray 0) }
 rw[hsz]
 have kp:∀(b:Addr)(o:Obj),s.heap.get? b=some o->(((s.heap.push (seqObj "list" #[] 0)).update s.heap.objs.size (Obj.mapSeq (·++vs.toArray))).push (seqObj "list" vs.toArray 0)).get? b=some o:=fun b o q=>by
  have hlt:b<s.heap.objs.size:=Heap.lt_size q
  rw[Heap.get?_push_ne _ _ _ (by rw[hsz];exact Mt (NY hlt)),Heap.get?_update_ne _ _ _ _ (Mt hlt),Heap.get?_push_ne _ _ _ (Mt hlt)]
  exact q
 have kf:∀ v∈vs,hdOf (((s.heap.push (seqObj "list" #[] 0)).update s.heap.objs.size (Obj.mapSeq (·++vs.toArray))).push (seqObj "list" vs.toArray 0)) v=hdOf s.heap v:=fun v hv=>by
  obtain⟨b,o,m,its,x,xs,rfl,k1,k2,k3,k4⟩:=hp v hv
  rw[j3 k1 k3 k4,j3 (kp b o k1) k3 k4]
 refine wpAny_bind (wpAny_holding (wpAny_call_entry slot_list_sort ⟨_,hoL,rfl⟩ entry_list_sort (CQ hoL (fun v hv=>(hp v hv).keep fun b o _ q=>kp b o q) (fun u hu v hv e=>hd u hu v hv (by rw[← kf u hu,← kf v hv];exact e)) (fun v hv z=>?_) (by show A.units+1+1<cLine;omega) (by rw[sizeLine_eq];omega) fun out a1 a2=>⟨_,rfl,?_⟩) (args_list_sort _)))
 ·obtain⟨b,o,m,its,x,xs,rfl,k1,_⟩:=hp v hv
  cases z
  exact absurd (Heap.lt_size k1) (Nat.not_lt_of_le (Ni _))
 ·exact wpAny_pure ⟨_,rfl,h out a1 (Ov (fun{u v} hu hv q=>by rw[← kf u (a1.mem_iff.mp hu),← kf v (a1.mem_iff.mp hv)];exact q) a2)⟩
end
section
variable{X:Cx}
def intOf:Value->Int
 |.int x _=>x
 |_=>0
def rdOf(h:Heap):Value->List Int
 |.ref a=>match h.get? a with
  |some o=>match o.data with
   |.seq xs _=>xs.toList.map intOf
   |_=>[]
  |none=>[]
 |_=>[]
theorem xA:∀{vs:List Value}{ns:List Int},IntsAre vs ns->vs.map intOf=ns
 |_,_,.nil=>rfl
 |_,_,.cons n t r=>by rw[Mc,xA r];rfl
theorem E5{h:Heap}{a:Addr}{o:Obj}{n:Nat}{its:Array Value}{ns:List Int}(h1:h.get? a=some o)(h3:o.data=.seq its n)(h4:IntsAre its.toList ns):rdOf h (.ref a)=ns:=by
 unfold rdOf
 simp only[h1,h3]
 exact xA h4
def LAt(H:Hp)(ys:List V)(rows:List (List Int)):Prop:=ys.length=rows.length/\∀(i:Nat)(r:List Int),rows[i]?=some r->∃ q,ys[i]?=some (.ref q)/\H q=some (.lst (r.map V.int))
def rSortL(K:LA):List V->Hp->VK->Prop:=fun xs H Q=>∃(p:Addr)(ys:List V)(rows:List (List Int)),xs = [.ref p]/\SqL K H p ys/\LAt H ys rows/\(∀ r∈rows,r≠[])/\(rows.map fun r=>r.headD 0).Nodup/\ys.length<64 /\
 ∀(l:Addr)(out:List V)(rows':List (List Int)),H l=none->rows'.Perm rows->rows'.Pairwise (fun a b=>a.headD 0<=b.headD 0)->LAt H out rows'->Q (.ref l) (upd H l (.lst out))
theorem D9(hu:X.A.units+64<cLine):i7 X (.builtin "sorted") (rSortL X.K):=by
 intro pins s σ H xs us Q I r h
 obtain⟨p,ys,rows,rfl,hq,hL,ne,nd,h64,q⟩:=h
 obtain⟨u,rfl,ru⟩:=lE r
 cases ru
 obtain⟨its,rv,pl,hz⟩:=I.list hq
 have hl:=rv.length
 have at':∀(i:Nat)(v:Value),its[i]?=some v->∃(a:Addr)(o:Obj)(n:Nat)(xs:Array Value)(r:List Int),v=.ref a/\rows[i]?=some r/\ys[i]?=some (.ref a)/\H a=some (.lst (r.map V.int))/\s.heap.get? a=some o/\o.cls=.type "list"/\o.data=.seq xs n/\IntsAre xs.toList r:=fun i v hv=>by
  have hi:i<its.length:=(Lx.mp hv).1
  obtain⟨rw0,hr⟩:∃ r,rows[i]?=some r:=⟨_,Lw (by have:=hL.1;omega)⟩
  obtain⟨a,ya,ha⟩:=hL.2 i rw0 hr
  obtain⟨v',hv',rel⟩:=rv.get ya
  rw[hv]at hv'
  cases hv'
  cases (show v=Value.ref a from rel)
  obtain⟨_,vs,e,rvs,ho⟩:=(show bT X.prog X.w H s.heap a (.lst (rw0.map V.int)) from I.hok a _ ha)
  exact⟨a,_,e,vs.toArray,rw0,rfl,hr,ya,ha,ho,rfl,rfl,by simpa using ug rvs⟩
 have mem':∀ v∈its,∃ i,its[i]?=some v:=fun v hv=>List.getElem?_of_mem hv
 have hdv:∀ v∈its,HdV s.heap v:=fun v hv=>by
  obtain⟨i,hi⟩:=mem' v hv
  obtain⟨a,o,n,xs,r,rfl,hr,_,_,h1,h2,h3,h4⟩:=at' i v hi
  cases r with
  |nil=>exact absurd rfl (ne _ (Lz hr))
  |cons x r=>exact⟨a,o,n,xs,x,r,rfl,h1,h2,h3,h4⟩
 have hdr:∀(i:Nat)(v:Value)(r:List Int),its[i]?=some v->rows[i]?=some r->hdOf s.heap v=r.headD 0/\rdOf s.heap v=r:=fun i v r hv hr=>by
  obtain⟨a,o,n,xs,r',rfl,hr',_,_,h1,h2,h3,h4⟩:=at' i v hv
  rw[hr]at hr'
  cases hr'
  refine⟨?_,E5 h1 h3 h4⟩
  cases r with
  |nil=>exact absurd rfl (ne _ (Lz hr))
  |cons x r=>exact j3 h1 h3 h4
 have inj:∀ u∈its,∀ v∈its,hdOf s.heap u=hdOf s.heap v->u=v:=fun u hu v hv e=>by
  obtain⟨i,hi⟩:=mem' u hu
  obtain⟨j,hj⟩:=mem' v hv
  obtain⟨_,_,_,_,r1,_,h1,_⟩:=at' i u hi
  obtain⟨_,_,_,_,r2,_,h2,_⟩:=at' j v hj
  rw[(hdr i u r1 hi h1).1,(hdr j v r2 hj h2).1]at e
  have e1:(rows.map fun r=>r.headD 0)[i]?=some (r1.headD 0):=by rw[LL,h1];rfl
  have e2:(rows.map fun r=>r.headD 0)[j]?=some (r2.headD 0):=by rw[LL,h2];rfl
  have ij:i=j:=(List.getElem?_inj (Lx.mp e1).1 nd).mp (by rw[e1,e2,e])
  subst ij
  rw[hi]at hj
  exact L6 hj
 refine vI pl.isList hdv inj hu (by omega) fun out pm up=>?_
 have erows:its.map (rdOf s.heap)=rows:=by
  refine OU fun i=>?_
  rw[LL]
  by_cases hi:i<its.length
  ·obtain⟨r,hr⟩:∃ r,rows[i]?=some r:=⟨_,Lw (by have:=hL.1;omega)⟩
   rw[hr,Lw hi]
   show some _=_
   rw[(hdr i _ r (Lw hi) hr).2]
  ·rw[OH (by omega),OH (by have:=hL.1;omega)]
   rfl
 obtain⟨zs,r3,l3,m3⟩:=vD rv (out:=out) fun v hv=>pm.mem_iff.mp hv
 obtain⟨e,he⟩:=sortedAll_at s.heap its out.toArray
 have LO:LAt H zs (out.map (rdOf s.heap)):=⟨by rw[l3,LB],fun i r hr=>by
  rw[LL]at hr
  obtain⟨v,hv,rfl⟩:=Mr.mp hr
  obtain⟨j,hj⟩:=mem' v (pm.mem_iff.mp (Lz hv))
  obtain⟨a,o,n,xs,r',rfl,hr',_,ha,h1,h2,h3,h4⟩:=at' j v hj
  obtain⟨y,hy⟩:∃ y,zs[i]?=some y:=⟨_,Lw (by rw[l3];exact(Lx.mp hv).1)⟩
  obtain⟨v',hv',rel⟩:=r3.get hy
  rw[hv]at hv'
  cases hv'
  refine⟨a,?_,by rw[E5 h1 h3 h4];exact ha⟩
  rw[hy]
  cases y with
  |ref b=>cases (show Value.ref a=Value.ref b from rel);rfl
  |int _=>obtain⟨_,z⟩:=rel;cases z
  |str _=>obtain⟨_,z⟩:=rel;cases z
  |byt _=>obtain⟨_,z⟩:=rel;cases z
  |flt _=>obtain⟨_,z⟩:=rel;cases z
  |non=>cases rel
  |bl _=>cases rel
  |ty _=>cases rel⟩
 have pr:(out.map (rdOf s.heap)).Perm rows:=by
  have:=pm.map (rdOf s.heap)
  rwa[erows]at this
 have pw:(out.map (rdOf s.heap)).Pairwise (fun a b=>a.headD 0<=b.headD 0):=by
  refine NC.mpr (Ov (fun{u v} hu hv z=>?_) up)
  obtain⟨i,hi⟩:=mem' u (pm.mem_iff.mp hu)
  obtain⟨j,hj⟩:=mem' v (pm.mem_iff.mp hv)
  obtain⟨_,_,_,_,r1,_,h1,_⟩:=at' i u hi
  obtain⟨_,_,_,_,r2,_,h2,_⟩:=at' j v hj
  obtain⟨a1,a2⟩:=hdr i u r1 hi h1
  obtain⟨b1,b2⟩:=hdr j v r2 hj h2
  rw[a2,b2,← a1,← b1]
  exact z
 refine⟨.ref (s.heap.objs.size+1),_,I.laid (t':=s.toks) (fun _ _=>sortedAll_old) (Ni _) (show bT X.prog X.w _ _ _ (.lst zs) from⟨?_,out,e,r3,he⟩),rfl,q _ zs _ (I.hok.fresh (Ni _)) pr pw LO⟩
 have:=pm.length_eq
 exact MJ (aB (by omega))
end
end L2
namespace L2
open PySem PySem.Spec PyProof.Rows
section
variable{X:Cx}
theorem GZ:i7 X (.type "str") (fun xs H Q=>(∃ i:Int,xs = [.int i]/\i.natAbs.log2<1920/\Q (.str (toString i)) H)∨∃ z:Str,xs = [.str z]/\Q (.str z) H):=by
 intro pins s σ H xs us Q I r h
 rcases h with⟨i,rfl,hl,q⟩ | ⟨z,rfl,q⟩
 ·obtain⟨u,rfl,ru⟩:=lE r
  obtain⟨t,rfl⟩:=ru
  exact P.str_of_int hl ⟨.str _,H,I.tok _,⟨_,rfl⟩,q⟩
 ·obtain⟨u,rfl,ru⟩:=lE r
  obtain⟨t,rfl⟩:=ru
  exact P.str_of_str ⟨.str _,H,I,⟨_,rfl⟩,q⟩
theorem EE:∀{ws:List Str}{us:List Value},Vals (ws.map V.str) us->∃ l:List (Str×Tok),us=strValues l/\l.map (·.1)=ws
 |[],_,.nil=>⟨[],rfl,rfl⟩
 |w::ws,_,.cons r rr=>by
  obtain⟨t,rfl⟩:=(show ∃ t,_=Value.str w t from r)
  obtain⟨l,rfl,e⟩:=EE rr
  exact⟨(w,t)::l,rfl,by rw[Mc,e]⟩
def rJoin(K:LA):V->List V->Hp->VK->Prop:=fun x xs H Q=>∃(sep:Str)(a:Addr)(ws:List Str),x=.str sep/\xs = [.ref a]/\SqL K H a (ws.map V.str)/\(ws.map (·.length)).sum+ws.length*sep.length<=1000000/\Q (.str (Str.join sep ws)) H
theorem oY:MtM X "str.join" (rJoin X.K):=by
 intro pins s σ H x vs v us Q I rx rv h
 obtain⟨sep,a,ws,rfl,rfl,hq,hl,q⟩:=h
 obtain⟨t,rfl⟩:=rx
 obtain⟨u,rfl,ru⟩:=rv.one
 cases ru
 obtain⟨its,r,pl,hz⟩:=I.list hq
 obtain⟨l,rfl,e⟩:=EE r
 have tl:Builtin.Str.tooLong ((l.map (·.1)).toArray.foldl (·+·.length+sep.length) 0)=false:=by
  rw[e,StrLaws.joinTotal]
  unfold Builtin.Str.tooLong
  have:(1000000:Nat)<=sizeLine:=by decide
  exact decide_eq_false (by omega)
 refine call_meets Nf (typeIs_str _ _ _) PySem.F.entry_str_join (PySem.F.args_str_join_2 _ _) (meets_str_join_list sep t a l tl) ⟨pl.isList,?_⟩
 have fin:(Made.str (Builtin.Str.glued sep (l.map (·.1)))).post (fun v s'=>EP X pins σ Q v s') s:=⟨joinFit_length tl,.str (Builtin.Str.glued sep (l.map (·.1))),H,I.tok _,⟨_,rfl⟩,by rw[StrLaws.glued_eq_join,e];exact q⟩
 match l,fin,e with
 |[],fin,_=>exact fin
 |[p],_,e=>exact⟨.str p.1,H,I,⟨_,rfl⟩,by subst e;exact q⟩
 |_::_::_,fin,_=>exact fin
def rSplit:V->List V->Hp->VK->Prop:=fun x xs H Q=>∃(z y:Str),x=.str z/\xs = [.str y]/\y.length=1/\z.length<=1000000/\∀ l:Addr,H l=none->Q (.ref l) (upd H l (.lst ((Txt.split z y).map V.str)))
theorem kH:∀(ws:List Str)(n:Nat),Vals (ws.map V.str) (strsFrom n ws)
 |[],_=>.nil
 |w::ws,n=>.cons ⟨_,rfl⟩ (kH ws (n+1))
theorem Cj:MtM X "str.split" rSplit:=by
 intro pins s σ H x vs v us Q I rx rv h
 obtain⟨z,y,rfl,rfl,y1,zl,q⟩:=h
 obtain⟨t,rfl⟩:=rx
 obtain⟨u,rfl,ru⟩:=rv.one
 obtain⟨t',rfl⟩:=ru
 have hn:=split_le z y
 have zs:z.length<=sizeLine:=MB zl (by decide)
 have ps:∀ ws:List Str,ws.length<=z.length+2->(ws.map V.str).length<=sizeLine:=fun ws h=>by rw[LB];exact MB h (MB (Nat.add_le_add_right zl 2) (by decide))
 by_cases c1:(decide (z.length<y.length)||decide (Builtin.Str.strKind z<Builtin.Str.strKind y))=true
 ·have e:Txt.split z y = [z]:=by unfold Txt.split;rw[if_pos c1]
  rw[e]at q
  refine call_meets Nw (typeIs_str _ _ _) Oz (Oq _ _) (meets_str_split_cannot_occur z y t t' c1) ?_
  exact⟨.ref _,_,I.laid (t':=s.toks) (fun b o e=>Heap.get?_push_of_some _ e) (LG _) (show bT X.prog X.w _ _ _ (.lst [V.str z]) from⟨by show 1<=sizeLine;decide,[Value.str z t],0,.cons ⟨t,rfl⟩ .nil,Heap.get?_push_size _ rfl⟩),rfl,q _ (I.hok.fresh (LG _))⟩
 ·have c1':(decide (z.length<y.length)||decide (Builtin.Str.strKind z<Builtin.Str.strKind y))=false:=by simpa using c1
  have y0:(y.length == 0)=false:=by rw[y1];rfl
  by_cases c2:(Builtin.Str.occurrences z y 0 z.length (z.length+1)).isEmpty=true
  ·have e:Txt.split z y = [z]:=by unfold Txt.split;rw[if_neg c1,if_pos c2]
   rw[e]at q
   refine call_meets Nw (typeIs_str _ _ _) Oz (Oq _ _) (meets_str_split_not_found z y t t' c1' y0 c2) ?_
   exact⟨.ref _,_,I.laid (t':=s.toks) (fun b o e=>Heap.get?_push_of_some _ e) (LG _) (show bT X.prog X.w _ _ _ (.lst [V.str z]) from⟨by show 1<=sizeLine;decide,[Value.str z t],0,.cons ⟨t,rfl⟩ .nil,Heap.get?_push_size _ rfl⟩),rfl,q _ (I.hok.fresh (LG _))⟩
  ·have c2':(Builtin.Str.occurrences z y 0 z.length (z.length+1)).isEmpty=false:=by simpa using c2
   have e:Txt.split z y=Builtin.Str.partsBetween z (Builtin.Str.occurrences z y 0 z.length (z.length+1)) y.length:=by unfold Txt.split;rw[if_neg c1,if_neg c2]
   rw[e]at q hn
   refine call_meets Nw (typeIs_str _ _ _) Oz (Oq _ _) (meets_str_split_sep z y t t' c1' y0 c2' zs (MB hn (MB (Nat.add_le_add_right zl 2) (by decide)))) ?_
   exact⟨.ref _,_,I.laid (fun b o e=>Heap.get?_push_of_some _ e) (LG _) (show bT X.prog X.w _ _ _ (.lst ((Builtin.Str.partsBetween z (Builtin.Str.occurrences z y 0 z.length (z.length+1)) y.length).map V.str)) from⟨ps _ hn,_,0,kH _ _,Heap.get?_push_size _ rfl⟩),rfl,q _ (I.hok.fresh (LG _))⟩
theorem G4:i7 X (.type "int") (fun xs H Q=>∃(z:Str)(n:Int),xs = [.str z]/\PySem.intText? z=some n/\z.length<=640/\Q (.int n) H):=by
 intro pins s σ H xs us Q I r h
 obtain⟨z,n,rfl,hn,hl,q⟩:=h
 obtain⟨u,rfl,ru⟩:=lE r
 obtain⟨t,rfl⟩:=ru
 exact PySem.W.KIN.call_text hn hl ⟨.int n,H,I.tok _,⟨_,rfl⟩,q⟩
def Its(x:Str):It:=⟨fun i _=>i<x.cps.size,fun i H v H'=>H'=H/\∃ c,x.cps[i]?=some c/\v=.str ⟨#[c]⟩,fun i _=>x.cps.size<=i⟩
theorem Hy{P:Program}{w:World}{K:LA}{tg:Expr}(it:Addr)(x:Str)(t:Tok):Turn P w K tg (Its x) [it] it (fun i h=>h.IsStrIter it "str_ascii_iterator" x t i) where
 mem:=by simp
 obj:=fun i h st b hb=>by
  have e:b=it:=by simpa using hb
  subst e
  obtain⟨o,e,c,d⟩:=st
  exact⟨o,e,fun v z=>by rw[d]at z;cases z⟩
 keep:=fun i h h' st k=>let ⟨o,e,r⟩:=st;⟨o,k it (by simp) o e,r⟩
 item:=by
  intro X hP hw hK hc i pins s σ H E I hf st hg
  subst hP hw hK
  obtain⟨f0,f1,f2,f3,f4,f5⟩:=hf it (by simp)
  have hi:i<x.cps.size:=hg
  refine wpAny_pyNext_ascii_item st (c:=x.cps[i]) (by simp[hi]) fun h' st' sb=>?_
  have I1:Inv X pins σ H { s with heap:=h',toks:=s.toks+1 }:=I.turned (fun b o hb e=>(sb.2 b hb).trans e) f0 f1 f3 f4 f5
  obtain⟨o,e,c,d⟩:=id st'
  exact⟨_,rfl,KZ (s:={ s with heap:=h',toks:=s.toks+1 }) e c d (by decide) ⟨.str ⟨#[x.cps[i]]⟩,H,I1,⟨_,rfl⟩,⟨rfl,_,by simp[hi],rfl⟩,st',fun b hb=>(hf b hb).1⟩⟩
 done:=by
  intro X hP hw hK hc i pins s σ H E I hf st hg
  subst hP hw hK
  obtain⟨f0,f1,f2,f3,f4,f5⟩:=hf it (by simp)
  exact wpAny_pyNext_ascii_end (I.ok.hd hc) st (by have:x.cps.size<=i:=hg;simp;omega) fun h' eb=>⟨rfl,I.turned (t':=s.toks) (fun b o hb e=>eb b o hb e) f0 f1 f3 f4 f5⟩
 self:=fun _ _ _ _ _ st h=>wpAny_pyIter_striter_ascii st h
def iStr(tl:TE):TI:=fun σ H R=>tl σ H fun v H1=>∃ x:Str,v=.str x/\x.cps.all (· < 128)=true/\R (Its x) H1
theorem pi_str{tg l:Expr}{tl:TE}(hl:PE X l tl):PI X tg l (iStr tl):=by
 intro pins s σ H R I h
 refine thn (hl pins s σ H _ I h) fun v s1 ⟨x,H1,I1,r1,q1⟩=>?_
 obtain⟨z,rfl,ha,q⟩:=q1
 obtain⟨t,rfl⟩:=r1
 refine wpAny_pyIter_ascii ha ?_
 refine⟨s1.heap.objs.size,[s1.heap.objs.size],_,_,H1,rfl,I1.kept (t':=s1.toks) fun b o e=>Heap.get?_push_of_some _ e,Hy _ z t,⟨_,Heap.get?_push_size _ rfl,rfl,rfl⟩,fun b hb=>?_,q⟩
 have e:b=s1.heap.objs.size:=by simpa using hb
 subst e
 exact I1.fpOk (LG _) (I1.hok.fresh (LG _))
theorem IQ{x:Str}{te:TE}{fv:St}{H1:Hp}{QQ:List V->Hp->Prop}(Pv:Nat->List V->Hp->Prop)(hz:x.cps.size<=sizeLine)(h0:Pv 0 [] H1)
  (hs:∀ i c ys H,x.cps[i]?=some c->Pv i ys H->te (some (.str ⟨#[c]⟩)::fv) H fun y H2=>Pv (i+1) (ys++[y]) H2) (hd:∀ ys H,ys.length=x.cps.size->Pv x.cps.size ys H->QQ ys H)
  : qW te fv (Its x) H1 QQ:=by
 refine⟨fun i m ys H=>m=x.cps.size-i/\i<=x.cps.size/\ys.length=i/\Pv i ys H,⟨x.cps.size,by simp,MQ _,rfl,h0⟩,?_⟩
 rintro i m ys H ⟨rfl,hi,hy,p⟩
 refine⟨by omega,?_⟩
 by_cases hlt:i<x.cps.size
 ·refine .inr ⟨hlt,fun y H2=>Pv (i+1) (ys++[y]) H2,fun y H2 p2=>⟨x.cps.size-(i+1),by omega,rfl,hlt,by rw[Ly,hy];rfl,p2⟩,fun v H' y=>?_⟩
  obtain⟨rfl,c,hc,rfl⟩:=y
  exact hs i c ys _ hc p
 ·have e:i=x.cps.size:=by omega
  subst e
  exact .inl ⟨LG _,hd ys H hy p⟩
end
end L2
namespace L2
open PySem PySem.Spec PyProof.Rows
section
variable{prog:Program}{w:World}{A:Around}{E:Value->Shared->Prop}{s:Shared}
end
section
variable{X:Cx}
end
end L2
namespace L2
open PySem PySem.Spec PyProof.Rows
section
variable{X:Cx}
end
end L2
namespace L2
open PySem PySem.Spec PyProof.Rows
section
variable{X:Cx}
def rPart:V->List V->Hp->VK->Prop:=fun x xs H Q=>∃(z y:Str),x=.str z/\xs = [.str y]/\y.length=1/\z.length<=1000000/\∀ l:Addr,H l=none->Q (.ref l) (upd H l (.tup [.str (Txt.partition z y).1,.str (Txt.partition z y).2.1,.str (Txt.partition z y).2.2]))
theorem wU:MtM X "str.partition" rPart:=by
 intro pins s σ H x vs v us Q I rx rv h
 obtain⟨z,y,rfl,rfl,y1,zl,q⟩:=h
 obtain⟨t,rfl⟩:=rx
 obtain⟨u,rfl,ru⟩:=rv.one
 obtain⟨t',rfl⟩:=ru
 have y0:(y.length == 0)=false:=by rw[y1];rfl
 have zs:z.length<=sizeLine:=MB zl (by decide)
 refine call_meets O8 (typeIs_str _ _ _) PySem.F.entry_str_partition (PySem.F.args_str_partition_2 _ _) (meets_str_partition z y t t' y0 zs) ?_
 unfold Txt.partition at q
 revert q
 cases Builtin.Str.occurrences z y 0 z.length 1 with
 |nil =>
  intro q
  have o:bT X.prog X.w (upd H s.heap.objs.size (.tup [V.str z,V.str Str.empty,V.str Str.empty])) (s.heap.push { cls:=.type "tuple",data:=.seq [Value.str z t,Value.str Str.empty s.toks,Value.str Str.empty s.toks].toArray }) s.heap.objs.size (.tup [V.str z,V.str Str.empty,V.str Str.empty]):=⟨by show 3<=sizeLine;decide,_,.cons ⟨_,rfl⟩ (.cons ⟨_,rfl⟩ (.cons ⟨_,rfl⟩ .nil)),_,Heap.get?_push_size _ rfl,rfl,0,rfl⟩
  exact⟨.ref _,_,I.laid (fun b o e=>Heap.get?_push_of_some _ e) (LG _) o,rfl,q _ (I.hok.fresh (LG _))⟩
 |cons i r =>
  intro q
  have o:bT X.prog X.w (upd H s.heap.objs.size (.tup [V.str (Builtin.Str.strSub z 0 i),V.str y,V.str (Builtin.Str.strSub z (i+y.length) z.length)])) (s.heap.push { cls:=.type "tuple",data:=.seq [Value.str (Builtin.Str.strSub z 0 i) s.toks,Value.str y t',Value.str (Builtin.Str.strSub z (i+y.length) z.length) (s.toks+1)].toArray }) s.heap.objs.size (.tup [V.str (Builtin.Str.strSub z 0 i),V.str y,V.str (Builtin.Str.strSub z (i+y.length) z.length)]):=⟨by show 3<=sizeLine;decide,_,.cons ⟨_,rfl⟩ (.cons ⟨_,rfl⟩ (.cons ⟨_,rfl⟩ .nil)),_,Heap.get?_push_size _ rfl,rfl,0,rfl⟩
  exact⟨.ref _,_,I.laid (fun b o e=>Heap.get?_push_of_some _ e) (LG _) o,rfl,q _ (I.hok.fresh (LG _))⟩
end
theorem Hl{x:Str}{c i:Nat}:StrLaws.At x ⟨#[c]⟩ x.length i↔x.cps.toList[i]?=some c:=by
 have e:(x.cps.extract i (i+1)).toList=x.cps.toList[i]?.toList:=by
  rw[Nk]
  show(x.cps.toList.drop i).take (i+1-i)=_
  rw[Pp,List.take_one,List.head?_drop]
 have k:StrLaws.At x ⟨#[c]⟩ x.length i↔i+1<=x.cps.size/\(x.cps.extract i (i+1) == #[c])=true:=Iff.rfl
 rw[k,beq_iff_eq,← OZ,e]
 cases h:x.cps.toList[i]? with
 |none=>simp
 |some d =>
  have:=(Lx.mp h).1
  rw[MG]at this
  simp
  omega
theorem HN{c:Nat}{a r:List Nat}{x:Str}(hc:c∉a)(hx:x.cps.toList=a++c::r):(Txt.partition x ⟨#[c]⟩).1=⟨a.toArray⟩:=by
 have ha:StrLaws.At x ⟨#[c]⟩ x.length a.length:=Hl.mpr (by rw[hx,LD (LG _),Md];rfl)
 unfold Txt.partition
 rcases StrLaws.occ_head x ⟨#[c]⟩ 1 (LG _) with⟨_,n⟩ | ⟨i,r',e,h1,h2⟩
 ·exact absurd ha (n _)
 ·rw[e]
  have ei:i=a.length:=by
   rcases Nat.lt_trichotomy i a.length with z | z | z
   ·have q:=Hl.mp h1
    rw[hx,LF z]at q
    exact absurd (Lz q) hc
   ·exact z
   ·exact absurd ha (h2 _ z)
  subst ei
  show Builtin.Str.strSub x 0 a.length=_
  refine Str.ext' (OZ.mp ?_)
  show(x.cps.extract 0 a.length).toList=a.toArray.toList
  rw[Nk]
  show(x.cps.toList.drop 0).take (a.length-0)=_
  rw[hx]
  simp
theorem HM{c:Nat}{x:Str}(hc:c∉x.cps.toList):(Txt.partition x ⟨#[c]⟩).1=x:=by
 unfold Txt.partition
 rcases StrLaws.occ_head x ⟨#[c]⟩ 1 (LG _) with⟨e,_⟩ | ⟨i,r',e,h1,_⟩
 ·rw[e]
 ·exact absurd (Lz (Hl.mp h1)) hc
end L2
namespace L2
theorem len_0{α:Type}{l:List α}(h:l.length=0):l = []:=NU.mp h
theorem DI{α:Type}{l:List α}{n:Nat}(h:l.length=n+1):∃ x r,l=x::r/\r.length=n:=by
 cases l with
 |nil=>cases h
 |cons x r=>exact⟨x,r,rfl,OW h⟩
theorem lT{α:Type}{l:List α}(h:l.length=1):∃ a,l = [a]:=by
 obtain⟨a,r,rfl,e⟩:=DI h
 exact⟨a,by rw[len_0 e]⟩
theorem fU{α:Type}{l:List α}(h:l.length=2):∃ a b,l = [a,b]:=by
 obtain⟨a,r,rfl,e⟩:=DI h
 obtain⟨b,rfl⟩:=lT e
 exact⟨a,b,rfl⟩
theorem qJ{α:Type}{l:List α}(h:l.length=3):∃ a b c,l = [a,b,c]:=by
 obtain⟨a,r,rfl,e⟩:=DI h
 obtain⟨b,c,rfl⟩:=fU e
 exact⟨a,b,c,rfl⟩
theorem FV{α:Type}{l:List α}(h:l.length=4):∃ a b c d,l = [a,b,c,d]:=by
 obtain⟨a,r,rfl,e⟩:=DI h
 obtain⟨b,c,d,rfl⟩:=qJ e
 exact⟨a,b,c,d,rfl⟩
theorem len_5{α:Type}{l:List α}(h:l.length=5):∃ a b c d e,l = [a,b,c,d,e]:=by
 obtain⟨a,r,rfl,z⟩:=DI h
 obtain⟨b,c,d,e,rfl⟩:=FV z
 exact⟨a,b,c,d,e,rfl⟩
theorem len_6{α:Type}{l:List α}(h:l.length=6):∃ a b c d e f,l = [a,b,c,d,e,f]:=by
 obtain⟨a,r,rfl,z⟩:=DI h
 obtain⟨b,c,d,e,f,rfl⟩:=len_5 z
 exact⟨a,b,c,d,e,f,rfl⟩
end L2
namespace K8
theorem Ja:∀{a b:List Nat},a.Nodup->(∀ x∈a,x∈b)->a.length<=b.length
 |[],_,_,_=>MQ _
 |x::a,b,nd,h=>by
  obtain⟨n1,n2⟩:=LN.mp nd
  have hx:=h x (by simp)
  have ih:=Ja (a:=a) (b:=b.erase x) n2 fun y hy=>(List.mem_erase_of_ne (fun e:y=x=>n1 (e▸hy))).mpr (h y (LK _ hy))
  rw[Pm hx]at ih
  have:0<b.length:=Nb hx
  rw[Mb]
  omega
theorem eu{a:List Nat}{N:Nat}(nd:a.Nodup)(h:∀ x∈a,x<N):a.length<=N:=by
 have:=Ja (b:=MH N) nd fun x hx=>Nj.mpr (h x hx)
 rwa[MA]at this
theorem Ci{l:List Nat}(nd:l.Nodup){i j x:Nat}(hi:l[i]?=some x)(hj:l[j]?=some x):i=j:=by
 have p:=NI.mp nd
 obtain⟨h1,e1⟩:=Lx.mp hi
 obtain⟨h2,e2⟩:=Lx.mp hj
 rcases Nat.lt_trichotomy i j with z | z | z
 ·exact absurd (e1.trans e2.symm) (p i j h1 h2 z)
 ·exact z
 ·exact absurd (e2.trans e1.symm) (p j i h2 h1 z)
abbrev En:=List (Nat×Nat)
structure bJ(m:Nat)(es:En)(ts:List (List Nat)):Prop where
 len:ts.length=m
 ends:∀ e∈es,e.1<m/\e.2<m/\e.1≠e.2
 nd:∀(p:Nat)(l:List Nat),ts[p]?=some l->l.Nodup
 mem:∀(p:Nat)(l:List Nat),ts[p]?=some l->∀ t,t∈l↔∃ e,es[t]?=some e/\(e.1=p∨e.2=p)
theorem Hz(m:Nat):bJ m [] (Nu m []) where
 len:=by simp
 ends:=fun e h=>by cases h
 nd:=fun p l h=>by
  rw[Nq]at h
  split at h
  ·cases h;exact Oo
  ·cases h
 mem:=fun p l h t=>by
  rw[Nq]at h
  split at h
  ·cases h;simp
  ·cases h
def ins(l:List Nat)(k x:Nat):List Nat:=l.take k++x::l.drop k
theorem AI{l:List Nat}{k x y:Nat}:y∈ins l k x↔y=x∨y∈l:=by
 unfold ins
 rw[LJ,LC]
 have:=L3 k l
 constructor
 ·rintro(h | h | h)
  ·exact .inr (MO h)
  ·exact .inl h
  ·exact .inr (MP h)
 ·rintro(h | h)
  ·exact .inr (.inl h)
  ·rw[← this]at h
   rcases LJ.mp h with z | z
   ·exact .inl z
   ·exact .inr (.inr z)
theorem Gb{l:List Nat}{k x:Nat}(nd:l.Nodup)(h:x∉l):(ins l k x).Nodup:=by
 unfold ins
 have e:=L3 k l
 rw[← e]at nd
 obtain⟨a,b,c⟩:=LR.mp nd
 refine LR.mpr ⟨a,LN.mpr ⟨fun z=>h (MP z),b⟩,fun y hy z hz=>?_⟩
 rcases LC.mp hz with q | q
 ·intro w
  exact h (by rw[← q,← w];exact MO hy)
 ·exact c y hy z q
theorem bJ.put{m:Nat}{es:En}{ts:List (List Nat)}{one two k j:Nat}{l l':List Nat}(w:bJ m es ts)(h1:one<m)(h2:two<m)(hn:one≠two)(e1:ts[one]?=some l)(e2:ts[two]?=some l') :
  bJ m (es++[(one,two)]) ((ts.set one (ins l k es.length)).set two (ins l' j es.length)):=by
 have old:∀{p l},ts[p]?=some l->es.length∉l:=fun{p l} e z=>by
  obtain⟨x,hx,_⟩:=(w.mem p l e es.length).mp z
  have:=(Lx.mp hx).1
  omega
 have get:∀ p q,((ts.set one (ins l k es.length)).set two (ins l' j es.length))[p]?=some q->(p=two/\q=ins l' j es.length)∨(p=one/\p≠two/\q=ins l k es.length)∨(p≠one/\p≠two/\ts[p]?=some q):=fun p q e=>by
  have L:two<(ts.set one (ins l k es.length)).length:=by rw[Mv,w.len];exact h2
  have L1:one<ts.length:=by rw[w.len];exact h1
  rw[Mp]at e
  by_cases z:two=p
  ·rw[if_pos z,if_pos L]at e
   exact .inl ⟨z.symm,(L6 e).symm⟩
  ·rw[if_neg z,Mp]at e
   by_cases y:one=p
   ·rw[if_pos y,if_pos L1]at e
    exact .inr (.inl ⟨y.symm,Ne.symm z,(L6 e).symm⟩)
   ·rw[if_neg y]at e
    exact .inr (.inr ⟨Ne.symm y,Ne.symm z,e⟩)
 have esg:∀ t x,(es++[(one,two)])[t]?=some x↔(es[t]?=some x)∨(t=es.length/\x=(one,two)):=fun t x=>by
  by_cases z:t<es.length
  ·rw[LF z]
   constructor
   ·exact .inl
   ·rintro(y | y)
    ·exact y
    ·omega
  ·rw[LD (by omega)]
   constructor
   ·intro y
    have hl:=(Lx.mp y).1
    rw[LU]at hl
    have ht:t=es.length:=by omega
    subst ht
    rw[Md]at y
    cases y
    exact .inr ⟨rfl,rfl⟩
   ·rintro(y | ⟨y,rfl⟩)
    ·have:=(Lx.mp y).1;omega
    ·rw[y,Md];rfl
 refine⟨by rw[Mv,Mv];exact w.len,fun e he=>?_,fun p q e=>?_,fun p q e t=>?_⟩
 ·rcases LJ.mp he with z | z
  ·exact w.ends e z
  ·have:e=(one,two):=by simpa using z
   subst this
   exact⟨h1,h2,hn⟩
 ·rcases get p q e with⟨_,rfl⟩ | ⟨_,_,rfl⟩ | ⟨_,_,y⟩
  ·exact Gb (w.nd two l' e2) (old e2)
  ·exact Gb (w.nd one l e1) (old e1)
  ·exact w.nd p q y
 ·rcases get p q e with⟨rfl,rfl⟩ | ⟨rfl,np,rfl⟩ | ⟨n1,n2,y⟩
  ·rw[AI,w.mem p l' e2 t]
   constructor
   ·rintro(z | ⟨x,hx,hp⟩)
    ·exact⟨(one,p),(esg _ _).mpr (.inr ⟨z,rfl⟩),.inr rfl⟩
    ·exact⟨x,(esg _ _).mpr (.inl hx),hp⟩
   ·rintro⟨x,hx,hp⟩
    rcases(esg _ _).mp hx with z | ⟨z,_⟩
    ·exact .inr ⟨x,z,hp⟩
    ·exact .inl z
  ·rw[AI,w.mem p l e1 t]
   constructor
   ·rintro(z | ⟨x,hx,hp⟩)
    ·exact⟨(p,two),(esg _ _).mpr (.inr ⟨z,rfl⟩),.inl rfl⟩
    ·exact⟨x,(esg _ _).mpr (.inl hx),hp⟩
   ·rintro⟨x,hx,hp⟩
    rcases(esg _ _).mp hx with z | ⟨z,_⟩
    ·exact .inr ⟨x,z,hp⟩
    ·exact .inl z
  ·rw[w.mem p q y t]
   constructor
   ·rintro⟨x,hx,hp⟩
    exact⟨x,(esg _ _).mpr (.inl hx),hp⟩
   ·rintro⟨x,hx,hp⟩
    rcases(esg _ _).mp hx with z | ⟨z,rfl⟩
    ·exact⟨x,z,hp⟩
    ·rcases hp with hp | hp
     ·exact absurd hp.symm n1
     ·exact absurd hp.symm n2
def hd(es:En)(d:Nat):Nat:=match es[d/2]? with | some e=>if d%2=0 then e.2 else e.1 | none=>0
def tl(es:En)(d:Nat):Nat:=match es[d/2]? with | some e=>if d%2=0 then e.1 else e.2 | none=>0
def qK(es:En)(t p:Nat):Nat:=match es[t]? with | some e=>if e.1=p then 2*t else 2*t+1 | none=>0
def nxt(l:List Nat)(t:Nat):Nat:=(l[(l.idxOf t+1)%l.length]?).getD 0
def fol(es:En)(ts:List (List Nat))(d:Nat):Nat:=qK es (nxt ((ts[hd es d]?).getD []) (d/2)) (hd es d)
section
variable{m:Nat}{es:En}{ts:List (List Nat)}
theorem AJ{l:List Nat}{t:Nat}(h:t∈l):l[l.idxOf t]?=some t:=by
 have hl:=NO.mpr h
 rw[Lw hl,List.getElem_idxOf]
theorem jL{l:List Nat}{t:Nat}(h:t∈l):l[(l.idxOf t+1)%l.length]?=some (nxt l t):=by
 have hl:0<l.length:=Nb h
 have:=Nat.mod_lt (l.idxOf t+1) hl
 unfold nxt
 rw[Lw this]
 rfl
theorem bJ.at(w:bJ m es ts){d:Nat}(h:d<2*es.length):∃ e l,es[d/2]?=some e/\hd es d=(if d%2=0 then e.2 else e.1)/\tl es d=(if d%2=0 then e.1 else e.2)/\hd es d<m/\ts[hd es d]?=some l/\d/2∈l:=by
 have hl:d/2<es.length:=by omega
 have e1:es[d/2]?=some es[d/2]:=Lw hl
 have q:=w.ends _ (Lz e1)
 generalize es[d/2]=e at e1 q
 have h1:hd es d=(if d%2=0 then e.2 else e.1):=by unfold hd;rw[e1]
 have h2:tl es d=(if d%2=0 then e.1 else e.2):=by unfold tl;rw[e1]
 have h3:hd es d<m:=by rw[h1];split<;>omega
 have h4:ts[hd es d]?=some (ts[hd es d]'(by rw[w.len];exact h3)):=Lw _
 refine⟨e,_,e1,h1,h2,h3,h4,(w.mem _ _ h4 _).mpr ⟨e,e1,?_⟩⟩
 rw[h1]
 split
 ·exact .inr rfl
 ·exact .inl rfl
theorem bJ.foll(w:bJ m es ts){d:Nat}(h:d<2*es.length):∃ l e,ts[hd es d]?=some l/\d/2∈l/\es[nxt l (d/2)]?=some e/\(e.1=hd es d∨e.2=hd es d)/\e.1≠e.2/\fol es ts d=(if e.1=hd es d then 2*nxt l (d/2) else 2*nxt l (d/2)+1)/\fol es ts d<2*es.length/\fol es ts d/2=nxt l (d/2)/\tl es (fol es ts d)=hd es d:=by
 obtain⟨e0,l,h1,h2,h3,h4,h5,h6⟩:=w.at h
 have hn:=jL h6
 obtain⟨e,he,hp⟩:=(w.mem _ _ h5 _).mp (Lz hn)
 have hlt:=(Lx.mp he).1
 have hne:=(w.ends e (Lz he)).2.2
 have hf:fol es ts d=(if e.1=hd es d then 2*nxt l (d/2) else 2*nxt l (d/2)+1):=by
  unfold fol
  rw[h5]
  show qK es (nxt l (d/2)) (hd es d)=_
  unfold qK
  rw[he]
 refine⟨l,e,h5,h6,he,hp,hne,hf,?_,?_,?_⟩
 ·rw[hf];split<;>omega
 ·rw[hf];split<;>omega
 ·rw[hf]
  by_cases z:e.1=hd es d
  ·have a1:2*nxt l (d/2)/2=nxt l (d/2):=by omega
   have a2:2*nxt l (d/2)%2=0:=by omega
   rw[if_pos z]
   unfold tl
   rw[a1,he]
   show(if 2*nxt l (d/2)%2=0 then e.1 else e.2)=_
   rw[if_pos a2,z]
  ·have a1:(2*nxt l (d/2)+1)/2=nxt l (d/2):=by omega
   have a2:¬ (2*nxt l (d/2)+1)%2=0:=by omega
   rw[if_neg z]
   unfold tl
   rw[a1,he]
   show(if(2*nxt l (d/2)+1)%2=0 then e.1 else e.2)=_
   rw[if_neg a2]
   exact hp.elim (fun y=>absurd y z) id
theorem bJ.inj(w:bJ m es ts){a b:Nat}(ha:a<2*es.length)(hb:b<2*es.length)(h:fol es ts a=fol es ts b):a=b:=by
 obtain⟨l,e,p1,p2,_,_,_,_,_,p3,p4⟩:=w.foll ha
 obtain⟨l',e',q1,q2,_,_,_,_,_,q3,q4⟩:=w.foll hb
 have hh:hd es a=hd es b:=by rw[← p4,← q4,h]
 rw[hh,q1]at p1
 cases p1
 have hx:nxt l (a/2)=nxt l (b/2):=by rw[← p3,← q3,h]
 have g1:=jL p2
 have g2:=jL q2
 rw[hx]at g1
 have ii:=Ci (w.nd _ _ q1) g1 g2
 have i1:=NO.mpr p2
 have i2:=NO.mpr q2
 have ix:l.idxOf (a/2)=l.idxOf (b/2):=by
  generalize l.idxOf (a/2)=x at *
  generalize l.idxOf (b/2)=y at *
  by_cases z1:x+1=l.length
  ·by_cases z2:y+1=l.length
   ·omega
   ·rw[z1,OD,Nc (by omega)]at ii;omega
  ·by_cases z2:y+1=l.length
   ·rw[z2,OD,Nc (by omega)]at ii;omega
   ·rw[Nc (by omega),Nc (by omega)]at ii;omega
 have ht:a/2=b/2:=by
  have g3:=AJ p2
  have g4:=AJ q2
  rw[ix,g4]at g3
  exact(L6 g3).symm
 obtain⟨e1,_,r1,r2,_,_,_,_⟩:=w.at ha
 obtain⟨e2,_,s1,s2,_,_,_,_⟩:=w.at hb
 rw[ht,s1]at r1
 have ee:e2=e1:=L6 r1
 rw[ee]at s1 s2
 have hne:=(w.ends e1 (Lz s1)).2.2
 rw[r2,s2]at hh
 have:a%2=b%2:=by
  by_cases z1:a%2=0<;>by_cases z2:b%2=0
  ·omega
  ·rw[if_pos z1,if_neg z2]at hh;exact absurd hh.symm hne
  ·rw[if_neg z1,if_pos z2]at hh;exact absurd hh hne
  ·omega
 omega
end
structure Ht(f:Nat->Nat)(N:Nat):Prop where
 lt:∀ d,d<N->f d<N
 inj:∀ a b,a<N->b<N->f a=f b->a=b
structure Path(f:Nat->Nat)(N first:Nat)(r:List Nat):Prop where
 hd:r[0]?=some first
 lt:∀ d∈r,d<N
 nd:r.Nodup
 nx:∀ i x y,r[i]?=some x->r[i+1]?=some y->y=f x
theorem HK{f:Nat->Nat}{N d:Nat}(h:d<N):Path f N d [d] where
 hd:=rfl
 lt:=fun x hx=>by have:x=d:=by simpa using hx
                  rw[this];exact h
 nd:=by simp
 nx:=fun i x y h1 h2=>by
  have:=(Lx.mp h2).1
  rw[LU]at this
  omega
theorem Path.snoc{f:Nat->Nat}{N d x:Nat}{r:List Nat}(p:Ht f N)(h:Path f N d (r++[x]))(hn:f x≠d):Path f N d (r++[x]++[f x]) where
 hd:=by rw[LF (by rw[Ly,LU];omega)];exact h.hd
 lt:=fun y hy=>by
  rcases LJ.mp hy with z | z
  ·exact h.lt y z
  ·have:y=f x:=by simpa using z
   rw[this];exact p.lt x (h.lt x (by simp))
 nd:=by
  refine LR.mpr ⟨h.nd,by simp,fun a ha b hb e=>?_⟩
  have eb:b=f x:=by simpa using hb
  subst eb
  obtain⟨i,hi⟩:=MD.mp ha
  rw[e]at hi
  have hil:=(Lx.mp hi).1
  rw[Ly,LU]at hil
  cases i with
  |zero =>
   rw[h.hd]at hi
   exact hn (L6 hi).symm
  |succ i =>
   have gi:(r++[x])[i]?=some ((r++[x])[i]'(by rw[Ly,LU];omega)):=Lw _
   have:=h.nx i _ _ gi hi
   have mi:=h.lt _ (Lz gi)
   have mx:=h.lt x (by simp)
   have e2:=p.inj _ _ mx mi this
   rw[← e2]at gi
   have gx:(r++[x])[r.length]?=some x:=by rw[LD (LG _),Md];rfl
   have:=Ci h.nd gi gx
   omega
 nx:=fun i a b h1 h2=>by
  have h2l:=(Lx.mp h2).1
  rw[Ly,Ly,LU,LU]at h2l
  rw[LF (by rw[Ly,LU];omega)]at h1
  by_cases z:i+1<(r++[x]).length
  ·rw[LF z]at h2
   exact h.nx i a b h1 h2
  ·rw[Ly,LU]at z
   have ei:i=r.length:=by omega
   subst ei
   rw[LD (by rw[Ly,LU];omega)]at h2
   have:r.length+1-(r++[x]).length=0:=by rw[Ly,LU];omega
   rw[this]at h2
   rw[LD (LG _),Md]at h1
   have e1:x=a:=L6 h1
   have e2:f x=b:=L6 h2
   rw[← e2,e1]
structure Ring(f:Nat->Nat)(N:Nat)(r:List Nat):Prop where
 lt:∀ d∈r,d<N
 nd:r.Nodup
 ne:0<r.length
 nx:∀ i x,r[i]?=some x->r[(i+1)%r.length]?=some (f x)
theorem Path.ring{f:Nat->Nat}{N d x:Nat}{r:List Nat}(p:Ht f N)(h:Path f N d (r++[x]))(he:f x=d):Ring f N (r++[x]) where
 lt:=h.lt
 nd:=h.nd
 ne:=by rw[Ly,LU];omega
 nx:=fun i y hy=>by
  have hl:=(Lx.mp hy).1
  by_cases z:i+1=(r++[x]).length
  ·rw[z,OD]
   have:i=r.length:=by rw[Ly,LU]at z;omega
   subst this
   rw[LD (LG _),Md]at hy
   have:x=y:=L6 hy
   subst this
   rw[he];exact h.hd
  ·have l2:i+1<(r++[x]).length:=by omega
   rw[Nc l2]
   have g:=Lw l2
   rw[g,h.nx i _ _ hy g]
theorem Ring.back{f:Nat->Nat}{N a:Nat}{r:List Nat}(p:Ht f N)(h:Ring f N r)(ha:a<N)(hf:f a∈r):a∈r:=by
 obtain⟨i,hi⟩:=MD.mp hf
 have hl:=(Lx.mp hi).1
 have key:∃ j,j<r.length/\(j+1)%r.length=i:=by
  cases i with
  |zero=>exact⟨r.length-1,by have:=h.ne;omega,by have:=h.ne;rw[show r.length-1+1=r.length by omega,OD]⟩
  |succ i=>exact⟨i,by omega,Nc hl⟩
 obtain⟨j,hj,ej⟩:=key
 have g:=Lw hj
 have q:=h.nx j _ g
 rw[ej,hi]at q
 have mj:=h.lt _ (Lz g)
 have:=p.inj _ _ ha mj (L6 q)
 rw[this]
 exact Lz g
structure dj(f:Nat->Nat)(N i:Nat)(rs:List (List Nat)):Prop where
 ring:∀ r∈rs,Ring f N r
 hdl:∀ r∈rs,∀ h,r[0]?=some h->h<i/\∀ d∈r,h<=d
 asc:∀(a b:Nat)(r r':List Nat)(h h':Nat),a<b->rs[a]?=some r->rs[b]?=some r'->r[0]?=some h->r'[0]?=some h'->h<h'
 nd:rs.flatten.Nodup
 all:∀ d,d<i->d∈rs.flatten
theorem C4(f:Nat->Nat)(N:Nat):dj f N 0 [] where
 ring:=fun r h=>by cases h
 hdl:=fun r h=>by cases h
 asc:=fun a b r r' h h' _ e=>by cases e
 nd:=by simp
 all:=fun d h=>by omega
theorem dj.skip{f:Nat->Nat}{N i:Nat}{rs:List (List Nat)}(w:dj f N i rs)(h:i∈rs.flatten):dj f N (i+1) rs where
 ring:=w.ring
 hdl:=fun r hr x hx=>⟨by have:=(w.hdl r hr x hx).1;omega,(w.hdl r hr x hx).2⟩
 asc:=w.asc
 nd:=w.nd
 all:=fun d hd=>by
  by_cases z:d=i
  ·rw[z];exact h
  ·exact w.all d (by omega)
theorem dj.put{f:Nat->Nat}{N i:Nat}{rs:List (List Nat)}{r:List Nat}(p:Ht f N)(w:dj f N i rs)(h:i∉rs.flatten)(hi:i<N)(hr:Ring f N r)(pa:Path f N i r):dj f N (i+1) (rs++[r]):=by
 have apart:∀(k x:Nat),r[k]?=some x->x∉rs.flatten:=fun k=>by
  induction k with
  |zero =>
   intro x hx
   rw[pa.hd]at hx
   cases hx
   exact h
  |succ k ih =>
   intro x hx z
   have hl:=(Lx.mp hx).1
   have g:=Lw (show k<r.length by omega)
   have e:=pa.nx k _ _ g hx
   obtain⟨q,hq,zq⟩:=Mq.mp z
   rw[e]at zq
   exact ih _ g (Mq.mpr ⟨q,hq,(w.ring q hq).back p (hr.lt _ (Lz g)) zq⟩)
 have least:∀ d∈r,i<=d:=fun d hd=>by
  obtain⟨k,hk⟩:=MD.mp hd
  by_cases z:i<=d
  ·exact z
  ·exact absurd (w.all d (by omega)) (apart k d hk)
 refine⟨fun q hq=>?_,fun q hq x hx=>?_,fun a b q q' x x' hab ha hb hx hx'=>?_,?_,fun d hd=>?_⟩
 ·rcases LJ.mp hq with z | z
  ·exact w.ring q z
  ·have:q=r:=by simpa using z
   rw[this];exact hr
 ·rcases LJ.mp hq with z | z
  ·have:=w.hdl q z x hx
   exact⟨by omega,this.2⟩
  ·have e:q=r:=by simpa using z
   subst e
   rw[pa.hd]at hx
   cases hx
   exact⟨by omega,least⟩
 ·have bl:=(Lx.mp hb).1
  rw[Ly,LU]at bl
  rw[LF (by omega)]at ha
  by_cases z:b<rs.length
  ·rw[LF z]at hb
   exact w.asc a b q q' x x' hab ha hb hx hx'
  ·have eb:b=rs.length:=by omega
   subst eb
   rw[LD (LG _),Md]at hb
   have e:r=q':=L6 hb
   subst e
   rw[pa.hd]at hx'
   cases hx'
   exact(w.hdl q (Lz ha) x hx).1
 ·rw[MN]
  have e : [r].flatten=r:=by simp
  rw[e]
  refine LR.mpr ⟨w.nd,hr.nd,fun a ha b hb e=>?_⟩
  obtain⟨k,hk⟩:=MD.mp hb
  exact apart k b hk (e▸ha)
 ·rw[MN,LJ]
  by_cases z:d=i
  ·right
   rw[z]
   simp
   exact Lz pa.hd
  ·exact .inl (w.all d (by omega))
theorem AR{rs:List (List Nat)}(nd:rs.flatten.Nodup){a b:Nat}{r r':List Nat}{d:Nat}(ha:rs[a]?=some r)(hb:rs[b]?=some r')(h1:d∈r)(h2:d∈r'):a=b:=by
 induction rs generalizing a b with
 |nil=>cases ha
 |cons q rs ih =>
  rw[Me]at nd
  obtain⟨_,n2,n3⟩:=LR.mp nd
  cases a with
  |zero =>
   cases b with
   |zero=>rfl
   |succ b =>
    have e:q=r:=L6 ha
    subst e
    exact absurd rfl (n3 d h1 d (Mq.mpr ⟨r',Lz hb,h2⟩))
  |succ a =>
   cases b with
   |zero =>
    have e:q=r':=L6 hb
    subst e
    exact absurd rfl (n3 d h2 d (Mq.mpr ⟨r,Lz ha,h1⟩))
   |succ b=>exact congrArg Nat.succ (ih n2 ha hb)
end K8
namespace K8
def fB(f:Nat->Nat):Nat->List Nat->Nat->Prop
 |x,[],z=>f x=z
 |x,y::l,z=>f x=y/\fB f y l z
theorem cj{f:Nat->Nat}:∀{x:Nat}{l:List Nat}{y:Nat}{k:List Nat}{z:Nat},fB f x (l++y::k) z↔fB f x l y/\fB f y k z
 |x,[],y,k,z=>Iff.rfl
 |x,a::l,y,k,z=>by
  show(f x=a/\fB f a (l++y::k) z)↔(f x=a/\fB f a l y)/\fB f y k z
  rw[cj,and_assoc]
theorem fm{f g:Nat->Nat}:∀{x y:Nat}{l:List Nat}{z:Nat},fB f x l z->g y=f x->(∀ t∈l,g t=f t)->fB g y l z
 |x,y,[],z,h,e,_=>e.trans h
 |x,y,a::l,z,h,e,k=>⟨e.trans h.1,fm h.2 (k a (LI ..)) fun t ht=>k t (LK _ ht)⟩
theorem k8{f g F:Nat->Nat}:∀{x:Nat}{l:List Nat}{z:Nat},fB f x l z->(∀ t∈x::l,g (F t)=F (f t))->fB g (F x) (l.map F) (F z)
 |x,[],z,h,k=>by
  show g (F x)=F z
  rw[k x (LI ..),show f x=z from h]
 |x,a::l,z,h,k=>⟨by rw[k x (LI ..),h.1],k8 h.2 fun t ht=>k t (LK _ ht)⟩
theorem pJ{f:Nat->Nat}{S:Nat->Prop}:∀{x:Nat}{l:List Nat}{z:Nat},fB f x l z->(∀ t∈x::l,S t->S (f t))->S x->S z/\∀ t∈l,S t
 |x,[],z,h,k,s=>⟨by have:=k x (LI ..) s;rwa[show f x=z from h]at this,fun t ht=>nomatch ht⟩
 |x,a::l,z,h,k,s=>by
  have s1:S a:=by have:=k x (LI ..) s;rwa[h.1]at this
  obtain⟨h1,h2⟩:=pJ h.2 (fun t ht=>k t (LK _ ht)) s1
  refine⟨h1,fun t ht=>?_⟩
  rcases LC.mp ht with y | y
  ·rw[y];exact s1
  ·exact h2 t y
structure CR(f:Nat->Nat)(N:Nat)(r:List Nat):Prop where
 ch:∃ x l,r=x::l/\fB f x l x
 lt:∀ d∈r,d<N
 nd:r.Nodup
theorem CR.closed{f:Nat->Nat}{N:Nat}{r:List Nat}(h:CR f N r):∀ d∈r,f d∈r:=by
 obtain⟨x,l,rfl,c⟩:=h.ch
 intro d hd
 rcases LC.mp hd with y | y
 ·subst y
  cases l with
  |nil=>rw[show f d=d from c];exact LI ..
  |cons a l=>rw[c.1];simp
 ·obtain⟨A,B,rfl⟩:=Ol y
  have c2:=(cj.mp c).2
  cases B with
  |nil=>rw[show f d=x from c2];exact LI ..
  |cons a B=>rw[c2.1];simp
theorem CR.sub{f:Nat->Nat}{N:Nat}{r:List Nat}{S:Nat->Prop}(h:CR f N r)(k:∀ t∈r,S t->S (f t)){d:Nat}(hd:d∈r)(s:S d):∀ t∈r,S t:=by
 obtain⟨x,l,rfl,c⟩:=h.ch
 have fromx:S x->∀ t∈x::l,S t:=fun sx t ht=>by
  rcases LC.mp ht with y | y
  ·rw[y];exact sx
  ·exact(pJ c k sx).2 t y
 rcases LC.mp hd with y | y
 ·exact fromx (y▸s)
 ·obtain⟨A,B,rfl⟩:=Ol y
  have c2:=(cj.mp c).2
  exact fromx (pJ c2 (fun t ht=>k t (by simp only[LC,LJ]at ht ⊢;rcases ht with z | z<;>simp[z])) s).1
theorem CR.same{f:Nat->Nat}{N:Nat}{r r':List Nat}(h:CR f N r)(h':CR f N r'){d:Nat}(h1:d∈r)(h2:d∈r'):∀ t∈r,t∈r':=h.sub (S:=fun t=>t∈r') (fun t _=>h'.closed t) h1 h2
theorem CR.ne{f:Nat->Nat}{N:Nat}{r:List Nat}(h:CR f N r):∃ d,d∈r:=by
 obtain⟨x,l,rfl,_⟩:=h.ch
 exact⟨x,LI ..⟩
structure Part(f:Nat->Nat)(N:Nat)(rs:List (List Nat)):Prop where
 cr:∀ r∈rs,CR f N r
 nd:rs.flatten.Nodup
 all:∀ d,d<N->d∈rs.flatten
theorem Part.pick{f:Nat->Nat}{N:Nat}{rs:List (List Nat)}(p:Part f N rs){r:List Nat}(h:CR f N r):∃ rest,Part f N (r::rest)/\rest.length+1=rs.length:=by
 obtain⟨d,hd⟩:=h.ne
 obtain⟨r0,m1,m2⟩:=Mq.mp (p.all d (h.lt d hd))
 have c0:=p.cr r0 m1
 have s1:=h.same c0 hd m2
 have s2:=c0.same h m2 hd
 obtain⟨A,B,rfl⟩:=Ol m1
 have nd:=p.nd
 rw[MN,Me]at nd
 obtain⟨n1,n2,n3⟩:=LR.mp nd
 obtain⟨n4,n5,n6⟩:=LR.mp n2
 refine⟨A++B,⟨fun q hq=>?_,?_,fun y hy=>?_⟩,by simp;omega⟩
 ·rcases LC.mp hq with z | z
  ·rw[z];exact h
  ·refine p.cr q ?_
   rcases LJ.mp z with z | z
   ·simp[z]
   ·simp[z]
 ·rw[Me,MN]
  refine LR.mpr ⟨h.nd,LR.mpr ⟨n1,n5,fun a ha b hb=>n3 a ha b (by simp[hb])⟩,fun a ha b hb=>?_⟩
  rcases LJ.mp hb with z | z
  ·exact fun e=>n3 b z a (MC _ (s1 a ha)) e.symm
  ·exact n6 a (s1 a ha) b z
 ·have:=p.all y hy
  rw[MN,Me]at this
  rw[Me,MN]
  simp only[LJ]at this ⊢
  rcases this with z | z | z
  ·exact .inr (.inl z)
  ·exact .inl (s2 y z)
  ·exact .inr (.inr z)
theorem Part.same:∀{rs qs:List (List Nat)}{f:Nat->Nat}{N:Nat},Part f N rs->Part f N qs->rs.length=qs.length:=by
 have le:∀(k:Nat){rs qs:List (List Nat)}{f:Nat->Nat}{N:Nat},Part f N rs->Part f N qs->rs.length<=qs.length:=by
  intro _ rs qs f N p q
  have g:∀ r∈rs,∃ i,i<qs.length/\∃ r',qs[i]?=some r'/\∀ t∈r',t∈r:=fun r hr=>by
   have c:=p.cr r hr
   obtain⟨d,hd⟩:=c.ne
   obtain⟨r',m1,m2⟩:=Mq.mp (q.all d (c.lt d hd))
   obtain⟨i,hi⟩:=MD.mp m1
   exact⟨i,(Lx.mp hi).1,r',hi,(q.cr r' m1).same c m2 hd⟩
  have:∀(l:List (List Nat)),(∀ r∈l,r∈rs)->l.flatten.Nodup->∃ is:List Nat,is.length=l.length/\is.Nodup/\∀ i∈is,i<qs.length/\∃ r∈l,∃ r',qs[i]?=some r'/\∀ t∈r',t∈r:=fun l=>by
   induction l with
   |nil=>intro _ _;exact⟨[],rfl,Oo,fun i hi=>nomatch hi⟩
   |cons r l ih =>
    intro h nd
    rw[Me]at nd
    obtain⟨n1,n2,n3⟩:=LR.mp nd
    obtain⟨is,e1,e2,e3⟩:=ih (fun r hr=>h r (LK _ hr)) n2
    obtain⟨i,h1,r',h2,h3⟩:=g r (h r (LI ..))
    refine⟨i::is,by simp[e1],LN.mpr ⟨fun z=>?_,e2⟩,fun j hj=>?_⟩
    ·obtain⟨_,r2,m2,r3,m3,m4⟩:=e3 i z
     rw[h2]at m3
     cases m3
     obtain⟨d,hd⟩:=(q.cr r' (Lz h2)).ne
     exact n3 d (h3 d hd) d (Mq.mpr ⟨r2,m2,m4 d hd⟩) rfl
    ·rcases LC.mp hj with z | z
     ·subst z;exact⟨h1,r,LI ..,r',h2,h3⟩
     ·obtain⟨k1,r2,k2,k3⟩:=e3 j z
      exact⟨k1,r2,LK _ k2,k3⟩
  obtain⟨is,e1,e2,e3⟩:=this rs (fun _ h=>h) p.nd
  rw[← e1]
  exact eu e2 fun i hi=>(e3 i hi).1
 intro rs qs f N p q
 exact O4 (le 0 p q) (le 0 q p)
theorem Ring.cr{f:Nat->Nat}{N:Nat}{r:List Nat}(h:Ring f N r):CR f N r:=by
 refine⟨?_,h.lt,h.nd⟩
 have ne:=h.ne
 match r,h,ne with
 |x::l,h,_ =>
  refine⟨x,l,rfl,?_⟩
  have key:∀(k i:Nat)(y:Nat),i+k+1=(x::l).length->(x::l)[i]?=some y->fB f y ((x::l).drop (i+1)) x:=fun k=>by
   induction k with
   |zero =>
    intro i y hi hy
    have e:=h.nx i y hy
    rw[show(i+1)%(x::l).length=0 by rw[← hi];simp]at e
    rw[List.drop_of_length_le (by omega)]
    exact(L6 e).symm
   |succ k ih =>
    intro i y hi hy
    have e:=h.nx i y hy
    rw[Nc (by omega)]at e
    obtain⟨hl,e2⟩:=Lx.mp e
    rw[MV hl,e2]
    exact⟨rfl,ih (i+1) (f y) (by omega) e⟩
  exact key l.length 0 x (by simp) rfl
theorem dj.part{f:Nat->Nat}{N:Nat}{rs:List (List Nat)}(w:dj f N N rs):Part f N rs:=⟨fun r hr=>(w.ring r hr).cr,w.nd,w.all⟩
end K8
namespace K8
theorem xB{A B:List Nat}{t:Nat}(h:t∉A):(A++t::B).idxOf t=A.length:=by
 rw[List.idxOf_append,if_neg h,OJ,Nat.zero_add]
theorem bh{A B:List Nat}{t:Nat}(h:t∉A):nxt (A++t::B) t=((B++(A++t::B)).head?).getD 0:=by
 unfold nxt
 rw[xB h]
 cases B with
 |nil =>
  have e:(A.length+1)%(A++[t]).length=0:=by rw[Ly,LU,OD]
  rw[e,OG,List.head?_eq_getElem?]
 |cons b B =>
  have e:(A.length+1)%(A++t::b::B).length=A.length+1:=Nc (by simp)
  rw[e,LD (by omega)]
  rw[show A.length+1-A.length=1 by omega]
  rfl
theorem F9{A B:List Nat}{u n:Nat}(h:u∉A):ins (A++u::B) ((A++u::B).idxOf u+1) n=A++u::n::B:=by
 rw[xB h]
 unfold ins
 have e1:(A++u::B).take (A.length+1)=A++[u]:=by
  rw[List.take_append,Ms (by omega),show A.length+1-A.length=1 by omega]
  rfl
 have e2:(A++u::B).drop (A.length+1)=B:=by simp
 rw[e1,e2]
 simp
theorem fZ{l:List Nat}{u:Nat}(h:u∈l):∃ A B,l=A++u::B/\u∉A:=by
 induction l with
 |nil=>exact nomatch h
 |cons a l ih =>
  by_cases z:a=u
  ·subst z;exact⟨[],l,rfl,Nd⟩
  ·rcases LC.mp h with y | y
   ·exact absurd y.symm z
   ·obtain⟨A,B,rfl,k⟩:=ih y
    exact⟨a::A,B,rfl,fun w=>by rcases LC.mp w with w | w;exact z w.symm;exact k w⟩
theorem KI{l:List Nat}{u n:Nat}(hu:u∈l)(hn:n∉l) :
  nxt (ins l (l.idxOf u+1) n) u=n/\nxt (ins l (l.idxOf u+1) n) n=nxt l u/\∀ t∈l,t≠u->nxt (ins l (l.idxOf u+1) n) t=nxt l t:=by
 obtain⟨A,B,rfl,k⟩:=fZ hu
 rw[F9 k]
 have hnA:n∉A:=fun z=>hn (by simp[z])
 have hnu:n≠u:=fun z=>hn (by simp[z])
 refine⟨?_,?_,fun t ht htu=>?_⟩
 ·rw[bh k];rfl
 ·have e:A++u::n::B=(A++[u])++n::B:=by simp
  rw[e,bh (fun z=>by rcases LJ.mp z with z | z;exact hnA z;exact hnu (by simpa using z)),bh k]
  cases B<;>cases A<;>rfl
 ·rcases LJ.mp ht with z | z
  ·obtain⟨A1,A2,rfl,k2⟩:=fZ z
   have e1:(A1++t::A2)++u::n::B=A1++t::(A2++u::n::B):=by simp
   have e2:(A1++t::A2)++u::B=A1++t::(A2++u::B):=by simp
   rw[e1,e2,bh k2,bh k2]
   cases A2<;>rfl
  ·have z':t∈B:=by
    rcases LC.mp z with z | z
    ·exact absurd z htu
    ·exact z
   by_cases tA:t∈A
   ·obtain⟨A1,A2,rfl,k2⟩:=fZ tA
    have e1:(A1++t::A2)++u::n::B=A1++t::(A2++u::n::B):=by simp
    have e2:(A1++t::A2)++u::B=A1++t::(A2++u::B):=by simp
    rw[e1,e2,bh k2,bh k2]
    cases A2<;>rfl
   ·obtain⟨B1,B2,rfl,k2⟩:=fZ z'
    have tn:t≠n:=fun y=>hn (by rw[← y];simp)
    have e1:A++u::n::(B1++t::B2)=(A++u::n::B1)++t::B2:=by simp
    have e2:A++u::(B1++t::B2)=(A++u::B1)++t::B2:=by simp
    rw[e1,e2,bh (by simp[tA,htu,tn,k2]),bh (by simp[tA,htu,k2])]
    cases B2<;>cases A<;>rfl
theorem o7{es:En}{e:Nat×Nat}{t p:Nat}(h:t<es.length):qK (es++[e]) t p=qK es t p:=by
 unfold qK
 rw[LF h]
theorem o8{es:En}{e:Nat×Nat}{p:Nat}:qK (es++[e]) es.length p=if e.1=p then 2*es.length else 2*es.length+1:=by
 unfold qK
 rw[LD (LG _),Md]
 rfl
theorem rj{es:En}{e:Nat×Nat}{d:Nat}(h:d<2*es.length):hd (es++[e]) d=hd es d:=by
 unfold hd
 rw[LF (by omega)]
theorem hd_new{es:En}{e:Nat×Nat}:hd (es++[e]) (2*es.length)=e.2/\hd (es++[e]) (2*es.length+1)=e.1:=by
 have e1:2*es.length/2=es.length:=by omega
 have e2:(2*es.length+1)/2=es.length:=by omega
 constructor
 ·unfold hd
  rw[e1,LD (LG _),Md]
  show(if 2*es.length%2=0 then e.2 else e.1)=_
  rw[if_pos (by omega)]
 ·unfold hd
  rw[e2,LD (LG _),Md]
  show(if(2*es.length+1)%2=0 then e.2 else e.1)=_
  rw[if_neg (by omega)]
theorem hd_inj{m:Nat}{es:En}{ts:List (List Nat)}(w:bJ m es ts){a b:Nat}(ha:a<2*es.length)(hb:b<2*es.length)(h:hd es a=hd es b)(h2:a/2=b/2):a=b:=by
 obtain⟨e1,_,r1,r2,_⟩:=w.at ha
 obtain⟨e2,_,s1,s2,_⟩:=w.at hb
 rw[h2,s1]at r1
 cases r1
 have hne:=(w.ends e1 (Lz s1)).2.2
 rw[r2,s2]at h
 by_cases z1:a%2=0<;>by_cases z2:b%2=0
 ·omega
 ·rw[if_pos z1,if_neg z2]at h;exact absurd h.symm hne
 ·rw[if_neg z1,if_pos z2]at h;exact absurd h hne
 ·omega
def bH(n:Nat)(e:Nat×Nat)(p:Nat):Nat:=if e.1=p then 2*n else 2*n+1
theorem eF{es:En}{ts:List (List Nat)}{d:Nat}{l:List Nat}(h:ts[hd es d]?=some l):fol es ts d=qK es (nxt l (d/2)) (hd es d):=by
 unfold fol
 rw[h]
 rfl
end K8
namespace K8
theorem bJ.flip{m:Nat}{es:En}{ts:List (List Nat)}{a b:Nat}(w:bJ m (es++[(a,b)]) ts):bJ m (es++[(b,a)]) ts:=by
 have key:∀(x y:Nat)(t p:Nat),(∃ e,(es++[(x,y)])[t]?=some e/\(e.1=p∨e.2=p))->∃ e,(es++[(y,x)])[t]?=some e/\(e.1=p∨e.2=p):=fun x y t p=>by
  rintro⟨e,h1,h2⟩
  by_cases z:t<es.length
  ·rw[LF z]at h1
   exact⟨e,by rw[LF z];exact h1,h2⟩
  ·have hl:=(Lx.mp h1).1
   rw[Ly,LU]at hl
   have z':t=es.length:=by omega
   subst z'
   rw[LD (LG _),Md]at h1
   cases h1
   exact⟨(y,x),by rw[LD (LG _),Md];rfl,h2.symm⟩
 refine⟨w.len,fun e he=>?_,w.nd,fun p l h t=>⟨fun z=>key a b t p ((w.mem p l h t).mp z),fun z=>(w.mem p l h t).mpr (key b a t p z)⟩⟩
 rcases LJ.mp he with z | z
 ·exact w.ends e (MC _ z)
 ·have:e=(b,a):=by simpa using z
  subst this
  obtain⟨h1,h2,h3⟩:=w.ends (a,b) (by simp)
  exact⟨h2,h1,fun y=>h3 y.symm⟩
theorem bJ.room{m:Nat}{es:En}{ts:List (List Nat)}(w:bJ m es ts):bJ (m+1) es (ts++[[]]):=by
 refine⟨by rw[Ly,w.len];rfl,fun e he=>?_,fun p l h=>?_,fun p l h t=>?_⟩
 ·obtain⟨h1,h2,h3⟩:=w.ends e he
  exact⟨by omega,by omega,h3⟩
 all_goals by_cases z:p<ts.length
 ·rw[LF z]at h
  exact w.nd p l h
 ·have hl:=(Lx.mp h).1
  rw[Ly,LU]at hl
  have z':p=ts.length:=by omega
  subst z'
  rw[LD (LG _),Md]at h
  cases h
  exact Oo
 ·rw[LF z]at h
  exact w.mem p l h t
 ·have hl:=(Lx.mp h).1
  rw[Ly,LU]at hl
  have z':p=ts.length:=by omega
  subst z'
  rw[LD (LG _),Md]at h
  cases h
  refine⟨(fun y=>nomatch y),?_⟩
  rintro⟨e,h1,h2⟩
  obtain⟨k1,k2,_⟩:=w.ends e (Lz h1)
  have:=w.len
  omega
theorem K7{m:Nat}{es:En}{ts:List (List Nat)}(w:bJ m es ts){p:Nat}{l:List Nat}(h:ts[p]?=some l):es.length∉l:=fun z=>by
 obtain⟨x,hx,_⟩:=(w.mem p l h es.length).mp z
 have:=(Lx.mp hx).1
 omega
theorem mv{m:Nat}{es:En}{ts ts':List (List Nat)}{e:Nat×Nat}{p u:Nat}{l:List Nat}(w:bJ m es ts)(hl:ts[p]?=some l)(hu:u<2*es.length)(hp:hd es u=p)(hl':ts'[p]?=some (ins l (l.idxOf (u/2)+1) es.length)) :
  fol (es++[e]) ts' u=bH es.length e p/\(∀ b,b/2=es.length->hd (es++[e]) b=p->fol (es++[e]) ts' b=fol es ts u)/\∀ d,d<2*es.length->d≠u->hd es d=p->fol (es++[e]) ts' d=fol es ts d:=by
 obtain⟨_,l0,_,_,_,_,g5,g6⟩:=w.at hu
 rw[hp,hl]at g5
 cases g5
 have nn:=K7 w hl
 obtain⟨n1,n2,n3⟩:=KI g6 nn
 have lt:∀ t∈l,nxt l t<es.length:=fun t ht=>by
  obtain⟨x,hx,_⟩:=(w.mem p l hl (nxt l t)).mp (Lz (jL ht))
  exact(Lx.mp hx).1
 refine⟨?_,fun b hb hpb=>?_,fun d hd' hne hpd=>?_⟩
 ·rw[eF (l:=ins l (l.idxOf (u/2)+1) es.length) (by rw[rj hu,hp];exact hl'),n1,rj hu,hp,o8]
  rfl
 ·rw[eF (l:=ins l (l.idxOf (u/2)+1) es.length) (by rw[hpb];exact hl'),hb,n2,hpb,o7 (lt _ g6),eF (l:=l) (by rw[hp];exact hl),hp]
 ·obtain⟨_,l0,_,_,_,_,k5,k6⟩:=w.at hd'
  rw[hpd,hl]at k5
  cases k5
  have tne:d/2≠u/2:=fun z=>hne (hd_inj w hd' hu (hpd.trans hp.symm) z)
  rw[eF (l:=ins l (l.idxOf (u/2)+1) es.length) (by rw[rj hd',hpd];exact hl'),n3 _ k6 tne,rj hd',hpd,o7 (lt _ k6),eF (l:=l) (by rw[hpd];exact hl),hpd]
theorem oy{m:Nat}{es:En}{ts ts':List (List Nat)}{e:Nat×Nat}(w:bJ m es ts){d:Nat}(hd':d<2*es.length)(h:ts'[hd es d]?=ts[hd es d]?):fol (es++[e]) ts' d=fol es ts d:=by
 obtain⟨_,l,_,_,_,_,k5,k6⟩:=w.at hd'
 have lt:nxt l (d/2)<es.length:=by
  obtain⟨x,hx,_⟩:=(w.mem _ l k5 (nxt l (d/2))).mp (Lz (jL k6))
  exact(Lx.mp hx).1
 rw[eF (l:=l) (by rw[rj hd',h];exact k5),rj hd',o7 lt,eF k5]
theorem a7(n:Nat)(e:Nat×Nat)(p:Nat):bH n e p/2=n:=by
 unfold bH
 split<;>omega
theorem oF{es:En}{one two:Nat}{e:Nat×Nat}(hne:one≠two)(he:e=(one,two)∨e=(two,one)):hd (es++[e]) (bH es.length e one)=two/\hd (es++[e]) (bH es.length e two)=one/\bH es.length e one≠bH es.length e two/\∀ d,d<2*(es.length+1)->d<2*es.length∨d=bH es.length e one∨d=bH es.length e two:=by
 obtain⟨h1,h2⟩:=hd_new (es:=es) (e:=e)
 unfold bH
 rcases he with he | he
 ·have c1:e.1=one:=by rw[he]
  have c2:¬ e.1=two:=by rw[he];exact hne
  have c3:e.2=two:=by rw[he]
  rw[if_pos c1,if_neg c2,h1,h2]
  exact⟨c3,c1,by omega,fun d hd=>by omega⟩
 ·have c1:e.1=two:=by rw[he]
  have c2:¬ e.1=one:=by rw[he];exact fun z=>hne z.symm
  have c3:e.2=one:=by rw[he]
  rw[if_pos c1,if_neg c2,h1,h2]
  exact⟨c1,c3,by omega,fun d hd=>by omega⟩
def par(S:Nat->Bool):List Nat->Bool
 |[]=>false
 |d::l=>S (d/2) ^^ par S l
theorem aZ(S:Nat->Bool)(d:Nat)(l:List Nat):par S (d::l)=(S (d/2) ^^ par S l):=rfl
theorem zO(S:Nat->Bool):∀ a b:List Nat,par S (a++b)=(par S a ^^ par S b)
 |[],b=>by show par S b=(false ^^ par S b);rw[Bool.false_xor]
 |x::a,b=>by rw[M1,aZ,aZ,zO S a b,Pe]
theorem B9(S:Nat->Bool){a b:List Nat}(p:a.Perm b):par S a=par S b:=by
 induction p with
 |nil=>rfl
 |cons x _ ih=>rw[aZ,aZ,ih]
 |swap x y l=>rw[aZ,aZ,aZ,aZ,← Pe,← Pe,Pr (S (y/2))]
 |trans _ _ a b=>exact a.trans b
theorem Fn(S:Nat->Bool)(σ:Nat->Nat):∀ l:List Nat,par S (l.map fun d=>2*σ (d/2)+d%2)=par (fun t=>S (σ t)) l
 |[]=>rfl
 |d::l=>by
  rw[Mc,aZ,aZ,Fn S σ l,show(2*σ (d/2)+d%2)/2=σ (d/2) by omega]
def Lv(es:En)(S Pl:Nat->Bool):Prop:=∀(t:Nat)(e:Nat×Nat),es[t]?=some e->S t=(Pl e.1 ^^ Pl e.2)
theorem CG{es:En}{S Pl:Nat->Bool}(h:Lv es S Pl){d:Nat}(hd':d<2*es.length):S (d/2)=(Pl (tl es d) ^^ Pl (hd es d)):=by
 have e1:es[d/2]?=some (es[d/2]'(by omega)):=Lw _
 rw[h _ _ e1]
 unfold tl hd
 rw[e1]
 show _=(Pl (if d%2=0 then es[d/2].1 else es[d/2].2) ^^ Pl (if d%2=0 then es[d/2].2 else es[d/2].1))
 split
 ·rfl
 ·exact Pr _ _
theorem CD{m:Nat}{es:En}{ts:List (List Nat)}{S Pl:Nat->Bool}(w:bJ m es ts)(h:Lv es S Pl):∀{x:Nat}{l:List Nat}{z:Nat},fB (fol es ts) x l z->x<2*es.length->(∀ t∈l,t<2*es.length)->z<2*es.length->par S (l++[z])=(Pl (hd es x) ^^ Pl (hd es z))
 |x,[],z,c,hx,_,hz=>by
  obtain⟨_,_,_,_,_,_,_,_,_,_,k⟩:=w.foll hx
  have c':fol es ts x=z:=c
  rw[OG,aZ,CG h hz,← c',k]
  exact Bool.xor_false _
 |x,a::l,z,c,hx,hl,hz=>by
  obtain⟨_,_,_,_,_,_,_,_,_,_,k⟩:=w.foll hx
  have ha:=hl a (LI ..)
  rw[M1,aZ,CD w h c.2 ha (fun t ht=>hl t (LK _ ht)) hz,CG h ha,← c.1,k]
  cases Pl (hd es x)<;>cases Pl (hd es (fol es ts x))<;>cases Pl (hd es z)<;>rfl
structure Gr(m:Nat)(es:En)(ts:List (List Nat)):Prop where
 w:bJ m es ts
 part:∃ rs,Part (fol es ts) (2*es.length) rs/\m+rs.length=es.length+2
 conn:∀ S:Nat->Prop,(∀ e∈es,S e.1↔S e.2)->∀ p q,p<m->q<m->S p->S q
 cut:∀ S:Nat->Bool,(∀ r,CR (fol es ts) (2*es.length) r->par S r=false)->∃ Pl:Nat->Bool,Lv es S Pl
theorem CR.mono{f g:Nat->Nat}{N M:Nat}{r:List Nat}(h:CR f N r)(hN:N<=M)(k:∀ t∈r,g t=f t):CR g M r:=by
 obtain⟨x,l,rfl,c⟩:=h.ch
 exact⟨⟨x,l,rfl,fm c (k x (LI ..)) fun t ht=>k t (LK _ ht)⟩,fun d hd=>Mw (h.lt d hd) hN,h.nd⟩
theorem IP{m:Nat}{es:En}{e:Nat×Nat}(c:∀ S:Nat->Prop,(∀ e∈es,S e.1↔S e.2)->∀ p q,p<m->q<m->S p->S q):∀ S:Nat->Prop,(∀ x∈es++[e],S x.1↔S x.2)->∀ p q,p<m->q<m->S p->S q :=
 fun S h=>c S fun x hx=>h x (MC _ hx)
theorem Gr.join{m:Nat}{es:En}{ts:List (List Nat)}(g:Gr m es ts){left right one two:Nat}{e:Nat×Nat}{l l' tail:List Nat}(hl:left<2*es.length)(hr:CR (fol es ts) (2*es.length) (left::tail))(hch:fB (fol es ts) left tail left)(hm:right∈left::tail)
  (h1:hd es left=one) (h2:hd es right=two) (hne:one≠two) (he:e=(one,two)∨e=(two,one)) (e1:ts[one]?=some l) (e2:ts[two]?=some l') :
  Gr m (es++[e]) ((ts.set one (ins l (l.idxOf (left/2)+1) es.length)).set two (ins l' (l'.idxOf (right/2)+1) es.length)):=by
 have w:=g.w
 have hrt:right<2*es.length:=hr.lt right hm
 have hlen:=w.len
 have o1:one<m:=by rw[← hlen];exact(Lx.mp e1).1
 have o2:two<m:=by rw[← hlen];exact(Lx.mp e2).1
 have W:bJ m (es++[e]) ((ts.set one (ins l (l.idxOf (left/2)+1) es.length)).set two (ins l' (l'.idxOf (right/2)+1) es.length)):=by
  rcases he with rfl | rfl
  ·exact w.put o1 o2 hne e1 e2
  ·exact(w.put o1 o2 hne e1 e2).flip
 have r1:((ts.set one (ins l (l.idxOf (left/2)+1) es.length)).set two (ins l' (l'.idxOf (right/2)+1) es.length))[one]?=some (ins l (l.idxOf (left/2)+1) es.length):=by
  rw[Mp,if_neg (fun z=>hne z.symm),Mp,if_pos rfl,if_pos (by rw[hlen];exact o1)]
 have r2:((ts.set one (ins l (l.idxOf (left/2)+1) es.length)).set two (ins l' (l'.idxOf (right/2)+1) es.length))[two]?=some (ins l' (l'.idxOf (right/2)+1) es.length):=by
  rw[Mp,if_pos rfl,if_pos (by rw[Mv,hlen];exact o2)]
 have r3:∀ p,p≠one->p≠two->((ts.set one (ins l (l.idxOf (left/2)+1) es.length)).set two (ins l' (l'.idxOf (right/2)+1) es.length))[p]?=ts[p]?:=fun p n1 n2=>by
  rw[Mp,if_neg (fun z=>n2 z.symm),Mp,if_neg (fun z=>n1 z.symm)]
 generalize (ts.set one (ins l (l.idxOf (left/2)+1) es.length)).set two (ins l' (l'.idxOf (right/2)+1) es.length)=ts' at W r1 r2 r3
 obtain⟨a1,a2,a3⟩:=mv (e:=e) w e1 hl h1 r1
 obtain⟨b1,b2,b3⟩:=mv (e:=e) w e2 hrt h2 r2
 obtain⟨d1,d2,d3,d4⟩:=oF (es:=es) hne he
 have fa:=b2 _ (a7 _ _ _) d1
 have fb:=a2 _ (a7 _ _ _) d2
 have els:∀ d,d<2*es.length->d≠left->d≠right->fol (es++[e]) ts' d=fol es ts d:=fun d hd' n1 n2=>by
  by_cases z1:hd es d=one
  ·exact a3 d hd' n1 z1
  ·by_cases z2:hd es d=two
   ·exact b3 d hd' n2 z2
   ·exact oy w hd' (r3 _ z1 z2)
 generalize ha:bH es.length e one=α at *
 generalize hb:bH es.length e two=β at *
 have hα:α/2=es.length:=by rw[← ha];exact a7 _ _ _
 have hβ:β/2=es.length:=by rw[← hb];exact a7 _ _ _
 have hlr:right≠left:=fun z=>hne (by rw[← h1,← h2,z])
 have hm':right∈tail:=by
  rcases LC.mp hm with z | z
  ·exact absurd z hlr
  ·exact z
 obtain⟨xs,ys,rfl⟩:=Ol hm'
 obtain⟨c1,c2⟩:=cj.mp hch
 have nd:=hr.nd
 have ltx:∀ t∈xs,t<2*es.length/\t≠left/\t≠right:=fun t ht=>by
  refine⟨hr.lt t (by simp[ht]),fun z=>?_,fun z=>?_⟩
  ·subst z;exact(LN.mp nd).1 (by simp[ht])
  ·subst z
   have:=(LR.mp (LN.mp nd).2).2.2 t ht t (by simp)
   exact this rfl
 have lty:∀ t∈ys,t<2*es.length/\t≠left/\t≠right:=fun t ht=>by
  refine⟨hr.lt t (by simp[ht]),fun z=>?_,fun z=>?_⟩
  ·subst z;exact(LN.mp nd).1 (by simp[ht])
  ·subst z
   exact(LN.mp (LR.mp (LN.mp nd).2).2.1).1 ht
 obtain⟨rs,p,cnt⟩:=g.part
 obtain⟨rest,pr,cnt2⟩:=p.pick hr
 have ndr:=pr.nd
 rw[Me]at ndr
 obtain⟨_,nd2,nd3⟩:=LR.mp ndr
 have ltr:∀ t∈rest.flatten,t<2*es.length/\t≠left/\t≠right:=fun t ht=>by
  obtain⟨q,q1,q2⟩:=Mq.mp ht
  exact⟨(pr.cr q (LK _ q1)).lt t q2,fun z=>nd3 left (by simp) t ht z.symm,fun z=>nd3 right (by simp) t ht z.symm⟩
 have hlen2:(es++[e]).length=es.length+1:=by rw[Ly];rfl
 have PP:Part (fol (es++[e]) ts') (2*(es++[e]).length) ((left::α::ys)::(right::β::xs)::rest):=by
  refine⟨fun q hq=>?_,?_,fun d hd'=>?_⟩
  ·rcases LC.mp hq with z | z
   ·subst z
    refine⟨⟨left,α::ys,rfl,a1,fm c2 fa fun t ht=>els t (lty t ht).1 (lty t ht).2.1 (lty t ht).2.2⟩,fun d hd'=>?_,?_⟩
    ·rw[hlen2]
     simp only[LC]at hd'
     rcases hd' with y | y | y
     ·omega
     ·omega
     ·have:=(lty d y).1;omega
    ·refine LN.mpr ⟨fun y=>?_,LN.mpr ⟨fun y=>?_,?_⟩⟩
     ·rcases LC.mp y with y | y
      ·omega
      ·exact(lty _ y).2.1 rfl
     ·have:=(lty _ y).1;omega
     ·exact(LN.mp (LR.mp (LN.mp nd).2).2.1).2
   ·rcases LC.mp z with z | z
    ·subst z
     refine⟨⟨right,β::xs,rfl,b1,fm c1 fb fun t ht=>els t (ltx t ht).1 (ltx t ht).2.1 (ltx t ht).2.2⟩,fun d hd'=>?_,?_⟩
     ·rw[hlen2]
      simp only[LC]at hd'
      rcases hd' with y | y | y
      ·omega
      ·omega
      ·have:=(ltx d y).1;omega
     ·refine LN.mpr ⟨fun y=>?_,LN.mpr ⟨fun y=>?_,?_⟩⟩
      ·rcases LC.mp y with y | y
       ·omega
       ·exact(ltx _ y).2.2 rfl
      ·have:=(ltx _ y).1;omega
      ·exact(LR.mp (LN.mp nd).2).1
    ·refine(pr.cr q (LK _ z)).mono (by rw[hlen2];omega) fun t ht=>?_
     obtain⟨k1,k2,k3⟩:=ltr t (Mq.mpr ⟨q,z,ht⟩)
     exact els t k1 k2 k3
  ·have dis:∀ x∈xs,∀ y∈ys,x≠y:=fun x hx y hy=>(LR.mp (LN.mp nd).2).2.2 x hx y (by simp[hy])
   rw[Me,Me]
   refine LR.mpr ⟨?_,LR.mpr ⟨?_,nd2,fun a ha b hb=>?_⟩,fun a ha b hb=>?_⟩
   ·refine LN.mpr ⟨fun y=>?_,LN.mpr ⟨fun y=>?_,(LN.mp (LR.mp (LN.mp nd).2).2.1).2⟩⟩
    ·rcases LC.mp y with y | y
     ·omega
     ·exact(lty _ y).2.1 rfl
    ·have:=(lty _ y).1;omega
   ·refine LN.mpr ⟨fun y=>?_,LN.mpr ⟨fun y=>?_,(LR.mp (LN.mp nd).2).1⟩⟩
    ·rcases LC.mp y with y | y
     ·omega
     ·exact(ltx _ y).2.2 rfl
    ·have:=(ltx _ y).1;omega
   ·obtain⟨k1,k2,k3⟩:=ltr b hb
    simp only[LC]at ha
    rcases ha with y | y | y
    ·exact fun z=>k3 (z▸y)
    ·omega
    ·exact nd3 a (by simp[y]) b hb
   ·simp only[LC,LJ]at ha hb
    rcases hb with(y | y | y) | y
    ·rcases ha with z | z | z
     ·exact fun u=>hlr (by rw[← y,← u,z])
     ·have:=hrt;omega
     ·exact fun u=>(lty a z).2.2 (u.trans y)
    ·rcases ha with z | z | z
     ·omega
     ·omega
     ·have:=(lty a z).1;omega
    ·rcases ha with z | z | z
     ·exact fun u=>(ltx b y).2.1 (u▸z)
     ·have:=(ltx b y).1;omega
     ·exact fun u=>dis b y a z u.symm
    ·obtain⟨k1,k2,k3⟩:=ltr b y
     rcases ha with z | z | z
     ·exact fun u=>k2 (u▸z)
     ·omega
     ·exact nd3 a (by simp[z]) b y
  ·rw[hlen2]at hd'
   simp only[Me,LJ,LC]
   rcases d4 d hd' with y | y | y
   ·have:=pr.all d y
    simp only[Me,LJ,LC]at this
    rcases this with(z | z | z | z) | z
    ·exact .inl (.inl z)
    ·exact .inr (.inl (.inr (.inr z)))
    ·exact .inr (.inl (.inl z))
    ·exact .inl (.inr (.inr z))
    ·exact .inr (.inr z)
   ·exact .inl (.inr (.inl y))
   ·exact .inr (.inl (.inr (.inl y)))
 refine⟨W,⟨_,PP,by rw[hlen2];simp only[Mb]at cnt2 ⊢;omega⟩,IP g.conn,fun S ev=>?_⟩
 have e1:=ev _ (PP.cr _ (LI ..))
 have e2:=ev _ (PP.cr _ (LK _ (LI ..)))
 rw[aZ,aZ,hα]at e1
 rw[aZ,aZ,hβ]at e2
 have lr:left∈left::(xs++right::ys):=LI ..
 have rr:right∈left::(xs++right::ys):=by simp
 have old:∀ r,CR (fol es ts) (2*es.length) r->par S r=false:=fun r hr'=>by
  by_cases hin:left∈r
  ·have pm:r.Perm (left::(xs++right::ys)):=(Oj hr'.nd hr.nd).mpr fun t=>⟨hr'.same hr hin lr t,hr.same hr' lr hin t⟩
   rw[B9 S pm,aZ,zO,aZ]
   revert e1 e2
   generalize S (left/2)=a
   generalize S (right/2)=b
   generalize S es.length=c
   generalize par S xs=d
   generalize par S ys=f
   cases a<;>cases b<;>cases c<;>cases d<;>cases f<;>decide
  ·refine ev r (hr'.mono (by rw[hlen2];omega) fun t ht=>els t (hr'.lt t ht) (fun z=>hin (z▸ht)) fun z=>hin (hr.same hr' rr (z▸ht) left lr))
 obtain⟨Pl,hP⟩:=g.cut S old
 refine⟨Pl,fun t x hx=>?_⟩
 by_cases ht:t<es.length
 ·rw[LF ht]at hx
  exact hP t x hx
 ·have ht2:t=es.length:=by
   have:=(Lx.mp hx).1
   rw[hlen2]at this
   omega
  subst ht2
  rw[LD (LG _),Md]at hx
  have hx':e=x:=L6 hx
  subst hx'
  have tw:=CD w hP c1 hl (fun t ht=>(ltx t ht).1) hrt
  rw[h1,h2,zO,aZ]at tw
  have goal:S es.length=(Pl one ^^ Pl two):=by
   rw[← tw]
   revert e2
   show _->S es.length=(par S xs ^^ (S (right/2) ^^ false))
   generalize S (right/2)=b
   generalize S es.length=c
   generalize par S xs=d
   cases b<;>cases c<;>cases d<;>decide
  rcases he with z | z
  ·rw[z];exact goal
  ·rw[z];exact goal.trans (Pr _ _)
end K8
namespace K8
theorem Gr.leaf{m:Nat}{es:En}{ts:List (List Nat)}(g:Gr m es ts){left one:Nat}{e:Nat×Nat}{l tail:List Nat}(hl:left<2*es.length)(hr:CR (fol es ts) (2*es.length) (left::tail))(hch:fB (fol es ts) left tail left)
  (h1:hd es left=one) (he:e=(one,m)∨e=(m,one)) (e1:ts[one]?=some l) :
  Gr (m+1) (es++[e]) (ts.set one (ins l (l.idxOf (left/2)+1) es.length)++[[es.length]]):=by
 have w:=g.w
 have hlen:=w.len
 have o1:one<m:=by rw[← hlen];exact(Lx.mp e1).1
 have hne:one≠m:=by omega
 have W:bJ (m+1) (es++[e]) (ts.set one (ins l (l.idxOf (left/2)+1) es.length)++[[es.length]]):=by
  have q:=w.room.put (one:=one) (two:=m) (k:=l.idxOf (left/2)+1) (j:=0) (l:=l) (l':=[]) (by omega) (by omega) hne (by rw[LF (by omega)];exact e1) (by rw[LD (by omega),hlen,Md];rfl)
  have q2:((ts++[[]]).set one (ins l (l.idxOf (left/2)+1) es.length)).set m (ins [] 0 es.length)=ts.set one (ins l (l.idxOf (left/2)+1) es.length)++[[es.length]]:=by
   rw[OI _ _ (by omega),OE _ _ (by rw[Mv];omega),Mv,hlen,Md]
   rfl
  rw[q2]at q
  rcases he with rfl | rfl
  ·exact q
  ·exact q.flip
 have r1:(ts.set one (ins l (l.idxOf (left/2)+1) es.length)++[[es.length]])[one]?=some (ins l (l.idxOf (left/2)+1) es.length):=by
  rw[LF (by rw[Mv];omega),Mp,if_pos rfl,if_pos (by omega)]
 have r2:(ts.set one (ins l (l.idxOf (left/2)+1) es.length)++[[es.length]])[m]?=some [es.length]:=by
  rw[LD (by rw[Mv];omega),Mv,hlen,Md]
  rfl
 have r3:∀ p,p≠one->p<m->(ts.set one (ins l (l.idxOf (left/2)+1) es.length)++[[es.length]])[p]?=ts[p]?:=fun p n1 n2=>by
  rw[LF (by rw[Mv];omega),Mp,if_neg (fun z=>n1 z.symm)]
 generalize ts.set one (ins l (l.idxOf (left/2)+1) es.length)++[[es.length]]=ts' at W r1 r2 r3
 obtain⟨a1,a2,a3⟩:=mv (e:=e) w e1 hl h1 r1
 obtain⟨d1,d2,d3,d4⟩:=oF (es:=es) hne he
 have fb:=a2 _ (a7 _ _ _) d2
 have fa:fol (es++[e]) ts' (bH es.length e one)=bH es.length e m:=by
  rw[eF (l:=[es.length]) (by rw[d1];exact r2),a7,d1]
  have:nxt [es.length] es.length=es.length:=by
   unfold nxt
   rw[OJ]
   simp
  rw[this,o8]
  rfl
 have els:∀ d,d<2*es.length->d≠left->fol (es++[e]) ts' d=fol es ts d:=fun d hd' n1=>by
  by_cases z1:hd es d=one
  ·exact a3 d hd' n1 z1
  ·obtain⟨_,_,_,_,_,k4,_⟩:=w.at hd'
   exact oy w hd' (r3 _ z1 k4)
 generalize ha:bH es.length e one=α at *
 generalize hb:bH es.length e m=β at *
 have hα:α/2=es.length:=by rw[← ha];exact a7 _ _ _
 have hβ:β/2=es.length:=by rw[← hb];exact a7 _ _ _
 have nd:=hr.nd
 have ltt:∀ t∈tail,t<2*es.length/\t≠left:=fun t ht=>⟨hr.lt t (by simp[ht]),fun z=>(LN.mp nd).1 (z▸ht)⟩
 obtain⟨rs,p,cnt⟩:=g.part
 obtain⟨rest,pr,cnt2⟩:=p.pick hr
 have ndr:=pr.nd
 rw[Me]at ndr
 obtain⟨_,nd2,nd3⟩:=LR.mp ndr
 have ltr:∀ t∈rest.flatten,t<2*es.length/\t≠left:=fun t ht=>by
  obtain⟨q,q1,q2⟩:=Mq.mp ht
  exact⟨(pr.cr q (LK _ q1)).lt t q2,fun z=>nd3 left (by simp) t ht z.symm⟩
 have hlen2:(es++[e]).length=es.length+1:=by rw[Ly];rfl
 have nd4:(left::α::β::tail).Nodup:=by
  refine LN.mpr ⟨fun y=>?_,LN.mpr ⟨fun y=>?_,LN.mpr ⟨fun y=>?_,(LN.mp nd).2⟩⟩⟩
  ·simp only[LC]at y
   rcases y with y | y | y
   ·omega
   ·omega
   ·exact(ltt _ y).2 rfl
  ·simp only[LC]at y
   rcases y with y | y
   ·exact d3 y
   ·have:=(ltt _ y).1;omega
  ·have:=(ltt _ y).1;omega
 have PP:Part (fol (es++[e]) ts') (2*(es++[e]).length) ((left::α::β::tail)::rest):=by
  refine⟨fun q hq=>?_,?_,fun d hd'=>?_⟩
  ·rcases LC.mp hq with z | z
   ·subst z
    refine⟨⟨left,α::β::tail,rfl,a1,fa,fm hch fb fun t ht=>els t (ltt t ht).1 (ltt t ht).2⟩,fun d hd'=>?_,nd4⟩
    rw[hlen2]
    simp only[LC]at hd'
    rcases hd' with y | y | y | y
    ·omega
    ·omega
    ·omega
    ·have:=(ltt d y).1;omega
   ·refine(pr.cr q (LK _ z)).mono (by rw[hlen2];omega) fun t ht=>?_
    obtain⟨k1,k2⟩:=ltr t (Mq.mpr ⟨q,z,ht⟩)
    exact els t k1 k2
  ·rw[Me]
   refine LR.mpr ⟨nd4,nd2,fun a ha b hb=>?_⟩
   obtain⟨k1,k2⟩:=ltr b hb
   simp only[LC]at ha
   rcases ha with y | y | y | y
   ·exact fun u=>k2 (u▸y)
   ·omega
   ·omega
   ·exact nd3 a (by simp[y]) b hb
  ·rw[hlen2]at hd'
   simp only[Me,LJ,LC]
   rcases d4 d hd' with y | y | y
   ·have:=pr.all d y
    simp only[Me,LJ,LC]at this
    rcases this with(z | z) | z
    ·exact .inl (.inl z)
    ·exact .inl (.inr (.inr (.inr z)))
    ·exact .inr z
   ·exact .inl (.inr (.inl y))
   ·exact .inl (.inr (.inr (.inl y)))
 refine⟨W,⟨_,PP,by rw[hlen2];simp only[Mb]at cnt2 ⊢;omega⟩,fun S hS x y hx hy sx=>?_,fun S ev=>?_⟩
 ·-- in one piece
  have hSe:S one↔S m:=by
   have:=hS e (by simp)
   rcases he with rfl | rfl
   ·exact this
   ·exact this.symm
  have old:=g.conn S fun x hx=>hS x (MC _ hx)
  have toOne:S one:=by
   by_cases z:x<m
   ·exact old x one z o1 sx
   ·have:x=m:=by omega
    subst this
    exact hSe.mpr sx
  by_cases z:y<m
  ·exact old one y o1 z toOne
  ·have:y=m:=by omega
   subst this
   exact hSe.mp toOne
 ·have e1:=ev _ (PP.cr _ (LI ..))
  rw[aZ,aZ,aZ,hα,hβ]at e1
  have old:∀ r,CR (fol es ts) (2*es.length) r->par S r=false:=fun r hr'=>by
   by_cases hin:left∈r
   ·have pm:r.Perm (left::tail):=(Oj hr'.nd hr.nd).mpr fun t=>⟨hr'.same hr hin (LI ..) t,hr.same hr' (LI ..) hin t⟩
    rw[B9 S pm,aZ]
    revert e1
    generalize S (left/2)=a
    generalize S es.length=c
    generalize par S tail=d
    cases a<;>cases c<;>cases d<;>decide
   ·exact ev r (hr'.mono (by rw[hlen2];omega) fun t ht=>els t (hr'.lt t ht) fun z=>hin (z▸ht))
  obtain⟨Pl,hP⟩:=g.cut S old
  refine⟨fun p=>if p=m then(Pl one ^^ S es.length) else Pl p,fun t x hx=>?_⟩
  by_cases ht:t<es.length
  ·rw[LF ht]at hx
   obtain⟨b1,b2,_⟩:=w.ends x (Lz hx)
   show S t=((if x.1=m then _ else Pl x.1) ^^ (if x.2=m then _ else Pl x.2))
   rw[if_neg (by omega),if_neg (by omega)]
   exact hP t x hx
  ·have ht2:t=es.length:=by
    have:=(Lx.mp hx).1
    rw[hlen2]at this
    omega
   subst ht2
   rw[LD (LG _),Md]at hx
   have hx':e=x:=L6 hx
   subst hx'
   rcases he with z | z
   ·rw[z]
    show S es.length=((if one=m then _ else Pl one) ^^ (if m=m then(Pl one ^^ S es.length) else _))
    rw[if_neg hne,if_pos rfl]
    cases Pl one<;>cases S es.length<;>rfl
   ·rw[z]
    show S es.length=((if m=m then(Pl one ^^ S es.length) else _) ^^ (if one=m then _ else Pl one))
    rw[if_neg hne,if_pos rfl]
    cases Pl one<;>cases S es.length<;>rfl
theorem gr_two:Gr 2 [(0,1)] [[0],[0]]:=by
 have W:bJ 2 [(0,1)] [[0],[0]]:=by
  refine⟨rfl,fun e he=>?_,fun p l h=>?_,fun p l h t=>?_⟩
  ·have:e=(0,1):=by simpa using he
   subst this
   exact⟨by decide,by decide,by decide⟩
  ·match p,h with
   |0,h=>cases h;decide
   |1,h=>cases h;decide
   |p+2,h=>cases h
  ·have key:(∃ e,([(0,1)]:En)[t]?=some e/\(e.1=p∨e.2=p))↔t=0/\(p=0∨p=1):=by
    constructor
    ·rintro⟨e,h1,h2⟩
     match t,h1 with
     |0,h1=>cases h1;exact⟨rfl,h2.imp Eq.symm Eq.symm⟩
     |t+1,h1=>cases h1
    ·rintro⟨rfl,h2⟩
     exact⟨(0,1),rfl,h2.imp Eq.symm Eq.symm⟩
   rw[key]
   match p,h with
   |0,h=>cases h;simp
   |1,h=>cases h;simp
   |p+2,h=>cases h
 refine⟨W,⟨[[0,1]],⟨fun r hr=>?_,by decide,fun d hd=>?_⟩,rfl⟩,fun S hS p q hp hq sp=>?_,fun S ev=>?_⟩
 ·have:r = [0,1]:=by simpa using hr
  subst this
  exact⟨⟨0,[1],rfl,by decide,(by show fol [(0,1)] [[0],[0]] 1=0;decide)⟩,fun d hd=>by simp at hd ⊢;omega,by decide⟩
 ·have hd2:d<2:=hd
  simp
  omega
 ·have:=hS (0,1) (by simp)
  have h01:S 0↔S 1:=this
  have hp':p=0∨p=1:=by omega
  have hq':q=0∨q=1:=by omega
  rcases hp' with rfl | rfl<;>rcases hq' with rfl | rfl
  ·exact sp
  ·exact h01.mp sp
  ·exact h01.mpr sp
  ·exact sp
 ·refine⟨fun p=>if p=1 then S 0 else false,fun t x hx=>?_⟩
  match t,hx with
  |0,hx =>
   cases hx
   show S 0=((if(0:Nat)=1 then S 0 else false) ^^ (if(1:Nat)=1 then S 0 else false))
   rw[if_neg (by decide),if_pos rfl,Bool.false_xor]
  |t+1,hx=>cases hx
end K8
namespace K8
structure Bij(F:Nat->Nat)(n:Nat):Prop where
 lt:∀ k,k<n->F k<n
 inj:∀ a b,a<n->b<n->F a=F b->a=b
 sur:∀ y,y<n->∃ k,k<n/\F k=y
def ofL(o:List Nat)(k:Nat):Nat:=(o[k]?).getD 0
theorem CK{o:List Nat}{n:Nat}(hl:o.length=n)(nd:o.Nodup)(h:∀ x∈o,x<n):Bij (ofL o) n:=by
 have get:∀ k,k<n->o[k]?=some (ofL o k):=fun k hk=>by
  unfold ofL
  rw[Lw (by omega)]
  rfl
 refine⟨fun k hk=>h _ (Lz (get k hk)),fun a b ha hb e=>Ci nd (get a ha) (by rw[get b hb,e]),fun y hy=>?_⟩
 have hm:y∈o:=by
  by_cases z:y∈o
  ·exact z
  ·have:=eu (a:=y::o) (N:=n) (LN.mpr ⟨z,nd⟩) fun x hx=>by
    rcases LC.mp hx with u | u
    ·omega
    ·exact h x u
   rw[Mb]at this
   omega
 obtain⟨k,hk⟩:=MD.mp hm
 have hkl:=(Lx.mp hk).1
 refine⟨k,by omega,?_⟩
 have:=get k (by omega)
 rw[hk]at this
 exact(L6 this).symm
theorem oX{F:Nat->Nat}:∀{l:List Nat},l.Nodup->(∀ x∈l,∀ y∈l,F x=F y->x=y)->(l.map F).Nodup
 |[],_,_=>Oo
 |a::l,nd,h=>by
  obtain⟨n1,n2⟩:=LN.mp nd
  refine LN.mpr ⟨fun z=>?_,oX n2 fun x hx y hy=>h x (LK _ hx) y (LK _ hy)⟩
  obtain⟨x,hx,e⟩:=L9.mp z
  have:=h x (LK _ hx) a (LI ..) e
  exact n1 (this▸hx)
theorem KH{F:Nat->Nat}{l:List Nat}{t:Nat}(ht:t∈l)(h:∀ x∈l,F x=F t->x=t):nxt (l.map F) (F t)=F (nxt l t):=by
 obtain⟨A,B,rfl,k⟩:=fZ ht
 have k2:F t∉A.map F:=fun z=>by
  obtain⟨x,hx,e⟩:=L9.mp z
  exact k (h x (by simp[hx]) e▸hx)
 rw[Mu,Mc,bh k2,bh k]
 cases B<;>cases A<;>rfl
theorem KG{X Y:List Nat}{t:Nat}(nd:(X++Y).Nodup)(ht:t∈X++Y):nxt (Y++X) t=nxt (X++Y) t:=by
 obtain⟨n1,n2,n3⟩:=LR.mp nd
 rcases LJ.mp ht with z | z
 ·have tY:t∉Y:=fun y=>n3 t z t y rfl
  obtain⟨A,B,rfl,k⟩:=fZ z
  have e1:Y++(A++t::B)=(Y++A)++t::B:=by simp
  have e2:(A++t::B)++Y=A++t::(B++Y):=by simp
  rw[e1,e2,bh (by simp[tY,k]),bh k]
  cases B<;>cases Y<;>cases A<;>rfl
 ·have tX:t∉X:=fun y=>n3 t y t z rfl
  obtain⟨A,B,rfl,k⟩:=fZ z
  have e1:(A++t::B)++X=A++t::(B++X):=by simp
  have e2:X++(A++t::B)=(X++A)++t::B:=by simp
  rw[e1,e2,bh k,bh (by simp[tX,k])]
  cases B<;>cases X<;>cases A<;>rfl
structure Ren(m:Nat)(es es2:En)(ts ts2:List (List Nat))(π σ:Nat->Nat):Prop where
 pi:Bij π m
 si:Bij σ es.length
 l1:es2.length=es.length
 l2:ts2.length=m
 es:∀(k:Nat)(e:Nat×Nat),es[k]?=some e->es2[σ k]?=some (π e.1,π e.2)
 ts:∀(p:Nat)(l:List Nat),ts[p]?=some l->∃ X Y,l=X++Y/\ts2[π p]?=some ((Y++X).map σ)
section
variable{m:Nat}{es es2:En}{ts ts2:List (List Nat)}{π σ:Nat->Nat}
theorem Ren.es'(R:Ren m es es2 ts ts2 π σ){j:Nat}{x:Nat×Nat}(h:es2[j]?=some x):∃ k e,σ k=j/\es[k]?=some e/\x=(π e.1,π e.2):=by
 have hj:=(Lx.mp h).1
 rw[R.l1]at hj
 obtain⟨k,hk,rfl⟩:=R.si.sur j hj
 have e1:es[k]?=some es[k]:=Lw hk
 have:=R.es k _ e1
 rw[h]at this
 exact⟨k,_,rfl,e1,L6 this⟩
theorem Ren.ts'(R:Ren m es es2 ts ts2 π σ)(w:bJ m es ts){j:Nat}{L:List Nat}(h:ts2[j]?=some L):∃ p l X Y,p<m/\π p=j/\ts[p]?=some l/\l=X++Y/\L=(Y++X).map σ:=by
 have hj:=(Lx.mp h).1
 rw[R.l2]at hj
 obtain⟨p,hp,rfl⟩:=R.pi.sur j hj
 have e1:ts[p]?=some (ts[p]'(by rw[w.len];exact hp)):=Lw _
 obtain⟨X,Y,h1,h2⟩:=R.ts p _ e1
 rw[h]at h2
 exact⟨p,_,X,Y,hp,rfl,e1,h1,L6 h2⟩
theorem nc(w:bJ m es ts){p:Nat}{l:List Nat}(h:ts[p]?=some l){t:Nat}(ht:t∈l):t<es.length:=by
 obtain⟨x,hx,_⟩:=(w.mem p l h t).mp ht
 exact(Lx.mp hx).1
theorem Ren.turn(R:Ren m es es2 ts ts2 π σ)(w:bJ m es ts):bJ m es2 ts2:=by
 refine⟨R.l2,fun x hx=>?_,fun j L h=>?_,fun j L h t=>?_⟩
 ·obtain⟨j,hj⟩:=MD.mp hx
  obtain⟨k,e,_,h1,rfl⟩:=R.es' hj
  obtain⟨a1,a2,a3⟩:=w.ends e (Lz h1)
  exact⟨R.pi.lt _ a1,R.pi.lt _ a2,fun z=>a3 (R.pi.inj _ _ a1 a2 z)⟩
 ·obtain⟨p,l,X,Y,hp,rfl,h1,rfl,rfl⟩:=R.ts' w h
  have nd:=w.nd p _ h1
  obtain⟨n1,n2,n3⟩:=LR.mp nd
  refine oX (LR.mpr ⟨n2,n1,fun a ha b hb z=>n3 b hb a ha z.symm⟩) fun x hx y hy=>R.si.inj x y (nc w h1 ?_) (nc w h1 ?_)
  ·simp only[LJ]at hx ⊢;exact hx.symm
  ·simp only[LJ]at hy ⊢;exact hy.symm
 ·obtain⟨p,l,X,Y,hp,rfl,h1,rfl,rfl⟩:=R.ts' w h
  constructor
  ·intro z
   obtain⟨k,hk,rfl⟩:=L9.mp z
   obtain⟨e,h2,h3⟩:=(w.mem p _ h1 k).mp (by simp only[LJ]at hk ⊢;exact hk.symm)
   exact⟨_,R.es k e h2,h3.imp (congrArg π) (congrArg π)⟩
  ·rintro⟨x,h2,h3⟩
   obtain⟨k,e,rfl,h4,rfl⟩:=R.es' h2
   obtain⟨a1,a2,a3⟩:=w.ends e (Lz h4)
   have hk:=(w.mem p _ h1 k).mpr ⟨e,h4,h3.imp (R.pi.inj _ _ a1 hp) (R.pi.inj _ _ a2 hp)⟩
   exact L9.mpr ⟨k,by simp only[LJ]at hk ⊢;exact hk.symm,rfl⟩
def Phi(σ:Nat->Nat)(d:Nat):Nat:=2*σ (d/2)+d%2
theorem oG(d:Nat):Phi σ d/2=σ (d/2):=by unfold Phi;omega
theorem Ren.hd(R:Ren m es es2 ts ts2 π σ){d:Nat}(hd':d<2*es.length):hd es2 (Phi σ d)=π (hd es d):=by
 have e1:es[d/2]?=some (es[d/2]'(by omega)):=Lw _
 have e2:=R.es _ _ e1
 unfold K8.hd
 rw[oG,e1,e2]
 have hm:Phi σ d%2=d%2:=by unfold Phi;omega
 show(if Phi σ d%2=0 then π es[d/2].2 else π es[d/2].1)=π (if d%2=0 then es[d/2].2 else es[d/2].1)
 rw[hm]
 split<;>rfl
theorem Ren.fol(R:Ren m es es2 ts ts2 π σ)(w:bJ m es ts){d:Nat}(hd':d<2*es.length):fol es2 ts2 (Phi σ d)=Phi σ (fol es ts d):=by
 obtain⟨_,l,_,_,_,k4,k5,k6⟩:=w.at hd'
 obtain⟨X,Y,rfl,h2⟩:=R.ts _ _ k5
 have nd:=w.nd _ _ k5
 rw[eF (l:=(Y++X).map σ) (by rw[R.hd hd'];exact h2),eF k5,oG,R.hd hd']
 have k7:d/2∈Y++X:=by simp only[LJ]at k6 ⊢;exact k6.symm
 rw[KH k7 fun x hx=>R.si.inj x _ (nc w k5 (by simp only[LJ]at hx ⊢;exact hx.symm)) (nc w k5 k6),KG nd k6]
 have hn:=Lz (jL k6)
 have hlt:=nc w k5 hn
 generalize nxt (X++Y) (d/2)=t at hlt
 have e1:es[t]?=some es[t]:=Lw hlt
 have a1:=(w.ends _ (Lz e1)).1
 unfold qK
 rw[R.es _ _ e1,e1]
 show(if π es[t].1=π (K8.hd es d) then 2*σ t else 2*σ t+1)=Phi σ (if es[t].1=K8.hd es d then 2*t else 2*t+1)
 by_cases z:es[t].1=K8.hd es d
 ·rw[if_pos z,if_pos (congrArg π z)]
  unfold Phi
  rw[show 2*t/2=t by omega]
  omega
 ·rw[if_neg z,if_neg (fun y=>z (R.pi.inj _ _ a1 k4 y))]
  unfold Phi
  rw[show(2*t+1)/2=t by omega]
  omega
theorem qk(b:Bij σ es.length){x y:Nat}(hx:x<2*es.length)(hy:y<2*es.length)(e:Phi σ x=Phi σ y):x=y:=by
 have e1:σ (x/2)=σ (y/2):=by
  have h1:=oG (σ:=σ) x
  have h2:=oG (σ:=σ) y
  rw[e]at h1
  exact h1.symm.trans h2
 have:=b.inj _ _ (by omega) (by omega) e1
 unfold Phi at e
 omega
theorem Ren.gr(R:Ren m es es2 ts ts2 π σ)(g:Gr m es ts):Gr m es2 ts2:=by
 obtain⟨rs,p,cnt⟩:=g.part
 have flt:∀ d∈rs.flatten,d<2*es.length:=fun d hd=>by
  obtain⟨r,h1,h2⟩:=Mq.mp hd
  exact(p.cr r h1).lt d h2
 have hfl:(rs.map (Od (Phi σ))).flatten=rs.flatten.map (Phi σ):=List.map_flatten.symm
 refine⟨R.turn g.w,⟨rs.map (Od (Phi σ)),⟨fun q hq=>?_,?_,fun d hd=>?_⟩,by rw[LB,R.l1];exact cnt⟩,fun S hS x y hx hy sx=>?_,fun S ev=>?_⟩
 ·obtain⟨r,hr,rfl⟩:=L9.mp hq
  have c:=p.cr r hr
  obtain⟨x,l,rfl,ch⟩:=c.ch
  refine⟨⟨Phi σ x,l.map (Phi σ),rfl,k8 ch fun t ht=>R.fol g.w (c.lt t ht)⟩,fun d hd=>?_,oX c.nd fun a ha b hb=>qk R.si (c.lt a ha) (c.lt b hb)⟩
  obtain⟨t,ht,rfl⟩:=L9.mp hd
  have h1:=c.lt t ht
  have h2:=R.si.lt (t/2) (by omega)
  rw[R.l1]
  unfold Phi
  omega
 ·rw[hfl]
  exact oX p.nd fun a ha b hb=>qk R.si (flt a ha) (flt b hb)
 ·rw[R.l1]at hd
  obtain⟨k,hk,e⟩:=R.si.sur (d/2) (by omega)
  rw[hfl]
  refine L9.mpr ⟨2*k+d%2,p.all _ (by omega),?_⟩
  unfold Phi
  rw[show(2*k+d%2)/2=k by omega,e]
  omega
 ·obtain⟨x',hx',rfl⟩:=R.pi.sur x hx
  obtain⟨y',hy',rfl⟩:=R.pi.sur y hy
  refine g.conn (fun p=>S (π p)) (fun e he=>?_) x' y' hx' hy' sx
  obtain⟨k,hk⟩:=MD.mp he
  exact hS (π e.1,π e.2) (Lz (R.es k e hk))
 ·obtain⟨Pl,hP⟩:=g.cut (fun t=>S (σ t)) fun r hr=>by
   rw[← Fn S σ r]
   refine ev _ ?_
   obtain⟨x,l,rfl,ch⟩:=hr.ch
   refine⟨⟨Phi σ x,l.map (Phi σ),rfl,k8 ch fun t ht=>R.fol g.w (hr.lt t ht)⟩,fun d hd=>?_,oX hr.nd fun a ha b hb=>qk R.si (hr.lt a ha) (hr.lt b hb)⟩
   obtain⟨t,ht,rfl⟩:=L9.mp hd
   have h1:=hr.lt t ht
   have h2:=R.si.lt (t/2) (by omega)
   rw[R.l1]
   omega
  have inv:∀ p,p<m->((MH m).find? fun q=>decide (π q=π p))=some p:=fun p hp=>by
   cases z:(MH m).find? fun q=>decide (π q=π p) with
   |none=>exact absurd (decide_eq_true rfl) (List.find?_eq_none.mp z p (Nj.mpr hp))
   |some q =>
    have h0:=List.find?_some z
    have h1:π q=π p:=of_decide_eq_true h0
    rw[R.pi.inj q p (Nj.mp (List.mem_of_find?_eq_some z)) hp h1]
  refine⟨fun y=>Pl (((MH m).find? fun q=>decide (π q=y)).getD 0),fun j x hx=>?_⟩
  obtain⟨k,e,rfl,h1,rfl⟩:=R.es' hx
  obtain⟨b1,b2,_⟩:=g.w.ends e (Lz h1)
  show S (σ k)=(Pl (((MH m).find? fun q=>decide (π q=π e.1)).getD 0) ^^ Pl (((MH m).find? fun q=>decide (π q=π e.2)).getD 0))
  rw[inv _ b1,inv _ b2]
  exact hP k e h1
end
end K8
namespace K8
open PySem L2
local macro_rules | `(tactic| walk_at "cc") => `(tactic| first | exact ⟨by decide, by decide⟩ | (show (0 : Int) < _; decide) | (show (0 : Int) < _; omega) | (show (0 : Int) ≤ _; omega) | exact ⟨by decide, by decide, by decide⟩ | exact ⟨by omega, by omega, by decide⟩ | exact Or.inl ⟨by decide, by decide⟩ | exact Or.inl ⟨by omega, by omega⟩)
local macro_rules | `(tactic| walk_at "rd") => `(tactic| repeat (first | refine ⟨_, rfl, ?_⟩ | refine ⟨_, _, rfl, rfl, ?_⟩ | refine ⟨rfl, ?_⟩ | (refine ⟨?cc, ?_⟩; (case cc => walk_at "cc"))))
def top(i:Nat):Stmt:=PySem.Challenge.pw_spinfloor_k11_whole_texts.main.body.getD i (.Pass ⟨0,0,0,0⟩)
abbrev cB:Stmt:=uK (top 9) 0
abbrev eg:Stmt:=uK (top 9) 1
abbrev cZ:Stmt:=uK (top 11) 0
abbrev rh:Stmt:=top 13
abbrev fP:Stmt:=top 14
abbrev d9:Stmt:=top 15
abbrev cq:Stmt:=top 16
abbrev cT:Stmt:=top 17
abbrev dU:Stmt:=top 18
abbrev fO:Stmt:=top 20
abbrev bQ:Stmt:=top 22
abbrev bL:Stmt:=top 23
abbrev bw:Stmt:=top 24
abbrev cA:Stmt:=uK (top 25) 0
abbrev i9:Stmt:=top 29
abbrev fN:Stmt:=top 30
abbrev fM:Stmt:=top 31
abbrev cU:Stmt:=top 32
abbrev cz:Stmt:=top 33
abbrev bp:Stmt:=top 34
abbrev bR:Stmt:=top 35
abbrev dS:Stmt:=top 36
abbrev cR:Stmt:=top 37
abbrev lJ:Stmt:=top 38
abbrev ja:Stmt:=top 39
abbrev cS:Stmt:=top 40
abbrev cp:Stmt:=top 41
abbrev rf:Stmt:=top 42
abbrev ra:Stmt:=top 43
abbrev d8:Stmt:=top 45
abbrev d7:Stmt:=top 46
abbrev fQ:Stmt:=top 47
abbrev dY:Stmt:=top 48
abbrev cY:Stmt:=top 49
abbrev cW:Stmt:=top 50
abbrev bq:Stmt:=top 51
abbrev cX:Stmt:=top 52
abbrev dX:Stmt:=top 53
abbrev cx:Stmt:=top 54
abbrev dZ:Stmt:=top 55
abbrev cu:Stmt:=top 56
abbrev cV:Stmt:=top 57
abbrev bx:Stmt:=top 58
abbrev cy:Stmt:=top 59
abbrev cv:Stmt:=top 60
abbrev sS:Stmt:=top 61
def tf(a b s:Int):List (Str×V):=putF "strength" (.int s) (putF "two" (.int b) (putF "one" (.int a) []))
theorem kG(a b s:Int):(tf a b s).lookup ("one" : Str)=some (.int a):=by
 unfold tf
 rw[aC,if_neg (by decide +kernel),aC,if_neg (by decide +kernel),aC,if_pos rfl]
theorem oK(a b s:Int):(tf a b s).lookup ("two" : Str)=some (.int b):=by
 unfold tf
 rw[aC,if_neg (by decide +kernel),aC,if_pos rfl]
theorem ED(a b s:Int):(tf a b s).lookup ("strength" : Str)=some (.int s):=by
 unfold tf
 rw[aC,if_pos rfl]
theorem tf_no(a b s:Int){m:Str} (h1:¬ m = "strength") (h2:¬ m = "two") (h3:¬ m = "one"):(tf a b s).lookup m=none:=by
 unfold tf
 rw[aC,if_neg h1,aC,if_neg h2,aC,if_neg h3]
 all_goals rfl
theorem f1_len(a:Int):(putF "one" (.int a) []).length<1000:=by show 1<1000;decide
theorem f2_len(a b:Int):(putF "two" (.int b) (putF "one" (.int a) [])).length<1000:=by
 have e:(putF "two" (.int b) (putF "one" (.int a) []):List (Str×V))=([("one",.int a),("two",.int b)]:List (Str×V)):=by
  show(if("one" : Str) = "two" then[(("one" : Str),V.int b)] else(("one" : Str),V.int a)::putF "two" (V.int b) [])=_
  rw[if_neg (by decide +kernel)]
  all_goals rfl
 rw[e]
 show 2<1000
 decide
structure CT(K:LA)(C:Addr):Prop where
 cl:Cls K C
 n1:ft K C "one"
 n2:ft K C "two"
 n3:ft K C "strength"
def mZ(K:LA):Sp:=fun vs H Q _=>∃(p C dx:Addr)(a b s:Int),vs = [.ref p,.int a,.int b,.int s]/\H p=some (.ins C dx [])/\CT K C/\a≠b/\0<=a/\0<=b/\0<=s /\
 ∀ H',H' p=some (.ins C dx (tf a b s))->(∀ q o,H q=some o->q≠p->H' q=some o)->Q .non H'
theorem ai{H:Hp}{p:Addr}(h:H p=none)(o:HO):Same H (upd H p o):=fun b u q=>by rw[au (aJ q h)];exact q
theorem a9{H H2:Hp}{l:Addr}(h:Same H H2)(hl:H l=none)(o:HO):Same H (upd H2 l o):=fun b u q=>by rw[au (aJ q hl)];exact h b u q
def iV(p:Nat):V:=.int (p:Int)
theorem iV_at{hs:List Nat}{k x:Nat}(h:hs[k]?=some x):atI (hs.map iV) (k:Int)=some (iV x):=aD (by rw[LL,h];rfl)
def cP(H:Hp)(ys:List V)(es:En):Prop:=ys.length=es.length/\∀(i:Nat)(e:Nat×Nat),es[i]?=some e->∃ p,ys[i]?=some (.ref p)/\H p=some (.tup [iV e.1,iV e.2])
theorem cP.mono{H H':Hp}{ys:List V}{es:En}(h:cP H ys es)(s:Same H H'):cP H' ys es:=⟨h.1,fun i e q=>by
 obtain⟨p,a,b⟩:=h.2 i e q
 exact⟨p,a,s _ _ b⟩⟩
def dH(K:LA)(H:Hp)(xs:List V)(es:En):Prop:=xs.length=es.length/\∀(i:Nat)(e:Nat×Nat),es[i]?=some e->∃ p C dx s,xs[i]?=some (.ref p)/\H p=some (.ins C dx (tf (e.1:Int) (e.2:Int) s))/\CT K C
theorem dH.mono{K:LA}{H H':Hp}{xs:List V}{es:En}(t:dH K H xs es)(h:Same H H'):dH K H' xs es:=⟨t.1,fun i e q=>by
 obtain⟨p,C,dx,s,a,b,d⟩:=t.2 i e q
 exact⟨p,C,dx,s,a,h _ _ b,d⟩⟩
def bM(H:Hp)(xs:List V)(ts:List (List Nat)):Prop:=xs.length=ts.length/\∀(i:Nat)(l:List Nat),ts[i]?=some l->∃ p,xs[i]?=some (.ref p)/\H p=some (.lst (l.map iV))
theorem bM.mono{H H':Hp}{xs:List V}{ts:List (List Nat)}(h:bM H xs ts)(s:Same H H'):bM H' xs ts:=⟨h.1,fun i e q=>by
 obtain⟨p,a,b⟩:=h.2 i e q
 exact⟨p,a,s _ _ b⟩⟩
theorem bM.snoc{H:Hp}{xs:List V}{ts:List (List Nat)}{q:Addr}{l:List Nat}(h:bM H xs ts)(e:H q=some (.lst (l.map iV))):bM H (xs++[.ref q]) (ts++[l]):=by
 refine⟨by rw[Ly,Ly,h.1];rfl,fun j k ej=>?_⟩
 by_cases hj:j<ts.length
 ·rw[LF hj]at ej
  obtain⟨p,a1,a2⟩:=h.2 j k ej
  exact⟨p,by rw[LF (by rw[h.1];exact hj)];exact a1,a2⟩
 ·rw[LD (by omega)]at ej
  have hj2:j=ts.length:=by
   have:=(Lx.mp ej).1
   rw[LU]at this
   omega
  subst hj2
  rw[Md]at ej
  cases ej
  exact⟨q,by rw[← h.1,LD (LG _),Md];rfl,e⟩
def bC(S:Addr->Prop)(H:Hp)(xs:List V)(ts:List (List Nat)):Prop:=xs.length=ts.length/\∀(i:Nat)(l:List Nat),ts[i]?=some l->∃ p,xs[i]?=some (.ref p)/\¬ S p/\H p=some (.lst (l.map iV))
theorem bC.mono{S:Addr->Prop}{H H':Hp}{xs:List V}{ts:List (List Nat)}(h:bC S H xs ts)(s:∀ b u,¬ S b->H b=some u->H' b=some u):bC S H' xs ts:=⟨h.1,fun i e q=>by
 obtain⟨p,a,n,b⟩:=h.2 i e q
 exact⟨p,a,n,s _ _ n b⟩⟩
theorem bC.off{S:Addr->Prop}{H:Hp}{xs:List V}{ts:List (List Nat)}(h:bC S H xs ts):bM H xs ts:=⟨h.1,fun i e q=>by
 obtain⟨p,a,n,b⟩:=h.2 i e q
 exact⟨p,a,b⟩⟩
theorem bC.snoc{S:Addr->Prop}{H:Hp}{xs:List V}{ts:List (List Nat)}{q:Addr}{l:List Nat}(h:bC S H xs ts)(n:¬ S q)(e:H q=some (.lst (l.map iV))):bC S H (xs++[.ref q]) (ts++[l]):=by
 refine⟨by rw[Ly,Ly,h.1];rfl,fun j k ej=>?_⟩
 by_cases hj:j<ts.length
 ·rw[LF hj]at ej
  obtain⟨p,a1,a2⟩:=h.2 j k ej
  exact⟨p,by rw[LF (by rw[h.1];exact hj)];exact a1,a2⟩
 ·rw[LD (by omega)]at ej
  have hj2:j=ts.length:=by
   have:=(Lx.mp ej).1
   rw[LU]at this
   omega
  subst hj2
  rw[Md]at ej
  cases ej
  exact⟨q,by rw[← h.1,LD (LG _),Md];rfl,n,e⟩
theorem oz{f:Nat->Nat}{N i:Nat}{rs:List (List Nat)}(w:dj f N i rs):rs.flatten.length<=N:=eu w.nd fun x hx=>by
 obtain⟨r,h1,h2⟩:=Mq.mp hx
 exact(w.ring r h1).lt x h2
theorem BV{f:Nat->Nat}{N i:Nat}{rs:List (List Nat)}(w:dj f N i rs):rs.length<=N:=by
 have h:∀(l:List (List Nat)),(∀ r∈l,0<r.length)->l.length<=l.flatten.length:=fun l=>by
  induction l with
  |nil=>intro _;exact LG _
  |cons a l ih =>
   intro h
   rw[Me,Ly,Mb]
   have h1:=h a (LI ..)
   have h2:=ih fun r hr=>h r (LK _ hr)
   omega
 exact MB (h rs fun r hr=>(w.ring r hr).ne) (oz w)
structure TT(K:LA)(H:Hp)(a b:Addr)(m:Nat)(es:En)(ts:List (List Nat)):Prop where
 xs:∃ xs,SqL K H a xs/\dH K H xs es
 ys:∃ ys,SqL K H b ys/\bM H ys ts
 w:bJ m es ts
 few:es.length<=63
theorem TT.mono{K:LA}{H H':Hp}{a b:Addr}{m:Nat}{es:En}{ts:List (List Nat)}(t:TT K H a b m es ts)(s:Same H H'):TT K H' a b m es ts:=by
 obtain⟨⟨xs,h1,h2⟩,⟨ys,h3,h4⟩,w,f⟩:=t
 exact⟨⟨xs,s.seq h1,h2.mono s⟩,⟨ys,s.seq h3,h4.mono s⟩,w,f⟩
theorem fH{m:Nat}{es:En}{ts:List (List Nat)}(w:bJ m es ts)(f:es.length<=63){p:Nat}{l:List Nat}(h:ts[p]?=some l):(∀ t∈l,t<63)/\l.length<=63:=by
 have a:∀ t∈l,t<es.length:=fun t ht=>by
  obtain⟨e,he,_⟩:=(w.mem p l h t).mp ht
  exact(Lx.mp he).1
 exact⟨fun t ht=>by have:=a t ht;omega,MB (eu (w.nd p l h) a) f⟩
theorem perm{m:Nat}{es:En}{ts:List (List Nat)}(w:bJ m es ts):Ht (fol es ts) (2*es.length):=⟨fun d h=>by
 obtain⟨_,_,_,_,_,_,_,_,z,_⟩:=w.foll h
 exact z,fun a b ha hb h=>w.inj ha hb h⟩
theorem Cd{H H':Hp}{b:Addr}(s:Same H H')(z:H' b=none):H b=none:=by
 cases y:H b with
 |none=>rfl
 |some o=>rw[s _ _ y]at z;cases z
def ES(K:LA):Sp:=fun vs H Q _=>∃(a:Addr)(xs:List V)(es:En)(d:Nat),vs = [.ref a,.int (d:Int)]/\SqL K H a xs/\dH K H xs es/\d<2*es.length/\Q (iV (hd es d)) H
def ER(K:LA):Sp:=fun vs H Q _=>∃(a:Addr)(xs:List V)(es:En)(t p:Nat)(e:Nat×Nat),vs = [.ref a,.int (t:Int),.int (p:Int)]/\SqL K H a xs/\dH K H xs es/\es[t]?=some e/\Q (iV (if e.1=p then 2*t else 2*t+1)) H
def JU(K:LA):Sp:=fun vs H Q _=>∃(a b:Addr)(m:Nat)(es:En)(ts:List (List Nat))(d:Nat),vs = [.ref a,.ref b,.int (d:Int)]/\TT K H a b m es ts/\d<2*es.length/\Q (iV (fol es ts d)) H
def ET(K:LA):Sp:=fun vs H Q _=>∃(a b:Addr)(m:Nat)(es:En)(ts:List (List Nat))(d:Nat),vs = [.ref a,.ref b,.int (d:Int)]/\TT K H a b m es ts/\d<2*es.length /\
 ∀ q r H',Same H H'->H q=none->H' q=some (.lst (r.map iV))->Path (fol es ts) (2*es.length) d r->Ring (fol es ts) (2*es.length) r->Q (.ref q) H'
def sf(K:LA):Sp:=fun vs H Q _=>∃(a b:Addr)(m:Nat)(es:En)(ts:List (List Nat)),vs = [.ref a,.ref b]/\TT K H a b m es ts /\
 ∀ q ys rs H',Same H H'->H q=none->H' q=some (.lst ys)->bC (fun a=>H a≠none) H' ys rs->dj (fol es ts) (2*es.length) (2*es.length) rs->Q (.ref q) H'
def kD(H:Hp)(ys:List V)(n:Nat)(rs:List (List Nat)):Prop:=ys.length=n/\∀ i,i<n->∃ p a b r r',ys[i]?=some (.ref p)/\H p=some (.tup [iV a,iV b])/\rs[a]?=some r/\2*i∈r/\rs[b]?=some r'/\2*i+1∈r'
def yS(K:LA):Sp:=fun vs H Q _=>∃(a b:Addr)(xs ys:List V)(es:En)(f:Nat->Nat)(rs:List (List Nat)),vs = [.ref a,.ref b]/\SqL K H a xs/\dH K H xs es/\es.length<=63/\SqL K H b ys/\bM H ys rs/\dj f (2*es.length) (2*es.length) rs /\
 ∀ q zs H',Same H H'->H q=none->H' q=some (.lst zs)->kD H' zs es.length rs->Q (.ref q) H'
def GU(ns:List Int)(k:Nat):Int:=ns.getD k 0
def EU(K:LA):Sp:=fun vs H Q _=>∃(a:Addr)(k:Nat)(ns:List Int),vs = [.ref a,.int (k:Int)]/\SqL K H a (ns.map V.int)/\Q (.int (GU ns k)) H
def spNum:Sp:=fun vs H Q _=>∃ i:Int,vs = [.int i]/\Q (.bl true) H
structure Txt(mg:Str->Option Value):Prop where
 n_len:mg "len" = none
 n_int:mg "int" = none
 n_bool:mg "bool" = none
 n_list:mg "list" = none
 n_tuple:mg "tuple" = none
 n_range:mg "range" = none
 n_enumerate:mg "enumerate" = none
 n_isinstance:mg "isinstance" = none
 n_min:mg "min" = none
 n_sum:mg "sum" = none
 n_sorted:mg "sorted" = none
section
variable{P:Program}{w:World}{K:LA}{mg:Str->Option Value}{base:Heap}
theorem E2:aI ["ties","dart","tie"] ["ties","dart"] (aj rh):=⟨rfl,rfl,rfl,by decide +kernel,rfl,by decide +kernel,by decide +kernel⟩
theorem Kt{f:Addr}{fd:FuncData} (F:Fun K "head" "head" rh f fd):FnOk P w K mg base CX0 1 f fd ["ties","dart"] (ES K):=by
 refine F.ok E2 (fun vs H Q E h=>?_) (fun cdv A outer s H vs Q E hr h=>?_)
 ·obtain⟨a,xs,es,d,rfl,_⟩:=h
  rfl
 obtain⟨a,xs,es,d,rfl,hS,hT,hdl,k⟩:=h
 have hl:d/2<es.length:=by omega
 have e1:es[d/2]?=some es[d/2]:=Lw hl
 obtain⟨p,C,dx,s',x1,x2,x3⟩:=hT.2 _ _ e1
 have hh:hd es d=if d%2=0 then es[d/2].2 else es[d/2].1:=by unfold hd;rw[e1]
 have ed:(d:Int)/2=((d/2:Nat):Int):=by omega
 refine⟨_,(af (ay (i:=2) E2.nd rfl (Or.inl rfl) (aG aA (pv 0) (aF c5 (pv 1) ak) (fun _ _=>rfl)))
   (ao (aL (oq (av jw (aF bV (pv 1) ak) ak (aK _)) (bE (pv 2) rfl) (bE (pv 2) rfl))))),?_⟩
 refine⟨_,rfl,_,rfl,_,_,rfl,rfl,⟨by decide,by decide⟩,a,xs,_,_,rfl,rfl,hS,(by rw[ed];exact aD x1),?_⟩
 refine⟨_,rfl,_,_,rfl,rfl,(by show(0:Int)<2;decide),rfl,_,rfl,?_⟩
 refine ite2 (fun q=>?_) (fun q=>?_)
 ·have q':(d:Int)%2=0:=V.int.inj (of_decide_eq_true q)
  refine⟨_,rfl,p,C,dx,_,_,rfl,x2,x3.cl,x3.n2,oK _ _ _,?_⟩
  rw[hh,if_pos (by omega)]at k
  exact k
 ·have q':¬ (d:Int)%2=0:=fun z=>q (decide_eq_true (congrArg V.int z))
  refine⟨_,rfl,p,C,dx,_,_,rfl,x2,x3.cl,x3.n1,kG _ _ _,?_⟩
  rw[hh,if_neg (by omega)]at k
  exact k
theorem C3:aI ["ties","number","place"] ["ties","number","place"] (aj fP):=⟨rfl,rfl,rfl,by decide +kernel,rfl,by decide +kernel,by decide +kernel⟩
theorem Dj{f:Addr}{fd:FuncData} (F:Fun K "leaving" "leaving" fP f fd):FnOk P w K mg base CX0 1 f fd ["ties","number","place"] (ER K):=by
 refine F.ok C3 (fun vs H Q E h=>?_) (fun cdv A outer s H vs Q E hr h=>?_)
 ·obtain⟨a,xs,es,t,p,e,rfl,_⟩:=h
  rfl
 obtain⟨a,xs,es,t,pl,e,rfl,hS,hT,he,k⟩:=h
 obtain⟨p,C,dx,s',x1,x2,x3⟩:=hT.2 _ _ he
 have m2:CMul 2 (t:Int):=.inl ⟨by decide,by decide⟩
 refine⟨_,(ao (aL (oq (av jw (bE (aG aA (pv 0) (pv 1) (fun _ _=>rfl)) rfl) (pv 2) (aK _)) (aF dD ak (pv 1)) (aF bB (aF dD ak (pv 1)) ak)))),?_⟩
 refine⟨_,rfl,_,rfl,a,xs,_,_,rfl,rfl,hS,aD x1,p,C,dx,_,_,rfl,x2,x3.cl,x3.n1,kG _ _ _,_,rfl,rfl,_,rfl,?_⟩
 refine ite2 (fun q=>?_) (fun q=>?_)
 ·have q':(e.1:Int)=(pl:Int):=V.int.inj (of_decide_eq_true q)
  refine⟨_,rfl,_,_,rfl,rfl,m2,?_⟩
  rw[if_pos (by omega)]at k
  exact k
 ·have q':¬ (e.1:Int)=(pl:Int):=fun z=>q (decide_eq_true (congrArg V.int z))
  refine⟨_,rfl,_,_,rfl,rfl,m2,_,_,rfl,rfl,?_⟩
  rw[if_neg (by omega)]at k
  exact k
theorem f9:aI ["ties","turns","dart","place","about","behind"] ["ties","turns","dart"] (aj d9):=⟨rfl,rfl,rfl,by decide +kernel,rfl,by decide +kernel,by decide +kernel⟩
theorem zR{f fh fl:Addr}{fd fdh fdl:FuncData} (F:Fun K "follower" "follower" d9 f fd) (T:Txt mg) (G_head:Cal P w K mg base 1 "head" ["ties","dart"] (ES K) fh fdh) (G_leaving:Cal P w K mg base 1 "leaving" ["ties","number","place"] (ER K) fl fdl):FnOk P w K mg base CX0 2 f fd ["ties","turns","dart"] (JU K):=by
 refine F.ok f9 (fun vs H Q E h=>?_) (fun cdv A outer s H vs Q E hr h=>?_)
 ·obtain⟨a,b,m,es,ts,d,rfl,_⟩:=h
  rfl
 obtain⟨a,b,m,es,ts,d,rfl,tt,hdl,k⟩:=h
 obtain⟨⟨xs,h1,h2⟩,⟨ys,h3,h4⟩,w',few⟩:=tt
 obtain⟨l,e,p1,p2,p3,p4,p5,p6,p7,p8,p9⟩:=w'.foll hdl
 obtain⟨small,len⟩:=fH w' few p1
 obtain⟨q,y1,y2⟩:=h4.2 _ _ p1
 have ed:(d:Int)/2=((d/2:Nat):Int):=by omega
 refine⟨_,(af (ay (i:=3) f9.nd rfl (Or.inl rfl) (ax G_head.ok (hr.mono (by decide)) rfl G_head.mg G_head.kp G_head.bn .nil aR (aa (pv 0) (aa (pv 2) ag))))
   (af (ay (i:=4) f9.nd rfl (Or.inl rfl) (aG aA (pv 1) (pv 3) (fun _ _=>rfl)))
   (af (ay (i:=5) f9.nd rfl (Or.inl rfl) (aF bV (aF bB (cg LY Oy Ox ui (pv 4) (aa (aF c5 (pv 2) ak) ag)) ak) (ar aq (by rfl) T.n_len aQ (aa (pv 4) ag))))
   (ao (aL (ax G_leaving.ok (hr.mono (by decide)) rfl G_leaving.mg G_leaving.kp G_leaving.bn .nil aR (aa (pv 0) (aa (aG aA (pv 4) (pv 5) (fun _ _=>rfl)) (aa (pv 3) ag))))))))),?_⟩
 refine⟨_,rfl,_,rfl,a,xs,es,d,rfl,h1,h2,hdl,?_⟩
 refine⟨_,rfl,_,rfl,b,ys,_,_,rfl,rfl,h3,aD y1,?_⟩
 have hlen:(l.map iV).length=l.length:=LB _
 have hl0:0<l.length:=Nb p2
 have hmod:(((l.idxOf (d/2):Nat):Int)+1)%((l.map iV).length:Int)=(((l.idxOf (d/2)+1)%l.length:Nat):Int):=by rw[hlen];rfl
 refine⟨_,rfl,.inl ⟨rfl,_,SqL.of y2⟩,_,rfl,_,_,rfl,rfl,⟨by decide,by decide⟩,q,l,d/2,rfl,congrArg (fun z=>[V.int z]) ed,SqL.of y2,fun p hp=>by have:=small p hp;omega,by omega,p2,_,_,rfl,rfl,_,rfl,q,_,rfl,.inl (SqL.of y2),_,_,rfl,rfl,(by show(0:Int)<((l.map iV).length:Int);rw[hlen];omega),?_⟩
 refine⟨_,rfl,_,rfl,_,rfl,q,_,_,_,rfl,rfl,SqL.of y2,(by rw[hmod];exact iV_at (jL p2)),_,rfl,a,xs,es,nxt l (d/2),hd es d,e,rfl,h1,h2,p3,?_⟩
 rw[p6]at k
 exact k
theorem dJ:aI ["ties","turns","first","row","dart"] ["ties","turns","first"] (aj cq):=⟨rfl,rfl,rfl,by decide +kernel,rfl,by decide +kernel,by decide +kernel⟩
theorem Ku{f ff:Addr}{fd fdf:FuncData} (F:Fun K "round_from" "round_from" cq f fd) (G_follower:Cal P w K mg base 2 "follower" ["ties","turns","dart"] (JU K) ff fdf):FnOk P w K mg base CX0 3 f fd ["ties","turns","first"] (ET K):=by
 refine F.ok dJ (fun vs H Q E h=>?_) (fun cdv A outer s H vs Q E hr h=>?_)
 ·obtain⟨a,b,m,es,ts,d,rfl,_⟩:=h
  rfl
 obtain⟨a,b,m,es,ts,d,rfl,tt,hdl,k⟩:=h
 have pm:=perm tt.w
 refine⟨_,(af (ay (i:=3) dJ.nd rfl (Or.inl rfl) (bu (aa (pv 2) ag)))
   (af (ay (i:=4) dJ.nd rfl (Or.inl rfl) (ax G_follower.ok (hr.mono (by decide)) rfl G_follower.mg G_follower.kp G_follower.bn .nil aR (aa (pv 0) (aa (pv 1) (aa (pv 2) ag)))))
   (af (sW PassesOwn.never (av dr (pv 4) (pv 2) (aK _)) (af (a8 (cg LY Mi Mh bb (pv 3) (aa (pv 4) ag)))
   (ao (ay (i:=4) dJ.nd rfl (Or.inl rfl) (ax G_follower.ok (hr.mono (by decide)) rfl G_follower.mg G_follower.kp G_follower.bn .nil aR (aa (pv 0) (aa (pv 1) (aa (pv 4) ag))))))))
   (ao (aL (pv 3)))))),?_⟩
 refine⟨_,rfl,(by show 1<=sizeLine;decide),fun q hq=>?_⟩
 have s1:=ai hq (.lst [.int (d:Int)])
 refine⟨_,rfl,_,rfl,_,rfl,a,b,m,es,ts,d,rfl,tt.mono s1,hdl,?_⟩
 refine BP (fun σ H2=>∃(r:List Nat)(x:Nat),σ = [some (.ref a),some (.ref b),some (.int (d:Int)),some (.ref q),some (iV (fol es ts x))]/\Same H H2/\H2 q=some (.lst ((r++[x]).map iV))/\Path (fol es ts) (2*es.length) d (r++[x]))
  (fun σ H2=>match H2 q with | some (.lst xs)=>200-xs.length | _=>0) ⟨[],d,rfl,s1,ae,HK hdl⟩ ?_ ?_
 ·rintro σ H2 ⟨r,x,rfl,s2,hq2,pa⟩
  refine⟨_,rfl,_,rfl,rfl,_,rfl,?_⟩
  have few:=tt.few
  have hlen:=eu pa.nd pa.lt
  refine ite2 (fun c=>?_) (fun c=>?_)
  ·have c':fol es ts x≠d:=fun z=>by
    rw[decide_eq_true (show iV (fol es ts x)=V.int (d:Int) by rw[z];rfl)]at c
    cases c
   have pa2:=pa.snoc pm c'
   have hlen2:=eu pa2.nd pa2.lt
   have lt2:fol es ts x<2*es.length:=pa2.lt _ (by simp)
   refine⟨_,rfl,.inl ⟨rfl,_,SqL.of hq2⟩,_,rfl,q,_,_,rfl,rfl,hq2,aB (by rw[LB];omega),?_⟩
   have s3:=a9 s2 hq (.lst ((r++[x]).map iV++[iV (fol es ts x)]))
   refine⟨_,rfl,_,rfl,_,rfl,a,b,m,es,ts,fol es ts x,rfl,tt.mono s3,lt2,?_⟩
   refine⟨⟨r++[x],fol es ts x,rfl,s3,?_,pa2⟩,?_⟩
   ·rw[ae,show((r++[x]++[fol es ts x]).map iV)=(r++[x]).map iV++[iV (fol es ts x)] from by rw[Mu];rfl]
   ·show(match(upd H2 q (.lst ((r++[x]).map iV++[iV (fol es ts x)]))) q with | some (.lst xs)=>200-xs.length | _=>0)<(match H2 q with | some (.lst xs)=>200-xs.length | _=>0)
    rw[ae,hq2]
    show 200-((r++[x]).map iV++[iV (fol es ts x)]).length<200-((r++[x]).map iV).length
    rw[Ly,LB,LU]
    omega
  ·have c':fol es ts x=d:=by
    by_cases z:fol es ts x=d
    ·exact z
    ·exact absurd (by rw[decide_eq_false (fun y=>z (by have:=V.int.inj y;omega))];rfl) c
   refine⟨_,rfl,?_⟩
   exact k q _ H2 s2 hq hq2 pa (pa.ring pm c')
 ·rintro σ H2 Q1 Q2 hi ⟨v',e,b',e2,z1,c',e3,q'⟩
  exact⟨v',e,b',e2,z1,c',e3,hi _ _ q'⟩
theorem ck:aI ["ties","turns","rounds","seen","dart","row","gone"] ["ties","turns"] (aj cT):=⟨rfl,rfl,rfl,by decide +kernel,rfl,by decide +kernel,by decide +kernel⟩
theorem Fy{f ff:Addr}{fd fdf:FuncData} (F:Fun K "rounds_of" "rounds_of" cT f fd) (T:Txt mg) (G_round_from:Cal P w K mg base 3 "round_from" ["ties","turns","first"] (ET K) ff fdf):FnOk P w K mg base CX0 4 f fd ["ties","turns"] (sf K):=by
 refine F.ok ck (fun vs H Q E h=>?_) (fun cdv A outer s H vs Q E hr h=>?_)
 ·obtain⟨a,b,m,es,ts,rfl,_⟩:=h
  rfl
 obtain⟨a,b,m,es,ts,rfl,tt,k⟩:=h
 have hu:=KW hr
 have pm:=perm tt.w
 have few:=tt.few
 obtain⟨xs,h1,h2⟩:=tt.xs
 refine⟨_,(af (ay (i:=2) ck.nd rfl (Or.inl rfl) (bu ag))
   (af (ay (i:=3) ck.nd rfl (Or.inl rfl) tJ)
   (af (bO PassesOwn.never rfl (ba rfl T.n_range (aa (aF dD ak (ar aq (by rfl) T.n_len aQ (aa (pv 0) ag))) ag)) (aU (i:=4) ck.nd rfl (Or.inl rfl)) (ao (bt (pt_cmp (Fm hu (pv 4) (pv 3))) (af (ay (i:=5) ck.nd rfl (Or.inl rfl) (ax G_round_from.ok (hr.mono (by decide)) rfl G_round_from.mg G_round_from.kp G_round_from.bn .nil aR (aa (pv 0) (aa (pv 1) (aa (pv 4) ag)))))
   (af (a8 (cg LY Mi Mh bb (pv 2) (aa (pv 5) ag)))
   (ao (bO PassesOwn.never rfl (bz (pv 5)) (aU (i:=6) ck.nd rfl (Or.inl rfl)) (ao (zx hu (pv 3) (pv 6) gd rfl)))))) aN)))
   (ao (aL (pv 2)))))),?_⟩
 refine⟨(by show 0<=sizeLine;decide),fun qr hqr=>fun qs hqs=>?_⟩
 have s1:=(ai hqr (.lst [])).trans (ai hqs (.dK []))
 have hqs0:H qs=none:=by
  cases z:H qs with
  |none=>rfl
  |some o=>rw[ai hqr (.lst []) qs o z]at hqs;cases hqs
 have hne:qr≠qs:=fun z=>by rw[← z,ae]at hqs;cases hqs
 have hxl:xs.length=es.length:=h2.1
 have hN:(2*(xs.length:Int)).toNat=2*es.length:=by omega
 refine⟨_,rfl,a,xs,rfl,.inl (s1.seq h1),_,_,rfl,rfl,.inl ⟨by decide,by decide⟩,_,rfl,by omega,by omega,br (n:=(2*(xs.length:Int)).toNat) (fun i σ H2=>∃ v4 v5 v6 ys rs kvs,σ = [some (.ref a),some (.ref b),some (.ref qr),some (.ref qs),v4,v5,v6]/\Same H H2/\H2 qr=some (.lst ys)/\bC (fun p=>H p≠none∨p=qr∨p=qs) H2 ys rs/\H2 qs=some (.dK kvs)/\kvs.length<=rs.flatten.length/\(∀ d:Nat,(valV kvs (Sum.inl (d:Int))).isSome=true↔d∈rs.flatten)/\dj (fol es ts) (2*es.length) i rs)
  ⟨_,_,_,[],[],[],rfl,s1,by rw[au hne,ae],⟨rfl,fun i l e=>by simp at e⟩,ae,LG _,fun d=>by simp[valV],C4 _ _⟩ ?_ ?_⟩
 ·rintro i σ H2 hi ⟨v4,v5,v6,ys,rs,kvs,rfl,s2,e1,rx,e2,kl,km,ro⟩
  rw[hN]at hi
  have e0:(0:Int)+(i:Int)=(i:Int):=MZ _
  rw[e0]
  have fl:=oz ro
  have rl:=BV ro
  refine⟨_,rfl,_,rfl,_,_,rfl,DGet.k (k:=Sum.inl (i:Int)) e2,_,rfl,?_⟩
  refine ite2 (fun c=>?_) (fun c=>?_)
  ·have hni:i∉rs.flatten:=fun z=>by
    rw[(km i).mpr z]at c
    cases c
   refine⟨_,rfl,_,rfl,_,rfl,a,b,m,es,ts,i,rfl,tt.mono s2,hi,fun q r H3 s3 hq hq3 pa ri=>?_⟩
   have s23:=s2.trans s3
   have nq:¬ (H q≠none∨q=qr∨q=qs):=by
    rintro(z | z | z)
    ·exact z (Cd s2 hq)
    ·rw[z,e1]at hq;cases hq
    ·rw[z,e2]at hq;cases hq
   refine⟨_,rfl,.inl ⟨rfl,_,SqL.of (s3 _ _ e1)⟩,_,rfl,qr,_,_,rfl,rfl,s3 _ _ e1,aB (by rw[rx.1];omega),?_⟩
   have s4:=a9 s23 hqr (.lst (ys++[.ref q]))
   have hrq:∀{H5:Hp},bC (fun p=>H p≠none∨p=qr∨p=qs) H5 (ys++[.ref q]) (rs++[r])->H5 q=some (.lst (r.map iV)):=fun h=>by
    obtain⟨p,z1,_,z2⟩:=h.2 rs.length r (by rw[LD (LG _),Md];rfl)
    rw[← rx.1,LD (LG _),Md]at z1
    cases z1
    exact z2
   have rx4:bC (fun p=>H p≠none∨p=qr∨p=qs) (upd H3 qr (.lst (ys++[.ref q]))) (ys++[.ref q]) (rs++[r]):=by
    refine(rx.mono fun p o n z=>?_).snoc nq ?_
    ·rw[au (fun z=>n (.inr (.inl z)))];exact s3 _ _ z
    ·rw[au (fun z=>nq (.inr (.inl z)))];exact hq3
   have rl:r.length<=2*es.length:=eu ri.nd ri.lt
   refine⟨_,rfl,q,rfl,⟨_,SqL.of (hrq rx4)⟩,gD (xs:=r.map iV) (fun j σ H5=>∃ v6 kvs',σ = [some (.ref a),some (.ref b),some (.ref qr),some (.ref qs),some (.int (i:Int)),some (.ref q),v6]/\Same H H5/\H5 qr=some (.lst (ys++[.ref q]))/\bC (fun p=>H p≠none∨p=qr∨p=qs) H5 (ys++[.ref q]) (rs++[r])/\H5 qs=some (.dK kvs')/\kvs'.length<=rs.flatten.length+j/\∀ d:Nat,(valV kvs' (Sum.inl (d:Int))).isSome=true↔d∈rs.flatten∨d∈r.take j)
    ⟨_,kvs,rfl,s4,ae,rx4,by rw[au hne.symm];exact s3 _ _ e2,kl,fun d=>by rw[km d];simp⟩ (fun j σ H5 _ p=>?_) ?_ ?_⟩
   ·obtain⟨_,_,_,_,_,z,_⟩:=p
    exact SqL.of (hrq z)
   ·rintro j x σ H5 hx ⟨v6,kvs',rfl,s5,f1,rx5,f2,kl5,km5⟩
    rw[LL]at hx
    obtain⟨g,hg,rfl⟩:=Mr.mp hx
    have hjl:j<r.length:=(Lx.mp hg).1
    refine⟨_,rfl,_,rfl,qs,_,rfl,DPut.k (k:=Sum.inl (g:Int)) f2 (aB (by omega)),?_⟩
    refine⟨_,_,rfl,a9 s5 hqs0 _,by rw[au hne];exact f1,rx5.mono fun p o n z=>by rw[au (fun z=>n (.inr (.inr z)))];exact z,ae,by have:=gh kvs' (Sum.inl (g:Int)) (V.bl true);omega,fun d=>?_⟩
    rw[om]
    have tk:r.take (j+1)=r.take j++[g]:=by rw[Mo,hg];rfl
    rw[tk]
    by_cases z:d=g
    ·subst z
     simp
    ·rw[if_neg (fun y=>z (by have:=Sum.inl.inj y;omega)),km5 d]
     simp[z]
   ·rintro σ H5 ⟨v6,kvs',rfl,s5,f1,rx5,f2,kl5,km5⟩
    rw[LB]at kl5 km5
    refine⟨_,_,_,_,rs++[r],kvs',rfl,s5,f1,rx5,f2,by rw[MN,Ly];simpa using kl5,fun d=>?_,ro.put pm hni hi ri pa⟩
    rw[km5 d,My,MN,LJ]
    simp
  ·have hii:i∈rs.flatten:=(km i).mp (by
    cases z:(valV kvs (Sum.inl (i:Int))).isSome with
    |true=>rfl
    |false=>exact absurd (by rw[z];rfl) c)
   exact⟨_,_,_,ys,rs,kvs,rfl,s2,e1,rx,e2,kl,km,ro.skip hii⟩
 ·rintro σ H2 ⟨v4,v5,v6,ys,rs,kvs,rfl,s2,e1,rx,e2,kl,km,ro⟩
  rw[hN]at ro
  exact⟨_,rfl,k qr ys rs H2 s2 hqr e1 ⟨rx.1,fun i l e=>by
   obtain⟨p,h1,h2,h3⟩:=rx.2 i l e
   exact⟨p,h1,fun z=>h2 (.inl z),h3⟩⟩ ro⟩
theorem eh:aI ["ties","rounds","number_at","number","row","dart"] ["ties","rounds"] (aj dU):=⟨rfl,rfl,rfl,by decide +kernel,rfl,by decide +kernel,by decide +kernel⟩
theorem HV{f:Addr}{fd:FuncData} (F:Fun K "sides_of" "sides_of" dU f fd) (T:Txt mg):FnOk P w K mg base CX0 1 f fd ["ties","rounds"] (yS K):=by
 refine F.ok eh (fun vs H Q E h=>?_) (fun cdv A outer s H vs Q E hr h=>?_)
 ·obtain⟨a,b,xs,ys,es,g,rs,rfl,_⟩:=h
  rfl
 obtain⟨a,b,xs,ys,es,g,rs,rfl,hS,hT,few,hB,hR,ro,k⟩:=h
 have hu:=KW hr
 have fl:=oz ro
 refine⟨_,(af (ay (i:=2) eh.nd rfl (Or.inr rfl) tJ)
   (af (bO PassesOwn.never rfl (zJ rfl T.n_enumerate (aa (pv 1) ag)) (BX rfl (bX (aU (i:=3) eh.nd rfl (Or.inl rfl)) (bX (aU (i:=4) eh.nd rfl (Or.inl rfl)) oT))) (ao (bO PassesOwn.never rfl (bz (pv 4)) (aU (i:=5) eh.nd rfl (Or.inl rfl)) (ao (zx hu (pv 2) (pv 5) (pv 3) rfl)))))
   (ao (aL (dq rfl (fr:=[("number_at",2)]) (by exact bK.one (by rfl) (by decide +kernel) (by rfl) (by decide +kernel) (by rfl) (by decide +kernel) (by rfl) (by rfl) (by decide +kernel) (by rfl)) (ba rfl T.n_range (aa (ar aq (by rfl) T.n_len aQ (aa (pv 0) ag)) ag)) (fun C ex s H=>(gU (aa (tK hu (pv 1) (aF dD ak (pv 0)) (fun _ _=>rfl)) (aa (tK hu (pv 1) (aF bB (aF dD ak (pv 0)) ak) (fun _ _=>rfl)) ag))))))))),?_⟩
 intro q hq
 have s1:=ai hq (.dK [])
 have kF:∀ i,(rs.take i).flatten.length<=rs.flatten.length:=fun i=>by
  have:=congrArg (fun z=>z.flatten.length) (L3 i rs)
  simp only[MN,Ly]at this
  omega
 refine⟨_,rfl,b,rfl,⟨_,s1.seq hB⟩,Cv (K:=K) (xs:=ys) (fun i σ H2=>∃ v3 v4 v5 kvs,σ = [some (.ref a),some (.ref b),some (.ref q),v3,v4,v5]/\Same H H2/\H2 q=some (.dK kvs)/\kvs.length<=(rs.take i).flatten.length/\∀(d c:Nat)(r:List Nat),c<i->rs[c]?=some r->d∈r->valV kvs (Sum.inl (d:Int))=some (iV c))
  ⟨_,_,_,[],rfl,s1,ae,MQ _,fun d c r z=>absurd z (Og _)⟩ (fun i σ H2 _ ⟨_,_,_,_,_,s2,_⟩=>s2.seq hB) ?_ ?_⟩
 ·rintro i x σ H2 T2 hx ⟨v3,v4,v5,kvs,rfl,s2,e1,kl,km⟩ hT2
  have hil:i<rs.length:=by
   have:=(Lx.mp hx).1
   rw[hR.1]at this
   exact this
  have hr':rs[i]?=some rs[i]:=Lw hil
  obtain⟨p,x1,x2⟩:=hR.2 i _ hr'
  rw[hx]at x1
  cases x1
  generalize rs[i]=r at hr' x2
  have s3:Same H (upd H2 T2 (.tup [.int (i:Int),.ref p])):=s2.trans (ai hT2 _)
  have f1:(rs.take (i+1)).flatten=(rs.take i).flatten++r:=by rw[Mo,hr'];simp
  have f2:=kF (i+1)
  rw[f1,Ly]at f2
  refine⟨T2,_,rfl,SqT.of ae,rfl,_,_,rfl,_,_,rfl,rfl,?_⟩
  refine⟨_,rfl,p,rfl,⟨_,SqL.of (s3 _ _ x2)⟩,gD (xs:=r.map iV) (fun j σ H5=>∃ v5 kvs',σ = [some (.ref a),some (.ref b),some (.ref q),some (.int (i:Int)),some (.ref p),v5]/\Same H H5/\H5 q=some (.dK kvs')/\kvs'.length<=(rs.take i).flatten.length+j/\(∀(d c:Nat)(r:List Nat),c<i->rs[c]?=some r->d∈r->valV kvs' (Sum.inl (d:Int))=some (iV c))/\∀ d∈r.take j,valV kvs' (Sum.inl (d:Int))=some (iV i))
   ⟨_,kvs,rfl,s3,ai hT2 _ _ _ e1,kl,km,fun d hd=>by simp at hd⟩ (fun j σ H5 _ ⟨_,_,_,z,_⟩=>SqL.of (z _ _ x2)) ?_ ?_⟩
  ·rintro j x σ H5 hx2 ⟨v5,kvs',rfl,s5,g1,kl5,km5,kn5⟩
   rw[LL]at hx2
   obtain⟨g,hg,rfl⟩:=Mr.mp hx2
   have hjl:j<r.length:=(Lx.mp hg).1
   refine⟨_,rfl,_,rfl,_,rfl,q,_,rfl,DPut.k (k:=Sum.inl (g:Int)) g1 (aB (by omega)),?_⟩
   refine⟨_,_,rfl,a9 s5 hq _,ae,by have:=gh kvs' (Sum.inl (g:Int)) (V.int (i:Int));omega,fun d c r' hc hrc hd=>?_,fun d hd=>?_⟩
   ·rw[om,if_neg (fun z=>?_)]
    ·exact km5 d c r' hc hrc hd
    ·have z':d=g:=by have:=Sum.inl.inj z;omega
     subst z'
     have:=AR ro.nd hrc hr' hd (Lz hg)
     omega
   ·rw[om]
    by_cases z:d=g
    ·subst z
     rw[if_pos rfl]
     rfl
    ·rw[if_neg (fun y=>z (by have:=Sum.inl.inj y;omega))]
     refine kn5 d ?_
     rw[Mo,hg]at hd
     simpa[z] using hd
  ·rintro σ H5 ⟨v5,kvs',rfl,s5,g1,kl5,km5,kn5⟩
   rw[LB]at kl5 kn5
   rw[My]at kn5
   refine⟨_,_,_,kvs',rfl,s5,g1,by rw[f1,Ly];exact kl5,fun d c r' hc hrc hd=>?_⟩
   by_cases z:c=i
   ·subst z
    rw[hr']at hrc
    cases hrc
    exact kn5 d hd
   ·exact km5 d c r' (by omega) hrc hd
 ·rintro σ H2 ⟨v3,v4,v5,kvs,rfl,s2,e1,kl,km⟩
  rw[hR.1]at km
  have get:∀ d,d<2*es.length->∃ c r,rs[c]?=some r/\d∈r/\valV kvs (Sum.inl (d:Int))=some (iV c):=fun d hd=>by
   obtain⟨r,z1,z2⟩:=Mq.mp (ro.all d hd)
   obtain⟨c,z3⟩:=MD.mp z1
   exact⟨c,r,z3,z2,km d c r (Lx.mp z3).1 z3 z2⟩
  have hxl:xs.length=es.length:=hT.1
  refine⟨_,rfl,a,xs,rfl,.inl (s2.seq hS),_,rfl,by omega,by omega,rk (fun i zs H3=>Same H2 H3/\kD H3 zs i rs) (by rw[L7,hxl];exact MJ (aB (by omega))) ⟨fun _ _ e=>e,rfl,fun i hi=>absurd hi (Og _)⟩ ?_ ?_⟩
  ·rintro i zs H3 hi ⟨s3,sd⟩
   have e0:(0:Int)+(i:Int)=(i:Int):=MZ _
   rw[e0]
   rw[L7,hxl]at hi
   obtain⟨c1,r1,z1,z2,z3⟩:=get (2*i) (by omega)
   obtain⟨c2,r2,y1,y2,y3⟩:=get (2*i+1) (by omega)
   have m2:CMul 2 (i:Int):=.inl ⟨by decide,by decide⟩
   have d1:DGet H3 q (V.int (2*(i:Int))) (some (iV c1)):=by
    rw[← z3,show((2*i:Nat):Int)=2*(i:Int) by omega]
    exact DGet.k (k:=Sum.inl (2*(i:Int))) (s3 _ _ e1)
   have d2:DGet H3 q (V.int (2*(i:Int)+1)) (some (iV c2)):=by
    rw[← y3,show((2*i+1:Nat):Int)=2*(i:Int)+1 by omega]
    exact DGet.k (k:=Sum.inl (2*(i:Int)+1)) (s3 _ _ e1)
   refine⟨_,rfl,_,rfl,_,_,rfl,rfl,m2,q,_,rfl,d1,_,rfl,_,rfl,_,_,rfl,rfl,m2,_,_,rfl,rfl,q,_,rfl,d2,(by show 2<=sizeLine;decide),fun t ht=>?_⟩
   have s4:=ai ht (.tup [iV c1,iV c2])
   refine⟨s3.trans s4,by rw[Ly,sd.1];rfl,fun j hj=>?_⟩
   by_cases z:j=i
   ·subst z
    exact⟨t,c1,c2,r1,r2,by rw[← sd.1,LD (LG _),Md];rfl,ae,z1,z2,y1,y2⟩
   ·obtain⟨p,a',b',r,r',w1,w2,w3⟩:=sd.2 j (by omega)
    exact⟨p,a',b',r,r',by rw[LF (by rw[sd.1];omega)];exact w1,s4 _ _ w2,w3⟩
  ·rintro zs H3 hzl ⟨s3,sd⟩ D hD
   rw[L7,hxl]at sd
   exact k D zs _ ((s2.trans s3).trans (ai hD _)) (Cd (s2.trans s3) hD) ae ⟨sd.1,fun i hi=>by
    obtain⟨p,a',b',r,r',w1,w2,w3⟩:=sd.2 i hi
    exact⟨p,a',b',r,r',w1,ai hD _ _ _ w2,w3⟩⟩
theorem sQ:aI ["self","one","two","strength"] ["self","one","two","strength"] (aj cB):=⟨rfl,rfl,rfl,by decide +kernel,rfl,by decide +kernel,by decide +kernel⟩
theorem Ks{f:Addr}{fd:FuncData} (F:Fun K "__init__" "Tie.__init__" cB f fd):FnOk P w K mg base CX0 1 f fd ["self","one","two","strength"] (mZ K):=by
 refine F.ok sQ (fun vs H Q E h=>?_) (fun cdv A outer s H vs Q E hr h=>?_)
 ·obtain⟨p,C,dx,a,b,s,rfl,_⟩:=h
  rfl
 obtain⟨p,C,dx,a,b,st,rfl,hp,T,hne,ha,hb,hs,k⟩:=h
 refine⟨_,(af (bt (av jw (pv 1) (pv 2) (aK _)) (ao cH) aN)
   (af (bt (PW.pt (cG (av zP (pv 1) ak (aK _)) (bN (av zP (pv 2) ak (aK _))))) (ao cH) aN)
   (af (bt (av zP (pv 3) ak (aK _)) (ao cH) aN)
   (af (m9 (pv 0) (pv 1) rfl)
   (af (m9 (pv 0) (pv 2) rfl)
   (ao (m9 (pv 0) (pv 3) rfl))))))),?_⟩
 walk_at "rd"
 refine ite2 (fun c=>absurd (V.int.inj (of_decide_eq_true c)) hne) (fun _=>?_)
 walk_at "rd"
 refine ite2 (fun c=>absurd (of_decide_eq_true c) (by omega)) (fun _=>?_)
 walk_at "rd"
 refine ite2 (fun c=>absurd (of_decide_eq_true c) (by omega)) (fun _=>?_)
 walk_at "rd"
 refine ite2 (fun c=>absurd (of_decide_eq_true c) (by omega)) (fun _=>?_)
 refine⟨_,rfl,_,rfl,p,C,dx,[],rfl,hp,T.cl,T.n1,(by show 0<1000;decide),?_⟩
 refine⟨_,rfl,_,rfl,p,C,dx,_,rfl,ae,T.cl,T.n2,f1_len a,?_⟩
 refine⟨_,rfl,_,rfl,p,C,dx,_,rfl,ae,T.cl,T.n3,f2_len a b,?_⟩
 exact k _ ae fun q o e hq=>by rw[au hq,au hq,au hq];exact e
theorem zj:aI ["script","k"] ["script","k"] (aj d8):=⟨rfl,rfl,rfl,by decide +kernel,rfl,by decide +kernel,by decide +kernel⟩
theorem Kv{f:Addr}{fd:FuncData} (F:Fun K "_law_cell" "_law_cell" d8 f fd) (T:Txt mg):FnOk P w K mg base CX0 1 f fd ["script","k"] (EU K):=by
 refine F.ok zj (fun vs H Q E h=>?_) (fun cdv A outer s H vs Q E hr h=>?_)
 ·obtain⟨a,k,ns,rfl,_⟩:=h
  rfl
 obtain⟨a,k,ns,rfl,hS,q⟩:=h
 refine⟨_,(af (bt (av zP (pv 1) (ar aq (by rfl) T.n_len aQ (aa (pv 0) ag)) (aK _)) (ao (aL (aG aA (pv 0) (pv 1) (fun _ _=>rfl)))) aN)
   (ao (aL ak))),?_⟩
 refine⟨_,rfl,_,rfl,a,_,rfl,.inl hS,_,_,rfl,rfl,_,rfl,?_⟩
 refine ite2 (fun c=>?_) (fun c=>?_)
 ·have c':(k:Int)<((ns.map V.int).length:Int):=of_decide_eq_true c
  rw[LB]at c'
  have hk:k<ns.length:=by omega
  have hat:atI (ns.map V.int) (k:Int)=some (.int (GU ns k)):=aD (by rw[LL,Lw hk];unfold GU;rw[Mg,Lw hk];rfl)
  exact⟨_,rfl,_,rfl,a,_,_,_,rfl,rfl,hS,hat,q⟩
 ·have c':¬ (k:Int)<((ns.map V.int).length:Int):=fun z=>c (decide_eq_true z)
  rw[LB]at c'
  have e:GU ns k=0:=by unfold GU;rw[Mg,OH (by omega)];rfl
  rw[e]at q
  exact q
theorem at0{u v:V}:atI [u,v] 0=some u:=rfl
theorem at1{u v:V}:atI [u,v] 1=some v:=rfl
theorem uh{H:Hp}{a:Addr}{ps:List Nat}(h:SqL K H a (ps.map iV)):RdD K H (.ref a) (.list ((ps.map fun(p:Nat)=>((p:Nat):Int)).map PyData.int)):=by
 refine RdD.lst h (by simp) fun i x d e1 e2=>?_
 rw[LL]at e1
 rw[LL,LL]at e2
 cases z:ps[i]? with
 |none=>rw[z]at e1;cases e1
 |some n =>
  rw[z]at e1 e2
  cases e1
  cases e2
  exact .int _
theorem F8(l:List Int):(PyData.list (l.map PyData.int)).canLay0=true/\(PyData.list (l.map PyData.int)).depth<=10:=by
 have h1:∀ d∈l.map PyData.int,d.canLay0=true/\d.depth<=1:=fun d hd=>by
  obtain⟨x,_,rfl⟩:=L9.mp hd
  exact⟨by simp[PyData.canLay0],by simp[PyData.depth]⟩
 have h2:=iJ fun d hd=>(h1 d hd).1
 have h3:=j4 fun d hd=>(h1 d hd).2
 exact⟨by simp only[PyData.canLay0];exact h2,by simp only[PyData.depth];omega⟩
theorem cP.put{H:Hp}{ys:List V}{es:En}{q:Addr}{zs:List V}{o:HO}(t:cP H ys es)(h:H q=some (.lst zs)):cP (upd H q o) ys es:=⟨t.1,fun i e z=>by
 obtain⟨p,a,b⟩:=t.2 i e z
 refine⟨p,a,?_⟩
 rw[au (fun z=>by rw[z,h]at b;cases b)]
 exact b⟩
theorem cP.snoc{H:Hp}{xs:List V}{es:En}{e:Nat×Nat}{p:Addr}(t:cP H xs es)(h:H p=some (.tup [iV e.1,iV e.2])):cP H (xs++[.ref p]) (es++[e]):=by
 refine⟨by rw[Ly,Ly,t.1];rfl,fun j k ej=>?_⟩
 by_cases hj:j<es.length
 ·rw[LF hj]at ej
  obtain⟨p,a1,a2⟩:=t.2 j k ej
  exact⟨p,by rw[LF (by rw[t.1];exact hj)];exact a1,a2⟩
 ·rw[LD (by omega)]at ej
  have hj2:j=es.length:=by
   have:=(Lx.mp ej).1
   rw[LU]at this
   omega
  subst hj2
  rw[Md]at ej
  cases ej
  exact⟨p,by rw[← t.1,LD (LG _),Md];rfl,h⟩
theorem KU{l:List Nat}{k n:Nat}:(ins l k n).length=l.length+1:=by
 unfold ins
 rw[Ly,Mb,LZ,Mj]
 omega
theorem Jl(X:Int)(n:Nat):0<=X%((n:Int)+1)/\X%((n:Int)+1)<=(n:Int):=⟨Nm _ (by omega),by have:=M6 X (show(0:Int)<(n:Int)+1 by omega);omega⟩
def Dist(xs:List V):Prop:=∀(i j:Nat)(p:Addr),xs[i]?=some (.ref p)->xs[j]?=some (.ref p)->i=j
theorem bC.set{S:Addr->Prop}{H:Hp}{xs:List V}{ts:List (List Nat)}{i:Nat}{p:Addr}{l':List Nat}(h:bC S H xs ts)(D:Dist xs)(e:xs[i]?=some (.ref p)):bC S (upd H p (.lst (l'.map iV))) xs (ts.set i l'):=by
 refine⟨by rw[Mv];exact h.1,fun j l z=>?_⟩
 have hi:i<ts.length:=by rw[← h.1];exact(Lx.mp e).1
 rw[Mp]at z
 by_cases hj:i=j
 ·subst hj
  rw[if_pos rfl,if_pos hi]at z
  cases z
  obtain⟨p',a1,a2,a3⟩:=h.2 i _ (Lw hi)
  rw[e]at a1
  cases a1
  exact⟨p,e,a2,ae⟩
 ·rw[if_neg hj]at z
  obtain⟨p',a1,a2,a3⟩:=h.2 j l z
  exact⟨p',a1,a2,by rw[au (fun y=>by rw[y]at a1;exact hj (D i j p e a1))];exact a3⟩
theorem insV{l:List Nat}{k n:Nat}:(l.map iV).take k++V.int (n:Int)::(l.map iV).drop k=(ins l k n).map iV:=by
 unfold ins
 rw[Mu,Mc,NR,NS]
 rfl
theorem E4{H:Hp}{a:Addr}{xs:List V}{ts:List (List Nat)}(h:SqL K H a xs)(hR:bM H xs ts):RdD K H (.ref a) (.list (ts.map fun l=>PyData.list ((l.map fun(p:Nat)=>((p:Nat):Int)).map PyData.int))):=by
 refine RdD.lst h (by rw[LB];exact hR.1) fun i x d e1 e2=>?_
 rw[LL]at e2
 obtain⟨l,hl,rfl⟩:=Mr.mp e2
 obtain⟨p,a1,a2⟩:=hR.2 i l hl
 rw[e1]at a1
 cases a1
 exact uh (SqL.of a2)
theorem zp(ts:List (List Nat)):SeqAt.shaped (.list (ts.map fun l=>PyData.list ((l.map fun(p:Nat)=>((p:Nat):Int)).map PyData.int)))=true:=oQ fun d hd=>by
 obtain⟨l,_,rfl⟩:=L9.mp hd
 exact F8 _
end
end K8
namespace K8
open PySem L2
local macro_rules | `(tactic| walk_at "cc") => `(tactic| first | exact ⟨by decide, by decide⟩ | (show (0 : Int) < _; decide) | (show (0 : Int) < _; omega) | (show (0 : Int) ≤ _; omega) | exact ⟨by decide, by decide, by decide⟩ | exact ⟨by omega, by omega, by decide⟩ | exact Or.inl ⟨by decide, by decide⟩ | exact Or.inl ⟨by omega, by omega⟩)
local macro_rules | `(tactic| walk_at "rd") => `(tactic| repeat (first | refine ⟨_, rfl, ?_⟩ | refine ⟨_, _, rfl, rfl, ?_⟩ | refine ⟨rfl, ?_⟩ | (refine ⟨?cc, ?_⟩; (case cc => walk_at "cc"))))
def y4(K:LA):Sp:=fun vs H Q _=>∃(a:Addr)(ys:List V)(es:En)(d:Nat),vs = [.ref a,.int (d:Int)]/\SqL K H a ys/\cP H ys es/\d<2*es.length/\Q (iV (hd es d)) H
section
variable{P:Program}{w:World}{K:LA}{mg:Str->Option Value}{base:Heap}
theorem zh:aI ["ends","dart"] ["ends","dart"] (aj d7):=⟨rfl,rfl,rfl,by decide +kernel,rfl,by decide +kernel,by decide +kernel⟩
theorem Ic{f:Addr}{fd:FuncData} (F:Fun K "_law_head" "_law_head" d7 f fd):FnOk P w K mg base CX0 1 f fd ["ends","dart"] (y4 K):=by
 refine F.ok zh (fun vs H Q E h=>?_) (fun cdv A outer s H vs Q E hr h=>?_)
 ·obtain⟨a,ys,es,d,rfl,_⟩:=h
  rfl
 obtain⟨a,ys,es,d,rfl,hS,hE,hdl,k⟩:=h
 have hl:d/2<es.length:=by omega
 have e1:es[d/2]?=some es[d/2]:=Lw hl
 obtain⟨p,x1,x2⟩:=hE.2 _ _ e1
 have hh:hd es d=if d%2=0 then es[d/2].2 else es[d/2].1:=by unfold hd;rw[e1]
 have ed:(d:Int)/2=((d/2:Nat):Int):=by omega
 have hat:atI [iV es[d/2].1,iV es[d/2].2] (1-(d:Int)%2)=some (iV (hd es d)):=by
  by_cases z:d%2=0
  ·rw[hh,if_pos z,show(1-(d:Int)%2)=1 by omega];rfl
  ·rw[hh,if_neg z,show(1-(d:Int)%2)=0 by omega];rfl
 refine⟨_,(ao (aL (aG aX (aG aA (pv 0) (aF c5 (pv 1) ak) (fun _ _=>rfl)) (aF wq ak (aF bV (pv 1) ak)) (fun _ _=>rfl)))),?_⟩
 exact⟨_,rfl,_,rfl,_,_,rfl,rfl,⟨by decide,by decide⟩,a,ys,_,_,rfl,rfl,hS,(by rw[ed];exact aD x1),_,rfl,_,_,rfl,rfl,(by show(0:Int)<2;decide),_,_,rfl,rfl,p,_,_,_,rfl,rfl,SqT.of x2,hat,k⟩
end
end K8
namespace K8
open PySem L2
local macro_rules | `(tactic| walk_at "cc") => `(tactic| first | exact ⟨by decide, by decide⟩ | (show (0 : Int) < _; decide) | (show (0 : Int) < _; omega) | (show (0 : Int) ≤ _; omega) | exact ⟨by decide, by decide, by decide⟩ | exact ⟨by omega, by omega, by decide⟩ | exact Or.inl ⟨by decide, by decide⟩ | exact Or.inl ⟨by omega, by omega⟩)
local macro_rules | `(tactic| walk_at "rd") => `(tactic| repeat (first | refine ⟨_, rfl, ?_⟩ | refine ⟨_, _, rfl, rfl, ?_⟩ | refine ⟨rfl, ?_⟩ | (refine ⟨?cc, ?_⟩; (case cc => walk_at "cc"))))
theorem Gr.joinP{m:Nat}{es:En}{ts:List (List Nat)}(g:Gr m es ts){left right one two:Nat}{e:Nat×Nat}{l l' xs ys:List Nat}{rest:List (List Nat)}(hl:left<2*es.length)(hr:CR (fol es ts) (2*es.length) (left::(xs++right::ys)))(hch:fB (fol es ts) left (xs++right::ys) left)(hm:right∈left::(xs++right::ys))
  (h1:hd es left=one) (h2:hd es right=two) (hne:one≠two) (he:e=(one,two)∨e=(two,one)) (e1:ts[one]?=some l) (e2:ts[two]?=some l')
  (pr:Part (fol es ts) (2*es.length) ((left::(xs++right::ys))::rest)) :
  Part (fol (es++[e]) ((ts.set one (ins l (l.idxOf (left/2)+1) es.length)).set two (ins l' (l'.idxOf (right/2)+1) es.length))) (2*(es++[e]).length) ((left::bH es.length e one::ys)::(right::bH es.length e two::xs)::rest):=by
 have w:=g.w
 have hrt:right<2*es.length:=hr.lt right hm
 have hlen:=w.len
 have o1:one<m:=by rw[← hlen];exact(Lx.mp e1).1
 have o2:two<m:=by rw[← hlen];exact(Lx.mp e2).1
 have W:bJ m (es++[e]) ((ts.set one (ins l (l.idxOf (left/2)+1) es.length)).set two (ins l' (l'.idxOf (right/2)+1) es.length)):=by
  rcases he with rfl | rfl
  ·exact w.put o1 o2 hne e1 e2
  ·exact(w.put o1 o2 hne e1 e2).flip
 have r1:((ts.set one (ins l (l.idxOf (left/2)+1) es.length)).set two (ins l' (l'.idxOf (right/2)+1) es.length))[one]?=some (ins l (l.idxOf (left/2)+1) es.length):=by
  rw[Mp,if_neg (fun z=>hne z.symm),Mp,if_pos rfl,if_pos (by rw[hlen];exact o1)]
 have r2:((ts.set one (ins l (l.idxOf (left/2)+1) es.length)).set two (ins l' (l'.idxOf (right/2)+1) es.length))[two]?=some (ins l' (l'.idxOf (right/2)+1) es.length):=by
  rw[Mp,if_pos rfl,if_pos (by rw[Mv,hlen];exact o2)]
 have r3:∀ p,p≠one->p≠two->((ts.set one (ins l (l.idxOf (left/2)+1) es.length)).set two (ins l' (l'.idxOf (right/2)+1) es.length))[p]?=ts[p]?:=fun p n1 n2=>by
  rw[Mp,if_neg (fun z=>n2 z.symm),Mp,if_neg (fun z=>n1 z.symm)]
 generalize (ts.set one (ins l (l.idxOf (left/2)+1) es.length)).set two (ins l' (l'.idxOf (right/2)+1) es.length)=ts' at W r1 r2 r3
 obtain⟨a1,a2,a3⟩:=mv (e:=e) w e1 hl h1 r1
 obtain⟨b1,b2,b3⟩:=mv (e:=e) w e2 hrt h2 r2
 obtain⟨d1,d2,d3,d4⟩:=oF (es:=es) hne he
 have fa:=b2 _ (a7 _ _ _) d1
 have fb:=a2 _ (a7 _ _ _) d2
 have els:∀ d,d<2*es.length->d≠left->d≠right->fol (es++[e]) ts' d=fol es ts d:=fun d hd' n1 n2=>by
  by_cases z1:hd es d=one
  ·exact a3 d hd' n1 z1
  ·by_cases z2:hd es d=two
   ·exact b3 d hd' n2 z2
   ·exact oy w hd' (r3 _ z1 z2)
 generalize ha:bH es.length e one=α at *
 generalize hb:bH es.length e two=β at *
 have hα:α/2=es.length:=by rw[← ha];exact a7 _ _ _
 have hβ:β/2=es.length:=by rw[← hb];exact a7 _ _ _
 have hlr:right≠left:=fun z=>hne (by rw[← h1,← h2,z])
 have hm':right∈xs++right::ys:=by
  rcases LC.mp hm with z | z
  ·exact absurd z hlr
  ·exact z
 obtain⟨c1,c2⟩:=cj.mp hch
 have nd:=hr.nd
 have ltx:∀ t∈xs,t<2*es.length/\t≠left/\t≠right:=fun t ht=>by
  refine⟨hr.lt t (by simp[ht]),fun z=>?_,fun z=>?_⟩
  ·subst z;exact(LN.mp nd).1 (by simp[ht])
  ·subst z
   have:=(LR.mp (LN.mp nd).2).2.2 t ht t (by simp)
   exact this rfl
 have lty:∀ t∈ys,t<2*es.length/\t≠left/\t≠right:=fun t ht=>by
  refine⟨hr.lt t (by simp[ht]),fun z=>?_,fun z=>?_⟩
  ·subst z;exact(LN.mp nd).1 (by simp[ht])
  ·subst z
   exact(LN.mp (LR.mp (LN.mp nd).2).2.1).1 ht
 have ndr:=pr.nd
 rw[Me]at ndr
 obtain⟨_,nd2,nd3⟩:=LR.mp ndr
 have ltr:∀ t∈rest.flatten,t<2*es.length/\t≠left/\t≠right:=fun t ht=>by
  obtain⟨q,q1,q2⟩:=Mq.mp ht
  exact⟨(pr.cr q (LK _ q1)).lt t q2,fun z=>nd3 left (by simp) t ht z.symm,fun z=>nd3 right (by simp) t ht z.symm⟩
 have hlen2:(es++[e]).length=es.length+1:=by rw[Ly];rfl
 have PP:Part (fol (es++[e]) ts') (2*(es++[e]).length) ((left::α::ys)::(right::β::xs)::rest):=by
  refine⟨fun q hq=>?_,?_,fun d hd'=>?_⟩
  ·rcases LC.mp hq with z | z
   ·subst z
    refine⟨⟨left,α::ys,rfl,a1,fm c2 fa fun t ht=>els t (lty t ht).1 (lty t ht).2.1 (lty t ht).2.2⟩,fun d hd'=>?_,?_⟩
    ·rw[hlen2]
     simp only[LC]at hd'
     rcases hd' with y | y | y
     ·omega
     ·omega
     ·have:=(lty d y).1;omega
    ·refine LN.mpr ⟨fun y=>?_,LN.mpr ⟨fun y=>?_,?_⟩⟩
     ·rcases LC.mp y with y | y
      ·omega
      ·exact(lty _ y).2.1 rfl
     ·have:=(lty _ y).1;omega
     ·exact(LN.mp (LR.mp (LN.mp nd).2).2.1).2
   ·rcases LC.mp z with z | z
    ·subst z
     refine⟨⟨right,β::xs,rfl,b1,fm c1 fb fun t ht=>els t (ltx t ht).1 (ltx t ht).2.1 (ltx t ht).2.2⟩,fun d hd'=>?_,?_⟩
     ·rw[hlen2]
      simp only[LC]at hd'
      rcases hd' with y | y | y
      ·omega
      ·omega
      ·have:=(ltx d y).1;omega
     ·refine LN.mpr ⟨fun y=>?_,LN.mpr ⟨fun y=>?_,?_⟩⟩
      ·rcases LC.mp y with y | y
       ·omega
       ·exact(ltx _ y).2.2 rfl
      ·have:=(ltx _ y).1;omega
      ·exact(LR.mp (LN.mp nd).2).1
    ·refine(pr.cr q (LK _ z)).mono (by rw[hlen2];omega) fun t ht=>?_
     obtain⟨k1,k2,k3⟩:=ltr t (Mq.mpr ⟨q,z,ht⟩)
     exact els t k1 k2 k3
  ·have dis:∀ x∈xs,∀ y∈ys,x≠y:=fun x hx y hy=>(LR.mp (LN.mp nd).2).2.2 x hx y (by simp[hy])
   rw[Me,Me]
   refine LR.mpr ⟨?_,LR.mpr ⟨?_,nd2,fun a ha b hb=>?_⟩,fun a ha b hb=>?_⟩
   ·refine LN.mpr ⟨fun y=>?_,LN.mpr ⟨fun y=>?_,(LN.mp (LR.mp (LN.mp nd).2).2.1).2⟩⟩
    ·rcases LC.mp y with y | y
     ·omega
     ·exact(lty _ y).2.1 rfl
    ·have:=(lty _ y).1;omega
   ·refine LN.mpr ⟨fun y=>?_,LN.mpr ⟨fun y=>?_,(LR.mp (LN.mp nd).2).1⟩⟩
    ·rcases LC.mp y with y | y
     ·omega
     ·exact(ltx _ y).2.2 rfl
    ·have:=(ltx _ y).1;omega
   ·obtain⟨k1,k2,k3⟩:=ltr b hb
    simp only[LC]at ha
    rcases ha with y | y | y
    ·exact fun z=>k3 (z▸y)
    ·omega
    ·exact nd3 a (by simp[y]) b hb
   ·simp only[LC,LJ]at ha hb
    rcases hb with(y | y | y) | y
    ·rcases ha with z | z | z
     ·exact fun u=>hlr (by rw[← y,← u,z])
     ·have:=hrt;omega
     ·exact fun u=>(lty a z).2.2 (u.trans y)
    ·rcases ha with z | z | z
     ·omega
     ·omega
     ·have:=(lty a z).1;omega
    ·rcases ha with z | z | z
     ·exact fun u=>(ltx b y).2.1 (u▸z)
     ·have:=(ltx b y).1;omega
     ·exact fun u=>dis b y a z u.symm
    ·obtain⟨k1,k2,k3⟩:=ltr b y
     rcases ha with z | z | z
     ·exact fun u=>k2 (u▸z)
     ·omega
     ·exact nd3 a (by simp[z]) b y
  ·rw[hlen2]at hd'
   simp only[Me,LJ,LC]
   rcases d4 d hd' with y | y | y
   ·have:=pr.all d y
    simp only[Me,LJ,LC]at this
    rcases this with(z | z | z | z) | z
    ·exact .inl (.inl z)
    ·exact .inr (.inl (.inr (.inr z)))
    ·exact .inr (.inl (.inl z))
    ·exact .inl (.inr (.inr z))
    ·exact .inr (.inr z)
   ·exact .inl (.inr (.inl y))
   ·exact .inr (.inl (.inr (.inl y)))
 exact PP
theorem Gr.leafP{m:Nat}{es:En}{ts:List (List Nat)}(g:Gr m es ts){left one:Nat}{e:Nat×Nat}{l tail:List Nat}{rest:List (List Nat)}(hl:left<2*es.length)(hr:CR (fol es ts) (2*es.length) (left::tail))(hch:fB (fol es ts) left tail left)
  (h1:hd es left=one) (he:e=(one,m)∨e=(m,one)) (e1:ts[one]?=some l)
  (pr:Part (fol es ts) (2*es.length) ((left::tail)::rest)) :
  Part (fol (es++[e]) (ts.set one (ins l (l.idxOf (left/2)+1) es.length)++[[es.length]])) (2*(es++[e]).length) ((left::bH es.length e one::bH es.length e m::tail)::rest):=by
 have w:=g.w
 have hlen:=w.len
 have o1:one<m:=by rw[← hlen];exact(Lx.mp e1).1
 have hne:one≠m:=by omega
 have W:bJ (m+1) (es++[e]) (ts.set one (ins l (l.idxOf (left/2)+1) es.length)++[[es.length]]):=by
  have q:=w.room.put (one:=one) (two:=m) (k:=l.idxOf (left/2)+1) (j:=0) (l:=l) (l':=[]) (by omega) (by omega) hne (by rw[LF (by omega)];exact e1) (by rw[LD (by omega),hlen,Md];rfl)
  have q2:((ts++[[]]).set one (ins l (l.idxOf (left/2)+1) es.length)).set m (ins [] 0 es.length)=ts.set one (ins l (l.idxOf (left/2)+1) es.length)++[[es.length]]:=by
   rw[OI _ _ (by omega),OE _ _ (by rw[Mv];omega),Mv,hlen,Md]
   rfl
  rw[q2]at q
  rcases he with rfl | rfl
  ·exact q
  ·exact q.flip
 have r1:(ts.set one (ins l (l.idxOf (left/2)+1) es.length)++[[es.length]])[one]?=some (ins l (l.idxOf (left/2)+1) es.length):=by
  rw[LF (by rw[Mv];omega),Mp,if_pos rfl,if_pos (by omega)]
 have r2:(ts.set one (ins l (l.idxOf (left/2)+1) es.length)++[[es.length]])[m]?=some [es.length]:=by
  rw[LD (by rw[Mv];omega),Mv,hlen,Md]
  rfl
 have r3:∀ p,p≠one->p<m->(ts.set one (ins l (l.idxOf (left/2)+1) es.length)++[[es.length]])[p]?=ts[p]?:=fun p n1 n2=>by
  rw[LF (by rw[Mv];omega),Mp,if_neg (fun z=>n1 z.symm)]
 generalize ts.set one (ins l (l.idxOf (left/2)+1) es.length)++[[es.length]]=ts' at W r1 r2 r3
 obtain⟨a1,a2,a3⟩:=mv (e:=e) w e1 hl h1 r1
 obtain⟨d1,d2,d3,d4⟩:=oF (es:=es) hne he
 have fb:=a2 _ (a7 _ _ _) d2
 have fa:fol (es++[e]) ts' (bH es.length e one)=bH es.length e m:=by
  rw[eF (l:=[es.length]) (by rw[d1];exact r2),a7,d1]
  have:nxt [es.length] es.length=es.length:=by
   unfold nxt
   rw[OJ]
   simp
  rw[this,o8]
  rfl
 have els:∀ d,d<2*es.length->d≠left->fol (es++[e]) ts' d=fol es ts d:=fun d hd' n1=>by
  by_cases z1:hd es d=one
  ·exact a3 d hd' n1 z1
  ·obtain⟨_,_,_,_,_,k4,_⟩:=w.at hd'
   exact oy w hd' (r3 _ z1 k4)
 generalize ha:bH es.length e one=α at *
 generalize hb:bH es.length e m=β at *
 have hα:α/2=es.length:=by rw[← ha];exact a7 _ _ _
 have hβ:β/2=es.length:=by rw[← hb];exact a7 _ _ _
 have nd:=hr.nd
 have ltt:∀ t∈tail,t<2*es.length/\t≠left:=fun t ht=>⟨hr.lt t (by simp[ht]),fun z=>(LN.mp nd).1 (z▸ht)⟩
 have ndr:=pr.nd
 rw[Me]at ndr
 obtain⟨_,nd2,nd3⟩:=LR.mp ndr
 have ltr:∀ t∈rest.flatten,t<2*es.length/\t≠left:=fun t ht=>by
  obtain⟨q,q1,q2⟩:=Mq.mp ht
  exact⟨(pr.cr q (LK _ q1)).lt t q2,fun z=>nd3 left (by simp) t ht z.symm⟩
 have hlen2:(es++[e]).length=es.length+1:=by rw[Ly];rfl
 have nd4:(left::α::β::tail).Nodup:=by
  refine LN.mpr ⟨fun y=>?_,LN.mpr ⟨fun y=>?_,LN.mpr ⟨fun y=>?_,(LN.mp nd).2⟩⟩⟩
  ·simp only[LC]at y
   rcases y with y | y | y
   ·omega
   ·omega
   ·exact(ltt _ y).2 rfl
  ·simp only[LC]at y
   rcases y with y | y
   ·exact d3 y
   ·have:=(ltt _ y).1;omega
  ·have:=(ltt _ y).1;omega
 have PP:Part (fol (es++[e]) ts') (2*(es++[e]).length) ((left::α::β::tail)::rest):=by
  refine⟨fun q hq=>?_,?_,fun d hd'=>?_⟩
  ·rcases LC.mp hq with z | z
   ·subst z
    refine⟨⟨left,α::β::tail,rfl,a1,fa,fm hch fb fun t ht=>els t (ltt t ht).1 (ltt t ht).2⟩,fun d hd'=>?_,nd4⟩
    rw[hlen2]
    simp only[LC]at hd'
    rcases hd' with y | y | y | y
    ·omega
    ·omega
    ·omega
    ·have:=(ltt d y).1;omega
   ·refine(pr.cr q (LK _ z)).mono (by rw[hlen2];omega) fun t ht=>?_
    obtain⟨k1,k2⟩:=ltr t (Mq.mpr ⟨q,z,ht⟩)
    exact els t k1 k2
  ·rw[Me]
   refine LR.mpr ⟨nd4,nd2,fun a ha b hb=>?_⟩
   obtain⟨k1,k2⟩:=ltr b hb
   simp only[LC]at ha
   rcases ha with y | y | y | y
   ·exact fun u=>k2 (u▸y)
   ·omega
   ·omega
   ·exact nd3 a (by simp[y]) b hb
  ·rw[hlen2]at hd'
   simp only[Me,LJ,LC]
   rcases d4 d hd' with y | y | y
   ·have:=pr.all d y
    simp only[Me,LJ,LC]at this
    rcases this with(z | z) | z
    ·exact .inl (.inl z)
    ·exact .inl (.inr (.inr (.inr z)))
    ·exact .inr z
   ·exact .inl (.inr (.inl y))
   ·exact .inl (.inr (.inr (.inl y)))
 exact PP
theorem CR.turn{f:Nat->Nat}{N:Nat}{A B:List Nat}(h:CR f N (A++B))(nb:B≠[]):CR f N (B++A):=by
 have pm:(B++A).Perm (A++B):=Mz
 refine⟨?_,fun d hd=>h.lt d (pm.mem_iff.mp hd),pm.nodup_iff.mpr h.nd⟩
 match A,B,h,nb with
 |[],B,h,_ =>
  rw[Na]
  exact h.ch
 |x::A,b::B,h,_ =>
  obtain⟨y,l,e,c⟩:=h.ch
  rw[M1]at e
  cases e
  obtain⟨c1,c2⟩:=cj.mp c
  exact⟨b,B++x::A,rfl,cj.mpr ⟨c2,c1⟩⟩
theorem Part.perm{f:Nat->Nat}{N:Nat}{rs rs':List (List Nat)}(p:Part f N rs)(h:rs.Perm rs'):Part f N rs' :=
 ⟨fun r hr=>p.cr r (h.mem_iff.mpr hr),h.flatten.nodup_iff.mp p.nd,fun d hd=>h.flatten.mem_iff.mp (p.all d hd)⟩
theorem Part.swap{f:Nat->Nat}{N:Nat}{r r':List Nat}{rest:List (List Nat)}(p:Part f N (r::rest))(h:CR f N r')(pm:r'.Perm r):Part f N (r'::rest):=by
 have q:((r'::rest).flatten).Perm ((r::rest).flatten):=by
  rw[Me,Me]
  exact pm.append_right _
 refine⟨fun x hx=>?_,q.nodup_iff.mpr p.nd,fun d hd=>q.mem_iff.mpr (p.all d hd)⟩
 rcases LC.mp hx with z | z
 ·rw[z];exact h
 ·exact p.cr x (LK _ z)
theorem tI:∀{rs:List (List Nat)}{i:Nat}{r:List Nat},rs[i]?=some r->rs.Perm (r::rs.eraseIdx i)
 |[],i,r,h=>by cases h
 |x::rs,0,r,h=>by cases h;exact Pd _
 |x::rs,i+1,r,h=>by
  have ih:=tI (rs:=rs) (i:=i) (r:=r) h
  show(x::rs).Perm (r::x::rs.eraseIdx i)
  exact(ih.cons x).trans (List.Perm.swap r x _)
theorem BZ{rs:List (List Nat)}{i:Nat}(hi:i<rs.length)(r:List Nat):(r::rs.eraseIdx i).Perm (rs.set i r):=by
 have h:(rs.set i r)[i]?=some r:=by rw[NW hi]
 have:=tI h
 rw[List.eraseIdx_set_eq]at this
 exact this.symm
theorem EH{m:Nat}{es:En}{ts rings:List (List Nat)}(g:Gr m es ts)(pt:Part (fol es ts) (2*es.length) rings){w left right one two:Nat}{A B C:List Nat}(hw:rings[w]?=some (A++left::(B++right::C))){e:Nat×Nat}{l l':List Nat}(h1:hd es left=one)(h2:hd es right=two)(hne:one≠two)(he:e=(one,two)∨e=(two,one))(e1:ts[one]?=some l)(e2:ts[two]?=some l') :
  Gr m (es++[e]) ((ts.set one (ins l (l.idxOf (left/2)+1) es.length)).set two (ins l' (l'.idxOf (right/2)+1) es.length)) /\
  Part (fol (es++[e]) ((ts.set one (ins l (l.idxOf (left/2)+1) es.length)).set two (ins l' (l'.idxOf (right/2)+1) es.length))) (2*(es++[e]).length) (rings.set w (A++left::bH es.length e one::C)++[B++[right,bH es.length e two]]):=by
 have wl:=(Lx.mp hw).1
 have p1:=pt.perm (tI hw)
 have c0:=p1.cr _ (LI ..)
 have c1:CR (fol es ts) (2*es.length) (left::(B++right::(C++A))):=by
  have:=c0.turn (N9 _ _)
  rw[M1,Ma,M1]at this
  exact this
 have pm:(left::(B++right::(C++A))).Perm (A++left::(B++right::C)):=by
  have:(left::(B++right::C)++A).Perm (A++left::(B++right::C)):=Mz
  rw[M1,Ma,M1]at this
  exact this
 have p2:=p1.swap c1 pm
 have hl:=c1.lt left (LI ..)
 obtain⟨x,tl,ex,ch⟩:=c1.ch
 cases ex
 have hm:right∈left::(B++right::(C++A)):=by simp
 refine⟨g.join hl c1 ch hm h1 h2 hne he e1 e2,?_⟩
 have q:=g.joinP hl c1 ch hm h1 h2 hne he e1 e2 p2
 generalize (ts.set one (ins l (l.idxOf (left/2)+1) es.length)).set two (ins l' (l'.idxOf (right/2)+1) es.length)=ts' at q ⊢
 generalize bH es.length e one=α at q ⊢
 generalize bH es.length e two=β at q ⊢
 have d1:CR (fol (es++[e]) ts') (2*(es++[e]).length) (A++left::α::C):=by
  have h:=q.cr _ (LI ..)
  by_cases na:A = []
  ·subst na
   rw[Na]at h
   exact h
  ·have h':CR (fol (es++[e]) ts') (2*(es++[e]).length) ((left::α::C)++A):=h
   exact h'.turn na
 have pm1:(A++left::α::C).Perm (left::α::(C++A)):=(Mz:(A++(left::α::C)).Perm ((left::α::C)++A))
 have q1:=q.swap d1 pm1
 have q2:=q1.perm (List.Perm.swap _ _ _)
 have d2:CR (fol (es++[e]) ts') (2*(es++[e]).length) (B++[right,β]):=by
  have h:=q2.cr _ (LI ..)
  by_cases nb:B = []
  ·subst nb;exact h
  ·have h':CR (fol (es++[e]) ts') (2*(es++[e]).length) ([right,β]++B):=h
   exact h'.turn nb
 have q3:=q2.swap d2 (Mz:(B++[right,β]).Perm ([right,β]++B))
 refine q3.perm ?_
 refine(List.Perm.cons _ (BZ wl _)).trans ?_
 exact(Mz:([B++[right,β]]++rings.set w (A++left::α::C)).Perm _)
theorem EG{m:Nat}{es:En}{ts rings:List (List Nat)}(g:Gr m es ts)(pt:Part (fol es ts) (2*es.length) rings){w left one:Nat}{A B:List Nat}(hw:rings[w]?=some (A++left::B)){e:Nat×Nat}{l:List Nat}(h1:hd es left=one)(he:e=(one,m)∨e=(m,one))(e1:ts[one]?=some l) :
  Gr (m+1) (es++[e]) (ts.set one (ins l (l.idxOf (left/2)+1) es.length)++[[es.length]]) /\
  Part (fol (es++[e]) (ts.set one (ins l (l.idxOf (left/2)+1) es.length)++[[es.length]])) (2*(es++[e]).length) (rings.set w (A++left::bH es.length e one::bH es.length e m::B)):=by
 have wl:=(Lx.mp hw).1
 have p1:=pt.perm (tI hw)
 have c0:=p1.cr _ (LI ..)
 have c1:CR (fol es ts) (2*es.length) (left::(B++A)):=c0.turn (N9 _ _)
 have p2:=p1.swap c1 (Mz:((left::B)++A).Perm (A++left::B))
 have hl:=c1.lt left (LI ..)
 obtain⟨x,tl,ex,ch⟩:=c1.ch
 cases ex
 refine⟨g.leaf hl c1 ch h1 he e1,?_⟩
 have q:=g.leafP hl c1 ch h1 he e1 p2
 generalize ts.set one (ins l (l.idxOf (left/2)+1) es.length)++[[es.length]]=ts' at q ⊢
 generalize bH es.length e one=α at q ⊢
 generalize bH es.length e m=β at q ⊢
 have d1:CR (fol (es++[e]) ts') (2*(es++[e]).length) (A++left::α::β::B):=by
  have h:=q.cr _ (LI ..)
  by_cases na:A = []
  ·subst na
   rw[Na]at h
   exact h
  ·have h':CR (fol (es++[e]) ts') (2*(es++[e]).length) ((left::α::β::B)++A):=h
   exact h'.turn na
 have q1:=q.swap d1 (Mz:(A++(left::α::β::B)).Perm ((left::α::β::B)++A))
 exact q1.perm (BZ wl _)
def EN(K:LA):Sp:=fun vs H Q _=>∃(pt q:Addr)(xs:List V)(p d n:Nat)(l:List Nat),vs = [.ref pt,.int (p:Int),.int (d:Int),.int (n:Int)]/\SqL K H pt xs/\xs[p]?=some (.ref q)/\H q=some (.lst (l.map iV))/\d/2∈l/\l.length<=70/\(∀ x∈l,x<1000)/\Q .non (upd H q (.lst ((ins l (l.idxOf (d/2)+1) n).map iV)))
section
variable{P:Program}{w:World}{K:LA}{mg:Str->Option Value}{base:Heap}
theorem q9:aI ["turns","place","behind","fresh","row"] ["turns","place","behind","fresh"] (aj fQ):=⟨rfl,rfl,rfl,by decide +kernel,rfl,by decide +kernel,by decide +kernel⟩
theorem ok_put{f:Addr}{fd:FuncData} (F:Fun K "_law_put" "_law_put" fQ f fd):FnOk P w K mg base CX0 1 f fd ["turns","place","behind","fresh"] (EN K):=by
 refine F.ok q9 (fun vs H Q E h=>?_) (fun cdv A outer s H vs Q E hr h=>?_)
 ·obtain⟨pt,q,xs,p,d,n,l,rfl,_⟩:=h
  rfl
 obtain⟨pt,q,xs,p,d,n,l,rfl,hS,hx,hq,hd,l60,lb,kk⟩:=h
 have ix:l.idxOf (d/2)<l.length:=List.idxOf_lt_length_of_mem hd
 have ll:(l.map iV).length=l.length:=LB ..
 have eL:(d:Int)/2=((d/2:Nat):Int):=by omega
 refine⟨_,(af (ay (i:=4) q9.nd rfl (Or.inl rfl) (aG aA (pv 0) (pv 1) (fun _ _=>rfl)))
   (ao (a8 (cg LY Pj Pg wV (pv 4) (aa (aF bB (cg LY Oy Ox ui (pv 4) (aa (aF c5 (pv 2) ak) ag)) ak) (aa (pv 3) ag)))))),?_⟩
 refine⟨_,rfl,_,rfl,pt,xs,_,_,rfl,rfl,hS,aD hx,?_⟩
 refine⟨_,rfl,.inl ⟨rfl,_,SqL.of hq⟩,_,rfl,.inl ⟨rfl,_,SqL.of hq⟩,_,rfl,_,_,rfl,rfl,⟨by decide,by decide⟩,q,l,d/2,rfl,congrArg (fun z=>[V.int z]) eL,SqL.of hq,fun p hp=>by have:=lb p hp;omega,by omega,hd,_,_,rfl,rfl,_,rfl,q,_,_,_,rfl,rfl,hq,by omega,by omega,aB (by omega),?_⟩
 rw[insV,show(((l.idxOf (d/2):Nat):Int)+1).toNat=l.idxOf (d/2)+1 by omega]
 exact kk
end
structure GwC(S:Addr->Prop)(H:Hp)(pe pt pr:Addr)(ys xs zs:List V)(es:En)(ts rg:List (List Nat)):Prop where
 he:H pe=some (.lst ys)
 en:cP H ys es
 ht:H pt=some (.lst xs)
 rx:bC (fun p=>p=pe∨p=pt∨p=pr∨S p) H xs ts
 di:Dist xs
 hr:H pr=some (.lst zs)
 rz:bC (fun p=>(p=pe∨p=pt∨p=pr)∨V.ref p∈xs∨S p) H zs rg
 ne:pe≠pt/\pe≠pr/\pt≠pr/\¬ S pe/\¬ S pt/\¬ S pr
 sl:∀ p,S p->H p≠none
def Keep(S:Addr->Prop)(H H':Hp):Prop:=∀ p o,S p->H p=some o->H' p=some o
theorem Keep.trans{S:Addr->Prop}{H H1 H2:Hp}(a:Keep S H H1)(b:Keep S H1 H2):Keep S H H2:=fun p o s h=>b p o s (a p o s h)
theorem Keep.of{S:Addr->Prop}{H H1:Hp}(a:Same H H1):Keep S H H1:=fun p o _ h=>a p o h
theorem Keep.upd{S:Addr->Prop}{H:Hp}{q:Addr}{o:HO}(n:¬ S q):Keep S H (upd H q o):=fun p u s h=>by rw[au (show p≠q from fun z=>n (z▸s))];exact h
theorem Et{S:Addr->Prop}{H:Hp}{xs:List V}{ts:List (List Nat)}(h:bC S H xs ts){p:Addr}(m:V.ref p∈xs):H p≠none:=by
 obtain⟨i,hi⟩:=MD.mp m
 have il:=(Lx.mp hi).1
 obtain⟨p',a1,_,a3⟩:=h.2 i _ (Lw (by rw[← h.1];exact il))
 rw[hi]at a1
 cases a1
 rw[a3]
 exact fun z=>nomatch z
section
variable{S:Addr->Prop}{H H':Hp}{pe pt pr:Addr}{ys xs zs:List V}{es:En}{ts rg:List (List Nat)}
theorem GwC.same(c:GwC S H pe pt pr ys xs zs es ts rg)(s:Same H H'):GwC S H' pe pt pr ys xs zs es ts rg :=
 ⟨s _ _ c.he,c.en.mono s,s _ _ c.ht,c.rx.mono fun p o _ z=>s _ _ z,c.di,s _ _ c.hr,c.rz.mono fun p o _ z=>s _ _ z,c.ne,fun p sp z=>by
  cases y:H p with
  |none=>exact c.sl p sp y
  |some o=>rw[s _ _ y]at z;cases z⟩
theorem GwC.new(c:GwC S H pe pt pr ys xs zs es ts rg){b:Addr}(h:H b=none):b≠pe/\b≠pt/\b≠pr/\¬ S b/\V.ref b∉xs/\V.ref b∉zs :=
 ⟨fun z=>(by rw[z,c.he]at h;cases h),fun z=>(by rw[z,c.ht]at h;cases h),fun z=>(by rw[z,c.hr]at h;cases h),fun z=>c.sl b z h,fun z=>Et c.rx z h,fun z=>Et c.rz z h⟩
theorem GwC.put(c:GwC S H pe pt pr ys xs zs es ts rg){i:Nat}{q:Addr}(hx:xs[i]?=some (.ref q))(l':List Nat):GwC S (upd H q (.lst (l'.map iV))) pe pt pr ys xs zs es (ts.set i l') rg/\¬ S q:=by
 have il:i<ts.length:=by rw[← c.rx.1];exact(Lx.mp hx).1
 obtain⟨q',a1,a2,a3⟩:=c.rx.2 i _ (Lw il)
 rw[hx]at a1
 cases a1
 have n1:pe≠q:=fun z=>a2 (.inl z.symm)
 have n2:pt≠q:=fun z=>a2 (.inr (.inl z.symm))
 have n3:pr≠q:=fun z=>a2 (.inr (.inr (.inl z.symm)))
 have n4:¬ S q:=fun z=>a2 (.inr (.inr (.inr z)))
 refine⟨⟨by rw[au n1];exact c.he,c.en.put a3,by rw[au n2];exact c.ht,c.rx.set c.di hx,c.di,by rw[au n3];exact c.hr,c.rz.mono fun p o n z=>?_,c.ne,fun p sp z=>?_⟩,n4⟩
 ·rw[au (show p≠q from fun y=>n (.inr (.inl (y▸Lz hx))))];exact z
 ·rw[au (show p≠q from fun y=>n4 (y▸sp))]at z;exact c.sl p sp z
theorem GwC.updR(c:GwC S H pe pt pr ys xs zs es ts rg){zs':List V}{rg':List (List Nat)}(hz:bC (fun p=>(p=pe∨p=pt∨p=pr)∨V.ref p∈xs∨S p) H zs' rg'):GwC S (upd H pr (.lst zs')) pe pt pr ys xs zs' es ts rg':=by
 obtain⟨n1,n2,n3,n4,n5,n6⟩:=c.ne
 refine⟨by rw[au n2];exact c.he,c.en.put c.hr,by rw[au n3];exact c.ht,c.rx.mono fun p o n z=>?_,c.di,ae,hz.mono fun p o n z=>?_,c.ne,fun p sp z=>?_⟩
 ·rw[au (fun y=>n (.inr (.inr (.inl y))))];exact z
 ·rw[au (fun y=>n (.inl (.inr (.inr y))))];exact z
 ·rw[au (show p≠pr from fun y=>n6 (y▸sp))]at z;exact c.sl p sp z
theorem vX{S:Addr->Prop}{H:Hp}{zs:List V}{rg:List (List Nat)}(h:bC S H zs rg){W:Nat}{b:Addr}{r:List Nat}(n:¬ S b)(e:H b=some (.lst (r.map iV))):bC S H (zs.set W (.ref b)) (rg.set W r):=by
 refine⟨by rw[Mv,Mv];exact h.1,fun j l z=>?_⟩
 rw[Mp]at z ⊢
 by_cases hj:W=j
 ·rw[if_pos hj]at z ⊢
  by_cases hl:W<rg.length
  ·rw[if_pos hl]at z
   cases z
   exact⟨b,by rw[if_pos (by rw[h.1];exact hl)],n,e⟩
  ·rw[if_neg hl]at z;cases z
 ·rw[if_neg hj]at z ⊢
  exact h.2 j l z
theorem GwC.leaf(c:GwC S H pe pt pr ys xs zs es ts rg){pn:Addr}(hp:pn≠pe/\pn≠pt/\pn≠pr/\¬ S pn/\V.ref pn∉xs/\V.ref pn∉zs){l:List Nat}(e:H pn=some (.lst (l.map iV))):GwC S (upd H pt (.lst (xs++[.ref pn]))) pe pt pr ys (xs++[.ref pn]) zs es (ts++[l]) rg:=by
 obtain⟨n1,n2,n3,n4,n5,n6⟩:=c.ne
 obtain⟨m1,m2,m3,m4,m5,m6⟩:=hp
 have R:=c.rx.snoc (q:=pn) (l:=l) (by rintro(z | z | z | z);exact m1 z;exact m2 z;exact m3 z;exact m4 z) e
 refine⟨by rw[au n1];exact c.he,c.en.put c.ht,ae,R.mono fun p o n z=>?_,fun i j p e1 e2=>?_,by rw[au (Ne.symm n3)];exact c.hr,⟨c.rz.1,fun i l hl=>?_⟩,c.ne,fun p sp z=>?_⟩
 ·rw[au (fun y=>n (.inr (.inl y)))];exact z
 ·have old:∀ k,(xs++[V.ref pn])[k]?=some (.ref p)->(xs[k]?=some (.ref p))∨(k=xs.length/\p=pn):=fun k ek=>by
   by_cases hk:k<xs.length
   ·rw[LF hk]at ek;exact .inl ek
   ·have:=(Lx.mp ek).1
    rw[Ly,LU]at this
    have hk2:k=xs.length:=by omega
    subst hk2
    rw[LD (LG _),Md]at ek
    cases ek
    exact .inr ⟨rfl,rfl⟩
  rcases old i e1 with a | ⟨a,a'⟩
  ·rcases old j e2 with b | ⟨b,b'⟩
   ·exact c.di i j p a b
   ·exact absurd (b'▸Lz a) m5
  ·rcases old j e2 with b | ⟨b,b'⟩
   ·exact absurd (a'▸Lz b) m5
   ·rw[a,b]
 ·obtain⟨p,a1,a2,a3⟩:=c.rz.2 i l hl
  refine⟨p,a1,?_,?_⟩
  ·rintro(y | y | y)
   ·exact a2 (.inl y)
   ·rcases LJ.mp y with y | y
    ·exact a2 (.inr (.inl y))
    ·have:p=pn:=by
      have:=Mx.mp y
      cases this;rfl
     exact m6 (this▸Lz a1)
   ·exact a2 (.inr (.inr y))
  ·rw[au (fun y=>a2 (.inl (.inr (.inl y))))];exact a3
 ·rw[au (show p≠pt from fun y=>n5 (y▸sp))]at z;exact c.sl p sp z
theorem GwC.fin(c:GwC S H pe pt pr ys xs zs es ts rg){i:Nat}{q:Addr}(hx:xs[i]?=some (.ref q))(l':List Nat){t:Addr}(ht:(upd H q (.lst (l'.map iV))) t=none)(e:Nat×Nat) :
  GwC S (upd (upd (upd H q (.lst (l'.map iV))) t (.tup [iV e.1,iV e.2])) pe (.lst (ys++[.ref t]))) pe pt pr (ys++[.ref t]) xs zs (es++[e]) (ts.set i l') rg/\Keep S H (upd (upd (upd H q (.lst (l'.map iV))) t (.tup [iV e.1,iV e.2])) pe (.lst (ys++[.ref t]))):=by
 obtain⟨c1,nq⟩:=c.put hx l'
 have sn:=ai ht (.tup [iV e.1,iV e.2])
 have c2:=c1.same sn
 obtain⟨n1,n2,n3,n4,n5,n6⟩:=c.ne
 refine⟨⟨ae,(c2.en.snoc ae).put c2.he,by rw[au (Ne.symm n1)];exact c2.ht,c2.rx.mono fun p o n z=>?_,c2.di,by rw[au (Ne.symm n2)];exact c2.hr,c2.rz.mono fun p o n z=>?_,c.ne,fun p sp z=>?_⟩,?_⟩
 ·rw[au (fun y=>n (.inl y))];exact z
 ·rw[au (fun y=>n (.inl (.inl y)))];exact z
 ·rw[au (show p≠pe from fun y=>n4 (y▸sp))]at z;exact c2.sl p sp z
 ·exact((Keep.upd nq).trans (Keep.of sn)).trans (Keep.upd n4)
end
end K8
namespace K8
open PySem L2
local macro_rules | `(tactic| walk_at "cc") => `(tactic| first | exact ⟨by decide, by decide⟩ | (show (0 : Int) < _; decide) | (show (0 : Int) < _; omega) | (show (0 : Int) ≤ _; omega) | exact ⟨by decide, by decide, by decide⟩ | exact ⟨by omega, by omega, by decide⟩ | exact Or.inl ⟨by decide, by decide⟩ | exact Or.inl ⟨by omega, by omega⟩)
local macro_rules | `(tactic| walk_at "rd") => `(tactic| repeat (first | refine ⟨_, rfl, ?_⟩ | refine ⟨_, _, rfl, rfl, ?_⟩ | refine ⟨rfl, ?_⟩ | (refine ⟨?cc, ?_⟩; (case cc => walk_at "cc"))))
def GwA(S:Addr->Prop)(H:Hp)(pe pt pr:Addr)(m:Nat)(es:En)(ts rg:List (List Nat)):Prop:=(∃ ys xs zs,GwC S H pe pt pr ys xs zs es ts rg)/\Gr m es ts/\Part (fol es ts) (2*es.length) rg
def stepT:TS:=fun D σ H=>∃(pe pt q rg:Addr)(v0 v3 v4 v5 v6 v7 v10 v15:Option V)(a L one two n o:Nat)(xs ys:List V)(ring l:List Nat),σ = [v0,some (.ref pe),some (.ref pt),v3,v4,v5,v6,v7,some (.ref rg),some (.int (a:Int)),v10,some (.int (one:Int)),some (.int (two:Int)),some (.int (n:Int)),some (.int ((2*n+o:Nat):Int)),v15]/\o<2/\H pt=some (.lst xs)/\xs[one]?=some (.ref q)/\H q=some (.lst (l.map iV))/\L/2∈l/\l.length<=70/\(∀ x∈l,x<1000)/\H rg=some (.lst (ring.map iV))/\ring[a]?=some L/\q≠pe/\H pe=some (.lst ys)/\ys.length<=70 /\
 ∀ t,(upd H q (.lst ((ins l (l.idxOf (L/2)+1) n).map iV))) t=none->D.nx σ (upd (upd (upd H q (.lst ((ins l (l.idxOf (L/2)+1) n).map iV))) t (.tup (if o=0 then[iV one,iV two] else[iV two,iV one]))) pe (.lst (ys++[.ref t])))
def Ls(S:Addr->Prop)(H:Hp)(pe pt pr:Addr)(N P:Nat)(Q:Hp->Prop):Prop:=∀(m':Nat)(es':En)(ts' rg':List (List Nat))(H':Hp),Keep S H H'->GwA S H' pe pt pr m' es' ts' rg'->N<=es'.length->es'.length<=N+1->m'<=P->Q H'
def stepO:TS:=fun D σ H=>∃(S:Addr->Prop)(c:Int)(pe pt pr rq:Addr)(P m W a b:Nat)(v5 v7 v11 v12 v13 v14 v15:Option V)(ys xs zs:List V)(es:En)(ts rg:List (List Nat))(ring:List Nat),σ = [some (.int c),some (.ref pe),some (.ref pt),some (.ref pr),some (.int (P:Int)),v5,some (.int (W:Int)),v7,some (.ref rq),some (.int (a:Int)),some (.int (b:Int)),v11,v12,v13,v14,v15]/\GwC S H pe pt pr ys xs zs es ts rg/\Gr m es ts/\Part (fol es ts) (2*es.length) rg/\es.length<=62/\m<=P/\zs[W]?=some (.ref rq)/\rg[W]?=some ring/\H rq=some (.lst (ring.map iV))/\a<=b/\b<ring.length/\(∀ σ',Ls S H pe pt pr es.length P (D.nx σ'))/\Ls S H pe pt pr es.length P (D.rt .non)
theorem yO{r:List Nat}{a L:Nat}(h:r[a]?=some L):r.take (a+1)=r.take a++[L]:=by
 rw[Mo,h];rfl
theorem rX{r:List Nat}{a L:Nat}(h:r[a]?=some L):r=r.take a++L::r.drop (a+1):=by
 have:=(L3 (a+1) r).symm
 rw[yO h,Ma]at this
 exact this
theorem EI{r:List Nat}{a b L R:Nat}(h:r[a]?=some L)(h2:r[b]?=some R)(lt:a<b):r=r.take a++L::((r.drop (a+1)).take (b-a-1)++R::r.drop (b+1)):=by
 have e:(r.drop (a+1))[b-a-1]?=some R:=by rw[Ng,show a+1+(b-a-1)=b by omega];exact h2
 have:=rX e
 rw[Nv,show a+1+(b-a-1+1)=b+1 by omega]at this
 rw[← this]
 exact rX h
theorem mid_at{r:List Nat}{a b R:Nat}(h2:r[b]?=some R)(lt:a<b):(r.drop (a+1)).take (b-a)=(r.drop (a+1)).take (b-a-1)++[R]:=by
 have e:(r.drop (a+1))[b-a-1]?=some R:=by rw[Ng,show a+1+(b-a-1)=b by omega];exact h2
 rw[show b-a=b-a-1+1 by omega]
 exact yO e
theorem Lg{xs:List V}{c:Nat}(h:c<=xs.length):cutV xs (some (c:Int)) none=xs.drop c:=by
 unfold cutV
 rw[HT.sIx_nat,MU h]
 show(xs.drop c).take (xs.length-c)=_
 exact Ms (by rw[Mj];exact LG _)
theorem Lf{xs:List V}{c:Nat}(h:c<=xs.length):cutV xs none (some (c:Int))=xs.take c:=by
 unfold cutV
 rw[HT.sIx_nat,MU h]
 show(xs.drop 0).take (c-0)=_
 rw[NZ,Nat.sub_zero]
theorem Le{xs:List V}{c d:Nat}(h:c<=xs.length)(h2:d<=xs.length):cutV xs (some (c:Int)) (some (d:Int))=(xs.drop c).take (d-c):=by
 unfold cutV
 rw[HT.sIx_nat,HT.sIx_nat,MU h,MU h2]
theorem c7{H G:Hp}{p:Addr}(sm:Same H G)(z:G p=none):H p=none:=by
 cases y:H p with
 |none=>rfl
 |some o=>rw[sm _ _ y]at z;cases z
theorem IL{n o x y:Nat}(o2:o<2)(ne:x≠y):bH n (if o=0 then(x,y) else(y,x)) x=2*n+o/\bH n (if o=0 then(x,y) else(y,x)) y=2*n+1-o:=by
 by_cases z:o=0
 ·subst z
  rw[if_pos rfl]
  unfold bH
  exact⟨by rw[if_pos rfl];rfl,by rw[if_neg ne];rfl⟩
 ·have:o=1:=by omega
  subst this
  rw[if_neg (by decide)]
  unfold bH
  exact⟨by rw[if_neg (Ne.symm ne)],by rw[if_pos rfl];rfl⟩
theorem I8{o x y:Nat}:HO.tup (if o=0 then[iV x,iV y] else[iV y,iV x])=HO.tup [iV (if o=0 then(x,y) else(y,x)).1,iV (if o=0 then(x,y) else(y,x)).2]:=by
 by_cases z:o=0
 ·rw[if_pos z,if_pos z]
 ·rw[if_neg z,if_neg z]
theorem Fo{o x y:Nat}:(if o=0 then(x,y) else(y,x))=(x,y)∨(if o=0 then(x,y) else(y,x))=(y,x):=by
 by_cases z:o=0
 ·exact .inl (if_pos z)
 ·exact .inr (if_neg z)
theorem xC{m:Nat}{es:En}{ts:List (List Nat)}(g:Gr m es ts):m<=es.length+2:=by
 obtain⟨rs,_,c⟩:=g.part
 omega
def EL:Sp:=fun vs H Q _=>∃(S:Addr->Prop)(c:Int)(pe pt pr:Addr)(P m:Nat)(es:En)(ts rg:List (List Nat)),vs = [.int c,.ref pe,.ref pt,.ref pr,.int (P:Int)]/\GwA S H pe pt pr m es ts rg/\0<es.length/\es.length<=62/\m<=P/\Ls S H pe pt pr es.length P (Q .non)
section
variable{P:Program}{w:World}{K:LA}{mg:Str->Option Value}{base:Heap}
theorem aY:aI ["cell","ends","turns","rings","places","mixed","which","rest","ring","a","b","one","two","fresh","out","back"] ["cell","ends","turns","rings","places"] (aj dY):=⟨rfl,rfl,rfl,by decide +kernel,rfl,by decide +kernel,by decide +kernel⟩
theorem Ko{f fh fp:Addr}{fd dh dp:FuncData} (F:Fun K "_law_step" "_law_step" dY f fd) (T:Txt mg) (G_law_head:Cal P w K mg base 1 "_law_head" ["ends","dart"] (y4 K) fh dh) (G_law_put:Cal P w K mg base 1 "_law_put" ["turns","place","behind","fresh"] (EN K) fp dp):FnOk P w K mg base CX0 2 f fd ["cell","ends","turns","rings","places"] EL:=by
 refine F.ok aY (fun vs H Q E h=>?_) (fun cdv A outer s H vs Q E hr h=>?_)
 ·obtain⟨S,c,pe,pt,pr,P,m,es,ts,rg,rfl,_⟩:=h
  rfl
 obtain⟨S,c,pe,pt,pr,P,m,es,ts,rg,rfl,⟨⟨ys,xs,zs,C⟩,g,part⟩,e0,few,mP,kk⟩:=h
 refine⟨_,(af (ay (i:=5) aY.nd rfl (Or.inl rfl) (aF bV (aF dD (aF bV (pv 0) ak) ak) ak))
   (af (ay (i:=6) aY.nd rfl (Or.inl rfl) (aF bV (aF c5 (pv 5) ak) (ar aq (by rfl) T.n_len aQ (aa (pv 3) ag))))
   (af (ay (i:=7) aY.nd rfl (Or.inl rfl) (aF c5 (aF c5 (pv 5) ak) (ar aq (by rfl) T.n_len aQ (aa (pv 3) ag))))
   (af (ay (i:=8) aY.nd rfl (Or.inl rfl) (aG aA (pv 3) (pv 6) (fun _ _=>rfl)))
   (af (ay (i:=9) aY.nd rfl (Or.inl rfl) (aF bV (pv 7) (ar aq (by rfl) T.n_len aQ (aa (pv 8) ag))))
   (af (ay (i:=10) aY.nd rfl (Or.inl rfl) (pv 9))
   (af (bt (av jw (aF bV (pv 5) ak) ak (aK _)) (ao (ay (i:=10) aY.nd rfl (Or.inl rfl) (aF bB (pv 9) (aF bV (aF c5 (pv 7) (ar aq (by rfl) T.n_len aQ (aa (pv 8) ag))) (aF wq (ar aq (by rfl) T.n_len aQ (aa (pv 8) ag)) (pv 9)))))) aN)
   (sV (t2:=stepO) (af (ay (i:=11) aY.nd rfl (Or.inl rfl) (ax G_law_head.ok (hr.mono (by decide)) rfl G_law_head.mg G_law_head.kp G_law_head.bn .nil aR (aa (pv 1) (aa (aG aA (pv 8) (pv 9) (fun _ _=>rfl)) ag))))
   (af (ay (i:=12) aY.nd rfl (Or.inl rfl) (ax G_law_head.ok (hr.mono (by decide)) rfl G_law_head.mg G_law_head.kp G_law_head.bn .nil aR (aa (pv 1) (aa (aG aA (pv 8) (pv 10) (fun _ _=>rfl)) ag))))
   (af (ay (i:=13) aY.nd rfl (Or.inl rfl) (ar aq (by rfl) T.n_len aQ (aa (pv 1) ag)))
   (af (ay (i:=14) aY.nd rfl (Or.inl rfl) (aF bB (aF dD ak (pv 13)) (aF bV (aF c5 (pv 0) ak) ak)))
   (af (ay (i:=15) aY.nd rfl (Or.inl rfl) (aF wq (aF bB (aF dD ak (pv 13)) ak) (pv 14)))
   (af (bt (PW.pt (E7 (av jw (pv 11) (pv 12) (aK _)) (zv (av HP (ar aq (by rfl) T.n_len aQ (aa (pv 2) ag)) (pv 4) (aK _))))) (ao Kg) aN)
   (af (bt (av jw (pv 11) (pv 12) (aK _)) (af (ay (i:=12) aY.nd rfl (Or.inl rfl) (ar aq (by rfl) T.n_len aQ (aa (pv 2) ag)))
   (af (a8 (cg LY Mi Mh bb (pv 2) (aa (bu (aa (pv 13) ag)) ag)))
   (ao (BW (aF jK (aF jK (bY dk (pv 8) fu (cJ (aF bB (pv 9) ak))) (bu (aa (pv 14) (aa (pv 15) ag)))) (bY dk (pv 8) (cJ (aF bB (pv 9) ak)) fu)) (BY (pv 3) (pv 6) oo))))) (af (a8 (ax G_law_put.ok (hr.mono (by decide)) rfl G_law_put.mg G_law_put.kp G_law_put.bn .nil aR (aa (pv 2) (aa (pv 12) (aa (aG aA (pv 8) (pv 10) (fun _ _=>rfl)) (aa (pv 13) ag))))))
   (af (BW (aF jK (aF jK (bY dk (pv 8) fu (cJ (aF bB (pv 9) ak))) (bu (aa (pv 14) ag))) (bY dk (pv 8) (cJ (aF bB (pv 10) ak)) fu)) (BY (pv 3) (pv 6) oo))
   (ao (a8 (cg LY Mi Mh bb (pv 3) (aa (aF jK (bY dk (pv 8) (cJ (aF bB (pv 9) ak)) (cJ (aF bB (pv 10) ak))) (bu (aa (pv 15) ag))) ag)))))))
   (sV (t2:=stepT) (af (a8 (ax G_law_put.ok (hr.mono (by decide)) rfl G_law_put.mg G_law_put.kp G_law_put.bn .nil aR (aa (pv 2) (aa (pv 11) (aa (aG aA (pv 8) (pv 9) (fun _ _=>rfl)) (aa (pv 13) ag))))))
   (ao (bt (av jw (aF bV (pv 14) ak) ak (aK _)) (ao (a8 (cg LY Mi Mh bb (pv 1) (aa (gU (aa (pv 11) (aa (pv 12) ag))) ag)))) (ao (a8 (cg LY Mi Mh bb (pv 1) (aa (gU (aa (pv 12) (aa (pv 11) ag))) ag))))))) (fun D0 S0 H0 h0=>?restp))))))))) (fun D0 S0 H0 h0=>?resto))))))))),?_⟩
 case restp =>
  obtain⟨pe,pt,q,rg,v0,v3,v4,v5,v6,v7,v10,v15,a,L,one,two,n,o,xs,ys,ring,l,rfl,o2,hpt,hx,hq,hL,l60,lb,hrg,hra,qpe,hpe,y60,kk⟩:=h0
  have hraV:(ring.map iV)[a]?=some (iV L):=by rw[LL,hra];rfl
  refine⟨_,rfl,_,rfl,_,rfl,_,rfl,rg,_,_,_,rfl,rfl,SqL.of hrg,aD hraV,_,rfl,pt,q,xs,one,L,n,l,rfl,SqL.of hpt,hx,hq,hL,l60,lb,?_⟩
  have hpe2:(upd H0 q (.lst ((ins l (l.idxOf (L/2)+1) n).map iV))) pe=some (.lst ys):=by rw[au (Ne.symm qpe)];exact hpe
  refine⟨_,rfl,_,_,rfl,rfl,(by show(0:Int)<2;decide),rfl,_,rfl,ite2 (fun c=>?_) (fun c=>?_)⟩
  ·have c':((2*n+o:Nat):Int)%2=0:=V.int.inj (of_decide_eq_true c)
   have o0:o=0:=by omega +splitDisjunctions
   refine⟨_,rfl,.inl ⟨rfl,_,SqL.of hpe2⟩,_,rfl,_,rfl,(by show 2<=sizeLine;decide),fun t ht=>⟨pe,ys,_,rfl,rfl,ai ht _ _ _ hpe2,aB (by omega +splitDisjunctions),?_⟩⟩
   have:=kk t ht
   rw[if_pos o0]at this
   exact this
  ·have c':¬ ((2*n+o:Nat):Int)%2=0:=fun z=>c (decide_eq_true (congrArg V.int z))
   have o0:¬ o=0:=by omega +splitDisjunctions
   refine⟨_,rfl,.inl ⟨rfl,_,SqL.of hpe2⟩,_,rfl,_,rfl,(by show 2<=sizeLine;decide),fun t ht=>⟨pe,ys,_,rfl,rfl,ai ht _ _ _ hpe2,aB (by omega +splitDisjunctions),?_⟩⟩
   have:=kk t ht
   rw[if_neg o0]at this
   exact this
 case resto =>
  clear C g part kk mP few e0
  obtain⟨S,c,pe,pt,pr,rq,P,m,W,a,b,v5,v7,v11,v12,v13,v14,v15,ys,xs,zs,es,ts,rg,ring,rfl,C,g,part,few,mP,hzW,hrW,hrq,ab,bl,kN,kR⟩:=h0
  have wf:=g.w
  have mf:=xC g
  have cr:=part.cr ring (Lz hrW)
  obtain⟨L,hL⟩:∃ L,ring[a]?=some L:=⟨_,Lw (by omega +splitDisjunctions)⟩
  obtain⟨R,hR⟩:∃ R,ring[b]?=some R:=⟨_,Lw bl⟩
  have hLl:=cr.lt L (Lz hL)
  have hRl:=cr.lt R (Lz hR)
  have yl:ys.length=es.length:=C.en.1
  have xl:xs.length=m:=by rw[C.rx.1,wf.len]
  have hLV:(ring.map iV)[a]?=some (iV L):=by rw[LL,hL];rfl
  have hRV:(ring.map iV)[b]?=some (iV R):=by rw[LL,hR];rfl
  have rlen:(ring.map iV).length=ring.length:=LB _
  have rle:ring.length<=2*es.length:=eu cr.nd cr.lt
  obtain⟨_,l,_,_,_,k4,k5,k6⟩:=wf.at hLl
  obtain⟨_,l',_,_,_,k4',k5',k6'⟩:=wf.at hRl
  obtain⟨sm1,f1⟩:=fH wf (NB few) k5
  obtain⟨sm2,f2⟩:=fH wf (NB few) k5'
  obtain⟨p1,y1,y2,y3⟩:=C.rx.2 _ _ k5
  obtain⟨p2,z1,z2,z3⟩:=C.rx.2 _ _ k5'
  obtain⟨rq',a1,a2,a3⟩:=C.rz.2 _ _ hrW
  rw[hzW]at a1
  cases a1
  obtain⟨n1,n2,n3,n4,n5,n6⟩:=C.ne
  obtain⟨o,ho,o2⟩:∃ o:Nat,c/3%2=(o:Int)/\o<2:=⟨(c/3%2).toNat,by omega +splitDisjunctions,by omega +splitDisjunctions⟩
  have qpt:rq≠pt:=fun z=>a2 (.inl (.inr (.inl z)))
  have qpr:rq≠pr:=fun z=>a2 (.inl (.inr (.inr z)))
  have qxs:V.ref rq∉xs:=fun z=>a2 (.inr (.inl z))
  refine⟨_,rfl,_,rfl,_,rfl,rq,_,_,_,rfl,rfl,SqL.of hrq,aD hLV,pe,ys,es,L,rfl,SqL.of C.he,C.en,hLl,?_⟩
  refine⟨_,rfl,_,rfl,_,rfl,rq,_,_,_,rfl,rfl,SqL.of hrq,aD hRV,pe,ys,es,R,rfl,SqL.of C.he,C.en,hRl,?_⟩
  refine⟨_,rfl,pe,ys,rfl,.inl (SqL.of C.he),?_⟩
  refine⟨_,rfl,_,_,rfl,rfl,.inl ⟨by decide,by decide⟩,_,rfl,_,_,rfl,rfl,⟨by decide,by decide⟩,_,_,rfl,rfl,(by show(0:Int)<2;decide),_,_,rfl,rfl,?_⟩
  refine⟨_,rfl,_,_,rfl,rfl,.inl ⟨by decide,by decide⟩,_,_,rfl,rfl,_,rfl,_,_,rfl,rfl,?_⟩
  have hb:4*(es.length:Int)+1-(2*(es.length:Int)+(o:Int))=((2*es.length+1-o:Nat):Int):=by omega +splitDisjunctions
  have ha:2*(es.length:Int)+(o:Int)=((2*es.length+o:Nat):Int):=by omega +splitDisjunctions
  rw[ho,yl]
  dsimp only
  rw[hb,ha]
  have cutA:cutV (ring.map iV) none (some ((a:Int)+1))=((ring.take a++[L]).map iV):=by
   rw[show(a:Int)+1=((a+1:Nat):Int) by omega +splitDisjunctions,Lf (by rw[rlen];omega +splitDisjunctions),← yO hL,NR]
  have cutB:∀ x,x<ring.length->cutV (ring.map iV) (some ((x:Int)+1)) none=((ring.drop (x+1)).map iV):=fun x hx=>by
   rw[show(x:Int)+1=((x+1:Nat):Int) by omega +splitDisjunctions,Lg (by rw[rlen];omega +splitDisjunctions),NS]
  have zl:zs.length=rg.length:=C.rz.1
  have rgl:rg.length<=es.length+2:=by
   obtain⟨rs,q1,q2⟩:=g.part
   have:=part.same q1
   omega +splitDisjunctions
  have Wl:W<rg.length:=(Lx.mp hrW).1
  refine⟨_,rfl,_,rfl,rfl,_,rfl,ite2 (fun e1=>?_) (fun e1=>?_)⟩
  ·refine⟨_,rfl,pt,xs,rfl,.inl (SqL.of C.ht),_,rfl,_,_,rfl,rfl,_,rfl,ite2 (fun e2=>?_) (fun e2=>?_)⟩
   ·exact kR m es ts rg H0 (Keep.of (fun _ _ z=>z)) ⟨⟨ys,xs,zs,C⟩,g,part⟩ (LG _) (Ni _) mP
   have mlt:m<P:=by
    by_cases z:m<P
    ·exact z
    ·exact absurd (decide_eq_true (by rw[xl];omega +splitDisjunctions)) e2
   refine⟨_,rfl,_,rfl,rfl,_,rfl,ite2 (fun _=>?_) (fun z=>absurd e1 z)⟩
   refine⟨_,rfl,pt,xs,rfl,.inl (SqL.of C.ht),?_⟩
   refine⟨_,rfl,.inl ⟨rfl,_,SqL.of C.ht⟩,_,rfl,(by show 1<=sizeLine;decide),fun pn hpn=>⟨pt,xs,_,rfl,rfl,ai hpn _ _ _ C.ht,aB (by omega +splitDisjunctions),?_⟩⟩
   have sn:=ai hpn (.lst [V.int (es.length:Int)])
   have C1:=(C.same sn).leaf (C.new hpn) (l:=[es.length]) ae
   have hrq1:=sn _ _ hrq
   have hrq2:(upd (upd H0 pn (.lst [V.int (es.length:Int)])) pt (.lst (xs++[.ref pn]))) rq=some (.lst (ring.map iV)):=by rw[au qpt];exact hrq1
   have kp1:Keep S H0 (upd (upd H0 pn (.lst [V.int (es.length:Int)])) pt (.lst (xs++[.ref pn]))):=(Keep.of sn).trans (Keep.upd n5)
   generalize hG1:upd (upd H0 pn (.lst [V.int (es.length:Int)])) pt (.lst (xs++[.ref pn]))=G1 at C1 hrq2 kp1
   refine⟨_,rfl,_,rfl,_,_,rfl,rfl,_,rfl,rq,_,rfl,SqL.of hrq2,fun b1 hb1=>?_⟩
   rw[cutA]
   have t1:=ai hb1 (.lst ((ring.take a++[L]).map iV))
   refine⟨_,rfl,_,rfl,(by show 2<=sizeLine;decide),fun b2 hb2=>?_⟩
   have t2:=ai hb2 (.lst ([2*es.length+o,2*es.length+1-o].map iV))
   refine⟨b1,b2,(ring.take a++[L]).map iV,[2*es.length+o,2*es.length+1-o].map iV,rfl,rfl,SqL.of (t2 _ _ ae),SqL.of ae,(by rw[LB,LB,Ly,LZ];exact MJ (aB (by simp;omega +splitDisjunctions))),fun b3 hb3=>?_⟩
   have t3:=ai hb3 (.lst ((ring.take a++[L]).map iV++[2*es.length+o,2*es.length+1-o].map iV))
   have t03:=(t1.trans t2).trans t3
   refine⟨_,rfl,_,rfl,_,_,rfl,rfl,_,rfl,rq,_,rfl,SqL.of (t03 _ _ hrq2),fun b4 hb4=>?_⟩
   rw[cutB a (by omega +splitDisjunctions)]
   have t4:=ai hb4 (.lst ((ring.drop (a+1)).map iV))
   refine⟨b3,b4,_,_,rfl,rfl,SqL.of (t4 _ _ ae),SqL.of ae,(by rw[Ly,LB,LB,Ly,LZ,LB,Mj];exact MJ (aB (by simp;omega +splitDisjunctions))),fun b5 hb5=>?_⟩
   have hlist:(ring.take a++[L]).map iV++[2*es.length+o,2*es.length+1-o].map iV++(ring.drop (a+1)).map iV=(ring.take a++L::(2*es.length+o)::(2*es.length+1-o)::ring.drop (a+1)).map iV:=by simp
   rw[hlist]
   have t5:=ai hb5 (.lst ((ring.take a++L::(2*es.length+o)::(2*es.length+1-o)::ring.drop (a+1)).map iV))
   have t04:=t03.trans t4
   have t05:=t04.trans t5
   have C5:=C1.same t05
   obtain⟨w1,w2,w3,w4,w5,w6⟩:=C1.new (c7 t04 hb5)
   have C6:=C5.updR (vX C5.rz (W:=W) (b:=b5) (by rintro((z | z | z) | z | z);exact w1 z;exact w2 z;exact w3 z;exact w5 z;exact w4 z) ae)
   refine⟨_,rfl,_,rfl,pr,zs,_,W,rfl,rfl,C5.hr,uG (by omega +splitDisjunctions),?_⟩
   have hrq6:=(au (o:=.lst (zs.set W (.ref b5))) qpr).trans (t05 _ _ hrq2)
   have kp6:=(kp1.trans (Keep.of t05)).trans (Keep.upd (q:=pr) (o:=.lst (zs.set W (.ref b5))) n6)
   have tsl:hd es L<ts.length:=by rw[wf.len];exact k4
   obtain⟨p1',u1,u2,u3⟩:=C6.rx.2 (hd es L) l (by rw[LF tsl];exact k5)
   refine⟨pe,pt,p1',rq,_,_,_,_,_,_,_,_,a,L,hd es L,xs.length,es.length,o,xs++[.ref pn],ys,ring,l,rfl,o2,C6.ht,u1,u3,k6,by omega +splitDisjunctions,fun x hx=>by have:=sm1 x hx;omega +splitDisjunctions,hrq6,hL,fun z=>u2 (.inl z),C6.he,by omega +splitDisjunctions,fun t ht=>?_⟩
   obtain⟨C7,kp7⟩:=C6.fin u1 (ins l (l.idxOf (L/2)+1) es.length) ht (if o=0 then(hd es L,xs.length) else(xs.length,hd es L))
   rw[I8]
   have hne:hd es L≠xs.length:=by omega +splitDisjunctions
   have hS:=EG (e:=if o=0 then(hd es L,xs.length) else(xs.length,hd es L)) (w:=W) g part (hrW.trans (congrArg some (rX hL))) rfl (by rw[xl];exact Fo) k5
   rw[← xl,(IL o2 hne).1,(IL o2 hne).2]at hS
   rw[OI _ _ tsl]at C7
   exact kN _ (xs.length+1) _ _ _ _ (kp6.trans kp7) ⟨⟨_,_,_,C7⟩,hS.1,hS.2⟩ (by rw[Ly];omega +splitDisjunctions) (by rw[Ly];exact LG _) (by omega +splitDisjunctions)
  ·refine iteF ?_
   refine⟨_,rfl,_,rfl,rfl,_,rfl,ite2 (fun z=>absurd z e1) (fun _=>?_)⟩
   have hne:hd es L≠hd es R:=fun z=>e1 (decide_eq_true (by rw[z]))
   have alt:a<b:=by
    rcases Nat.lt_or_ge a b with z | z
    ·exact z
    ·have:a=b:=by omega +splitDisjunctions
     subst this
     rw[hL]at hR
     cases hR
     exact absurd rfl hne
   refine⟨_,rfl,_,rfl,_,rfl,_,rfl,rq,_,_,_,rfl,rfl,SqL.of hrq,aD hRV,_,rfl,pt,p2,xs,hd es R,R,es.length,l',rfl,SqL.of C.ht,z1,z3,k6',by omega +splitDisjunctions,fun x hx=>by have:=sm2 x hx;omega +splitDisjunctions,?_⟩
   obtain⟨C1,np2⟩:=C.put z1 (ins l' (l'.idxOf (R/2)+1) es.length)
   have hrq2:(upd H0 p2 (.lst ((ins l' (l'.idxOf (R/2)+1) es.length).map iV))) rq=some (.lst (ring.map iV)):=by rw[au (show rq≠p2 from fun z=>qxs (z▸Lz z1))];exact hrq
   have kp1:Keep S H0 (upd H0 p2 (.lst ((ins l' (l'.idxOf (R/2)+1) es.length).map iV))):=Keep.upd np2
   generalize hG1:upd H0 p2 (.lst ((ins l' (l'.idxOf (R/2)+1) es.length).map iV))=G1 at C1 hrq2 kp1
   refine⟨_,rfl,_,rfl,_,_,rfl,rfl,_,rfl,rq,_,rfl,SqL.of hrq2,fun b1 hb1=>?_⟩
   rw[cutA]
   have t1:=ai hb1 (.lst ((ring.take a++[L]).map iV))
   refine⟨_,rfl,(by show 1<=sizeLine;decide),fun b2 hb2=>?_⟩
   have t2:=ai hb2 (.lst ([2*es.length+o].map iV))
   refine⟨b1,b2,(ring.take a++[L]).map iV,[2*es.length+o].map iV,rfl,rfl,SqL.of (t2 _ _ ae),SqL.of ae,(by rw[LB,LB,Ly,LZ];exact MJ (aB (by simp;omega +splitDisjunctions))),fun b3 hb3=>?_⟩
   have t3:=ai hb3 (.lst ((ring.take a++[L]).map iV++[2*es.length+o].map iV))
   have t03:=(t1.trans t2).trans t3
   refine⟨_,rfl,_,rfl,_,_,rfl,rfl,_,rfl,rq,_,rfl,SqL.of (t03 _ _ hrq2),fun b4 hb4=>?_⟩
   rw[cutB b bl]
   have t4:=ai hb4 (.lst ((ring.drop (b+1)).map iV))
   refine⟨b3,b4,_,_,rfl,rfl,SqL.of (t4 _ _ ae),SqL.of ae,(by rw[Ly,LB,LB,Ly,LZ,LB,Mj];exact MJ (aB (by simp;omega +splitDisjunctions))),fun b5 hb5=>?_⟩
   have hlist:(ring.take a++[L]).map iV++[2*es.length+o].map iV++(ring.drop (b+1)).map iV=(ring.take a++L::(2*es.length+o)::ring.drop (b+1)).map iV:=by simp
   rw[hlist]
   have t5:=ai hb5 (.lst ((ring.take a++L::(2*es.length+o)::ring.drop (b+1)).map iV))
   have t04:=t03.trans t4
   have t05:=t04.trans t5
   have C5:=C1.same t05
   obtain⟨w1,w2,w3,w4,w5,w6⟩:=C1.new (c7 t04 hb5)
   have C6:=C5.updR (vX C5.rz (W:=W) (b:=b5) (by rintro((z | z | z) | z | z);exact w1 z;exact w2 z;exact w3 z;exact w5 z;exact w4 z) ae)
   refine⟨_,rfl,_,rfl,pr,zs,_,W,rfl,rfl,C5.hr,uG (by omega +splitDisjunctions),?_⟩
   have hrq6:=(au (o:=.lst (zs.set W (.ref b5))) qpr).trans (t05 _ _ hrq2)
   have kp6:=(kp1.trans (Keep.of t05)).trans (Keep.upd (q:=pr) (o:=.lst (zs.set W (.ref b5))) n6)
   generalize hG6:upd _ pr (HO.lst (zs.set W (.ref b5)))=G6 at C6 hrq6 kp6
   refine⟨_,rfl,.inl ⟨rfl,_,SqL.of C6.hr⟩,_,rfl,_,rfl,_,_,rfl,rfl,_,rfl,_,rfl,_,_,rfl,rfl,_,rfl,rq,_,rfl,SqL.of hrq6,fun b6 hb6=>?_⟩
   have cutM:cutV (ring.map iV) (some ((a:Int)+1)) (some ((b:Int)+1))=(((ring.drop (a+1)).take (b-a-1)++[R]).map iV):=by
    rw[show(a:Int)+1=((a+1:Nat):Int) by omega +splitDisjunctions,show(b:Int)+1=((b+1:Nat):Int) by omega +splitDisjunctions,Le (by rw[rlen];omega +splitDisjunctions) (by rw[rlen];omega +splitDisjunctions),← mid_at hR alt,NR,NS,show b+1-(a+1)=b-a by omega +splitDisjunctions]
   rw[cutM]
   have t6:=ai hb6 (.lst (((ring.drop (a+1)).take (b-a-1)++[R]).map iV))
   refine⟨_,rfl,(by show 1<=sizeLine;decide),fun b7 hb7=>?_⟩
   have t7:=ai hb7 (.lst ([2*es.length+1-o].map iV))
   refine⟨b6,b7,((ring.drop (a+1)).take (b-a-1)++[R]).map iV,[2*es.length+1-o].map iV,rfl,rfl,SqL.of (t7 _ _ ae),SqL.of ae,(by rw[LB,LB,Ly,LZ,Mj];exact MJ (aB (by simp;omega +splitDisjunctions))),fun b8 hb8=>?_⟩
   have hlist2:((ring.drop (a+1)).take (b-a-1)++[R]).map iV++[2*es.length+1-o].map iV=((ring.drop (a+1)).take (b-a-1)++[R,2*es.length+1-o]).map iV:=by simp
   rw[hlist2]
   have t8:=ai hb8 (.lst (((ring.drop (a+1)).take (b-a-1)++[R,2*es.length+1-o]).map iV))
   have t67:=t6.trans t7
   have t68:=t67.trans t8
   have C8:=C6.same t68
   obtain⟨x1,x2,x3,x4,x5,x6⟩:=C6.new (c7 t67 hb8)
   have C9:=C8.updR (C8.rz.snoc (q:=b8) (by rintro((z | z | z) | z | z);exact x1 z;exact x2 z;exact x3 z;exact x5 z;exact x4 z) ae)
   refine⟨pr,zs.set W (.ref b5),_,rfl,rfl,C8.hr,aB (by rw[Mv];omega +splitDisjunctions),?_⟩
   have hrq9:=(au (o:=.lst (zs.set W (.ref b5)++[.ref b8])) qpr).trans (t68 _ _ hrq6)
   have kp9:=(kp6.trans (Keep.of t68)).trans (Keep.upd (q:=pr) (o:=.lst (zs.set W (.ref b5)++[.ref b8])) n6)
   obtain⟨p1',u1,u2,u3⟩:=C9.rx.2 (hd es L) l (by rw[OL (Ne.symm hne)];exact k5)
   refine⟨pe,pt,p1',rq,_,_,_,_,_,_,_,_,a,L,hd es L,hd es R,es.length,o,xs,ys,ring,l,rfl,o2,C9.ht,u1,u3,k6,by omega +splitDisjunctions,fun x hx=>by have:=sm1 x hx;omega +splitDisjunctions,hrq9,hL,fun z=>u2 (.inl z),C9.he,by omega +splitDisjunctions,fun t ht=>?_⟩
   obtain⟨C10,kp10⟩:=C9.fin u1 (ins l (l.idxOf (L/2)+1) es.length) ht (if o=0 then(hd es L,hd es R) else(hd es R,hd es L))
   rw[I8]
   have hS:=EH (e:=if o=0 then(hd es L,hd es R) else(hd es R,hd es L)) (w:=W) g part (hrW.trans (congrArg some (EI hL hR alt))) rfl rfl hne Fo k5 k5'
   rw[(IL o2 hne).1,(IL o2 hne).2]at hS
   rw[List.set_comm _ _ (Ne.symm hne)]at C10
   exact kN _ m _ _ _ _ (kp9.trans kp10) ⟨⟨_,_,_,C10⟩,hS.1,hS.2⟩ (by rw[Ly];omega +splitDisjunctions) (by rw[Ly];exact LG _) mP
 have zl:zs.length=rg.length:=C.rz.1
 have mf:=xC g
 have rg0:0<rg.length:=by
  rcases Nat.eq_zero_or_pos rg.length with z | z
  ·have:=part.all 0 (by omega +splitDisjunctions)
   rw[NU.mp z]at this
   cases this
  ·exact z
 have rgl:rg.length<=es.length+2:=by
  obtain⟨rs,q1,q2⟩:=g.part
  have:=part.same q1
  omega +splitDisjunctions
 refine⟨_,rfl,_,_,rfl,rfl,(by show(0:Int)<1000000007;decide),_,_,rfl,rfl,.inr ⟨by decide,by decide⟩,_,_,rfl,rfl,(by show(0:Int)<2147483647;decide),?_⟩
 have o0:(0:Int)<=c%1000000007*48271%2147483647:=Nm _ (by decide)
 have o1:c%1000000007*48271%2147483647<2147483647:=M6 _ (by decide)
 refine⟨_,rfl,_,_,rfl,rfl,⟨by decide,by decide⟩,_,rfl,pr,zs,rfl,.inl (SqL.of C.hr),_,_,rfl,rfl,(by show(0:Int)<(zs.length:Int);omega +splitDisjunctions),?_⟩
 refine⟨_,rfl,_,_,rfl,rfl,⟨by decide,by decide⟩,_,rfl,pr,zs,rfl,.inl (SqL.of C.hr),_,_,rfl,rfl,⟨(by show(0:Int)<(zs.length:Int);omega +splitDisjunctions),(by show(zs.length:Int)<1073741824;omega +splitDisjunctions)⟩,?_⟩
 dsimp only
 generalize c%1000000007*48271%2147483647=M at o0 o1
 obtain⟨W,hW,Wl⟩:∃ W:Nat,M/2%(zs.length:Int)=(W:Int)/\W<rg.length:=by
  have h0:=Nm (M/2) (show(zs.length:Int)≠0 by omega +splitDisjunctions)
  have h1:=M6 (M/2) (show(0:Int)<(zs.length:Int) by omega +splitDisjunctions)
  exact⟨_,(NN h0).symm,by omega +splitDisjunctions⟩
 obtain⟨R,hR⟩:∃ R:Nat,M/2/(zs.length:Int)=(R:Int):=⟨_,(NN (Int.ediv_nonneg (by omega +splitDisjunctions) (by omega +splitDisjunctions))).symm⟩
 rw[hW,hR]
 obtain⟨ring,hring⟩:∃ r,rg[W]?=some r:=⟨_,Lw Wl⟩
 obtain⟨rq,q1,q2,q3⟩:=C.rz.2 W ring hring
 have cr:=part.cr ring (Lz hring)
 have rle:ring.length<=2*es.length:=eu cr.nd cr.lt
 have rlen:(ring.map iV).length=ring.length:=LB _
 have rpos:0<ring.length:=by
  obtain⟨d,hd⟩:=cr.ne
  exact Nb hd
 have lpos:(0:Int)<((ring.map iV).length:Int):=by omega +splitDisjunctions
 refine⟨_,rfl,_,rfl,pr,zs,_,_,rfl,rfl,SqL.of C.hr,aD q1,?_⟩
 refine⟨_,rfl,_,rfl,rq,_,rfl,.inl (SqL.of q3),_,_,rfl,rfl,lpos,?_⟩
 dsimp only
 obtain⟨a,ha,al⟩:∃ a:Nat,(R:Int)%((ring.map iV).length:Int)=(a:Int)/\a<ring.length:=by
  have h0:=Nm (R:Int) (show((ring.map iV).length:Int)≠0 by omega +splitDisjunctions)
  have h1:=M6 (R:Int) lpos
  exact⟨_,(NN h0).symm,by omega +splitDisjunctions⟩
 rw[ha]
 refine⟨_,rfl,?_⟩
 refine⟨_,rfl,_,_,rfl,rfl,(by show(0:Int)<2;decide),rfl,_,rfl,ite2 (fun c1=>?_) (fun c1=>?_)⟩
 ·have bpos:(0:Int)<((ring.map iV).length:Int)-(a:Int):=by omega +splitDisjunctions
  refine⟨_,rfl,_,rfl,_,rfl,rq,_,rfl,.inl (SqL.of q3),_,_,rfl,rfl,⟨lpos,(by show((ring.map iV).length:Int)<1073741824;omega +splitDisjunctions)⟩,_,rfl,rq,_,rfl,.inl (SqL.of q3),_,rfl,_,_,rfl,rfl,_,_,rfl,rfl,bpos,_,_,rfl,rfl,?_⟩
  dsimp only
  obtain⟨d,hd,dl⟩:∃ d:Nat,(R:Int)/((ring.map iV).length:Int)%(((ring.map iV).length:Int)-(a:Int))=(d:Int)/\a+d<ring.length:=by
   have h0:=Nm ((R:Int)/((ring.map iV).length:Int)) (show((ring.map iV).length:Int)-(a:Int)≠0 by omega +splitDisjunctions)
   have h1:=M6 ((R:Int)/((ring.map iV).length:Int)) bpos
   exact⟨_,(NN h0).symm,by omega +splitDisjunctions⟩
  rw[hd,show(a:Int)+(d:Int)=((a+d:Nat):Int) by omega +splitDisjunctions]
  exact⟨S,c,pe,pt,pr,rq,P,m,W,a,a+d,_,_,_,_,_,_,_,ys,xs,zs,es,ts,rg,ring,rfl,C,g,part,few,mP,q1,hring,q3,by omega +splitDisjunctions,dl,fun _=>kk,kk⟩
 ·exact⟨S,c,pe,pt,pr,rq,P,m,W,a,a,_,_,_,_,_,_,_,ys,xs,zs,es,ts,rg,ring,rfl,C,g,part,few,mP,q1,hring,q3,LG _,al,fun _=>kk,kk⟩
end
end K8
namespace K8
open PySem L2
local macro_rules | `(tactic| walk_at "cc") => `(tactic| first | exact ⟨by decide, by decide⟩ | (show (0 : Int) < _; decide) | (show (0 : Int) < _; omega) | (show (0 : Int) ≤ _; omega) | exact ⟨by decide, by decide, by decide⟩ | exact ⟨by omega, by omega, by decide⟩ | exact Or.inl ⟨by decide, by decide⟩ | exact Or.inl ⟨by omega, by omega⟩)
local macro_rules | `(tactic| walk_at "rd") => `(tactic| repeat (first | refine ⟨_, rfl, ?_⟩ | refine ⟨_, _, rfl, rfl, ?_⟩ | refine ⟨rfl, ?_⟩ | (refine ⟨?cc, ?_⟩; (case cc => walk_at "cc"))))
def yZ:Sp:=fun vs H Q _=>∃(c:Int)(m:Nat),vs = [.int c,.int (m:Int)]/\m<=100/\∀(q:Addr)(o:List Nat)(H':Hp),Same H H'->H q=none->H' q=some (.lst (o.map iV))->o.length=m->o.Nodup->(∀ x∈o,x<m)->Q (.ref q) H'
def sq(K:LA):Sp:=fun vs H Q _=>∃(a:Addr)(P:Nat)(cs:List Int),vs = [.ref a,.int (P:Int)]/\SqL K H a (cs.map V.int)/\cs.length<=62/\2<=P /\
 ∀(t pe pt pr:Addr)(m:Nat)(es:En)(ts rg:List (List Nat))(H':Hp),Same H H'->H' t=some (.tup [.ref pe,.ref pt,.ref pr])->GwA (fun p=>H p≠none) H' pe pt pr m es ts rg->0<es.length->es.length<=cs.length+1->m<=P->Q (.ref t) H'
theorem HL:Part (fol [(0,1)] [[0],[0]]) 2 [[0,1]]:=by
 refine⟨fun r hr=>?_,by decide,fun d hd=>?_⟩
 ·have:r = [0,1]:=by simpa using hr
  subst this
  exact⟨⟨0,[1],rfl,by decide,(by show fol [(0,1)] [[0],[0]] 1=0;decide)⟩,fun d hd=>by simp at hd ⊢;omega,by decide⟩
 ·simp
  omega
theorem Keep.same{H H1 H2:Hp}(s:Same H H1)(k:Keep (fun p=>H p≠none) H1 H2):Same H H2:=fun p o h=>k p o (fun z=>by rw[z]at h;cases h) (s p o h)
section
variable{P:Program}{w:World}{K:LA}{mg:Str->Option Value}{base:Heap}
theorem dc:aI ["cell","many","order","mixed","k"] ["cell","many"] (aj cW):=⟨rfl,rfl,rfl,by decide +kernel,rfl,by decide +kernel,by decide +kernel⟩
theorem Ib{f:Addr}{fd:FuncData} (F:Fun K "_law_order" "_law_order" cW f fd) (T:Txt mg):FnOk P w K mg base CX0 1 f fd ["cell","many"] yZ:=by
 refine F.ok dc (fun vs H Q E h=>?_) (fun cdv A outer s H vs Q E hr h=>?_)
 ·obtain⟨c,m,rfl,_⟩:=h
  rfl
 obtain⟨c,m,rfl,hm,k⟩:=h
 refine⟨_,(af (ay (i:=2) dc.nd rfl (Or.inl rfl) (bu ag))
   (af (ay (i:=3) dc.nd rfl (Or.inl rfl) (aF bV (pv 0) ak))
   (af (bO PassesOwn.never rfl (ba rfl T.n_range (aa (pv 1) ag)) (aU (i:=4) dc.nd rfl (Or.inl rfl)) (af (ay (i:=3) dc.nd rfl (Or.inl rfl) (aF bV (aF bB (aF dD (pv 3) ak) (aF dD ak (pv 4))) ak))
   (ao (a8 (cg LY Pj Pg wV (pv 2) (aa (aF bV (pv 3) (aF bB (pv 4) ak)) (aa (pv 4) ag)))))))
   (ao (aL (pv 2)))))),?_⟩
 refine⟨(by show 0<=sizeLine;decide),fun q hq=>?_⟩
 refine⟨_,rfl,_,_,rfl,rfl,(by show(0:Int)<1000000007;decide),?_⟩
 refine⟨_,rfl,_,rfl,by omega,by omega,br (n:=(m:Int).toNat) (fun i σ H2=>∃(M:Int),∃ v4 o,σ = [some (.int c),some (.int (m:Int)),some (.ref q),some (.int M),v4]/\Same H H2/\H2 q=some (.lst (o.map iV))/\o.length=i/\o.Nodup/\∀ x∈o,x<i) ⟨_,_,[],rfl,ai hq _,ae,rfl,Oo,fun x hx=>nomatch hx⟩ ?_ ?_⟩
 ·rintro i σ H2 hi ⟨M,v4,o,rfl,s2,hq2,ol,nd,lt⟩
  rw[L7]at hi
  have e0:(0:Int)+(i:Int)=(i:Int):=MZ _
  rw[e0]
  have hlen:(o.map iV).length=i:=by rw[LB];exact ol
  refine⟨_,rfl,_,_,rfl,rfl,.inr ⟨by decide,by decide⟩,_,rfl,_,_,rfl,rfl,.inl ⟨by decide,by decide⟩,_,_,rfl,rfl,_,_,rfl,rfl,(by show(0:Int)<2147483647;decide),?_⟩
  refine⟨_,rfl,.inl ⟨rfl,_,SqL.of hq2⟩,_,rfl,_,rfl,_,_,rfl,rfl,_,_,rfl,rfl,(by show(0:Int)<(i:Int)+1;omega),_,rfl,q,_,_,_,rfl,rfl,hq2,(Jl _ _).1,(by rw[hlen];exact(Jl _ _).2),aB (by omega),?_⟩
  rw[insV]
  refine⟨_,_,_,rfl,a9 s2 hq _,ae,by rw[KU,ol],Gb nd fun z=>by have:=lt i z;omega,fun x hx=>?_⟩
  rcases AI.mp hx with z | z
  ·omega
  ·have:=lt x z;omega
 ·rintro σ H2 ⟨M,v4,o,rfl,s2,hq2,ol,nd,lt⟩
  rw[L7]at ol lt
  exact⟨_,rfl,k q o H2 s2 hq hq2 ol nd lt⟩
theorem de:aI ["cells","places","ends","turns","rings","cell"] ["cells","places"] (aj cY):=⟨rfl,rfl,rfl,by decide +kernel,rfl,by decide +kernel,by decide +kernel⟩
theorem Ig{f fs:Addr}{fd ds:FuncData} (F:Fun K "_law_grown" "_law_grown" cY f fd) (G_law_step:Cal P w K mg base 2 "_law_step" ["cell","ends","turns","rings","places"] EL fs ds):FnOk P w K mg base CX0 3 f fd ["cells","places"] (sq K):=by
 refine F.ok de (fun vs H Q E h=>?_) (fun cdv A outer s H vs Q E hr h=>?_)
 ·obtain⟨a,P,cs,rfl,_⟩:=h
  rfl
 obtain⟨a,P,cs,rfl,hS,h62,P2,kk⟩:=h
 have hcl:(cs.map V.int).length=cs.length:=LB _
 refine⟨_,(af (ay (i:=2) de.nd rfl (Or.inl rfl) (bu (aa (gU (aa ak (aa ak ag))) ag)))
   (af (ay (i:=3) de.nd rfl (Or.inl rfl) (bu (aa (bu (aa ak ag)) (aa (bu (aa ak ag)) ag))))
   (af (ay (i:=4) de.nd rfl (Or.inl rfl) (bu (aa (bu (aa ak (aa ak ag))) ag)))
   (af (bO PassesOwn.never rfl (bz (pv 0)) (aU (i:=5) de.nd rfl (Or.inl rfl)) (ao (a8 (ax G_law_step.ok (hr.mono (by decide)) rfl G_law_step.mg G_law_step.kp G_law_step.bn .nil aR (aa (pv 5) (aa (pv 2) (aa (pv 3) (aa (pv 4) (aa (pv 1) ag)))))))))
   (ao (aL (gU (aa (pv 2) (aa (pv 3) (aa (pv 4) ag)))))))))),?_⟩
 refine⟨(by show 2<=sizeLine;decide),fun t0 ht0=>⟨(by show 1<=sizeLine;decide),fun pe hpe=>?_⟩⟩
 refine⟨(by show 1<=sizeLine;decide),fun p0 hp0=>⟨(by show 1<=sizeLine;decide),fun p1 hp1=>⟨(by show 2<=sizeLine;decide),fun pt hpt=>?_⟩⟩⟩
 refine⟨(by show 2<=sizeLine;decide),fun r0 hr0=>⟨(by show 1<=sizeLine;decide),fun pr hpr=>?_⟩⟩
 have s1:=ai ht0 (.tup [.int 0,.int 1])
 have s2:=ai hpe (.lst [.ref t0])
 have s3:=ai hp0 (.lst [.int 0])
 have s4:=ai hp1 (.lst [.int 0])
 have s5:=ai hpt (.lst [.ref p0,.ref p1])
 have s6:=ai hr0 (.lst [.int 0,.int 1])
 have s7:=ai hpr (.lst [.ref r0])
 have s12:=s1.trans s2
 have s13:=s12.trans s3
 have s14:=s13.trans s4
 have s15:=s14.trans s5
 have s16:=s15.trans s6
 have s17:=s16.trans s7
 have s37:=((s3.trans s4).trans s5).trans (s6.trans s7)
 have s47:=(s4.trans s5).trans (s6.trans s7)
 have s57:=s5.trans (s6.trans s7)
 have s67:=s6.trans s7
 have l_t0:=(s2.trans s37) _ _ (ae (a:=t0) (o:=.tup [.int 0,.int 1]))
 have l_pe:=s37 _ _ (ae (a:=pe) (o:=.lst [.ref t0]))
 have l_p0:=s47 _ _ (ae (a:=p0) (o:=.lst [.int 0]))
 have l_p1:=s57 _ _ (ae (a:=p1) (o:=.lst [.int 0]))
 have l_pt:=s67 _ _ (ae (a:=pt) (o:=.lst [.ref p0,.ref p1]))
 have l_r0:=s7 _ _ (ae (a:=r0) (o:=.lst [.int 0,.int 1]))
 have n_pe:=c7 s1 hpe
 have n_p0:=c7 s12 hp0
 have n_p1:=c7 s13 hp1
 have n_pt:=c7 s14 hpt
 have n_r0:=c7 s15 hr0
 have n_pr:=c7 s16 hpr
 have d1:∀{x:Addr}{G G':Hp}{o:HO},G x=some o->Same G G'->∀{y},G' y=none->y≠x:=fun h s y z e=>by
  rw[e,s _ _ h]at z;cases z
 have e1:p0≠pe:=d1 ae (fun _ _ z=>z) hp0
 have e2:p1≠pe:=d1 ae s3 hp1
 have e3:pt≠pe:=d1 ae (s3.trans s4) hpt
 have e4:r0≠pe:=d1 ae ((s3.trans s4).trans s5) hr0
 have e5:pr≠pe:=d1 ae (((s3.trans s4).trans s5).trans s6) hpr
 have e6:p1≠p0:=d1 ae (fun _ _ z=>z) hp1
 have e7:pt≠p0:=d1 ae s4 hpt
 have e8:r0≠p0:=d1 ae (s4.trans s5) hr0
 have e9:pr≠p0:=d1 ae ((s4.trans s5).trans s6) hpr
 have e10:pt≠p1:=d1 ae (fun _ _ z=>z) hpt
 have e11:r0≠p1:=d1 ae s5 hr0
 have e12:pr≠p1:=d1 ae (s5.trans s6) hpr
 have e13:r0≠pt:=d1 ae (fun _ _ z=>z) hr0
 have e14:pr≠pt:=d1 ae s6 hpr
 have e15:pr≠r0:=d1 ae (fun _ _ z=>z) hpr
 have C0:GwC (fun p=>H p≠none) (upd (upd (upd (upd (upd (upd (upd H t0 (.tup [.int 0,.int 1])) pe (.lst [.ref t0])) p0 (.lst [.int 0])) p1 (.lst [.int 0])) pt (.lst [.ref p0,.ref p1])) r0 (.lst [.int 0,.int 1])) pr (.lst [.ref r0])) pe pt pr [.ref t0] [.ref p0,.ref p1] [.ref r0] [(0,1)] [[0],[0]] [[0,1]]:=by
  refine⟨l_pe,⟨rfl,fun i e z=>?_⟩,l_pt,⟨rfl,fun i l z=>?_⟩,fun i j p z1 z2=>?_,ae,⟨rfl,fun i l z=>?_⟩,⟨Ne.symm e3,Ne.symm e5,Ne.symm e14,fun z=>z n_pe,fun z=>z n_pt,fun z=>z n_pr⟩,fun p sp z=>sp (c7 s17 z)⟩
  ·match i,z with
   |0,z=>cases z;exact⟨t0,rfl,l_t0⟩
   |i+1,z=>cases z
  ·match i,z with
   |0,z=>cases z;exact⟨p0,rfl,by rintro(y | y | y | y);exact e1 y;exact e7 y.symm;exact e9 y.symm;exact y n_p0,l_p0⟩
   |1,z=>cases z;exact⟨p1,rfl,by rintro(y | y | y | y);exact e2 y;exact e10 y.symm;exact e12 y.symm;exact y n_p1,l_p1⟩
   |i+2,z=>cases z
  ·match i,z1,j,z2 with
   |0,z1,0,z2=>rfl
   |1,z1,1,z2=>rfl
   |0,z1,1,z2=>cases z1;cases z2;exact absurd rfl e6
   |1,z1,0,z2=>cases z1;cases z2;exact absurd rfl e6
   |i+2,z1,_,_=>cases z1
   |0,_,j+2,z2=>cases z2
   |1,_,j+2,z2=>cases z2
  ·match i,z with
   |0,z =>
    cases z
    refine⟨r0,rfl,?_,l_r0⟩
    rintro((y | y | y) | y | y)
    ·exact e4 y
    ·exact e13 y
    ·exact e15 y.symm
    ·have:r0=p0∨r0=p1:=by simpa using y
     rcases this with y | y
     ·exact e8 y
     ·exact e11 y
    ·exact y n_r0
   |i+1,z=>cases z
 refine⟨_,rfl,a,rfl,⟨_,s17.seq hS⟩,gD (xs:=cs.map V.int) (fun i σ H5=>∃ v5 m es ts rg,σ = [some (.ref a),some (.int (P:Int)),some (.ref pe),some (.ref pt),some (.ref pr),v5]/\Same H H5/\GwA (fun p=>H p≠none) H5 pe pt pr m es ts rg/\0<es.length/\es.length<=i+1/\m<=P)
  ⟨_,2,[(0,1)],[[0],[0]],[[0,1]],rfl,s17,⟨⟨_,_,_,C0⟩,gr_two,HL⟩,Nat.one_pos,LG _,P2⟩ (fun i σ H5 _ ⟨_,_,_,_,_,_,z,_⟩=>z.seq hS) ?_ ?_⟩
 ·rintro i x σ H5 hx ⟨v5,m,es,ts,rg,rfl,s5,gw,e0,ei,mP⟩
  rw[LL]at hx
  obtain⟨c,hc,rfl⟩:=Mr.mp hx
  have hil:i<cs.length:=(Lx.mp hc).1
  refine⟨_,rfl,_,rfl,_,rfl,_,rfl,_,rfl,_,c,pe,pt,pr,P,m,es,ts,rg,rfl,gw,e0,by omega +splitDisjunctions,mP,fun m' es' ts' rg' H' kp gw' l1 l2 mP'=>?_⟩
  exact⟨_,m',es',ts',rg',rfl,kp.same s5,gw',by omega +splitDisjunctions,by omega +splitDisjunctions,mP'⟩
 ·rintro σ H5 ⟨v5,m,es,ts,rg,rfl,s5,gw,e0,ei,mP⟩
  rw[hcl]at ei
  refine⟨_,rfl,_,rfl,_,rfl,(by show 3<=sizeLine;decide),fun t ht=>?_⟩
  have sn:=ai ht (.tup [.ref pe,.ref pt,.ref pr])
  obtain⟨⟨ys,xs,zs,C⟩,g,part⟩:=gw
  exact kk t pe pt pr m es ts rg _ (s5.trans sn) ae ⟨⟨ys,xs,zs,C.same sn⟩,g,part⟩ e0 ei mP
end
end K8
namespace K8
open PySem L2
local macro_rules | `(tactic| walk_at "cc") => `(tactic| first | exact ⟨by decide, by decide⟩ | (show (0 : Int) < _; decide) | (show (0 : Int) < _; omega) | (show (0 : Int) ≤ _; omega) | exact ⟨by decide, by decide, by decide⟩ | exact ⟨by omega, by omega, by decide⟩ | exact Or.inl ⟨by decide, by decide⟩ | exact Or.inl ⟨by omega, by omega⟩)
local macro_rules | `(tactic| walk_at "rd") => `(tactic| repeat (first | refine ⟨_, rfl, ?_⟩ | refine ⟨_, _, rfl, rfl, ?_⟩ | refine ⟨rfl, ?_⟩ | (refine ⟨?cc, ?_⟩; (case cc => walk_at "cc"))))
def cutp(c:Int)(p n:Nat):Nat:=(c%1009*((p:Int)+1)%(n:Int)).toNat
def rowN(c:Int)(o2:List Nat)(p:Nat)(l:List Nat):List Nat:=(l.drop (cutp c p l.length)++l.take (cutp c p l.length)).map (ofL o2)
def en2(o1 o2:List Nat)(es:En):En:=(MH es.length).map fun j=>(ofL o1 ((es[o2.idxOf j]?).getD (0,0)).1,ofL o1 ((es[o2.idxOf j]?).getD (0,0)).2)
def ts2(c:Int)(o1 o2:List Nat)(ts:List (List Nat)):List (List Nat):=(MH ts.length).map fun j=>rowN c o2 (o1.idxOf j) ((ts[o1.idxOf j]?).getD [])
theorem Ge{o:List Nat}(nd:o.Nodup){k:Nat}(h:k<o.length):o.idxOf (ofL o k)=k:=by
 have e:o[k]?=some (ofL o k):=by unfold ofL;rw[Lw h];rfl
 exact Ci nd (AJ (Lz e)) e
theorem ren_of{m:Nat}{es:En}{ts:List (List Nat)}{c:Int}{o1 o2:List Nat}(w:bJ m es ts)(l1:o1.length=m)(n1:o1.Nodup)(b1:∀ x∈o1,x<m)(l2:o2.length=es.length)(n2:o2.Nodup)(b2:∀ x∈o2,x<es.length) :
  Ren m es (en2 o1 o2 es) ts (ts2 c o1 o2 ts) (ofL o1) (ofL o2):=by
 have B1:=CK l1 n1 b1
 have B2:=CK l2 n2 b2
 refine⟨B1,B2,by simp[en2],by simp[ts2,w.len],fun k e h=>?_,fun p l h=>?_⟩
 ·have hk:=(Lx.mp h).1
  unfold en2
  rw[LL,M9 (B2.lt k hk)]
  show some (ofL o1 ((es[o2.idxOf (ofL o2 k)]?).getD (0,0)).1,ofL o1 ((es[o2.idxOf (ofL o2 k)]?).getD (0,0)).2)=_
  rw[Ge n2 (by omega),h]
  rfl
 ·have hp:p<m:=by rw[← w.len];exact(Lx.mp h).1
  refine⟨l.take (cutp c p l.length),l.drop (cutp c p l.length),(L3 _ _).symm,?_⟩
  unfold ts2
  rw[LL,M9 (by rw[w.len];exact B1.lt p hp)]
  show some (rowN c o2 (o1.idxOf (ofL o1 p)) ((ts[o1.idxOf (ofL o1 p)]?).getD []))=_
  rw[Ge n1 (by omega),h]
  rfl
theorem Gr.rows{m:Nat}{es:En}{ts:List (List Nat)}(g:Gr m es ts)(h2:2<=m){p:Nat}{l:List Nat}(h:ts[p]?=some l):0<l.length:=by
 have hp:p<m:=by rw[← g.w.len];exact(Lx.mp h).1
 cases l with
 |cons a l=>exact Nat.succ_pos _
 |nil =>
  exfalso
  have no:∀ e∈es,e.1≠p/\e.2≠p:=fun e he=>by
   obtain⟨t,ht⟩:=MD.mp he
   refine⟨fun z=>?_,fun z=>?_⟩
   ·exact nomatch (g.w.mem p [] h t).mpr ⟨e,ht,.inl z⟩
   ·exact nomatch (g.w.mem p [] h t).mpr ⟨e,ht,.inr z⟩
  have:=g.conn (fun x=>x=p) (fun e he=>⟨fun z=>absurd z (no e he).1,fun z=>absurd z (no e he).2⟩) p (if p=0 then 1 else 0) hp (by split<;>omega) rfl
  have this':(if p=0 then 1 else 0)=p:=this
  split at this'<;>omega
theorem JA{xs:List V}{c:Nat}(h:c<=xs.length):cutV xs (some (c:Int)) none=xs.drop c:=by
 unfold cutV
 rw[HT.sIx_nat,MU h]
 show(xs.drop c).take (xs.length-c)=_
 exact Ms (by rw[Mj];exact LG _)
theorem Jz{xs:List V}{c:Nat}(h:c<=xs.length):cutV xs none (some (c:Int))=xs.take c:=by
 unfold cutV
 rw[HT.sIx_nat,MU h]
 show(xs.drop 0).take (c-0)=_
 rw[NZ,Nat.sub_zero]
structure WebP(H:Hp)(pe pt:Addr)(m:Nat)(es:En)(ts:List (List Nat)):Prop where
 en:∃ ys,H pe=some (.lst ys)/\cP H ys es
 tu:∃ xs,H pt=some (.lst xs)/\bM H xs ts
 g:Gr m es ts
theorem WebP.mono{H H':Hp}{pe pt:Addr}{m:Nat}{es:En}{ts:List (List Nat)}(h:WebP H pe pt m es ts)(s:Same H H'):WebP H' pe pt m es ts:=by
 obtain⟨⟨ys,a,b⟩,⟨xs,c,d⟩,g⟩:=h
 exact⟨⟨ys,s _ _ a,b.mono s⟩,⟨xs,s _ _ c,d.mono s⟩,g⟩
theorem at30{u v x:V}:atI [u,v,x] 0=some u:=rfl
theorem at31{u v x:V}:atI [u,v,x] 1=some v:=rfl
theorem at32{u v x:V}:atI [u,v,x] 2=some x:=rfl
structure TxtM(mg:Str->Option Value):Prop extends Txt mg where
 n_max:mg "max" = none
def rG(H:Hp)(pr:Addr)(rg:List (List Nat)):Prop:=∃ zs,H pr=some (.lst zs)/\bM H zs rg
theorem rG.mono{H H':Hp}{pr:Addr}{rg:List (List Nat)}(h:rG H pr rg)(s:Same H H'):rG H' pr rg:=by
 obtain⟨zs,a,b⟩:=h
 exact⟨zs,s _ _ a,b.mono s⟩
theorem HG{m:Nat}{es es2:En}{ts ts2 rs:List (List Nat)}{π σ:Nat->Nat}(R:Ren m es es2 ts ts2 π σ)(g:Gr m es ts)(p:Part (fol es ts) (2*es.length) rs):Part (fol es2 ts2) (2*es2.length) (rs.map (Od (Phi σ))):=by
 have flt:∀ d∈rs.flatten,d<2*es.length:=fun d hd=>by
  obtain⟨r,h1,h2⟩:=Mq.mp hd
  exact(p.cr r h1).lt d h2
 have hfl:(rs.map (Od (Phi σ))).flatten=rs.flatten.map (Phi σ):=List.map_flatten.symm
 refine⟨fun q hq=>?_,?_,fun d hd=>?_⟩
 ·obtain⟨r,hr,rfl⟩:=L9.mp hq
  have c:=p.cr r hr
  obtain⟨x,l,rfl,ch⟩:=c.ch
  refine⟨⟨Phi σ x,l.map (Phi σ),rfl,k8 ch fun t ht=>R.fol g.w (c.lt t ht)⟩,fun d hd=>?_,oX c.nd fun a ha b hb=>qk R.si (c.lt a ha) (c.lt b hb)⟩
  obtain⟨t,ht,rfl⟩:=L9.mp hd
  have h1:=c.lt t ht
  have h2:=R.si.lt (t/2) (by omega)
  rw[R.l1]
  unfold Phi
  omega
 ·rw[hfl]
  exact oX p.nd fun a ha b hb=>qk R.si (flt a ha) (flt b hb)
 ·rw[R.l1]at hd
  obtain⟨k,hk,e⟩:=R.si.sur (d/2) (by omega)
  rw[hfl]
  refine L9.mpr ⟨2*k+d%2,p.all _ (by omega),?_⟩
  unfold Phi
  rw[show(2*k+d%2)/2=k by omega,e]
  omega
def EM:Sp:=fun vs H Q _=>∃(t pe pt pr:Addr)(c:Int)(m:Nat)(es:En)(ts rg:List (List Nat)),vs = [.ref t,.int c]/\H t=some (.tup [.ref pe,.ref pt,.ref pr])/\WebP H pe pt m es ts/\rG H pr rg/\Part (fol es ts) (2*es.length) rg/\2<=m/\es.length<=63 /\
 ∀(t' pe' pt' pr':Addr)(es':En)(ts' rg':List (List Nat))(H':Hp),Same H H'->H' t'=some (.tup [.ref pe',.ref pt',.ref pr'])->WebP H' pe' pt' m es' ts'->rG H' pr' rg'->Part (fol es' ts') (2*es'.length) rg'->es'.length=es.length->Q (.ref t') H'
section
variable{P:Program}{w:World}{K:LA}{mg:Str->Option Value}{base:Heap}
theorem aM:aI ["grown","cell","places","ties","ends","k","turns","p","row","cut","rings","ring"] ["grown","cell"] (aj bq):=⟨rfl,rfl,rfl,by decide +kernel,rfl,by decide +kernel,by decide +kernel⟩
theorem ok_ren{f fo:Addr}{fd fdo:FuncData} (F:Fun K "_law_renumbered" "_law_renumbered" bq f fd) (T:TxtM mg) (G_law_order:Cal P w K mg base 1 "_law_order" ["cell","many"] yZ fo fdo):FnOk P w K mg base CX0 2 f fd ["grown","cell"] EM:=by
 refine F.ok aM (fun vs H Q E h=>?_) (fun cdv A outer s H vs Q E hr h=>?_)
 ·obtain⟨t,pe,pt,pr,c,m,es,ts,rg,rfl,_⟩:=h
  rfl
 obtain⟨t,pe,pt,pr,c,m,es,ts,rg,rfl,ht,⟨⟨ys,hpe,en⟩,⟨xs,hpt,tu⟩,g⟩,⟨us,hpr,ru⟩,part,h2,h31,kk⟩:=h
 have w':=g.w
 have mf:=xC g
 have hyl:ys.length=es.length:=en.1
 have hxl:xs.length=m:=by rw[tu.1,w'.len]
 refine⟨_,(af (ay (i:=2) aM.nd rfl (Or.inl rfl) (ax G_law_order.ok (hr.mono (by decide)) rfl G_law_order.mg G_law_order.kp G_law_order.bn .nil aR (aa (pv 1) (aa (ar aq (by rfl) T.n_len aQ (aa (aG aX (pv 0) ak (fun _ _=>rfl)) ag)) ag))))
   (af (ay (i:=3) aM.nd rfl (Or.inr rfl) (ax G_law_order.ok (hr.mono (by decide)) rfl G_law_order.mg G_law_order.kp G_law_order.bn .nil aR (aa (aF c5 (pv 1) ak) (aa (ar aq (by rfl) T.n_len aQ (aa (aG aX (pv 0) ak (fun _ _=>rfl)) ag)) ag))))
   (af (ay (i:=4) aM.nd rfl (Or.inl rfl) (bA fq (by rfl) T.n_list gQ (aa (aG aX (pv 0) ak (fun _ _=>rfl)) ag)))
   (af (bO PassesOwn.never rfl (ba rfl T.n_range (aa (ar aq (by rfl) T.n_len aQ (aa (pv 4) ag)) ag)) (aU (i:=5) aM.nd rfl (Or.inl rfl)) (ao (BW (gU (aa (aG aA (pv 2) (aG aX (aG aA (aG aX (pv 0) ak (fun _ _=>rfl)) (pv 5) (fun _ _=>rfl)) ak (fun _ _=>rfl)) (fun _ _=>rfl)) (aa (aG aA (pv 2) (aG aX (aG aA (aG aX (pv 0) ak (fun _ _=>rfl)) (pv 5) (fun _ _=>rfl)) ak (fun _ _=>rfl)) (fun _ _=>rfl)) ag))) (BY (pv 4) (aG aA (pv 3) (pv 5) (fun _ _=>rfl)) oo))))
   (af (ay (i:=6) aM.nd rfl (Or.inl rfl) (bA fq (by rfl) T.n_list gQ (aa (aG aX (pv 0) ak (fun _ _=>rfl)) ag)))
   (af (bO PassesOwn.never rfl (ba rfl T.n_range (aa (ar aq (by rfl) T.n_len aQ (aa (pv 6) ag)) ag)) (aU (i:=7) aM.nd rfl (Or.inl rfl)) (af (lK (i:=8) rfl aM.nd rfl rfl (fr:=[("ties",3)]) (by exact bK.one (by rfl) (by decide +kernel) (by rfl) (by decide +kernel) (by rfl) (by decide +kernel) (by rfl) (by rfl) (by decide +kernel) (by rfl)) (bz (aG aA (aG aX (pv 0) ak (fun _ _=>rfl)) (pv 7) (fun _ _=>rfl))) (fun C ex s H=>(aG (Ct (K:=K) rfl) (pv 1) (pv 0) (fun _ _=>rfl))))
   (af (ay (i:=9) aM.nd rfl (Or.inl rfl) (aF bV (aF dD (aF bV (pv 1) ak) (aF bB (pv 7) ak)) (ar (G2 rfl) (by rfl) T.n_max bt_max (aa ak (aa (ar aq (by rfl) T.n_len aQ (aa (pv 8) ag)) ag)))))
   (ao (BW (aF Ji (bY dk (pv 8) (cJ (pv 9)) fu) (bY dk (pv 8) fu (cJ (pv 9)))) (BY (pv 6) (aG aA (pv 2) (pv 7) (fun _ _=>rfl)) oo))))))
   (af (ay (i:=10) aM.nd rfl (Or.inl rfl) (bu ag))
   (af (bO PassesOwn.never rfl (bz (aG aX (pv 0) ak (fun _ _=>rfl))) (aU (i:=11) aM.nd rfl (Or.inl rfl)) (ao (a8 (cg LY Mi Mh bb (pv 10) (aa (dq rfl (fr:=[("ties",3)]) (by exact bK.one (by rfl) (by decide +kernel) (by rfl) (by decide +kernel) (by rfl) (by decide +kernel) (by rfl) (by rfl) (by decide +kernel) (by rfl)) (bz (pv 11)) (fun C ex s H=>(aF bB (aF dD ak (aG (Ct (K:=K) rfl) (pv 1) (aF c5 (pv 0) ak) (fun _ _=>rfl))) (aF bV (pv 0) ak)))) ag)))))
   (ao (aL (gU (aa (pv 4) (aa (pv 6) (aa (pv 10) ag)))))))))))))),?_⟩
 refine⟨_,rfl,_,rfl,t,_,1,_,rfl,rfl,SqT.of ht,at31,pt,xs,rfl,.inl (SqL.of hpt),c,m,(by rw[hxl];rfl),by omega +splitDisjunctions,fun q1 o1 H1 s1 _ h1 l1 n1 b1=>?_⟩
 refine⟨_,rfl,_,_,rfl,rfl,⟨by decide,by decide⟩,_,rfl,t,_,0,_,rfl,rfl,SqT.of (s1 _ _ ht),at30,pe,ys,rfl,.inl (SqL.of (s1 _ _ hpe)),_,es.length,(by rw[hyl];rfl),by omega +splitDisjunctions,fun q2 o2 H2 s2 _ h2' l2 n2 b2=>?_⟩
 have s12:=s1.trans s2
 have R:=ren_of (c:=c) w' l1 n1 b1 l2 n2 b2
 have h1':=s2 _ _ h1
 refine⟨_,rfl,t,_,0,_,rfl,rfl,SqT.of (s12 _ _ ht),at30,pe,ys,rfl,.inl (SqL.of (s12 _ _ hpe)),fun qe hqe=>?_⟩
 have s3:=ai hqe (.lst ys)
 have s13:=s12.trans s3
 have h23:=s3 _ _ h2'
 have h13:=s3 _ _ h1'
 have get1:∀ k,k<m->(o1.map iV)[k]?=some (iV (ofL o1 k)):=fun k hk=>by
  rw[LL];unfold ofL;rw[Lw (by omega +splitDisjunctions)];rfl
 have get2:∀ k,k<es.length->(o2.map iV)[k]?=some (iV (ofL o2 k)):=fun k hk=>by
  rw[LL];unfold ofL;rw[Lw (by omega +splitDisjunctions)];rfl
 have hqe0:H qe=none:=by
  cases y:H qe with
  |none=>rfl
  |some o=>rw[s12 _ _ y]at hqe;cases hqe
 refine⟨_,rfl,qe,ys,rfl,.inl (SqL.of ae),_,rfl,by omega +splitDisjunctions,by omega +splitDisjunctions,br (n:=(ys.length:Int).toNat) (fun i σ H5=>∃ v5 v6 v7 v8 v9 v10 v11 zs,σ = [some (.ref t),some (.int c),some (.ref q1),some (.ref q2),some (.ref qe),v5,v6,v7,v8,v9,v10,v11]/\Same H2 H5/\H5 qe=some (.lst zs)/\zs.length=es.length/\∀(k:Nat)(e:Nat×Nat),k<i->es[k]?=some e->∃ p,zs[ofL o2 k]?=some (.ref p)/\H5 p=some (.tup [iV (ofL o1 e.1),iV (ofL o1 e.2)]))
  ⟨_,_,_,_,_,_,_,ys,rfl,s3,ae,hyl,fun k e z=>absurd z (Og _)⟩ ?_ ?_⟩
 ·rintro i σ H5 hi ⟨v5,v6,v7,v8,v9,v10,v11,zs,rfl,s5,hz,zl,inv⟩
  rw[L7,hyl]at hi
  have e0:(0:Int)+(i:Int)=(i:Int):=MZ _
  rw[e0]
  have s15:=s12.trans s5
  obtain⟨e,he⟩:∃ e,es[i]?=some e:=⟨_,Lw hi⟩
  obtain⟨p,x1,x2⟩:=(en.mono s15).2 i e he
  obtain⟨a1,a2,_⟩:=w'.ends e (Lz he)
  have b2':=R.si.lt i hi
  refine⟨_,rfl,_,rfl,t,_,0,_,rfl,rfl,SqT.of (s15 _ _ ht),at30,_,rfl,pe,ys,_,_,rfl,rfl,SqL.of (s15 _ _ hpe),aD x1,p,_,0,_,rfl,rfl,SqT.of x2,at0,q1,_,_,_,rfl,rfl,SqL.of (s5 _ _ h1'),aD (get1 _ a1),_,rfl,_,rfl,t,_,0,_,rfl,rfl,SqT.of (s15 _ _ ht),at30,_,rfl,pe,ys,_,_,rfl,rfl,SqL.of (s15 _ _ hpe),aD x1,p,_,1,_,rfl,rfl,SqT.of x2,at1,q1,_,_,_,rfl,rfl,SqL.of (s5 _ _ h1'),aD (get1 _ a2),(by show 2<=sizeLine;decide),fun tt htt=>?_⟩
  have sn:=ai htt (.tup [iV (ofL o1 e.1),iV (ofL o1 e.2)])
  refine⟨_,rfl,_,rfl,_,rfl,q2,_,_,_,rfl,rfl,SqL.of (sn _ _ (s5 _ _ h2')),aD (get2 _ hi),qe,zs,_,ofL o2 i,rfl,rfl,sn _ _ hz,uG (by omega +splitDisjunctions),?_⟩
  refine⟨_,_,_,_,_,_,_,_,rfl,a9 (s5.trans sn) hqe _,ae,by rw[Mv];exact zl,fun k e' hk hek=>?_⟩
  by_cases z:k=i
  ·subst z
   rw[he]at hek
   cases hek
   exact⟨tt,by rw[Mp,if_pos rfl,if_pos (by omega +splitDisjunctions)],by rw[au (fun z=>by rw[z,hz]at htt;cases htt)];exact ae⟩
  ·obtain⟨p',u1,u2⟩:=inv k e' (by omega +splitDisjunctions) hek
   have hkl:k<es.length:=(Lx.mp hek).1
   refine⟨p',by rw[Mp,if_neg (fun y=>z (R.si.inj _ _ hkl hi y.symm))];exact u1,?_⟩
   rw[au (fun z=>by rw[z,hz]at u2;cases u2)]
   exact sn _ _ u2
 rintro σ H5 ⟨v5,v6,v7,v8,v9,v10,v11,zs,rfl,s5,hz,zl,inv⟩
 rw[L7,hyl]at inv
 have s15:=s12.trans s5
 have enN:cP H5 zs (en2 o1 o2 es):=⟨by rw[zl,R.l1],fun j x h=>by
  obtain⟨k,e,rfl,h4,rfl⟩:=R.es' h
  exact inv k e (Lx.mp h4).1 h4⟩
 refine⟨_,rfl,t,_,1,_,rfl,rfl,SqT.of (s15 _ _ ht),at31,pt,xs,rfl,.inl (SqL.of (s15 _ _ hpt)),fun qt hqt=>?_⟩
 have s6:=ai hqt (.lst xs)
 have s16:=s15.trans s6
 refine⟨_,rfl,qt,xs,rfl,.inl (SqL.of ae),_,rfl,by omega +splitDisjunctions,by omega +splitDisjunctions,br (n:=(xs.length:Int).toNat) (fun i σ H7=>∃ v5 v7 v8 v9 v10 v11 ws,σ = [some (.ref t),some (.int c),some (.ref q1),some (.ref q2),some (.ref qe),v5,some (.ref qt),v7,v8,v9,v10,v11]/\Same H5 H7/\H7 qt=some (.lst ws)/\ws.length=m/\∀(p:Nat)(l:List Nat),p<i->ts[p]?=some l->∃ q,ws[ofL o1 p]?=some (.ref q)/\H7 q=some (.lst ((rowN c o2 p l).map iV))/\q≠qt)
  ⟨_,_,_,_,_,_,xs,rfl,s6,ae,hxl,fun k e z=>absurd z (Og _)⟩ ?_ ?_⟩
 ·rintro i σ H7 hi ⟨w5,w7,w8,w9,w10,w11,ws,rfl,s7,hw,wl,inv2⟩
  rw[L7,hxl]at hi
  have e0:(0:Int)+(i:Int)=(i:Int):=MZ _
  rw[e0]
  have s17:=s15.trans s7
  have s27:=s5.trans s7
  obtain⟨l,hl⟩:∃ l,ts[i]?=some l:=⟨_,Lw (by rw[w'.len];exact hi)⟩
  obtain⟨p,x1,x2⟩:=(tu.mono s17).2 i l hl
  have lpos:=g.rows h2 hl
  have llt:∀ k∈l,k<es.length:=fun k hk=>nc w' hl hk
  have lle:l.length<=es.length:=eu (w'.nd _ _ hl) llt
  have llen:(l.map iV).length=l.length:=LB _
  refine⟨_,rfl,t,_,1,_,rfl,rfl,SqT.of (s17 _ _ ht),at31,_,rfl,pt,xs,_,_,rfl,rfl,SqL.of (s17 _ _ hpt),aD x1,p,rfl,⟨_,SqL.of x2⟩,bI (K:=K) (xs:=l.map iV) (fun j zs H8=>H8=H7/\zs=((l.map (ofL o2)).map iV).take j) (by rw[llen];exact MJ (aB (by omega +splitDisjunctions))) ⟨rfl,rfl⟩ (fun j zs H8 _ z=>z.1▸SqL.of x2) ?_ ?_⟩
  ·rintro j x zs H8 hx ⟨rfl,rfl⟩
   rw[LL]at hx
   obtain⟨k,hk,rfl⟩:=Mr.mp hx
   refine⟨_,rfl,_,rfl,q2,_,_,_,rfl,rfl,SqL.of (s27 _ _ h2'),aD (get2 _ (llt k (Lz hk))),rfl,?_⟩
   rw[Mo,LL,LL,hk]
   rfl
  rintro zs H8 hzl ⟨rfl,rfl⟩ D hD
  rw[llen,Ms (by rw[LB,LB];exact LG _)]
  have sD:=ai hD (.lst ((l.map (ofL o2)).map iV))
  have dlen:((l.map (ofL o2)).map iV).length=l.length:=by rw[LB,LB]
  have dpos:(0:Int)<(((l.map (ofL o2)).map iV).length:Int):=by omega +splitDisjunctions
  have mx1:(if(((l.map (ofL o2)).map iV).length:Int) > 1 then(((l.map (ofL o2)).map iV).length:Int) else 1)=(((l.map (ofL o2)).map iV).length:Int):=by split<;>omega +splitDisjunctions
  have c0:=Nm c (show(1009:Int)≠0 by decide)
  have c1:=M6 c (show(0:Int)<1009 by decide)
  refine⟨_,rfl,_,_,rfl,rfl,(by show(0:Int)<1009;decide),_,rfl,_,_,rfl,rfl,_,_,rfl,rfl,.inl ⟨by show -(2^64:Int)<c%1009;omega +splitDisjunctions,by show c%1009<(2^64:Int);omega +splitDisjunctions⟩,_,rfl,D,_,rfl,.inl (SqL.of ae),_,_,rfl,_,_,rfl,rfl,(by rw[mx1];exact dpos),?_⟩
  rw[mx1]
  have u0:=Nm (c%1009*((i:Int)+1)) (show(((l.map (ofL o2)).map iV).length:Int)≠0 by omega +splitDisjunctions)
  have u1:=M6 (c%1009*((i:Int)+1)) dpos
  have hcut:c%1009*((i:Int)+1)%(((l.map (ofL o2)).map iV).length:Int)=((cutp c i l.length:Nat):Int):=by
   unfold cutp
   rw[dlen]at u0 ⊢
   exact(NN u0).symm
  have cle:cutp c i l.length<=((l.map (ofL o2)).map iV).length:=by omega +splitDisjunctions
  refine⟨_,rfl,_,rfl,_,rfl,D,_,rfl,SqL.of ae,fun b1' hb1=>?_⟩
  rw[hcut,JA cle]
  have sB:=ai hb1 (.lst (((l.map (ofL o2)).map iV).drop (cutp c i l.length)))
  refine⟨_,rfl,_,rfl,_,rfl,D,_,rfl,SqL.of (sB _ _ ae),fun b2' hb2=>?_⟩
  rw[hcut,Jz cle]
  have sC:=ai hb2 (.lst (((l.map (ofL o2)).map iV).take (cutp c i l.length)))
  refine⟨b1',b2',_,_,rfl,rfl,sC _ _ ae,ae,by rw[Mj,LZ];exact MJ (aB (by omega +splitDisjunctions)),fun b3 hb3=>?_⟩
  have hrow:((l.map (ofL o2)).map iV).drop (cutp c i l.length)++((l.map (ofL o2)).map iV).take (cutp c i l.length)=(rowN c o2 i l).map iV:=by
   unfold rowN
   rw[Mu,Mu,NS,NS,NR,NR]
  rw[hrow]
  have sE:=ai hb3 (.lst ((rowN c o2 i l).map iV))
  have sAll:=((sD.trans sB).trans sC).trans sE
  refine⟨_,rfl,_,rfl,_,rfl,q1,_,_,_,rfl,rfl,SqL.of (sAll _ _ (s27 _ _ h1')),aD (get1 _ hi),qt,ws,_,ofL o1 i,rfl,rfl,sAll _ _ hw,uG (by rw[wl];exact R.pi.lt i hi),?_⟩
  have b3t:b3≠qt:=fun z=>by rw[z,((sD.trans sB).trans sC) _ _ hw]at hb3;cases hb3
  refine⟨_,_,_,_,_,_,_,rfl,a9 (s7.trans sAll) hqt _,ae,by rw[Mv];exact wl,fun p' l' hp' hl'=>?_⟩
  by_cases z:p'=i
  ·subst z
   rw[hl]at hl'
   cases hl'
   exact⟨b3,by rw[Mp,if_pos rfl,if_pos (by rw[wl];exact R.pi.lt p' hi)],by rw[au b3t];exact ae,b3t⟩
  ·obtain⟨q,u1,u2,u3⟩:=inv2 p' l' (by omega +splitDisjunctions) hl'
   have hpl:p'<m:=by rw[← w'.len];exact(Lx.mp hl').1
   exact⟨q,by rw[Mp,if_neg (fun y=>z (R.pi.inj _ _ hpl hi y.symm))];exact u1,by rw[au u3];exact sAll _ _ u2,u3⟩
 rintro σ H7 ⟨w5,w7,w8,w9,w10,w11,ws,rfl,s7,hw,wl,inv2⟩
 rw[L7,hxl]at inv2
 have tuN:bM H7 ws (ts2 c o1 o2 ts):=⟨by rw[wl,R.l2],fun j L h=>by
  have hj:j<m:=by rw[← R.l2];exact(Lx.mp h).1
  obtain⟨p,hp,rfl⟩:=R.pi.sur j hj
  obtain⟨l,hl⟩:∃ l,ts[p]?=some l:=⟨_,Lw (by rw[w'.len];exact hp)⟩
  obtain⟨q,z1,z2,_⟩:=inv2 p l hp hl
  refine⟨q,z1,?_⟩
  unfold ts2 at h
  rw[LL,M9 (by rw[w'.len];exact R.pi.lt p hp)]at h
  have h':some (rowN c o2 (o1.idxOf (ofL o1 p)) ((ts[o1.idxOf (ofL o1 p)]?).getD []))=some L:=h
  rw[Ge n1 (by omega +splitDisjunctions),hl]at h'
  cases h'
  exact z2⟩
 have s17:=s15.trans s7
 refine⟨(by show 0<=sizeLine;decide),fun qr hqr=>?_⟩
 have s8:=ai hqr (.lst [])
 have ru8:=ru.mono (s17.trans s8)
 have ul:us.length=rg.length:=ru.1
 have rgl:rg.length<=es.length+2:=by
  obtain⟨rs,x1,x2⟩:=g.part
  have:=part.same x1
  omega +splitDisjunctions
 have ringp:∀(r:List Nat),r∈rg->r.length<=2*es.length/\∀ d∈r,d<2*es.length:=fun r hr=>⟨eu (part.cr r hr).nd (part.cr r hr).lt,(part.cr r hr).lt⟩
 have h2s:=s5.trans s7
 refine⟨_,rfl,t,_,2,_,rfl,rfl,SqT.of ((s17.trans s8) _ _ ht),at32,pr,rfl,⟨us,SqL.of ((s17.trans s8) _ _ hpr)⟩,gD (xs:=us) (fun i σ H9=>∃ v5 v7 v8 v9 v11 ws2,σ = [some (.ref t),some (.int c),some (.ref q1),some (.ref q2),some (.ref qe),v5,some (.ref qt),v7,v8,v9,some (.ref qr),v11]/\Same H7 H9/\H9 qr=some (.lst ws2)/\bC (fun p=>p=qr) H9 ws2 ((rg.map (Od (Phi (ofL o2)))).take i))
  ⟨_,_,_,_,_,[],rfl,s8,ae,⟨rfl,fun i l z=>by simp at z⟩⟩ (fun i σ H9 _ ⟨_,_,_,_,_,_,_,z,_⟩=>SqL.of ((s17.trans z) _ _ hpr)) ?_ ?_⟩
 ·rintro i x σ H9 hx ⟨w5',w7',w8',w9',w11',ws2,rfl,s9,hq9,rx9⟩
  have hi:i<rg.length:=by rw[← ul];exact(Lx.mp hx).1
  obtain⟨r,hr⟩:∃ r,rg[i]?=some r:=⟨_,Lw hi⟩
  obtain⟨p,x1,x2⟩:=(ru.mono (s17.trans s9)).2 i r hr
  rw[hx]at x1
  cases x1
  obtain⟨rl,rlt⟩:=ringp r (Lz hr)
  have rlen:(r.map iV).length=r.length:=LB _
  have wsl:ws2.length=i:=by rw[rx9.1,LZ,LB];omega +splitDisjunctions
  refine⟨_,rfl,.inl ⟨rfl,_,SqL.of hq9⟩,_,rfl,p,rfl,⟨_,SqL.of x2⟩,bI (K:=K) (xs:=r.map iV) (fun j zs H8=>H8=H9/\zs=((r.map (Phi (ofL o2))).map iV).take j) (by rw[rlen];exact MJ (aB (by omega +splitDisjunctions))) ⟨rfl,rfl⟩ (fun j zs H8 _ z=>z.1▸SqL.of x2) ?_ ?_⟩
  ·rintro j x zs H8 hx ⟨rfl,rfl⟩
   rw[LL]at hx
   obtain⟨d,hd,rfl⟩:=Mr.mp hx
   have dl:=rlt d (Lz hd)
   have e2:(d:Int)/2=((d/2:Nat):Int):=by omega +splitDisjunctions
   refine⟨_,rfl,_,rfl,_,_,rfl,rfl,⟨by decide,by decide⟩,q2,_,_,_,rfl,rfl,SqL.of ((h2s.trans s9) _ _ h2'),(by rw[e2];exact aD (get2 _ (by omega +splitDisjunctions))),_,_,rfl,rfl,.inl ⟨by decide,by decide⟩,_,rfl,_,_,rfl,rfl,(by show(0:Int)<2;decide),_,_,rfl,rfl,rfl,?_⟩
   rw[Mo,LL,LL,hd]
   have:V.int (2*((ofL o2 (d/2):Nat):Int)+(d:Int)%2)=iV (Phi (ofL o2) d):=by
    unfold Phi iV
    congr 1
   simpa[iV] using this
  rintro zs H8 hzl ⟨rfl,rfl⟩ D hD
  rw[rlen,Ms (by rw[LB,LB];exact LG _)]
  have sD:=ai hD (.lst ((r.map (Phi (ofL o2))).map iV))
  have Dq:D≠qr:=fun z=>by rw[z,hq9]at hD;cases hD
  refine⟨qr,ws2,_,rfl,rfl,sD _ _ hq9,aB (by omega +splitDisjunctions),?_⟩
  have hqr7:H7 qr=none:=hqr
  refine⟨_,_,_,_,_,_,rfl,a9 (s9.trans sD) hqr7 _,ae,?_⟩
  have tk:(rg.map (Od (Phi (ofL o2)))).take (i+1)=(rg.map (Od (Phi (ofL o2)))).take i++[r.map (Phi (ofL o2))]:=by
   rw[Mo,LL,hr]
   rfl
  rw[tk]
  refine bC.mono (bC.snoc (bC.mono rx9 fun b u _ z=>sD _ _ z) Dq ae) fun b u n z=>?_
  rw[au n]
  exact z
 rintro σ H9 ⟨w5',w7',w8',w9',w11',ws2,rfl,s9,hq9,rx9⟩
 rw[ul,Ms (by rw[LB];exact LG _)]at rx9
 have s19:=s17.trans s9
 refine⟨_,rfl,_,rfl,_,rfl,(by show 3<=sizeLine;decide),fun t' ht'=>?_⟩
 have sT:=ai ht' (.tup [.ref qe,.ref qt,.ref qr])
 have s79:=s9.trans sT
 exact kk t' qe qt qr (en2 o1 o2 es) (ts2 c o1 o2 ts) _ _ (s19.trans sT) ae ⟨⟨zs,s79 _ _ (s7 _ _ hz),(enN.mono s7).mono s79⟩,⟨ws,s79 _ _ hw,tuN.mono s79⟩,R.gr g⟩ ⟨ws2,sT _ _ hq9,rx9.off.mono sT⟩ (HG R g part) R.l1
end
end K8
namespace K8
open PySem L2
local macro_rules | `(tactic| walk_at "cc") => `(tactic| first | exact ⟨by decide, by decide⟩ | (show (0 : Int) < _; decide) | (show (0 : Int) < _; omega) | (show (0 : Int) ≤ _; omega) | exact ⟨by decide, by decide, by decide⟩ | exact ⟨by omega, by omega, by decide⟩ | exact Or.inl ⟨by decide, by decide⟩ | exact Or.inl ⟨by omega, by omega⟩)
local macro_rules | `(tactic| walk_at "rd") => `(tactic| repeat (first | refine ⟨_, rfl, ?_⟩ | refine ⟨_, _, rfl, rfl, ?_⟩ | refine ⟨rfl, ?_⟩ | (refine ⟨?cc, ?_⟩; (case cc => walk_at "cc"))))
theorem bt_min:bootBuiltins "min" = some (.builtin "min"):=by decide +kernel
theorem Gw{S:Addr->Prop}{H:Hp}{xs:List V}{ts:List (List Nat)}{q:Addr}(h:bC S H xs ts)(D:Dist xs)(hq:H q=none):Dist (xs++[.ref q]):=by
 have old:∀(j:Nat)(p:Addr),j<xs.length->(xs++[V.ref q])[j]?=some (.ref p)->xs[j]?=some (.ref p)/\p≠q:=fun j p hj e=>by
  rw[LF hj]at e
  obtain⟨p',a1,_,a3⟩:=h.2 j _ (Lw (by rw[← h.1];exact hj))
  rw[e]at a1
  cases a1
  exact⟨e,aJ a3 hq⟩
 have new:∀(j:Nat)(p:Addr),¬ j<xs.length->(xs++[V.ref q])[j]?=some (.ref p)->j=xs.length/\p=q:=fun j p hj e=>by
  have:=(Lx.mp e).1
  rw[Ly,LU]at this
  have hj2:j=xs.length:=by omega
  subst hj2
  rw[LD (LG _),Md]at e
  cases e
  exact⟨rfl,rfl⟩
 intro j k p e1 e2
 by_cases hj:j<xs.length
 ·obtain⟨u1,u2⟩:=old j p hj e1
  by_cases hk:k<xs.length
  ·exact D j k p u1 (old k p hk e2).1
  ·exact absurd (new k p hk e2).2 u2
 ·obtain⟨u1,u2⟩:=new j p hj e1
  by_cases hk:k<xs.length
  ·exact absurd u2 (old k p hk e2).2
  ·rw[u1,(new k p hk e2).1]
abbrev Kn:=List (Int×Int)
theorem Gr.two{m:Nat}{es:En}{ts:List (List Nat)}(g:Gr m es ts)(h:0<es.length):2<=m:=by
 obtain⟨a,b,c⟩:=g.w.ends _ (Lz (Lw h))
 omega
end K8
namespace K8
open PySem L2
local macro_rules | `(tactic| walk_at "cc") => `(tactic| first | exact ⟨by decide, by decide⟩ | (show (0 : Int) < _; decide) | (show (0 : Int) < _; omega) | (show (0 : Int) ≤ _; omega) | exact ⟨by decide, by decide, by decide⟩ | exact ⟨by omega, by omega, by decide⟩ | exact Or.inl ⟨by decide, by decide⟩ | exact Or.inl ⟨by omega, by omega⟩)
local macro_rules | `(tactic| walk_at "rd") => `(tactic| repeat (first | refine ⟨_, rfl, ?_⟩ | refine ⟨_, _, rfl, rfl, ?_⟩ | refine ⟨rfl, ?_⟩ | (refine ⟨?cc, ?_⟩; (case cc => walk_at "cc"))))
theorem andN(a b:Nat):Builtin.bitAnd (a:Int) (b:Int)=((a&&&b:Nat):Int):=by
 rw[PyProof.Rows.bitAnd_pp (Int.natCast_nonneg _) (Int.natCast_nonneg _),L7,L7]
theorem orN(a b:Nat):Builtin.bitOr (a:Int) (b:Int)=((a|||b:Nat):Int):=by
 rw[PyProof.Rows.bitOr_and,andN]
 have q:=PyProof.Rows.nat_or_add_and a b
 omega
theorem shlN(p:Nat):(1:Int)*2^((p:Nat):Int).toNat=((2^p:Nat):Int):=by
 rw[Int.one_mul,L7,Int.natCast_pow]
 rfl
theorem Hx{M p q:Nat}:(M&&&(2^p|||2^q)=0↔M.testBit p=false/\M.testBit q=false)/\(M|||(2^p|||2^q)=M->M.testBit p=true/\M.testBit q=true):=by
 have b1:∀ i,(2^p|||2^q).testBit i=(decide (p=i)||decide (q=i)):=fun i=>by rw[Pb,Nat.testBit_two_pow,Nat.testBit_two_pow]
 refine⟨⟨fun h=>?_,fun⟨h1,h2⟩=>?_⟩,fun h=>?_⟩
 ·have h1:=congrArg (fun z=>O3 z p) h
  have h2:=congrArg (fun z=>O3 z q) h
  simp only[Nat.testBit_and,b1,Nat.zero_testBit]at h1 h2
  constructor
  ·simpa using h1
  ·simpa using h2
 ·refine Nat.eq_of_testBit_eq fun i=>?_
  rw[Nat.testBit_and,b1,Nat.zero_testBit]
  by_cases z1:p=i
  ·subst z1;rw[h1];rfl
  ·by_cases z2:q=i
   ·subst z2;rw[h2];rfl
   ·simp[z1,z2]
 ·have h1:=congrArg (fun z=>O3 z p) h
  have h2:=congrArg (fun z=>O3 z q) h
  simp only[Pb (x:=M),b1]at h1 h2
  constructor
  ·simpa using h1.symm
  ·simpa using h2.symm
theorem Gs{M m:Nat}(h:M<2^m)(k:∀ p,p<m->M.testBit p=true):M=2^m-1:=by
 refine Nat.eq_of_testBit_eq fun i=>?_
 rw[Nat.testBit_two_pow_sub_one]
 by_cases z:i<m
 ·rw[k i z,decide_eq_true z]
 ·rw[decide_eq_false z]
  exact Nat.testBit_lt_two_pow (Mw h (Nat.pow_le_pow_right (by decide) (by omega)))
def yW(K:LA):Sp:=fun vs H Q _=>∃(a:Addr)(ys:List V)(m:Nat)(es:En)(ts:List (List Nat)),vs = [.int 0,.ref a]/\SqL K H a ys/\cP H ys es/\Gr m es ts/\2<=m/\m<=40/\Q (.int ((2^m-1:Nat):Int)) H
section
variable{P:Program}{w:World}{K:LA}{mg:Str->Option Value}{base:Heap}
theorem cm:aI ["start","pairs","mask","ahead","one","two","ends"] ["start","pairs"] (aj fO):=⟨rfl,rfl,rfl,by decide +kernel,rfl,by decide +kernel,by decide +kernel⟩
theorem Di{f:Addr}{fd:FuncData} (F:Fun K "reached" "reached" fO f fd):FnOk P w K mg base CX0 1 f fd ["start","pairs"] (yW K):=by
 refine F.ok cm (fun vs H Q E h=>?_) (fun cdv A outer s H vs Q E hr h=>?_)
 ·obtain⟨a,ys,m,es,ts,rfl,_⟩:=h
  rfl
 obtain⟨a,ys,m,es,ts,rfl,hS,hE,g,m2,m40,kk⟩:=h
 refine⟨_,(af (ay (i:=2) cm.nd rfl (Or.inl rfl) (aF Cb ak (pv 0)))
   (af (ay (i:=3) cm.nd rfl (Or.inl rfl) ak)
   (af (sW PassesOwn.never (av dr (pv 2) (pv 3) (aK _)) (af (ay (i:=3) cm.nd rfl (Or.inl rfl) (pv 2))
   (ao (bO PassesOwn.never rfl (bz (pv 1)) (BX rfl (bX (aU (i:=4) cm.nd rfl (Or.inl rfl)) (bX (aU (i:=5) cm.nd rfl (Or.inl rfl)) oT))) (af (ay (i:=6) cm.nd rfl (Or.inl rfl) (aF op_or (aF Cb ak (pv 4)) (aF Cb ak (pv 5))))
   (ao (bt (av dr (aF op_and (pv 2) (pv 6)) ak (aK _)) (ao (ay (i:=2) cm.nd rfl (Or.inl rfl) (aF op_or (pv 2) (pv 6)))) aN)))))))
   (ao (aL (pv 2)))))),?_⟩
 refine⟨_,rfl,_,_,rfl,rfl,⟨by decide,by decide,by decide⟩,?_⟩
 have p2:∀ p,p<m->2^p<2^m:=fun p hp=>Nat.pow_lt_pow_right (by decide) hp
 refine BP (fun σ H2=>∃(M Ah:Nat),∃ v4 v5 v6,H2=H/\σ = [some (.int 0),some (.ref a),some (.int (M:Int)),some (.int (Ah:Int)),v4,v5,v6]/\M.testBit 0=true/\M<2^m/\(M=Ah->∀ e∈es,M.testBit e.1=M.testBit e.2))
  (fun σ _=>match σ with | [_,_,some (.int M),some (.int Ah),_,_,_]=>2*((2^m:Nat)-M).toNat+(if M=Ah then 0 else 1) | _=>0) ⟨1,0,_,_,_,rfl,rfl,by decide,Nat.one_lt_two_pow (by omega),fun z=>absurd z (by decide)⟩ ?_ ?_
 ·rintro σ H2 ⟨M,Ah,v4,v5,v6,rfl,rfl,b0,hM,cl⟩
  refine⟨_,rfl,_,rfl,rfl,_,rfl,?_⟩
  refine ite2 (fun c=>?_) (fun c=>?_)
  ·have c':M≠Ah:=fun z=>by
    rw[decide_eq_true (show V.int (M:Int)=V.int (Ah:Int) by rw[z])]at c
    cases c
   refine⟨_,rfl,?_⟩
   refine⟨_,rfl,a,rfl,⟨_,hS⟩,gD (K:=K) (xs:=ys) (fun i σ H3=>∃(M':Nat),∃ v4 v5 v6,H3=H2/\σ = [some (.int 0),some (.ref a),some (.int (M':Int)),some (.int (M:Int)),v4,v5,v6]/\M'.testBit 0=true/\M'<2^m/\M<=M'/\(M'=M->∀(j:Nat)(e:Nat×Nat),j<i->es[j]?=some e->M.testBit e.1=M.testBit e.2)) ⟨M,_,_,_,rfl,rfl,b0,hM,LG _,fun _ j e z=>absurd z (Og _)⟩ (fun i σ H3 _ ⟨_,_,_,_,z,_⟩=>z▸hS) ?_ ?_⟩
   ·rintro i x σ H3 hx ⟨M',v4,v5,v6,rfl,rfl,b0',hM',hle,cl'⟩
    have hi:i<es.length:=by rw[← hE.1];exact(Lx.mp hx).1
    obtain⟨e,he⟩:∃ e,es[i]?=some e:=⟨_,Lw hi⟩
    obtain⟨p,x1,x2⟩:=hE.2 i e he
    rw[hx]at x1
    cases x1
    obtain⟨e1,e2,_⟩:=g.w.ends e (Lz he)
    obtain⟨t1,t2⟩:=Hx (M:=M') (p:=e.1) (q:=e.2)
    refine⟨p,_,rfl,SqT.of x2,rfl,_,_,rfl,_,_,rfl,rfl,?_⟩
    refine⟨_,rfl,_,_,rfl,rfl,⟨by omega,by omega,by decide⟩,_,rfl,_,_,rfl,rfl,⟨by omega,by omega,by decide⟩,_,_,rfl,rfl,?_⟩
    have eo:Builtin.bitOr (1*2^((e.1:Nat):Int).toNat) (1*2^((e.2:Nat):Int).toNat)=((2^e.1|||2^e.2:Nat):Int):=by rw[shlN,shlN,orN]
    refine⟨_,rfl,_,rfl,_,_,rfl,rfl,rfl,_,rfl,?_⟩
    have step:∀ M'':Nat,M'<=M''->(M''=M'->M'.testBit e.1=M'.testBit e.2)->M''=M->∀(j:Nat)(x:Nat×Nat),j<i+1->es[j]?=some x->M.testBit x.1=M.testBit x.2:=fun M'' h1 h2 h3 j x hj hx'=>by
     have e3:M'=M:=by omega
     by_cases z:j=i
     ·subst z
      rw[he]at hx'
      cases hx'
      have:=h2 (by omega)
      rwa[e3]at this
     ·exact cl' e3 j x (by omega) hx'
    refine ite2 (fun c=>?_) (fun c=>?_)
    ·refine⟨_,rfl,_,rfl,_,_,rfl,rfl,?_⟩
     refine⟨M'|||(2^e.1|||2^e.2),some (iV e.1),some (iV e.2),some (V.int (Builtin.bitOr (1*2^((e.1:Nat):Int).toNat) (1*2^((e.2:Nat):Int).toNat))),rfl,?_,?_,Nat.or_lt_two_pow hM' (Nat.or_lt_two_pow (p2 _ e1) (p2 _ e2)),MB hle Nat.left_le_or,step _ Nat.left_le_or fun z=>?_⟩
     ·show[some (V.int 0),some (V.ref a),some (V.int (Builtin.bitOr (M':Int) (Builtin.bitOr (1*2^((e.1:Nat):Int).toNat) (1*2^((e.2:Nat):Int).toNat)))),some (V.int (M:Int)),some (iV e.1),some (iV e.2),some (V.int (Builtin.bitOr (1*2^((e.1:Nat):Int).toNat) (1*2^((e.2:Nat):Int).toNat)))]=_
      rw[eo,orN]
     ·rw[Pb,b0'];rfl
     ·obtain⟨u1,u2⟩:=t2 z
      rw[u1,u2]
    ·refine⟨M',_,_,_,rfl,rfl,b0',hM',hle,step M' (LG _) fun _=>?_⟩
     have c3:M'&&&(2^e.1|||2^e.2)=0:=by
      by_cases z:M'&&&(2^e.1|||2^e.2)=0
      ·exact z
      ·refine absurd ?_ c
       rw[decide_eq_false (fun y=>z ?_)]
       ·rfl
       ·have y':=V.int.inj y
        rw[eo,andN]at y'
        omega
     obtain⟨u1,u2⟩:=t1.mp c3
     rw[u1,u2]
   ·rintro σ H3 ⟨M',v4,v5,v6,rfl,rfl,b0',hM',hle,cl'⟩
    rw[hE.1]at cl'
    refine⟨⟨M',M,_,_,_,rfl,rfl,b0',hM',fun z e he=>?_⟩,?_⟩
    ·obtain⟨j,hj⟩:=MD.mp he
     have:=cl' z j e (Lx.mp hj).1 hj
     rw[z]
     exact this
    ·show 2*(((2^m:Nat):Int)-(M':Int)).toNat+(if(M':Int)=(M:Int) then 0 else 1)<2*(((2^m:Nat):Int)-(M:Int)).toNat+(if(M:Int)=(Ah:Int) then 0 else 1)
     rw[if_neg (show ¬ (M:Int)=(Ah:Int) from fun z=>c' (by omega))]
     have hMi:(M':Int)<((2^m:Nat):Int):=by exact_mod_cast hM'
     have hMj:(M:Int)<=(M':Int):=by omega
     generalize ((2^m:Nat):Int)=Z at hMi ⊢
     split<;>omega
  ·have c':M=Ah:=by
    by_cases z:M=Ah
    ·exact z
    ·exact absurd (by rw[decide_eq_false (fun y=>z (by have:=V.int.inj y;omega))];rfl) c
   have full:=Gs hM fun p hp=>by
    have:=g.conn (fun x=>M.testBit x=true) (fun e he=>by rw[cl c' e he]) 0 p (by omega) hp b0
    exact this
   refine⟨_,rfl,?_⟩
   rw[full]
   exact kk
 ·rintro σ H2 Q1 Q2 hi ⟨v',e,b',e2,z1,c',e3,q'⟩
  exact⟨v',e,b',e2,z1,c',e3,hi _ _ q'⟩
end
end K8
namespace K8
open PySem L2
local macro_rules | `(tactic| walk_at "cc") => `(tactic| first | exact ⟨by decide, by decide⟩ | (show (0 : Int) < _; decide) | (show (0 : Int) < _; omega) | (show (0 : Int) ≤ _; omega) | exact ⟨by decide, by decide, by decide⟩ | exact ⟨by omega, by omega, by decide⟩ | exact Or.inl ⟨by decide, by decide⟩ | exact Or.inl ⟨by omega, by omega⟩)
local macro_rules | `(tactic| walk_at "rd") => `(tactic| repeat (first | refine ⟨_, rfl, ?_⟩ | refine ⟨_, _, rfl, rfl, ?_⟩ | refine ⟨rfl, ?_⟩ | (refine ⟨?cc, ?_⟩; (case cc => walk_at "cc"))))
theorem qZ:∀{a b:List Int},a.Perm b->a.Pairwise (·<=·)->b.Pairwise (·<=·)->a=b
 |[],b,h,_,_=>(List.nil_perm.mp h).symm▸rfl
 |x::a,[],h,_,_=>absurd h.length_eq (by simp)
 |x::a,y::b,h,pa,pb=>by
  obtain⟨a1,a2⟩:=NQ.mp pa
  obtain⟨b1,b2⟩:=NQ.mp pb
  have h1:x<=y:=by
   rcases LC.mp (h.mem_iff.mpr (LI ..):y∈x::a)with z | z
   ·rw[z];exact Nr _
   ·exact a1 y z
  have h2:y<=x:=by
   rcases LC.mp (h.mem_iff.mp (LI ..):x∈y::b)with z | z
   ·rw[z];exact Nr _
   ·exact b1 x z
  have e:x=y:=Int.le_antisymm h1 h2
  subst e
  rw[qZ (List.Perm.cons_inv h) a2 b2]
def cI(l:List Nat):List Int:=l.map fun(p:Nat)=>((p:Nat):Int)
theorem cI_V(l:List Nat):(cI l).map V.int=l.map iV:=by unfold cI;rw[ME];rfl
theorem JV{l r:List Nat}{out:List Int}(hp:out.Perm (cI l))(hs:out.Pairwise (·<=·))(nl:l.Nodup)(pr:r.Pairwise (· < ·))(hm:∀ t,t∈l↔t∈r):out=cI r:=by
 have nr:r.Nodup:=pr.imp fun h=>Mt h
 have q:(cI l).Perm (cI r):=((Oj nl nr).mpr hm).map _
 refine qZ (hp.trans q) hs ?_
 unfold cI
 exact List.Pairwise.map _ (fun a b h=>by omega) pr
theorem Gd{l:List Nat}{n:Nat}:ins l l.length n=l++[n]:=by
 unfold ins
 rw[My,List.drop_length]
def yY(K:LA):Sp:=fun vs H Q _=>∃(a:Addr)(xs:List V)(m:Nat)(es:En),vs = [.int (m:Int),.ref a]/\SqL K H a xs/\dH K H xs es/\(∀ e∈es,e.1<m/\e.2<m)/\Q .non H
def sh(K:LA):Sp:=fun vs H Q _=>∃(a b:Addr)(xs zs:List V)(m:Nat)(es:En)(ts:List (List Nat)),vs = [.int (m:Int),.ref a,.ref b]/\SqL K H a xs/\dH K H xs es/\SqL K H b zs/\bM H zs ts/\bJ m es ts/\es.length<=63/\m<=40/\∀ H',Same H H'->Q .non H'
def yX(K:LA):Sp:=fun vs H Q _=>∃(a:Addr)(xs:List V)(m:Nat)(es:En)(ts:List (List Nat)),vs = [.int (m:Int),.ref a]/\SqL K H a xs/\dH K H xs es/\Gr m es ts/\2<=m/\m<=40/\es.length<=63/\∀ H',Same H H'->Q .non H'
section
variable{P:Program}{w:World}{K:LA}{mg:Str->Option Value}{base:Heap}
theorem jx:aI ["many","ties","tie"] ["many","ties"] (aj bQ):=⟨rfl,rfl,rfl,by decide +kernel,rfl,by decide +kernel,by decide +kernel⟩
theorem Ia{f:Addr}{fd:FuncData} (F:Fun K "refuse_ends" "refuse_ends" bQ f fd):FnOk P w K mg base CX0 1 f fd ["many","ties"] (yY K):=by
 refine F.ok jx (fun vs H Q E h=>?_) (fun cdv A outer s H vs Q E hr h=>?_)
 ·obtain⟨a,xs,m,es,rfl,_⟩:=h
  rfl
 obtain⟨a,xs,m,es,rfl,hS,hT,hm,k⟩:=h
 refine⟨_,(ao (bO PassesOwn.never rfl (bz (pv 1)) (aU (i:=2) jx.nd rfl (Or.inl rfl)) (ao (bt (PW.pt (cG (av HP (bE (pv 2) rfl) (pv 0) (aK _)) (bN (av HP (bE (pv 2) rfl) (pv 0) (aK _))))) (ao cH) aN)))),?_⟩
 refine⟨_,rfl,a,rfl,⟨_,hS⟩,gD (K:=K) (xs:=xs) (fun i σ H2=>∃ v2,σ = [some (.int (m:Int)),some (.ref a),v2]/\H2=H) ⟨_,rfl,rfl⟩ (fun i σ H2 _ ⟨_,_,z⟩=>z▸hS) ?_ ?_⟩
 ·rintro i x σ H2 hx ⟨v2,rfl,rfl⟩
  have hi:i<es.length:=by rw[← hT.1];exact(Lx.mp hx).1
  obtain⟨e,he⟩:∃ e,es[i]?=some e:=⟨_,Lw hi⟩
  obtain⟨p,C,dx,st,x1,x2,x3⟩:=hT.2 i e he
  rw[hx]at x1
  cases x1
  obtain⟨e1,e2⟩:=hm e (Lz he)
  refine⟨_,rfl,p,C,dx,_,_,rfl,x2,x3.cl,x3.n1,kG _ _ _,_,rfl,_,_,rfl,rfl,_,rfl,?_⟩
  refine ite2 (fun c=>absurd (of_decide_eq_true c) (by omega)) (fun _=>?_)
  refine⟨_,rfl,p,C,dx,_,_,rfl,x2,x3.cl,x3.n2,oK _ _ _,_,rfl,_,_,rfl,rfl,_,rfl,?_⟩
  refine ite2 (fun c=>absurd (of_decide_eq_true c) (by omega)) (fun _=>?_)
  exact⟨_,rfl,rfl⟩
 ·rintro σ H2 ⟨v2,rfl,rfl⟩
  exact k
theorem cF:aI ["many","ties","turns","ending","number","tie"] ["many","ties","turns"] (aj bL):=⟨rfl,rfl,rfl,by decide +kernel,rfl,by decide +kernel,by decide +kernel⟩
theorem Fx{f:Addr}{fd:FuncData} (F:Fun K "refuse_turns" "refuse_turns" bL f fd) (T:Txt mg):FnOk P w K mg base CX0 1 f fd ["many","ties","turns"] (sh K):=by
 refine F.ok cF (fun vs H Q E h=>?_) (fun cdv A outer s H vs Q E hr h=>?_)
 ·obtain⟨a,b,xs,zs,m,es,ts,rfl,_⟩:=h
  rfl
 obtain⟨a,b,xs,zs,m,es,ts,rfl,hS,hT,hB,hR,w',few,m40,kk⟩:=h
 have hu64:=hr.units
 refine⟨_,(af (lK (i:=3) rfl cF.nd rfl rfl (fr:=[]) (by exact bK.plain (by rfl) (by decide +kernel) (by rfl) (by decide +kernel) (by rfl) (by decide +kernel)) (ba rfl T.n_range (aa (pv 0) ag)) (fun C ex s H=>(bu ag)))
   (af (bO PassesOwn.never rfl (zJ rfl T.n_enumerate (aa (pv 1) ag)) (BX rfl (bX (aU (i:=4) cF.nd rfl (Or.inl rfl)) (bX (aU (i:=5) cF.nd rfl (Or.inl rfl)) oT))) (af (a8 (cg LY Mi Mh bb (aG aA (pv 3) (bE (pv 5) rfl) (fun _ _=>rfl)) (aa (pv 4) ag)))
   (ao (a8 (cg LY Mi Mh bb (aG aA (pv 3) (bE (pv 5) rfl) (fun _ _=>rfl)) (aa (pv 4) ag))))))
   (ao (bt (av (Jh hu64) (dq rfl (fr:=[]) (by exact bK.plain (by rfl) (by decide +kernel) (by rfl) (by decide +kernel) (by rfl) (by decide +kernel)) (bz (pv 2)) (fun C ex s H=>(ar (yb (K:=K) rfl) (by rfl) T.n_sorted yc (aa (pv 0) ag)))) (pv 3) (aK _)) (ao cH) aN)))),?_⟩
 refine⟨_,rfl,_,rfl,by omega,by omega,rk (n:=(m:Int).toNat) (fun i ys H2=>Same H H2/\bC (fun p=>H p≠none) H2 ys (Nu i [])/\Dist ys) (by rw[L7];exact MJ (aB (by omega))) ⟨fun _ _ e=>e,⟨rfl,fun i l e=>by simp at e⟩,fun i j p e=>by simp at e⟩ ?_ ?_⟩
 ·rintro i ys H2 hi ⟨s2,rx,D⟩
  refine⟨(by show 0<=sizeLine;decide),fun l hl=>?_⟩
  have s3:=ai hl (.lst [])
  refine⟨s2.trans s3,?_,Gw rx D hl⟩
  rw[List.replicate_succ']
  refine(rx.mono fun b u _ z=>s3 _ _ z).snoc (fun z=>z ?_) ae
  cases y:H l with
  |none=>rfl
  |some o=>rw[s2 _ _ y]at hl;cases hl
 rintro ys H2 hyl ⟨s2,rx,D⟩ pn hpn
 rw[L7]at rx
 have s3:=ai hpn (.lst ys)
 have hpn0:H pn=none:=by
  cases y:H pn with
  |none=>rfl
  |some o=>rw[s2 _ _ y]at hpn;cases hpn
 have rx3:bC (fun p=>p=pn∨H p≠none) (upd H2 pn (.lst ys)) ys (Nu m []):=⟨rx.1,fun i l z=>by
  obtain⟨p,a1,a2,a3⟩:=rx.2 i l z
  have n2:p≠pn:=aJ a3 hpn
  exact⟨p,a1,by rintro(y | y);exact n2 y;exact a2 y,s3 _ _ a3⟩⟩
 refine⟨_,rfl,a,rfl,⟨_,(s2.trans s3).seq hS⟩,Cv (K:=K) (xs:=xs) (fun i σ H5=>∃ v4 v5 rows,σ = [some (.int (m:Int)),some (.ref a),some (.ref b),some (.ref pn),v4,v5]/\Same H H5/\H5 pn=some (.lst ys)/\bC (fun p=>p=pn∨H p≠none) H5 ys rows/\bJ m (es.take i) rows/\∀ r∈rows,r.Pairwise (· < ·))
  ⟨_,_,_,rfl,s2.trans s3,ae,rx3,Hz m,fun r hr=>by rw[(List.mem_replicate.mp hr).2];exact OV⟩ (fun i σ H5 _ ⟨_,_,_,_,z,_⟩=>z.seq hS) ?_ ?_⟩
 ·rintro i x σ H5 T2 hx ⟨v4,v5,rows,rfl,s5,hpn5,rx5,w5,pw⟩ hT2
  have hi:i<es.length:=by rw[← hT.1];exact(Lx.mp hx).1
  obtain⟨e,he⟩:∃ e,es[i]?=some e:=⟨_,Lw hi⟩
  obtain⟨p,C,dx,st,x1,x2,x3⟩:=hT.2 i e he
  rw[hx]at x1
  cases x1
  have sT:=ai hT2 (.tup [.int (i:Int),.ref p])
  have s6:=s5.trans sT
  have x6:=s6 _ _ x2
  obtain⟨e1,e2,e3⟩:=w'.ends e (Lz he)
  have til:(es.take i).length=i:=by rw[LZ];omega
  have rlen:=w5.len
  obtain⟨l,hl⟩:∃ l,rows[e.1]?=some l:=⟨_,Lw (by omega)⟩
  obtain⟨l',hl'⟩:∃ l,rows[e.2]?=some l:=⟨_,Lw (by omega)⟩
  have rx6:bC (fun p=>p=pn∨H p≠none) (upd H5 T2 (.tup [.int (i:Int),.ref p])) ys rows:=rx5.mono fun b u _ z=>sT _ _ z
  obtain⟨p1,y1,y2,y3⟩:=rx6.2 _ _ hl
  obtain⟨p2,z1,z2,z3⟩:=rx6.2 _ _ hl'
  have no_S:∀{p:Addr},¬ (p=pn∨H p≠none)->H p=none/\p≠pn:=fun{p} n=>by
   refine⟨?_,fun z=>n (.inl z)⟩
   cases y:H p with
   |none=>rfl
   |some o=>exact absurd (.inr (by rw[y];exact fun z=>nomatch z)) n
  obtain⟨hp1,np1⟩:=no_S y2
  obtain⟨hp2,np2⟩:=no_S z2
  have n12:p2≠p1:=fun y=>by rw[y]at z1;exact e3 (D _ _ p1 y1 z1)
  have ll:∀{q:Nat}{r:List Nat},rows[q]?=some r->∀ t∈r,t<i:=fun{q r} h t ht=>by
   have:=nc w5 h ht
   omega
  have lle:∀{q:Nat}{r:List Nat},rows[q]?=some r->r.length<=63:=fun{q r} h=>by
   have:=eu (w5.nd _ _ h) (ll h)
   omega
  have f1:=lle hl
  have f2:=lle hl'
  have hpn6:=sT _ _ hpn5
  refine⟨T2,_,rfl,SqT.of ae,rfl,_,_,rfl,_,_,rfl,rfl,?_⟩
  refine⟨_,rfl,_,rfl,p,C,dx,_,_,rfl,x6,x3.cl,x3.n1,kG _ _ _,pn,ys,_,_,rfl,rfl,SqL.of hpn6,aD y1,.inl ⟨rfl,_,SqL.of y3⟩,_,rfl,p1,_,_,rfl,rfl,y3,aB (by rw[LB];omega),?_⟩
  have e1':(l.map iV)++[V.int (i:Int)]=(l++[i]).map iV:=by rw[Mu];rfl
  rw[e1']
  have x7:(upd (upd H5 T2 (.tup [.int (i:Int),.ref p])) p1 (.lst ((l++[i]).map iV))) p=some (.ins C dx (tf (e.1:Int) (e.2:Int) st)):=by rw[au (fun z=>by rw[z]at x2;rw[x2]at hp1;cases hp1)];exact x6
  have hpn7:(upd (upd H5 T2 (.tup [.int (i:Int),.ref p])) p1 (.lst ((l++[i]).map iV))) pn=some (.lst ys):=by rw[au np1.symm];exact hpn6
  have z7:(upd (upd H5 T2 (.tup [.int (i:Int),.ref p])) p1 (.lst ((l++[i]).map iV))) p2=some (.lst (l'.map iV)):=by rw[au n12];exact z3
  refine⟨_,rfl,_,rfl,p,C,dx,_,_,rfl,x7,x3.cl,x3.n2,oK _ _ _,pn,ys,_,_,rfl,rfl,SqL.of hpn7,aD z1,.inl ⟨rfl,_,SqL.of z7⟩,_,rfl,p2,_,_,rfl,rfl,z7,aB (by rw[LB];omega),?_⟩
  have e2':(l'.map iV)++[V.int (i:Int)]=(l'++[i]).map iV:=by rw[Mu];rfl
  rw[e2']
  refine⟨_,_,(rows.set e.1 (l++[i])).set e.2 (l'++[i]),rfl,a9 (a9 s6 hp1 _) hp2 _,by rw[au np2.symm];exact hpn7,(rx6.set D y1).set D z1,?_,fun r hr=>?_⟩
  ·have q:=w5.put (k:=l.length) (j:=l'.length) e1 e2 e3 hl hl'
   rw[Gd,Gd,til]at q
   rw[Mo,he]
   exact q
  ·have app:∀{q:Nat}{r:List Nat},rows[q]?=some r->(r++[i]).Pairwise (· < ·):=fun{q r} h=>MI.mpr ⟨pw r (Lz h),NP _ _,fun x hx y hy=>by
    have:=ll h x hx
    have:y=i:=by simpa using hy
    omega⟩
   rcases Pc hr with z | z
   ·rcases Pc z with z | z
    ·exact pw r z
    ·rw[z];exact app hl
   ·rw[z];exact app hl'
 rintro σ H5 ⟨v4,v5,rows,rfl,s5,hpn5,rx5,w5,pw⟩
 rw[hT.1,My]at w5
 have hzl:zs.length=m:=by rw[hR.1,w'.len]
 refine⟨_,rfl,b,rfl,⟨_,s5.seq hB⟩,bI (K:=K) (xs:=zs) (fun i vs H6=>Same H5 H6/\bM H6 vs (rows.take i)) (MJ (aB (by omega))) ⟨fun _ _ e=>e,rfl,fun i l e=>by simp at e⟩ (fun i vs H6 _ z=>(s5.trans z.1).seq hB) ?_ ?_⟩
 ·rintro i x vs H6 hx ⟨s6,rz⟩
  have hi:i<ts.length:=by rw[← hR.1];exact(Lx.mp hx).1
  obtain⟨l,hl⟩:∃ l,ts[i]?=some l:=⟨_,Lw hi⟩
  obtain⟨r,hr'⟩:∃ r,rows[i]?=some r:=⟨_,Lw (by rw[w5.len,← w'.len];exact hi)⟩
  obtain⟨p,a1,a2⟩:=(hR.mono (s5.trans s6)).2 i l hl
  rw[hx]at a1
  cases a1
  have hll:l.length<=63:=MB (eu (w'.nd _ _ hl) fun t ht=>nc w' hl ht) few
  refine⟨_,rfl,p,cI l,rfl,(by rw[cI_V];exact SqL.of a2),(by unfold cI;rw[LB];omega),fun q out hq hp hs=>?_⟩
  have eo:=JV hp hs (w'.nd _ _ hl) (pw r (Lz hr')) fun t=>(w'.mem i l hl t).trans (w5.mem i r hr' t).symm
  subst eo
  have s7:=ai hq (.lst ((cI r).map V.int))
  refine⟨s6.trans s7,?_⟩
  rw[show rows.take (i+1)=rows.take i++[r] by rw[Mo,hr'];rfl]
  exact(rz.mono s7).snoc (by rw[ae,cI_V])
 rintro vs H6 _ ⟨s6,rz⟩ D' hD'
 rw[hzl,← w5.len,My]at rz
 have s7:=ai hD' (.lst vs)
 have s67:=s6.trans s7
 refine⟨_,rfl,_,E4 (SqL.of ae) (rz.mono s7),E4 (SqL.of (s67 _ _ hpn5)) (rx5.off.mono s67),zp rows,_,rfl,iteF ?_⟩
 exact kk _ (s5.trans s67)
theorem nO:aI ["many","ties"] ["many","ties"] (aj bw):=⟨rfl,rfl,rfl,by decide +kernel,rfl,by decide +kernel,by decide +kernel⟩
theorem HX{f fr:Addr}{fd fdr:FuncData} (F:Fun K "refuse_parted" "refuse_parted" bw f fd) (G_reached:Cal P w K mg base 1 "reached" ["start","pairs"] (yW K) fr fdr):FnOk P w K mg base CX0 2 f fd ["many","ties"] (yX K):=by
 refine F.ok nO (fun vs H Q E h=>?_) (fun cdv A outer s H vs Q E hr h=>?_)
 ·obtain⟨a,xs,m,es,ts,rfl,_⟩:=h
  rfl
 obtain⟨a,xs,m,es,ts,rfl,hS,hT,g,m2,m40,few,kk⟩:=h
 have hul:xs.length=es.length:=hT.1
 refine⟨_,(ao (bt (av dr (ax G_reached.ok (hr.mono (by decide)) rfl G_reached.mg G_reached.kp G_reached.bn .nil aR (aa ak (aa (dq rfl (fr:=[]) (by exact bK.plain (by rfl) (by decide +kernel) (by rfl) (by decide +kernel) (by rfl) (by decide +kernel)) (bz (pv 1)) (fun C ex s H=>(gU (aa (Fi (K:=K) rfl (pv 0) rfl) (aa (Fi (K:=K) rfl (pv 0) rfl) ag))))) ag))) (aF wq (aF Cb ak (pv 0)) ak) (aK _)) (ao cH) aN)),?_⟩
 refine⟨_,rfl,a,rfl,⟨_,hS⟩,bI (K:=K) (xs:=xs) (fun i zs H11=>Same H H11/\cP H11 zs (es.take i)) (MJ (aB (by omega))) ⟨fun _ _ e=>e,rfl,fun i l e=>by simp at e⟩ (fun i zs H11 _ z=>z.1.seq hS) ?_ ?_⟩
 ·rintro i x zs H11 hx ⟨s11,ez⟩
  have hi:i<es.length:=by rw[← hT.1];exact(Lx.mp hx).1
  obtain⟨e,he⟩:∃ e,es[i]?=some e:=⟨_,Lw hi⟩
  obtain⟨p,C,dx,st,a1,a2,a3⟩:=(hT.mono s11).2 i e he
  rw[hx]at a1
  cases a1
  refine⟨_,rfl,p,C,dx,_,_,rfl,a2,a3.cl,a3.n1,kG _ _ _,_,rfl,p,C,dx,_,_,rfl,a2,a3.cl,a3.n2,oK _ _ _,(by show 2<=sizeLine;decide),fun g hg=>?_⟩
  have s12:=ai hg (.tup [iV e.1,iV e.2])
  refine⟨s11.trans s12,?_⟩
  rw[show es.take (i+1)=es.take i++[e] by rw[Mo,he];rfl]
  exact(ez.mono s12).snoc ae
 rintro zs H11 _ ⟨s11,ez⟩ D hD
 rw[hT.1,My]at ez
 have s12:=ai hD (.lst zs)
 refine⟨D,zs,m,es,ts,rfl,SqL.of ae,ez.mono s12,g,m2,m40,_,rfl,_,_,rfl,rfl,⟨by omega,by omega,by decide⟩,_,_,rfl,rfl,rfl,_,rfl,?_⟩
 refine kT ?_ (kk _ (s11.trans s12))
 show V.int _=V.int _
 rw[shlN]
 have:=Nat.two_pow_pos m
 congr 1
 omega
end
end K8
namespace K8
open PySem L2
local macro_rules | `(tactic| walk_at "cc") => `(tactic| first | exact ⟨by decide, by decide⟩ | (show (0 : Int) < _; decide) | (show (0 : Int) < _; omega) | (show (0 : Int) ≤ _; omega) | exact ⟨by decide, by decide, by decide⟩ | exact ⟨by omega, by omega, by decide⟩ | exact Or.inl ⟨by decide, by decide⟩ | exact Or.inl ⟨by omega, by omega⟩)
local macro_rules | `(tactic| walk_at "rd") => `(tactic| repeat (first | refine ⟨_, rfl, ?_⟩ | refine ⟨_, _, rfl, rfl, ?_⟩ | refine ⟨rfl, ?_⟩ | (refine ⟨?cc, ?_⟩; (case cc => walk_at "cc"))))
def cls(PL PS:Addr)(push:Bool):Addr:=if push=true then PS else PL
def kC(PL PS:Addr)(H:Hp)(xs:List V)(es:En)(ks:Kn):Prop:=xs.length=es.length/\∀(i:Nat)(e:Nat×Nat)(k:Int×Int),es[i]?=some e->ks[i]?=some k->∃ p dx,xs[i]?=some (.ref p)/\H p=some (.ins (cls PL PS (decide (k.1=1))) dx (tf (e.1:Int) (e.2:Int) k.2))
theorem kC.mono{PL PS:Addr}{H H':Hp}{xs:List V}{es:En}{ks:Kn}(t:kC PL PS H xs es ks)(h:Same H H'):kC PL PS H' xs es ks:=⟨t.1,fun i e k q r=>by
 obtain⟨p,dx,a,b⟩:=t.2 i e k q r
 exact⟨p,dx,a,h _ _ b⟩⟩
structure CW(K:LA)(C:Addr):Prop where
 cl:Cls K C
 n1:ft K C "many"
 n2:ft K C "ties"
 n3:ft K C "turns"
 n4:ft K C "rounds"
 n5:ft K C "sides"
theorem jb(k:Str)(v:V):∀ fs:List (Str×V),(putF k v fs).length<=fs.length+1
 |[]=>LG _
 | (a,b)::r=>by
  show(if a=k then(a,v)::r else(a,b)::putF k v r).length<=_
  have:=jb k v r
  split<;>simp only[Mb]<;>omega
theorem none_of{H H':Hp}{b:Addr}(s:Same H H')(z:H' b=none):H b=none:=by
 cases y:H b with
 |none=>rfl
 |some o=>rw[s _ _ y]at z;cases z
structure WebG(S:Addr->Prop)(H:Hp)(fs:List (Str×V))(m:Nat)(es:En)(ts rs:List (List Nat)):Prop where
 many:fs.lookup ("many" : Str)=some (.int (m:Int))
 turns:∃ q z,fs.lookup ("turns" : Str)=some (.ref q)/\¬ S q/\H q=some (.lst z)/\bC S H z ts
 rounds:∃ q z,fs.lookup ("rounds" : Str)=some (.ref q)/\¬ S q/\H q=some (.lst z)/\bC S H z rs
 sides:∃ q z,fs.lookup ("sides" : Str)=some (.ref q)/\¬ S q/\H q=some (.lst z)/\kD H z es.length rs
 part:dj (fol es ts) (2*es.length) (2*es.length) rs
theorem kD.mono{H H':Hp}{z:List V}{n:Nat}{rs:List (List Nat)}(h:kD H z n rs)(s:Same H H'):kD H' z n rs:=⟨h.1,fun i hi=>by
 obtain⟨t,a,b,r,r',y1,y2,y3⟩:=h.2 i hi
 exact⟨t,a,b,r,r',y1,s _ _ y2,y3⟩⟩
theorem bC.low{S S':Addr->Prop}{H H':Hp}{z:List V}{ts:List (List Nat)}(h:bC S H z ts)(s:∀ b xs,¬ S b->H b=some (.lst xs)->H' b=some (.lst xs))(i:∀ a,S' a->S a):bC S' H' z ts:=⟨h.1,fun j l y=>by
 obtain⟨r,y1,y2,y3⟩:=h.2 j l y
 exact⟨r,y1,fun x=>y2 (i _ x),s _ _ y2 y3⟩⟩
theorem WebG.mono{S S':Addr->Prop}{H H':Hp}{fs:List (Str×V)}{m:Nat}{es:En}{ts rs:List (List Nat)}(h:WebG S H fs m es ts rs)(s:∀ b xs,¬ S b->H b=some (.lst xs)->H' b=some (.lst xs))(st:∀ b xs,H b=some (.tup xs)->H' b=some (.tup xs))(i:∀ a,S' a->S a):WebG S' H' fs m es ts rs:=by
 obtain⟨a,⟨q,z,b1,b0,b2,b3⟩,⟨q',z',c1,c0,c2,c3⟩,⟨q2,z2,d1,d0,d2,d3⟩,e⟩:=h
 refine⟨a,⟨q,z,b1,fun y=>b0 (i _ y),s _ _ b0 b2,b3.low s i⟩,⟨q',z',c1,fun y=>c0 (i _ y),s _ _ c0 c2,c3.low s i⟩,⟨q2,z2,d1,fun y=>d0 (i _ y),s _ _ d0 d2,d3.1,fun j hj=>?_⟩,e⟩
 obtain⟨t,a,b,r,r',y1,y2,y3⟩:=d3.2 j hj
 exact⟨t,a,b,r,r',y1,st _ _ y2,y3⟩
def oN(K:LA):Sp:=fun vs H Q _=>∃(p C dx qt qh:Addr)(m:Nat)(xs zs:List V)(es:En)(ts:List (List Nat)),vs = [.ref p,.int (m:Int),.ref qt,.ref qh]/\H p=some (.ins C dx [])/\CW K C/\H qt=some (.lst xs)/\dH K H xs es/\H qh=some (.lst zs)/\bM H zs ts/\Gr m es ts/\0<es.length/\es.length<=63/\m<=40 /\
 ∀(fs:List (Str×V))(q1:Addr)(rs:List (List Nat))(H':Hp),H' p=some (.ins C dx fs)->WebG (fun a=>H a≠none) H' fs m es ts rs->H q1=none->fs.lookup ("ties" : Str)=some (.ref q1)->H' q1=some (.lst xs)->(∀ q o,H q=some o->q≠p->H' q=some o)->Q .non H'
theorem dH.keep{K:LA}{H G:Hp}{xs:List V}{es:En}{p C dx:Addr}(t:dH K H xs es)(hp:H p=some (.ins C dx []))(k:∀ q u,q≠p->H q=some u->G q=some u):dH K G xs es:=⟨t.1,fun i e z=>by
 obtain⟨q,C',dx',s,a,b,d⟩:=t.2 i e z
 refine⟨q,C',dx',s,a,k _ _ (fun z=>?_) b,d⟩
 rw[z,hp]at b
 have e1:([]:List (Str×V))=tf (e.1:Int) (e.2:Int) s:=by
  injection b with b
  injection b
 have e2:=kG (e.1:Int) (e.2:Int) s
 rw[← e1]at e2
 cases e2⟩
section
variable{P:Program}{w:World}{K:LA}{mg:Str->Option Value}{base:Heap}
theorem kK:aI ["self","many","ties","turns","rounds"] ["self","many","ties","turns"] (aj cA):=⟨rfl,rfl,rfl,by decide +kernel,rfl,by decide +kernel,by decide +kernel⟩
theorem HS{f f1 f2 f3 f4 f5:Addr}{fd d1 d2 d3 d4 d5:FuncData} (F:Fun K "__init__" "Web.__init__" cA f fd) (T:Txt mg) (G_refuse_ends:Cal P w K mg base 1 "refuse_ends" ["many","ties"] (yY K) f1 d1) (G_refuse_turns:Cal P w K mg base 1 "refuse_turns" ["many","ties","turns"] (sh K) f2 d2) (G_refuse_parted:Cal P w K mg base 2 "refuse_parted" ["many","ties"] (yX K) f3 d3) (G_rounds_of:Cal P w K mg base 4 "rounds_of" ["ties","turns"] (sf K) f4 d4) (G_sides_of:Cal P w K mg base 1 "sides_of" ["ties","rounds"] (yS K) f5 d5) :
  FnOk P w K mg base CX0 5 f fd ["self","many","ties","turns"] (oN K):=by
 refine F.ok kK (fun vs H Q E h=>?_) (fun cdv A outer s H vs Q E hr h=>?_)
 ·obtain⟨p,C,dx,qt,qh,m,xs,zs,es,ts,rfl,_⟩:=h
  rfl
 obtain⟨p,C,dx,qt,qh,m,xs,zs,es,ts,rfl,hp,cw,hqt,hT,hqh,hR,g,e0,few,m40,kk⟩:=h
 have w':=g.w
 have m2:=g.two e0
 have mf:=xC g
 have hul:xs.length=es.length:=hT.1
 have hzl:zs.length=m:=by rw[hR.1,w'.len]
 have pl:∀{q:Addr}{ys:List V},H q=some (.lst ys)->q≠p:=fun{q ys} h z=>by rw[z,hp]at h;cases h
 refine⟨_,(af (a8 (ax G_refuse_ends.ok (hr.mono (by decide)) rfl G_refuse_ends.mg G_refuse_ends.kp G_refuse_ends.bn .nil aR (aa (pv 1) (aa (pv 2) ag))))
   (af (a8 (ax G_refuse_turns.ok (hr.mono (by decide)) rfl G_refuse_turns.mg G_refuse_turns.kp G_refuse_turns.bn .nil aR (aa (pv 1) (aa (pv 2) (aa (pv 3) ag)))))
   (af (a8 (ax G_refuse_parted.ok (hr.mono (by decide)) rfl G_refuse_parted.mg G_refuse_parted.kp G_refuse_parted.bn .nil aR (aa (pv 1) (aa (pv 2) ag))))
   (af (ay (i:=4) kK.nd rfl (Or.inl rfl) (ax G_rounds_of.ok (hr.mono (by decide)) rfl G_rounds_of.mg G_rounds_of.kp G_rounds_of.bn .nil aR (aa (pv 2) (aa (pv 3) ag))))
   (af (bt (av dr (aF bB (aF wq (pv 1) (ar aq (by rfl) T.n_len aQ (aa (pv 2) ag))) (ar aq (by rfl) T.n_len aQ (aa (pv 4) ag))) ak (aK _)) (ao cH) aN)
   (af (m9 (pv 0) (pv 1) rfl)
   (af (m9 (pv 0) (bA fq (by rfl) T.n_list gQ (aa (pv 2) ag)) rfl)
   (af (m9 (pv 0) (dq rfl (fr:=[]) (by exact bK.plain (by rfl) (by decide +kernel) (by rfl) (by decide +kernel) (by rfl) (by decide +kernel)) (bz (pv 3)) (fun C ex s H=>(bA (rF (K:=K) rfl) (by rfl) T.n_list gQ (aa (pv 0) ag)))) rfl)
   (af (m9 (pv 0) (pv 4) rfl)
   (ao (m9 (pv 0) (ax G_sides_of.ok (hr.mono (by decide)) rfl G_sides_of.mg G_sides_of.kp G_sides_of.bn .nil aR (aa (pv 2) (aa (pv 4) ag))) rfl))))))))))),?_⟩
 refine⟨_,rfl,_,rfl,qt,xs,m,es,rfl,SqL.of hqt,hT,fun e he=>⟨(w'.ends e he).1,(w'.ends e he).2.1⟩,?_⟩
 refine⟨_,rfl,_,rfl,_,rfl,qt,qh,xs,zs,m,es,ts,rfl,SqL.of hqt,hT,SqL.of hqh,hR,w',few,by omega,fun H1 s1=>?_⟩
 refine⟨_,rfl,_,rfl,qt,xs,m,es,ts,rfl,SqL.of (s1 _ _ hqt),hT.mono s1,g,m2,by omega,few,fun H2 s2=>?_⟩
 have s12:=s1.trans s2
 refine⟨_,rfl,_,rfl,qt,qh,m,es,ts,rfl,⟨⟨xs,SqL.of (s12 _ _ hqt),hT.mono s12⟩,⟨zs,SqL.of (s12 _ _ hqh),hR.mono s12⟩,w',by omega⟩,fun qr vs rs H3 s3 nqr hqr hrs ro=>?_⟩
 have s13:=s12.trans s3
 have cnt:m+rs.length=es.length+2:=by
  obtain⟨rs',p',c⟩:=g.part
  rw[← p'.same ro.part]
  exact c
 have hvl:vs.length=rs.length:=hrs.1
 refine⟨_,rfl,_,rfl,qt,xs,rfl,.inl (SqL.of (s13 _ _ hqt)),_,_,rfl,rfl,_,rfl,qr,vs,rfl,.inl (SqL.of hqr),_,_,rfl,rfl,rfl,_,rfl,?_⟩
 refine kT (congrArg V.int (by omega)) ?_
 have hp3:=s13 _ _ hp
 refine⟨_,rfl,_,rfl,p,C,dx,[],rfl,hp3,cw.cl,cw.n1,(by show 0<1000;decide),?_⟩
 have keep:∀{G:Hp}{o:HO}{q:Addr}{u:HO},q≠p->G q=some u->(upd G p o) q=some u:=fun n z=>by rw[au n];exact z
 refine⟨_,rfl,qt,xs,rfl,.inl (SqL.of (keep (pl hqt) (s13 _ _ hqt))),fun q1 hq1=>?_⟩
 have n1p:q1≠p:=fun z=>by rw[z,ae]at hq1;cases hq1
 have t4:=ai hq1 (.lst xs)
 refine⟨_,rfl,p,C,dx,_,rfl,t4 _ _ ae,cw.cl,cw.n2,?_,?_⟩
 ·have:=jb "many" (.int (m:Int)) ([]:List (Str×V));simp only[NT]at this;omega
 have t1:∀ q u,q≠p->H3 q=some u->(upd (upd (upd H3 p (.ins C dx (putF "many" (.int (m:Int)) []))) q1 (.lst xs)) p (.ins C dx (putF "ties" (.ref q1) (putF "many" (.int (m:Int)) [])))) q=some u:=fun q u n z=>keep n (t4 _ _ (keep n z))
 have q1a:(upd (upd (upd H3 p (.ins C dx (putF "many" (.int (m:Int)) []))) q1 (.lst xs)) p (.ins C dx (putF "ties" (.ref q1) (putF "many" (.int (m:Int)) [])))) q1=some (.lst xs):=keep n1p ae
 have pa:(upd (upd (upd H3 p (.ins C dx (putF "many" (.int (m:Int)) []))) q1 (.lst xs)) p (.ins C dx (putF "ties" (.ref q1) (putF "many" (.int (m:Int)) [])))) p=some (.ins C dx (putF "ties" (.ref q1) (putF "many" (.int (m:Int)) []))):=ae
 generalize upd (upd (upd H3 p (.ins C dx (putF "many" (.int (m:Int)) []))) q1 (.lst xs)) p (.ins C dx (putF "ties" (.ref q1) (putF "many" (.int (m:Int)) [])))=H4 at t1 q1a pa
 have lk:(putF "ties" (.ref q1) (putF "many" (.int (m:Int)) []):List (Str×V)).lookup ("ties" : Str)=some (.ref q1):=by rw[aC,if_pos rfl]
 have ln:(putF "ties" (.ref q1) (putF "many" (.int (m:Int)) []):List (Str×V)).length<=2:=by
  have a1:=jb "many" (.int (m:Int)) ([]:List (Str×V))
  have a2:=jb "ties" (.ref q1) (putF "many" (.int (m:Int)) ([]:List (Str×V)))
  simp only[NT]at a1
  omega
 have lkm:(putF "ties" (.ref q1) (putF "many" (.int (m:Int)) []):List (Str×V)).lookup ("many" : Str)=some (.int (m:Int)):=by rw[aC,if_neg (by decide +kernel),aC,if_pos rfl]
 generalize (putF "ties" (.ref q1) (putF "many" (.int (m:Int)) []):List (Str×V))=fs at pa lk ln lkm
 have hqh4:=t1 _ _ (pl hqh) (s13 _ _ hqh)
 have new4:∀{b:Addr},H4 b=none->H b=none:=fun{b} z=>by
  cases y:H b with
  |none=>rfl
  |some o =>
   by_cases n:b=p
   ·rw[n,pa]at z;cases z
   ·rw[t1 _ _ n (s13 _ _ y)]at z;cases z
 have new1:H q1=none:=by
  cases y:H q1 with
  |none=>rfl
  |some o=>rw[keep n1p (s13 _ _ y)]at hq1;cases hq1
 refine⟨_,rfl,qh,rfl,⟨_,SqL.of hqh4⟩,bI (K:=K) (xs:=zs) (fun i ys H5=>Same H4 H5/\bC (fun a=>H a≠none) H5 ys (ts.take i)) (MJ (aB (by omega))) ⟨fun _ _ e=>e,rfl,fun i l e=>by simp at e⟩ (fun i _ H5 _ z=>SqL.of (z.1 _ _ hqh4)) ?_ ?_⟩
 ·rintro i x ys H5 hx ⟨s5,rz⟩
  have hi:i<ts.length:=by rw[← hR.1];exact(Lx.mp hx).1
  obtain⟨l,hl⟩:∃ l,ts[i]?=some l:=⟨_,Lw hi⟩
  obtain⟨r,a1,a2⟩:=hR.2 i l hl
  rw[hx]at a1
  cases a1
  refine⟨_,rfl,r,_,rfl,.inl (SqL.of (s5 _ _ (t1 _ _ (pl a2) (s13 _ _ a2)))),fun g hg=>⟨s5.trans (ai hg _),?_⟩⟩
  rw[show ts.take (i+1)=ts.take i++[l] by rw[Mo,hl];rfl]
  exact(rz.mono fun b u _ z=>ai hg _ _ _ z).snoc (fun z=>z (new4 (none_of s5 hg))) ae
 rintro ys H5 _ ⟨s5,rz⟩ D hD
 rw[hR.1,My]at rz
 have hDp:D≠p:=fun z=>by rw[z,s5 _ _ pa]at hD;cases hD
 have s6:=s5.trans (ai hD (.lst ys))
 refine⟨_,rfl,p,C,dx,fs,rfl,s6 _ _ pa,cw.cl,cw.n3,by omega,?_⟩
 have ln1:=jb "turns" (.ref D) fs
 have lk1:(putF "turns" (.ref D) fs).lookup ("ties" : Str)=some (.ref q1):=by rw[aC,if_neg (by decide +kernel)];exact lk
 refine⟨_,rfl,_,rfl,p,C,dx,_,rfl,ae,cw.cl,cw.n4,by omega,?_⟩
 have ln2:=jb "rounds" (.ref qr) (putF "turns" (.ref D) fs)
 have lk2:(putF "rounds" (.ref qr) (putF "turns" (.ref D) fs)).lookup ("ties" : Str)=some (.ref q1):=by rw[aC,if_neg (by decide +kernel)];exact lk1
 have t7:∀ q u,q≠p->H3 q=some u->(upd (upd (upd H5 D (.lst ys)) p (.ins C dx (putF "turns" (.ref D) fs))) p (.ins C dx (putF "rounds" (.ref qr) (putF "turns" (.ref D) fs)))) q=some u:=fun q u n z=>keep n (keep n (s6 _ _ (t1 q u n z)))
 have q17:(upd (upd (upd H5 D (.lst ys)) p (.ins C dx (putF "turns" (.ref D) fs))) p (.ins C dx (putF "rounds" (.ref qr) (putF "turns" (.ref D) fs)))) q1=some (.lst xs):=keep n1p (keep n1p (s6 _ _ q1a))
 have p7:(upd (upd (upd H5 D (.lst ys)) p (.ins C dx (putF "turns" (.ref D) fs))) p (.ins C dx (putF "rounds" (.ref qr) (putF "turns" (.ref D) fs)))) p=some (.ins C dx (putF "rounds" (.ref qr) (putF "turns" (.ref D) fs))):=ae
 have D7:(upd (upd (upd H5 D (.lst ys)) p (.ins C dx (putF "turns" (.ref D) fs))) p (.ins C dx (putF "rounds" (.ref qr) (putF "turns" (.ref D) fs)))) D=some (.lst ys):=keep hDp (keep hDp ae)
 have u7:∀ q u,q≠p->H5 q=some u->(upd (upd (upd H5 D (.lst ys)) p (.ins C dx (putF "turns" (.ref D) fs))) p (.ins C dx (putF "rounds" (.ref qr) (putF "turns" (.ref D) fs)))) q=some u:=fun q u n z=>keep n (keep n (ai hD _ _ _ z))
 generalize upd (upd (upd H5 D (.lst ys)) p (.ins C dx (putF "turns" (.ref D) fs))) p (.ins C dx (putF "rounds" (.ref qr) (putF "turns" (.ref D) fs)))=H7 at t7 q17 p7 D7 u7
 have pl3:∀{q:Addr}{ys:List V},H3 q=some (.lst ys)->q≠p:=fun{q ys} h z=>by rw[z,hp3]at h;cases h
 have rs7:bM H7 vs rs:=⟨hrs.1,fun i l z=>by
  obtain⟨r,a1,_,a2⟩:=hrs.2 i l z
  exact⟨r,a1,t7 _ _ (pl3 a2) a2⟩⟩
 have T7:dH K H7 xs es:=(hT.mono s13).keep hp3 t7
 refine⟨_,rfl,_,rfl,qt,qr,xs,vs,es,_,rs,rfl,SqL.of (t7 _ _ (pl hqt) (s13 _ _ hqt)),T7,by omega,SqL.of (t7 _ _ (pl3 hqr) hqr),rs7,ro,fun q5 z5 H8 s8 nq5 hq5 hs5=>?_⟩
 refine⟨_,rfl,p,C,dx,_,rfl,s8 _ _ p7,cw.cl,cw.n5,by omega,?_⟩
 have n5p:q5≠p:=fun z=>by rw[z,s8 _ _ p7]at hq5;cases hq5
 have hqr7:=t7 _ _ (pl3 hqr) hqr
 have new7:∀{b:Addr},H7 b=none->H b=none:=fun{b} z=>by
  cases y:H b with
  |none=>rfl
  |some o =>
   by_cases n:b=p
   ·rw[n,p7]at z;cases z
   ·rw[t7 _ _ n (s13 _ _ y)]at z;cases z
 refine kk _ q1 rs _ ae ⟨?_,⟨D,ys,?_,fun z=>z (new4 (none_of s5 hD)),keep hDp (s8 _ _ D7),rz.1,fun i l z=>?_⟩,⟨qr,vs,?_,fun z=>z (none_of s12 nqr),keep (pl3 hqr) (s8 _ _ hqr7),hrs.1,fun i l z=>?_⟩,⟨q5,z5,?_,fun z=>z (new7 nq5),keep n5p hq5,hs5.1,fun i hi=>?_⟩,ro⟩ new1 (by rw[aC,if_neg (by decide +kernel)];exact lk2) (keep n1p (s8 _ _ q17)) fun q o z n=>keep n (s8 _ _ (t7 q o n (s13 _ _ z)))
 ·rw[aC,if_neg (by decide +kernel),aC,if_neg (by decide +kernel),aC,if_neg (by decide +kernel)]
  exact lkm
 ·rw[aC,if_neg (by decide +kernel),aC,if_neg (by decide +kernel),aC,if_pos rfl]
 ·obtain⟨r,a1,a0,a2⟩:=rz.2 i l z
  have nr:r≠p:=fun z=>by rw[z,s5 _ _ pa]at a2;cases a2
  exact⟨r,a1,a0,keep nr (s8 _ _ (u7 r _ nr a2))⟩
 ·rw[aC,if_neg (by decide +kernel),aC,if_pos rfl]
 ·obtain⟨r,a1,a0,a2⟩:=hrs.2 i l z
  exact⟨r,a1,fun y=>a0 (fun x=>y (none_of s12 x)),keep (pl3 a2) (s8 _ _ (t7 _ _ (pl3 a2) a2))⟩
 ·rw[aC,if_pos rfl]
 ·obtain⟨t,a,b,r,r',y1,y2,y3⟩:=hs5.2 i hi
  exact⟨t,a,b,r,r',y1,keep (fun z=>by rw[z,s8 _ _ p7]at y2;cases y2) y2,y3⟩
theorem kC.at{PL PS:Addr}{H:Hp}{xs:List V}{es:En}{ks:Kn}(t:kC PL PS H xs es ks)(kl:ks.length=es.length)(TL:CT K PL)(TS:CT K PS):dH K H xs es:=⟨t.1,fun i e z=>by
 have hi:=(Lx.mp z).1
 obtain⟨k,hk⟩:∃ k,ks[i]?=some k:=⟨_,Lw (by omega)⟩
 obtain⟨p,dx,a,b⟩:=t.2 i e k z hk
 refine⟨p,_,dx,k.2,a,b,?_⟩
 unfold cls
 split
 ·exact TS
 ·exact TL⟩
def WebF(S:Addr->Prop)(PL PS WC:Addr)(H:Hp)(p:Addr)(m:Nat)(es:En)(ts rs:List (List Nat))(ks:Kn):Prop:=∃ dx fs q1 xs,H p=some (.ins WC dx fs)/\WebG S H fs m es ts rs/\¬ S q1/\fs.lookup ("ties" : Str)=some (.ref q1)/\H q1=some (.lst xs)/\kC PL PS H xs es ks
def KpL(S:Addr->Prop)(H H':Hp):Prop:=∀ b o,H b=some o->((∀ xs,o≠.lst xs)∨¬ S b)->H' b=some o
theorem KpL.of{S:Addr->Prop}{H H':Hp}(s:Same H H'):KpL S H H':=fun b o e _=>s b o e
theorem WebF.mono{S S':Addr->Prop}{PL PS WC p:Addr}{H H':Hp}{m:Nat}{es:En}{ts rs:List (List Nat)}{ks:Kn}(h:WebF S PL PS WC H p m es ts rs ks)(s:KpL S H H')(i:∀ a,S' a->S a):WebF S' PL PS WC H' p m es ts rs ks:=by
 obtain⟨dx,fs,q1,xs,a,b,n,c,d,e⟩:=h
 refine⟨dx,fs,q1,xs,s _ _ a (.inl fun xs z=>by cases z),b.mono (fun b xs z q=>s _ _ q (.inr z)) (fun b xs q=>s _ _ q (.inl fun xs z=>by cases z)) i,fun y=>n (i _ y),c,s _ _ d (.inr n),e.1,fun j u k z hk=>?_⟩
 obtain⟨p,dx,a,b⟩:=e.2 j u k z hk
 exact⟨p,dx,a,s _ _ b (.inl fun xs z=>by cases z)⟩
end
end K8
namespace K8
open PySem L2
local macro_rules | `(tactic| walk_at "cc") => `(tactic| first | exact ⟨by decide, by decide⟩ | (show (0 : Int) < _; decide) | (show (0 : Int) < _; omega) | (show (0 : Int) ≤ _; omega) | exact ⟨by decide, by decide, by decide⟩ | exact ⟨by omega, by omega, by decide⟩ | exact Or.inl ⟨by decide, by decide⟩ | exact Or.inl ⟨by omega, by omega⟩)
local macro_rules | `(tactic| walk_at "rd") => `(tactic| repeat (first | refine ⟨_, rfl, ?_⟩ | refine ⟨_, _, rfl, rfl, ?_⟩ | refine ⟨rfl, ?_⟩ | (refine ⟨?cc, ?_⟩; (case cc => walk_at "cc"))))
def kS(k:Int):Str:=if k=1 then "push" else "pull"
def i3(H:Hp)(ws:List V)(ks:Kn):Prop:=ws.length=ks.length/\∀(i:Nat)(k:Int×Int),ks[i]?=some k->(k.1=0∨k.1=1)/\0<=k.2/\∃ p,ws[i]?=some (.ref p)/\H p=some (.tup [.str (kS k.1),.int k.2])
theorem i3.kp{H H':Hp}{ws:List V}{ks:Kn}(h:i3 H ws ks)(s:∀ b xs,H b=some (.tup xs)->H' b=some (.tup xs)):i3 H' ws ks:=⟨h.1,fun i k z=>by
 obtain⟨a,b,p,c,d⟩:=h.2 i k z
 exact⟨a,b,p,c,s _ _ d⟩⟩
theorem i3.mono{H H':Hp}{ws:List V}{ks:Kn}(h:i3 H ws ks)(s:Same H H'):i3 H' ws ks:=h.kp fun b xs e=>s _ _ e
theorem i3.snoc{H:Hp}{ws:List V}{ks:Kn}{k:Int×Int}{p:Addr}(t:i3 H ws ks)(h:H p=some (.tup [.str (kS k.1),.int k.2]))(h1:k.1=0∨k.1=1)(h2:0<=k.2):i3 H (ws++[.ref p]) (ks++[k]):=by
 refine⟨by rw[Ly,Ly,t.1];rfl,fun j x ej=>?_⟩
 by_cases hj:j<ks.length
 ·rw[LF hj]at ej
  obtain⟨u,v,p,a1,a2⟩:=t.2 j x ej
  exact⟨u,v,p,by rw[LF (by rw[t.1];exact hj)];exact a1,a2⟩
 ·have hj2:j=ks.length:=by
   have:=(Lx.mp ej).1
   rw[Ly,LU]at this
   omega
  subst hj2
  rw[LD (LG _),Md]at ej
  cases ej
  exact⟨h1,h2,p,by rw[← t.1,LD (LG _),Md];rfl,h⟩
def Kb(ks:Kn):Prop:=∀ k∈ks,k.2<=10^30
def KdP(a q:Addr)(n:Nat)(H:Hp)(i:Nat)(σ:St)(H2:Hp):Prop:=∃(v3 v4 v5:Option V)(ws:List V)(ks:Kn),σ = [some (.ref a),some (.int (n:Int)),some (.ref q),v3,v4,v5]/\Same H H2/\H2 q=some (.lst ws)/\i3 H2 ws ks/\Kb ks/\ks.length=i
def rKd(a:Addr)(n:Nat)(H:Hp):TS:=fun D σ H2=>∃(q:Addr)(i:Nat)(c:Int)(v5:Option V)(ws:List V)(ks:Kn),σ = [some (.ref a),some (.int (n:Int)),some (.ref q),some (.int (i:Int)),some (.int c),v5]/\Same H H2/\H2 q=some (.lst ws)/\i3 H2 ws ks/\Kb ks/\ks.length=i/\i<100/\H q=none/\∀ σ' H',KdP a q n H (i+1) σ' H'->D.nx σ' H'
def rKe(a:Addr)(n:Nat)(H:Hp):TS:=fun D σ H2=>∃(q:Addr)(i:Nat)(c st:Int)(ws:List V)(ks:Kn),σ = [some (.ref a),some (.int (n:Int)),some (.ref q),some (.int (i:Int)),some (.int c),some (.int st)]/\0<=st/\st<=10^30/\Same H H2/\H2 q=some (.lst ws)/\i3 H2 ws ks/\Kb ks/\ks.length=i/\i<100/\H q=none/\∀ σ' H',KdP a q n H (i+1) σ' H'->D.nx σ' H'
def so(K:LA):Sp:=fun vs H Q _=>∃(a:Addr)(n:Nat)(ns:List Int),vs = [.ref a,.int (n:Int)]/\SqL K H a (ns.map V.int)/\ns.length<=63/\n<=63/\∀(q:Addr)(ws:List V)(ks:Kn)(H':Hp),Same H H'->H q=none->H' q=some (.lst ws)->i3 H' ws ks->Kb ks->ks.length=n->Q (.ref q) H'
def yR(PL PS:Addr):Sp:=fun vs H Q _=>∃(pe pk:Addr)(ys ws:List V)(es:En)(ks:Kn),vs = [.ref pe,.ref pk]/\H pe=some (.lst ys)/\cP H ys es/\H pk=some (.lst ws)/\i3 H ws ks/\ks.length=es.length/\es.length<=63/\(∀ e∈es,e.1≠e.2) /\
 ∀(q:Addr)(xs:List V)(H':Hp),Same H H'->H q=none->H' q=some (.lst xs)->kC PL PS H' xs es ks->Q (.ref q) H'
section
variable{P:Program}{w:World}{K:LA}{mg:Str->Option Value}{base:Heap}
theorem bD:aI ["script","many","kinds","k","cell","strength"] ["script","many"] (aj cX):=⟨rfl,rfl,rfl,by decide +kernel,rfl,by decide +kernel,by decide +kernel⟩
theorem Ie{f:Addr}{fd:FuncData} (F:Fun K "_law_kinds" "_law_kinds" cX f fd) (T:Txt mg):FnOk P w K mg base CX0 1 f fd ["script","many"] (so K):=by
 refine F.ok bD (fun vs H Q E h=>?_) (fun cdv A outer s H vs Q E hr h=>?_)
 ·obtain⟨a,n,ns,rfl,_⟩:=h
  rfl
 obtain⟨a,n,ns,rfl,hS,h63,n63,kk⟩:=h
 refine⟨_,(af (ay (i:=2) bD.nd rfl (Or.inl rfl) (bu ag))
   (af (bO PassesOwn.never rfl (ba rfl T.n_range (aa (pv 1) ag)) (aU (i:=3) bD.nd rfl (Or.inl rfl)) (af (ay (i:=4) bD.nd rfl (Or.inl rfl) (pv 3))
   (af (bt (av zP (pv 3) (ar aq (by rfl) T.n_len aQ (aa (pv 0) ag)) (aK _)) (ao (ay (i:=4) bD.nd rfl (Or.inl rfl) (aG aA (pv 0) (pv 3) (fun _ _=>rfl)))) aN)
   (sV (t2:=rKd a n H) (af (ay (i:=5) bD.nd rfl (Or.inl rfl) (aF bV (aF c5 (aF dD (pv 4) ak) ak) (aF bB (aF Fp ak ak) ak)))
   (af (bt (av jw (aF bV (pv 4) ak) ak (aK _)) (ao (ay (i:=5) bD.nd rfl (Or.inl rfl) (aF Fp ak ak))) aN)
   (af (bt (av jw (aF bV (pv 4) ak) ak (aK _)) (ao (ay (i:=5) bD.nd rfl (Or.inl rfl) ak)) aN)
   (sV (t2:=rKe a n H) (ao (a8 (cg LY Mi Mh bb (pv 2) (aa (gU (aa (aG aA (bu (aa bg (aa bg ag))) (aF bV (aF c5 (pv 4) ak) ak) (fun _ _=>rfl)) (aa (pv 5) ag))) ag)))) (fun D0 S0 H0 h0=>?reste))))) (fun D0 S0 H0 h0=>?restd)))))
   (ao (aL (pv 2))))),?_⟩
 case restd =>
  obtain⟨q,i,c,v5,ws,ks,rfl,s2,hq2,tk,kb,kl,i100,nq,nx⟩:=h0
  have w1:c*48271/7%((10:Int)^(30:Int).toNat+1)<=10^30:=by
   have:=M6 (c*48271/7) (show(0:Int)<(10:Int)^(30:Int).toNat+1 by decide)
   have e:(10:Int)^(30:Int).toNat=10^30:=by decide
   omega +splitDisjunctions
  have w0:=Nm (c*48271/7) (show(10:Int)^(30:Int).toNat+1≠0 by decide)
  refine⟨_,rfl,_,_,rfl,rfl,.inr ⟨by decide,by decide⟩,_,_,rfl,rfl,⟨by decide,by decide⟩,_,_,rfl,rfl,⟨by decide,by decide,by decide⟩,_,_,rfl,rfl,_,_,rfl,rfl,(by show(0:Int)<10^(30:Int).toNat+1;decide),?_⟩
  refine⟨_,rfl,_,_,rfl,rfl,(by show(0:Int)<11;decide),rfl,_,rfl,ite2 (fun c1=>?_) (fun c1=>?_)⟩
  ·refine⟨_,_,rfl,rfl,⟨by decide,by decide,by decide⟩,?_⟩
   refine⟨_,rfl,_,_,rfl,rfl,(by show(0:Int)<11;decide),rfl,_,rfl,ite2 (fun c2=>?_) (fun c2=>?_)⟩
   ·exact⟨q,i,c,0,ws,ks,rfl,by decide,by decide,s2,hq2,tk,kb,kl,i100,nq,nx⟩
   ·exact⟨q,i,c,_,ws,ks,rfl,by decide,by decide,s2,hq2,tk,kb,kl,i100,nq,nx⟩
  ·refine⟨_,rfl,_,_,rfl,rfl,(by show(0:Int)<11;decide),rfl,_,rfl,ite2 (fun c2=>?_) (fun c2=>?_)⟩
   ·exact⟨q,i,c,0,ws,ks,rfl,by decide,by decide,s2,hq2,tk,kb,kl,i100,nq,nx⟩
   ·exact⟨q,i,c,_,ws,ks,rfl,w0,w1,s2,hq2,tk,kb,kl,i100,nq,nx⟩
 case reste =>
  obtain⟨q,i,c,st,ws,ks,rfl,st0,st1,s2,hq2,tk,kb,kl,i100,nq,nx⟩:=h0
  refine⟨_,rfl,.inl ⟨rfl,_,SqL.of hq2⟩,(by show 2<=sizeLine;decide),fun l2 hl2=>?_⟩
  have s3:=ai hl2 (.lst [.str "pull",.str "push"])
  obtain⟨b,hb,b01⟩:∃ b:Nat,c/5%2=(b:Int)/\(b=0∨b=1):=⟨(c/5%2).toNat,by omega +splitDisjunctions,by omega +splitDisjunctions⟩
  have at':atI [V.str "pull",V.str "push"] (c/5%2)=some (.str (kS (b:Int))):=by
   rw[hb]
   rcases b01 with rfl | rfl<;>rfl
  refine⟨_,rfl,_,_,rfl,rfl,⟨by decide,by decide⟩,_,_,rfl,rfl,(by show(0:Int)<2;decide),l2,_,_,_,rfl,rfl,SqL.of ae,at',_,rfl,(by show 2<=sizeLine;decide),fun t ht=>?_⟩
  have s4:=s3.trans (ai ht (.tup [.str (kS (b:Int)),.int st]))
  refine⟨q,ws,_,rfl,rfl,s4 _ _ hq2,aB (by rw[tk.1];omega +splitDisjunctions),?_⟩
  refine nx _ _ ⟨_,_,_,ws++[.ref t],ks++[((b:Int),st)],rfl,a9 (s2.trans s4) nq _,ae,?_,?_,by rw[Ly,kl];rfl⟩
  ·have tq:t≠q:=fun z=>by rw[z,s3 _ _ hq2]at ht;cases ht
   refine((tk.mono s4).kp fun b xs e=>?_).snoc (by rw[au tq];exact ae) (by omega +splitDisjunctions) st0
   rw[au (fun z=>by rw[z,s4 _ _ hq2]at e;cases e)]
   exact e
  ·intro k hk
   rcases LJ.mp hk with hk | hk
   ·exact kb k hk
   ·rw[Mx.mp hk]
    exact st1
 refine⟨(by show 0<=sizeLine;decide),fun q hq=>?_⟩
 have s1:=ai hq (.lst [])
 refine⟨_,rfl,_,rfl,by omega +splitDisjunctions,by omega +splitDisjunctions,br (n:=n) (KdP a q n H) ⟨_,_,_,[],[],rfl,s1,ae,⟨rfl,fun i k e=>by simp at e⟩,fun k hk=>by simp at hk,rfl⟩ ?_ ?_⟩
 ·rintro i σ H2 hi ⟨v3,v4,v5,ws,ks,rfl,s2,hq2,tk,kb,kl⟩
  have e0:(0:Int)+(i:Int)=(i:Int):=MZ _
  rw[e0]
  have hS2:=s2.seq hS
  refine⟨_,rfl,_,rfl,_,rfl,a,_,rfl,.inl hS2,_,_,rfl,rfl,_,rfl,ite2 (fun c=>?_) (fun c=>?_)⟩
  ·have c':i<(ns.map V.int).length:=by have c:=of_decide_eq_true c;have c:(i:Int)<((ns.map V.int).length:Int):=c;omega +splitDisjunctions
   rw[LB]at c'
   refine⟨_,rfl,_,rfl,a,_,_,_,rfl,rfl,hS2,aD (show(ns.map V.int)[i]?=some (.int ns[i]) by rw[LL,Lw c'];rfl),?_⟩
   exact⟨q,i,_,_,ws,ks,rfl,s2,hq2,tk,kb,kl,by omega +splitDisjunctions,hq,fun σ' H' z=>z⟩
  ·exact⟨q,i,_,_,ws,ks,rfl,s2,hq2,tk,kb,kl,by omega +splitDisjunctions,hq,fun σ' H' z=>z⟩
 ·rintro σ H2 ⟨v3,v4,v5,ws,ks,rfl,s2,hq2,tk,kb,kl⟩
  exact⟨_,rfl,kk q ws ks H2 s2 hq hq2 tk kb kl⟩
theorem jI:aI ["ends","kinds","ties","k"] ["ends","kinds"] (aj dX):=⟨rfl,rfl,rfl,by decide +kernel,rfl,by decide +kernel,by decide +kernel⟩
theorem Km{f fI PL PS:Addr}{fd fdI:FuncData} (F:Fun K "_law_ties" "_law_ties" dX f fd) (T:Txt mg) (M_Pull:Mak P w K mg base 1 "Pull" ["self","one","two","strength"] (mZ K) PL fI fdI) (M_Push:Mak P w K mg base 1 "Push" ["self","one","two","strength"] (mZ K) PS fI fdI) (TL:CT K PL) (TS:CT K PS):FnOk P w K mg base CX0 3 f fd ["ends","kinds"] (yR PL PS):=by
 refine F.ok jI (fun vs H Q E h=>?_) (fun cdv A outer s H vs Q E hr h=>?_)
 ·obtain⟨pe,pk,ys,ws,es,ks,rfl,_⟩:=h
  rfl
 obtain⟨pe,pk,ys,ws,es,ks,rfl,hpe,hE,hpk,tk,kl,few,nes,kk⟩:=h
 have hwl:ws.length=es.length:=by rw[tk.1,kl]
 have hyl:ys.length=es.length:=hE.1
 refine⟨_,(af (ay (i:=2) jI.nd rfl (Or.inl rfl) (bu ag))
   (af (bO PassesOwn.never rfl (ba rfl T.n_range (aa (ar aq (by rfl) T.n_len aQ (aa (pv 0) ag)) ag)) (aU (i:=3) jI.nd rfl (Or.inl rfl)) (ao (bt (av jw (aG aX (aG aA (pv 1) (pv 3) (fun _ _=>rfl)) ak (fun _ _=>rfl)) bg (aK _)) (ao (a8 (cg LY Mi Mh bb (pv 2) (aa (lN M_Push.mkc M_Push.ok (hr.mono (by decide)) rfl M_Push.mg M_Push.bn .nil aR (aa (aG aX (aG aA (pv 0) (pv 3) (fun _ _=>rfl)) ak (fun _ _=>rfl)) (aa (aG aX (aG aA (pv 0) (pv 3) (fun _ _=>rfl)) ak (fun _ _=>rfl)) (aa (aG aX (aG aA (pv 1) (pv 3) (fun _ _=>rfl)) ak (fun _ _=>rfl)) ag)))) ag)))) (ao (a8 (cg LY Mi Mh bb (pv 2) (aa (lN M_Pull.mkc M_Pull.ok (hr.mono (by decide)) rfl M_Pull.mg M_Pull.bn .nil aR (aa (aG aX (aG aA (pv 0) (pv 3) (fun _ _=>rfl)) ak (fun _ _=>rfl)) (aa (aG aX (aG aA (pv 0) (pv 3) (fun _ _=>rfl)) ak (fun _ _=>rfl)) (aa (aG aX (aG aA (pv 1) (pv 3) (fun _ _=>rfl)) ak (fun _ _=>rfl)) ag)))) ag)))))))
   (ao (aL (pv 2))))),?_⟩
 refine⟨(by show 0<=sizeLine;decide),fun q hq=>?_⟩
 have s1:=ai hq (.lst [])
 refine⟨_,rfl,pe,ys,rfl,.inl (SqL.of (s1 _ _ hpe)),_,rfl,by omega,by omega,br (n:=(ys.length:Int).toNat) (fun i σ H2=>∃ v3 us,σ = [some (.ref pe),some (.ref pk),some (.ref q),v3]/\Same H H2/\H2 q=some (.lst us)/\kC PL PS H2 us (es.take i) ks) ⟨_,[],rfl,s1,ae,rfl,fun i e k z=>by simp at z⟩ ?_ ?_⟩
 ·rintro i σ H2 hi ⟨v3,us,rfl,s2,hq2,tt⟩
  rw[L7,hyl]at hi
  have e0:(0:Int)+(i:Int)=(i:Int):=MZ _
  rw[e0]
  obtain⟨e,he⟩:∃ e,es[i]?=some e:=⟨_,Lw hi⟩
  obtain⟨k,hk⟩:∃ k,ks[i]?=some k:=⟨_,Lw (by omega)⟩
  have ne:=nes e (Lz he)
  obtain⟨p,x1,x2⟩:=(hE.mono s2).2 i e he
  obtain⟨k1,k2,pk',y1,y2⟩:=(tk.mono s2).2 i k hk
  have ul:us.length=i:=by rw[tt.1,LZ];omega
  refine⟨_,rfl,_,rfl,pk,ws,_,_,rfl,rfl,SqL.of (s2 _ _ hpk),aD y1,pk',_,0,_,rfl,rfl,SqT.of y2,at0,rfl,_,rfl,?_⟩
  have fin:∀(x dx:Addr)(H':Hp),Same H2 H'->H' x=some (.ins (cls PL PS (decide (k.1=1))) dx (tf (e.1:Int) (e.2:Int) k.2))->∃ v3 zs,([some (.ref pe),some (.ref pk),some (.ref q),some (.int (i:Int))]:St) = [some (.ref pe),some (.ref pk),some (.ref q),v3]/\Same H (upd H' q (.lst (us++[.ref x])))/\(upd H' q (.lst (us++[.ref x]))) q=some (.lst zs)/\kC PL PS (upd H' q (.lst (us++[.ref x]))) zs (es.take (i+1)) ks:=fun x dx H' s4 h1=>by
   refine⟨_,_,rfl,a9 (s2.trans s4) hq _,ae,by rw[Ly,ul,LZ];simp;omega,fun j e' k' hj hk'=>?_⟩
   have hqn:∀{b:Addr}{C dx:Addr}{fs:List (Str×V)},H' b=some (.ins C dx fs)->b≠q:=fun z y=>by rw[y,s4 _ _ hq2]at z;cases z
   rw[M5]at hj
   by_cases z:j<i
   ·rw[if_pos (by omega)]at hj
    obtain⟨p',dx',a1,a2⟩:=(tt.mono s4).2 j e' k' (by rw[M5,if_pos z];exact hj) hk'
    exact⟨p',dx',by rw[LF (by omega)];exact a1,by rw[au (hqn a2)];exact a2⟩
   ·by_cases z2:j=i
    ·subst z2
     rw[if_pos (by omega),he]at hj
     cases hj
     rw[hk]at hk'
     cases hk'
     exact⟨x,dx,by rw[← ul,LD (LG _),Md];rfl,by rw[au (hqn h1)];exact h1⟩
    ·rw[if_neg (by omega)]at hj
     cases hj
  have ks1:∀ c:Int,(kS c=("push" : Str))->c=1:=fun c h=>by
   unfold kS at h
   split at h
   ·assumption
   ·exact absurd h (by decide +kernel)
  refine ite2 (fun c=>?_) (fun c=>?_)
  ·have c':k.1=1:=ks1 _ (V.str.inj (of_decide_eq_true c))
   refine⟨_,rfl,.inl ⟨rfl,_,SqL.of hq2⟩,_,rfl,_,rfl,pe,ys,_,_,rfl,rfl,SqL.of (s2 _ _ hpe),aD x1,p,_,0,_,rfl,rfl,SqT.of x2,at0,_,rfl,_,rfl,pe,ys,_,_,rfl,rfl,SqL.of (s2 _ _ hpe),aD x1,p,_,1,_,rfl,rfl,SqT.of x2,at1,_,rfl,_,rfl,pk,ws,_,_,rfl,rfl,SqL.of (s2 _ _ hpk),aD y1,pk',_,1,_,rfl,rfl,SqT.of y2,at1,?_⟩
   intro x dx nx ndx nex
   refine⟨x,PS,dx,_,_,_,rfl,ae,TS,by omega,by omega,by omega,k2,fun H' h1 h2=>?_⟩
   have s4:Same H2 H':=fun b o z=>h2 b o (by rw[au (aJ z nx),au (aJ z ndx)];exact z) (aJ z nx)
   refine⟨rfl,q,us,_,rfl,rfl,s4 _ _ hq2,aB (by omega),fin x dx H' s4 ?_⟩
   rw[decide_eq_true c']
   exact h1
  ·have c':¬ k.1=1:=fun z=>c (decide_eq_true (by rw[z];rfl))
   refine⟨_,rfl,.inl ⟨rfl,_,SqL.of hq2⟩,_,rfl,_,rfl,pe,ys,_,_,rfl,rfl,SqL.of (s2 _ _ hpe),aD x1,p,_,0,_,rfl,rfl,SqT.of x2,at0,_,rfl,_,rfl,pe,ys,_,_,rfl,rfl,SqL.of (s2 _ _ hpe),aD x1,p,_,1,_,rfl,rfl,SqT.of x2,at1,_,rfl,_,rfl,pk,ws,_,_,rfl,rfl,SqL.of (s2 _ _ hpk),aD y1,pk',_,1,_,rfl,rfl,SqT.of y2,at1,?_⟩
   intro x dx nx ndx nex
   refine⟨x,PL,dx,_,_,_,rfl,ae,TL,by omega,by omega,by omega,k2,fun H' h1 h2=>?_⟩
   have s4:Same H2 H':=fun b o z=>h2 b o (by rw[au (aJ z nx),au (aJ z ndx)];exact z) (aJ z nx)
   refine⟨rfl,q,us,_,rfl,rfl,s4 _ _ hq2,aB (by omega),fin x dx H' s4 ?_⟩
   rw[decide_eq_false c']
   exact h1
 ·rintro σ H2 ⟨v3,us,rfl,s2,hq2,tt⟩
  rw[L7,hyl,My]at tt
  exact⟨_,rfl,kk q us H2 s2 hq hq2 tt⟩
end
end K8
namespace K8
open PySem L2
theorem xY{f:Nat->Nat}:∀{l1 l2:List Nat}{x y1 y2:Nat},fB f x l1 y1->fB f x l2 y2->l1.length=l2.length->l1=l2
 |[],[],_,_,_,_,_,_=>rfl
 |[],_::_,_,_,_,_,_,e=>by cases e
 |_::_,[],_,_,_,_,_,e=>by cases e
 |a::l1,b::l2,_,_,_,h1,h2,e=>by
  obtain⟨a1,a2⟩:=h1
  obtain⟨b1,b2⟩:=h2
  have ab:a=b:=a1.symm.trans b1
  subst ab
  rw[xY a2 b2 (OW e)]
theorem Cg{α:Type} [DecidableEq α]:∀{l ps:List α},l.Nodup->(∀ x∈l,x∈ps)->l.length<=ps.length
 |[],_,_,_=>MQ _
 |x::l,ps,h,k=>by
  obtain⟨h1,h2⟩:=LN.mp h
  have m:=k x (LI ..)
  have:=Cg (l:=l) (ps:=ps.erase x) h2 fun y hy=>(List.mem_erase_of_ne (fun(e:y=x)=>h1 (by rw[← e];exact hy))).mpr (k y (LK _ hy))
  rw[Pm m]at this
  have p:=Nb m
  rw[Mb]
  omega
structure yC(f:Nat->Nat)(N:Nat)(rs:List (List Nat)):Prop where
 cr:∀ r∈rs,CR f N r
 hd:∀ r∈rs,∀ d∈r,r.headD 0<=d
 up:rs.Pairwise (fun a b=>a.headD 0<b.headD 0)
 all:∀ d,d<N->∃ r∈rs,d∈r
theorem CR.head{f:Nat->Nat}{N:Nat}{r:List Nat}(h:CR f N r):r.headD 0∈r:=by
 obtain⟨x,l,rfl,_⟩:=h.ch
 exact LI ..
theorem CR.eq{f:Nat->Nat}{N:Nat}{r r':List Nat}(h:CR f N r)(h':CR f N r')(e:r.headD 0=r'.headD 0):r=r':=by
 have s1:=h.same h' h.head (by rw[e];exact h'.head)
 have s2:=h'.same h h'.head (by rw[← e];exact h.head)
 have el:r.length=r'.length:=O4 (Cg h.nd s1) (Cg h'.nd s2)
 obtain⟨x,l,rfl,c⟩:=h.ch
 obtain⟨y,k,rfl,c'⟩:=h'.ch
 have xy:x=y:=e
 subst xy
 rw[xY c c' (OW el)]
theorem yC.sub{f:Nat->Nat}{N:Nat}{L M:List (List Nat)}(a:yC f N L)(b:yC f N M):∀ r∈L,r∈M:=fun r hr=>by
 have c:=a.cr r hr
 obtain⟨r2,m2,d2⟩:=b.all _ (c.lt _ c.head)
 have c2:=b.cr r2 m2
 have e:r.headD 0=r2.headD 0:=O4 (a.hd r hr _ (c2.same c d2 c.head _ c2.head)) (b.hd r2 m2 _ d2)
 rw[c.eq c2 e]
 exact m2
theorem Jb:∀{L M:List (List Nat)},L.Pairwise (fun a b=>a.headD 0<b.headD 0)->M.Pairwise (fun a b=>a.headD 0<b.headD 0)->(∀ r,r∈L↔r∈M)->L=M
 |[],[],_,_,_=>rfl
 |[],y::M,_,_,h=>absurd ((h y).mpr (LI ..)) (by simp)
 |x::L,[],_,_,h=>absurd ((h x).mp (LI ..)) (by simp)
 |x::L,y::M,a,b,h=>by
  obtain⟨a1,a2⟩:=NQ.mp a
  obtain⟨b1,b2⟩:=NQ.mp b
  have xy:x=y:=by
   rcases LC.mp ((h x).mp (LI ..))with e | m1
   ·exact e
   ·rcases LC.mp ((h y).mpr (LI ..))with e | m2
    ·exact e.symm
    ·have:=b1 x m1
     have:=a1 y m2
     omega
  subst xy
  rw[Jb a2 b2 fun r=>?_]
  constructor
  ·intro m
   rcases LC.mp ((h r).mp (LK _ m))with e | m'
   ·have:=a1 r m
    rw[e]at this
    omega
   ·exact m'
  ·intro m
   rcases LC.mp ((h r).mpr (LK _ m))with e | m'
   ·have:=b1 r m
    rw[e]at this
    omega
   ·exact m'
theorem yC.eq{f:Nat->Nat}{N:Nat}{L M:List (List Nat)}(a:yC f N L)(b:yC f N M):L=M:=Jb a.up b.up fun r=>⟨a.sub b r,b.sub a r⟩
theorem dj.told{f:Nat->Nat}{N:Nat}{rs:List (List Nat)}(h:dj f N N rs):yC f N rs:=by
 have hd0:∀ r∈rs,r[0]?=some (r.headD 0):=fun r hr=>by
  have:=(h.ring r hr).ne
  cases r with
  |nil=>cases this
  |cons x l=>rfl
 refine⟨fun r hr=>(h.ring r hr).cr,fun r hr d hd=>(h.hdl r hr _ (hd0 r hr)).2 d hd,?_,fun d hd=>?_⟩
 ·rw[NI]
  intro i j hi hj hij
  exact h.asc i j rs[i] rs[j] _ _ hij (Lw hi) (Lw hj) (hd0 _ (Mm hi)) (hd0 _ (Mm hj))
 ·obtain⟨r,h1,h2⟩:=Mq.mp (h.all d hd)
  exact⟨r,h1,h2⟩
def lA(r t:List Nat):Prop:=∃ A B,r=A++B/\B≠[]/\t=B++A/\∀ x∈r,t.headD 0<=x
theorem lA.mem{r t:List Nat}(h:lA r t):∀ x,x∈t↔x∈r:=fun x=>by
 obtain⟨A,B,rfl,_,rfl,_⟩:=h
 rw[LJ,LJ]
 exact Or.comm
theorem lA.head{r t:List Nat}(h:lA r t):t.headD 0∈t:=by
 obtain⟨A,B,rfl,nb,rfl,_⟩:=h
 cases B with
 |nil=>exact absurd rfl nb
 |cons x l=>exact LI ..
theorem Cu{rg:List (List Nat)}(nd:rg.flatten.Nodup){us:List (List Nat)}(hl:us.length=rg.length)(ht:∀ (i:Nat) (r t:List Nat),rg[i]?=some r->us[i]?=some t->lA r t):(us.map fun r=>r.headD 0).Nodup:=by
 rw[List.Nodup,NC,NI]
 intro i j hi hj hij e
 have ti:=ht i rg[i] us[i] (Lw (by omega)) (Lw hi)
 have tj:=ht j rg[j] us[j] (Lw (by omega)) (Lw hj)
 have m1:=(ti.mem _).mp ti.head
 have m2:=(tj.mem _).mp tj.head
 rw[← e]at m2
 have:=AR nd (Lw (show i<rg.length by omega)) (Lw (show j<rg.length by omega)) m1 m2
 omega
theorem IG{f:Nat->Nat}{N:Nat}{rg us due:List (List Nat)}(p:Part f N rg)(hl:us.length=rg.length)(ht:∀ (i:Nat) (r t:List Nat),rg[i]?=some r->us[i]?=some t->lA r t)(pm:due.Perm us)(pw:due.Pairwise (fun a b=>a.headD 0<=b.headD 0)):yC f N due:=by
 have back:∀ t∈us,∃ r∈rg,lA r t:=fun t h=>by
  obtain⟨i,hi,rfl⟩:=MY h
  exact⟨rg[i],Mm _,ht i _ _ (Lw (by omega)) (Lw hi)⟩
 have nd:=Cu p.nd hl ht
 have nd2:(due.map fun r=>r.headD 0).Nodup:=(pm.map _).nodup_iff.mpr nd
 refine⟨fun r hr=>?_,fun r hr d hd=>?_,?_,fun d hd=>?_⟩
 ·obtain⟨r0,m,A,B,e,nb,e2,_⟩:=back r (pm.mem_iff.mp hr)
  have c:=p.cr r0 m
  rw[e]at c
  rw[e2]
  exact c.turn nb
 ·obtain⟨r0,m,t⟩:=back r (pm.mem_iff.mp hr)
  have:=(t.mem d).mp hd
  obtain⟨A,B,_,_,_,h⟩:=t
  exact h d this
 ·have h2:due.Pairwise (fun a b=>a.headD 0≠b.headD 0):=NC.mp nd2
  exact(pw.and h2).imp fun⟨a,b⟩=>by omega
 ·obtain⟨r0,m,hd0⟩:=Mq.mp (p.all d hd)
  obtain⟨i,hi,rfl⟩:=MY m
  have ti:=ht i rg[i] us[i] (Lw hi) (Lw (by omega))
  exact⟨us[i],pm.mem_iff.mpr (Mm _),(ti.mem d).mpr hd0⟩
end K8
namespace K8
open PySem L2
local macro_rules | `(tactic| walk_at "cc") => `(tactic| first | exact ⟨by decide, by decide⟩ | (show (0 : Int) < _; decide) | (show (0 : Int) < _; omega) | (show (0 : Int) ≤ _; omega) | exact ⟨by decide, by decide, by decide⟩ | exact ⟨by omega, by omega, by decide⟩ | exact Or.inl ⟨by decide, by decide⟩ | exact Or.inl ⟨by omega, by omega⟩)
local macro_rules | `(tactic| walk_at "rd") => `(tactic| repeat (first | refine ⟨_, rfl, ?_⟩ | refine ⟨_, _, rfl, rfl, ?_⟩ | refine ⟨rfl, ?_⟩ | (refine ⟨?cc, ?_⟩; (case cc => walk_at "cc"))))
section
variable{P:Program}{w:World}{K:LA}{mg:Str->Option Value}{base:Heap}
theorem sO:aI ["found"] ["found"] (aj cx):=⟨rfl,rfl,rfl,by decide +kernel,rfl,by decide +kernel,by decide +kernel⟩
theorem FA{f:Addr}{fd:FuncData} (F:Fun K "_law_number" "_law_number" cx f fd) (T:Txt mg):FnOk P w K mg base CX0 1 f fd ["found"] spNum:=by
 refine F.ok sO (fun vs H Q E h=>?_) (fun cdv A outer s H vs Q E hr h=>?_)
 ·obtain⟨i,rfl,_⟩:=h
  rfl
 obtain⟨i,rfl,k⟩:=h
 refine⟨_,(ao (aL (Fl (ar cO (by rfl) T.n_isinstance a6 (aa (pv 0) (aa (gc (v:=.ty "int") rfl T.n_int JC rfl) ag))) (Fh (pe_not (ar cO (by rfl) T.n_isinstance a6 (aa (pv 0) (aa (gc (v:=.ty "bool") rfl T.n_bool Ll rfl) ag)))))))),?_⟩
 refine⟨_,rfl,_,_,_,_,_,rfl,TyOf.int i,Or.inl ⟨_,rfl,rfl⟩,kit_ii K,_,rfl,iteT ?_⟩
 exact⟨_,rfl,_,_,_,_,_,rfl,TyOf.int i,Or.inl ⟨_,rfl,rfl⟩,kit_ib K,_,rfl,k⟩
end
def yU:Sp:=fun vs H Q _=>∃(a b:Addr)(xs zs:List V)(l:List (List Nat)),vs = [.ref a,.ref b]/\H a=some (.lst xs)/\bM H xs l/\H b=some (.lst zs)/\bM H zs l/\l.length<=200/\(∀ r∈l,r.length<=200)/\Q (.bl true) H
def rY:Sp:=fun vs H Q _=>∃(a:Addr)(r:List Nat),vs = [.ref a]/\H a=some (.lst (r.map iV))/\r≠[]/\r.length<=200/\(∀ x∈r,x<1000)/\∀(q:Addr)(t:List Nat)(H':Hp),Same H H'->H q=none->H' q=some (.lst (t.map iV))->lA r t->Q (.ref q) H'
def r8:Sp:=fun vs H Q _=>∃(a b:Addr)(xs zs:List V)(n:Nat)(rs:List (List Nat)),vs = [.ref a,.ref b]/\H a=some (.lst xs)/\kD H xs n rs/\H b=some (.lst zs)/\bM H zs rs/\rs.flatten.Nodup/\rs.flatten.length=2*n/\rs.length<=300/\n<=63/\∀ H',Same H H'->Q (.bl true) H'
structure IsC(K:LA)(PL PS:Addr):Prop where
 hL:Mf K (.ref PL) "__class__" = some (some (.builtin "object.__class__"))
 hS:Mf K (.ref PS) "__class__" = some (some (.builtin "object.__class__"))
 hn:OR K (.builtin "object.__class__") "__get__" = some (some (.builtin "getset_descriptor.__get__"))
 htk:O0 K (.builtin "object.__class__")=some true
 mL:Ob K PL (.type "object")=some true
 mS:Ob K PS (.type "object")=some true
 ll:MK K (.ref PL) (.ref PL)=some true
 ls:MK K (.ref PL) (.ref PS)=some false
 sl:MK K (.ref PS) (.ref PL)=some false
 ss:MK K (.ref PS) (.ref PS)=some true
structure TxtI(mg:Str->Option Value)(PL PS:Addr):Prop extends Txt mg where
 g_Pull:mg "Pull" = some (.ref PL)
 g_Push:mg "Push" = some (.ref PS)
def yT(PL PS:Addr):Sp:=fun vs H Q _=>∃(a b c:Addr)(xs ys ws:List V)(es:En)(ks:Kn),vs = [.ref a,.ref b,.ref c]/\H a=some (.lst xs)/\kC PL PS H xs es ks/\H b=some (.lst ys)/\cP H ys es/\H c=some (.lst ws)/\i3 H ws ks/\ks.length=es.length/\es.length<=63/\∀ H',Same H H'->Q (.bl true) H'
theorem Ca{K:LA}{H:Hp}{p:Addr}{a b:Int}(h:H p=some (.tup [.int a,.int b])):RdD K H (.ref p) (.tuple [.int a,.int b]):=by
 refine RdD.tup (SqT.of h) rfl fun j x d' q1 q2=>?_
 match j with
 |0=>cases q1;cases q2;exact .int _
 |1=>cases q1;cases q2;exact .int _
 |j+2=>cases q1
theorem wo(a b:Int):SeqAt.shaped (.tuple [.int a,.int b])=true:=by
 simp[SeqAt.shaped,PyData.canLay0,PyData.canLayAll0,PyData.depth,PyData.depthAll]
section
variable{P:Program}{w:World}{K:LA}{mg:Str->Option Value}{base:Heap}
theorem f7:aI ["found","due","k","row","i"] ["found","due"] (aj dZ):=⟨rfl,rfl,rfl,by decide +kernel,rfl,by decide +kernel,by decide +kernel⟩
theorem Kp{f fn:Addr}{fd dn:FuncData} (F:Fun K "_law_rows" "_law_rows" dZ f fd) (T:Txt mg) (G_law_number:Cal P w K mg base 1 "_law_number" ["found"] spNum fn dn):FnOk P w K mg base CX0 2 f fd ["found","due"] yU:=by
 refine F.ok f7 (fun vs H Q E h=>?_) (fun cdv A outer s H vs Q E hr h=>?_)
 ·obtain⟨a,b,xs,zs,l,rfl,_⟩:=h
  rfl
 obtain⟨a,b,xs,zs,l,rfl,ha,hX,hb,hZ,l200,r200,kk⟩:=h
 have xl:=hX.1
 have zl:=hZ.1
 refine⟨_,(af (bt (PW.pt (cG (dg (df (ar cO (by rfl) T.n_isinstance a6 (aa (pv 0) (aa (gc (v:=.ty "list") rfl T.n_list gQ rfl) ag))))) (bN (av dr (ar aq (by rfl) T.n_len aQ (aa (pv 0) ag)) (ar aq (by rfl) T.n_len aQ (aa (pv 1) ag)) (aK _))))) (ao (aL gd)) aN)
   (af (bO PassesOwn.never rfl (ba rfl T.n_range (aa (ar aq (by rfl) T.n_len aQ (aa (pv 1) ag)) ag)) (aU (i:=2) f7.nd rfl (Or.inl rfl)) (af (ay (i:=3) f7.nd rfl (Or.inl rfl) (aG aA (pv 0) (pv 2) (fun _ _=>rfl)))
   (af (bt (PW.pt (cG (dg (df (ar cO (by rfl) T.n_isinstance a6 (aa (pv 3) (aa (gc (v:=.ty "list") rfl T.n_list gQ rfl) ag))))) (bN (av dr (ar aq (by rfl) T.n_len aQ (aa (pv 3) ag)) (ar aq (by rfl) T.n_len aQ (aa (aG aA (pv 1) (pv 2) (fun _ _=>rfl)) ag)) (aK _))))) (ao (aL gd)) aN)
   (ao (bO PassesOwn.never rfl (ba rfl T.n_range (aa (ar aq (by rfl) T.n_len aQ (aa (pv 3) ag)) ag)) (aU (i:=4) f7.nd rfl (Or.inl rfl)) (ao (bt (PW.pt (cG (dg (df (ax G_law_number.ok (hr.mono (by decide)) rfl G_law_number.mg G_law_number.kp G_law_number.bn .nil aR (aa (aG aA (pv 3) (pv 4) (fun _ _=>rfl)) ag)))) (bN (av dr (aG aA (pv 3) (pv 4) (fun _ _=>rfl)) (aG aA (aG aA (pv 1) (pv 2) (fun _ _=>rfl)) (pv 4) (fun _ _=>rfl)) (aK _))))) (ao (aL gd)) aN)))))))
   (ao (aL gd)))),?_⟩
 refine⟨_,rfl,_,_,_,_,_,rfl,TyOf.lst ha,Or.inl ⟨_,rfl,rfl⟩,Cp K,_,rfl,iteF ?_⟩
 refine⟨_,rfl,a,xs,rfl,.inl (SqL.of ha),_,rfl,b,zs,rfl,.inl (SqL.of hb),rfl,_,rfl,kT (congrArg V.int (by omega)) ?_⟩
 refine⟨_,rfl,b,zs,rfl,.inl (SqL.of hb),_,rfl,by omega,by omega,br (n:=(zs.length:Int).toNat) (fun i σ H2=>H2=H/\∃ v2 v3 v4,σ = [some (.ref a),some (.ref b),v2,v3,v4]) ⟨rfl,_,_,_,rfl⟩ ?_ ?_⟩
 ·rintro i σ H2 hi ⟨rfl,v2,v3,v4,rfl⟩
  rw[L7,zl]at hi
  have e0:(0:Int)+(i:Int)=(i:Int):=MZ _
  rw[e0]
  obtain⟨r,hr'⟩:∃ r,l[i]?=some r:=⟨_,Lw hi⟩
  have rb:=r200 r (Lz hr')
  obtain⟨p,x1,hp⟩:=hX.2 i r hr'
  obtain⟨p',z1,hp'⟩:=hZ.2 i r hr'
  refine⟨_,rfl,_,rfl,a,xs,_,_,rfl,rfl,SqL.of ha,aD x1,?_⟩
  refine⟨_,rfl,_,_,_,_,_,rfl,TyOf.lst hp,Or.inl ⟨_,rfl,rfl⟩,Cp K,_,rfl,iteF ?_⟩
  refine⟨_,rfl,p,_,rfl,.inl (SqL.of hp),_,rfl,_,rfl,b,zs,_,_,rfl,rfl,SqL.of hb,aD z1,p',_,rfl,.inl (SqL.of hp'),rfl,_,rfl,kT rfl ?_⟩
  have rl:(r.map iV).length=r.length:=LB ..
  refine⟨_,rfl,p,_,rfl,.inl (SqL.of hp),_,rfl,by omega,by omega,br (n:=((r.map iV).length:Int).toNat) (fun j σ H3=>H3=H2/\∃ v4,σ = [some (.ref a),some (.ref b),some (.int (i:Int)),some (.ref p),v4]) ⟨rfl,_,rfl⟩ ?_ ?_⟩
  ·rintro j σ H3 hj ⟨rfl,v4,rfl⟩
   rw[L7,rl]at hj
   have e1:(0:Int)+(j:Int)=(j:Int):=MZ _
   rw[e1]
   have hat:(r.map iV)[j]?=some (V.int ((r[j]:Nat):Int)):=by rw[LL,Lw hj];rfl
   refine⟨_,rfl,_,rfl,p,_,_,_,rfl,rfl,SqL.of hp,aD hat,_,rfl,_,rfl,iteF ?_⟩
   refine⟨_,rfl,_,rfl,p,_,_,_,rfl,rfl,SqL.of hp,aD hat,_,rfl,_,rfl,b,zs,_,_,rfl,rfl,SqL.of hb,aD z1,_,rfl,p',_,_,_,rfl,rfl,SqL.of hp',aD hat,rfl,_,rfl,kT rfl ?_⟩
   exact⟨rfl,_,rfl⟩
  ·rintro σ H3 ⟨rfl,v4,rfl⟩
   exact⟨rfl,_,_,_,rfl⟩
 ·rintro σ H2 ⟨rfl,v2,v3,v4,rfl⟩
  exact kk
theorem kI:aI ["ring","at"] ["ring"] (aj cu):=⟨rfl,rfl,rfl,by decide +kernel,rfl,by decide +kernel,by decide +kernel⟩
theorem Ft{f:Addr}{fd:FuncData} (F:Fun K "_law_turned" "_law_turned" cu f fd) (T:Txt mg):FnOk P w K mg base CX0 1 f fd ["ring"] rY:=by
 refine F.ok kI (fun vs H Q E h=>?_) (fun cdv A outer s H vs Q E hr h=>?_)
 ·obtain⟨a,r,rfl,_⟩:=h
  rfl
 obtain⟨a,r,rfl,ha,ne,r200,rb,kk⟩:=h
 refine⟨_,(af (ay (i:=1) kI.nd rfl (Or.inl rfl) (cg LY Oy Ox ui (pv 0) (aa (ar (G0 rfl) (by rfl) T.n_min bt_min (aa (pv 0) ag)) ag)))
   (ao (aL (aF Ji (bY dk (pv 0) (cJ (pv 1)) fu) (bY dk (pv 0) fu (cJ (pv 1))))))),?_⟩
 have en:r.map iV=(r.map fun x:Nat=>(x:Int)).map V.int:=by rw[ME];rfl
 have rp:0<r.length:=by
  cases r with
  |nil=>exact absurd rfl ne
  |cons x l=>exact Nat.succ_pos _
 refine⟨_,rfl,.inl ⟨rfl,_,SqL.of ha⟩,_,rfl,a,r.map fun x:Nat=>(x:Int),rfl,SqL.of (by rw[ha,en]),by rw[LB];exact rp,fun mi mm mle=>?_⟩
 obtain⟨k,hk,rfl⟩:=L9.mp mm
 refine⟨a,r,k,rfl,rfl,SqL.of ha,rb,by omega,hk,?_⟩
 have ix:r.idxOf k<r.length:=NO.mpr hk
 have lm:(r.map iV).length=r.length:=LB ..
 refine⟨_,rfl,_,rfl,_,rfl,a,_,rfl,SqL.of ha,fun q1 hq1=>?_⟩
 rw[JA (show r.idxOf k<=(r.map iV).length by omega)]
 have s1:=ai hq1 (.lst ((r.map iV).drop (r.idxOf k)))
 refine⟨_,rfl,_,rfl,_,rfl,a,_,rfl,SqL.of (s1 _ _ ha),fun q2 hq2=>?_⟩
 rw[Jz (show r.idxOf k<=(r.map iV).length by omega)]
 have s2:=ai hq2 (.lst ((r.map iV).take (r.idxOf k)))
 refine⟨q1,q2,_,_,rfl,rfl,s2 _ _ ae,ae,MJ (aB (by rw[Mj,LZ];omega)),fun p hp=>?_⟩
 refine kk p (r.drop (r.idxOf k)++r.take (r.idxOf k)) _ (s1.trans (s2.trans (ai hp _))) (none_of (s1.trans s2) hp) (by rw[ae,Mu,NS,NR]) ⟨r.take (r.idxOf k),r.drop (r.idxOf k),(L3 _ _).symm,?_,rfl,fun x hx=>?_⟩
 ·intro z
  have:=congrArg Oi z
  rw[Mj,NT]at this
  omega
 ·have hd:(r.drop (r.idxOf k)++r.take (r.idxOf k)).headD 0=k:=by
   rw[MV ix]
   show r[r.idxOf k]=k
   exact List.getElem_idxOf ix
  rw[hd]
  have:=mle (x:Int) (L9.mpr ⟨x,hx,rfl⟩)
  omega
theorem cn:aI ["found","rings","where","k","dart","i","side"] ["found","rings"] (aj cV):=⟨rfl,rfl,rfl,by decide +kernel,rfl,by decide +kernel,by decide +kernel⟩
theorem Fw{f fn:Addr}{fd dn:FuncData} (F:Fun K "_law_sides" "_law_sides" cV f fd) (T:Txt mg) (G_law_number:Cal P w K mg base 1 "_law_number" ["found"] spNum fn dn):FnOk P w K mg base CX0 2 f fd ["found","rings"] r8:=by
 refine F.ok cn (fun vs H Q E h=>?_) (fun cdv A outer s H vs Q E hr h=>?_)
 ·obtain⟨a,b,xs,zs,n,rs,rfl,_⟩:=h
  rfl
 obtain⟨a,b,xs,zs,n,rs,rfl,ha,hS,hb,hZ,nd,fl,rsl,n63,kk⟩:=h
 have hu:=KW hr
 have zl:=hZ.1
 have xl:=hS.1
 have rlen:∀ i,(rs.take i).flatten.length<=2*n:=fun i=>by
  have:=congrArg (fun z=>z.flatten.length) (L3 i rs)
  simp only[MN,Ly]at this
  omega
 have tnd:∀ i,(rs.take i).flatten.Nodup:=fun i=>by
  have:=congrArg List.flatten (L3 i rs)
  rw[MN]at this
  rw[← this]at nd
  exact(LR.mp nd).1
 refine⟨_,(af (ay (i:=2) cn.nd rfl (Or.inl rfl) tJ)
   (af (bO PassesOwn.never rfl (ba rfl T.n_range (aa (ar aq (by rfl) T.n_len aQ (aa (pv 1) ag)) ag)) (aU (i:=3) cn.nd rfl (Or.inl rfl)) (ao (bO PassesOwn.never rfl (bz (aG aA (pv 1) (pv 3) (fun _ _=>rfl))) (aU (i:=4) cn.nd rfl (Or.inl rfl)) (ao (zx hu (pv 2) (pv 4) (pv 3) rfl)))))
   (af (bt (PW.pt (cG (dg (df (ar cO (by rfl) T.n_isinstance a6 (aa (pv 0) (aa (gc (v:=.ty "list") rfl T.n_list gQ rfl) ag))))) (bN (av dr (aF dD ak (ar aq (by rfl) T.n_len aQ (aa (pv 0) ag))) (ar G3 (by rfl) T.n_len aQ (aa (pv 2) ag)) (aK _))))) (ao (aL gd)) aN)
   (af (bO PassesOwn.never rfl (ba rfl T.n_range (aa (ar aq (by rfl) T.n_len aQ (aa (pv 0) ag)) ag)) (aU (i:=5) cn.nd rfl (Or.inl rfl)) (af (ay (i:=6) cn.nd rfl (Or.inl rfl) (aG aA (pv 0) (pv 5) (fun _ _=>rfl)))
   (af (bt (PW.pt (cG (dg (df (ar cO (by rfl) T.n_isinstance a6 (aa (pv 6) (aa (gc (v:=.ty "tuple") rfl T.n_tuple IS rfl) ag))))) (bN (av dr (ar aq (by rfl) T.n_len aQ (aa (pv 6) ag)) ak (aK _))))) (ao (aL gd)) aN)
   (af (bt (PW.pt (cG (dg (df (ax G_law_number.ok (hr.mono (by decide)) rfl G_law_number.mg G_law_number.kp G_law_number.bn .nil aR (aa (aG aX (pv 6) ak (fun _ _=>rfl)) ag)))) (bN (dg (df (ax G_law_number.ok (hr.mono (by decide)) rfl G_law_number.mg G_law_number.kp G_law_number.bn .nil aR (aa (aG aX (pv 6) ak (fun _ _=>rfl)) ag))))))) (ao (aL gd)) aN)
   (ao (bt (PW.pt (cG (av dr (aG aX (pv 6) ak (fun _ _=>rfl)) (tK hu (pv 2) (aF dD ak (pv 5)) (fun _ _=>rfl)) (aK _)) (bN (av dr (aG aX (pv 6) ak (fun _ _=>rfl)) (tK hu (pv 2) (aF bB (aF dD ak (pv 5)) ak) (fun _ _=>rfl)) (aK _))))) (ao (aL gd)) aN))))))
   (ao (aL gd)))))),?_⟩
 intro q hq
 have s1:=ai hq (.dK [])
 have nok:∀(kvs:List (Key×V))(k:Key),k∉kvs.map (·.1)->valV kvs k=none:=fun kvs k h=>by
  induction kvs with
  |nil=>rfl
  |cons p r ih =>
   rw[Mc,LC]at h
   rw[bW (fun z=>h (.inl z.symm))]
   exact ih fun z=>h (.inr z)
 refine⟨_,rfl,b,zs,rfl,.inl (SqL.of (s1 _ _ hb)),_,rfl,by omega,by omega,br (n:=(zs.length:Int).toNat) (fun i σ H2=>∃(v3 v4:Option V)(kvs:List (Key×V)),σ = [some (.ref a),some (.ref b),some (.ref q),v3,v4,none,none]/\Same H H2/\H2 q=some (.dK kvs)/\kvs.map (·.1)=(rs.take i).flatten.map (fun d:Nat=>(Sum.inl (d:Int):Key))/\∀(d c:Nat)(r:List Nat),rs[c]?=some r->d∈r->d∈(rs.take i).flatten->valV kvs (.inl (d:Int))=some (iV c)) ⟨_,_,[],rfl,s1,ae,rfl,fun d c r _ _ h=>by simp at h⟩ ?_ ?_⟩
 ·rintro i σ H2 hi ⟨v3,v4,kvs,rfl,s2,hq2,ke,kv⟩
  rw[L7,zl]at hi
  have e0:(0:Int)+(i:Int)=(i:Int):=MZ _
  rw[e0]
  obtain⟨r,hr'⟩:∃ r,rs[i]?=some r:=⟨_,Lw hi⟩
  obtain⟨p,z1,hp⟩:=hZ.2 i r hr'
  have f1:(rs.take (i+1)).flatten=(rs.take i).flatten++r:=by rw[Mo,hr'];simp
  have nd1:=tnd (i+1)
  have ln1:=rlen (i+1)
  rw[f1]at nd1 ln1
  rw[Ly]at ln1
  refine⟨_,rfl,_,rfl,b,zs,_,_,rfl,rfl,SqL.of (s2 _ _ hb),aD z1,p,rfl,⟨_,SqL.of (s2 _ _ hp)⟩,gD (K:=K) (xs:=r.map iV) (fun j σ H3=>∃(v4:Option V)(kvs':List (Key×V)),σ = [some (.ref a),some (.ref b),some (.ref q),some (.int (i:Int)),v4,none,none]/\Same H H3/\H3 q=some (.dK kvs')/\kvs'.map (·.1)=((rs.take i).flatten++r.take j).map (fun d:Nat=>(Sum.inl (d:Int):Key))/\∀(d c:Nat)(r':List Nat),rs[c]?=some r'->d∈r'->d∈(rs.take i).flatten++r.take j->valV kvs' (.inl (d:Int))=some (iV c)) ⟨_,kvs,rfl,s2,hq2,by rw[List.take_zero,Na];exact ke,fun d c r' h1 h2 h3=>kv d c r' h1 h2 (by simpa using h3)⟩ (fun j σ H3 _ ⟨_,_,_,z,_⟩=>SqL.of (z _ _ hp)) ?_ ?_⟩
  ·rintro j x σ H3 hx ⟨v4,kvs',rfl,s3,hq3,ke3,kv3⟩
   rw[LL]at hx
   obtain⟨g,hg,rfl⟩:=Mr.mp hx
   have hj:j<r.length:=(Lx.mp hg).1
   have tk:r.take (j+1)=r.take j++[g]:=by rw[Mo,hg];rfl
   have gn:g∉(rs.take i).flatten++r.take j:=fun z=>by
    have h2:((rs.take i).flatten++r.take j++r.drop j).Nodup:=by rw[Ma,L3];exact nd1
    obtain⟨_,_,h3⟩:=LR.mp h2
    exact h3 g z g (by rw[MV hj];rw[(Lx.mp hg).2];exact LI ..) rfl
   have klen:kvs'.length=(rs.take i).flatten.length+j:=by
    have:=congrArg Oi ke3
    rw[LB,LB,Ly,LZ]at this
    omega
   have vn:valV kvs' (.inl (g:Int))=none:=nok _ _ fun z=>by
    rw[ke3]at z
    obtain⟨d,hd,e⟩:=L9.mp z
    have:d=g:=by have:=Sum.inl.inj e;omega
    exact gn (this▸hd)
   refine⟨_,rfl,_,rfl,_,rfl,q,_,rfl,DPut.k (k:=Sum.inl (g:Int)) hq3 (aB (by omega)),?_⟩
   refine⟨_,putK kvs' (.inl (g:Int)) (.int (i:Int)),rfl,a9 s3 hq _,ae,?_,fun d c r' h1 h2 h3=>?_⟩
   ·rw[HI _ vn,Mu,ke3,tk,← Ma]
    simp only[Mu]
    rfl
   ·rw[om]
    rw[tk,← Ma,LJ]at h3
    by_cases z:d=g
    ·subst z
     rw[if_pos rfl]
     have:=AR nd h1 hr' h2 (Lz hg)
     subst this
     rfl
    ·rw[if_neg (fun y=>z (by have:=Sum.inl.inj y;omega))]
     rcases h3 with h3 | h3
     ·exact kv3 d c r' h1 h2 h3
     ·exact absurd (Mx.mp h3) z
  ·rintro σ H3 ⟨v4,kvs',rfl,s3,hq3,ke3,kv3⟩
   rw[LB,My]at ke3 kv3
   rw[← f1]at ke3 kv3
   exact⟨_,_,kvs',rfl,s3,hq3,ke3,kv3⟩
 ·rintro σ H2 ⟨v3,v4,kvs,rfl,s2,hq2,ke,kv⟩
  rw[L7,zl,My]at ke kv
  have klen:kvs.length=2*n:=by
   have:=congrArg Oi ke
   rw[LB,LB]at this
   omega
  have ha2:=s2 _ _ ha
  have m2:∀ i:Int,CMul 2 i:=fun i=>.inl ⟨by decide,by decide⟩
  refine⟨_,rfl,_,_,_,_,_,rfl,TyOf.lst ha2,Or.inl ⟨_,rfl,rfl⟩,Cp K,_,rfl,iteF ?_⟩
  refine⟨_,rfl,a,xs,rfl,.inl (SqL.of ha2),_,_,rfl,rfl,m2 _,_,rfl,q,kvs,rfl,hq2,rfl,_,rfl,kT (congrArg V.int (by omega)) ?_⟩
  refine⟨_,rfl,a,xs,rfl,.inl (SqL.of ha2),_,rfl,by omega,by omega,br (n:=(xs.length:Int).toNat) (fun i σ H3=>H3=H2/\∃ v3 v4 v5 v6,σ = [some (.ref a),some (.ref b),some (.ref q),v3,v4,v5,v6]) ⟨rfl,_,_,_,_,rfl⟩ ?_ ?_⟩
  ·rintro i σ H3 hi ⟨rfl,v3,v4,v5,v6,rfl⟩
   rw[L7,xl]at hi
   have e0:(0:Int)+(i:Int)=(i:Int):=MZ _
   rw[e0]
   obtain⟨t,c1,c2,r1,r2,y1,ht0,g1,m1,g2,m2'⟩:=hS.2 i hi
   have ht:=s2 _ _ ht0
   have in1:2*i∈rs.flatten:=Mq.mpr ⟨r1,Lz g1,m1⟩
   have in2:2*i+1∈rs.flatten:=Mq.mpr ⟨r2,Lz g2,m2'⟩
   have d1:DGet H3 q (V.int (2*(i:Int))) (some (iV c1)):=by
    rw[← kv _ _ _ g1 m1 in1,show((2*i:Nat):Int)=2*(i:Int) by omega]
    exact DGet.k (k:=Sum.inl (2*(i:Int))) hq2
   have d2:DGet H3 q (V.int (2*(i:Int)+1)) (some (iV c2)):=by
    rw[← kv _ _ _ g2 m2' in2,show((2*i+1:Nat):Int)=2*(i:Int)+1 by omega]
    exact DGet.k (k:=Sum.inl (2*(i:Int)+1)) hq2
   refine⟨_,rfl,_,rfl,a,xs,_,_,rfl,rfl,SqL.of ha2,aD y1,?_⟩
   refine⟨_,rfl,_,_,_,_,_,rfl,TyOf.tup ht,Or.inl ⟨_,rfl,rfl⟩,kit_tt K,_,rfl,iteF ?_⟩
   refine⟨_,rfl,t,_,rfl,.inr (SqT.of ht),rfl,_,rfl,kT rfl ?_⟩
   refine⟨_,rfl,t,_,0,_,rfl,rfl,SqT.of ht,at0,_,rfl,_,rfl,iteF ?_⟩
   refine⟨_,rfl,t,_,1,_,rfl,rfl,SqT.of ht,at1,_,rfl,_,rfl,iteF ?_⟩
   refine⟨_,rfl,t,_,0,_,rfl,rfl,SqT.of ht,at0,_,rfl,_,rfl,_,_,rfl,rfl,m2 _,q,_,rfl,d1,rfl,_,rfl,kT rfl ?_⟩
   refine⟨_,rfl,t,_,1,_,rfl,rfl,SqT.of ht,at1,_,rfl,_,rfl,_,_,rfl,rfl,m2 _,_,_,rfl,rfl,q,_,rfl,d2,rfl,_,rfl,kT rfl ?_⟩
   exact⟨rfl,_,_,_,_,rfl⟩
  ·rintro σ H3 ⟨rfl,v3,v4,v5,v6,rfl⟩
   exact kk _ s2
theorem dm:aI ["found","ends","kinds","k","tie"] ["found","ends","kinds"] (aj bx):=⟨rfl,rfl,rfl,by decide +kernel,rfl,by decide +kernel,by decide +kernel⟩
theorem HW{f fn PL PS:Addr}{fd dn:FuncData} (F:Fun K "_law_same_ties" "_law_same_ties" bx f fd) (T:TxtI mg PL PS) (IC:IsC K PL PS) (TL:CT K PL) (TS:CT K PS) (G_law_number:Cal P w K mg base 1 "_law_number" ["found"] spNum fn dn):FnOk P w K mg base CX0 2 f fd ["found","ends","kinds"] (yT PL PS):=by
 refine F.ok dm (fun vs H Q E h=>?_) (fun cdv A outer s H vs Q E hr h=>?_)
 ·obtain⟨a,b,c,xs,ys,ws,es,ks,rfl,_⟩:=h
  rfl
 obtain⟨a,b,c,xs,ys,ws,es,ks,rfl,ha,hT,hb,hE,hc,tk,kl,few,kk⟩:=h
 have hu64:=hr.units
 have xl:=hT.1
 have yl:=hE.1
 refine⟨_,(af (bt (PW.pt (cG (dg (df (ar cO (by rfl) T.n_isinstance a6 (aa (pv 0) (aa (gc (v:=.ty "list") rfl T.n_list gQ rfl) ag))))) (bN (av dr (ar aq (by rfl) T.n_len aQ (aa (pv 0) ag)) (ar aq (by rfl) T.n_len aQ (aa (pv 1) ag)) (aK _))))) (ao (aL gd)) aN)
   (af (bO PassesOwn.never rfl (ba rfl T.n_range (aa (ar aq (by rfl) T.n_len aQ (aa (pv 1) ag)) ag)) (aU (i:=3) dm.nd rfl (Or.inl rfl)) (af (ay (i:=4) dm.nd rfl (Or.inl rfl) (aG aA (pv 0) (pv 3) (fun _ _=>rfl)))
   (af (bt (PW.pt (cG (av dr (ar cO (by rfl) T.n_isinstance a6 (aa (pv 4) (aa (zM (v:=.ref _) rfl T.g_Push rfl) ag))) (zN jw (aG aX (aG aA (pv 2) (pv 3) (fun _ _=>rfl)) ak (fun _ _=>rfl)) bg (aK _)) (aK _)) (bN (av dr (ar cO (by rfl) T.n_isinstance a6 (aa (pv 4) (aa (zM (v:=.ref _) rfl T.g_Pull rfl) ag))) (zN jw (aG aX (aG aA (pv 2) (pv 3) (fun _ _=>rfl)) ak (fun _ _=>rfl)) bg (aK _)) (aK _))))) (ao (aL gd)) aN)
   (af (bt (PW.pt (cG (dg (df (ax G_law_number.ok (hr.mono (by decide)) rfl G_law_number.mg G_law_number.kp G_law_number.bn .nil aR (aa (bE (pv 4) rfl) ag)))) (cG (dg (df (ax G_law_number.ok (hr.mono (by decide)) rfl G_law_number.mg G_law_number.kp G_law_number.bn .nil aR (aa (bE (pv 4) rfl) ag)))) (bN (dg (df (ax G_law_number.ok (hr.mono (by decide)) rfl G_law_number.mg G_law_number.kp G_law_number.bn .nil aR (aa (bE (pv 4) rfl) ag)))))))) (ao (aL gd)) aN)
   (ao (bt (PW.pt (cG (av (Jh hu64) (gU (aa (bE (pv 4) rfl) (aa (bE (pv 4) rfl) ag))) (aG aA (pv 1) (pv 3) (fun _ _=>rfl)) (aK _)) (bN (av dr (bE (pv 4) rfl) (aG aX (aG aA (pv 2) (pv 3) (fun _ _=>rfl)) ak (fun _ _=>rfl)) (aK _))))) (ao (aL gd)) aN))))))
   (ao (aL gd)))),?_⟩
 refine⟨_,rfl,_,_,_,_,_,rfl,TyOf.lst ha,Or.inl ⟨_,rfl,rfl⟩,Cp K,_,rfl,iteF ?_⟩
 refine⟨_,rfl,a,xs,rfl,.inl (SqL.of ha),_,rfl,b,ys,rfl,.inl (SqL.of hb),rfl,_,rfl,kT (congrArg V.int (by omega)) ?_⟩
 refine⟨_,rfl,b,ys,rfl,.inl (SqL.of hb),_,rfl,by omega,by omega,br (n:=(ys.length:Int).toNat) (fun i σ H2=>Same H H2/\∃ v3 v4,σ = [some (.ref a),some (.ref b),some (.ref c),v3,v4]) ⟨fun _ _ e=>e,_,_,rfl⟩ ?_ ?_⟩
 ·rintro i σ H2 hi ⟨s2,v3,v4,rfl⟩
  rw[L7,yl]at hi
  have e0:(0:Int)+(i:Int)=(i:Int):=MZ _
  rw[e0]
  obtain⟨e,he⟩:∃ e,es[i]?=some e:=⟨_,Lw hi⟩
  obtain⟨k,hk⟩:∃ k,ks[i]?=some k:=⟨_,Lw (by omega)⟩
  obtain⟨p,dx,x1,hp0⟩:=hT.2 i e k he hk
  obtain⟨pe,y1,hpe0⟩:=hE.2 i e he
  obtain⟨k01,k2,pk,w1,hpk0⟩:=tk.2 i k hk
  have hp:=s2 _ _ hp0
  have hpe:=s2 _ _ hpe0
  have hpk:=s2 _ _ hpk0
  have ha2:=s2 _ _ ha
  have hb2:=s2 _ _ hb
  have hc2:=s2 _ _ hc
  refine⟨_,rfl,_,rfl,a,xs,_,_,rfl,rfl,SqL.of ha2,aD x1,?_⟩
  obtain⟨C,hp',CC,fc,mc,k1,k2',u1,u2⟩:∃ C:Addr,H2 p=some (.ins C dx (tf (e.1:Int) (e.2:Int) k.2))/\CT K C/\Mf K (.ref C) "__class__" = some (some (.builtin "object.__class__"))/\Ob K C (.type "object")=some true/\MK K (.ref C) (.ref PS)=some (decide (k.1=1))/\MK K (.ref C) (.ref PL)=some (!decide (k.1=1))/\decide (V.str (kS k.1)=V.str "push")=decide (k.1=1)/\decide (V.str (kS k.1)=V.str "pull")=(!decide (k.1=1)):=by
   by_cases z:k.1=1
   ·rw[decide_eq_true z]at hp ⊢
    refine⟨PS,hp,TS,IC.hS,IC.mS,IC.ss,IC.sl,?_,?_⟩
    ·rw[z];decide +kernel
    ·rw[z];decide +kernel
   ·rw[decide_eq_false z]at hp ⊢
    have z0:k.1=0:=by omega
    refine⟨PL,hp,TL,IC.hL,IC.mL,IC.ls,IC.ll,?_,?_⟩
    ·rw[z0];decide +kernel
    ·rw[z0];decide +kernel
  have ty:=TyOf.ins hp' CC.cl fc IC.hn IC.htk mc
  refine⟨_,rfl,_,_,_,_,_,rfl,ty,Or.inr ⟨_,rfl,rfl⟩,k1,_,rfl,_,rfl,c,ws,_,_,rfl,rfl,SqL.of hc2,aD w1,pk,_,0,_,rfl,rfl,SqT.of hpk,at0,rfl,rfl,_,rfl,kT (congrArg V.bl u1.symm) ?_⟩
  refine⟨_,rfl,_,_,_,_,_,rfl,ty,Or.inr ⟨_,rfl,rfl⟩,k2',_,rfl,_,rfl,c,ws,_,_,rfl,rfl,SqL.of hc2,aD w1,pk,_,0,_,rfl,rfl,SqT.of hpk,at0,rfl,rfl,_,rfl,kT (congrArg V.bl u2.symm) ?_⟩
  refine⟨_,rfl,p,C,dx,_,_,rfl,hp',CC.cl,CC.n1,kG _ _ _,_,rfl,_,rfl,iteF ?_⟩
  refine⟨_,rfl,p,C,dx,_,_,rfl,hp',CC.cl,CC.n2,oK _ _ _,_,rfl,_,rfl,iteF ?_⟩
  refine⟨_,rfl,p,C,dx,_,_,rfl,hp',CC.cl,CC.n3,ED _ _ _,_,rfl,_,rfl,iteF ?_⟩
  refine⟨_,rfl,p,C,dx,_,_,rfl,hp',CC.cl,CC.n1,kG _ _ _,_,rfl,p,C,dx,_,_,rfl,hp',CC.cl,CC.n2,oK _ _ _,(by show 2<=sizeLine;decide),fun t ht=>?_⟩
  have s3:=ai ht (.tup [.int (e.1:Int),.int (e.2:Int)])
  refine⟨_,rfl,_,rfl,b,ys,_,_,rfl,rfl,SqL.of (s3 _ _ hb2),aD y1,_,Ca ae,Ca (s3 _ _ hpe),wo _ _,_,rfl,iteF ?_⟩
  refine⟨_,rfl,p,C,dx,_,_,rfl,s3 _ _ hp',CC.cl,CC.n3,ED _ _ _,_,rfl,_,rfl,c,ws,_,_,rfl,rfl,SqL.of (s3 _ _ hc2),aD w1,pk,_,1,_,rfl,rfl,SqT.of (s3 _ _ hpk),at1,rfl,_,rfl,kT rfl ?_⟩
  exact⟨s2.trans s3,_,_,rfl⟩
 ·rintro σ H2 ⟨s2,v3,v4,rfl⟩
  exact kk _ s2
end
end K8
namespace K8
open PySem L2
local macro_rules | `(tactic| walk_at "cc") => `(tactic| first | exact ⟨by decide, by decide⟩ | (show (0 : Int) < _; decide) | (show (0 : Int) < _; omega) | (show (0 : Int) ≤ _; omega) | exact ⟨by decide, by decide, by decide⟩ | exact ⟨by omega, by omega, by decide⟩ | exact Or.inl ⟨by decide, by decide⟩ | exact Or.inl ⟨by omega, by omega⟩)
local macro_rules | `(tactic| walk_at "rd") => `(tactic| repeat (first | refine ⟨_, rfl, ?_⟩ | refine ⟨_, _, rfl, rfl, ?_⟩ | refine ⟨rfl, ?_⟩ | (refine ⟨?cc, ?_⟩; (case cc => walk_at "cc"))))
structure GB(H:Hp)(t pk:Addr)(m:Nat)(es:En)(ts rg:List (List Nat))(ks:Kn):Prop where
 gr:∃ pe pt pr,H t=some (.tup [.ref pe,.ref pt,.ref pr])/\WebP H pe pt m es ts/\rG H pr rg
 pa:Part (fol es ts) (2*es.length) rg
 kd:∃ ws,H pk=some (.lst ws)/\i3 H ws ks
 kl:ks.length=es.length
 few:es.length<=63
 pos:0<es.length
theorem GB.mono{H H':Hp}{t pk:Addr}{m:Nat}{es:En}{ts rg:List (List Nat)}{ks:Kn}(h:GB H t pk m es ts rg ks)(s:Same H H'):GB H' t pk m es ts rg ks:=by
 obtain⟨⟨pe,pt,pr,a,b,c⟩,d,⟨ws,e,f⟩,g,i,j⟩:=h
 exact⟨⟨pe,pt,pr,s _ _ a,b.mono s,c.mono s⟩,d,⟨ws,s _ _ e,f.mono s⟩,g,i,j⟩
def su(PL PS WC:Addr):Sp:=fun vs H Q _=>∃(S:Addr->Prop)(p t pk:Addr)(m:Nat)(es:En)(ts rs rg:List (List Nat))(ks:Kn),vs = [.ref p,.ref t,.ref pk]/\WebF S PL PS WC H p m es ts rs ks/\GB H t pk m es ts rg ks/\∀ H',Same H H'->Q (.bl true) H'
def j5(r:List Nat):List Int:=r.map fun x:Nat=>(x:Int)
theorem vf(r:List Nat):(j5 r).headD 0=((r.headD 0:Nat):Int):=by cases r<;>rfl
theorem rE(r:List Nat):(j5 r).map O7=r:=by
 unfold j5
 rw[ME]
 refine(Np (g:=id) fun x _=>?_).trans (O6 _)
 exact L7 x
theorem Fg{rows:List (List Int)}{uu:List (List Nat)}(h:rows.Perm (uu.map j5)):∃ due:List (List Nat),rows=due.map j5/\due.Perm uu:=by
 refine⟨rows.map fun r=>r.map O7,?_,?_⟩
 ·rw[ME]
  refine((Np (g:=id) fun r hr=>?_).trans (O6 _)).symm
  obtain⟨u,_,rfl⟩:=L9.mp (h.mem_iff.mp hr)
  show j5 ((j5 u).map O7)=j5 u
  rw[rE]
 ·have:=h.map fun r=>r.map O7
  rw[ME]at this
  have e:Od ((fun r=>Od O7 r)∘j5) uu=uu:=(Np (g:=id) fun u _=>rE u).trans (O6 _)
  rwa[e]at this
section
variable{P:Program}{w:World}{K:LA}{mg:Str->Option Value}{base:Heap}
theorem kJ:aI ["web","grown","kinds","due"] ["web","grown","kinds"] (aj cy):=⟨rfl,rfl,rfl,by decide +kernel,rfl,by decide +kernel,by decide +kernel⟩
theorem FC{f f1 f2 f3 f4 f5 PL PS WC:Addr}{fd d1 d2 d3 d4 d5:FuncData} (F:Fun K "_law_fields" "_law_fields" cy f fd) (T:Txt mg) (cw:CW K WC) (G_law_turned:Cal P w K mg base 1 "_law_turned" ["ring"] rY f1 d1) (G_law_number:Cal P w K mg base 1 "_law_number" ["found"] spNum f2 d2) (G_law_same_ties:Cal P w K mg base 2 "_law_same_ties" ["found","ends","kinds"] (yT PL PS) f3 d3) (G_law_rows:Cal P w K mg base 2 "_law_rows" ["found","due"] yU f4 d4) (G_law_sides:Cal P w K mg base 2 "_law_sides" ["found","rings"] r8 f5 d5):FnOk P w K mg base CX0 3 f fd ["web","grown","kinds"] (su PL PS WC):=by
 refine F.ok kJ (fun vs H Q E h=>?_) (fun cdv A outer s H vs Q E hr h=>?_)
 ·obtain⟨S,p,t,pk,m,es,ts,rs,rg,ks,rfl,_⟩:=h
  rfl
 obtain⟨S,p,t,pk,m,es,ts,rs,rg,ks,rfl,wf,gb,kk⟩:=h
 have hu64:=hr.units
 obtain⟨⟨pe,pt,pr,ht,⟨⟨ys,hpe,hE⟩,⟨xs,hpt,hR⟩,g⟩,⟨zs,hpr,hRg⟩⟩,pa,⟨ws,hpk,tk⟩,kl,few,pos⟩:=gb
 obtain⟨dx,fs,q1,txs,hp,wg,_,lk,hq1,tt⟩:=wf
 obtain⟨many,⟨qt,zt,lt,_,hqt,rt⟩,⟨qr,zr,lr,_,hqr,rr⟩,⟨qs,zsd,lsd,_,hqs,rsd⟩,ro⟩:=wg
 have m2:=g.two pos
 have rgl:rg.length<=63:=by
  obtain⟨rs',p',c⟩:=g.part
  have:=p'.same pa
  omega
 have zl:=hRg.1
 have xm:xs.length=m:=by rw[hR.1,g.w.len]
 refine⟨_,(af (ay (i:=3) kJ.nd rfl (Or.inl rfl) (ar (D9 hu64) (by rfl) T.n_sorted yc (aa (dq rfl (fr:=[]) (by exact bK.plain (by rfl) (by decide +kernel) (by rfl) (by decide +kernel) (by rfl) (by decide +kernel)) (bz (aG aX (pv 1) ak (fun _ _=>rfl))) (fun C ex s H=>(ax G_law_turned.ok (hr.mono (by decide)) rfl G_law_turned.mg G_law_turned.kp G_law_turned.bn .nil aR (aa (pv 0) ag)))) ag)))
   (af (bt (PW.pt (cG (dg (df (ax G_law_number.ok (hr.mono (by decide)) rfl G_law_number.mg G_law_number.kp G_law_number.bn .nil aR (aa (bE (pv 0) rfl) ag)))) (bN (av dr (bE (pv 0) rfl) (ar aq (by rfl) T.n_len aQ (aa (aG aX (pv 1) ak (fun _ _=>rfl)) ag)) (aK _))))) (ao (aL gd)) aN)
   (af (bt (PW.pt (cG (dg (df (ax G_law_same_ties.ok (hr.mono (by decide)) rfl G_law_same_ties.mg G_law_same_ties.kp G_law_same_ties.bn .nil aR (aa (bE (pv 0) rfl) (aa (aG aX (pv 1) ak (fun _ _=>rfl)) (aa (pv 2) ag)))))) (bN (dg (df (ax G_law_rows.ok (hr.mono (by decide)) rfl G_law_rows.mg G_law_rows.kp G_law_rows.bn .nil aR (aa (bE (pv 0) rfl) (aa (aG aX (pv 1) ak (fun _ _=>rfl)) ag)))))))) (ao (aL gd)) aN)
   (ao (aL (Fl (ax G_law_rows.ok (hr.mono (by decide)) rfl G_law_rows.mg G_law_rows.kp G_law_rows.bn .nil aR (aa (bE (pv 0) rfl) (aa (pv 3) ag))) (Fh (ax G_law_sides.ok (hr.mono (by decide)) rfl G_law_sides.mg G_law_sides.kp G_law_sides.bn .nil aR (aa (bE (pv 0) rfl) (aa (pv 3) ag)))))))))),?_⟩
 refine⟨_,rfl,t,_,2,_,rfl,rfl,SqT.of ht,at32,pr,rfl,⟨_,SqL.of hpr⟩,bI (K:=K) (xs:=zs) (fun i us H2=>Same H H2/\∃ uu:List (List Nat),uu.length=i/\bM H2 us uu/\∀(j:Nat)(r u:List Nat),rg[j]?=some r->uu[j]?=some u->lA r u) (MJ (aB (by omega))) ⟨fun _ _ e=>e,[],rfl,⟨rfl,fun i l e=>by simp at e⟩,fun j r u _ e=>by simp at e⟩ (fun i us H2 _ z=>SqL.of (z.1 _ _ hpr)) ?_ ?_⟩
 ·rintro i x us H2 hx ⟨s2,uu,ul,ru,tu⟩
  have hi:i<rg.length:=by rw[← zl];exact(Lx.mp hx).1
  obtain⟨r,hr'⟩:∃ r,rg[i]?=some r:=⟨_,Lw hi⟩
  obtain⟨q,x1,hq⟩:=hRg.2 i r hr'
  rw[hx]at x1
  cases x1
  have c:=pa.cr r (Lz hr')
  obtain⟨dd,hdd⟩:=c.ne
  have rl:=eu c.nd c.lt
  refine⟨_,rfl,q,r,rfl,s2 _ _ hq,(fun z=>by rw[z]at hdd;cases hdd),by omega,(fun y hy=>by have:=c.lt y hy;omega),fun q' u H3 s3 nq hq' tu'=>?_⟩
  refine⟨s2.trans s3,uu++[u],by rw[Ly,ul];rfl,(ru.mono s3).snoc hq',fun j r' u' h1 h2=>?_⟩
  by_cases hj:j<uu.length
  ·rw[LF hj]at h2
   exact tu j r' u' h1 h2
  ·have ej:j=uu.length:=by
    have:=(Lx.mp h2).1
    rw[Ly,LU]at this
    omega
   subst ej
   rw[LD (LG _),Md]at h2
   cases h2
   rw[ul,hr']at h1
   cases h1
   exact tu'
 rintro us H2 _ ⟨s2,uu,ul,ru,tu⟩ D hD
 have sD:=ai hD (.lst us)
 have ul':uu.length=rg.length:=by rw[ul,zl]
 have usl:=ru.1
 have hnd:=Cu pa.nd ul' tu
 refine⟨D,us,uu.map j5,rfl,SqL.of ae,⟨by rw[LB,usl],fun i r hr'=>?_⟩,fun r hr'=>?_,?_,by omega,fun l out rows' hl pm pw LO=>?_⟩
 ·rw[LL]at hr'
  obtain⟨u,hu,rfl⟩:=Mr.mp hr'
  obtain⟨q,a1,a2⟩:=ru.2 i u hu
  refine⟨q,a1,?_⟩
  rw[sD _ _ a2]
  unfold j5
  rw[ME]
  rfl
 ·obtain⟨u,hu,rfl⟩:=L9.mp hr'
  obtain⟨i,hi,rfl⟩:=MY hu
  have:=(tu i rg[i] uu[i] (Lw (by omega)) (Lw hi)).head
  intro z
  have z2:=congrArg Oi z
  unfold j5 at z2
  rw[LB]at z2
  have:=Nb this
  rw[NT]at z2
  omega
 ·rw[ME]
  have e:Od ((fun r:List Int=>r.headD 0)∘j5) uu=(uu.map fun r=>r.headD 0).map fun x:Nat=>(x:Int):=by
   rw[ME]
   exact Np fun r _=>vf r
  rw[e]
  exact NC.mpr (hnd.imp fun h z=>h (by omega))
 obtain⟨due,rfl,pd⟩:=Fg pm
 have pw':due.Pairwise (fun a b=>a.headD 0<=b.headD 0):=(NC.mp pw).imp fun{a b} h=>by
  rw[vf,vf]at h
  omega
 have ed:due=rs:=(IG pa ul' tu pd pw').eq ro.told
 subst ed
 have sl:=ai hl (.lst out)
 have s3:=s2.trans (sD.trans sl)
 have ro3:bM (upd (upd H2 D (.lst us)) l (.lst out)) out due:=⟨by rw[LO.1,LB],fun i r hr'=>by
  obtain⟨q,a1,a2⟩:=LO.2 i (j5 r) (by rw[LL,hr'];rfl)
  refine⟨q,a1,?_⟩
  rw[sl _ _ a2]
  unfold j5
  rw[ME]
  rfl⟩
 have hl3:(upd (upd H2 D (.lst us)) l (.lst out)) l=some (.lst out):=ae
 generalize upd (upd H2 D (.lst us)) l (.lst out)=H3 at s3 ro3 hl3
 have hp3:=s3 _ _ hp
 have ht3:=s3 _ _ ht
 refine⟨_,rfl,p,WC,dx,fs,_,rfl,hp3,cw.cl,cw.n1,many,_,rfl,_,rfl,iteF ?_⟩
 refine⟨_,rfl,p,WC,dx,fs,_,rfl,hp3,cw.cl,cw.n1,many,_,rfl,t,_,1,_,rfl,rfl,SqT.of ht3,at31,pt,xs,rfl,.inl (SqL.of (s3 _ _ hpt)),rfl,_,rfl,kT (congrArg V.int (by omega)) ?_⟩
 refine⟨_,rfl,p,WC,dx,fs,_,rfl,hp3,cw.cl,cw.n2,lk,_,rfl,t,_,0,_,rfl,rfl,SqT.of ht3,at30,_,rfl,q1,pe,pk,txs,ys,ws,es,ks,rfl,s3 _ _ hq1,tt.mono s3,s3 _ _ hpe,hE.mono s3,s3 _ _ hpk,tk.mono s3,kl,few,fun H4 s4=>⟨_,rfl,iteF ?_⟩⟩
 have s34:=s3.trans s4
 have tsl:∀ r∈ts,r.length<=200:=fun r hr'=>by
  obtain⟨i,hi,rfl⟩:=MY hr'
  have:=(fH g.w few (Lw hi)).2
  omega
 have tl:ts.length<=200:=by
  have:=xC g
  rw[g.w.len]
  omega
 refine⟨_,rfl,p,WC,dx,fs,_,rfl,s34 _ _ hp,cw.cl,cw.n3,lt,_,rfl,t,_,1,_,rfl,rfl,SqT.of (s34 _ _ ht),at31,qt,pt,zt,xs,ts,rfl,s34 _ _ hqt,rt.off.mono s34,s34 _ _ hpt,hR.mono s34,tl,tsl,_,rfl,iteF ?_⟩
 have rl:=BV ro
 have rll:∀ r∈due,r.length<=200:=fun r hr'=>by
  have c:=ro.ring r hr'
  have:=eu c.nd c.lt
  omega
 refine⟨_,rfl,p,WC,dx,fs,_,rfl,s34 _ _ hp,cw.cl,cw.n4,lr,_,rfl,qr,l,zr,out,due,rfl,s34 _ _ hqr,rr.off.mono s34,s4 _ _ hl3,ro3.mono s4,by omega,rll,_,rfl,iteT ?_⟩
 have fl:due.flatten.length=2*es.length:=by
  have h1:=oz ro
  have h2:=Cg (l:=MH (2*es.length)) (ps:=due.flatten) List.nodup_range fun x hx=>ro.all x (Nj.mp hx)
  rw[MA]at h2
  omega
 refine⟨_,rfl,p,WC,dx,fs,_,rfl,s34 _ _ hp,cw.cl,cw.n5,lsd,_,rfl,qs,l,zsd,out,es.length,due,rfl,s34 _ _ hqs,rsd.mono s34,s4 _ _ hl3,ro3.mono s4,ro.nd,fl,by omega,few,fun H5 s5=>?_⟩
 exact kk _ (s34.trans s5)
end
end K8
namespace KF
open PySem L2 PyProof.Rows K8
local macro_rules | `(tactic| walk_at "cc") => `(tactic| first | exact ⟨by decide, by decide⟩ | (show (0 : Int) < _; decide) | (show (0 : Int) < _; omega) | (show (0 : Int) ≤ _; omega) | exact ⟨by decide, by decide, by decide⟩ | exact ⟨by omega, by omega, by decide⟩ | exact Or.inl ⟨by decide, by decide⟩ | exact Or.inl ⟨by omega, by omega⟩)
local macro_rules | `(tactic| walk_at "rd") => `(tactic| repeat (first | refine ⟨_, rfl, ?_⟩ | refine ⟨_, _, rfl, rfl, ?_⟩ | refine ⟨rfl, ?_⟩ | (refine ⟨?cc, ?_⟩; (case cc => walk_at "cc"))))
theorem lz:bootBuiltins "str" = some (.type "str"):=by decide +kernel
theorem rU{a b:Str}(h:a.cps.toList=b.cps.toList):a=b:=Str.ext' (OZ.mp h)
theorem rV(a b:Str):(a++b).cps.toList=a.cps.toList++b.cps.toList:=by rw[Str.cps_append,Mn]
theorem rT(a:Str):a.length=a.cps.toList.length:=by rw[MG];rfl
def spS:Str:=⟨#[32]⟩
def nlS:Str:=⟨#[10]⟩
theorem vH:((" " : String):Str)=spS:=by decide +kernel
theorem Ik:(("\n" : String):Str)=nlS:=by decide +kernel
theorem AS:(("" : String):Str)=Str.empty:=by decide +kernel
def jn(c:Nat):List (List Nat)->List Nat
 |[]=>[]
 |[a]=>a
 |a::b::r=>a++c::jn c (b::r)
theorem ox(c:Nat):∀ ws:List Str,(Str.join ⟨#[c]⟩ ws).cps.toList=jn c (ws.map (·.cps.toList))
 |[]=>rfl
 |[_]=>rfl
 |a::b::r=>by
  show((a++⟨#[c]⟩++Str.join ⟨#[c]⟩ (b::r)).cps.toList)=_
  rw[rV,rV,ox c (b::r)]
  show a.cps.toList++[c]++_=a.cps.toList++c::_
  rw[Ma]
  rfl
theorem GK{c:Nat}:∀{a b x y:List Nat},c∉a->c∉b->a++c::x=b++c::y->a=b/\x=y
 |[],[],_,_,_,_,h=>⟨rfl,(Oe h).2⟩
 |[],d::b,_,_,_,hb,h=>absurd (Oe h).1 fun z=>hb (by rw[z];exact LI ..)
 |d::a,[],_,_,ha,_,h=>absurd (Oe h).1 fun z=>ha (by rw[← z];exact LI ..)
 |d::a,e::b,x,y,ha,hb,h=>by
  have q:=Oe (show d::(a++c::x)=e::(b++c::y) from h)
  have r:=GK (fun z=>ha (LK _ z)) (fun z=>hb (LK _ z)) q.2
  exact⟨by rw[q.1,r.1],r.2⟩
theorem Jj{c:Nat}{a b y:List Nat}(ha:c∉a)(h:a=b++c::y):False:=ha (by rw[h];simp)
theorem Jt{c:Nat}:∀{P Q:List (List Nat)},P≠[]->Q≠[]->(∀ p∈P,c∉p)->(∀ p∈Q,c∉p)->jn c P=jn c Q->P=Q
 |[],_,h,_,_,_,_=>absurd rfl h
 |_,[],_,h,_,_,_=>absurd rfl h
 |[a],[b],_,_,_,_,h=>by rw[show a=b from h]
 |[a],b::b2::r,_,_,hP,_,h=>(Jj (hP a (LI ..)) (show a=b++c::jn c (b2::r) from h)).elim
 |a::a2::r,[b],_,_,_,hQ,h=>(Jj (hQ b (LI ..)) (show b=a++c::jn c (a2::r) from h.symm)).elim
 |a::a2::r,b::b2::t,_,_,hP,hQ,h=>by
  have q:=GK (hP a (LI ..)) (hQ b (LI ..)) (show a++c::jn c (a2::r)=b++c::jn c (b2::t) from h)
  rw[q.1,Jt (N9 _ _) (N9 _ _) (fun p z=>hP p (LK _ z)) (fun p z=>hQ p (LK _ z)) q.2]
theorem oZ:∀{a b:List Str},a.map (·.cps.toList)=b.map (·.cps.toList)->a=b
 |[],[],_=>rfl
 |[],_::_,h=>by cases h
 |_::_,[],h=>by cases h
 |_::_,_::_,h=>by
  have q:=Oe h
  rw[rU q.1,oZ q.2]
theorem GQ(c:Nat):∀ l:List Nat,0<=cnt c l
 |[]=>by rw[cnt_nil];exact Nr 0
 |n::r=>by
  have:=GQ c r
  rw[cnt_cons]
  split<;>omega
theorem qX{c:Nat}{ws:List Str}(h0:ws≠[])(hf:∀ w∈ws,c∉w.cps.toList):M8 (Str.join ⟨#[c]⟩ ws) ⟨#[c]⟩=ws:=by
 have h1:=StrLaws.join_split (Str.join ⟨#[c]⟩ ws) ⟨#[c]⟩
 have h2:=congrArg (fun s:Str=>s.cps.toList) h1
 simp only[ox]at h2
 have ne:M8 (Str.join ⟨#[c]⟩ ws) ⟨#[c]⟩≠[]:=fun z=>by
  have e:=split_len (Str.join ⟨#[c]⟩ ws) c
  rw[z]at e
  have:=GQ c (Str.join ⟨#[c]⟩ ws).cps.toList
  simp at e
  omega
 refine oZ (Jt (c:=c) (by simpa using ne) (by simpa using h0) (fun p hp=>?_) (fun p hp=>?_) h2)
 ·obtain⟨q,hq,rfl⟩:=L9.mp hp
  exact StrLaws.split_free _ c q hq
 ·obtain⟨q,hq,rfl⟩:=L9.mp hp
  exact hf q hq
def tx(n:Nat):Str:=Str.ofString (toString ((n:Nat):Int))
theorem vG(n:Nat):(tx n).cps.toList=(N6 10 n).map Char.toNat:=PySem.W.KIN.signs_num n
theorem EA(n:Nat):∀ c∈(tx n).cps.toList,48<=c/\c<=57:=fun c hc=>by
 rw[vG]at hc
 obtain⟨ch,hch,e⟩:=L9.mp hc
 rw[← e]
 exact digit_range (Nat.isDigit_of_mem_toDigits (by decide) (by decide) hch)
theorem uO{m:Nat}(h:10<=m):N6 10 m=N6 10 (m/10)++[Nat.digitChar (m%10)]:=by
 have hm:m%10<10:=Nat.mod_lt m (by decide)
 have t:=Nat.toDigits_append_toDigits (b:=10) (n:=m/10) (d:=m%10) (by decide) (by omega) hm
 rw[Nat.div_add_mod,Nn hm]at t
 exact t.symm
theorem CB:∀(k m:Nat),m<10^(k+1)->(N6 10 m).length<=k+1
 |0,m,h=>by rw[Nn (by omega)];exact LG 1
 |k+1,m,h=>by
  by_cases z:m<10
  ·rw[Nn z]
   show 1<=_
   omega
  ·rw[uO (by omega),Ly]
   have:=CB k (m/10) (by rw[Nat.pow_succ]at h;omega)
   show _+1<=_
   omega
theorem Gx:∀ m:Nat,N6 10 m≠[]:=fun m h=>by
 by_cases z:m<10
 ·rw[Nn z]at h;cases h
 ·rw[uO (by omega)]at h
  simp at h
theorem K9(m:Nat):m≠0->(N6 10 m).head?≠some '0':=by
 induction m using Nat.strongRecOn with
 |_ m ih =>
  intro h0
  by_cases z:m<10
  ·rw[Nn z]
   have:∀ d:Nat,d<10->d≠0->[Nat.digitChar d].head?≠some '0':=by decide
   exact this m z h0
  ·have q:=ih (m/10) (by omega) (by omega)
   rw[uO (by omega),List.head?_append]
   match N6 10 (m/10),Gx (m/10),q with
   |[],z,_=>exact absurd rfl z
   |_::_,_,q=>exact q
theorem Ez{k n:Nat}(h:n<10^(k+1)):(tx n).length<=k+1:=by
 rw[rT,vG,LB]
 exact CB k n h
theorem tx_ne(n:Nat):(tx n).cps.toList≠[]:=by
 rw[vG]
 intro h
 exact Gx n (List.map_eq_nil_iff.mp h)
theorem tx_val(n:Nat):Po (tx n).cps.toList=n:=by rw[vG];exact PySem.W.KIN.val_back n
theorem tx_hd{n:Nat}(h:(tx n).cps.toList.head?=some 48):n=0:=by
 rw[vG,List.head?_map]at h
 obtain⟨ch,hc,e⟩:=Mr.mp h
 have:ch = '0':=by
  have e2:ch.toNat=('0').toNat:=e
  exact Char.ext (UInt32.toNat_inj.mp e2)
 rw[this]at hc
 exact Decidable.byContradiction fun z=>K9 n z hc
def dig(w:Str):Bool:=w.cps.toList.all fun c=>decide (48<=c)&&decide (c<=57)
def nOf(figs:Nat)(w:Str):Option Nat:=if w.cps.toList = []∨figs<w.length∨dig w=false then none else if w.cps.toList.head?=some 48/\w.length≠1 then none else some (Po w.cps.toList)
theorem dig_tx(n:Nat):dig (tx n)=true:=NL.mpr fun c hc=>by
 have:=EA n c hc
 simp[this.1,this.2]
theorem Jk{k n:Nat}(h:n<10^(k+1)):nOf (k+1) (tx n)=some n:=by
 have hl:=Ez h
 unfold nOf
 rw[if_neg,if_neg,tx_val]
 ·rintro⟨a,b⟩
  have z:=tx_hd a
  subst z
  exact b (by decide +kernel)
 ·rintro(a | a | a)
  ·exact tx_ne n a
  ·omega
  ·rw[dig_tx]at a;cases a
structure Txt(mg:Str->Option Value):Prop where
 n_len:mg "len" = none
 n_int:mg "int" = none
 n_str:mg "str" = none
 n_bool:mg "bool" = none
 n_list:mg "list" = none
 n_tuple:mg "tuple" = none
 n_range:mg "range" = none
 n_all:mg "all" = none
 n_enumerate:mg "enumerate" = none
 n_isinstance:mg "isinstance" = none
 figs:∃ t,mg "MOST_FIGURES" = some (.int 31 t)
 most:∃ t,mg "MOST_TIES" = some (.int 80 t)
theorem Ej{α:Type}{x:α}{xs:List α}:atI (x::xs) 0=some x:=aD (j:=0) rfl
def wt:V->Str
 |.str z=>z
 |.int i=>toString i
 |_=>Str.empty
def Wd(v:V):Prop:=(∃ z:Str,v=.str z)∨∃ n:Nat,v=.int (n:Int)/\n<10^40
theorem et{n:Nat}(h:n<10^40):((n:Int)).natAbs.log2<1920:=by
 rw[Int.natAbs_natCast]
 by_cases z:n=0
 ·subst z;decide
 ·exact(Nat.log2_lt z).mpr (Mw h (by decide +kernel))
def rowT(ws:List Str):Str:=Str.join spS ws++nlS
def spRow(K:LA):Sp:=fun vs H Q _=>∃(a:Addr)(ws:List V),vs = [.ref a]/\SqL K H a ws/\ws.length<=100/\(∀ v∈ws,Wd v/\(wt v).length<=100)/\∀ H',Same H H'->Q (.str (rowT (ws.map wt))) H'
theorem g9:∀{ws:List Str}{k:Nat},(∀ w∈ws,w.length<=k)->(ws.map (·.length)).sum<=ws.length*k
 |[],_,_=>by simp
 |w::ws,k,h=>by
  have:=g9 (ws:=ws) fun x hx=>h x (LK _ hx)
  have:=h w (LI ..)
  rw[Mc,List.sum_cons,Mb,Nat.succ_mul]
  omega
theorem uF(c:Nat):∀ ws:List Str,(Str.join ⟨#[c]⟩ ws).length<=(ws.map (·.length)).sum+ws.length
 |[]=>LG 0
 |[a]=>by show a.length<=a.length+0+1;omega
 |a::b::r=>by
  have:=uF c (b::r)
  show(a++⟨#[c]⟩++Str.join ⟨#[c]⟩ (b::r)).length<=_
  rw[Str.length_append,Str.length_append,Mc,List.sum_cons,Mb]
  show a.length+1+_<=_
  omega
def oV:Option Nat->V
 |none=>.non
 |some n=>.int (n:Int)
def Asc(w:Str):Prop:=w.cps.all (· < 128)=true
def spNum:Sp:=fun vs H Q _=>∃(w:Str)(k:Nat),vs = [.str w,.int (k:Int)]/\k<=600/\w.length<=400000/\Asc w/\∀ H',Same H H'->Q (oV (nOf k w)) H'
section
variable{P:Program}{w:World}{K:LA}{mg:Str->Option Value}{base:Heap}
theorem EZ:aI ["words"] ["words"] (aj i9):=⟨rfl,rfl,rfl,by decide +kernel,rfl,by decide +kernel,by decide +kernel⟩
theorem ok_row{f:Addr}{fd:FuncData} (F:Fun K "row_of" "row_of" i9 f fd) (T:Txt mg):FnOk P w K mg base CX0 1 f fd ["words"] (spRow K):=by
 refine F.ok EZ (fun vs H Q E h=>?_) (fun cdv A outer s H vs Q E hr h=>?_)
 ·obtain⟨a,ws,rfl,_⟩:=h
  rfl
 obtain⟨a,ws,rfl,hS,len,hw,kk⟩:=h
 refine⟨_,(ao (aL (aF lO (cg MT Nf Nx oY bg (aa (dq rfl (fr:=[]) (by exact bK.plain (by rfl) (by decide +kernel) (by rfl) (by decide +kernel) (by rfl) (by decide +kernel)) (bz (pv 0)) (fun C ex s H=>(bA GZ (by rfl) T.n_str lz (aa (pv 0) ag)))) ag)) bg))),?_⟩
 refine⟨rfl,_,rfl,a,rfl,⟨_,hS⟩,?_⟩
 refine bI (K:=K) (xs:=ws) (fun i ys H2=>ys=(ws.take i).map (fun v=>V.str (wt v))/\H2=H) (MB len (by decide)) ⟨rfl,rfl⟩ (fun i ys H2 _ ⟨_,z⟩=>by rw[z];exact hS) ?_ ?_
 ·rintro i x ys H2 hx ⟨rfl,rfl⟩
  have e:(ws.take (i+1)).map (fun v=>V.str (wt v))=(ws.take i).map (fun v=>V.str (wt v))++[V.str (wt x)]:=by rw[Mo,hx,Mu];rfl
  rw[e]
  rcases(hw x (Lz hx)).1 with⟨z,rfl⟩ | ⟨n,rfl,hn⟩
  ·exact⟨_,rfl,.inr ⟨z,rfl,rfl,rfl⟩⟩
  ·exact⟨_,rfl,.inl ⟨_,rfl,et hn,rfl,rfl⟩⟩
 ·rintro ys H2 _ ⟨rfl,rfl⟩ D hD
  rw[My]
  have ml:(ws.map wt).length=ws.length:=LB _
  have sl:=g9 (ws:=ws.map wt) (k:=100) fun z hz=>by
   obtain⟨v,hv,rfl⟩:=L9.mp hz
   exact(hw v hv).2
  have jl:=uF 32 (ws.map wt)
  refine⟨((" " : String):Str),D,ws.map wt,rfl,rfl,SqL.of (by rw[ae,ME];rfl),?_,?_⟩
  ·rw[vH,ml]
   show _+ws.length*1<=_
   omega
  rw[vH]
  refine⟨_,_,rfl,rfl,?_,?_⟩
  ·have e1:(("\n" : String):Str).length=1:=by decide +kernel
   have:(1000000:Nat)<=sizeLine:=by decide
   show(Str.join ⟨#[32]⟩ (ws.map wt)).length+_<=_
   rw[e1]
   omega
  ·rw[Ik]
   exact kk _ (ai hD _)
theorem vV:aI ["word","figures"] ["word","figures"] (aj cU):=⟨rfl,rfl,rfl,by decide +kernel,rfl,by decide +kernel,by decide +kernel⟩
theorem ok_num{f:Addr}{fd:FuncData} (F:Fun K "number_of" "number_of" cU f fd) (T:Txt mg):FnOk P w K mg base CX0 1 f fd ["word","figures"] spNum:=by
 refine F.ok vV (fun vs H Q E h=>?_) (fun cdv A outer s H vs Q E hr h=>?_)
 ·obtain⟨a,ws,rfl,_⟩:=h
  rfl
 obtain⟨w,k,rfl,hk,hl,ha,kk⟩:=h
 have s640:(400000:Nat)<=sizeLine:=by decide
 refine⟨_,(af (bt (PW.pt (cG (av jw (pv 0) bg (aK _)) (cG (av Fs (ar x9 (by rfl) T.n_len aQ (aa (pv 0) ag)) (pv 1) (aK _)) (bN (dg (df (ar (G5 rfl) (by rfl) T.n_all bt_all (aa (dq rfl (fr:=[]) (by exact bK.plain (by rfl) (by decide +kernel) (by rfl) (by decide +kernel) (by rfl) (by decide +kernel)) (pi_str (pv 0)) (fun C ex s H=>(zN Fq (pv 0) bg (by with_unfolding_all rfl)))) ag)))))))) (ao (aL hG)) aN)
   (af (bt (PW.pt (E7 (av jw (aG ix_str (pv 0) ak (fun _ _=>rfl)) bg (aK _)) (zv (av dr (pv 0) bg (aK _))))) (ao (aL hG)) aN)
   (ao (aL (bA G4 (by rfl) T.n_int JC (aa (pv 0) ag)))))),?_⟩
 have eE:decide (V.str w=V.str (("" : String):Str))=decide (w.cps.toList = []):=decide_eq_decide.mpr ⟨fun z=>by rw[V.str.inj z,AS];rfl,fun z=>by rw[AS,rU (a:=w) (b:=Str.empty) z]⟩
 refine⟨_,rfl,rfl,_,rfl,?_⟩
 rw[eE]
 have kN:nOf k w=none->∀ H',Same H H'->Q .non H':=fun z H' s=>by
  have:=kk H' s
  rwa[z]at this
 refine ite2 (fun c=>iteT (kN (if_pos (.inl (of_decide_eq_true c))) _ fun _ _ q=>q)) (fun c=>?_)
 have ne:w.cps.toList≠[]:=fun z=>c (decide_eq_true z)
 refine⟨_,rfl,w,rfl,MB hl s640,_,rfl,_,_,rfl,rfl,_,rfl,ite2 (fun c2=>iteT (kN (if_pos (.inr (.inl (by have:=of_decide_eq_true c2;omega)))) _ fun _ _ q=>q)) (fun c2=>?_)⟩
 have le:w.length<=k:=by
  have:¬ ((k:Int)<(w.length:Int)):=fun z=>c2 (decide_eq_true z)
  omega
 refine⟨_,rfl,w,rfl,ha,IQ (x:=w) (fun i ys H2=>ys=(w.cps.toList.take i).map (fun c=>V.bl (decide (48<=c)&&decide (c<=57)))/\H2=H) (MB hl s640) ⟨rfl,rfl⟩ ?_ ?_⟩
 ·rintro i d ys H2 hd ⟨rfl,rfl⟩
  refine⟨_,rfl,_,_,rfl,rfl,?_,rfl⟩
  have fo:=StrLaws.found_one (("0123456789" : String):Str) d
  have e10:(("0123456789" : String):Str).cps.toList = [48,49,50,51,52,53,54,55,56,57]:=by decide +kernel
  rw[e10]at fo
  rw[fo,Mo,Nh,hd,Mu]
  have:decide (d∈[48,49,50,51,52,53,54,55,56,57])=(decide (48<=d)&&decide (d<=57)):=by
   rw[Ny,NM,decide_eq_true_iff,decide_eq_true_iff,decide_eq_true_iff]
   simp only[LC,Nd,or_false]
   omega
  rw[this]
  rfl
 ·rintro ys H2 _ ⟨rfl,rfl⟩ D hD
  have eT:w.cps.toList.take w.cps.size=w.cps.toList:=by rw[← MG,My]
  rw[eT]
  refine⟨D,w.cps.toList.map (fun c=>decide (48<=c)&&decide (c<=57)),rfl,SqL.of (by rw[ae,ME];rfl),_,rfl,?_⟩
  have ea:(w.cps.toList.map (fun c=>decide (48<=c)&&decide (c<=57))).all id=dig w:=by unfold dig;rw[List.all_map];rfl
  rw[ea]
  have sD:Same H2 (upd H2 D (.lst (w.cps.toList.map (fun c=>V.bl (decide (48<=c)&&decide (c<=57)))))):=ai hD _
  cases hd:dig w with
  |false=>exact iteT (kN (if_pos (.inr (.inr hd))) _ sD)
  |true =>
   refine iteF ?_
   have n1:¬ (w.cps.toList = []∨k<w.length∨dig w=false):=by
    rintro(z | z | z)
    ·exact ne z
    ·omega
    ·rw[hd]at z;cases z
   obtain⟨h0,tl,ew⟩:=O9 ne
   have ad:PySem.NumText.AllDigits w.cps.toList:=fun c hc=>by
    have:=NL.mp hd c hc
    rw[NM]at this
    exact⟨of_decide_eq_true this.1,of_decide_eq_true this.2⟩
   have fin:¬ (w.cps.toList.head?=some 48/\w.length≠1)->tRet (tCB (fun xs H Q=>∃ z n,xs = [V.str z]/\intText? z=some n/\z.length<=640/\Q (V.int n) H) (yP (tVar 0) tNil)) { nx:=fun x H'=>Q V.non H',rt:=Q } (L2.start [Str.ofString "word",Str.ofString "figures"] [V.str w,V.int (k:Int)]) (upd H2 D (.lst (w.cps.toList.map (fun c=>V.bl (decide (48<=c)&&decide (c<=57)))))):=fun n2=>by
    refine⟨_,rfl,w,_,rfl,intText_digits ad ne (by omega),by omega,?_⟩
    have:=kk _ sD
    unfold nOf at this
    rw[if_neg n1,if_neg n2]at this
    exact this
   refine⟨_,rfl,w,0,h0,rfl,rfl,MB hl s640,by rw[ew];exact Ej,rfl,_,rfl,ite2 (fun c3=>?_) (fun c3=>?_)⟩
   ·have e0:h0=48:=by
     have z:=V.str.inj (of_decide_eq_true c3)
     have z2:=congrArg (fun s:Str=>s.cps.toList) z
     have e48:(("0" : String):Str).cps.toList = [48]:=by decide +kernel
     rw[e48]at z2
     exact(Oe z2).1
    refine⟨_,rfl,rfl,_,rfl,ite2 (fun c4=>?_) (fun c4=>?_)⟩
    ·refine kN ?_ _ sD
     unfold nOf
     rw[if_neg n1,if_pos]
     refine⟨by rw[ew,e0];rfl,fun z=>?_⟩
     have z3:w=(("0" : String):Str):=rU (by
      have e48:(("0" : String):Str).cps.toList = [48]:=by decide +kernel
      rw[rT,ew]at z
      have:tl = []:=NU.mp (by simpa using z)
      rw[e48,ew,this,e0])
     rw[z3]at c4
     simp at c4
    ·refine fin fun⟨_,z⟩=>z ?_
     have z3:w=(("0" : String):Str):=by
      have:¬ (!decide (V.str w=V.str (("0" : String):Str)))=true:=c4
      simpa using this
     rw[z3]
     decide +kernel
   ·refine iteF (fin fun⟨z,_⟩=>c3 (decide_eq_true ?_))
    rw[ew]at z
    cases z
    have:(⟨#[48]⟩:Str)=(("0" : String):Str):=by decide +kernel
    rw[this]
end
end KF
namespace KF
open PySem L2 PyProof.Rows K8
local macro_rules | `(tactic| walk_at "cc") => `(tactic| first | exact ⟨by decide, by decide⟩ | (show (0 : Int) < _; decide) | (show (0 : Int) < _; omega) | (show (0 : Int) ≤ _; omega) | exact ⟨by decide, by decide, by decide⟩ | exact ⟨by omega, by omega, by decide⟩ | exact Or.inl ⟨by decide, by decide⟩ | exact Or.inl ⟨by omega, by omega⟩)
local macro_rules | `(tactic| walk_at "rd") => `(tactic| repeat (first | refine ⟨_, rfl, ?_⟩ | refine ⟨_, _, rfl, rfl, ?_⟩ | refine ⟨rfl, ?_⟩ | (refine ⟨?cc, ?_⟩; (case cc => walk_at "cc"))))
def jB(first row:Str)(k:Nat):Option (List Nat):=match M8 row spS with
 |[]=>none
 |w::ws=>if w=first/\(ws.map (nOf k)).all NA=true then some (ws.map fun z=>(nOf k z).getD 0) else none
def lV(H:Hp)(v:V):Option (List Nat)->Prop
 |none=>v=.non
 |some ns=>∃ a,v=.ref a/\H a=some (.lst (ns.map iV))
def EV:Sp:=fun vs H Q _=>∃(first row:Str)(k:Nat),vs = [.str first,.str row,.int (k:Int)]/\k<=600/\row.length<=300000/\Asc row/\∀ v H',Same H H'->lV H' v (jB first row k)->Q v H'
def oO:Sp:=fun vs H Q _=>∃(v:V)(i:Int),vs = [v,.int i]/\v≠.non/\Q v H
def r9(K:LA):Sp:=fun vs H Q _=>∃(a:Addr)(xs:List V)(i:Nat)(x:V),vs = [.ref a,.int (i:Int)]/\SqL K H a xs/\xs[i]?=some x/\Q x H
theorem HB(row:Str)(c:Nat):M8 row ⟨#[c]⟩≠[]:=fun z=>by
 have e:=split_len row c
 rw[z]at e
 have:=GQ c row.cps.toList
 simp at e
 omega
theorem Jr{c d:Nat}:∀{P:List (List Nat)}{p:List Nat},p∈P->d∈p->d∈jn c P
 |[a],p,hp,hd=>by
  rw[Mx.mp hp]at hd
  exact hd
 |a::b::r,p,hp,hd=>by
  show d∈a++c::jn c (b::r)
  rcases LC.mp hp with rfl | hp
  ·exact MC _ hd
  ·exact L4 _ (LK _ (Jr hp hd))
theorem Js{c:Nat}:∀{P:List (List Nat)}{p:List Nat},p∈P->p.length<=(jn c P).length
 |[a],p,hp=>by rw[Mx.mp hp];exact LG _
 |a::b::r,p,hp=>by
  show _<=(a++c::jn c (b::r)).length
  rw[Ly,Mb]
  rcases LC.mp hp with rfl | hp
  ·omega
  ·have:=Js (c:=c) hp
   omega
theorem EJ{row w:Str}{c:Nat}(h:Asc row)(hw:w∈M8 row ⟨#[c]⟩):Asc w/\w.length<=row.length:=by
 have h2:=congrArg (fun s:Str=>s.cps.toList) (StrLaws.join_split row ⟨#[c]⟩)
 simp only[ox]at h2
 have hm:w.cps.toList∈(M8 row ⟨#[c]⟩).map (·.cps.toList):=L9.mpr ⟨w,hw,rfl⟩
 constructor
 ·unfold Asc at h ⊢
  rw[← Array.all_toList]at h ⊢
  rw[NL]at h ⊢
  intro x hx
  refine h x ?_
  rw[← h2]
  exact Jr hm hx
 ·rw[rT,rT,← h2]
  exact Js hm
theorem CF(xs:List V):cutV xs (some 1) none=xs.drop 1:=by
 unfold cutV
 have q:=HT.sIx_nat xs.length 0 1
 rw[show((1:Nat):Int)=(1:Int) from rfl]at q
 rw[q,HT.sIx_none]
 rw[Ms (by rw[Mj];omega)]
 by_cases h:1<=xs.length
 ·rw[MU h]
 ·have e:xs = []:=NU.mp (by omega)
  subst e
  rfl
theorem Jv(k:Nat):∀ zs:List Str,inV .non (zs.map fun z=>oV (nOf k z)) = !((zs.map (nOf k)).all NA)
 |[]=>rfl
 |z::zs=>by
  have ih:=Jv k zs
  unfold inV at ih ⊢
  rw[Mc,ND,ih,Mc,OA]
  cases nOf k z<;>rfl
theorem Gu(k:Nat):∀ zs:List Str,(zs.map fun z=>oV (nOf k z)).all uL=true
 |[]=>rfl
 |z::zs=>by
  rw[Mc,OA,Gu k zs]
  cases nOf k z<;>rfl
theorem FI{k:Nat}:∀{zs:List Str},(zs.map (nOf k)).all NA=true->(zs.map fun z=>oV (nOf k z))=(zs.map fun z=>(nOf k z).getD 0).map iV
 |[],_=>rfl
 |z::zs,h=>by
  rw[Mc,OA,NM]at h
  obtain⟨n,hn⟩:=Ot.mp h.1
  rw[Mc,Mc,Mc,FI h.2,hn]
  rfl
section
variable{P:Program}{w:World}{K:LA}{mg:Str->Option Value}{base:Heap}
theorem HE:aI ["told","at"] ["told","at"] (aj lJ):=⟨rfl,rfl,rfl,by decide +kernel,rfl,by decide +kernel,by decide +kernel⟩
theorem HZ{f:Addr}{fd:FuncData} (F:Fun K "right" "right" lJ f fd):FnOk P w K mg base CX0 1 f fd ["told","at"] oO:=by
 refine F.ok HE (fun vs H Q E h=>?_) (fun cdv A outer s H vs Q E hr h=>?_)
 ·obtain⟨v,i,rfl,_⟩:=h
  rfl
 obtain⟨v,i,rfl,hv,q⟩:=h
 refine⟨_,(af (bt (av Cc (pv 0) hG (aK _)) (ao cH) aN)
   (ao (aL (pv 0)))),?_⟩
 exact⟨_,rfl,rfl,_,rfl,ite2 (fun c=>absurd (of_decide_eq_true c) hv) (fun _=>⟨_,rfl,q⟩)⟩
theorem E1:aI ["rows","number"] ["rows","number"] (aj ja):=⟨rfl,rfl,rfl,by decide +kernel,rfl,by decide +kernel,by decide +kernel⟩
theorem HY{f:Addr}{fd:FuncData} (F:Fun K "row_at" "row_at" ja f fd) (T:Txt mg):FnOk P w K mg base CX0 1 f fd ["rows","number"] (r9 K):=by
 refine F.ok E1 (fun vs H Q E h=>?_) (fun cdv A outer s H vs Q E hr h=>?_)
 ·obtain⟨a,xs,i,x,rfl,_⟩:=h
  rfl
 obtain⟨a,xs,i,x,rfl,hS,hx,q⟩:=h
 refine⟨_,(af (bt (av HP (pv 1) (ar aq (by rfl) T.n_len aQ (aa (pv 0) ag)) (aK _)) (ao cH) aN)
   (ao (aL (aG aA (pv 0) (pv 1) (fun _ _=>rfl))))),?_⟩
 have hi:i<xs.length:=(Lx.mp hx).1
 refine⟨_,rfl,_,rfl,a,xs,rfl,.inl hS,_,_,rfl,rfl,_,rfl,ite2 (fun c=>absurd (of_decide_eq_true c) (by omega)) (fun _=>?_)⟩
 exact⟨_,rfl,_,rfl,a,xs,_,x,rfl,rfl,hS,aD hx,q⟩
theorem cQ:aI ["first","row","figures","words","numbers"] ["first","row","figures"] (aj bp):=⟨rfl,rfl,rfl,by decide +kernel,rfl,by decide +kernel,by decide +kernel⟩
theorem ok_beh{f f1:Addr}{fd fd1:FuncData} (F:Fun K "numbers_behind" "numbers_behind" bp f fd) (G_number_of:Cal P w K mg base 1 "number_of" ["word","figures"] spNum f1 fd1):FnOk P w K mg base CX0 2 f fd ["first","row","figures"] EV:=by
 refine F.ok cQ (fun vs H Q E h=>?_) (fun cdv A outer s H vs Q E hr h=>?_)
 ·obtain⟨v,i,k,rfl,_⟩:=h
  rfl
 obtain⟨first,row,k,rfl,hk,hl,ha,kk⟩:=h
 refine⟨_,(af (ay (i:=3) cQ.nd rfl (Or.inl rfl) (cg MT Nw PySem.F.type_str_split Cj (pv 1) (aa bg ag)))
   (af (lK (i:=4) rfl cQ.nd rfl rfl (fr:=[("figures",2)]) (by exact bK.one (by rfl) (by decide +kernel) (by rfl) (by decide +kernel) (by rfl) (by decide +kernel) (by rfl) (by rfl) (by decide +kernel) (by rfl)) (bz (bY dk (pv 3) (cJ ak) fu)) (fun C ex s H=>(ax G_number_of.ok (hr.mono (by decide)) rfl G_number_of.mg G_number_of.kp G_number_of.bn .nil aR (aa (pv 0) (aa (pv 1) ag)))))
   (af (bt (PW.pt (cG (av dr (aG aA (pv 3) ak (fun _ _=>rfl)) (pv 0) (aK _)) (bN (av wu hG (pv 4) (by with_unfolding_all rfl))))) (ao (aL hG)) aN)
   (ao (aL (pv 4)))))),?_⟩
 rw[vH]
 have sl:=split_le row spS
 have s1:(400000:Nat)<=sizeLine:=by decide
 refine⟨_,rfl,rfl,row,spS,rfl,rfl,rfl,by omega,fun l hl=>?_⟩
 obtain⟨w0,ws,ew⟩:=O9 (HB row 32)
 have ew':M8 row spS=w0::ws:=ew
 rw[ew']
 rw[ew',Mb]at sl
 refine⟨_,rfl,_,rfl,l,_,rfl,SqL.of ae,fun c hc=>?_⟩
 have ec:cutV ((w0::ws).map V.str) (some 1) none=ws.map V.str:=CF _
 rw[ec]
 refine⟨c,rfl,⟨_,SqL.of ae⟩,?_⟩
 have sA:Same H (upd H l (.lst ((w0::ws).map V.str))):=ai hl _
 have sB:=ai hc (.lst (ws.map V.str))
 generalize hH1:upd (upd H l (.lst ((w0::ws).map V.str))) c (.lst (ws.map V.str))=H1 at sB ⊢
 have cH1:H1 c=some (.lst (ws.map V.str)):=by rw[← hH1,ae]
 have lH1:H1 l=some (.lst ((w0::ws).map V.str)):=sB _ _ ae
 have aw:∀ z∈w0::ws,Asc z/\z.length<=row.length:=fun z hz=>EJ (c:=32) ha (by rw[ew];exact hz)
 refine bI (K:=K) (xs:=ws.map V.str) (fun i ys H2=>ys=(ws.take i).map (fun z=>oV (nOf k z))/\Same H1 H2) (by rw[LB];omega) ⟨rfl,fun _ _ q=>q⟩ (fun i ys H2 _ ⟨_,z⟩=>SqL.of (z _ _ cH1)) ?_ ?_
 ·rintro i x ys H2 hx ⟨rfl,s2⟩
  rw[LL]at hx
  obtain⟨z,hz,rfl⟩:=Mr.mp hx
  have az:=aw z (LK _ (Lz hz))
  refine⟨_,rfl,_,rfl,z,k,rfl,hk,by omega,az.1,fun H' s'=>⟨?_,s2.trans s'⟩⟩
  rw[Mo,hz,Mu]
  rfl
 ·rintro ys H2 _ ⟨rfl,s2⟩ D hD
  rw[LB,My]
  have sD:=ai hD (.lst (ws.map fun z=>oV (nOf k z)))
  have sAll:Same H (upd H2 D (.lst (ws.map fun z=>oV (nOf k z)))):=sA.trans (sB.trans (s2.trans sD))
  have eb:jB first row k=if w0=first/\(ws.map (nOf k)).all NA=true then some (ws.map fun z=>(nOf k z).getD 0) else none:=by
   unfold jB
   rw[ew']
  have ed:(!decide (V.str w0=V.str first)) = !decide (w0=first):=congrArg _ (decide_eq_decide.mpr ⟨V.str.inj,congrArg V.str⟩)
  refine⟨_,rfl,l,_,0,.str w0,rfl,rfl,SqL.of (sD _ _ (s2 _ _ lH1)),Ej,_,rfl,rfl,_,rfl,?_⟩
  rw[ed]
  refine ite2 (fun c1=>iteT (kk _ _ sAll ?_)) (fun c1=>?_)
  ·rw[eb,if_neg fun z=>by rw[decide_eq_true z.1]at c1;cases c1]
   rfl
  refine⟨_,rfl,D,_,rfl,.inl (SqL.of ae),rfl,Gu k ws,_,rfl,?_⟩
  have ef:(if false=true then !inV V.non (ws.map fun z=>oV (nOf k z)) else inV V.non (ws.map fun z=>oV (nOf k z))) = !((ws.map (nOf k)).all NA):=Jv k ws
  rw[ef]
  cases hall:(ws.map (nOf k)).all NA with
  |false =>
   refine iteT (kk _ _ sAll ?_)
   rw[eb,if_neg fun z=>by rw[hall]at z;exact Bool.noConfusion z.2]
   rfl
  |true =>
   refine iteF ⟨_,rfl,kk _ _ sAll ?_⟩
   have w1:w0=first:=Decidable.byContradiction fun z=>c1 (by rw[decide_eq_false z];rfl)
   rw[eb,if_pos ⟨w1,hall⟩]
   exact⟨D,rfl,by rw[ae,FI hall]⟩
end
end KF
namespace KF
open PySem L2 PyProof.Rows K8
local macro_rules | `(tactic| walk_at "cc") => `(tactic| first | exact ⟨by decide, by decide⟩ | (show (0 : Int) < _; decide) | (show (0 : Int) < _; omega) | (show (0 : Int) ≤ _; omega) | exact ⟨by decide, by decide, by decide⟩ | exact ⟨by omega, by omega, by decide⟩ | exact Or.inl ⟨by decide, by decide⟩ | exact Or.inl ⟨by omega, by omega⟩)
local macro_rules | `(tactic| walk_at "rd") => `(tactic| repeat (first | refine ⟨_, rfl, ?_⟩ | refine ⟨_, _, rfl, rfl, ?_⟩ | refine ⟨rfl, ?_⟩ | (refine ⟨?cc, ?_⟩; (case cc => walk_at "cc"))))
theorem uh{K:LA}{H:Hp}{a:Addr}{ps:List Nat}(h:SqL K H a (ps.map iV)):RdD K H (.ref a) (.list ((ps.map fun(p:Nat)=>((p:Nat):Int)).map PyData.int)):=by
 refine RdD.lst h (by simp) fun i x d e1 e2=>?_
 rw[LL]at e1
 rw[LL,LL]at e2
 cases z:ps[i]? with
 |none=>rw[z]at e1;cases e1
 |some n =>
  rw[z]at e1 e2
  cases e1
  cases e2
  exact .int _
theorem pD(l:List Int):SeqAt.shaped (.list (l.map PyData.int))=true:=oQ fun d hd=>by
 obtain⟨x,_,rfl⟩:=L9.mp hd
 exact⟨by simp[PyData.canLay0],by simp[PyData.depth]⟩
theorem ot{X:Cx}{x:Str}{n:Int}{pos:Pos}(hg:Gl X x)(hm:∃ t,X.mg x=some (.int n t)) (hd:(x == ("__debug__" : Str))=false:=by decide):PE X (.Name x pos) (tC (.int n)):=by
 obtain⟨t,h⟩:=hm
 exact zM hg h ⟨t,rfl⟩ hd
def Rw(row:Str):Prop:=row.length<=300000/\Asc row
def fw(row:Str):Str:=(PySem.Txt.partition row spS).1
def spFW:Sp:=fun vs H Q _=>∃ row:Str,vs = [.str row]/\row.length<=300000/\∀ H',Same H H'->Q (.str (fw row)) H'
def sj:Sp:=fun vs H Q _=>∃(row:Str)(m:Nat),vs = [.str row]/\Rw row/\jB (("places" : String):Str) row 31=some [m]/\2<=m/\m<=40/\∀ H',Same H H'->Q (iV m) H'
def EK:Sp:=fun vs H Q _=>∃(row:Str)(a b s:Nat),vs = [.str row]/\Rw row/\jB (fw row) row 31=some [a,b,s]/\s<=10^30/\∀ p H',Same H H'->H' p=some (.tup [.str (fw row),iV a,iV b,iV s])->Q (.ref p) H'
def yQ:Sp:=fun vs H Q _=>∃(row:Str)(pl:Nat)(r:List Nat),vs = [iV pl,.str row]/\Rw row/\jB (("about" : String):Str) row 31=some (pl::r)/\r.length<=1000/\∀ p H',Same H H'->H p=none->H' p=some (.lst (r.map iV))->Q (.ref p) H'
section
variable{P:Program}{w:World}{K:LA}{mg:Str->Option Value}{base:Heap}
theorem sP:aI ["row"] ["row"] (aj cz):=⟨rfl,rfl,rfl,by decide +kernel,rfl,by decide +kernel,by decide +kernel⟩
theorem ok_fw{f:Addr}{fd:FuncData} (F:Fun K "first_word" "first_word" cz f fd):FnOk P w K mg base CX0 1 f fd ["row"] spFW:=by
 refine F.ok sP (fun vs H Q E h=>?_) (fun cdv A outer s H vs Q E hr h=>?_)
 ·obtain⟨row,rfl,_⟩:=h
  rfl
 obtain⟨row,rfl,hl,kk⟩:=h
 refine⟨_,(ao (aL (aG aX (cg MT O8 PySem.F.type_str_partition wU (pv 0) (aa bg ag)) ak (fun _ _=>rfl)))),?_⟩
 rw[vH]
 refine⟨_,rfl,rfl,row,spS,rfl,rfl,rfl,by omega,fun l hl=>?_⟩
 exact⟨l,_,0,_,rfl,rfl,SqT.of ae,rfl,kk _ (ai hl _)⟩
theorem jy:aI ["row","numbers"] ["row"] (aj bR):=⟨rfl,rfl,rfl,by decide +kernel,rfl,by decide +kernel,by decide +kernel⟩
theorem Fz{f f1:Addr}{fd fd1:FuncData} (F:Fun K "places_told" "places_told" bR f fd) (T:Txt mg) (G_numbers_behind:Cal P w K mg base 2 "numbers_behind" ["first","row","figures"] EV f1 fd1):FnOk P w K mg base CX0 3 f fd ["row"] sj:=by
 refine F.ok jy (fun vs H Q E h=>?_) (fun cdv A outer s H vs Q E hr h=>?_)
 ·obtain⟨row,m,rfl,_⟩:=h
  rfl
 obtain⟨row,m,rfl,hR,hb,m2,m40,kk⟩:=h
 refine⟨_,(af (ay (i:=1) jy.nd rfl (Or.inl rfl) (ax G_numbers_behind.ok (hr.mono (by decide)) rfl G_numbers_behind.mg G_numbers_behind.kp G_numbers_behind.bn .nil aR (aa bg (aa (pv 0) (aa (ot rfl T.figs) ag)))))
   (af (bt (PW.pt (cG (av Cc (pv 1) hG (aK _)) (cG (av dr (ar aq (by rfl) T.n_len aQ (aa (pv 1) ag)) ak (aK _)) (cG (av zP (aG aA (pv 1) ak (fun _ _=>rfl)) ak (aK _)) (bN (av Fs (aG aA (pv 1) ak (fun _ _=>rfl)) ak (aK _))))))) (ao (aL hG)) aN)
   (ao (aL (aG aA (pv 1) ak (fun _ _=>rfl)))))),?_⟩
 refine⟨_,rfl,_,row,31,rfl,by decide,hR.1,hR.2,fun v H1 s1 hv=>?_⟩
 rw[hb]at hv
 obtain⟨a,rfl,ha⟩:=hv
 refine⟨_,rfl,rfl,_,rfl,ite2 (fun c=>absurd (of_decide_eq_true c) (by intro z;cases z)) (fun _=>?_)⟩
 refine⟨_,rfl,a,_,rfl,.inl (SqL.of ha),rfl,_,rfl,iteF ?_⟩
 refine⟨_,rfl,a,_,0,_,rfl,rfl,SqL.of ha,Ej,_,_,rfl,rfl,_,rfl,ite2 (fun c=>absurd (of_decide_eq_true c) (by omega)) (fun _=>?_)⟩
 refine⟨_,rfl,a,_,0,_,rfl,rfl,SqL.of ha,Ej,_,_,rfl,rfl,_,rfl,ite2 (fun c=>absurd (of_decide_eq_true c) (by omega)) (fun _=>?_)⟩
 exact⟨_,rfl,a,_,0,_,rfl,rfl,SqL.of ha,Ej,kk _ s1⟩
theorem jG:aI ["row","kind","numbers"] ["row"] (aj dS):=⟨rfl,rfl,rfl,by decide +kernel,rfl,by decide +kernel,by decide +kernel⟩
theorem Kl{f f1 f2:Addr}{fd fd1 fd2:FuncData} (F:Fun K "tie_told" "tie_told" dS f fd) (T:Txt mg) (G_first_word:Cal P w K mg base 1 "first_word" ["row"] spFW f2 fd2) (G_numbers_behind:Cal P w K mg base 2 "numbers_behind" ["first","row","figures"] EV f1 fd1):FnOk P w K mg base CX0 3 f fd ["row"] EK:=by
 refine F.ok jG (fun vs H Q E h=>?_) (fun cdv A outer s H vs Q E hr h=>?_)
 ·obtain⟨row,a,b,s',rfl,_⟩:=h
  rfl
 obtain⟨row,a,b,s',rfl,hR,hb,hs,kk⟩:=h
 refine⟨_,(af (ay (i:=1) jG.nd rfl (Or.inl rfl) (ax G_first_word.ok (hr.mono (by decide)) rfl G_first_word.mg G_first_word.kp G_first_word.bn .nil aR (aa (pv 0) ag)))
   (af (ay (i:=2) jG.nd rfl (Or.inl rfl) (ax G_numbers_behind.ok (hr.mono (by decide)) rfl G_numbers_behind.mg G_numbers_behind.kp G_numbers_behind.bn .nil aR (aa (pv 1) (aa (pv 0) (aa (ot rfl T.figs) ag)))))
   (af (bt (PW.pt (cG (av Cc (pv 2) hG (aK _)) (cG (av dr (ar aq (by rfl) T.n_len aQ (aa (pv 2) ag)) ak (aK _)) (bN (av Fs (aG aA (pv 2) ak (fun _ _=>rfl)) (aF Fp ak ak) (aK _)))))) (ao (aL hG)) aN)
   (ao (aL (gU (aa (pv 1) (aa (aG aA (pv 2) ak (fun _ _=>rfl)) (aa (aG aA (pv 2) ak (fun _ _=>rfl)) (aa (aG aA (pv 2) ak (fun _ _=>rfl)) ag)))))))))),?_⟩
 refine⟨_,rfl,row,rfl,hR.1,fun H0 s0=>?_⟩
 refine⟨_,rfl,_,rfl,_,row,31,rfl,by decide,hR.1,hR.2,fun v H1 s1 hv=>?_⟩
 rw[hb]at hv
 obtain⟨q,rfl,hq⟩:=hv
 have e30:(10:Int)^(30:Int).toNat=((10^30:Nat):Int):=by decide
 refine⟨_,rfl,rfl,_,rfl,ite2 (fun c=>absurd (of_decide_eq_true c) (by intro z;cases z)) (fun _=>?_)⟩
 refine⟨_,rfl,q,_,rfl,.inl (SqL.of hq),rfl,_,rfl,iteF ?_⟩
 refine⟨_,rfl,q,_,2,_,rfl,rfl,SqL.of hq,(rfl:atI [iV a,iV b,iV s'] 2=some (iV s')),_,_,rfl,rfl,⟨by decide,by decide,by decide⟩,_,_,rfl,rfl,_,rfl,ite2 (fun c=>absurd (of_decide_eq_true c) (by rw[e30];omega)) (fun _=>?_)⟩
 refine⟨_,rfl,_,rfl,q,_,0,_,rfl,rfl,SqL.of hq,(rfl:atI [iV a,iV b,iV s'] 0=some (iV a)),_,rfl,q,_,1,_,rfl,rfl,SqL.of hq,(rfl:atI [iV a,iV b,iV s'] 1=some (iV b)),_,rfl,q,_,2,_,rfl,rfl,SqL.of hq,(rfl:atI [iV a,iV b,iV s'] 2=some (iV s')),(by show 4<=sizeLine;decide),fun t ht=>?_⟩
 exact kk t _ (s0.trans (s1.trans (ai ht _))) ae
theorem m7:aI ["place","row","numbers"] ["place","row"] (aj cR):=⟨rfl,rfl,rfl,by decide +kernel,rfl,by decide +kernel,by decide +kernel⟩
theorem HU{f f1:Addr}{fd fd1:FuncData} (F:Fun K "turn_told" "turn_told" cR f fd) (T:Txt mg) (G_numbers_behind:Cal P w K mg base 2 "numbers_behind" ["first","row","figures"] EV f1 fd1):FnOk P w K mg base CX0 3 f fd ["place","row"] yQ:=by
 refine F.ok m7 (fun vs H Q E h=>?_) (fun cdv A outer s H vs Q E hr h=>?_)
 ·obtain⟨row,pl,r,rfl,_⟩:=h
  rfl
 obtain⟨row,pl,r,rfl,hR,hb,rl,kk⟩:=h
 have hu64:=hr.units
 refine⟨_,(af (ay (i:=2) m7.nd rfl (Or.inl rfl) (ax G_numbers_behind.ok (hr.mono (by decide)) rfl G_numbers_behind.mg G_numbers_behind.kp G_numbers_behind.bn .nil aR (aa bg (aa (pv 1) (aa (ot rfl T.figs) ag)))))
   (af (bt (PW.pt (cG (av Cc (pv 2) hG (aK _)) (cG (av (op_eqG hu64) (pv 2) (bu ag) (aK _)) (bN (av dr (aG aA (pv 2) ak (fun _ _=>rfl)) (pv 0) (aK _)))))) (ao (aL hG)) aN)
   (ao (aL (bY dk (pv 2) (cJ ak) fu))))),?_⟩
 refine⟨_,rfl,_,row,31,rfl,by decide,hR.1,hR.2,fun v H1 s1 hv=>?_⟩
 rw[hb]at hv
 obtain⟨a,rfl,ha⟩:=hv
 refine⟨_,rfl,rfl,_,rfl,ite2 (fun c=>absurd (of_decide_eq_true c) (by intro z;cases z)) (fun _=>?_)⟩
 refine⟨_,rfl,(by show 0<=sizeLine;decide),fun e he=>?_⟩
 have se:=ai he (.lst [])
 have ha':=se _ _ ha
 refine⟨_,_,uh (ps:=pl::r) (SqL.of ha'),uh (ps:=[]) (SqL.of ae),pD _,pD _,_,rfl,?_⟩
 rw[IF]
 refine iteF ?_
 refine⟨_,rfl,a,_,0,_,rfl,rfl,SqL.of ha',Ej,_,rfl,rfl,_,rfl,?_⟩
 rw[decide_eq_true rfl]
 refine iteF ⟨_,rfl,_,rfl,a,_,rfl,SqL.of ha',fun q hq=>?_⟩
 have ec:cutV ((pl::r).map iV) (some 1) none=r.map iV:=CF _
 rw[ec]
 refine kk q _ (s1.trans (se.trans (ai hq _))) ?_ ae
 cases y:H q with
 |none=>rfl
 |some o=>rw[se _ _ (s1 _ _ y)]at hq;cases hq
end
end KF
namespace KF
open PySem L2 PyProof.Rows K8
local macro_rules | `(tactic| walk_at "cc") => `(tactic| first | exact ⟨by decide, by decide⟩ | (show (0 : Int) < _; decide) | (show (0 : Int) < _; omega) | (show (0 : Int) ≤ _; omega) | exact ⟨by decide, by decide, by decide⟩ | exact ⟨by omega, by omega, by decide⟩ | exact Or.inl ⟨by decide, by decide⟩ | exact Or.inl ⟨by omega, by omega⟩)
local macro_rules | `(tactic| walk_at "rd") => `(tactic| repeat (first | refine ⟨_, rfl, ?_⟩ | refine ⟨_, _, rfl, rfl, ?_⟩ | refine ⟨rfl, ?_⟩ | (refine ⟨?cc, ?_⟩; (case cc => walk_at "cc"))))
theorem Fj{X:Cx}{e:Expr}{t1 t2:TE}(h1:PE X e t1)(h2:PE X e t2):PE X e (fun σ H Q=>t1 σ H Q∨t2 σ H Q):=fun pins s σ H Q I h=>h.elim (h1 pins s σ H Q I) (h2 pins s σ H Q I)
def qY(push:Bool):Sp:=fun vs H Q _=>∃ p,vs = [.ref p]/\Q (.int (if push=true then 1 else 0)) H
theorem zu{ws:List Str}{k:Nat}(h:∀ w∈ws,w.length<=k):(rowT ws).length<=ws.length*k+ws.length+1:=by
 have sl:=g9 h
 have jl:=uF 32 ws
 unfold rowT
 rw[Str.length_append]
 show(Str.join ⟨#[32]⟩ ws).length+1<=_
 omega
def plW:Str:=(("places" : String):Str)
def abW:Str:=(("about" : String):Str)
def tieW(e:Nat×Nat)(k:Int×Int):List Str:=[kS k.1,tx e.1,tx e.2,tx k.2.toNat]
def abRW(i:Nat)(l:List Nat):List Str:=abW::tx i::l.map tx
def aW(m:Nat)(es:En)(ks:Kn)(ts:List (List Nat)):List (List Str):=[plW,tx m]::((MH es.length).map (fun i=>tieW (es.getD i (0,0)) (ks.getD i (0,0)))++(MH ts.length).map fun i=>abRW i (ts.getD i []))
def webT(m:Nat)(es:En)(ks:Kn)(ts:List (List Nat)):Str:=Str.join Str.empty ((aW m es ks ts).map rowT)
structure Wr(m:Nat)(es:En)(ks:Kn)(ts:List (List Nat)):Prop where
 kl:ks.length=es.length
 few:es.length<=63
 m2:2<=m
 m40:m<=40
 tl:ts.length=m
 kk:∀ k∈ks,(k.1=0∨k.1=1)/\0<=k.2/\k.2<=10^30
 ee:∀ e∈es,e.1<40/\e.2<40
 rl:∀ l∈ts,l.length<=63/\∀ t∈l,t<63
theorem Jq(k:Int):(kS k).length=4:=by
 unfold kS
 split<;>decide +kernel
theorem tx31{n:Nat}(h:n<=10^30):(tx n).length<=31:=Ez (k:=30) (OQ h (by decide))
theorem tx2{n:Nat}(h:n<100):(tx n).length<=2:=Ez (k:=1) h
theorem getD_mem{α:Type}{l:List α}{i:Nat}{d:α}(h:i<l.length):l.getD i d∈l:=by
 rw[Mg,Lw h]
 exact Mm h
theorem Wr.tw{m:Nat}{es:En}{ks:Kn}{ts:List (List Nat)}(w:Wr m es ks ts){i:Nat}(h:i<es.length):∀ z∈tieW (es.getD i (0,0)) (ks.getD i (0,0)),z.length<=31:=fun z hz=>by
 have e:=w.ee _ (getD_mem (d:=(0,0)) h)
 have k:=w.kk _ (getD_mem (d:=(0,0)) (by rw[w.kl];exact h))
 unfold tieW at hz
 simp only[LC,Nd,or_false]at hz
 rcases hz with rfl | rfl | rfl | rfl
 ·rw[Jq];omega
 ·have:=tx2 (n:=(es.getD i (0,0)).1) (by omega);omega
 ·have:=tx2 (n:=(es.getD i (0,0)).2) (by omega);omega
 ·exact tx31 (by omega)
theorem Wr.aw{m:Nat}{es:En}{ks:Kn}{ts:List (List Nat)}(w:Wr m es ks ts){i:Nat}(h:i<ts.length):(∀ z∈abRW i (ts.getD i []),z.length<=5)/\(abRW i (ts.getD i [])).length<=65:=by
 have r:=w.rl _ (getD_mem (d:=[]) h)
 have:=w.tl
 have:=w.m40
 refine⟨fun z hz=>?_,by unfold abRW;rw[Mb,Mb,LB];omega⟩
 unfold abRW at hz
 rcases LC.mp hz with rfl | hz
 ·decide +kernel
 rcases LC.mp hz with rfl | hz
 ·have:=tx2 (n:=i) (by omega);omega
 ·obtain⟨t,ht,rfl⟩:=L9.mp hz
  have:=r.2 t ht
  have:=tx2 (n:=t) (by omega);omega
theorem Wr.rows{m:Nat}{es:En}{ks:Kn}{ts:List (List Nat)}(w:Wr m es ks ts):(∀ r∈(aW m es ks ts).map rowT,r.length<=400)/\((aW m es ks ts).map rowT).length<=104:=by
 have:=w.tl
 have:=w.m40
 have:=w.few
 refine⟨fun r hr=>?_,by unfold aW;simp;omega⟩
 obtain⟨ws,hw,rfl⟩:=L9.mp hr
 unfold aW at hw
 rcases LC.mp hw with rfl | hw
 ·have h:=zu (ws:=[plW,tx m]) (k:=6) fun z hz=>by
   rcases LC.mp hz with rfl | hz
   ·decide +kernel
   ·rw[Mx.mp hz]
    have:=tx2 (n:=m) (by omega)
    omega
  have:([plW,tx m]:List Str).length=2:=rfl
  omega
 rcases LJ.mp hw with hw | hw
 ·obtain⟨i,hi,rfl⟩:=L9.mp hw
  have h:=zu (w.tw (Nj.mp hi))
  have:(tieW (es.getD i (0,0)) (ks.getD i (0,0))).length=4:=rfl
  omega
 ·obtain⟨i,hi,rfl⟩:=L9.mp hw
  obtain⟨h1,h2⟩:=w.aw (Nj.mp hi)
  have h:=zu h1
  omega
def rZ(PL PS:Addr):Sp:=fun vs H Q _=>∃(p dx:Addr)(e:Nat×Nat)(k:Int×Int),vs = [.ref p]/\H p=some (.ins (cls PL PS (decide (k.1=1))) dx (tf (e.1:Int) (e.2:Int) k.2))/\(k.1=0∨k.1=1)/\0<=k.2/\k.2<=10^30/\e.1<40/\e.2<40/\∀ H',Same H H'->Q (.str (rowT (tieW e k))) H'
def oM(PL PS WC:Addr):Sp:=fun vs H Q _=>∃(S:Addr->Prop)(p:Addr)(m:Nat)(es:En)(ts rs:List (List Nat))(ks:Kn),vs = [.ref p]/\WebF S PL PS WC H p m es ts rs ks/\Wr m es ks ts/\∀ H',Same H H'->Q (.str (webT m es ks ts)) H'
section
variable{P:Program}{w:World}{K:LA}{mg:Str->Option Value}{base:Heap}
theorem zk:aI ["self"] ["self"] (aj eg):=⟨rfl,rfl,rfl,by decide +kernel,rfl,by decide +kernel,by decide +kernel⟩
theorem HR{f:Addr}{fd:FuncData} (F:Fun K "wish" "Tie.wish" eg f fd):FnOk P w K mg base CX0 1 f fd ["self"] (qY false):=by
 refine F.ok zk (fun vs H Q E h=>?_) (fun cdv A outer s H vs Q E hr h=>?_)
 ·obtain⟨p,rfl,_⟩:=h
  rfl
 obtain⟨p,rfl,k⟩:=h
 exact⟨_,(ao (aL ak)),k⟩
theorem vW:aI ["self"] ["self"] (aj cZ):=⟨rfl,rfl,rfl,by decide +kernel,rfl,by decide +kernel,by decide +kernel⟩
theorem HQ{f:Addr}{fd:FuncData} (F:Fun K "wish" "Push.wish" cZ f fd):FnOk P w K mg base CX0 1 f fd ["self"] (qY true):=by
 refine F.ok vW (fun vs H Q E h=>?_) (fun cdv A outer s H vs Q E hr h=>?_)
 ·obtain⟨p,rfl,_⟩:=h
  rfl
 obtain⟨p,rfl,k⟩:=h
 exact⟨_,(ao (aL ak)),k⟩
theorem q8:aI ["tie","kind"] ["tie"] (aj fN):=⟨rfl,rfl,rfl,by decide +kernel,rfl,by decide +kernel,by decide +kernel⟩
theorem Fu{f f1 f0 g1 PL PS:Addr}{fd d1 d0 e1:FuncData} (F:Fun K "tie_row" "tie_row" fN f fd) (TL:CT K PL) (TS:CT K PS) (G_row_of:Cal P w K mg base 1 "row_of" ["words"] (spRow K) f1 d1) (u0:Met P w K mg base 1 PL "wish" ["self"] (qY false) f0 d0) (u1:Met P w K mg base 1 PS "wish" ["self"] (qY true) g1 e1):FnOk P w K mg base CX0 2 f fd ["tie"] (rZ PL PS):=by
 refine F.ok q8 (fun vs H Q E h=>?_) (fun cdv A outer s H vs Q E hr h=>?_)
 ·obtain⟨p,dx,e,k,rfl,_⟩:=h
  rfl
 obtain⟨p,dx,e,k,rfl,hp,k01,k0,k30,l1,l2,kk⟩:=h
 have CL0:=TL.cl
 have CL1:=TS.cl
 refine⟨_,(af (ay (i:=1) q8.nd rfl (Or.inl rfl) (oq (av jw (Fj (B0 (pv 0) CL0 u0.me u0.ok (hr.mono (by decide)) u0.bn .nil aR) (B0 (pv 0) CL1 u1.me u1.ok (hr.mono (by decide)) u1.bn .nil aR)) ak (aK _)) bg bg))
   (ao (aL (ax G_row_of.ok (hr.mono (by decide)) rfl G_row_of.mg G_row_of.kp G_row_of.bn .nil aR (aa (bu (aa (pv 1) (aa (bE (pv 0) rfl) (aa (bE (pv 0) rfl) (aa (bE (pv 0) rfl) ag))))) ag))))),?_⟩
 obtain⟨n,hn⟩:∃ n:Nat,k.2=(n:Int):=⟨k.2.toNat,by omega⟩
 have fin:∀ C:Addr,CT K C->H p=some (.ins C dx (tf (e.1:Int) (e.2:Int) k.2))->(tAsg (tC (V.str (kS k.1))) (K1 1)) { nx:=fun σ H1=>tRet (tCall (spRow K) [] E0 (yP (tLst (yP (tVar 1) (yP (tFld K (tVar 0) "one") (yP (tFld K (tVar 0) "two") (yP (tFld K (tVar 0) "strength") tNil))))) tNil)) { nx:=fun x H'=>Q V.non H',rt:=Q } σ H1,rt:=Q } [some (.ref p),none] H:=fun C CC hp=>by
  refine⟨_,rfl,_,rfl,p,C,dx,_,_,rfl,hp,CC.cl,CC.n1,kG _ _ _,_,rfl,p,C,dx,_,_,rfl,hp,CC.cl,CC.n2,oK _ _ _,_,rfl,p,C,dx,_,_,rfl,hp,CC.cl,CC.n3,ED _ _ _,(by show 4<=sizeLine;decide),fun a ha=>?_⟩
  refine⟨a,_,rfl,SqL.of ae,(by show 4<=100;decide),fun v hv=>?_,fun H' s'=>?_⟩
  ·simp only[LC,Nd,or_false]at hv
   rcases hv with rfl | rfl | rfl | rfl
   ·exact⟨.inl ⟨_,rfl⟩,by show(kS k.1).length<=100;rw[Jq];decide⟩
   ·exact⟨.inr ⟨e.1,rfl,by omega⟩,by show(tx e.1).length<=100;have:=tx2 (n:=e.1) (by omega);omega⟩
   ·exact⟨.inr ⟨e.2,rfl,by omega⟩,by show(tx e.2).length<=100;have:=tx2 (n:=e.2) (by omega);omega⟩
   ·rw[hn]
    exact⟨.inr ⟨n,rfl,by omega⟩,by show(tx n).length<=100;have:=tx31 (n:=n) (by omega);omega⟩
  ·have z:=kk _ ((ai ha _).trans s')
   unfold tieW at z
   rw[hn]at z ⊢
   exact z
 by_cases c:k.1=1
 ·rw[decide_eq_true c]at hp
  refine .inr ⟨_,rfl,p,dx,_,rfl,hp,tf_no _ _ _ (by decide +kernel) (by decide +kernel) (by decide +kernel),p,rfl,rfl,_,rfl,?_⟩
  have z:=fin PS TS hp
  rw[show kS k.1=(("push" : String):Str) from by rw[c];rfl]at z
  exact iteT z
 ·rw[decide_eq_false c]at hp
  refine .inl ⟨_,rfl,p,dx,_,rfl,hp,tf_no _ _ _ (by decide +kernel) (by decide +kernel) (by decide +kernel),p,rfl,rfl,_,rfl,?_⟩
  have z:=fin PL TL hp
  rw[show kS k.1=(("pull" : String):Str) from by unfold kS;rw[if_neg c]]at z
  exact iteF z
theorem q0:aI ["web","rows"] ["web"] (aj fM):=⟨rfl,rfl,rfl,by decide +kernel,rfl,by decide +kernel,by decide +kernel⟩
theorem Dh{f f1 f2 PL PS WC:Addr}{fd d1 d2:FuncData} (F:Fun K "written" "written" fM f fd) (T:Txt mg) (cw:CW K WC) (G_row_of:Cal P w K mg base 1 "row_of" ["words"] (spRow K) f1 d1) (G_tie_row:Cal P w K mg base 2 "tie_row" ["tie"] (rZ PL PS) f2 d2):FnOk P w K mg base CX0 3 f fd ["web"] (oM PL PS WC):=by
 refine F.ok q0 (fun vs H Q E h=>?_) (fun cdv A outer s H vs Q E hr h=>?_)
 ·obtain⟨S,p,m,es,ts,rs,ks,rfl,_⟩:=h
  rfl
 obtain⟨S,p,m,es,ts,rs,ks,rfl,⟨dx,fs,q1,xs,hp,wg,_,lk,hq1,tk⟩,wr,kk⟩:=h
 obtain⟨many,⟨qt,zt,lt,_,hqt,rt⟩,_,_,_⟩:=wg
 refine⟨_,(af (ay (i:=1) q0.nd rfl (Or.inl rfl) (bu (aa (ax G_row_of.ok (hr.mono (by decide)) rfl G_row_of.mg G_row_of.kp G_row_of.bn .nil aR (aa (bu (aa bg (aa (bE (pv 0) rfl) ag))) ag)) ag)))
   (af (a8 (cg LY Pk Ph wW (pv 1) (aa (dq rfl (fr:=[]) (by exact bK.plain (by rfl) (by decide +kernel) (by rfl) (by decide +kernel) (by rfl) (by decide +kernel)) (bz (bE (pv 0) rfl)) (fun C ex s H=>(ax G_tie_row.ok (hr.mono (by decide)) rfl G_tie_row.mg G_tie_row.kp G_tie_row.bn .nil aR (aa (pv 0) ag)))) ag)))
   (af (a8 (cg LY Pk Ph wW (pv 1) (aa (B8 rfl (fr:=[]) (xs:=["place","about"]) (vB.of (by rfl) (by decide +kernel) (by rfl) (by decide +kernel) (fun p hp=>nomatch hp) (by decide +kernel) (fun p hp=>nomatch hp)) (zJ rfl T.n_enumerate (aa (bE (pv 0) rfl) ag)) (fun C ex s H=>(Ff (n:=2) (K:=K) rfl rfl (bX (aU (i:=0) (show(["place","about"]:List Str).Nodup from by decide +kernel) rfl (Or.inl rfl)) (bX (aU (i:=1) (show(["place","about"]:List Str).Nodup from by decide +kernel) rfl (Or.inl rfl)) oT)))) (fun C ex s H=>E8) (fun C ex s H=>(ax G_row_of.ok (hr.mono (by decide)) rfl G_row_of.mg G_row_of.kp G_row_of.bn .nil aR (aa (aF (show OpR _ (binaryOp .Add) (rCatS K) from jK) (bu (aa bg (aa (pv 0) ag))) (pv 1)) ag)))) ag)))
   (ao (aL (cg MT Nf Nx oY bg (aa (pv 1) ag))))))),?_⟩
 refine⟨_,rfl,p,WC,dx,fs,_,rfl,hp,cw.cl,cw.n1,many,(by show 2<=sizeLine;decide),fun a0 ha0=>?_⟩
 refine⟨a0,_,rfl,SqL.of ae,(by show 2<=100;decide),fun v hv=>?_,fun H1 s1=>?_⟩
 ·simp only[LC,Nd,or_false]at hv
  have:=wr.m40
  rcases hv with rfl | rfl
  ·exact⟨.inl ⟨_,rfl⟩,by show plW.length<=100;decide +kernel⟩
  ·exact⟨.inr ⟨m,rfl,by omega⟩,by show(tx m).length<=100;have:=tx2 (n:=m) (by omega);omega⟩
 have few:=wr.few
 have kl:=wr.kl
 have m40:=wr.m40
 have tl:=wr.tl
 have s64:(400000:Nat)<=sizeLine:=by decide
 have s01:=(ai ha0 (.lst [V.str (("places" : String):Str),.int (m:Int)])).trans s1
 refine⟨(by show 1<=sizeLine;decide),fun R hR=>?_⟩
 have hR0:H R=none:=by
  cases e:H R with
  |none=>rfl
  |some o=>rw[s01 _ _ e]at hR;cases hR
 have s2:=s01.trans (ai hR (.lst [V.str (rowT [plW,tx m])]))
 have g2:(upd H1 R (.lst [V.str (rowT [plW,tx m])])) R=some (.lst [V.str (rowT [plW,tx m])]):=ae
 have xe:V.str (rowT ([V.str (("places" : String):Str),.int (m:Int)].map wt))=V.str (rowT [plW,tx m]):=rfl
 rw[xe]
 generalize upd H1 R (.lst [V.str (rowT [plW,tx m])])=H2 at s2 g2
 refine⟨_,rfl,.inl ⟨rfl,_,SqL.of g2⟩,_,rfl,p,WC,dx,fs,_,rfl,s2 _ _ hp,cw.cl,cw.n2,lk,q1,rfl,⟨_,SqL.of (s2 _ _ hq1)⟩,bI (K:=K) (xs:=xs) (fun i ys H3=>Same H2 H3/\ys=((MH i).map fun j=>V.str (rowT (tieW (es.getD j (0,0)) (ks.getD j (0,0)))))) (by rw[tk.1];omega) ⟨fun _ _ z=>z,rfl⟩ (fun i ys H3 _ z=>SqL.of (z.1 _ _ (s2 _ _ hq1))) ?_ ?_⟩
 ·rintro i x ys H3 hx ⟨s3,rfl⟩
  have hi:i<es.length:=by rw[← tk.1];exact(Lx.mp hx).1
  obtain⟨p',dx',x1,x2⟩:=(tk.mono (s2.trans s3)).2 i es[i] ks[i] (Lw hi) (Lw (by omega))
  rw[hx]at x1
  cases x1
  have ge:es.getD i (0,0)=es[i]:=by rw[Mg,Lw hi];rfl
  have gk:ks.getD i (0,0)=ks[i]:=by rw[Mg,Lw (show i<ks.length by omega)];rfl
  have k':=wr.kk ks[i] (Mm _)
  have e':=wr.ee es[i] (Mm _)
  refine⟨_,rfl,p',dx',es[i],ks[i],rfl,x2,k'.1,k'.2.1,k'.2.2,e'.1,e'.2,fun H4 s4=>⟨s3.trans s4,?_⟩⟩
  rw[OF,Mu,List.map_singleton,ge,gk]
 rintro ys H3 _ ⟨s3,rfl⟩ D hD
 rw[tk.1]
 have sD:=ai hD (.lst ((MH es.length).map fun j=>V.str (rowT (tieW (es.getD j (0,0)) (ks.getD j (0,0))))))
 have g3:=sD _ _ (s3 _ _ g2)
 refine⟨R,D,_,_,rfl,rfl,g3,ae,by rw[LB,MA];show 1+_<=_;omega,?_⟩
 have s5:=a9 ((s2.trans s3).trans sD) hR0 (.lst ([V.str (rowT [plW,tx m])]++(MH es.length).map fun j=>V.str (rowT (tieW (es.getD j (0,0)) (ks.getD j (0,0))))))
 have g5:(upd (upd H3 D (.lst ((MH es.length).map fun j=>V.str (rowT (tieW (es.getD j (0,0)) (ks.getD j (0,0))))))) R (.lst ([V.str (rowT [plW,tx m])]++(MH es.length).map fun j=>V.str (rowT (tieW (es.getD j (0,0)) (ks.getD j (0,0))))))) R=some (.lst ([V.str (rowT [plW,tx m])]++(MH es.length).map fun j=>V.str (rowT (tieW (es.getD j (0,0)) (ks.getD j (0,0)))))):=ae
 generalize upd (upd H3 D (.lst ((MH es.length).map fun j=>V.str (rowT (tieW (es.getD j (0,0)) (ks.getD j (0,0))))))) R (.lst ([V.str (rowT [plW,tx m])]++(MH es.length).map fun j=>V.str (rowT (tieW (es.getD j (0,0)) (ks.getD j (0,0))))))=H5 at s5 g5
 refine⟨_,rfl,.inl ⟨rfl,_,SqL.of g5⟩,_,rfl,p,WC,dx,fs,_,rfl,s5 _ _ hp,cw.cl,cw.n3,lt,qt,rfl,⟨_,SqL.of (s5 _ _ hqt)⟩,D8 (K:=K) (xs:=zt) (fun i ys H6=>Same H5 H6/\ys=((MH i).map fun j=>V.str (rowT (abRW j (ts.getD j []))))) (by rw[rt.1];omega) ⟨fun _ _ z=>z,rfl⟩ (fun i ys H6 _ z=>SqL.of (z.1 _ _ (s5 _ _ hqt))) ?_ ?_ (fun i ys H6 z=>by rw[z.2,LB,MA];exact LG _)⟩
 ·rintro i x ys H6 T6 hx ⟨s6,rfl⟩ hT6
  have hi:i<ts.length:=by rw[← rt.1];exact(Lx.mp hx).1
  have sT:=ai hT6 (.tup [.int (i:Int),x])
  obtain⟨r,x1,_,x2⟩:=rt.2 i ts[i] (Lw hi)
  rw[hx]at x1
  cases x1
  have x3:=sT _ _ (s6 _ _ (s5 _ _ x2))
  have gt:ts.getD i []=ts[i]:=by rw[Mg,Lw hi];rfl
  obtain⟨w1,w2⟩:=wr.aw hi
  rw[gt]at w1 w2
  refine⟨T6,_,rfl,SqT.of ae,rfl,_,_,rfl,_,_,rfl,rfl,rfl,yesT ?_⟩
  refine⟨_,rfl,(by show 2<=sizeLine;decide),fun b hb=>?_⟩
  have sb:=ai hb (.lst [V.str (("about" : String):Str),.int (i:Int)])
  refine⟨_,rfl,b,r,_,_,rfl,rfl,SqL.of ae,SqL.of (sb _ _ x3),?_,fun c hc=>?_⟩
  ·have:=(wr.rl ts[i] (Mm _)).1
   rw[LB]
   show 2+_<=_
   omega
  have r63:=wr.rl ts[i] (Mm _)
  refine⟨c,_,rfl,SqL.of ae,?_,fun v hv=>?_,fun H7 s7=>⟨s6.trans (sT.trans (sb.trans ((ai hc _).trans s7))),?_⟩⟩
  ·have:=r63.1
   rw[Ly,LB]
   show 2+_<=_
   omega
  ·rcases LJ.mp hv with hv | hv
   ·simp only[LC,Nd,or_false]at hv
    rcases hv with rfl | rfl
    ·exact⟨.inl ⟨_,rfl⟩,by show abW.length<=100;decide +kernel⟩
    ·exact⟨.inr ⟨i,rfl,by omega⟩,by show(tx i).length<=100;have:=tx2 (n:=i) (by omega);omega⟩
   ·obtain⟨t,ht,rfl⟩:=L9.mp hv
    have:=r63.2 t ht
    exact⟨.inr ⟨t,rfl,by omega⟩,by show(tx t).length<=100;have:=tx2 (n:=t) (by omega);omega⟩
  ·have ew:([V.str (("about" : String):Str),.int (i:Int)]++ts[i].map iV).map wt=abRW i ts[i]:=by
    rw[Mu,ME]
    rfl
   rw[ew,OF,Mu,List.map_singleton,gt]
 rintro ys H6 ⟨s6,rfl⟩ D2 hD2
 rw[rt.1]
 have sD2:=ai hD2 (.lst ((MH ts.length).map fun j=>V.str (rowT (abRW j (ts.getD j [])))))
 have g6:=sD2 _ _ (s6 _ _ g5)
 refine⟨R,D2,_,_,rfl,rfl,g6,ae,by rw[Ly,LB,LB,MA,MA];show 1+_+_<=_;omega,?_⟩
 obtain⟨r1,r2⟩:=wr.rows
 have sl:=g9 r1
 have el : [V.str (rowT [plW,tx m])]++(MH es.length).map (fun j=>V.str (rowT (tieW (es.getD j (0,0)) (ks.getD j (0,0)))))++(MH ts.length).map (fun j=>V.str (rowT (abRW j (ts.getD j []))))=((aW m es ks ts).map rowT).map V.str:=by
  unfold aW
  simp only[Mc,Mu,ME,List.singleton_append,M1]
  rfl
 rw[el]
 refine⟨rfl,_,rfl,(("" : String):Str),R,(aW m es ks ts).map rowT,rfl,rfl,SqL.of ae,?_,?_⟩
 ·rw[AS]
  show _+_*0<=_
  omega
 rw[AS]
 exact kk _ (a9 (s5.trans (s6.trans sD2)) hR0 _)
end
end KF
namespace KF
open PySem L2 PyProof.Rows K8
local macro_rules | `(tactic| walk_at "cc") => `(tactic| first | exact ⟨by decide, by decide⟩ | (show (0 : Int) < _; decide) | (show (0 : Int) < _; omega) | (show (0 : Int) ≤ _; omega) | exact ⟨by decide, by decide, by decide⟩ | exact ⟨by omega, by omega, by decide⟩ | exact Or.inl ⟨by decide, by decide⟩ | exact Or.inl ⟨by omega, by omega⟩)
local macro_rules | `(tactic| walk_at "rd") => `(tactic| repeat (first | refine ⟨_, rfl, ?_⟩ | refine ⟨_, _, rfl, rfl, ?_⟩ | refine ⟨rfl, ?_⟩ | (refine ⟨?cc, ?_⟩; (case cc => walk_at "cc"))))
theorem JQ{n d:Nat}(h:d<48∨57<d):d∉(tx n).cps.toList:=fun z=>by
 have:=EA n d z
 omega
theorem vi{first:Str}{ns:List Nat}(hf:32∉first.cps.toList)(hn:∀ n∈ns,n<10^31):jB first (Str.join spS (first::ns.map tx)) 31=some ns:=by
 have hs:M8 (Str.join spS (first::ns.map tx)) spS=first::ns.map tx:=qX (c:=32) (N9 _ _) fun w hw=>by
  rcases LC.mp hw with rfl | hw
  ·exact hf
  ·obtain⟨n,_,rfl⟩:=L9.mp hw
   exact JQ (.inl (by decide))
 unfold jB
 rw[hs]
 have e1:(ns.map tx).map (nOf 31)=ns.map some:=by
  rw[ME]
  exact Np fun n h=>Jk (k:=30) (hn n h)
 have e2:((ns.map tx).map fun z=>(nOf 31 z).getD 0)=ns:=by
  rw[ME]
  conv=>rhs;rw[← O6 ns]
  exact Np fun n h=>by
   show(nOf 31 (tx n)).getD 0=n
   rw[Jk (k:=30) (hn n h)]
   rfl
 have e3:(ns.map some).all NA=true:=by simp
 show(if first=first/\((ns.map tx).map (nOf 31)).all NA=true then some ((ns.map tx).map fun z=>(nOf 31 z).getD 0) else none)=_
 rw[e1,e2,if_pos ⟨rfl,e3⟩]
theorem jn_of{c d:Nat}:∀{P:List (List Nat)},d∈jn c P->d=c∨∃ p∈P,d∈p
 |[],h=>by cases h
 |[a],h=>.inr ⟨a,Mx.mpr rfl,h⟩
 |a::b::r,h=>by
  rcases LJ.mp (show d∈a++c::jn c (b::r) from h)with h | h
  ·exact .inr ⟨a,LI ..,h⟩
  ·rcases LC.mp h with h | h
   ·exact .inl h
   ·rcases jn_of h with h | ⟨p,hp,hd⟩
    ·exact .inl h
    ·exact .inr ⟨p,LK _ hp,hd⟩
theorem KS{c d:Nat}{ws:List Str}(h:d∈(Str.join ⟨#[c]⟩ ws).cps.toList):d=c∨∃ w∈ws,d∈w.cps.toList:=by
 rw[ox]at h
 rcases jn_of h with h | ⟨p,hp,hd⟩
 ·exact .inl h
 ·obtain⟨w,hw,rfl⟩:=L9.mp hp
  exact .inr ⟨w,hw,hd⟩
theorem Gn:∀ bs:List Str,Str.join Str.empty (bs.map fun b=>b++nlS)=Str.join nlS (bs++[Str.empty])
 |[]=>rfl
 |[b]=>by
  show b++nlS=b++nlS++Str.empty
  rw[Str.append_empty]
 |b::d::r=>by
  show b++nlS++Str.empty++Str.join Str.empty ((d::r).map fun b=>b++nlS)=b++nlS++Str.join nlS (d::r++[Str.empty])
  rw[Gn (d::r),Str.append_empty]
theorem pC:∀ ws:List Str,(Str.join Str.empty ws).length=(ws.map (·.length)).sum
 |[]=>rfl
 |[a]=>by show a.length=a.length+0;omega
 |a::b::r=>by
  show(a++Str.empty++Str.join Str.empty (b::r)).length=a.length+_
  rw[Str.length_append,Str.append_empty,pC (b::r)]
  rfl
def zw:Str:=(("pull" : String):Str)
def oR:Str:=(("push" : String):Str)
theorem in_two(z:Str):inV (.str z) [.str zw,.str oR]=decide (z=zw∨z=oR):=by
 unfold inV
 rw[ND,ND,List.any_nil,Bool.or_false]
 show((zw == z)||(oR == z))=_
 rw[Ny,Bool.or_eq_true,beq_iff_eq,beq_iff_eq,decide_eq_true_iff]
 exact⟨fun h=>h.imp Eq.symm Eq.symm,fun h=>h.imp Eq.symm Eq.symm⟩
abbrev Td:=Str×Nat×Nat×Nat
def TdAt(H:Hp)(zs:List V)(td:List Td):Prop:=zs.length=td.length/\∀(i:Nat)(d:Td),td[i]?=some d->∃ t,zs[i]?=some (.ref t)/\H t=some (.tup [.str d.1,iV d.2.1,iV d.2.2.1,iV d.2.2.2])
def RowD(b:Str)(d:Td):Prop:=Rw b/\fw b=d.1/\jB (fw b) b 31=some [d.2.1,d.2.2.1,d.2.2.2]/\d.2.2.2<=10^30/\(d.1=zw∨d.1=oR)
def lG(K:LA):Sp:=fun vs H Q _=>∃(r:Addr)(bs:List Str)(td:List Td),vs = [.ref r]/\SqL K H r (bs.map V.str)/\td.length<=80/\(∀ i d,td[i]?=some d->∃ b,bs[i+1]?=some b/\RowD b d)/\(∃ b,bs[td.length+1]?=some b/\b.length<=300000/\fw b≠zw/\fw b≠oR) /\
 ∀(q:Addr)(zs:List V)(H':Hp),Same H H'->H' q=some (.lst zs)->TdAt H' zs td->Q (.ref q) H'
def jF(K:LA):Sp:=fun vs H Q _=>∃(r:Addr)(bs:List Str)(ts:List (List Nat))(m ah:Nat),vs = [iV m,.ref r,iV ah]/\SqL K H r (bs.map V.str)/\ts.length=m/\m<=40/\(∀ i l,ts[i]?=some l->∃ b,bs[ah+i]?=some b/\Rw b/\jB abW b 31=some (i::l)/\l.length<=63) /\
 ∀(q:Addr)(zs:List V)(H':Hp),Same H H'->H' q=some (.lst zs)->bM H' zs ts->Q (.ref q) H'
theorem TdAt.mono{H H':Hp}{zs:List V}{td:List Td}(h:TdAt H zs td)(s:∀ b xs,H b=some (.tup xs)->H' b=some (.tup xs)):TdAt H' zs td:=⟨h.1,fun i d e=>by
 obtain⟨t,a,b⟩:=h.2 i d e
 exact⟨t,a,s _ _ b⟩⟩
theorem TdAt.snoc{H:Hp}{zs:List V}{td:List Td}{d:Td}{t:Addr}(h:TdAt H zs td)(ht:H t=some (.tup [.str d.1,iV d.2.1,iV d.2.2.1,iV d.2.2.2])):TdAt H (zs++[.ref t]) (td++[d]):=by
 refine⟨by rw[Ly,Ly,h.1];rfl,fun j x ej=>?_⟩
 by_cases hj:j<td.length
 ·rw[LF hj]at ej
  obtain⟨u,a1,a2⟩:=h.2 j x ej
  exact⟨u,by rw[LF (by rw[h.1];exact hj)];exact a1,a2⟩
 ·have hj2:j=td.length:=by
   have:=(Lx.mp ej).1
   rw[Ly,LU]at this
   omega
  subst hj2
  rw[LD (LG _),Md]at ej
  cases ej
  exact⟨t,by rw[← h.1,LD (LG _),Md];rfl,ht⟩
section
variable{P:Program}{w:World}{K:LA}{mg:Str->Option Value}{base:Heap}
theorem eN:aI ["rows","told","number"] ["rows"] (aj cS):=⟨rfl,rfl,rfl,by decide +kernel,rfl,by decide +kernel,by decide +kernel⟩
theorem zQ{f f1 f2 f3:Addr}{fd d1 d2 d3:FuncData} (F:Fun K "ties_told" "ties_told" cS f fd) (T:Txt mg) (G_first_word:Cal P w K mg base 1 "first_word" ["row"] spFW f1 d1) (G_tie_told:Cal P w K mg base 3 "tie_told" ["row"] EK f2 d2) (G_right:Cal P w K mg base 1 "right" ["told","at"] oO f3 d3):FnOk P w K mg base CX0 4 f fd ["rows"] (lG K):=by
 refine F.ok eN (fun vs H Q E h=>?_) (fun cdv A outer s H vs Q E hr h=>?_)
 ·obtain⟨r,bs,td,rfl,_⟩:=h
  rfl
 obtain⟨r,bs,td,rfl,hS,t80,hd,⟨be,he,hel,ne1,ne2⟩,kk⟩:=h
 refine⟨_,(af (ay (i:=1) eN.nd rfl (Or.inl rfl) (bu ag))
   (af (ay (i:=2) eN.nd rfl (Or.inl rfl) ak)
   (af (sW PassesOwn.never (PW.pt (E7 (av zP (pv 2) (ar aq (by rfl) T.n_len aQ (aa (pv 0) ag)) (aK _)) (zv (av wu (ax G_first_word.ok (hr.mono (by decide)) rfl G_first_word.mg G_first_word.kp G_first_word.bn .nil aR (aa (aG aA (pv 0) (pv 2) (fun _ _=>rfl)) ag)) (gU (aa bg (aa bg ag))) (by with_unfolding_all rfl))))) (af (bt (av Fs (pv 2) (ot rfl T.most) (aK _)) (ao cH) aN)
   (af (a8 (cg LY Mi Mh bb (pv 1) (aa (ax G_right.ok (hr.mono (by decide)) rfl G_right.mg G_right.kp G_right.bn .nil aR (aa (ax G_tie_told.ok (hr.mono (by decide)) rfl G_tie_told.mg G_tie_told.kp G_tie_told.bn .nil aR (aa (aG aA (pv 0) (pv 2) (fun _ _=>rfl)) ag)) (aa (aF bB (pv 2) ak) ag))) ag)))
   (ao (ay (i:=2) eN.nd rfl (Or.inl rfl) (aF bB (pv 2) ak))))))
   (ao (aL (pv 1)))))),?_⟩
 have bl:td.length+1<bs.length:=(Lx.mp he).1
 refine⟨(by show 0<=sizeLine;decide),fun q hq=>?_⟩
 have s1:=ai hq (.lst [])
 refine⟨fun n σ H2=>∃(i:Nat)(zs:List V),n=td.length-i/\i<=td.length/\σ = [some (.ref r),some (.ref q),some (iV (i+1))]/\Same H H2/\H2 q=some (.lst zs)/\TdAt H2 zs (td.take i),⟨_,0,[],rfl,MQ _,rfl,s1,ae,rfl,fun i d e=>by simp at e⟩,?_⟩
 rintro n σ H2 ⟨i,zs,rfl,hi,rfl,s2,hq2,tz⟩
 have hS2:=s2.seq hS
 have zl:zs.length=i:=by rw[tz.1,LZ];omega
 refine⟨_,rfl,_,rfl,r,_,rfl,.inl hS2,_,_,rfl,rfl,_,rfl,?_⟩
 refine ite2 (fun _=>?_) (fun c=>absurd (decide_eq_true (show((i+1:Nat):Int)<((bs.map V.str).length:Int) by rw[LB];omega)) c)
 obtain⟨b,hb,bl3⟩:∃ b,bs[i+1]?=some b/\b.length<=300000:=by
  by_cases c:i=td.length
  ·subst c
   exact⟨be,he,hel⟩
  ·obtain⟨b,h1,h2⟩:=hd i td[i] (Lw (by omega))
   exact⟨b,h1,h2.1.1⟩
 have hb2:(bs.map V.str)[i+1]?=some (V.str b):=by rw[LL,hb];rfl
 refine⟨_,rfl,_,rfl,r,_,_,V.str b,rfl,rfl,hS2,aD hb2,b,rfl,bl3,fun H3 s3=>⟨(by show 2<=sizeLine;decide),fun t ht=>?_⟩⟩
 have st:=ai ht (.tup [V.str (("pull" : String):Str),V.str (("push" : String):Str)])
 have s4:=s3.trans st
 refine⟨t,_,rfl,.inr (SqT.of ae),rfl,rfl,_,rfl,?_⟩
 show(if(inV (.str (fw b)) [.str zw,.str oR])=true then _ else _)
 rw[in_two]
 by_cases c:i=td.length
 ·subst c
  rw[he]at hb
  cases hb
  rw[decide_eq_false (fun z=>z.elim ne1 ne2)]
  rw[My]at tz
  exact iteF ⟨_,rfl,kk q zs _ (s2.trans s4) (s4 _ _ hq2) (tz.mono fun b xs e=>s4 _ _ e)⟩
 ·have hi2:i<td.length:=by omega
  obtain⟨b',h1,rw1,fe,be1,s30,kd⟩:=hd i td[i] (Lw hi2)
  rw[hb]at h1
  cases h1
  rw[fe,decide_eq_true kd]
  rw[← fe]at kd
  refine iteT ⟨fun σ' H'=>∃ zs',i+1<=td.length/\σ' = [some (.ref r),some (.ref q),some (iV (i+1+1))]/\Same H H'/\H' q=some (.lst zs')/\TdAt H' zs' (td.take (i+1)),fun σ' H' ⟨zs',a1,a2,a3,a4,a5⟩=>⟨td.length-(i+1),by omega,i+1,zs',rfl,a1,a2,a3,a4,a5⟩,?_⟩
  refine⟨_,rfl,_,_,rfl,rfl,_,rfl,ite2 (fun c=>absurd (of_decide_eq_true c) (by omega)) (fun _=>?_)⟩
  have hq4:=s4 _ _ hq2
  refine⟨_,rfl,.inl ⟨rfl,_,SqL.of hq4⟩,_,rfl,_,rfl,r,_,_,V.str b,rfl,rfl,s4.seq hS2,aD hb2,b,_,_,_,rfl,rw1,be1,s30,fun p H5 s5 hp=>?_⟩
  refine⟨_,rfl,_,_,rfl,rfl,_,_,rfl,(by intro z;cases z),?_⟩
  have hq5:=s5 _ _ hq4
  refine⟨q,zs,_,rfl,rfl,hq5,aB (by omega),?_⟩
  refine⟨_,rfl,_,_,rfl,rfl,zs++[.ref p],hi2,rfl,a9 (s2.trans (s4.trans s5)) hq _,ae,?_⟩
  have pq:p≠q:=fun z=>by rw[z,hq5]at hp;cases hp
  rw[show td.take (i+1)=td.take i++[td[i]] by rw[Mo,Lw hi2];rfl]
  refine TdAt.snoc (tz.mono fun b xs e=>?_) (by rw[au pq,← fe];exact hp)
  rw[au (fun z=>by rw[z,hq2]at e;cases e)]
  exact s5 _ _ (s4 _ _ e)
theorem dI:aI ["many","rows","ahead","turns","place","number"] ["many","rows","ahead"] (aj cp):=⟨rfl,rfl,rfl,by decide +kernel,rfl,by decide +kernel,by decide +kernel⟩
theorem wx{f f1 f2 f3:Addr}{fd d1 d2 d3:FuncData} (F:Fun K "turns_told" "turns_told" cp f fd) (T:Txt mg) (G_row_at:Cal P w K mg base 1 "row_at" ["rows","number"] (r9 K) f1 d1) (G_turn_told:Cal P w K mg base 3 "turn_told" ["place","row"] yQ f2 d2) (G_right:Cal P w K mg base 1 "right" ["told","at"] oO f3 d3):FnOk P w K mg base CX0 4 f fd ["many","rows","ahead"] (jF K):=by
 refine F.ok dI (fun vs H Q E h=>?_) (fun cdv A outer s H vs Q E hr h=>?_)
 ·obtain⟨r,bs,ts,m,ah,rfl,_⟩:=h
  rfl
 obtain⟨r,bs,ts,m,ah,rfl,hS,tl,m40,hd,kk⟩:=h
 refine⟨_,(af (ay (i:=3) dI.nd rfl (Or.inl rfl) (bu ag))
   (af (bO PassesOwn.never rfl (ba rfl T.n_range (aa (pv 0) ag)) (aU (i:=4) dI.nd rfl (Or.inl rfl)) (af (ay (i:=5) dI.nd rfl (Or.inl rfl) (aF bB (pv 2) (pv 4)))
   (ao (a8 (cg LY Mi Mh bb (pv 3) (aa (ax G_right.ok (hr.mono (by decide)) rfl G_right.mg G_right.kp G_right.bn .nil aR (aa (ax G_turn_told.ok (hr.mono (by decide)) rfl G_turn_told.mg G_turn_told.kp G_turn_told.bn .nil aR (aa (pv 4) (aa (ax G_row_at.ok (hr.mono (by decide)) rfl G_row_at.mg G_row_at.kp G_row_at.bn .nil aR (aa (pv 1) (aa (pv 5) ag))) ag))) (aa (aF bB (pv 5) ak) ag))) ag))))))
   (ao (aL (pv 3))))),?_⟩
 refine⟨(by show 0<=sizeLine;decide),fun q hq=>?_⟩
 have s1:=ai hq (.lst [])
 refine⟨_,rfl,_,rfl,by omega,by omega,br (n:=m) (fun i σ H2=>∃(v4 v5:Option V)(zs:List V),σ = [some (iV m),some (.ref r),some (iV ah),some (.ref q),v4,v5]/\Same H H2/\H2 q=some (.lst zs)/\bC (fun a=>a=q) H2 zs (ts.take i)) ⟨_,_,[],rfl,s1,ae,rfl,fun i l e=>by simp at e⟩ ?_ ?_⟩
 ·rintro i σ H2 hi ⟨v4,v5,zs,rfl,s2,hq2,rz⟩
  rw[MZ]
  have hS2:=s2.seq hS
  have hi2:i<ts.length:=by omega
  have zl:zs.length=i:=by rw[rz.1,LZ];omega
  obtain⟨b,hb,rwb,be1,l63⟩:=hd i ts[i] (Lw hi2)
  have hb2:(bs.map V.str)[ah+i]?=some (V.str b):=by rw[LL,hb];rfl
  refine⟨_,rfl,_,rfl,_,_,rfl,rfl,?_⟩
  refine⟨_,rfl,.inl ⟨rfl,_,SqL.of hq2⟩,_,rfl,_,rfl,_,rfl,r,_,ah+i,_,rfl,hS2,hb2,b,i,ts[i],rfl,rwb,be1,by omega,fun p H5 s5 np hp=>?_⟩
  refine⟨_,rfl,_,_,rfl,rfl,_,_,rfl,(by intro z;cases z),?_⟩
  have hq5:=s5 _ _ hq2
  refine⟨q,zs,_,rfl,rfl,hq5,aB (by omega),_,_,zs++[.ref p],rfl,a9 (s2.trans s5) hq _,ae,?_⟩
  have pq:p≠q:=fun z=>by rw[z,hq2]at np;cases np
  rw[show ts.take (i+1)=ts.take i++[ts[i]] by rw[Mo,Lw hi2];rfl]
  exact(rz.mono fun b u n e=>by rw[au n];exact s5 _ _ e).snoc pq (by rw[au pq];exact hp)
 ·rintro σ H2 ⟨v4,v5,zs,rfl,s2,hq2,rz⟩
  rw[← tl,My]at rz
  exact⟨_,rfl,kk q zs H2 s2 hq2 rz.off⟩
end
end KF
namespace KF
open PySem L2 PyProof.Rows K8
local macro_rules | `(tactic| walk_at "cc") => `(tactic| first | exact ⟨by decide, by decide⟩ | (show (0 : Int) < _; decide) | (show (0 : Int) < _; omega) | (show (0 : Int) ≤ _; omega) | exact ⟨by decide, by decide, by decide⟩ | exact ⟨by omega, by omega, by decide⟩ | exact Or.inl ⟨by decide, by decide⟩ | exact Or.inl ⟨by omega, by omega⟩)
local macro_rules | `(tactic| walk_at "rd") => `(tactic| repeat (first | refine ⟨_, rfl, ?_⟩ | refine ⟨_, _, rfl, rfl, ?_⟩ | refine ⟨rfl, ?_⟩ | (refine ⟨?cc, ?_⟩; (case cc => walk_at "cc"))))
def bare(ws:List Str):Str:=Str.join spS ws
def Gz(z:Str):Prop:=∀ c∈z.cps.toList,33<=c/\c<128
theorem DP(n:Nat):Gz (tx n):=fun c hc=>by have:=EA n c hc;omega
theorem KY(k:Int):Gz (kS k):=by
 unfold kS Gz
 split<;>decide +kernel
theorem Gm{z:Str}(h:Gz z){c:Nat}(hc:c<33):c∉z.cps.toList:=fun q=>by have:=h c q;omega
theorem qV{m:Nat}{es:En}{ks:Kn}{ts:List (List Nat)}:∀ ws∈aW m es ks ts,∀ z∈ws,Gz z:=fun ws hw z hz=>by
 unfold aW at hw
 rcases LC.mp hw with rfl | hw
 ·rcases LC.mp hz with rfl | hz
  ·unfold Gz;decide +kernel
  ·rw[Mx.mp hz]
   exact DP m
 rcases LJ.mp hw with hw | hw
 ·obtain⟨i,_,rfl⟩:=L9.mp hw
  unfold tieW at hz
  simp only[LC,Nd,or_false]at hz
  rcases hz with rfl | rfl | rfl | rfl
  ·exact KY _
  ·exact DP _
  ·exact DP _
  ·exact DP _
 ·obtain⟨i,_,rfl⟩:=L9.mp hw
  unfold abRW at hz
  rcases LC.mp hz with rfl | hz
  ·unfold Gz;decide +kernel
  rcases LC.mp hz with rfl | hz
  ·exact DP _
  ·obtain⟨t,_,rfl⟩:=L9.mp hz
   exact DP _
theorem Hf{ws:List Str}(h:∀ z∈ws,Gz z){c:Nat}(hc:c∈(bare ws).cps.toList):32<=c/\c<128:=by
 rcases KS (c:=32) hc with rfl | ⟨z,hz,hc⟩
 ·decide
 ·have:=h z hz c hc
  omega
theorem Ex{m:Nat}{es:En}{ks:Kn}{ts:List (List Nat)}:M8 (webT m es ks ts) nlS=(aW m es ks ts).map bare++[Str.empty]:=by
 have e:(aW m es ks ts).map rowT=((aW m es ks ts).map bare).map fun b=>b++nlS:=by rw[ME];rfl
 unfold webT
 rw[e,Gn]
 refine qX (c:=10) (by simp) fun w hw z=>?_
 rcases LJ.mp hw with hw | hw
 ·obtain⟨ws,hws,rfl⟩:=L9.mp hw
  have:=Hf (qV ws hws) z
  omega
 ·rw[Mx.mp hw]at z
  cases z
theorem JP{m:Nat}{es:En}{ks:Kn}{ts:List (List Nat)}(w:Wr m es ks ts):(webT m es ks ts).length<=300000:=by
 obtain⟨r1,r2⟩:=w.rows
 have sl:=g9 r1
 have:((aW m es ks ts).map rowT).length*400<=104*400:=Nat.mul_le_mul_right _ r2
 unfold webT
 rw[pC]
 omega
theorem pZ{m:Nat}{es:En}{ks:Kn}{ts:List (List Nat)}(w:Wr m es ks ts){ws:List Str}(h:ws∈aW m es ks ts):Rw (bare ws):=by
 refine⟨?_,?_⟩
 ·have:=w.rows.1 (rowT ws) (L9.mpr ⟨ws,h,rfl⟩)
  unfold rowT at this
  rw[Str.length_append]at this
  unfold bare
  omega
 ·unfold Asc
  rw[← Array.all_toList,NL]
  exact fun c hc=>decide_eq_true (Hf (qV ws h) hc).2
theorem Gq{z:Str}(h:Gz z)(ws:List Str):fw (bare (z::ws))=z:=by
 have hn:32∉z.cps.toList:=Gm h (by decide)
 cases ws with
 |nil=>exact HM (c:=32) hn
 |cons a r =>
  have e:(bare (z::a::r)).cps.toList=z.cps.toList++32::(Str.join spS (a::r)).cps.toList:=by
   show(z++spS++Str.join spS (a::r)).cps.toList=_
   rw[rV,rV,Ma]
   rfl
  exact(HN (c:=32) hn e).trans (rU rfl)
theorem xg{m:Nat}{es:En}{ks:Kn}{ts:List (List Nat)}:(aW m es ks ts).length=1+es.length+ts.length:=by
 unfold aW
 rw[Mb,Ly,LB,LB,MA,MA]
 omega
theorem vC{m:Nat}{es:En}{ks:Kn}{ts:List (List Nat)}{i:Nat}(h:i<es.length):(aW m es ks ts)[i+1]?=some (tieW (es.getD i (0,0)) (ks.getD i (0,0))):=by
 unfold aW
 rw[Pq,LF (by rw[LB,MA];exact h),LL,M9 h]
 rfl
theorem BO{m:Nat}{es:En}{ks:Kn}{ts:List (List Nat)}{i:Nat}(h:i<ts.length):(aW m es ks ts)[1+es.length+i]?=some (abRW i (ts.getD i [])):=by
 unfold aW
 rw[show 1+es.length+i=(es.length+i)+1 by omega,Pq,LD (by rw[LB,MA];omega),LB,MA,Pp,LL,M9 h]
 rfl
theorem kS_two(k:Int):kS k=zw∨kS k=oR:=by
 unfold kS
 split
 ·exact .inr rfl
 ·exact .inl rfl
theorem KR{k:Int}:(kS k=oR)↔k=1:=by
 unfold kS
 split
 ·rename_i h
  exact⟨fun _=>h,fun _=>rfl⟩
 ·rename_i h
  exact⟨fun z=>absurd z (by decide +kernel),fun z=>absurd z h⟩
def tdOf(es:En)(ks:Kn)(i:Nat):Td:=(kS (ks.getD i (0,0)).1,(es.getD i (0,0)).1,(es.getD i (0,0)).2,(ks.getD i (0,0)).2.toNat)
theorem Kc{m:Nat}{es:En}{ks:Kn}{ts:List (List Nat)}(w:Wr m es ks ts){i:Nat}(h:i<es.length):RowD (bare (tieW (es.getD i (0,0)) (ks.getD i (0,0)))) (tdOf es ks i):=by
 have e:=w.ee _ (getD_mem (d:=(0,0)) h)
 have k:=w.kk _ (getD_mem (d:=(0,0)) (by rw[w.kl];exact h))
 have hm:=Lz (vC (m:=m) (ks:=ks) (ts:=ts) h)
 have ef:fw (bare (tieW (es.getD i (0,0)) (ks.getD i (0,0))))=kS (ks.getD i (0,0)).1:=Gq (KY _) _
 refine⟨pZ w hm,ef,?_,by show(ks.getD i (0,0)).2.toNat<=_;omega,kS_two _⟩
 rw[ef]
 exact vi (first:=kS (ks.getD i (0,0)).1) (ns:=[(es.getD i (0,0)).1,(es.getD i (0,0)).2,(ks.getD i (0,0)).2.toNat]) (Gm (KY _) (by decide)) fun n hn=>by
  simp only[LC,Nd,or_false]at hn
  rcases hn with rfl | rfl | rfl<;>omega
theorem kC.snoc{PL PS:Addr}{H:Hp}{us:List V}{es:En}{ks:Kn}{i:Nat}{e:Nat×Nat}{k:Int×Int}{p dx:Addr}(t:kC PL PS H us (es.take i) ks)(he:es[i]?=some e)(hk:ks[i]?=some k)(hp:H p=some (.ins (cls PL PS (decide (k.1=1))) dx (tf (e.1:Int) (e.2:Int) k.2))):kC PL PS H (us++[.ref p]) (es.take (i+1)) ks:=by
 have hi:=(Lx.mp he).1
 have ul:us.length=i:=by rw[t.1,LZ];omega
 refine⟨by rw[Ly,ul,LZ];simp;omega,fun j e' k' hj hk'=>?_⟩
 rw[M5]at hj
 by_cases z:j<i
 ·rw[if_pos (by omega)]at hj
  obtain⟨p',dx',a1,a2⟩:=t.2 j e' k' (by rw[M5,if_pos z];exact hj) hk'
  exact⟨p',dx',by rw[LF (by omega)];exact a1,a2⟩
 ·by_cases z2:j=i
  ·subst z2
   rw[if_pos (by omega),he]at hj
   cases hj
   rw[hk]at hk'
   cases hk'
   exact⟨p,dx,by rw[← ul,LD (LG _),Md];rfl,hp⟩
  ·rw[if_neg (by omega)]at hj
   cases hj
def EO(PL PS:Addr):Sp:=fun vs H Q _=>∃(kd:Str)(a b s:Nat),vs = [.str kd,iV a,iV b,iV s]/\a≠b/\∀(p dx:Addr)(H':Hp),Same H H'->H' p=some (.ins (cls PL PS (decide (kd=oR))) dx (tf (a:Int) (b:Int) (s:Int)))->Q (.ref p) H'
def yV(PL PS WC:Addr):Sp:=fun vs H Q _=>∃(m:Nat)(es:En)(ks:Kn)(ts:List (List Nat)),vs = [.str (webT m es ks ts)]/\Wr m es ks ts/\Gr m es ts/\0<es.length/\∀(S:Addr->Prop)(p:Addr)(rs:List (List Nat))(H':Hp),Same H H'->WebF S PL PS WC H' p m es ts rs ks->Q (.ref p) H'
section
variable{P:Program}{w:World}{K:LA}{mg:Str->Option Value}{base:Heap}
theorem Ka:aI ["kind","one","two","strength"] ["kind","one","two","strength"] (aj rf):=⟨rfl,rfl,rfl,by decide +kernel,rfl,by decide +kernel,by decide +kernel⟩
theorem Kr{f fI PL PS:Addr}{fd fdI:FuncData} (F:Fun K "made" "made" rf f fd) (M_Pull:Mak P w K mg base 1 "Pull" ["self","one","two","strength"] (mZ K) PL fI fdI) (M_Push:Mak P w K mg base 1 "Push" ["self","one","two","strength"] (mZ K) PS fI fdI) (TL:CT K PL) (TS:CT K PS):FnOk P w K mg base CX0 3 f fd ["kind","one","two","strength"] (EO PL PS):=by
 refine F.ok Ka (fun vs H Q E h=>?_) (fun cdv A outer s H vs Q E hr h=>?_)
 ·obtain⟨kd,a,b,s',rfl,_⟩:=h
  rfl
 obtain⟨kd,a,b,s',rfl,ne,kk⟩:=h
 refine⟨_,(ao (aL (oq (av jw (pv 0) bg (aK _)) (lN M_Push.mkc M_Push.ok (hr.mono (by decide)) rfl M_Push.mg M_Push.bn .nil aR (aa (pv 1) (aa (pv 2) (aa (pv 3) ag)))) (lN M_Pull.mkc M_Pull.ok (hr.mono (by decide)) rfl M_Pull.mg M_Pull.bn .nil aR (aa (pv 1) (aa (pv 2) (aa (pv 3) ag))))))),?_⟩
 refine⟨_,rfl,rfl,_,rfl,ite2 (fun c=>?_) (fun c=>?_)⟩
 ·have c':kd=oR:=V.str.inj (of_decide_eq_true c)
  refine⟨_,rfl,_,rfl,_,rfl,?_⟩
  intro x dx nx ndx nex
  refine⟨x,PS,dx,_,_,_,rfl,ae,TS,by omega,by omega,by omega,by omega,fun H' h1 h2=>⟨rfl,?_⟩⟩
  refine kk x dx H' (fun b o z=>h2 b o (by rw[au (aJ z nx),au (aJ z ndx)];exact z) (aJ z nx)) ?_
  rw[decide_eq_true c']
  exact h1
 ·have c':¬ kd=oR:=fun z=>c (decide_eq_true (congrArg V.str z))
  refine⟨_,rfl,_,rfl,_,rfl,?_⟩
  intro x dx nx ndx nex
  refine⟨x,PL,dx,_,_,_,rfl,ae,TL,by omega,by omega,by omega,by omega,fun H' h1 h2=>⟨rfl,?_⟩⟩
  refine kk x dx H' (fun b o z=>h2 b o (by rw[au (aJ z nx),au (aJ z ndx)];exact z) (aJ z nx)) ?_
  rw[decide_eq_false c']
  exact h1
end
end KF
namespace KF
open PySem L2 PyProof.Rows K8
local macro_rules | `(tactic| walk_at "cc") => `(tactic| first | exact ⟨by decide, by decide⟩ | (show (0 : Int) < _; decide) | (show (0 : Int) < _; omega) | (show (0 : Int) ≤ _; omega) | exact ⟨by decide, by decide, by decide⟩ | exact ⟨by omega, by omega, by decide⟩ | exact Or.inl ⟨by decide, by decide⟩ | exact Or.inl ⟨by omega, by omega⟩)
local macro_rules | `(tactic| walk_at "rd") => `(tactic| repeat (first | refine ⟨_, rfl, ?_⟩ | refine ⟨_, _, rfl, rfl, ?_⟩ | refine ⟨rfl, ?_⟩ | (refine ⟨?cc, ?_⟩; (case cc => walk_at "cc"))))
section
variable{P:Program}{w:World}{K:LA}{mg:Str->Option Value}{base:Heap}
theorem jH:aI ["text","rows","unended","many","told","turns","row_count"] ["text"] (aj ra):=⟨rfl,rfl,rfl,by decide +kernel,rfl,by decide +kernel,by decide +kernel⟩
theorem Kq{f f1 f2 f3 f4 f5 f6 fW PL PS WC:Addr}{fd d1 d2 d3 d4 d5 d6 dW:FuncData} (F:Fun K "read" "read" ra f fd) (T:Txt mg) (cw:CW K WC) (TL:CT K PL) (TS:CT K PS) (G_right:Cal P w K mg base 1 "right" ["told","at"] oO f1 d1) (G_row_at:Cal P w K mg base 1 "row_at" ["rows","number"] (r9 K) f2 d2) (G_places_told:Cal P w K mg base 3 "places_told" ["row"] sj f3 d3) (G_ties_told:Cal P w K mg base 4 "ties_told" ["rows"] (lG K) f4 d4) (G_turns_told:Cal P w K mg base 4 "turns_told" ["many","rows","ahead"] (jF K) f5 d5) (G_made:Cal P w K mg base 3 "made" ["kind","one","two","strength"] (EO PL PS) f6 d6) (M_Web:Mak P w K mg base 5 "Web" ["self","many","ties","turns"] (oN K) WC fW dW):FnOk P w K mg base CX0 7 f fd ["text"] (yV PL PS WC):=by
 refine F.ok jH (fun vs H Q E h=>?_) (fun cdv A outer s H vs Q E hr h=>?_)
 ·obtain⟨m,es,ks,ts,rfl,_⟩:=h
  rfl
 obtain⟨m,es,ks,ts,rfl,wr,g,e0,kk⟩:=h
 refine⟨_,(af (ay (i:=1) jH.nd rfl (Or.inl rfl) (cg MT Nw PySem.F.type_str_split Cj (pv 0) (aa bg ag)))
   (af (ay (i:=2) jH.nd rfl (Or.inl rfl) (pe_bm0 LY PySem.F.slot_list_pop PySem.F.type_list_pop mt_pop (pv 1)))
   (af (ay (i:=3) jH.nd rfl (Or.inl rfl) (ax G_right.ok (hr.mono (by decide)) rfl G_right.mg G_right.kp G_right.bn .nil aR (aa (ax G_places_told.ok (hr.mono (by decide)) rfl G_places_told.mg G_places_told.kp G_places_told.bn .nil aR (aa (ax G_row_at.ok (hr.mono (by decide)) rfl G_row_at.mg G_row_at.kp G_row_at.bn .nil aR (aa (pv 1) (aa ak ag))) ag)) (aa ak ag))))
   (af (ay (i:=4) jH.nd rfl (Or.inl rfl) (ax G_ties_told.ok (hr.mono (by decide)) rfl G_ties_told.mg G_ties_told.kp G_ties_told.bn .nil aR (aa (pv 1) ag)))
   (af (ay (i:=5) jH.nd rfl (Or.inl rfl) (ax G_turns_told.ok (hr.mono (by decide)) rfl G_turns_told.mg G_turns_told.kp G_turns_told.bn .nil aR (aa (pv 3) (aa (pv 1) (aa (aF bB ak (ar aq (by rfl) T.n_len aQ (aa (pv 4) ag))) ag)))))
   (af (ay (i:=6) jH.nd rfl (Or.inl rfl) (aF bB (aF bB ak (ar aq (by rfl) T.n_len aQ (aa (pv 4) ag))) (pv 3)))
   (af (bt (PW.pt (cG (av Fs (ar aq (by rfl) T.n_len aQ (aa (pv 1) ag)) (pv 6) (aK _)) (bN (av dr (pv 2) bg (aK _))))) (ao cH) aN)
   (ao (aL (lN M_Web.mkc M_Web.ok (hr.mono (by decide)) rfl M_Web.mg M_Web.bn .nil aR (aa (pv 3) (aa (B8 rfl (fr:=[]) (xs:=["kind","one","two","strength"]) (vB.of (by rfl) (by decide +kernel) (by rfl) (by decide +kernel) (fun p hp=>nomatch hp) (by decide +kernel) (fun p hp=>nomatch hp)) (bz (pv 4)) (fun C ex s H=>(Ff (n:=4) (K:=K) rfl rfl (bX (aU (i:=0) (show(["kind","one","two","strength"]:List Str).Nodup from by decide +kernel) rfl (Or.inl rfl)) (bX (aU (i:=1) (show(["kind","one","two","strength"]:List Str).Nodup from by decide +kernel) rfl (Or.inl rfl)) (bX (aU (i:=2) (show(["kind","one","two","strength"]:List Str).Nodup from by decide +kernel) rfl (Or.inl rfl)) (bX (aU (i:=3) (show(["kind","one","two","strength"]:List Str).Nodup from by decide +kernel) rfl (Or.inl rfl)) oT)))))) (fun C ex s H=>E8) (fun C ex s H=>(ax G_made.ok (hr.mono (by decide)) rfl G_made.mg G_made.kp G_made.bn .nil aR (aa (pv 0) (aa (pv 1) (aa (pv 2) (aa (pv 3) ag))))))) (aa (pv 5) ag))))))))))))),?_⟩
 rw[Ik,AS]
 have few:=wr.few
 have kl:=wr.kl
 have m2:=wr.m2
 have m40:=wr.m40
 have tl:=wr.tl
 have wl:=JP wr
 have s64:(400000:Nat)<=sizeLine:=by decide
 refine⟨_,rfl,rfl,webT m es ks ts,nlS,rfl,rfl,rfl,by omega,fun r hr'=>?_⟩
 rw[Ex,Mu]
 have bl:((aW m es ks ts).map bare).length=1+es.length+ts.length:=by rw[LB,xg]
 have sr:=ai hr' (.lst (((aW m es ks ts).map bare).map V.str++[Str.empty].map V.str))
 refine⟨_,rfl,.inl ⟨rfl,_,SqL.of ae⟩,r,_,V.str Str.empty,rfl,rfl,ae,by simp,?_⟩
 have ed:List.dropLast (((aW m es ks ts).map bare).map V.str++[Str.empty].map V.str)=((aW m es ks ts).map bare).map V.str:=by simp
 rw[ed]
 have sR:=a9 sr hr' (.lst (((aW m es ks ts).map bare).map V.str))
 have gR:(upd (upd H r (.lst (((aW m es ks ts).map bare).map V.str++[Str.empty].map V.str))) r (.lst (((aW m es ks ts).map bare).map V.str))) r=some (.lst (((aW m es ks ts).map bare).map V.str)):=ae
 generalize upd (upd H r (.lst (((aW m es ks ts).map bare).map V.str++[Str.empty].map V.str))) r (.lst (((aW m es ks ts).map bare).map V.str))=H1 at sR gR
 have hp0 : [plW,tx m]∈aW m es ks ts:=LI ..
 refine⟨_,rfl,r,_,0,_,rfl,SqL.of gR,rfl,bare [plW,tx m],m,rfl,pZ wr hp0,?_,m2,m40,fun H2 s2=>?_⟩
 ·exact vi (first:=plW) (ns:=[m]) (by decide +kernel) fun n hn=>by
   rw[Mx.mp hn]
   omega
 refine⟨_,1,rfl,(by intro z;cases z),?_⟩
 have gR2:=s2 _ _ gR
 refine⟨_,rfl,r,(aW m es ks ts).map bare,(MH es.length).map (tdOf es ks),rfl,SqL.of gR2,by rw[LB,MA];omega,fun i d hd=>?_,?_,fun q zs H3 s3 hq tz=>?_⟩
 ·rw[LL]at hd
  obtain⟨j,hj,rfl⟩:=Mr.mp hd
  have hi:=(Lx.mp hj).1
  rw[MA]at hi
  rw[M9 hi]at hj
  cases hj
  exact⟨_,by rw[LL,vC hi];rfl,Kc wr hi⟩
 ·rw[LB,MA]
  have h0:0<ts.length:=by omega
  have hw:=BO (m:=m) (es:=es) (ks:=ks) h0
  have hf:fw (bare (abRW 0 (ts.getD 0 [])))=abW:=Gq (by unfold Gz;decide +kernel) _
  refine⟨_,by rw[LL,show es.length+1=1+es.length+0 by omega,hw];rfl,(pZ wr (Lz hw)).1,?_,?_⟩
  ·rw[hf];decide +kernel
  ·rw[hf];decide +kernel
 have zl:zs.length=es.length:=by rw[tz.1,LB,MA]
 have gR3:=s3 _ _ gR2
 refine⟨_,rfl,_,rfl,_,rfl,q,_,rfl,.inl (SqL.of hq),_,_,rfl,rfl,r,(aW m es ks ts).map bare,ts,m,1+es.length,?_,SqL.of gR3,tl,m40,fun i l hl=>?_,fun qt zt H4 s4 hqt rt=>?_⟩
 ·rw[zl]
  rfl
 ·have hi:=(Lx.mp hl).1
  have hw:=BO (m:=m) (es:=es) (ks:=ks) hi
  have gl:ts.getD i []=l:=by rw[Mg,hl];rfl
  rw[gl]at hw
  have rl:=wr.rl l (Lz hl)
  refine⟨_,by rw[LL,hw];rfl,pZ wr (Lz hw),?_,rl.1⟩
  exact vi (first:=abW) (ns:=i::l) (by decide +kernel) fun n hn=>by
   rcases LC.mp hn with rfl | hn
   ·omega
   ·have:=rl.2 n hn
    omega
 have gR4:=s4 _ _ gR3
 have hq4:=s4 _ _ hq
 have tz4:TdAt H4 zs _:=tz.mono fun b xs e=>s4 _ _ e
 refine⟨_,rfl,q,_,rfl,.inl (SqL.of hq4),_,_,rfl,rfl,_,rfl,_,_,rfl,rfl,?_⟩
 refine⟨_,rfl,r,_,rfl,.inl (SqL.of gR4),_,rfl,_,_,rfl,rfl,_,rfl,ite2 (fun c=>absurd (of_decide_eq_true c) ?_) (fun _=>?_)⟩
 ·rw[LB,bl,zl,tl]
  omega
 refine⟨_,rfl,rfl,_,rfl,ite2 (fun z=>?_) (fun _=>?_)⟩
 ·simp at z
 refine⟨_,rfl,_,rfl,q,rfl,⟨_,SqL.of hq4⟩,D6 (K:=K) (xs:=zs) (fun i us H5=>Same H4 H5/\kC PL PS H5 us (es.take i) ks) (by omega) ⟨fun _ _ z=>z,rfl,fun i e k z=>by simp at z⟩ (fun i us H5 _ z=>SqL.of (z.1 _ _ hq4)) ?_ ?_ (fun i us H5 z=>by rw[z.2.1,LZ];omega)⟩
 ·rintro i x us H5 hx ⟨s5,tt⟩
  have hi:i<es.length:=by rw[← zl];exact(Lx.mp hx).1
  obtain⟨t,x1,x2⟩:=tz4.2 i (tdOf es ks i) (by rw[LL,M9 hi];rfl)
  rw[hx]at x1
  cases x1
  have ge:es.getD i (0,0)=es[i]:=by rw[Mg,Lw hi];rfl
  have gk:ks.getD i (0,0)=ks[i]:=by rw[Mg,Lw (show i<ks.length by omega)];rfl
  have k':=wr.kk ks[i] (Mm _)
  have ne:=(g.w.ends es[i] (Mm _)).2.2
  unfold tdOf at x2
  rw[ge,gk]at x2
  refine⟨t,_,rfl,SqT.of (s5 _ _ x2),rfl,_,_,rfl,_,_,rfl,_,_,rfl,_,_,rfl,rfl,rfl,yesT ?_⟩
  refine⟨_,rfl,_,rfl,_,rfl,_,rfl,_,_,_,_,rfl,ne,fun p dx H6 s6 hp=>⟨s5.trans s6,?_⟩⟩
  refine kC.snoc (tt.mono s6) (Lw hi) (Lw (show i<ks.length by omega)) (dx:=dx) ?_
  rw[hp,show(((ks[i].2.toNat:Nat)):Int)=ks[i].2 by omega,decide_eq_decide.mpr (KR (k:=ks[i].1))]
 rintro us H5 ⟨s5,tt⟩ D hD
 rw[zl,My]at tt
 have usl:us.length=es.length:=tt.1
 have sD:=ai hD (.lst us)
 have hDD:(upd H5 D (.lst us)) D=some (.lst us):=ae
 have s4D:=s5.trans sD
 have ttD:=tt.mono sD
 generalize upd H5 D (.lst us)=HD at sD s4D hDD ttD
 have hqtD:=s4D _ _ hqt
 have rtD:=rt.mono s4D
 refine⟨_,rfl,?_⟩
 intro x dx nx ndx nex
 have up:∀ b o,HD b=some o->(upd (upd HD dx (.own x)) x (.ins WC dx [])) b=some o:=fun b o z=>by rw[au (aJ z nx),au (aJ z ndx)];exact z
 refine⟨x,WC,dx,D,qt,m,us,zt,es,ts,rfl,ae,cw,up _ _ hDD,((ttD.at kl TL TS)).mono up,up _ _ hqtD,rtD.mono up,g,e0,by omega,by omega,fun fs q1 rs H6 h1 hg hn h2 h3 h4=>⟨rfl,?_⟩⟩
 have s6:Same HD H6:=fun b o z=>h4 b o (up _ _ z) (aJ z nx)
 refine kk _ x rs H6 (sR.trans (s2.trans (s3.trans (s4.trans (s4D.trans s6))))) ⟨dx,fs,q1,us,h1,hg,fun z=>z hn,h2,h3,ttD.mono s6⟩
end
end KF
namespace KF
open PySem L2 PyProof.Rows K8
local macro_rules | `(tactic| walk_at "cc") => `(tactic| first | exact ⟨by decide, by decide⟩ | (show (0 : Int) < _; decide) | (show (0 : Int) < _; omega) | (show (0 : Int) ≤ _; omega) | exact ⟨by decide, by decide, by decide⟩ | exact ⟨by omega, by omega, by decide⟩ | exact Or.inl ⟨by decide, by decide⟩ | exact Or.inl ⟨by omega, by omega⟩)
local macro_rules | `(tactic| walk_at "rd") => `(tactic| repeat (first | refine ⟨_, rfl, ?_⟩ | refine ⟨_, _, rfl, rfl, ?_⟩ | refine ⟨rfl, ?_⟩ | (refine ⟨?cc, ?_⟩; (case cc => walk_at "cc"))))
theorem Kk(m:Nat):(("places " : String):Str)++tx m=bare [plW,tx m]:=by
 have e:(("places " : String):Str)=plW++spS:=by decide +kernel
 rw[e]
 rfl
def r6:Sp:=fun vs H Q _=>∃(pe pt pk:Addr)(ys xs ws:List V)(m:Nat)(es:En)(ks:Kn)(ts:List (List Nat)),vs = [.ref pe,.ref pt,.ref pk]/\H pe=some (.lst ys)/\cP H ys es/\H pt=some (.lst xs)/\bM H xs ts/\H pk=some (.lst ws)/\i3 H ws ks/\Wr m es ks ts /\
 ∀(q:Addr)(H':Hp),Same H H'->H' q=some (.lst (((aW m es ks ts).map bare).map V.str))->Q (.ref q) H'
def bsTo(m:Nat)(es:En)(ks:Kn)(ts:List (List Nat))(i j:Nat):List V:=V.str (bare [plW,tx m])::((MH i).map (fun i=>V.str (bare (tieW (es.getD i (0,0)) (ks.getD i (0,0)))))++(MH j).map fun i=>V.str (bare (abRW i (ts.getD i []))))
theorem CJ{m:Nat}{es:En}{ks:Kn}{ts:List (List Nat)}{i j:Nat}:(bsTo m es ks ts i j).length=1+i+j:=by
 unfold bsTo
 rw[Mb,Ly,LB,LB,MA,MA]
 omega
theorem IT{m:Nat}{es:En}{ks:Kn}{ts:List (List Nat)}{i:Nat}:bsTo m es ks ts i 0++[V.str (bare (tieW (es.getD i (0,0)) (ks.getD i (0,0))))]=bsTo m es ks ts (i+1) 0:=by
 unfold bsTo
 rw[OF,List.range_zero,List.map_nil,Na,Na,Mu]
 rfl
theorem Lm{m:Nat}{es:En}{ks:Kn}{ts:List (List Nat)}{i j:Nat}:bsTo m es ks ts i j++[V.str (bare (abRW j (ts.getD j [])))]=bsTo m es ks ts i (j+1):=by
 unfold bsTo
 rw[OF (n:=j),Mu,M1,Ma]
 rfl
section
variable{P:Program}{w:World}{K:LA}{mg:Str->Option Value}{base:Heap}
theorem dM:aI ["ends","turns","kinds","rows","k","place"] ["ends","turns","kinds"] (aj cv):=⟨rfl,rfl,rfl,by decide +kernel,rfl,by decide +kernel,by decide +kernel⟩
theorem Fv{f:Addr}{fd:FuncData} (F:Fun K "_law_texted" "_law_texted" cv f fd) (T:Txt mg):FnOk P w K mg base CX0 1 f fd ["ends","turns","kinds"] r6:=by
 refine F.ok dM (fun vs H Q E h=>?_) (fun cdv A outer s H vs Q E hr h=>?_)
 ·obtain⟨pe,pt,pk,ys,xs,ws,m,es,ks,ts,rfl,_⟩:=h
  rfl
 obtain⟨pe,pt,pk,ys,xs,ws,m,es,ks,ts,rfl,hpe,hE,hpt,hR,hpk,tk,wr,kk⟩:=h
 refine⟨_,(af (ay (i:=3) dM.nd rfl (Or.inl rfl) (bu (aa (aF lO bg (bA cD (by rfl) T.n_str lz (aa (ar aq (by rfl) T.n_len aQ (aa (pv 1) ag)) ag))) ag)))
   (af (bO PassesOwn.never rfl (ba rfl T.n_range (aa (ar aq (by rfl) T.n_len aQ (aa (pv 0) ag)) ag)) (aU (i:=4) dM.nd rfl (Or.inl rfl)) (ao (a8 (cg LY Mi Mh bb (pv 3) (aa (cg MT Nf Nx oY bg (aa (bu (aa (aG aX (aG aA (pv 2) (pv 4) (fun _ _=>rfl)) ak (fun _ _=>rfl)) (aa (bA cD (by rfl) T.n_str lz (aa (aG aX (aG aA (pv 0) (pv 4) (fun _ _=>rfl)) ak (fun _ _=>rfl)) ag)) (aa (bA cD (by rfl) T.n_str lz (aa (aG aX (aG aA (pv 0) (pv 4) (fun _ _=>rfl)) ak (fun _ _=>rfl)) ag)) (aa (bA cD (by rfl) T.n_str lz (aa (aG aX (aG aA (pv 2) (pv 4) (fun _ _=>rfl)) ak (fun _ _=>rfl)) ag)) ag))))) ag)) ag)))))
   (af (bO PassesOwn.never rfl (ba rfl T.n_range (aa (ar aq (by rfl) T.n_len aQ (aa (pv 1) ag)) ag)) (aU (i:=5) dM.nd rfl (Or.inl rfl)) (ao (a8 (cg LY Mi Mh bb (pv 3) (aa (cg MT Nf Nx oY bg (aa (aF jK (bu (aa bg (aa (bA cD (by rfl) T.n_str lz (aa (pv 5) ag)) ag))) (dq rfl (fr:=[]) (by exact bK.plain (by rfl) (by decide +kernel) (by rfl) (by decide +kernel) (by rfl) (by decide +kernel)) (bz (aG aA (pv 1) (pv 5) (fun _ _=>rfl))) (fun C ex s H=>(bA cD (by rfl) T.n_str lz (aa (pv 0) ag))))) ag)) ag)))))
   (ao (aL (pv 3)))))),?_⟩
 have few:=wr.few
 have kl:=wr.kl
 have m40:=wr.m40
 have tl:=wr.tl
 have yl:ys.length=es.length:=hE.1
 have xl:xs.length=ts.length:=hR.1
 have s64:(400000:Nat)<=sizeLine:=by decide
 have l7:(("places " : String):Str).length=7:=by decide +kernel
 have lm:=tx2 (n:=m) (by omega)
 refine⟨_,rfl,pt,_,rfl,.inl (SqL.of hpt),_,rfl,et (n:=xs.length) (by omega),_,_,rfl,rfl,?_,?_⟩
 ·rw[l7]
  show 7+(tx xs.length).length<=_
  rw[xl,tl]
  omega
 have ep:V.str ((("places " : String):Str)++((toString ((xs.length:Nat):Int):String):Str))=V.str (bare [plW,tx m]):=by
  rw[xl,tl,← Kk]
  rfl
 rw[ep]
 refine⟨(by show 1<=sizeLine;decide),fun q hq=>?_⟩
 have s1:=ai hq (.lst [V.str (bare [plW,tx m])])
 refine⟨_,rfl,pe,ys,rfl,.inl (SqL.of (s1 _ _ hpe)),_,rfl,by omega,by omega,br (n:=(ys.length:Int).toNat) (fun i σ H2=>∃(v4 v5:Option V),σ = [some (.ref pe),some (.ref pt),some (.ref pk),some (.ref q),v4,v5]/\Same H H2/\H2 q=some (.lst (bsTo m es ks ts i 0))) ⟨_,_,rfl,s1,ae⟩ ?_ ?_⟩
 ·rintro i σ H2 hi ⟨v4,v5,rfl,s2,hq2⟩
  rw[L7,yl]at hi
  rw[MZ]
  obtain⟨pp,x1,x2⟩:=(hE.mono s2).2 i es[i] (Lw hi)
  obtain⟨k1,k2,pk',y1,y2⟩:=(tk.mono s2).2 i ks[i] (Lw (by omega))
  have e':=wr.ee es[i] (Mm _)
  have k':=wr.kk ks[i] (Mm _)
  have ge:es.getD i (0,0)=es[i]:=by rw[Mg,Lw hi];rfl
  have gk:ks.getD i (0,0)=ks[i]:=by rw[Mg,Lw (show i<ks.length by omega)];rfl
  obtain⟨n,hn⟩:∃ n:Nat,ks[i].2=(n:Int):=⟨ks[i].2.toNat,by omega⟩
  have tw:=wr.tw hi
  rw[ge,gk]at tw
  have sl:=g9 tw
  rw[hn]at y2
  refine⟨_,rfl,.inl ⟨rfl,_,SqL.of hq2⟩,rfl,_,rfl,_,rfl,pk,ws,_,_,rfl,rfl,SqL.of (s2 _ _ hpk),aD y1,pk',_,0,_,rfl,rfl,SqT.of y2,at0,_,rfl,_,rfl,pe,ys,_,_,rfl,rfl,SqL.of (s2 _ _ hpe),aD x1,pp,_,0,_,rfl,rfl,SqT.of x2,at0,_,rfl,et (by omega),_,rfl,_,rfl,pe,ys,_,_,rfl,rfl,SqL.of (s2 _ _ hpe),aD x1,pp,_,1,_,rfl,rfl,SqT.of x2,at1,_,rfl,et (by omega),_,rfl,_,rfl,pk,ws,_,_,rfl,rfl,SqL.of (s2 _ _ hpk),aD y1,pk',_,1,_,rfl,rfl,SqT.of y2,at1,_,rfl,et (by omega),(by show 4<=sizeLine;decide),fun a ha=>?_⟩
  have en:ks[i].2.toNat=n:=by omega
  have ew : [V.str (kS ks[i].1),V.str ((toString ((es[i].1:Nat):Int):String):Str),V.str ((toString ((es[i].2:Nat):Int):String):Str),V.str ((toString ((n:Nat):Int):String):Str)]=(tieW es[i] ks[i]).map V.str:=by
   unfold tieW
   rw[en]
   rfl
  rw[ew]
  have sa:=ai ha (.lst ((tieW es[i] ks[i]).map V.str))
  refine⟨((" " : String):Str),a,tieW es[i] ks[i],rfl,rfl,SqL.of ae,?_,?_⟩
  ·have:(tieW es[i] ks[i]).length=4:=rfl
   rw[vH]
   show _+_*1<=_
   omega
  rw[vH]
  refine⟨q,_,_,rfl,rfl,sa _ _ hq2,aB (by rw[CJ];omega),_,_,rfl,a9 (s2.trans sa) hq _,?_⟩
  rw[ae,← IT,ge,gk]
  rfl
 rintro σ H2 ⟨v4,v5,rfl,s2,hq2⟩
 rw[L7,yl]at hq2
 refine⟨_,rfl,pt,xs,rfl,.inl (SqL.of (s2 _ _ hpt)),_,rfl,by omega,by omega,br (n:=(xs.length:Int).toNat) (fun i σ H3=>∃(v4 v5:Option V),σ = [some (.ref pe),some (.ref pt),some (.ref pk),some (.ref q),v4,v5]/\Same H H3/\H3 q=some (.lst (bsTo m es ks ts es.length i))) ⟨_,_,rfl,s2,hq2⟩ ?_ ?_⟩
 ·rintro i σ H3 hi ⟨v4,v5,rfl,s3,hq3⟩
  rw[L7,xl]at hi
  rw[MZ]
  obtain⟨pr,x1,x2⟩:=(hR.mono s3).2 i ts[i] (Lw hi)
  have gt:ts.getD i []=ts[i]:=by rw[Mg,Lw hi];rfl
  obtain⟨w1,w2⟩:=wr.aw hi
  rw[gt]at w1 w2
  have sl:=g9 w1
  have r63:=wr.rl ts[i] (Mm _)
  have l63:=r63.1
  refine⟨_,rfl,.inl ⟨rfl,_,SqL.of hq3⟩,rfl,_,rfl,_,rfl,et (n:=i) (by omega),(by show 2<=sizeLine;decide),fun b hb=>?_⟩
  have sb:=ai hb (.lst [V.str abW,V.str (tx i)])
  have gb:(upd H3 b (.lst [V.str abW,V.str (tx i)])) b=some (.lst [V.str abW,V.str (tx i)]):=ae
  have eb:(upd H3 b (.lst [V.str (("about" : String):Str),V.str ((toString ((i:Nat):Int):String):Str)]))=upd H3 b (.lst [V.str abW,V.str (tx i)]):=rfl
  rw[eb]
  generalize upd H3 b (.lst [V.str abW,V.str (tx i)])=H4 at sb gb
  refine⟨_,rfl,_,rfl,pt,xs,_,_,rfl,rfl,SqL.of (sb _ _ (s3 _ _ hpt)),aD x1,pr,rfl,⟨_,SqL.of (sb _ _ x2)⟩,bI (K:=K) (xs:=ts[i].map iV) (fun j zs H5=>zs=(ts[i].take j).map (fun t=>V.str (tx t))/\H5=H4) (by rw[LB];omega) ⟨rfl,rfl⟩ (fun j zs H5 _ z=>by rw[z.2];exact SqL.of (sb _ _ x2)) ?_ ?_⟩
  ·rintro j x zs H5 hx ⟨rfl,rfl⟩
   rw[LL]at hx
   obtain⟨t,ht,rfl⟩:=Mr.mp hx
   have:=r63.2 t (Lz ht)
   refine⟨_,rfl,_,rfl,et (n:=t) (by omega),?_,rfl⟩
   rw[Mo,ht,Mu]
   rfl
  rintro zs H5 _ ⟨rfl,rfl⟩ D hD
  rw[LB,My]
  have sD:=ai hD (.lst (ts[i].map fun t=>V.str (tx t)))
  refine⟨b,D,_,_,rfl,rfl,SqL.of (sD _ _ gb),SqL.of ae,by rw[LB];show 2+_<=_;omega,fun c hc=>?_⟩
  have ec : [V.str abW,V.str (tx i)]++ts[i].map (fun t=>V.str (tx t))=(abRW i ts[i]).map V.str:=by
   unfold abRW
   rw[Mc,Mc,ME]
   rfl
  rw[ec]
  have sc:=ai hc (.lst ((abRW i ts[i]).map V.str))
  have s6:=sb.trans (sD.trans sc)
  refine⟨((" " : String):Str),c,abRW i ts[i],rfl,rfl,SqL.of ae,?_,?_⟩
  ·rw[vH]
   show _+_*1<=_
   have:(abRW i ts[i]).length*5<=65*5:=Nat.mul_le_mul_right _ w2
   omega
  rw[vH]
  refine⟨q,_,_,rfl,rfl,s6 _ _ hq3,aB (by rw[CJ];omega),_,_,rfl,a9 (s3.trans s6) hq _,?_⟩
  rw[ae,← Lm,gt]
  rfl
 rintro σ H3 ⟨v4,v5,rfl,s3,hq3⟩
 rw[L7,xl]at hq3
 refine⟨_,rfl,kk q H3 s3 ?_⟩
 rw[hq3]
 unfold bsTo aW
 rw[Mc,Mc,Mu,Mu,ME,ME,ME,ME]
 rfl
end
end KF
namespace KF
open PySem L2 PyProof.Rows K8
local macro_rules | `(tactic| walk_at "cc") => `(tactic| first | exact ⟨by decide, by decide⟩ | (show (0 : Int) < _; decide) | (show (0 : Int) < _; omega) | (show (0 : Int) ≤ _; omega) | exact ⟨by decide, by decide, by decide⟩ | exact ⟨by omega, by omega, by decide⟩ | exact Or.inl ⟨by decide, by decide⟩ | exact Or.inl ⟨by omega, by omega⟩)
local macro_rules | `(tactic| walk_at "rd") => `(tactic| repeat (first | refine ⟨_, rfl, ?_⟩ | refine ⟨_, _, rfl, rfl, ?_⟩ | refine ⟨rfl, ?_⟩ | (refine ⟨?cc, ?_⟩; (case cc => walk_at "cc"))))
theorem GL(ns:List Int)(lo hi:Nat):∃ cs:List Int,cutV (ns.map V.int) (some (lo:Int)) (some (hi:Int))=cs.map V.int/\cs.length<=ns.length-lo:=by
 unfold cutV
 have q1:=HT.sIx_nat (ns.map V.int).length 0 lo
 have q2:=HT.sIx_nat (ns.map V.int).length (ns.map V.int).length hi
 rw[q1,q2,← NS,← NR]
 refine⟨_,rfl,?_⟩
 rw[LZ,Mj,LB]
 omega
theorem Jo(K:LA):MK K (.type "str") (.type "str")=some true:=by with_unfolding_all rfl
def sk(K:LA):Sp:=fun vs H Q _=>∃(a:Addr)(ns:List Int),vs = [.ref a]/\SqL K H a (ns.map V.int)/\ns.length<=63/\∀ H',Q (.bl true) H'
section
variable{P:Program}{w:World}{K:LA}{mg:Str->Option Value}{base:Heap}
theorem m8:aI ["script","grown","kinds","web","due","told","back","again"] ["script"] (aj sS):=⟨rfl,rfl,rfl,by decide +kernel,rfl,by decide +kernel,by decide +kernel⟩
theorem ok_law{f fG fR fC fK fT fF fW f1 f2 f3 PL PS WC:Addr}{fd dG dR dC dK dT dF dW d1 d2 d3:FuncData} (F:Fun K "law" "law" sS f fd) (T:Txt mg) (cw:CW K WC) (TL:CT K PL) (TS:CT K PS) (G_law_grown:Cal P w K mg base 3 "_law_grown" ["cells","places"] (sq K) fG dG) (G_law_renumbered:Cal P w K mg base 2 "_law_renumbered" ["grown","cell"] EM fR dR) (G_law_cell:Cal P w K mg base 1 "_law_cell" ["script","k"] (EU K) fC dC) (G_law_kinds:Cal P w K mg base 1 "_law_kinds" ["script","many"] (so K) fK dK) (G_law_ties:Cal P w K mg base 3 "_law_ties" ["ends","kinds"] (yR PL PS) fT dT) (M_Web:Mak P w K mg base 5 "Web" ["self","many","ties","turns"] (oN K) WC fW dW) (G_law_fields:Cal P w K mg base 3 "_law_fields" ["web","grown","kinds"] (su PL PS WC) fF dF) (G_law_texted:Cal P w K mg base 1 "_law_texted" ["ends","turns","kinds"] r6 f1 d1) (G_written:Cal P w K mg base 3 "written" ["web"] (oM PL PS WC) f2 d2) (G_read:Cal P w K mg base 7 "read" ["text"] (yV PL PS WC) f3 d3):FnOk P w K mg base CX0 8 f fd ["script"] (sk K):=by
 refine F.ok m8 (fun vs H Q E h=>?_) (fun cdv A outer s H vs Q E hr h=>?_)
 ·obtain⟨a,ns,rfl,_⟩:=h
  rfl
 obtain⟨a,ns,rfl,hS,h63,kq⟩:=h
 have hu64:=hr.units
 refine⟨_,(af (ay (i:=1) m8.nd rfl (Or.inl rfl) (ax G_law_renumbered.ok (hr.mono (by decide)) rfl G_law_renumbered.mg G_law_renumbered.kp G_law_renumbered.bn .nil aR (aa (ax G_law_grown.ok (hr.mono (by decide)) rfl G_law_grown.mg G_law_grown.kp G_law_grown.bn .nil aR (aa (bY dk (pv 0) (cJ ak) (cJ ak)) (aa ak ag))) (aa (ax G_law_cell.ok (hr.mono (by decide)) rfl G_law_cell.mg G_law_cell.kp G_law_cell.bn .nil aR (aa (pv 0) (aa ak ag))) ag))))
   (af (ay (i:=2) m8.nd rfl (Or.inl rfl) (ax G_law_kinds.ok (hr.mono (by decide)) rfl G_law_kinds.mg G_law_kinds.kp G_law_kinds.bn .nil aR (aa (pv 0) (aa (ar aq (by rfl) T.n_len aQ (aa (aG aX (pv 1) ak (fun _ _=>rfl)) ag)) ag))))
   (af (ay (i:=3) m8.nd rfl (Or.inl rfl) (lN M_Web.mkc M_Web.ok (hr.mono (by decide)) rfl M_Web.mg M_Web.bn .nil aR (aa (ar aq (by rfl) T.n_len aQ (aa (aG aX (pv 1) ak (fun _ _=>rfl)) ag)) (aa (ax G_law_ties.ok (hr.mono (by decide)) rfl G_law_ties.mg G_law_ties.kp G_law_ties.bn .nil aR (aa (aG aX (pv 1) ak (fun _ _=>rfl)) (aa (pv 2) ag))) (aa (dq rfl (fr:=[]) (by exact bK.plain (by rfl) (by decide +kernel) (by rfl) (by decide +kernel) (by rfl) (by decide +kernel)) (bz (aG aX (pv 1) ak (fun _ _=>rfl))) (fun C ex s H=>(bA (rF (K:=K) rfl) (by rfl) T.n_list gQ (aa (pv 0) ag)))) ag)))))
   (af (ay (i:=4) m8.nd rfl (Or.inl rfl) (cg MT Nf Nx oY bg (aa (dq rfl (fr:=[]) (by exact bK.plain (by rfl) (by decide +kernel) (by rfl) (by decide +kernel) (by rfl) (by decide +kernel)) (bz (ax G_law_texted.ok (hr.mono (by decide)) rfl G_law_texted.mg G_law_texted.kp G_law_texted.bn .nil aR (aa (aG aX (pv 1) ak (fun _ _=>rfl)) (aa (aG aX (pv 1) ak (fun _ _=>rfl)) (aa (pv 2) ag))))) (fun C ex s H=>(aF lO (pv 0) bg))) ag)))
   (af (ay (i:=5) m8.nd rfl (Or.inl rfl) (ax G_written.ok (hr.mono (by decide)) rfl G_written.mg G_written.kp G_written.bn .nil aR (aa (pv 3) ag)))
   (af (bt (PW.pt (cG (dg (df (ar cO (by rfl) T.n_isinstance a6 (aa (pv 5) (aa (gc (v:=.ty "str") rfl T.n_str lz rfl) ag))))) (bN (av dr (pv 5) (pv 4) (aK _))))) (ao (aL gd)) aN)
   (af (ay (i:=6) m8.nd rfl (Or.inl rfl) (ax G_read.ok (hr.mono (by decide)) rfl G_read.mg G_read.kp G_read.bn .nil aR (aa (pv 4) ag)))
   (af (ay (i:=7) m8.nd rfl (Or.inl rfl) (ax G_written.ok (hr.mono (by decide)) rfl G_written.mg G_written.kp G_written.bn .nil aR (aa (pv 6) ag)))
   (af (bt (PW.pt (cG (dg (df (ar cO (by rfl) T.n_isinstance a6 (aa (pv 7) (aa (gc (v:=.ty "str") rfl T.n_str lz rfl) ag))))) (bN (av dr (pv 7) (pv 4) (aK _))))) (ao (aL gd)) aN)
   (ao (aL (Fl (ax G_law_fields.ok (hr.mono (by decide)) rfl G_law_fields.mg G_law_fields.kp G_law_fields.bn .nil aR (aa (pv 6) (aa (pv 1) (aa (pv 2) ag)))) (Fh (ax G_law_fields.ok (hr.mono (by decide)) rfl G_law_fields.mg G_law_fields.kp G_law_fields.bn .nil aR (aa (pv 3) (aa (pv 1) (aa (pv 2) ag))))))))))))))))),?_⟩
 obtain⟨cs,hcs,csl⟩:=GL ns 1 80
 refine⟨_,rfl,_,rfl,_,rfl,a,_,rfl,hS,fun b hb=>?_⟩
 have sb:=ai hb (.lst (cs.map V.int))
 rw[show cutV (ns.map V.int) (some 1) (some 80)=cs.map V.int from hcs]
 refine⟨b,40,cs,rfl,SqL.of ae,by omega +splitDisjunctions,by decide,fun t pe pt pr m es ts rg H1 s1 ht ⟨⟨ys,xs,zs,C⟩,g,part⟩ e0 el mP=>?_⟩
 have s01:=sb.trans s1
 refine⟨_,rfl,a,0,ns,rfl,s01.seq hS,t,pe,pt,pr,_,m,es,ts,rg,rfl,ht,⟨⟨ys,C.he,C.en⟩,⟨xs,C.ht,C.rx.off⟩,g⟩,⟨zs,C.hr,C.rz.off⟩,part,g.two e0,by omega +splitDisjunctions,fun t' pe' pt' pr' es' ts' rg' H2 s2 ht' wp rp part' el'=>?_⟩
 have s02:=s01.trans s2
 obtain⟨⟨ys',hpe',hE'⟩,⟨xs',hpt',hR'⟩,g'⟩:=id wp
 have yl':ys'.length=es'.length:=hE'.1
 have xm:xs'.length=m:=by rw[hR'.1,g'.w.len]
 refine⟨_,rfl,_,rfl,t',_,0,_,rfl,rfl,SqT.of ht',at30,pe',ys',rfl,.inl (SqL.of hpe'),a,ys'.length,ns,rfl,s02.seq hS,h63,by omega +splitDisjunctions,fun pk ws ks H3 s3 npk hpk tk kb kl'=>?_⟩
 have s03:=s02.trans s3
 have gb:GB H3 t' pk m es' ts' rg' ks:=⟨⟨pe',pt',pr',s3 _ _ ht',wp.mono s3,rp.mono s3⟩,part',⟨ws,hpk,tk⟩,by omega +splitDisjunctions,by omega +splitDisjunctions,by omega +splitDisjunctions⟩
 have hb3:H3 b=some (.lst (cs.map V.int)):=s3 _ _ (s2 _ _ (s1 _ _ ae))
 refine⟨_,rfl,t',_,1,_,rfl,rfl,SqT.of (s3 _ _ ht'),at31,pt',xs',rfl,.inl (SqL.of (s3 _ _ hpt')),?_⟩
 refine⟨_,rfl,t',_,0,_,rfl,rfl,SqT.of (s3 _ _ ht'),at30,_,rfl,pe',pk,ys',ws,es',ks,rfl,s3 _ _ hpe',hE'.mono s3,hpk,tk,by omega +splitDisjunctions,by omega +splitDisjunctions,fun e he=>(g'.w.ends e he).2.2,fun qt us H4 s4 nqt hqt tt=>?_⟩
 have s34:=s3.trans s4
 have hpt4:=s34 _ _ hpt'
 have usl:us.length=es'.length:=tt.1
 refine⟨_,rfl,t',_,1,_,rfl,rfl,SqT.of (s34 _ _ ht'),at31,pt',rfl,⟨_,SqL.of hpt4⟩,bI (K:=K) (xs:=xs') (fun i zs H5=>Same H4 H5/\bC (fun a=>H4 a≠none) H5 zs (ts'.take i)) (MJ (aB (by omega +splitDisjunctions))) ⟨fun _ _ e=>e,rfl,fun i l e=>by simp at e⟩ (fun i zs H5 _ z=>SqL.of (z.1 _ _ hpt4)) ?_ ?_⟩
 ·rintro i x zs H5 hx ⟨s5,rz⟩
  have hi:i<ts'.length:=by rw[← hR'.1];exact(Lx.mp hx).1
  obtain⟨l,hl⟩:∃ l,ts'[i]?=some l:=⟨_,Lw hi⟩
  obtain⟨p,a1,a2⟩:=(hR'.mono (s34.trans s5)).2 i l hl
  rw[hx]at a1
  cases a1
  refine⟨_,rfl,p,_,rfl,.inl (SqL.of a2),fun gg hg=>?_⟩
  have s6:=ai hg (.lst (l.map iV))
  refine⟨s5.trans s6,?_⟩
  rw[show ts'.take (i+1)=ts'.take i++[l] by rw[Mo,hl];rfl]
  exact(rz.mono fun b u _ z=>s6 _ _ z).snoc (fun z=>z (none_of s5 hg)) ae
 rintro zs5 H5 _ ⟨s5,rz⟩ D hD
 rw[hR'.1,My]at rz
 have sD:=ai hD (.lst zs5)
 have s45:=s5.trans sD
 have nD4:=none_of s5 hD
 have rzD:bC (fun a=>H4 a≠none) (upd H5 D (.lst zs5)) zs5 ts':=rz.mono fun b u _ z=>sD _ _ z
 have hDD:(upd H5 D (.lst zs5)) D=some (.lst zs5):=ae
 generalize upd H5 D (.lst zs5)=HD at sD s45 rzD hDD
 have s3D:=s4.trans s45
 intro x dx nx ndx nex
 have up:∀ b o,HD b=some o->(upd (upd HD dx (.own x)) x (.ins WC dx [])) b=some o:=fun b o z=>by rw[au (aJ z nx),au (aJ z ndx)];exact z
 refine⟨x,WC,dx,qt,D,m,us,zs5,es',ts',(by rw[xm];rfl),ae,cw,up _ _ (s45 _ _ hqt),((tt.at (by omega +splitDisjunctions) TL TS).mono s45).mono up,up _ _ hDD,rzD.off.mono up,g',by omega +splitDisjunctions,by omega +splitDisjunctions,by omega +splitDisjunctions,fun fs q1 rs H6 h1 hg hn h2 h3 h4=>⟨rfl,?_⟩⟩
 have s6:Same HD H6:=fun b o z=>h4 b o (up _ _ z) (aJ z nx)
 have up0:∀ a,HD a≠none->(upd (upd HD dx (.own x)) x (.ins WC dx [])) a≠none:=fun a z y=>z (by
  cases u:HD a with
  |none=>rfl
  |some o=>rw[up _ _ u]at y;cases y)
 have wf:WebF (fun a=>HD a≠none) PL PS WC H6 x m es' ts' rs ks:=⟨dx,fs,q1,us,h1,hg.mono (fun _ _ _ z=>z) (fun _ _ z=>z) up0,fun z=>up0 _ z hn,h2,h3,tt.mono (s45.trans s6)⟩
 have s36:=s3D.trans s6
 have s64:(400000:Nat)<=sizeLine:=by decide
 have wr:Wr m es' ks ts':=⟨by omega +splitDisjunctions,by omega +splitDisjunctions,g'.two (show 0<es'.length by omega +splitDisjunctions),by omega +splitDisjunctions,g'.w.len,fun k hk=>by
  obtain⟨i,hi,rfl⟩:=MY hk
  obtain⟨a1,a2,_⟩:=tk.2 i _ (Lw hi)
  exact⟨a1,a2,kb _ (Mm hi)⟩,fun e he=>by
  have:=g'.w.ends e he
  omega +splitDisjunctions,fun l hl=>by
  obtain⟨i,hi,rfl⟩:=MY hl
  have:=fH g'.w (by omega +splitDisjunctions) (Lw hi)
  exact⟨this.2,this.1⟩⟩
 have s26:=s3.trans s36
 refine⟨rfl,_,rfl,t',_,0,_,rfl,rfl,SqT.of (s26 _ _ ht'),at30,_,rfl,t',_,1,_,rfl,rfl,SqT.of (s26 _ _ ht'),at31,_,rfl,pe',pt',pk,ys',xs',ws,m,es',ks,ts',rfl,s26 _ _ hpe',hE'.mono s26,s26 _ _ hpt',hR'.mono s26,s36 _ _ hpk,tk.mono s36,wr,fun q H7 s7 hq=>⟨q,rfl,⟨_,SqL.of hq⟩,bI (K:=K) (xs:=((aW m es' ks ts').map bare).map V.str) (fun i zs H8=>zs=(((aW m es' ks ts').take i).map fun w=>V.str (rowT w))/\H8=H7) (by rw[LB,LB,xg];have:=wr.tl;have:=wr.m40;have:=wr.few;omega +splitDisjunctions) ⟨rfl,rfl⟩ (fun i zs H8 _ z=>by rw[z.2];exact SqL.of hq) ?_ ?_⟩⟩
 ·rintro i x zs H8 hx ⟨rfl,rfl⟩
  rw[LL,LL]at hx
  obtain⟨b,hb,rfl⟩:=Mr.mp hx
  obtain⟨w,hw,rfl⟩:=Mr.mp hb
  have bl:=(pZ wr (Lz hw)).1
  refine⟨_,rfl,_,_,rfl,rfl,?_,?_,rfl⟩
  ·rw[Ik]
   show _+1<=_
   omega +splitDisjunctions
  ·rw[Ik,Mo,hw,Mu]
   rfl
 rintro zs H8 _ ⟨rfl,rfl⟩ D7 hD7
 rw[LB,LB,My]
 have sD7:=ai hD7 (.lst ((aW m es' ks ts').map fun w=>V.str (rowT w)))
 obtain⟨r1,r2⟩:=wr.rows
 have sl:=g9 r1
 refine⟨(("" : String):Str),D7,(aW m es' ks ts').map rowT,rfl,rfl,SqL.of (by rw[ae,ME];rfl),?_,?_⟩
 ·rw[AS]
  show _+_*0<=_
  omega +splitDisjunctions
 rw[AS]
 have s67:=s7.trans sD7
 have wf7:=wf.mono (KpL.of s67) (fun a z=>z)
 generalize upd H8 D7 (.lst ((aW m es' ks ts').map fun w=>V.str (rowT w)))=H9 at sD7 s67 wf7
 refine⟨_,rfl,_,x,m,es',ts',rs,ks,rfl,wf7,wr,fun Ha sa=>?_⟩
 refine⟨_,rfl,_,_,_,_,_,rfl,TyOf.str _,Or.inl ⟨_,rfl,rfl⟩,Jo K,_,rfl,iteF ?_⟩
 refine⟨_,rfl,_,rfl,rfl,_,rfl,ite2 (fun z=>?_) (fun _=>?_)⟩
 ·rw[show Str.join Str.empty ((aW m es' ks ts').map rowT)=webT m es' ks ts' from rfl]at z
  simp at z
 refine⟨_,rfl,m,es',ks,ts',rfl,wr,g',by omega +splitDisjunctions,fun S' p' rs' Hb sb wfb=>?_⟩
 refine⟨_,rfl,S',p',m,es',ts',rs',ks,rfl,wfb,wr,fun Hc sc=>?_⟩
 refine⟨_,rfl,_,_,_,_,_,rfl,TyOf.str _,Or.inl ⟨_,rfl,rfl⟩,Jo K,_,rfl,iteF ?_⟩
 refine⟨_,rfl,_,rfl,rfl,_,rfl,ite2 (fun z=>?_) (fun _=>?_)⟩
 ·rw[show Str.join Str.empty ((aW m es' ks ts').map rowT)=webT m es' ks ts' from rfl]at z
  simp at z
 have s9c:=sa.trans (sb.trans sc)
 have gbc:=gb.mono (s36.trans (s67.trans s9c))
 refine⟨_,rfl,_,rfl,_,rfl,S',p',t',pk,m,es',ts',rs',rg',ks,rfl,wfb.mono (KpL.of sc) (fun a z=>z),gbc,fun Hd sd=>⟨_,rfl,iteT ?_⟩⟩
 exact⟨_,rfl,_,rfl,_,rfl,_,x,t',pk,m,es',ts',rs,rg',ks,rfl,wf7.mono (KpL.of (s9c.trans sd)) (fun a z=>z),gbc.mono sd,fun He se=>kq He⟩
end
end KF
namespace KF
open PySem L2 PyProof.Rows K8
theorem all_mk{l:O2}{w:World}{K:LA}{h:Heap}{mg:Str->Option Value}{fa bo bj g7 bF fV eG CA kY jv eY gH jo kX dP c9 cM cC oA kW kU gI fk cb dQ jm gE uM oB gG eX Cz Cy ju jt kZ jr gN gK cf gM jq fi js eZ gJ cN fj fg K2:Addr}(X:K.In h)(G:h.Ns mainGlobals mg) (hfa:mg "law" = some (.ref fa))
  {tT vy z4 BI wH yB Kz Lr Dn Eo zZ BH tM vo wA yu zT BB Dm Em qE qT oU qc nR og tS vx FE Hm Dl El Dk Ek wB yv tR vw lP mN qF qU zS BA wy yr Ih IW FF Hn wz yt tL vm Ky Lq Kx Lp zY BG zX BF Dp Ep zV BD wG yA wD yx lQ mO wF yz zU BC tP vt zW BE tN vp wC yw nS oh tQ vv tO vq od_law JD:Option Addr} {sN zg vT JY CY zf sF vN y7 CV qA oP nM sM EW CU CS vO sL lH qB y6 vL HC EX vM sy JX JW ze zd CZ y9 vS vQ lI vR y8 sI zc sG vP nN sJ sH sl_law:Array (Option Value)} {uf uE uX tH ly ve Af AH Bc zI pS Bm wR xt xM wk nA xV KD KQ Lc Kj GY Lj Du DN DW Df rC D3 Ae AG Bb zH pR Bl tV ux uQ sY lg uZ wK xk xF wa nj xP z8 Az AW zB pL Bf Dt DM DV De rB D1 qG qL qO qC jz qQ oW pB pH oS iI pI nT nX nZ nP gW n8 ue uD uW tG lx vd FG F2 GD Fc xZ GN Ds DL DU Dd rA DZ Dr DK DT Dc rm DY wL xn xG wb nk xQ ud uC uV tF lu vc lR ma mw lL fX mB qH qM qP qD jA qR z6 Ay AV zA pK Be wI xi xD vY nh xN Ii Iy IK HJ CI IM FH F3 GF Fd x8 GO wJ xj xE vZ ni xO tU uw uP sX k9 uY KC KP Lb Ki GW Li KA KO La Kh GV Lh Ad AF Ba zG pQ Bk Ac AE A0 zF pP Bj Dv DO DX Dg rD D4 Aa AB AY zD pN Bh wQ xr xK wj nz xU wN xp xI wd nu xS lS md mz lM fY mC wO xq xJ we nv xT z9 AA AX zC pM Bg t9 uA uT tD lp u6 Ab AD AZ zE pO Bi tW uy uR sZ lh u4 wM xo xH wc nt xR nU nY n0 nQ gX n9 uc uB uU tE lq u9 tZ uz uS tm lj u5 oc_law Jp Jy Jg GX JB:Value}
  {ti_gF ti_gL:Tok}
  (BL:LQ K mainGlobals "Pull" = some (some (.ref bo)))
  (BK:LQ K mainGlobals "Push" = some (some (.ref bj)))
  (Hs:LQ K mainGlobals "Web" = some (some (.ref g7)))
  (ic:Mf K (.ref bo) "__init__" = some (some (.ref bF)))
  (h9:Mf K (.ref bo) "wish" = some (some (.ref fV)))
  (h7:Mf K (.ref bj) "__init__" = some (some (.ref bF)))
  (hV:Mf K (.ref bj) "wish" = some (some (.ref eG)))
  (jS:Mf K (.ref g7) "__init__" = some (some (.ref cC)))
  (iz:K.lookup bF=some ⟨uf,tT,.func (LX "__init__" "Tie.__init__" (aH cB) (aE cB) (aj cB) .none uE uX tH vy ly ve),sN⟩)
  (iS:LS K ly "Tie.__init__" = true)
  (iF:LP K (.ref bF)=true)
  (eW:N5 K (.ref bF)=true)
  (l9:K.lookup fV=some ⟨Af,z4,.func (LX "wish" "Tie.wish" (aH eg) (aE eg) (aj eg) .none AH Bc zI BI pS Bm),zg⟩)
  (mM:LS K pS "Tie.wish" = true)
  (jk:LP K (.ref fV)=true)
  (mq:N5 K (.ref fV)=true)
  (j1:K.lookup eG=some ⟨wR,wH,.func (LX "wish" "Push.wish" (aH cZ) (aE cZ) (aj cZ) .none xt xM wk yB nA xV),vT⟩)
  (ki:LS K nA "Push.wish" = true)
  (gC:LP K (.ref eG)=true)
  (j2:N5 K (.ref eG)=true)
  (Hr:LQ K mainGlobals "head" = some (some (.ref CA)))
  (FY:K.lookup CA=some ⟨KD,Kz,.func (LX "head" "head" (aH rh) (aE rh) (aj rh) .none KQ Lc Kj Lr GY Lj),JY⟩)
  (G9:LS K GY "head" = true)
  (k_head:LP K (.ref CA)=true)
  (qi:LQ K mainGlobals "leaving" = some (some (.ref kY)))
  (pj:K.lookup kY=some ⟨Du,Dn,.func (LX "leaving" "leaving" (aH fP) (aE fP) (aj fP) .none DN DW Df Eo rC D3),CY⟩)
  (pW:LS K rC "leaving" = true)
  (kP:LP K (.ref kY)=true)
  (mY:LQ K mainGlobals "follower" = some (some (.ref jv)))
  (l8:K.lookup jv=some ⟨Ae,zZ,.func (LX "follower" "follower" (aH d9) (aE d9) (aj d9) .none AG Bb zH BH pR Bl),zf⟩)
  (mK:LS K pR "follower" = true)
  (jj:LP K (.ref jv)=true)
  (iU:LQ K mainGlobals "round_from" = some (some (.ref eY)))
  (ig:K.lookup eY=some ⟨tV,tM,.func (LX "round_from" "round_from" (aH cq) (aE cq) (aj cq) .none ux uQ sY vo lg uZ),sF⟩)
  (iL:LS K lg "round_from" = true)
  (eP:LP K (.ref eY)=true)
  (kr:LQ K mainGlobals "rounds_of" = some (some (.ref gH)))
  (jV:K.lookup gH=some ⟨wK,wA,.func (LX "rounds_of" "rounds_of" (aH cT) (aE cT) (aj cT) .none xk xF wa yu nj xP),vN⟩)
  (j8:LS K nj "rounds_of" = true)
  (gs:LP K (.ref gH)=true)
  (mR:LQ K mainGlobals "sides_of" = some (some (.ref jo)))
  (lW:K.lookup jo=some ⟨z8,zT,.func (LX "sides_of" "sides_of" (aH dU) (aE dU) (aj dU) .none Az AW zB BB pL Bf),y7⟩)
  (mE:LS K pL "sides_of" = true)
  (jd:LP K (.ref jo)=true)
  (qg:LQ K mainGlobals "reached" = some (some (.ref kX)))
  (ph:K.lookup kX=some ⟨Dt,Dm,.func (LX "reached" "reached" (aH fO) (aE fO) (aj fO) .none DM DV De Em rB D1),CV⟩)
  (pV:LS K rB "reached" = true)
  (kO:LP K (.ref kX)=true)
  (gS:LQ K mainGlobals "refuse_ends" = some (some (.ref dP)))
  (gj:K.lookup dP=some ⟨qG,qE,.func (LX "refuse_ends" "refuse_ends" (aH bQ) (aE bQ) (aj bQ) .none qL qO qC qT jz qQ),qA⟩)
  (gO:LS K jz "refuse_ends" = true)
  (dN:LP K (.ref dP)=true)
  (fE:LQ K mainGlobals "refuse_turns" = some (some (.ref c9)))
  (fA:K.lookup c9=some ⟨oW,oU,.func (LX "refuse_turns" "refuse_turns" (aH bL) (aE bL) (aj bL) .none pB pH oS qc iI pI),oP⟩)
  (fD:LS K iI "refuse_turns" = true)
  (c8:LP K (.ref c9)=true)
  (eK:LQ K mainGlobals "refuse_parted" = some (some (.ref cM)))
  (eA:K.lookup cM=some ⟨nT,nR,.func (LX "refuse_parted" "refuse_parted" (aH bw) (aE bw) (aj bw) .none nX nZ nP og gW n8),nM⟩)
  (eI:LS K gW "refuse_parted" = true)
  (cK:LP K (.ref cM)=true)
  (iy:K.lookup cC=some ⟨ue,tS,.func (LX "__init__" "Web.__init__" (aH cA) (aE cA) (aj cA) .none uD uW tG vx lx vd),sM⟩)
  (iR:LS K lx "Web.__init__" = true)
  (iE:LP K (.ref cC)=true)
  (iG:N5 K (.ref cC)=true)
  (vz:LQ K mainGlobals "row_of" = some (some (.ref oA)))
  (uq:K.lookup oA=some ⟨FG,FE,.func (LX "row_of" "row_of" (aH i9) (aE i9) (aj i9) .none F2 GD Fc Hm xZ GN),EW⟩)
  (vg:LS K xZ "row_of" = true)
  (ou:LP K (.ref oA)=true)
  (qf:LQ K mainGlobals "tie_row" = some (some (.ref kW)))
  (pf:K.lookup kW=some ⟨Ds,Dl,.func (LX "tie_row" "tie_row" (aH fN) (aE fN) (aj fN) .none DL DU Dd El rA DZ),CU⟩)
  (pU:LS K rA "tie_row" = true)
  (kM:LP K (.ref kW)=true)
  (qd:LQ K mainGlobals "written" = some (some (.ref kU)))
  (o9:K.lookup kU=some ⟨Dr,Dk,.func (LX "written" "written" (aH fM) (aE fM) (aj fM) .none DK DT Dc Ek rm DY),CS⟩)
  (pT:LS K rm "written" = true)
  (kL:LP K (.ref kU)=true)
  (ku:LQ K mainGlobals "number_of" = some (some (.ref gI)))
  (jW:K.lookup gI=some ⟨wL,wB,.func (LX "number_of" "number_of" (aH cU) (aE cU) (aj cU) .none xn xG wb yv nk xQ),vO⟩)
  (j9:LS K nk "number_of" = true)
  (gu:LP K (.ref gI)=true)
  (i0:LQ K mainGlobals "first_word" = some (some (.ref fk)))
  (iw:K.lookup fk=some ⟨ud,tR,.func (LX "first_word" "first_word" (aH cz) (aE cz) (aj cz) .none uC uV tF vw lu vc),sL⟩)
  (iQ:LS K lu "first_word" = true)
  (eV:LP K (.ref fk)=true)
  (dA:LQ K mainGlobals "numbers_behind" = some (some (.ref cb)))
  (dv:K.lookup cb=some ⟨lR,lP,.func (LX "numbers_behind" "numbers_behind" (aH bp) (aE bp) (aj bp) .none ma mw lL mN fX mB),lH⟩)
  (dy:LS K fX "numbers_behind" = true)
  (bZ:LP K (.ref cb)=true)
  (gT:LQ K mainGlobals "places_told" = some (some (.ref dQ)))
  (gm:K.lookup dQ=some ⟨qH,qF,.func (LX "places_told" "places_told" (aH bR) (aE bR) (aj bR) .none qM qP qD qU jA qR),qB⟩)
  (gP:LS K jA "places_told" = true)
  (dO:LP K (.ref dQ)=true)
  (mQ:LQ K mainGlobals "tie_told" = some (some (.ref jm)))
  (lU:K.lookup jm=some ⟨z6,zS,.func (LX "tie_told" "tie_told" (aH dS) (aE dS) (aj dS) .none Ay AV zA BA pK Be),y6⟩)
  (mD:LS K pK "tie_told" = true)
  (jc:LP K (.ref jm)=true)
  (kj:LQ K mainGlobals "turn_told" = some (some (.ref gE)))
  (jT:K.lookup gE=some ⟨wI,wy,.func (LX "turn_told" "turn_told" (aH cR) (aE cR) (aj cR) .none xi xD vY yr nh xN),vL⟩)
  (j6:LS K nh "turn_told" = true)
  (gp:LP K (.ref gE)=true)
  (BJ:LQ K mainGlobals "right" = some (some (.ref uM)))
  (Av:K.lookup uM=some ⟨Ii,Ih,.func (LX "right" "right" (aH lJ) (aE lJ) (aj lJ) .none Iy IK HJ IW CI IM),HC⟩)
  (Bo:LS K CI "right" = true)
  (uv:LP K (.ref uM)=true)
  (vA:LQ K mainGlobals "row_at" = some (some (.ref oB)))
  (ur:K.lookup oB=some ⟨FH,FF,.func (LX "row_at" "row_at" (aH ja) (aE ja) (aj ja) .none F3 GF Fd Hn x8 GO),EX⟩)
  (vh:LS K x8 "row_at" = true)
  (ow:LP K (.ref oB)=true)
  (ko:LQ K mainGlobals "ties_told" = some (some (.ref gG)))
  (jU:K.lookup gG=some ⟨wJ,wz,.func (LX "ties_told" "ties_told" (aH cS) (aE cS) (aj cS) .none xj xE vZ yt ni xO),vM⟩)
  (j7:LS K ni "ties_told" = true)
  (gq:LP K (.ref gG)=true)
  (iT:LQ K mainGlobals "turns_told" = some (some (.ref eX)))
  (ie:K.lookup eX=some ⟨tU,tL,.func (LX "turns_told" "turns_told" (aH cp) (aE cp) (aj cp) .none uw uP sX vm k9 uY),sy⟩)
  (iK:LS K k9 "turns_told" = true)
  (eO:LP K (.ref eX)=true)
  (Hq:LQ K mainGlobals "made" = some (some (.ref Cz)))
  (FX:K.lookup Cz=some ⟨KC,Ky,.func (LX "made" "made" (aH rf) (aE rf) (aj rf) .none KP Lb Ki Lq GW Li),JX⟩)
  (G8:LS K GW "made" = true)
  (Cs:LP K (.ref Cz)=true)
  (Ho:LQ K mainGlobals "read" = some (some (.ref Cy)))
  (FW:K.lookup Cy=some ⟨KA,Kx,.func (LX "read" "read" (aH ra) (aE ra) (aj ra) .none KO La Kh Lp GV Lh),JW⟩)
  (G7:LS K GV "read" = true)
  (Cr:LP K (.ref Cy)=true)
  (mX:LQ K mainGlobals "_law_cell" = some (some (.ref ju)))
  (l6:K.lookup ju=some ⟨Ad,zY,.func (LX "_law_cell" "_law_cell" (aH d8) (aE d8) (aj d8) .none AF Ba zG BG pQ Bk),ze⟩)
  (mJ:LS K pQ "_law_cell" = true)
  (ji:LP K (.ref ju)=true)
  (mW:LQ K mainGlobals "_law_head" = some (some (.ref jt)))
  (l5:K.lookup jt=some ⟨Ac,zX,.func (LX "_law_head" "_law_head" (aH d7) (aE d7) (aj d7) .none AE A0 zF BF pP Bj),zd⟩)
  (mI:LS K pP "_law_head" = true)
  (jh:LP K (.ref jt)=true)
  (qj:LQ K mainGlobals "_law_put" = some (some (.ref kZ)))
  (pz:K.lookup kZ=some ⟨Dv,Dp,.func (LX "_law_put" "_law_put" (aH fQ) (aE fQ) (aj fQ) .none DO DX Dg Ep rD D4),CZ⟩)
  (pX:LS K rD "_law_put" = true)
  (kQ:LP K (.ref kZ)=true)
  (mU:LQ K mainGlobals "_law_step" = some (some (.ref jr)))
  (lY:K.lookup jr=some ⟨Aa,zV,.func (LX "_law_step" "_law_step" (aH dY) (aE dY) (aj dY) .none AB AY zD BD pN Bh),y9⟩)
  (mG:LS K pN "_law_step" = true)
  (jf:LP K (.ref jr)=true)
  (kB:LQ K mainGlobals "_law_grown" = some (some (.ref gN)))
  (j0:K.lookup gN=some ⟨wQ,wG,.func (LX "_law_grown" "_law_grown" (aH cY) (aE cY) (aj cY) .none xr xK wj yA nz xU),vS⟩)
  (kh:LS K nz "_law_grown" = true)
  (gB:LP K (.ref gN)=true)
  (kz:LQ K mainGlobals "_law_order" = some (some (.ref gK)))
  (jY:K.lookup gK=some ⟨wN,wD,.func (LX "_law_order" "_law_order" (aH cW) (aE cW) (aj cW) .none xp xI wd yx nu xS),vQ⟩)
  (kc:LS K nu "_law_order" = true)
  (gz:LP K (.ref gK)=true)
  (dB:LQ K mainGlobals "_law_renumbered" = some (some (.ref cf)))
  (dw:K.lookup cf=some ⟨lS,lQ,.func (LX "_law_renumbered" "_law_renumbered" (aH bq) (aE bq) (aj bq) .none md mz lM mO fY mC),lI⟩)
  (dz:LS K fY "_law_renumbered" = true)
  (b9:LP K (.ref cf)=true)
  (kA:LQ K mainGlobals "_law_kinds" = some (some (.ref gM)))
  (jZ:K.lookup gM=some ⟨wO,wF,.func (LX "_law_kinds" "_law_kinds" (aH cX) (aE cX) (aj cX) .none xq xJ we yz nv xT),vR⟩)
  (kg:LS K nv "_law_kinds" = true)
  (gA:LP K (.ref gM)=true)
  (mT:LQ K mainGlobals "_law_ties" = some (some (.ref jq)))
  (lX:K.lookup jq=some ⟨z9,zU,.func (LX "_law_ties" "_law_ties" (aH dX) (aE dX) (aj dX) .none AA AX zC BC pM Bg),y8⟩)
  (mF:LS K pM "_law_ties" = true)
  (je:LP K (.ref jq)=true)
  (iY:LQ K mainGlobals "_law_number" = some (some (.ref fi)))
  (ir:K.lookup fi=some ⟨t9,tP,.func (LX "_law_number" "_law_number" (aH cx) (aE cx) (aj cx) .none uA uT tD vt lp u6),sI⟩)
  (iO:LS K lp "_law_number" = true)
  (eS:LP K (.ref fi)=true)
  (mV:LQ K mainGlobals "_law_rows" = some (some (.ref js)))
  (lZ:K.lookup js=some ⟨Ab,zW,.func (LX "_law_rows" "_law_rows" (aH dZ) (aE dZ) (aj dZ) .none AD AZ zE BE pO Bi),zc⟩)
  (mH:LS K pO "_law_rows" = true)
  (jg:LP K (.ref js)=true)
  (iW:LQ K mainGlobals "_law_turned" = some (some (.ref eZ)))
  (ik:K.lookup eZ=some ⟨tW,tN,.func (LX "_law_turned" "_law_turned" (aH cu) (aE cu) (aj cu) .none uy uR sZ vp lh u4),sG⟩)
  (iM:LS K lh "_law_turned" = true)
  (eQ:LP K (.ref eZ)=true)
  (kx:LQ K mainGlobals "_law_sides" = some (some (.ref gJ)))
  (jX:K.lookup gJ=some ⟨wM,wC,.func (LX "_law_sides" "_law_sides" (aH cV) (aE cV) (aj cV) .none xo xH wc yw nt xR),vP⟩)
  (ka:LS K nt "_law_sides" = true)
  (gy:LP K (.ref gJ)=true)
  (eM:LQ K mainGlobals "_law_same_ties" = some (some (.ref cN)))
  (eB:K.lookup cN=some ⟨nU,nS,.func (LX "_law_same_ties" "_law_same_ties" (aH bx) (aE bx) (aj bx) .none nY n0 nQ oh gX n9),nN⟩)
  (eJ:LS K gX "_law_same_ties" = true)
  (cL:LP K (.ref cN)=true)
  (iZ:LQ K mainGlobals "_law_fields" = some (some (.ref fj)))
  (iu:K.lookup fj=some ⟨uc,tQ,.func (LX "_law_fields" "_law_fields" (aH cy) (aE cy) (aj cy) .none uB uU tE vv lq u9),sJ⟩)
  (iP:LS K lq "_law_fields" = true)
  (eU:LP K (.ref fj)=true)
  (iX:LQ K mainGlobals "_law_texted" = some (some (.ref fg)))
  (iq:K.lookup fg=some ⟨tZ,tO,.func (LX "_law_texted" "_law_texted" (aH cv) (aE cv) (aj cv) .none uz uS tm vq lj u5),sH⟩)
  (iN:LS K lj "_law_texted" = true)
  (eR:LP K (.ref fg)=true)
  (IX:LQ K mainGlobals "law" = some (some (.ref K2)))
  (KL:K.lookup K2=some ⟨oc_law,od_law,.func (LX "law" "law" (aH sS) (aE sS) (aj sS) .none Jp Jy Jg JD GX JB),sl_law⟩)
  (Lk:LS K GX "law" = true)
  (KN:LP K (.ref K2)=true)
  (zL:Nt K bo Str.empty=true)
  (AN:Nz K bo=true)
  (zz:NX K bo=true)
  (zo:Mf K (.ref bo) "__setattr__" = some (some (.builtin "object.__setattr__")))
  (Ai:Of K bo=true)
  (Ax:LP K (.ref bo)=true)
  (jR:Mf K (.ref bo) "one" = some none)
  (jQ:Mf K (.ref bo) "two" = some none)
  (du:Mf K (.ref bo) "strength" = some none)
  (AQ:Mf K (.ref bo) "__class__" = some (some (.builtin "object.__class__")))
  (AL:Ob K bo (.type "object")=some true)
  (iD:MK K (.ref bo) (.ref bo)=some true)
  (iC:MK K (.ref bo) (.ref bj)=some false)
  (zK:Nt K bj Str.empty=true)
  (AM:Nz K bj=true)
  (zy:NX K bj=true)
  (zm:Mf K (.ref bj) "__setattr__" = some (some (.builtin "object.__setattr__")))
  (Ag:Of K bj=true)
  (Aw:LP K (.ref bj)=true)
  (jP:Mf K (.ref bj) "one" = some none)
  (jO:Mf K (.ref bj) "two" = some none)
  (dt:Mf K (.ref bj) "strength" = some none)
  (AO:Mf K (.ref bj) "__class__" = some (some (.builtin "object.__class__")))
  (AK:Ob K bj (.type "object")=some true)
  (iB:MK K (.ref bj) (.ref bo)=some false)
  (iA:MK K (.ref bj) (.ref bj)=some true)
  (Fe:Nt K g7 Str.empty=true)
  (Gj:Nz K g7=true)
  (Fb:NX K g7=true)
  (E3:Mf K (.ref g7) "__setattr__" = some (some (.builtin "object.__setattr__")))
  (FJ:Of K g7=true)
  (F1:LP K (.ref g7)=true)
  (jN:Mf K (.ref g7) "many" = some none)
  (jM:Mf K (.ref g7) "ties" = some none)
  (hJ:Mf K (.ref g7) "turns" = some none)
  (gf:Mf K (.ref g7) "rounds" = some none)
  (hU:Mf K (.ref g7) "sides" = some none)
  (hn_:OR K (.builtin "object.__class__") "__get__" = some (some (.builtin "getset_descriptor.__get__")))
  (htk_:O0 K (.builtin "object.__class__")=some true)
  (gi_gF:LQ K mainGlobals "MOST_FIGURES" = some (some (.int 31 ti_gF)))
  (gi_gL:LQ K mainGlobals "MOST_TIES" = some (some (.int 80 ti_gL)))
  (JL:LQ K mainGlobals "len" = some none)
  (JM:LQ K mainGlobals "int" = some none)
  (JI:LQ K mainGlobals "str" = some none)
  (Es:LQ K mainGlobals "bool" = some none)
  (Er:LQ K mainGlobals "list" = some none)
  (yI:LQ K mainGlobals "tuple" = some none)
  (yJ:LQ K mainGlobals "range" = some none)
  (JN:LQ K mainGlobals "all" = some none)
  (jD:LQ K mainGlobals "enumerate" = some none)
  (g8:LQ K mainGlobals "isinstance" = some none)
  (JJ:LQ K mainGlobals "min" = some none)
  (JH:LQ K mainGlobals "sum" = some none)
  (rS:LQ K mainGlobals "sorted" = some none)
  (JK:LQ K mainGlobals "max" = some none)
  : ∃ fd:FuncData,(∀(s:Shared)(v:Value),BindsTo s fd ⟨[v],[]⟩ [("script",v)])/\∀ base:Heap,K.In base->base.Ns mainGlobals mg->FnOk l.prog w K mg base CX0 8 fa fd ["script"] (sk K):=by
 have e:=hfa.symm.trans (LW X G IX)
 cases e
 have nL:=aT (st:=cB) iz iS iF
 have nB:=nL.binds (ps:=["self","one","two","strength"]) fun _ _ _ _ _ _ us hl=>by obtain⟨x0,x1,x2,x3,rfl⟩:=FV hl;rfl
 have rR:=aT (st:=eg) l9 mM jk
 have Ei:=rR.binds (ps:=["self"]) fun _ _ _ _ _ _ us hl=>by obtain⟨x0,rfl⟩:=lT hl;rfl
 have qy:=aT (st:=cZ) j1 ki gC
 have Bx:=qy.binds (ps:=["self"]) fun _ _ _ _ _ _ us hl=>by obtain⟨x0,rfl⟩:=lT hl;rfl
 have JG:=aT (st:=rh) FY G9 k_head
 have b_head:=JG.binds (ps:=["ties","dart"]) fun _ _ _ _ _ _ us hl=>by obtain⟨x0,x1,rfl⟩:=fU hl;rfl
 have yG:=aT (st:=fP) pj pW kP
 have Hj:=yG.binds (ps:=["ties","number","place"]) fun _ _ _ _ _ _ us hl=>by obtain⟨x0,x1,x2,rfl⟩:=qJ hl;rfl
 have rQ:=aT (st:=d9) l8 mK jj
 have Eh:=rQ.binds (ps:=["ties","turns","dart"]) fun _ _ _ _ _ _ us hl=>by obtain⟨x0,x1,x2,rfl⟩:=qJ hl;rfl
 have nE:=aT (st:=cq) ig iL eP
 have yj:=nE.binds (ps:=["ties","turns","first"]) fun _ _ _ _ _ _ us hl=>by obtain⟨x0,x1,x2,rfl⟩:=qJ hl;rfl
 have qp:=aT (st:=cT) jV j8 gs
 have Br:=qp.binds (ps:=["ties","turns"]) fun _ _ _ _ _ _ us hl=>by obtain⟨x0,x1,rfl⟩:=fU hl;rfl
 have rK:=aT (st:=dU) lW mE jd
 have Eb:=rK.binds (ps:=["ties","rounds"]) fun _ _ _ _ _ _ us hl=>by obtain⟨x0,x1,rfl⟩:=fU hl;rfl
 have yF:=aT (st:=fO) ph pV kO
 have Hi:=yF.binds (ps:=["start","pairs"]) fun _ _ _ _ _ _ us hl=>by obtain⟨x0,x1,rfl⟩:=fU hl;rfl
 have lB:=aT (st:=bQ) gj gO dN
 have vj:=lB.binds (ps:=["many","ties"]) fun _ _ _ _ _ _ us hl=>by obtain⟨x0,x1,rfl⟩:=fU hl;rfl
 have jC:=aT (st:=bL) fA fD c8
 have qS:=jC.binds (ps:=["many","ties","turns"]) fun _ _ _ _ _ _ us hl=>by obtain⟨x0,x1,x2,rfl⟩:=qJ hl;rfl
 have i5:=aT (st:=bw) eA eI cK
 have qa:=i5.binds (ps:=["many","ties"]) fun _ _ _ _ _ _ us hl=>by obtain⟨x0,x1,rfl⟩:=fU hl;rfl
 have nK:=aT (st:=cA) iy iR iE
 have yq:=nK.binds (ps:=["self","many","ties","turns"]) fun _ _ _ _ _ _ us hl=>by obtain⟨x0,x1,x2,x3,rfl⟩:=FV hl;rfl
 have CM:=aT (st:=i9) uq vg ou
 have IU:=CM.binds (ps:=["words"]) fun _ _ _ _ _ _ us hl=>by obtain⟨x0,rfl⟩:=lT hl;rfl
 have yE:=aT (st:=fN) pf pU kM
 have Hh:=yE.binds (ps:=["tie"]) fun _ _ _ _ _ _ us hl=>by obtain⟨x0,rfl⟩:=lT hl;rfl
 have yD:=aT (st:=fM) o9 pT kL
 have Hg:=yD.binds (ps:=["web"]) fun _ _ _ _ _ _ us hl=>by obtain⟨x0,rfl⟩:=lT hl;rfl
 have qq:=aT (st:=cU) jW j9 gu
 have Bs:=qq.binds (ps:=["word","figures"]) fun _ _ _ _ _ _ us hl=>by obtain⟨x0,x1,rfl⟩:=fU hl;rfl
 have nJ:=aT (st:=cz) iw iQ eV
 have yp:=nJ.binds (ps:=["row"]) fun _ _ _ _ _ _ us hl=>by obtain⟨x0,rfl⟩:=lT hl;rfl
 have gY:=aT (st:=bp) dv dy bZ
 have oa:=gY.binds (ps:=["first","row","figures"]) fun _ _ _ _ _ _ us hl=>by obtain⟨x0,x1,x2,rfl⟩:=qJ hl;rfl
 have lC:=aT (st:=bR) gm gP dO
 have vk:=lC.binds (ps:=["row"]) fun _ _ _ _ _ _ us hl=>by obtain⟨x0,rfl⟩:=lT hl;rfl
 have rJ:=aT (st:=dS) lU mD jc
 have Ea:=rJ.binds (ps:=["row"]) fun _ _ _ _ _ _ us hl=>by obtain⟨x0,rfl⟩:=lT hl;rfl
 have qm:=aT (st:=cR) jT j6 gp
 have Bp:=qm.binds (ps:=["place","row"]) fun _ _ _ _ _ _ us hl=>by obtain⟨x0,x1,rfl⟩:=fU hl;rfl
 have Hu:=aT (st:=lJ) Av Bo uv
 have Ln:=Hu.binds (ps:=["told","at"]) fun _ _ _ _ _ _ us hl=>by obtain⟨x0,x1,rfl⟩:=fU hl;rfl
 have CN:=aT (st:=ja) ur vh ow
 have IV:=CN.binds (ps:=["rows","number"]) fun _ _ _ _ _ _ us hl=>by obtain⟨x0,x1,rfl⟩:=fU hl;rfl
 have qo:=aT (st:=cS) jU j7 gq
 have Bq:=qo.binds (ps:=["rows"]) fun _ _ _ _ _ _ us hl=>by obtain⟨x0,rfl⟩:=lT hl;rfl
 have nC:=aT (st:=cp) ie iK eO
 have yi:=nC.binds (ps:=["many","rows","ahead"]) fun _ _ _ _ _ _ us hl=>by obtain⟨x0,x1,x2,rfl⟩:=qJ hl;rfl
 have JF:=aT (st:=rf) FX G8 Cs
 have b_made:=JF.binds (ps:=["kind","one","two","strength"]) fun _ _ _ _ _ _ us hl=>by obtain⟨x0,x1,x2,x3,rfl⟩:=FV hl;rfl
 have JE:=aT (st:=ra) FW G7 Cr
 have b_read:=JE.binds (ps:=["text"]) fun _ _ _ _ _ _ us hl=>by obtain⟨x0,rfl⟩:=lT hl;rfl
 have rP:=aT (st:=d8) l6 mJ ji
 have Eg:=rP.binds (ps:=["script","k"]) fun _ _ _ _ _ _ us hl=>by obtain⟨x0,x1,rfl⟩:=fU hl;rfl
 have rO:=aT (st:=d7) l5 mI jh
 have Ef:=rO.binds (ps:=["ends","dart"]) fun _ _ _ _ _ _ us hl=>by obtain⟨x0,x1,rfl⟩:=fU hl;rfl
 have yH:=aT (st:=fQ) pz pX kQ
 have Hk:=yH.binds (ps:=["turns","place","behind","fresh"]) fun _ _ _ _ _ _ us hl=>by obtain⟨x0,x1,x2,x3,rfl⟩:=FV hl;rfl
 have rM:=aT (st:=dY) lY mG jf
 have Ed:=rM.binds (ps:=["cell","ends","turns","rings","places"]) fun _ _ _ _ _ _ us hl=>by obtain⟨x0,x1,x2,x3,x4,rfl⟩:=len_5 hl;rfl
 have qx:=aT (st:=cY) j0 kh gB
 have Bw:=qx.binds (ps:=["cells","places"]) fun _ _ _ _ _ _ us hl=>by obtain⟨x0,x1,rfl⟩:=fU hl;rfl
 have qv:=aT (st:=cW) jY kc gz
 have Bu:=qv.binds (ps:=["cell","many"]) fun _ _ _ _ _ _ us hl=>by obtain⟨x0,x1,rfl⟩:=fU hl;rfl
 have gZ:=aT (st:=bq) dw dz b9
 have oe:=gZ.binds (ps:=["grown","cell"]) fun _ _ _ _ _ _ us hl=>by obtain⟨x0,x1,rfl⟩:=fU hl;rfl
 have qw:=aT (st:=cX) jZ kg gA
 have Bv:=qw.binds (ps:=["script","many"]) fun _ _ _ _ _ _ us hl=>by obtain⟨x0,x1,rfl⟩:=fU hl;rfl
 have rL:=aT (st:=dX) lX mF je
 have Ec:=rL.binds (ps:=["ends","kinds"]) fun _ _ _ _ _ _ us hl=>by obtain⟨x0,x1,rfl⟩:=fU hl;rfl
 have nH:=aT (st:=cx) ir iO eS
 have yn:=nH.binds (ps:=["found"]) fun _ _ _ _ _ _ us hl=>by obtain⟨x0,rfl⟩:=lT hl;rfl
 have rN:=aT (st:=dZ) lZ mH jg
 have Ee:=rN.binds (ps:=["found","due"]) fun _ _ _ _ _ _ us hl=>by obtain⟨x0,x1,rfl⟩:=fU hl;rfl
 have nF:=aT (st:=cu) ik iM eQ
 have yk:=nF.binds (ps:=["ring"]) fun _ _ _ _ _ _ us hl=>by obtain⟨x0,rfl⟩:=lT hl;rfl
 have qu:=aT (st:=cV) jX ka gy
 have Bt:=qu.binds (ps:=["found","rings"]) fun _ _ _ _ _ _ us hl=>by obtain⟨x0,x1,rfl⟩:=fU hl;rfl
 have i6:=aT (st:=bx) eB eJ cL
 have qb:=i6.binds (ps:=["found","ends","kinds"]) fun _ _ _ _ _ _ us hl=>by obtain⟨x0,x1,x2,rfl⟩:=qJ hl;rfl
 have nI:=aT (st:=cy) iu iP eU
 have yo:=nI.binds (ps:=["web","grown","kinds"]) fun _ _ _ _ _ _ us hl=>by obtain⟨x0,x1,x2,rfl⟩:=qJ hl;rfl
 have nG:=aT (st:=cv) iq iN eR
 have ym:=nG.binds (ps:=["ends","turns","kinds"]) fun _ _ _ _ _ _ us hl=>by obtain⟨x0,x1,x2,rfl⟩:=qJ hl;rfl
 have F_law:=aT (st:=sS) KL Lk KN
 refine⟨LX "law" "law" (aH sS) (aE sS) (aj sS) .none Jp Jy Jg JD GX JB,fun s v=>.of_eq rfl,fun base _ _=>?_⟩
 have m_head:=LW X G Hr
 have FR:=LW X G qi
 have DG:=LW X G mY
 have wY:=LW X G iU
 have An:=LW X G kr
 have DA:=LW X G mR
 have FQ:=LW X G qg
 have uk:=LW X G gS
 have qI:=LW X G fE
 have o3:=LW X G eK
 have Im:=LW X G vz
 have FP:=LW X G qf
 have FO:=LW X G qd
 have Ao:=LW X G ku
 have xf:=LW X G i0
 have nV:=LW X G dA
 have um:=LW X G gT
 have Dz:=LW X G mQ
 have Al:=LW X G kj
 have KJ:=LW X G BJ
 have Io:=LW X G vA
 have Am:=LW X G ko
 have wX:=LW X G iT
 have m_made:=LW X G Hq
 have m_read:=LW X G Ho
 have DF:=LW X G mX
 have DE:=LW X G mW
 have FT:=LW X G qj
 have DC:=LW X G mU
 have As:=LW X G kB
 have Aq:=LW X G kz
 have nW:=LW X G dB
 have Ar:=LW X G kA
 have DB:=LW X G mT
 have xb:=LW X G iY
 have DD:=LW X G mV
 have wZ:=LW X G iW
 have Ap:=LW X G kx
 have o4:=LW X G eM
 have xc:=LW X G iZ
 have xa:=LW X G iX
 have m_law:=LW X G IX
 have Jn:=LW X G BL
 have Jm:=LW X G BK
 have m_Web:=LW X G Hs
 have gF:=LW X G gi_gF
 have gL:=LW X G gi_gL
 have n_len:=MF X G JL
 have n_int:=MF X G JM
 have n_str:=MF X G JI
 have n_bool:=MF X G Es
 have n_list:=MF X G Er
 have n_tuple:=MF X G yI
 have n_range:=MF X G yJ
 have n_all:=MF X G JN
 have n_enumerate:=MF X G jD
 have n_isinstance:=MF X G g8
 have n_min:=MF X G JJ
 have n_sum:=MF X G JH
 have n_sorted:=MF X G rS
 have n_max:=MF X G JK
 have TL:CT K bo:=⟨⟨zL,AN,zz,zo⟩,jR,jQ,du⟩
 have TS:CT K bj:=⟨⟨zK,AM,zy,zm⟩,jP,jO,dt⟩
 have cw:CW K g7:=⟨⟨Fe,Gj,Fb,E3⟩,jN,jM,hJ,gf,hU⟩
 have T:K8.Txt mg:=⟨n_len,n_int,n_bool,n_list,n_tuple,n_range,n_enumerate,n_isinstance,n_min,n_sum,n_sorted⟩
 have GI:FnOk l.prog w K mg base CX0 1 bF _ _ (mZ K):=Ks nL
 have ML:Mak l.prog w K mg base 1 "Pull" _ (mZ K) bo bF _:=⟨⟨Ai,ic,eW,Ax⟩,GI,nB,Jn⟩
 have MS:Mak l.prog w K mg base 1 "Push" _ (mZ K) bj bF _:=⟨⟨Ag,h7,eW,Aw⟩,GI,nB,Jm⟩
 have Gh:Cal l.prog w K mg base 1 "head" _ (ES K) CA _:=⟨Kt JG,b_head,m_head,k_head⟩
 have Gl:Cal l.prog w K mg base 1 "leaving" _ (ER K) kY _:=⟨Dj yG,Hj,FR,kP⟩
 have Gf:Cal l.prog w K mg base 2 "follower" _ (JU K) jv _:=⟨zR rQ T Gh Gl,Eh,DG,jj⟩
 have Gr:Cal l.prog w K mg base 3 "round_from" _ (ET K) eY _:=⟨Ku nE Gf,yj,wY,eP⟩
 have GR:Cal l.prog w K mg base 4 "rounds_of" _ (sf K) gH _:=⟨Fy qp T Gr,Br,An,gs⟩
 have GS:Cal l.prog w K mg base 1 "sides_of" _ (yS K) jo _:=⟨HV rK T,Eb,DA,jd⟩
 have Ga:Cal l.prog w K mg base 1 "reached" _ (yW K) kX _:=⟨Di yF,Hi,FQ,kO⟩
 have R1:Cal l.prog w K mg base 1 "refuse_ends" _ (yY K) dP _:=⟨Ia lB,vj,uk,dN⟩
 have R2:Cal l.prog w K mg base 1 "refuse_turns" _ (sh K) c9 _:=⟨Fx jC T,qS,qI,c8⟩
 have R3:Cal l.prog w K mg base 2 "refuse_parted" _ (yX K) cM _:=⟨HX i5 Ga,qa,o3,cK⟩
 have WI:FnOk l.prog w K mg base CX0 5 cC _ _ (oN K):=HS nK T R1 R2 R3 GR GS
 have MW:Mak l.prog w K mg base 5 "Web" _ (oN K) g7 cC _:=⟨⟨FJ,jS,iG,F1⟩,WI,yq,m_Web⟩
 have Gc:Cal l.prog w K mg base 1 "_law_cell" _ (EU K) ju _:=⟨Kv rP T,Eg,DF,ji⟩
 have L1:Cal l.prog w K mg base 1 "_law_head" _ (y4 K) jt _:=⟨Ic rO,Ef,DE,jh⟩
 have L5:Cal l.prog w K mg base 1 "_law_order" _ yZ gK _:=⟨Ib qv T,Bu,Aq,gz⟩
 have TM:TxtM mg:={ T with n_max:=n_max }
 have N1:Cal l.prog w K mg base 1 "_law_put" _ (EN K) kZ _:=⟨ok_put yH,Hk,FT,kQ⟩
 have N2:Cal l.prog w K mg base 2 "_law_step" _ EL jr _:=⟨Ko rM T L1 N1,Ed,DC,jf⟩
 have N3:Cal l.prog w K mg base 3 "_law_grown" _ (sq K) gN _:=⟨Ig qx N2,Bw,As,gB⟩
 have N4:Cal l.prog w K mg base 2 "_law_renumbered" _ EM cf _:=⟨ok_ren gZ TM L5,oe,nW,b9⟩
 have N7:Cal l.prog w K mg base 1 "_law_number" _ K8.spNum fi _:=⟨FA nH T,yn,xb,eS⟩
 have IC:IsC K bo bj:=⟨AQ,AO,hn_,htk_,AL,AK,iD,iC,iB,iA⟩
 have TI:TxtI mg bo bj:={ T with g_Pull:=Jn,g_Push:=Jm }
 have Q1:Cal l.prog w K mg base 1 "_law_kinds" _ (so K) gM _:=⟨Ie qw T,Bv,Ar,gA⟩
 have Q2:Cal l.prog w K mg base 3 "_law_ties" _ (yR bo bj) jq _:=⟨Km rL T ML MS TL TS,Ec,DB,je⟩
 have Q3:Cal l.prog w K mg base 2 "_law_rows" _ yU js _:=⟨Kp rN T N7,Ee,DD,jg⟩
 have Q4:Cal l.prog w K mg base 1 "_law_turned" _ rY eZ _:=⟨Ft nF T,yk,wZ,eQ⟩
 have Q5:Cal l.prog w K mg base 2 "_law_sides" _ r8 gJ _:=⟨Fw qu T N7,Bt,Ap,gy⟩
 have Q6:Cal l.prog w K mg base 2 "_law_same_ties" _ (yT bo bj) cN _:=⟨HW i6 TI IC TL TS N7,qb,o4,cL⟩
 have Q7:Cal l.prog w K mg base 3 "_law_fields" _ (su bo bj g7) fj _:=⟨FC nI T cw Q4 N7 Q6 Q3 Q5,yo,xc,eU⟩
 have TT:KF.Txt mg:=⟨n_len,n_int,n_str,n_bool,n_list,n_tuple,n_range,n_all,n_enumerate,n_isinstance,⟨_,gF⟩,⟨_,gL⟩⟩
 have u0:Met l.prog w K mg base 1 bo "wish" _ (qY false) fV _:=⟨⟨h9,mq,jk⟩,HR rR,Ei⟩
 have u1:Met l.prog w K mg base 1 bj "wish" _ (qY true) eG _:=⟨⟨hV,j2,gC⟩,HQ qy,Bx⟩
 have A1:Cal l.prog w K mg base 1 "row_of" _ (KF.spRow K) oA _:=⟨KF.ok_row CM TT,IU,Im,ou⟩
 have A2:Cal l.prog w K mg base 2 "tie_row" _ (rZ bo bj) kW _:=⟨Fu yE TL TS A1 u0 u1,Hh,FP,kM⟩
 have A3:Cal l.prog w K mg base 3 "written" _ (oM bo bj g7) kU _:=⟨Dh yD TT cw A1 A2,Hg,FO,kL⟩
 have A4:Cal l.prog w K mg base 1 "number_of" _ KF.spNum gI _:=⟨KF.ok_num qq TT,Bs,Ao,gu⟩
 have A5:Cal l.prog w K mg base 1 "first_word" _ spFW fk _:=⟨ok_fw nJ,yp,xf,eV⟩
 have A6:Cal l.prog w K mg base 2 "numbers_behind" _ EV cb _:=⟨ok_beh gY A4,oa,nV,bZ⟩
 have A7:Cal l.prog w K mg base 3 "places_told" _ sj dQ _:=⟨Fz lC TT A6,vk,um,dO⟩
 have A8:Cal l.prog w K mg base 3 "tie_told" _ EK jm _:=⟨Kl rJ TT A5 A6,Ea,Dz,jc⟩
 have A9:Cal l.prog w K mg base 3 "turn_told" _ yQ gE _:=⟨HU qm TT A6,Bp,Al,gp⟩
 have B1:Cal l.prog w K mg base 1 "right" _ oO uM _:=⟨HZ Hu,Ln,KJ,uv⟩
 have B2:Cal l.prog w K mg base 1 "row_at" _ (r9 K) oB _:=⟨HY CN TT,IV,Io,ow⟩
 have B3:Cal l.prog w K mg base 4 "ties_told" _ (lG K) gG _:=⟨zQ qo TT A5 A8 B1,Bq,Am,gq⟩
 have B4:Cal l.prog w K mg base 4 "turns_told" _ (jF K) eX _:=⟨wx nC TT B2 A9 B1,yi,wX,eO⟩
 have B5:Cal l.prog w K mg base 3 "made" _ (EO bo bj) Cz _:=⟨Kr JF ML MS TL TS,b_made,m_made,Cs⟩
 have B6:Cal l.prog w K mg base 7 "read" _ (yV bo bj g7) Cy _:=⟨Kq JE TT cw TL TS B1 B2 A7 B3 B4 B5 MW,b_read,m_read,Cr⟩
 have B7:Cal l.prog w K mg base 1 "_law_texted" _ r6 fg _:=⟨Fv nG TT,ym,xa,eR⟩
 exact KF.ok_law F_law TT cw TL TS N3 N4 Gc Q1 Q2 MW Q7 B7 A3 B6
theorem walk{l:O2}{q:Program}{loose:List Str}{XP:(Str->Option Value)->Heap->Prop}{YP:World->Heap->Prop}{d:DefRec}{K:Params->LA}(hn:l.most=some 63)(hdf:d.params.defaults = [])
  (hY:∀(w:World)(h:Heap),YP w h->(K w.params).In h)
  (F:∀(w:World)(mg:Str->Option Value)(fa:Addr)(h:Heap),(K w.params).In h->h.Ns mainGlobals mg->mg d.name=some (.ref fa) ->
   ∃ fd:FuncData,(∀(s:Shared)(u:Value),BindsTo s fd ⟨[u],[]⟩ [("script",u)])/\∀ base:Heap,(K w.params).In base->base.Ns mainGlobals mg->FnOk l.prog w (K w.params) mg base CX0 8 fa fd ["script"] (sk (K w.params))) :
  PySem.W.WalkO q loose XP YP l.row.toRowW d [] (fun f vs=>PySem.call f vs) :=
 L2.walk_of (n:=63) (k:=8) (x:="script") (CX:=fun _=>CX0) (sp:=fun w=>sk (K w.params)) hn (by decide) hdf ⟨rfl,by decide,by decide⟩ hY F (fun _ _ a ns hl _ hS=>⟨a,ns,rfl,hS,hl,fun _=>rfl⟩) fun _ _ _ _ _ z=>z
end KF
def PySem.W.Fast.tw9073896183705269984:Nat:=0
def PySem.W.Fast.tw16783829417545316711:Nat:=0
def PySem.W.Fast.tw6736681770823923463:Nat:=0
def PySem.W.Fast.tw9548017742790770858:Nat:=0
def PySem.W.Fast.tw96078081360107339:Nat:=0
def PySem.W.Fast.tw5535913149148730668:Nat:=0
def PySem.W.Fast.tw3008702755659313518:Nat:=0
def PySem.W.Fast.tw11917811063008365454:Nat:=0
def PySem.W.Fast.tw14747970226447483695:Nat:=0
def PySem.W.Fast.tw1875637602367852048:Nat:=0
def PySem.W.Fast.tw14134962316795214035:Nat:=0
def PySem.W.Fast.tw10678314236594207443:Nat:=0
def PySem.W.Fast.tw5619569717915841812:Nat:=0
def PySem.W.Fast.tw3257497255168853365:Nat:=0
def PySem.W.Fast.tw17800436924738304504:Nat:=0
def PySem.W.Fast.tw1262760320950214714:Nat:=0
def PySem.W.Fast.tw16576603152581494942:Nat:=0
def PySem.W.Fast.tw1506196083482513822:Nat:=0
namespace PySem.W.Fast
def tw13807297924968376480:=0
def tw9071904257332022464:=0
def tw8632335066554214816:=0
def tw9742359496416474560:=0
def tw10964683717298975296:=0
def tw6782646855933662016:=0
def tw7018701728403712928:=0
def tw14321257273845907617:=0
def tw15134274419886552225:=0
def tw12826269600981969121:=0
def tw6198444742087213313:=0
def tw18153105655798106369:=0
def tw306983726880216385:=0
def tw12839236344666433889:=0
def tw6745393552351876481:=0
def tw5824721544778143361:=0
def tw13277831426133773985:=0
def tw13208152634463083201:=0
def tw8270198431284721377:=0
def tw2123413045304483585:=0
def tw15927405142555170593:=0
def tw16236708510781966177:=0
def tw14206183726107899745:=0
def tw11752677948304652161:=0
def tw12381812959538605090:=0
def tw244780322752331842:=0
def tw6756464461343303746:=0
def tw14959144319703489634:=0
def tw17330568859345745090:=0
def tw14283204637224119650:=0
def tw18315167031977053570:=0
def tw9178368486499369410:=0
def tw9706328908467337666:=0
def tw996087091890368034:=0
def tw15064295370306940514:=0
def tw2545289652241457794:=0
def tw4785835198301247266:=0
def tw8059662384097214306:=0
def tw7469863780878587939:=0
def tw14681367467518958051:=0
def tw9391044757482874499:=0
def tw9314631358752663267:=0
def tw16580738357565936451:=0
def tw3308960908295897955:=0
def tw16367087671832482787:=0
def tw8778358458370702307:=0
def tw13527423712304774212:=0
def tw15061022202716253284:=0
def tw11612445984404766852:=0
def tw12858706395107700964:=0
def tw5546853595292214628:=0
def tw10333377704398668260:=0
def tw12334623769990695492:=0
def tw6202501129812838980:=0
def tw9956495091485580004:=0
def tw7983260281063996260:=0
def tw9094818536281828196:=0
def tw11626201266499038084:=0
def tw4772279160489709444:=0
def tw5855419136741172132:=0
def tw2147275395727983653:=0
def tw5725050688220609605:=0
def tw9170272229621391493:=0
def tw8036850276198543621:=0
def tw16227469891691957605:=0
def tw17249693410219591109:=0
def tw1870237038032931365:=0
def tw2082462669183498789:=0
def tw11985355950875351717:=0
def tw12830184335434440389:=0
def tw3237387953280246661:=0
def tw8977746482672070662:=0
def tw7584674318489481286:=0
def tw7474520154841959526:=0
def tw14122082132786140326:=0
def tw10901641104610047174:=0
def tw1990857060078080230:=0
def tw14584336331344437510:=0
def tw11664311258738912614:=0
def tw13706601868262054310:=0
def tw5444832396290751910:=0
def tw15078249993441728038:=0
def tw8020771759120259686:=0
def tw6464581464067029638:=0
def tw10469592163279377094:=0
def tw1255086908382382886:=0
def tw4705952042659502918:=0
def tw12689332421743398758:=0
def tw11278180050663300038:=0
def tw6180261371226204134:=0
def tw4001708100272761863:=0
def tw2253293534361833543:=0
def tw6981248970176783463:=0
def tw4930639680895486087:=0
def tw10338992476364578983:=0
def tw12028893176555853095:=0
def tw14559335397422826823:=0
def tw6228502216619404679:=0
def tw7542681800943422919:=0
def tw11929838044100086215:=0
def tw4415684637181372903:=0
def tw3463289209379242567:=0
def tw14060897663376541351:=0
def tw4067691935340992167:=0
def tw11602425775697380039:=0
def tw1892748565215505191:=0
def tw551346934054447975:=0
def tw15863544172228216679:=0
def tw5547536310794478600:=0
def tw218619659016631368:=0
def tw4154478557373144168:=0
def tw14995354626620768392:=0
def tw6152997750543086760:=0
def tw11873218183158221064:=0
def tw6874993345205488904:=0
def tw10540965695137191272:=0
def tw2014018003523116488:=0
def tw8701977960122618376:=0
def tw12031048983879930376:=0
def tw11520868136704366088:=0
def tw6626696722269803112:=0
def tw7876364899767625320:=0
def tw12174889806013361800:=0
def tw17209184915844686472:=0
def tw16354913011926351977:=0
def tw17093171909001928905:=0
def tw10977082628297271561:=0
def tw5603939965225780489:=0
def tw10109941888069327209:=0
def tw13351409918021192073:=0
def tw13543286766551806377:=0
def tw6277365729633985001:=0
def tw5421884137178065417:=0
def tw9964819187232920105:=0
def tw708524209981053513:=0
def tw3577836584857387721:=0
def tw7156901989275518697:=0
def tw15987157229859456745:=0
def tw7472897259797202761:=0
def tw8334513476934913961:=0
def tw6027120847104179177:=0
def tw10246920870176970729:=0
def tw1353652030395808810:=0
def tw9549812213010881610:=0
def tw11420413529458963594:=0
def tw4309535424927006858:=0
def tw11839491255549915338:=0
def tw4089763690750575882:=0
def tw6551539028977229098:=0
def tw7998868622302122314:=0
def tw13225990636635492874:=0
def tw16288782867175432746:=0
def tw10263838087419514410:=0
def tw14892892401735852650:=0
def tw2246356668758874762:=0
def tw1352964016411937418:=0
def tw2161495878213175978:=0
def tw9918568749366910634:=0
def tw512357447783075562:=0
def tw2838176032863017738:=0
def tw6514045686693037866:=0
def tw2717646487859564362:=0
def tw1136398083557088106:=0
def tw8247269968048696298:=0
def tw7920656658668535819:=0
def tw14886558305596268555:=0
def tw15528243866028672043:=0
def tw7326746156898131147:=0
def tw7995273088148188491:=0
def tw5514106631195153739:=0
def tw17723467261809969579:=0
def tw9839452958157291115:=0
def tw6041562345826317963:=0
def tw14112172598804748939:=0
def tw13634221908310780555:=0
def tw6165799873227108267:=0
def tw3483501323422142476:=0
def tw4344696606447481900:=0
def tw17842220257097517292:=0
def tw1757442226464654636:=0
def tw12139194362346729932:=0
def tw455020213778466316:=0
def tw1402329174507935244:=0
def tw415148427435499020:=0
def tw18164826430051541580:=0
def tw12558144282789246572:=0
def tw10002648651902763628:=0
def tw17378441276742112940:=0
def tw8432598057707462508:=0
def tw17060947896717279309:=0
def tw10621950415390463117:=0
def tw983210350679768237:=0
def tw8758933775102901453:=0
def tw1196238992345838829:=0
def tw6917401819671935277:=0
def tw10771623532343715117:=0
def tw14819665485169408333:=0
def tw17432994142194796877:=0
def tw9261796844420981101:=0
def tw10456000877063884141:=0
def tw901846580751163853:=0
def tw9940940430640122381:=0
def tw13298825433509803565:=0
def tw12353842711532569325:=0
def tw17111737166311473005:=0
def tw11278206158334989229:=0
def tw6519336684668466125:=0
def tw9736976858469142574:=0
def tw15577947565982972014:=0
def tw10262136498876093582:=0
def tw17108503020478693550:=0
def tw3731056894921293006:=0
def tw3068411390767320302:=0
def tw9384155972668759342:=0
def tw14570197194253557070:=0
def tw8528774773224053134:=0
def tw11539532563722880430:=0
def tw1761074437847088718:=0
def tw9469044532709236334:=0
def tw16455866349081542350:=0
def tw3724022922751283982:=0
def tw11567813275891563278:=0
def tw2697473406787177390:=0
def tw15836640871896630190:=0
def tw10136819436437355470:=0
def tw1911998917151623118:=0
def tw13313045317011140655:=0
def tw11832184239803998255:=0
def tw17974415763160982607:=0
def tw8764579142309585039:=0
def tw9466320846241728751:=0
def tw9408729264853735695:=0
def tw9929092433530758447:=0
def tw3766069084301750607:=0
def tw2765612672276646479:=0
def tw2657846666983692879:=0
def tw3552368458301015855:=0
def tw15524299244531222319:=0
def tw5742636283941535567:=0
def tw527242128383243151:=0
def tw18184040714536034287:=0
def tw11137247312114271280:=0
def tw4452392985494645808:=0
def tw5529163189829995728:=0
def tw10044347378464626896:=0
def tw13970827619550158064:=0
def tw5476713033585599760:=0
def tw16443731678264822288:=0
def tw6233172757141753360:=0
def tw5099902378906391120:=0
def tw4863753620750076624:=0
def tw7099177790663322416:=0
def tw11834673866289023824:=0
def tw14644930580112823152:=0
def tw17561028221098562448:=0
def tw11436977323286542256:=0
def tw3471455831523843056:=0
def tw1440437369582939120:=0
def tw10835879516735543313:=0
def tw13526567733547274289:=0
def tw18129386526038274129:=0
def tw16891605071698495569:=0
def tw16605721112173844593:=0
def tw16397522144276037873:=0
def tw12395011532618231089:=0
def tw9692896627933630801:=0
def tw4514370103536444753:=0
def tw13588786028591597937:=0
def tw12075791737842658769:=0
def tw11166438930802160081:=0
def tw8810018900542112561:=0
def tw14437941792350842769:=0
def tw4553005353147639186:=0
def tw18057473207107923378:=0
def tw14066856610821424626:=0
def tw10808422358638863858:=0
def tw8133539868016041490:=0
def tw13962294847943416370:=0
def tw7972765372114685522:=0
def tw11130030302770621042:=0
def tw426269579355265810:=0
def tw13510823545818980114:=0
def tw16429019232116533106:=0
def tw7018395060606993298:=0
def tw8179696743080866802:=0
def tw10634560671361752050:=0
def tw6503657840130323475:=0
def tw7630189722805179443:=0
def tw3726679147894589491:=0
def tw6401258340460314707:=0
def tw1495557261545978963:=0
def tw3915968315821845587:=0
def tw17381613436656116851:=0
def tw8623523496740065491:=0
def tw4054152048992694483:=0
def tw14266650613111750899:=0
def tw11967886933934364115:=0
def tw18372561096671686163:=0
def tw8967167979704177203:=0
def tw8551817880180820595:=0
def tw4716839152774699667:=0
def tw4661964187012879059:=0
def tw5180986201330605779:=0
def tw4681857906636810963:=0
def tw10266136001013381875:=0
def tw13111637116681439123:=0
def tw5267156155968442259:=0
def tw208532177112920051:=0
def tw16746539921715709972:=0
def tw1536179117730698292:=0
def tw17333477631891614804:=0
def tw16663214058188564564:=0
def tw16969471820486328468:=0
def tw7770958131163908244:=0
def tw754965960927471796:=0
def tw3193142173234552084:=0
def tw14214891272814873908:=0
def tw15921691010956776756:=0
def tw13576385308664610132:=0
def tw11840572802532831700:=0
def tw12507104283504069108:=0
def tw2627216783718285876:=0
def tw16830766970256180884:=0
def tw17038719900561979060:=0
def tw14747374488664123124:=0
def tw16976188245339774740:=0
def tw17376222419521099636:=0
def tw10288868670717165524:=0
def tw12732046076777460789:=0
def tw17168445414809096277:=0
def tw2212488040488985909:=0
def tw13866120022534528501:=0
def tw1484728256284621301:=0
def tw13016959255707325973:=0
def tw267101865783820021:=0
def tw5138021728692752149:=0
def tw9587135902517079957:=0
def tw10541938817687519189:=0
def tw5478562823808992374:=0
def tw14925445636953681046:=0
def tw9633684691495105686:=0
def tw10733993829711952150:=0
def tw4966774412747692310:=0
def tw6771500138132765974:=0
def tw16630459371224911222:=0
def tw11634506923691793814:=0
def tw8252312631515113910:=0
def tw14561246120484944406:=0
def tw17211168363629260438:=0
def tw14134314587454952118:=0
def tw14997327680076514038:=0
def tw11693747567217507094:=0
def tw11208687277128057622:=0
def tw5731589222025399094:=0
def tw5833198374103985974:=0
def tw10101346827896492886:=0
def tw147765288098599991:=0
def tw4313574059522409527:=0
def tw771099845971219575:=0
def tw18002420357425048727:=0
def tw4717388310294447255:=0
def tw918327522426481815:=0
def tw1749788714004133079:=0
def tw2540246892996087095:=0
def tw5097642562673562935:=0
def tw13746066849454604631:=0
def tw8463712764524172727:=0
def tw8560071871062201783:=0
def tw1613226586848518615:=0
def tw14040310647910231607:=0
def tw17677643712738206359:=0
def tw8588068157911359159:=0
def tw5962866118795578071:=0
def tw12150425230722515703:=0
def tw2103569483943926551:=0
def tw8444687109783683959:=0
def tw6120572456235686775:=0
def tw8427903802010542104:=0
def tw1318544792309878808:=0
def tw15478249380258313368:=0
def tw14602392949371369688:=0
def tw14545176754454448408:=0
def tw13756294656129381656:=0
def tw18122087806253775160:=0
def tw15707336446148489720:=0
def tw14420011487531481752:=0
def tw15232781518752053944:=0
def tw13892020424108423896:=0
def tw18158680184975359704:=0
def tw12994109238904992536:=0
def tw3735584640878534424:=0
def tw15266151302909475736:=0
def tw16055069641021129656:=0
def tw2423528005071184856:=0
def tw17728730045453707321:=0
def tw833527587613717625:=0
def tw14228649103681107097:=0
def tw8578154221839199513:=0
def tw6685040976079868217:=0
def tw10015973052622585209:=0
def tw193541292828617145:=0
def tw6537904173476214201:=0
def tw4343129156815370745:=0
def tw4825890079165106681:=0
def tw8801715919047626265:=0
def tw11138087651916806681:=0
def tw5898465054212457017:=0
def tw9190681268421336697:=0
def tw16820010186465576633:=0
def tw15099414027474887353:=0
def tw6140174650885096185:=0
def tw5043850606690440057:=0
def tw17591817928855602073:=0
def tw1550439665028360121:=0
def tw8093253342301241337:=0
def tw18334848620527206426:=0
def tw18103762466393626842:=0
def tw4758136665782084826:=0
def tw12850971994258961690:=0
def tw15516870371114731834:=0
def tw12499172610796170554:=0
def tw10913855672854400538:=0
def tw256408967705656858:=0
def tw8225237664280050202:=0
def tw7254305294002752058:=0
def tw12684994203288776282:=0
def tw9560192875554450042:=0
def tw4627065614379959930:=0
def tw15769896018727204474:=0
def tw7968111201830615706:=0
def tw1706905921332977402:=0
def tw5015390057123869434:=0
def tw493039012702608250:=0
def tw14692739794543462298:=0
def tw11398758254748509178:=0
def tw13803096369321189435:=0
def tw1433755052663715163:=0
def tw10965390011198276091:=0
def tw3190054643464761883:=0
def tw5334467664377894459:=0
def tw10437654388905838267:=0
def tw2694697673225186107:=0
def tw13755107851169451867:=0
def tw3347666312672232315:=0
def tw12023183084343874459:=0
def tw11941636570869241884:=0
def tw3653020000445597756:=0
def tw11831280999163295900:=0
def tw1494031043103620252:=0
def tw422631709144877244:=0
def tw11126118101064538300:=0
def tw10423594782195024092:=0
def tw9157703942629360988:=0
def tw5012178434489640316:=0
def tw11479581544422119932:=0
def tw232273444875829116:=0
def tw11335290608899787708:=0
def tw17191737949061932093:=0
def tw4755634275351458973:=0
def tw1043287631645229373:=0
def tw310464398744195741:=0
def tw3895652399093068477:=0
def tw5007026509540934333:=0
def tw15405957446662190781:=0
def tw17119907510512592637:=0
def tw9250829737309192989:=0
def tw11137952050182242077:=0
def tw12618908764420414301:=0
def tw15945203877481536445:=0
def tw15259333124813544478:=0
def tw4164171503042516062:=0
def tw1899017934442263646:=0
def tw14512714484344173694:=0
def tw11425207146957658238:=0
def tw11045846746008239326:=0
def tw10694874274361741566:=0
def tw3466189288585030942:=0
def tw10947315894939820382:=0
def tw7468592537438175614:=0
def tw3262163974912090718:=0
def tw12779945049710873182:=0
def tw9504401190112035582:=0
def tw1720536518899210014:=0
def tw3244669516174241630:=0
def tw6603038762392264542:=0
def tw13117789667275584382:=0
def tw17240302037384850366:=0
def tw2747296902728113118:=0
def tw14924858251854025759:=0
def tw18075010299389684767:=0
def tw8195200163798302751:=0
def tw18109730880674752575:=0
def tw2998158936088015935:=0
def tw14111282111107460159:=0
def tw8442338088933771359:=0
def tw1477060826488433759:=0
def tw6236076611673899135:=0
def tw17452744816079628479:=0
def tw17854717022766465343:=0
def tw980316936591620415:=0
def tw15528623040254053823:=0
def tw456226792656973279:=0
def tw12541640030983046623:=0
def tw2570951459625302559:=0
def tw6751333031210752607:=0
def tw9714999420614996703:=0
def tw9796682570890302175:=0
def tw17102121488007355167:=0
def tw14074306726476699455:=0
def tw11079999016428153759:=0
def tw10398759201772176319:=0
def tw8180864830013609919:=0
def tw9428397028729886655:=0
def tw704609084327947263:=0
def tw8921128323696156671:=0
def tw18238246369111834623:=0
def tw16920112718387938344:=0
end PySem.W.Fast
open PySem PySem.W PyProof.Rows
set_option maxRecDepth 100000 in
set_option maxHeartbeats 0 in
theorem PySem.Challenge.cw_spinfloor_k11_whole_texts_holds : PySem.Challenge.rw_spinfloor_k11_whole_texts.Holds := by
 w_on;o_law;k_head;(case hw=>w_witness2)
 k_fill
 refine KF.walk (l:=PySem.Challenge.rw_spinfloor_k11_whole_texts) rfl rfl (fun w h Y=>PySem.W.kIn_of Y) ?F
 case F =>
  intro w mg fa h KX G hmg
  refine' KF.all_mk KX G hmg ?BL ?BK ?Hs ?ic ?h9 ?h7 ?hV ?jS ?iz ?iS ?iF ?eW ?l9 ?mM ?jk ?mq ?j1 ?ki ?gC ?j2 ?Hr ?FY ?G9 ?k_head ?qi ?pj ?pW ?kP ?mY ?l8 ?mK ?jj ?iU ?ig ?iL ?eP ?kr ?jV ?j8 ?gs ?mR ?lW ?mE ?jd ?qg ?ph ?pV ?kO ?gS ?gj ?gO ?dN ?fE ?fA ?fD ?c8 ?eK ?eA ?eI ?cK ?iy ?iR ?iE ?iG ?vz ?uq ?vg ?ou ?qf ?pf ?pU ?kM ?qd ?o9 ?pT ?kL ?ku ?jW ?j9 ?gu ?i0 ?iw ?iQ ?eV ?dA ?dv ?dy ?bZ ?gT ?gm ?gP ?dO ?mQ ?lU ?mD ?jc ?kj ?jT ?j6 ?gp ?BJ ?Av ?Bo ?uv ?vA ?ur ?vh ?ow ?ko ?jU ?j7 ?gq ?iT ?ie ?iK ?eO ?Hq ?FX ?G8 ?Cs ?Ho ?FW ?G7 ?Cr ?mX ?l6 ?mJ ?ji ?mW ?l5 ?mI ?jh ?qj ?pz ?pX ?kQ ?mU ?lY ?mG ?jf ?kB ?j0 ?kh ?gB ?kz ?jY ?kc ?gz ?dB ?dw ?dz ?b9 ?kA ?jZ ?kg ?gA ?mT ?lX ?mF ?je ?iY ?ir ?iO ?eS ?mV ?lZ ?mH ?jg ?iW ?ik ?iM ?eQ ?kx ?jX ?ka ?gy ?eM ?eB ?eJ ?cL ?iZ ?iu ?iP ?eU ?iX ?iq ?iN ?eR ?IX ?KL ?Lk ?KN ?zL ?AN ?zz ?zo ?Ai ?Ax ?jR ?jQ ?du ?AQ ?AL ?iD ?iC ?zK ?AM ?zy ?zm ?Ag ?Aw ?jP ?jO ?dt ?AO ?AK ?iB ?iA ?Fe ?Gj ?Fb ?E3 ?FJ ?F1 ?jN ?jM ?hJ ?gf ?hU ?hn_ ?htk_ ?gi_gF ?gi_gL ?JL ?JM ?JI ?Es ?Er ?yI ?yJ ?JN ?jD ?g8 ?JJ ?JH ?rS ?JK
  (case BL=>k_is)
  (case BK=>k_is)
  (case Hs=>k_is)
  (case ic=>k_is)
  (case h9=>k_is)
  (case h7=>k_is)
  (case hV=>k_is)
  (case jS=>k_is)
  (case iz=>k_is)
  (case iS=>k_is)
  (case iF=>k_is)
  (case eW=>k_is)
  (case l9=>k_is)
  (case mM=>k_is)
  (case jk=>k_is)
  (case mq=>k_is)
  (case j1=>k_is)
  (case ki=>k_is)
  (case gC=>k_is)
  (case j2=>k_is)
  (case Hr=>k_is)
  (case FY=>k_is)
  (case G9=>k_is)
  (case k_head=>k_is)
  (case qi=>k_is)
  (case pj=>k_is)
  (case pW=>k_is)
  (case kP=>k_is)
  (case mY=>k_is)
  (case l8=>k_is)
  (case mK=>k_is)
  (case jj=>k_is)
  (case iU=>k_is)
  (case ig=>k_is)
  (case iL=>k_is)
  (case eP=>k_is)
  (case kr=>k_is)
  (case jV=>k_is)
  (case j8=>k_is)
  (case gs=>k_is)
  (case mR=>k_is)
  (case lW=>k_is)
  (case mE=>k_is)
  (case jd=>k_is)
  (case qg=>k_is)
  (case ph=>k_is)
  (case pV=>k_is)
  (case kO=>k_is)
  (case gS=>k_is)
  (case gj=>k_is)
  (case gO=>k_is)
  (case dN=>k_is)
  (case fE=>k_is)
  (case fA=>k_is)
  (case fD=>k_is)
  (case c8=>k_is)
  (case eK=>k_is)
  (case eA=>k_is)
  (case eI=>k_is)
  (case cK=>k_is)
  (case iy=>k_is)
  (case iR=>k_is)
  (case iE=>k_is)
  (case iG=>k_is)
  (case vz=>k_is)
  (case uq=>k_is)
  (case vg=>k_is)
  (case ou=>k_is)
  (case qf=>k_is)
  (case pf=>k_is)
  (case pU=>k_is)
  (case kM=>k_is)
  (case qd=>k_is)
  (case o9=>k_is)
  (case pT=>k_is)
  (case kL=>k_is)
  (case ku=>k_is)
  (case jW=>k_is)
  (case j9=>k_is)
  (case gu=>k_is)
  (case i0=>k_is)
  (case iw=>k_is)
  (case iQ=>k_is)
  (case eV=>k_is)
  (case dA=>k_is)
  (case dv=>k_is)
  (case dy=>k_is)
  (case bZ=>k_is)
  (case gT=>k_is)
  (case gm=>k_is)
  (case gP=>k_is)
  (case dO=>k_is)
  (case mQ=>k_is)
  (case lU=>k_is)
  (case mD=>k_is)
  (case jc=>k_is)
  (case kj=>k_is)
  (case jT=>k_is)
  (case j6=>k_is)
  (case gp=>k_is)
  (case BJ=>k_is)
  (case Av=>k_is)
  (case Bo=>k_is)
  (case uv=>k_is)
  (case vA=>k_is)
  (case ur=>k_is)
  (case vh=>k_is)
  (case ow=>k_is)
  (case ko=>k_is)
  (case jU=>k_is)
  (case j7=>k_is)
  (case gq=>k_is)
  (case iT=>k_is)
  (case ie=>k_is)
  (case iK=>k_is)
  (case eO=>k_is)
  (case Hq=>k_is)
  (case FX=>k_is)
  (case G8=>k_is)
  (case Cs=>k_is)
  (case Ho=>k_is)
  (case FW=>k_is)
  (case G7=>k_is)
  (case Cr=>k_is)
  (case mX=>k_is)
  (case l6=>k_is)
  (case mJ=>k_is)
  (case ji=>k_is)
  (case mW=>k_is)
  (case l5=>k_is)
  (case mI=>k_is)
  (case jh=>k_is)
  (case qj=>k_is)
  (case pz=>k_is)
  (case pX=>k_is)
  (case kQ=>k_is)
  (case mU=>k_is)
  (case lY=>k_is)
  (case mG=>k_is)
  (case jf=>k_is)
  (case kB=>k_is)
  (case j0=>k_is)
  (case kh=>k_is)
  (case gB=>k_is)
  (case kz=>k_is)
  (case jY=>k_is)
  (case kc=>k_is)
  (case gz=>k_is)
  (case dB=>k_is)
  (case dw=>k_is)
  (case dz=>k_is)
  (case b9=>k_is)
  (case kA=>k_is)
  (case jZ=>k_is)
  (case kg=>k_is)
  (case gA=>k_is)
  (case mT=>k_is)
  (case lX=>k_is)
  (case mF=>k_is)
  (case je=>k_is)
  (case iY=>k_is)
  (case ir=>k_is)
  (case iO=>k_is)
  (case eS=>k_is)
  (case mV=>k_is)
  (case lZ=>k_is)
  (case mH=>k_is)
  (case jg=>k_is)
  (case iW=>k_is)
  (case ik=>k_is)
  (case iM=>k_is)
  (case eQ=>k_is)
  (case kx=>k_is)
  (case jX=>k_is)
  (case ka=>k_is)
  (case gy=>k_is)
  (case eM=>k_is)
  (case eB=>k_is)
  (case eJ=>k_is)
  (case cL=>k_is)
  (case iZ=>k_is)
  (case iu=>k_is)
  (case iP=>k_is)
  (case eU=>k_is)
  (case iX=>k_is)
  (case iq=>k_is)
  (case iN=>k_is)
  (case eR=>k_is)
  (case IX=>k_is)
  (case KL=>k_is)
  (case Lk=>k_is)
  (case KN=>k_is)
  (case zL=>k_is)
  (case AN=>k_is)
  (case zz=>k_is)
  (case zo=>k_is)
  (case Ai=>k_is)
  (case Ax=>k_is)
  (case jR=>k_is)
  (case jQ=>k_is)
  (case du=>k_is)
  (case AQ=>k_is)
  (case AL=>k_is)
  (case iD=>kit_is)
  (case iC=>kit_is)
  (case zK=>k_is)
  (case AM=>k_is)
  (case zy=>k_is)
  (case zm=>k_is)
  (case Ag=>k_is)
  (case Aw=>k_is)
  (case jP=>k_is)
  (case jO=>k_is)
  (case dt=>k_is)
  (case AO=>k_is)
  (case AK=>k_is)
  (case iB=>kit_is)
  (case iA=>kit_is)
  (case Fe=>k_is)
  (case Gj=>k_is)
  (case Fb=>k_is)
  (case E3=>k_is)
  (case FJ=>k_is)
  (case F1=>k_is)
  (case jN=>k_is)
  (case jM=>k_is)
  (case hJ=>k_is)
  (case gf=>k_is)
  (case hU=>k_is)
  (case hn_=>k_is)
  (case htk_=>k_is)
  (case gi_gF=>k_is)
  (case gi_gL=>k_is)
  (case JL=>k_is)
  (case JM=>k_is)
  (case JI=>k_is)
  (case Es=>k_is)
  (case Er=>k_is)
  (case yI=>k_is)
  (case yJ=>k_is)
  (case JN=>k_is)
  (case jD=>k_is)
  (case g8=>k_is)
  (case JJ=>k_is)
  (case JH=>k_is)
  (case rS=>k_is)
  (case JK=>k_is)
