import PyProof.Rows.All
import Wide.All
import OpenK.AllK
import Wide.FinOn
import Lean
import PyProof.EqAt
import PyProof.EqKinds
import PyProof.TupleCall
import PySem.Challenge.RW_spinfloor_k10_webs_refused
open Array renaming toList_append → EK, length_toList → Fw, toList_push → FH, toList_reverse → FJ, getElem?_toList → F2, toList_extract → F7, perm_iff_toList_perm → Gg, toList_setIfInBounds → Hu, size_setIfInBounds → HC
open Bool renaming false_ne_true → Ew, false_eq_true → Ff, not_eq_true' → FZ, and_eq_true → GF, eq_iff_iff → GP, eq_false_iff → Hc, false_and → HB
open Int renaming toNat_natCast → EN, emod_nonneg → Fd, emod_lt_of_pos → Fe, le_of_lt → Fn, le_refl → FA, toNat_of_nonneg → FQ, zero_add → FR, natCast_emod → F4, natCast_ediv → Hj
open List renaming getElem?_eq_some_iff → DZ, getElem?_eq_getElem → D1, length_append → D2, length_map → D3, mem_of_getElem? → D4, getElem?_append_right → D6, getElem?_append_left → D8, getElem?_map → D9, mem_cons → Ec, length_singleton → Ed, mem_append → Ee, mem_cons_of_mem → Ef, length_take → Eg, mem_cons_self → Eh, nodup_cons → Ek, take_append_drop → Es, size_toArray → Et, length_drop → Eu, perm_append_comm → EA, nodup_append → EB, flatten_cons → EC, append_assoc → ED, length_set → EF, getElem?_set → EG, mem_iff_getElem? → EI, mem_append_right → EJ, take_of_length_le → EM, length_cons → ET, map_cons → EU, take_add_one → EV, mem_map → EW, map_append → EX, mem_flatten → EZ, mem_append_left → E1, pairwise_append → E2, mem_of_mem_take → E4, mem_of_mem_drop → E5, mem_singleton → E6, getElem_mem → E8, take_length → Fb, drop_eq_getElem_cons → Fi, getElem?_eq_none → Fj, append_nil → Fl, getElem?_range → Fp, drop_drop → Fx, length_pos_of_mem → Fy, getElem?_drop → Fz, map_take → FC, map_drop → FD, map → FF, length_range → FG, length_dropLast → FI, extract_eq_drop_take → FK, cons_append → FO, flatten_append → FP, find?_cons → FV, getElem?_set_self → FW, ext_getElem? → FY, drop_zero → F0, drop_take → F1, getElem?_set_ne → F6, take_add → F8, any_cons → F9, lookup → Ge, getElem?_take → Gj, take_take → Gm, nodup_nil → Gn, range → Gu, idxOf_lt_length_iff → Gv, getElem_take → Gw, pairwise_singleton → GA, length_eq_zero_iff → GB, getElem?_replicate → GC, cons_ne_nil → GD, drop_eq_nil_of_le → GG, set_append_right → GN, length_nil → GO, set_append_left → GU, length_eraseIdx → GV, replicate → GW, filterMap_cons → GZ, pairwise_cons → G0, mem_filterMap → G2, append_of_mem → G4, getElem_drop → G9, eraseIdxIfInBounds_toArray → Ha, take_append_of_le_length → Hg, perm_middle → Hh, drop_append → Hi, of_mem_zip → Ho, nil_append → Hq, perm_ext_iff_of_nodup → Hs, getD_eq_getElem?_getD → Ht, take_zero → Hx, pairwise_iff_getElem → Hy, mem_or_eq_of_mem_set → Hz
open List.Pairwise renaming nil → Hb
open List.Perm renaming append_left → Fm, swap → Fs, cons → FL, refl → HA
open Nat renaming le_refl → Ea, sub_self → EE, lt_of_lt_of_le → EL, le_of_lt → ER, ne_of_lt → ES, le_trans → E7, min_eq_left → Fc, lt_irrefl → Fh, mod_eq_of_lt → Fq, zero_le → Fu, le_succ → Fv, not_lt_zero → FU, lt_succ_self → F3, testBit_two_pow → Gd, testBit_or → Gk, mod_self → GL, mod_lt → GQ, lt_succ_of_lt → G7, le_succ_of_le → G8, ne_of_gt → Hd, le_of_eq → He, testBit_two_pow_sub_one → Hm, testBit → Hn
open Option renaming map_eq_some_iff → EO, isSome_iff_exists → Gs, map_some → GK
open Option.some renaming inj → Er
open PySem renaming Spec → El, mem_of_lookup → Fo, frameOf → HD
open PySem.F renaming plainAttrs_list → Eb, type_list_append → Ei, slot_list_append → Ej, type_list_insert → Gp, slot_list_insert → Gq, type_list_index → Gy, slot_list_index → Gz, type_list_pop → GH, slot_list_pop → GJ, excBase_ValueError → Hr
open PySem.W renaming Frag → D5, findIn → Em, nsIn → Eo, keepIn → Ep, kitOne → Ex, mg_of → Ey, codeIn → Ez, fnOf → EH, mroIn → EY, mg_none_of → E3, hasDictIn → E9, emptyDict → Fg, instObj → Ft, plainGet → FN, excIn → FT, plainOver → FX, looks_findIn → F5, makesIn → Gb, callWith_K → Gi, Looks → Gx, looks_mroIn → GX, hideAll_get → GY, methodObj → G5, any_some → Hf, takerIn → Hk, OpenLaw → Hl, notCls → Hv, lookIn → Hw, clsIn → HE
set_option Elab.async false
set_option linter.all false
set_option maxRecDepth 100000
local macro_rules | `(tactic| omega) => `(tactic| first | assumption | lia | omega +splitDisjunctions)
namespace L2
open PySem PySem.Spec PyProof.Rows
abbrev Key:=Sum Int Str
def yF:Key->Value->Bool
 |.inl k,v=>Value.isInt k v
 |.inr x,v=>Value.isStrOf x v
def keyH(w:World):Key->Int
 |.inl k=>hashInt k
 |.inr x=>hashStr w x
theorem bI:∀{k:Key}{v:Value},yF k v=true->(∃ i t,k=Sum.inl i/\v=Value.int i t)∨(∃ x t,k=Sum.inr x/\v=Value.str x t)
 |.inl i,v,h=>by
  obtain⟨t,e⟩:=Value.isInt_shape (k:=i) (v:=v) h
  exact .inl ⟨i,t,rfl,e⟩
 |.inr x,v,h=>by
  obtain⟨t,e⟩:=Value.isStrOf_shape (x:=x) (v:=v) h
  exact .inr ⟨x,t,rfl,e⟩
theorem An(i:Int)(t:Tok):yF (.inl i) (.int i t)=true:=by simp[yF,Value.isInt]
theorem Am(x:Str)(t:Tok):yF (.inr x) (.str x t)=true:=by simp[yF,Value.isStrOf]
theorem key_ll(a b:Int):decide ((Sum.inl a:Key)=Sum.inl b)=(a == b):=by
 by_cases e:a=b
 ·subst e;simp
 ·have h:¬ (Sum.inl a:Key)=Sum.inl b:=fun q=>e (Sum.inl.inj q)
  rw[decide_eq_false h]
  exact(beq_eq_false_iff_ne.mpr e).symm
theorem key_rr(a b:Str):decide ((Sum.inr a:Key)=Sum.inr b)=decide (a=b):=by
 by_cases e:a=b
 ·subst e;simp
 ·have h:¬ (Sum.inr a:Key)=Sum.inr b:=fun q=>e (Sum.inr.inj q)
  rw[decide_eq_false h,decide_eq_false e]
theorem key_lr(a:Int)(b:Str):decide ((Sum.inl a:Key)=Sum.inr b)=false:=decide_eq_false (fun q=>nomatch q)
theorem key_rl(a:Str)(b:Int):decide ((Sum.inr a:Key)=Sum.inl b)=false:=decide_eq_false (fun q=>nomatch q)
def df(prog:Program)(w:World):PySem.KeyKind prog w Key where
 is:=yF
 hash:=keyH w
 inj:=fun v a b ha hb=>by
  rcases bI ha with⟨i,t,rfl,rfl⟩ | ⟨x,t,rfl,rfl⟩
  ·rcases bI hb with⟨j,u,rfl,e⟩ | ⟨y,u,rfl,e⟩
   ·injection e with e1 _;rw[e1]
   ·exact nomatch e
  ·rcases bI hb with⟨j,u,rfl,e⟩ | ⟨y,u,rfl,e⟩
   ·exact nomatch e
   ·injection e with e1 _;rw[e1]
 byValue:=fun k v h=>by
  rcases bI h with⟨i,t,rfl,rfl⟩ | ⟨x,t,rfl,rfl⟩<;>rfl
 pyHash:=fun hv h=>by
  rcases bI hv with⟨i,t,rfl,rfl⟩ | ⟨x,t,rfl,rfl⟩
  ·exact wpAny_pyHash_int h
  ·exact wpAny_pyHash_str h
 eqBool:=fun hu hv h=>by
  rcases bI hu with⟨i,t,rfl,rfl⟩ | ⟨x,t,rfl,rfl⟩
  ·rcases bI hv with⟨j,u,rfl,rfl⟩ | ⟨y,u,rfl,rfl⟩
   ·rw[key_ll]at h;exact wpAny_eqBool_int h
   ·rw[key_lr]at h;exact SeqAt.EqAt.int_str i t y u _ _ _ _ h
  ·rcases bI hv with⟨j,u,rfl,rfl⟩ | ⟨y,u,rfl,rfl⟩
   ·rw[key_rl]at h;exact SeqAt.EqAt.str_int x t j u _ _ _ _ h
   ·rw[key_rr]at h;exact wpAny_eqBool_str h
 «strs»:=fun k x t v h=>by
  rcases bI h with⟨i,u,rfl,e⟩ | ⟨y,u,rfl,e⟩
  ·exact nomatch e
  ·injection e with e1 _
   subst e1
   cases v<;>rfl
theorem vz(prog:Program)(w:World)(i:Int)(t:Tok):(df prog w).is (.inl i) (.int i t)=true:=An i t
theorem vy(prog:Program)(w:World)(x:Str)(t:Tok):(df prog w).is (.inr x) (.str x t)=true:=Am x t
end L2
namespace L2
open PySem PySem.Spec PyProof.Rows
inductive V where
 |non | bl (b:Bool) | int (i:Int) | str (x:Str) | byt (b:Array UInt8) | flt (b:UInt64) | ref (a:Addr) | ty (n:String)
 deriving DecidableEq
def RelV:V->Value->Prop
 |.non,u=>u=Value.none
 |.bl b,u=>u=Value.bool b
 |.int i,u=>∃ t,u=Value.int i t
 |.str x,u=>∃ t,u=Value.str x t
 |.byt b,u=>∃ t,u=Value.bytes b t
 |.flt b,u=>∃ t,u=Value.float b t
 |.ref a,u=>u=Value.ref a
 |.ty n,u=>u=Value.type n
abbrev Vals:List V->List Value->Prop:=Paired RelV
theorem Vals.length{xs:List V}{us:List Value}(r:Vals xs us):xs.length=us.length:=Paired.length r
theorem Vals.get:∀{xs:List V}{us:List Value}{i:Nat}{x:V},Vals xs us->xs[i]?=some x->∃ u,us[i]?=some u/\RelV x u
 |_,_,_,_,.nil,e=>by simp at e
 |_,_,0,_,.cons r _,e=>by simp at e;subst e;exact⟨_,rfl,r⟩
 |_,_,i+1,x,.cons _ t,e=>by
  obtain⟨u,h1,h2⟩:=Vals.get (i:=i) (x:=x) t (by simpa using e)
  exact⟨u,by simpa using h1,h2⟩
theorem Vals.set{x:V}{u:Value}(r:RelV x u):∀{xs:List V}{us:List Value}(i:Nat),Vals xs us->Vals (xs.set i x) (us.set i u)
 |_,_,_,.nil=>.nil
 |_,_,0,.cons _ t=>.cons r t
 |_,_,i+1,.cons q t=>.cons q (Vals.set r i t)
theorem Vals.append:∀{xs ys:List V}{us ws:List Value},Vals xs us->Vals ys ws->Vals (xs++ys) (us++ws)
 |_,_,_,_,.nil,s=>s
 |_,_,_,_,.cons r t,s=>.cons r (Vals.append t s)
theorem Vals.take:∀{xs:List V}{us:List Value}(n:Nat),Vals xs us->Vals (xs.take n) (us.take n)
 |_,_,0,_=>.nil
 |_,_,_+1,.nil=>.nil
 |_,_,n+1,.cons r t=>.cons r (Vals.take n t)
theorem Vals.drop:∀{xs:List V}{us:List Value}(n:Nat),Vals xs us->Vals (xs.drop n) (us.drop n)
 |_,_,0,r=>r
 |_,_,_+1,.nil=>.nil
 |_,_,n+1,.cons _ t=>Vals.drop n t
def RelO:Option V->Option Value->Prop
 |some v,some u=>RelV v u
 |none,none=>True
 |_,_=>False
def KV{κ:Type}:List (κ×V)->List (κ×Value)->Prop:=Paired fun(p:κ×V) (q:κ×Value)=>p.1=q.1/\RelV p.2 q.2
def kV:Key->V
 |.inl i=>.int i
 |.inr x=>.str x
inductive HO where
  |lst (xs:List V)
  |tup (xs:List V)
  |dK (kvs:List (Key×V)) | dT (kvs:List (List Key×V))
  |set (S:Int->Bool) (n:Nat)
  |ins (C dx:Addr) (fs:List (Str×V))
  |own (x:Addr)
  |xd (fs:List (Str×V))
  |met (f x:Addr)
  |rng (lo hi:Int)
  |frz (o:Obj) (u:HO)
  |tbl (ps:Array Value)
  |ext (φ:Heap->Prop)
abbrev Hp:=Addr->Option HO
def upd(H:Hp)(a:Addr)(o:HO):Hp:=fun b=>if b=a then some o else H b
theorem ae{H:Hp}{a:Addr}{o:HO}:upd H a o a=some o:=by unfold upd;rw[if_pos rfl]
theorem aq{H:Hp}{a b:Addr}{o:HO}(h:b≠a):upd H a o b=H b:=by unfold upd;rw[if_neg h]
theorem ne_of{H:Hp}{a b:Addr}{o u:HO}(h:H a=some o)(h':H b=some u)(d:o≠u):a≠b:=by
 intro e;subst e;rw[h]at h';exact d (Er h')
theorem ay{H:Hp}{a b:Addr}{o:HO}(h:H a=some o)(h':H b=none):a≠b:=by
 intro e;subst e;rw[h]at h';cases h'
section
variable(P:Program)(w:World)
def dt(H:Hp)(h:Heap)(a:Addr):HO->Prop
 |.lst xs=>xs.length<=sizeLine/\∃(its:List Value)(n:Nat),Vals xs its/\h.get? a=some { cls:=.type "list",data:=.seq its.toArray n }
 |.tup xs=>xs.length<=sizeLine/\∃ its:List Value,Vals xs its/\IsTup h a its.toArray
 |.dK kvs=>kvs.length<=sizeLine/\(a == sysModules)=false/\∃ vs,KV kvs vs/\h.DictOf (df P w) a vs
 |.dT kvs=>kvs.length<=sizeLine/\(a == sysModules)=false/\∃ xs:List (List Key×Addr×Value),
   Paired (fun(p:List Key×V) (q:List Key×Addr×Value)=>p.1=q.1/\H q.2.1=some (.tup (p.1.map kV))/\RelV p.2 q.2.2) kvs xs /\
   ∃ o es ep,h.get? a=some o/\o.ExactDict/\o.data=.dict es ep/\es.toList=xs.map (entryOfKey (tupleKind (df P w)))/\(xs.map (·.1)).Nodup
 |.set S n=>h.SetOf (intKind P w) a S n
 |.ins C dx fs=>H dx=some (.own a)/\fs.length<=1000/\dx≠a/\h.get? a=some (Ft C dx) /\
   ∃ mA,h.Ns1 dx mA/\(∀ f,RelO (fs.lookup f) (mA f))/\PySem.Within mA (fs.map (·.1))
 |.own _=>∃ o,h.get? a=some o
 |.xd fs=>∃ mA,h.Ns1 a mA/\∀ f,RelO (fs.lookup f) (mA f)
 |.rng lo hi=>∃ t u v,h.get? a=some { cls:=.type "range",data:=.fields #[.int lo t,.int hi u,.int 1 v] }
 |.frz o u=>h.get? a=some o/\dt H h a u
 |.tbl ps=>h.get? a=some { cls:=.none,data:=.fields ps }
 |.met f x=>h.get? a=some (G5 (.ref f) (.ref x))
 |.ext φ=>φ h/\(∃ o,h.get? a=some o)/\∀ h1 h2:Heap,φ h1->(∀ o,h1.get? a=some o->h2.get? a=some o)->φ h2
def HOk(H:Hp)(h:Heap):Prop:=∀ a o,H a=some o->dt P w H h a o
end
section
variable{P:Program}{w:World}{H H':Hp}{h h':Heap}{a:Addr}{o:HO}
theorem dt.lt(x:dt P w H h a o):a<h.objs.size:=by
 cases o with
 |lst xs=>obtain⟨_,_,_,_,e⟩:=x;exact Heap.lt_size e
 |tup xs=>obtain⟨_,_,_,p⟩:=x;exact p.lt
 |dK kvs=>obtain⟨_,_,_,_,o,_,_,e,_⟩:=x;exact Heap.lt_size e
 |dT kvs=>obtain⟨_,_,_,_,o,_,_,e,_⟩:=x;exact Heap.lt_size e
 |set S n=>obtain⟨o,_,_,_,e,_⟩:=x;exact Heap.lt_size e
 |ins C dx fs=>obtain⟨_,_,_,e,_⟩:=x;exact Heap.lt_size e
 |own y=>obtain⟨_,e⟩:=x;exact Heap.lt_size e
 |xd fs=>obtain⟨_,⟨_,_,_,e,_⟩,_⟩:=x;exact Heap.lt_size e
 |rng lo hi=>obtain⟨_,_,_,e⟩:=x;exact Heap.lt_size e
 |frz ob u=>obtain⟨e,_⟩:=x;exact Heap.lt_size e
 |tbl ps=>exact Heap.lt_size (show h.get? a=some _ from x)
 |met f y=>exact Heap.lt_size (show h.get? a=some _ from x)
 |ext φ=>obtain⟨_,⟨_,e⟩,_⟩:=x;exact Heap.lt_size e
theorem Paired.mapP{α β:Type}{F G:α->β->Prop}:∀{l₁:List α}{l₂:List β},Paired F l₁ l₂->(∀ a b,F a b->G a b)->Paired G l₁ l₂
 |_,_,.nil,_=>.nil
 |_,_,.cons r t,f=>.cons (f _ _ r) (Paired.mapP t f)
theorem dt.stay(x:dt P w H h a o)(k:∀ b u,(b=a∨H b=some (.own a))->h.get? b=some u->h'.get? b=some u)
  (ho:∀ b,H b=some (.own a)->H' b=some (.own a)) (ht:∀ b xs,H b=some (.tup xs)->H' b=some (.tup xs)):dt P w H' h' a o:=by
 induction o with
 |lst xs=>obtain⟨z,its,n,r,e⟩:=x;exact⟨z,its,n,r,k _ _ (.inl rfl) e⟩
 |tup xs=>obtain⟨z,its,r,ob,e,c⟩:=x;exact⟨z,its,r,ob,k _ _ (.inl rfl) e,c⟩
 |dK kvs=>obtain⟨z,y,vs,r,ob,es,ep,e,c⟩:=x;exact⟨z,y,vs,r,ob,es,ep,k _ _ (.inl rfl) e,c⟩
 |dT kvs =>
  obtain⟨z,y,xs,r,ob,es,ep,e,c⟩:=x
  exact⟨z,y,xs,Paired.mapP r fun p q z=>⟨z.1,ht _ _ z.2.1,z.2.2⟩,ob,es,ep,k _ _ (.inl rfl) e,c⟩
 |set S n=>obtain⟨ob,es,ep,t,e,c⟩:=x;exact⟨ob,es,ep,t,k _ _ (.inl rfl) e,c⟩
 |ins C dx fs =>
  obtain⟨d,z,ne,e,mA,⟨od,es,ep,e2,c⟩,r⟩:=x
  exact⟨ho _ d,z,ne,k _ _ (.inl rfl) e,mA,⟨od,es,ep,k _ _ (.inr d) e2,c⟩,r⟩
 |own y=>obtain⟨ob,e⟩:=x;exact⟨ob,k _ _ (.inl rfl) e⟩
 |xd fs=>obtain⟨mA,⟨od,es,ep,e,c⟩,r⟩:=x;exact⟨mA,⟨od,es,ep,k _ _ (.inl rfl) e,c⟩,r⟩
 |rng lo hi=>obtain⟨t,u,v,e⟩:=x;exact⟨t,u,v,k _ _ (.inl rfl) e⟩
 |frz ob u ih=>obtain⟨e,q⟩:=x;exact⟨k _ _ (.inl rfl) e,ih q⟩
 |tbl ps =>
  have e:h.get? a=some { cls:=.none,data:=.fields ps }:=x
  show h'.get? a=some { cls:=.none,data:=.fields ps }
  exact k a _ (.inl rfl) e
 |met f y =>
  have e:h.get? a=some (G5 (.ref f) (.ref y)):=x
  show h'.get? a=some (G5 (.ref f) (.ref y))
  exact k a _ (.inl rfl) e
 |ext φ=>obtain⟨p,⟨o,e⟩,st⟩:=x;exact⟨st _ _ p fun o q=>k _ _ (.inl rfl) q,⟨o,k _ _ (.inl rfl) e⟩,st⟩
theorem HOk.lt(x:HOk P w H h)(e:H a=some o):a<h.objs.size:=(x a o e).lt
theorem HOk.fresh(x:HOk P w H h)(e:h.objs.size<=a):H a=none:=by
 cases q:H a with
 |none=>rfl
 |some u=>exact absurd (EL (x.lt q) e) (Fh _)
theorem HOk.kept(x:HOk P w H h)(k:∀ b u,h.get? b=some u->h'.get? b=some u):HOk P w H h':=fun a o e =>
 (x a o e).stay (fun b u _ q=>k b u q) (fun _ q=>q) fun _ _ q=>q
theorem HOk.laid(x:HOk P w H h)(k:∀ b u,h.get? b=some u->h'.get? b=some u)(hp:h.objs.size<=a)(new:dt P w (upd H a o) h' a o):HOk P w (upd H a o) h':=fun b u e=>by
 have hn:=x.fresh hp
 by_cases hb:b=a
 ·subst hb;rw[ae]at e;cases e;exact new
 ·rw[aq hb]at e
  exact(x b u e).stay (fun c v _ q=>k c v q) (fun c q=>by rw[aq (ay q hn)];exact q) fun c xs q=>by rw[aq (ay q hn)];exact q
end
def Rd(H:Hp)(a:Addr)(u:HO):Prop:=H a=some u∨∃ o,H a=some (.frz o u)
theorem Rd.ok{P:Program}{w:World}{H:Hp}{h:Heap}{a:Addr}{u:HO}(r:Rd H a u)(x:HOk P w H h):dt P w H h a u:=by
 rcases r with r | ⟨o,r⟩
 ·exact x a u r
 ·obtain⟨_,q⟩:=x a _ r
  exact q
def Mut:Option HO->Prop
 |some (.lst _)=>True
 |some (.dK _)=>True
 |some (.dT _)=>True
 |some (.set _ _)=>True
 |some (.ins _ _ _)=>True
 |some (.ext _)=>True
 |_=>False
section
variable{P:Program}{w:World}{H:Hp}{h h':Heap}{x e:Addr}{o':HO}
theorem HOk.write(ok:HOk P w H h)(mu:Mut (H x))(he:e=x∨H e=some (.own x))(k:∀ b u,b≠e->h.get? b=some u->h'.get? b=some u)(heo:∃ u,h'.get? e=some u)
  (new:dt P w (upd H x o') h' x o'):HOk P w (upd H x o') h':=fun b u q=>by
 have nown:∀ c y,H c=some (.own y)->c≠x:=fun c y r z=>by subst z;rw[r]at mu;exact mu
 have ntup:∀ c xs,H c=some (.tup xs)->c≠x:=fun c xs r z=>by subst z;rw[r]at mu;exact mu
 by_cases hb:b=x
 ·subst hb;rw[ae]at q;cases q;exact new
 ·rw[aq hb]at q
  by_cases hbe:b=e
  ·have q':H b=some (.own x):=by
    rcases he with z | z
    ·exact absurd (hbe.trans z) hb
    ·rw[hbe];exact z
   rw[q]at q';cases q'
   obtain⟨v,hv⟩:=heo
   exact⟨v,by rw[hbe];exact hv⟩
  ·refine(ok b u q).stay (fun c v hc r=>k c v ?_ r) (fun c r=>by rw[aq (nown c b r)];exact r) fun c xs r=>by rw[aq (ntup c xs r)];exact r
   rcases hc with rfl | hc
   ·exact hbe
   ·rintro rfl
    rcases he with z | z
    ·exact nown c b hc z
    ·rw[hc]at z;cases z;exact hb rfl
end
structure Un(fs ex:List Addr)(H H':Hp)(h h':Heap):Prop where
 keep:∀ b o,h.get? b=some o->H b=none->b∉fs->b∉ex->h'.get? b=some o
 slot:∀ b o,h.get? b=some o->H b=none->b∈fs->b∉ex->∃ sl,h'.get? b=some { o with slots:=sl }
 free:∀ b o,h.get? b=some o->H b=none->b∉ex->H' b=none
 there:∀ b o,h.get? b=some o->b∉ex->∃ o',h'.get? b=some o'
 tups:∀ b xs,H b=some (.tup xs)->H' b=some (.tup xs)
 frzs:∀ b o u,H b=some (.frz o u)->H' b=some (.frz o u)
 tbls:∀ b ps,H b=some (.tbl ps)->∃ more,H' b=some (.tbl (ps++more))
section
variable{fs fs' ex ex':List Addr}{H H1 H2:Hp}{h h1 h2 h':Heap}{a x e:Addr}{o:HO}
theorem Un.any(u:Un fs ex H H1 h h1){b:Addr}{ob:Obj}(q:h.get? b=some ob)(n:H b=none)(hx:b∉ex):∃ sl,h1.get? b=some { ob with slots:=sl }:=by
 by_cases hb:b∈fs
 ·exact u.slot b ob q n hb hx
 ·exact⟨ob.slots,u.keep b ob q n hb hx⟩
theorem Un.kept(k:∀ b u,h.get? b=some u->h'.get? b=some u):Un fs ex H H h h' :=
 ⟨fun b ob q _ _ _=>k b ob q,fun b ob q _ _ _=>⟨ob.slots,k b ob q⟩,fun _ _ _ n _=>n,fun b ob q _=>⟨ob,k b ob q⟩,fun _ _ q=>q,fun _ _ _ q=>q,fun _ ps q=>⟨#[],by rw[q];simp⟩⟩
theorem Un.refl:Un fs ex H H h h:=Un.kept fun _ _ q=>q
theorem Un.laid(k:∀ b u,h.get? b=some u->h'.get? b=some u)(hp:h.objs.size<=a)(hn:H a=none):Un fs ex H (upd H a o) h h' where
 keep:=fun b u q _ _ _=>k b u q
 slot:=fun b u q _ _ _=>⟨u.slots,k b u q⟩
 free:=fun b u q n _=>by rw[aq (ES (EL (Heap.lt_size q) hp))];exact n
 there:=fun b u q _=>⟨u,k b u q⟩
 tups:=fun b xs q=>by rw[aq (ay q hn)];exact q
 frzs:=fun b u xs q=>by rw[aq (ay q hn)];exact q
 tbls:=fun b ps q=>⟨#[],by rw[aq (ay q hn),q];simp⟩
theorem Un.write(mu:Mut (H x))(he:e=x∨H e=some (.own x))(k:∀ b u,b≠e->h.get? b=some u->h'.get? b=some u)(heo:∃ u,h'.get? e=some u):Un fs ex H (upd H x o) h h':=by
 have hx:∀ b,H b=none->b≠x:=fun b n z=>by subst z;rw[n]at mu;exact mu
 have hb:∀ b,H b=none->b≠e:=fun b n z=>by
  subst z
  rcases he with r | r
  ·exact hx b n r
  ·rw[n]at r;cases r
 have hm:∀ b u,H b=some u->¬ Mut (some u)->b≠x:=fun b u q nm z=>by subst z;rw[q]at mu;exact nm mu
 refine⟨fun b u q n _ _=>k b u (hb b n) q,fun b u q n _ _=>⟨u.slots,k b u (hb b n) q⟩,fun b u q n _=>by rw[aq (hx b n)];exact n,fun b u q _=>?_,
  fun b xs q=>by rw[aq (hm b _ q fun z=>z)];exact q,fun b u xs q=>by rw[aq (hm b _ q fun z=>z)];exact q,fun b ps q=>⟨#[],by rw[aq (hm b _ q fun z=>z),q];simp⟩⟩
 by_cases hbe:b=e
 ·subst hbe;exact heo
 ·exact⟨u,k b u hbe q⟩
end
def trk(h:Heap)(H:Hp):List Addr:=(Gu h.objs.size).filter fun a=>(H a).isSome
def hidT(h:Heap)(H:Hp):Heap:=PySem.W.hideAll h (trk h H)
theorem AA(h:Heap)(H:Hp):(hidT h H).objs.size=h.objs.size:=PySem.W.hideAll_size _ _
theorem BR{h:Heap}{H:Hp}{b:Addr}{o:Obj}(e:h.get? b=some o)(n:H b=none):(hidT h H).get? b=some o :=
 GY _ e fun hm=>by
  have q:(H b).isSome=true:=(List.mem_filter.mp hm).2
  rw[n]at q;simp at q
theorem Dp{h:Heap}{H:Hp}{b:Addr}{o:Obj}(e:(hidT h H).get? b=some o):h.get? b=some o/\H b=none:=by
 have e':h.get? b=some o:=PySem.W.of_hideAll (trk h H) e
 refine⟨e',?_⟩
 cases q:H b with
 |none=>rfl
 |some x =>
  have hm:b∈trk h H:=List.mem_filter.mpr ⟨List.mem_range.mpr (Heap.lt_size e'),by simp[q]⟩
  have z:(hidT h H).get? b=none:=PySem.W.hideAll_none (trk h H) hm
  rw[z]at e;cases e
end L2
namespace L2
open PySem PySem.Spec PyProof.Rows
structure Mod(K:D5)(mg:Str->Option Value)(base:Heap):Prop where
 kin:K.In base
 glob:base.Ns mainGlobals mg
 blt:∃ mb,base.Ns builtinsNs mb/\∀ x:Str,x≠"__name__"->mb x=bootBuiltins x
 nolimit:base.NoLimit
structure Cx where
 prog:Program
 w:World
 K:D5
 mg:Str->Option Value
 base:Heap
 A:Around
 N:List Str
 s₀:Shared
 H₀:Hp
 env:Env
 outer:List Env
 stack:List Env
 ex:List Addr
 fn:Str->Bool
 calm:Bool
 pn:List (Addr×Obj)
 xe:Value->Shared->Prop
def frs(l:List Env):List Addr:=l.filterMap (·.frame)
abbrev Cx.fs(X:Cx):List Addr:=frs X.outer
def Vis(sc:Scope)(x:Str):Prop:=sc.names.lookup x=some .local∨sc.names.lookup x=some .cell∨sc.names.lookup x=some .free
def Loc(sc:Scope)(x:Str):Prop:=sc.names.lookup x=some .local∨sc.names.lookup x=some .cell
def Look(env:Env)(h:Heap)(m:Str->Option Value)(x:Str)(u:Value):Prop :=
 (env.kindOf x=some .local/\m x=some u)∨((env.kindOf x=some .cell∨env.kindOf x=some .free)/\∃ c,env.cells.lookup x=some c/\h.IsCell c (some u))
structure Cx.Ok(X:Cx):Prop where
 mod:Mod X.K X.mg X.base
 kind:X.env.scope.kind=.function
 glob:X.env.globals=mainGlobals
 blt:X.env.builtins=builtinsNs
 above:X.s₀.heap.objs.size<=X.env.locals
 inj:∀ x y c,X.env.cells.lookup x=some c->X.env.cells.lookup y=some c->x=y
 has:∀ x,(X.env.kindOf x=some .cell∨X.env.kindOf x=some .free)->∃ c,X.env.cells.lookup x=some c
 cab:∀ x c,X.fn x=true->X.env.cells.lookup x=some c->X.s₀.heap.objs.size<=c
 hd:X.calm=true->X.A.handled=none
 frames:X.A.frames=some X.stack
 stk:X.stack=X.outer∨(X.stack=X.env::X.outer/\X.env.frame=some X.env.locals)
 exf:∀ b∈X.ex,b≠X.env.locals/\∀ x c,X.env.cells.lookup x=some c->c≠b
 bs:∀ b o,X.base.get? b=some o->X.s₀.heap.get? b=some o/\X.H₀ b=none
 bsz:X.base.objs.size<=X.s₀.heap.objs.size
 noex:∀ b o,X.base.get? b=some o->b∉X.ex
 exfs:∀ b∈X.ex,b∉X.fs
 funs:X.s₀.heap.FunFrames X.base X.outer
 frf:∀ b∈X.fs,X.H₀ b=none
structure Inv(X:Cx)(pins:List (Addr×Obj))(σ:List (Option V))(H:Hp)(s:Shared):Prop where
 ok:X.Ok
 os:s.os=X.s₀.os
 bare:AllBare s.gens
 base:Un X.fs X.ex X.H₀ H X.s₀.heap s.heap
 loc:∃ m,s.heap.Ns X.env.locals m/\∀(i:Nat)(x:Str)(v:V),X.N[i]?=some x->σ[i]?=some (some v)->Vis X.env.scope x->∃ u,RelV v u/\Look X.env s.heap m x u
 cell:∀ x c,X.env.cells.lookup x=some c->∃ v,s.heap.IsCell c v
 free:H X.env.locals=none
 freeC:∀ x c,X.env.cells.lookup x=some c->H c=none
 pin:∀ p∈X.pn++pins,s.heap.get? p.1=some p.2/\H p.1=none/\p.1≠X.env.locals/\p.1∉X.fs/\∀ v,p.2.data≠.cell v
 hok:HOk X.prog X.w H s.heap
 len:σ.length=X.N.length
section
variable{X:Cx}{pins:List (Addr×Obj)}{σ:List (Option V)}{H H':Hp}{s:Shared}{h':Heap}
theorem Cx.Ok.nofr(ok:X.Ok){b:Addr}{o:Obj}(e:X.base.get? b=some o):b∉X.fs:=fun hb=>by
 have:=(ok.funs.mem hb).1
 rw[e]at this;cases this
theorem Inv.bs(I:Inv X pins σ H s):∀ b o,X.base.get? b=some o->s.heap.get? b=some o/\H b=none:=fun b o e =>
 ⟨I.base.keep b o (I.ok.bs b o e).1 (I.ok.bs b o e).2 (I.ok.nofr e) (I.ok.noex b o e),I.base.free b o (I.ok.bs b o e).1 (I.ok.bs b o e).2 (I.ok.noex b o e)⟩
theorem Inv.bk(I:Inv X pins σ H s):∀ b o,X.base.get? b=some o->s.heap.get? b=some o:=fun b o e=>(I.bs b o e).1
theorem Inv.mod(I:Inv X pins σ H s):Mod X.K X.mg X.base:=I.ok.mod
theorem Inv.kIn(I:Inv X pins σ H s):X.K.In s.heap:=I.ok.mod.kin.keeps I.bk
theorem Inv.lt(I:Inv X pins σ H s):X.env.locals<s.heap.objs.size:=let ⟨_,hn,_⟩:=I.loc;hn.lt
theorem Inv.sz(I:Inv X pins σ H s):X.s₀.heap.objs.size<=s.heap.objs.size:=E7 I.ok.above (ER I.lt)
theorem Inv.nofs(I:Inv X pins σ H s){a:Addr}(h:s.heap.objs.size<=a):a∉X.fs:=fun hb=>by
 obtain⟨_,o,ho,_⟩:=I.ok.funs.mem hb
 exact absurd (EL (Heap.lt_size ho) (E7 I.sz h)) (Fh _)
theorem Inv.cne(I:Inv X pins σ H s):∀ x c,X.env.cells.lookup x=some c->c≠X.env.locals:=fun x c e z=>by
 obtain⟨v,o,ho,hd⟩:=I.cell x c e
 obtain⟨m,⟨o',es,ep,ho',hd',_⟩,_⟩:=I.loc
 rw[z,ho']at ho;cases ho;rw[hd']at hd;cases hd
theorem Inv.funs(I:Inv X pins σ H s):s.heap.FunFrames X.base X.outer:=by
 have all:∀(l:List Env),(∀ b∈frs l,b∈X.fs)->X.s₀.heap.FunFrames X.base l->s.heap.FunFrames X.base l:=by
  intro l
  induction l with
  |nil=>intro _ _;trivial
  |cons env r ih =>
   intro hs hl
   obtain⟨hk,⟨L,o,hf,hn,ho,hd⟩,hr⟩:=hl
   have hL:L∈X.fs:=hs L (by unfold frs;rw[GZ,hf];exact Eh)
   obtain⟨sl,e⟩:=I.base.slot L o ho (I.ok.frf L hL) hL fun z=>I.ok.exfs L z hL
   exact⟨hk,⟨L,_,hf,hn,e,hd⟩,ih (fun b hb=>hs b (by unfold frs;rw[GZ,hf];exact Ef _ hb)) hr⟩
 exact all X.outer (fun _ hb=>hb) I.ok.funs
theorem Inv.stack(I:Inv X pins σ H s):s.heap.FunFrames X.base X.stack:=by
 rcases I.ok.stk with e | ⟨e,hf⟩
 ·rw[e];exact I.funs
 ·rw[e]
  obtain⟨m,hn,_⟩:=I.loc
  refine .cons (by rw[I.ok.kind];decide) hf hn ?_ I.funs
  exact Heap.get?_none_of_le (E7 I.ok.bsz I.ok.above)
theorem Inv.stkSub(I:Inv X pins σ H s):∀ b∈frs X.stack,b∈X.env.locals::X.fs:=fun b hb=>by
 rcases I.ok.stk with e | ⟨e,hf⟩
 ·rw[e]at hb;exact Ef _ hb
 ·rw[e]at hb
  unfold frs at hb
  rw[GZ,hf]at hb
  exact hb
theorem Inv.stkFree(I:Inv X pins σ H s):∀ b∈frs X.stack,H b=none:=fun b hb=>by
 rcases Ec.mp (I.stkSub b hb)with e | hb
 ·rw[e];exact I.free
 ·obtain⟨_,o,ho,_⟩:=I.ok.funs.mem hb
  exact I.base.free b o ho (I.ok.frf b hb) fun z=>I.ok.exfs b z hb
theorem Inv.step{g':Array GenState}{t':Nat}{d':Drawn}{ch:List Addr}(I:Inv X pins σ H s)
  (hch:∀ b∈ch,(b∈X.ex∨X.s₀.heap.objs.size<=b)/\b≠X.env.locals/\(∀ x c,X.env.cells.lookup x=some c->c≠b)/\∀ p∈X.pn++pins,p.1≠b)
  (keep:∀ b o,b≠X.env.locals->b∉X.fs->b∉ch->s.heap.get? b=some o->H b=none->h'.get? b=some o)
  (slot:∀ b o,b≠X.env.locals->b∈X.fs->b∉ch->s.heap.get? b=some o->H b=none->∃ sl,h'.get? b=some { o with slots:=sl }) (free:∀ b o,b∉ch->s.heap.get? b=some o->H b=none->H' b=none)
  (there:∀ b o,b∉ch->s.heap.get? b=some o->∃ o',h'.get? b=some o')
  (tups:∀ b xs,H b=some (.tup xs)->H' b=some (.tup xs)) (frzs:∀ b o u,H b=some (.frz o u)->H' b=some (.frz o u)) (tbls:∀ b ps,H b=some (.tbl ps)->∃ more,H' b=some (.tbl (ps++more)))
  (ns:∀ m,s.heap.Ns X.env.locals m->h'.Ns X.env.locals m) (hok:HOk X.prog X.w H' h') (hg:AllBare g') :
  Inv X pins σ H' { s with heap:=h',gens:=g',drawn:=d',toks:=t' }:=by
 have neL:∀ b o,X.s₀.heap.get? b=some o->b≠X.env.locals:=fun b o e=>ES (EL (Heap.lt_size e) I.ok.above)
 have neC:∀ b o,X.s₀.heap.get? b=some o->b∉X.ex->b∉ch:=fun b o e hx hb=>by
  rcases(hch b hb).1 with z | z
  ·exact hx z
  ·exact absurd (EL (Heap.lt_size e) z) (Fh _)
 have cellK:∀ x c,X.env.cells.lookup x=some c->∀ v,s.heap.IsCell c v->h'.IsCell c v:=fun x c e v ⟨o,ho,hd⟩=>by
  have nch:c∉ch:=fun z=>(hch c z).2.2.1 x c e rfl
  by_cases hc:c∈X.fs
  ·obtain⟨sl,q⟩:=slot c o (I.cne x c e) hc nch ho (I.freeC x c e)
   exact⟨_,q,hd⟩
  ·exact⟨o,keep c o (I.cne x c e) hc nch ho (I.freeC x c e),hd⟩
 refine⟨I.ok,I.os,hg,⟨fun b o e n hb hx=>?_,fun b o e n hb hx=>?_,fun b o e n hx=>?_,fun b o e hx=>?_,fun b xs e=>tups b xs (I.base.tups b xs e),fun b o xs e=>frzs b o xs (I.base.frzs b o xs e),fun b ps e=>?_⟩,?_,fun x c e=>?_,?_,fun x c e=>?_,fun p hp=>?_,hok,I.len⟩
 ·exact keep b o (neL b o e) hb (neC b o e hx) (I.base.keep b o e n hb hx) (I.base.free b o e n hx)
 ·obtain⟨sl,e1⟩:=I.base.slot b o e n hb hx
  obtain⟨sl',e2⟩:=slot b _ (neL b o e) hb (neC b o e hx) e1 (I.base.free b o e n hx)
  exact⟨sl',e2⟩
 ·obtain⟨o',e1⟩:=I.base.there b o e hx
  exact free b o' (neC b o e hx) e1 (I.base.free b o e n hx)
 ·obtain⟨o',e1⟩:=I.base.there b o e hx
  exact there b o' (neC b o e hx) e1
 ·obtain⟨m1,e1⟩:=I.base.tbls b ps e
  obtain⟨m2,e2⟩:=tbls b _ e1
  exact⟨m1++m2,by rw[e2,Array.append_assoc]⟩
 ·obtain⟨m,hn,hl⟩:=I.loc
  refine⟨m,ns m hn,fun i x v e1 e2 e3=>?_⟩
  obtain⟨u,r,l⟩:=hl i x v e1 e2 e3
  refine⟨u,r,?_⟩
  rcases l with l | ⟨k,c,e,z⟩
  ·exact .inl l
  ·exact .inr ⟨k,c,e,cellK x c e _ z⟩
 ·obtain⟨v,z⟩:=I.cell x c e
  exact⟨v,cellK x c e v z⟩
 ·obtain⟨m,⟨o,_,_,ho,_⟩,_⟩:=I.loc
  exact free _ o (fun z=>(hch _ z).2.1 rfl) ho I.free
 ·obtain⟨v,o,ho,hd⟩:=I.cell x c e
  exact free c o (fun z=>(hch c z).2.2.1 x c e rfl) ho (I.freeC x c e)
 ·obtain⟨e,n,ne,nf,d⟩:=I.pin p hp
  have nch:p.1∉ch:=fun z=>(hch p.1 z).2.2.2 p hp rfl
  exact⟨keep p.1 p.2 ne nf nch e n,free p.1 p.2 nch e n,ne,nf,d⟩
theorem Inv.un{t':Nat}(I:Inv X pins σ H s)(u:Un X.fs [] H H' s.heap h')(hok:HOk X.prog X.w H' h'):Inv X pins σ H' { s with heap:=h',toks:=t' }:=by
 obtain⟨m,⟨o,es,ep,ho,r⟩,_⟩:=id I.loc
 obtain⟨sl,hL⟩:=u.any ho I.free (by simp)
 exact I.step (g':=s.gens) (d':=s.drawn) (ch:=[]) (fun _ z=>nomatch z) (fun b o _ hb _ e n=>u.keep b o e n hb (by simp)) (fun b o _ hb _ e n=>u.slot b o e n hb (by simp)) (fun b o _ e n=>u.free b o e n (by simp)) (fun b o _ e=>u.there b o e (by simp)) u.tups u.frzs u.tbls (fun m' hm=>by
  obtain⟨o',es',ep',ho',r'⟩:=hm
  rw[ho]at ho';cases ho'
  exact⟨_,es',ep',hL,r'⟩) hok I.bare
theorem Inv.call{g':Array GenState}{t':Nat}{d':Drawn}{ch:List Addr}(I:Inv X pins σ H s)(u:Un (frs X.stack) ch H H' s.heap h')(hok:HOk X.prog X.w H' h')(hg:AllBare g')
  (hch:∀ b∈ch,(b∈X.ex∨X.s₀.heap.objs.size<=b)/\b≠X.env.locals/\(∀ x c,X.env.cells.lookup x=some c->c≠b)/\∀ p∈X.pn++pins,p.1≠b) :
  Inv X pins σ H' { s with heap:=h',gens:=g',drawn:=d',toks:=t' }:=by
 obtain⟨m,⟨o,es,ep,ho,r⟩,_⟩:=id I.loc
 obtain⟨sl,hL⟩:=u.any ho I.free fun z=>(hch _ z).2.1 rfl
 exact I.step (ch:=ch) hch (fun b o hL hb hc e n=>u.keep b o e n (fun z=>(Ec.mp (I.stkSub b z)).elim hL hb) hc) (fun b o _ _ hc e n=>u.any e n hc) (fun b o hc e n=>u.free b o e n hc) (fun b o hc e=>u.there b o e hc) u.tups u.frzs u.tbls (fun m' hm=>by
  obtain⟨o',es',ep',ho',r'⟩:=hm
  rw[ho]at ho';cases ho'
  exact⟨_,es',ep',hL,r'⟩) hok hg
theorem Inv.turned{t':Nat}{it:Addr}(I:Inv X pins σ H s)(k:∀ b o,b≠it->s.heap.get? b=some o->h'.get? b=some o)(hn:H it=none)(hL:it≠X.env.locals)
  (h1:it∈X.ex∨X.s₀.heap.objs.size<=it) (h2:∀ x c,X.env.cells.lookup x=some c->c≠it) (h3:∀ p∈X.pn++pins,p.1≠it):Inv X pins σ H { s with heap:=h',toks:=t' }:=by
 have nit:∀ b u,H b=some u->b≠it:=fun b u e z=>by rw[z,hn]at e;cases e
 refine I.step (g':=s.gens) (d':=s.drawn) (ch:=[it]) (fun b hb=>?_) (fun b o _ _ hc e _=>k b o (fun z=>hc (by simp[z])) e) (fun b o _ _ hc e _=>⟨o.slots,k b o (fun z=>hc (by simp[z])) e⟩) (fun _ _ _ _ n=>n)
  (fun b o hc e=>⟨o,k b o (fun z=>hc (by simp[z])) e⟩) (fun _ _ e=>e) (fun _ _ _ e=>e) (fun b ps e=>⟨#[],by rw[e];simp⟩) (fun m hm=>?_) (fun b u e=>?_) I.bare
 ·have e:b=it:=by simpa using hb
  subst e
  exact⟨h1,hL,h2,h3⟩
 ·obtain⟨o,es,ep,ho,r⟩:=hm
  exact⟨o,es,ep,k _ o (Ne.symm hL) ho,r⟩
 ·refine(I.hok b u e).stay (fun c v hc q=>k c v ?_ q) (fun _ q=>q) fun _ _ q=>q
  rcases hc with z | z
  ·rw[z];exact nit b u e
  ·exact nit c _ z
theorem Inv.tok(I:Inv X pins σ H s)(t:Nat):Inv X pins σ H { s with toks:=t }:=I.un (h':=s.heap) (t':=t) Un.refl I.hok
theorem Inv.kept{t':Nat}(I:Inv X pins σ H s)(k:∀ b u,s.heap.get? b=some u->h'.get? b=some u):Inv X pins σ H { s with heap:=h',toks:=t' }:=I.un (Un.kept k) (I.hok.kept k)
theorem Inv.laid{a:Addr}{o:HO}{t':Nat}(I:Inv X pins σ H s)(k:∀ b u,s.heap.get? b=some u->h'.get? b=some u)(hp:s.heap.objs.size<=a)(new:dt X.prog X.w (upd H a o) h' a o) :
  Inv X pins σ (upd H a o) { s with heap:=h',toks:=t' }:=I.un (Un.laid k hp (I.hok.fresh hp)) (I.hok.laid k hp new)
theorem Inv.write{x e:Addr}{o:HO}{t':Nat}(I:Inv X pins σ H s)(mu:Mut (H x))(he:e=x∨H e=some (.own x))(k:∀ b u,b≠e->s.heap.get? b=some u->h'.get? b=some u)(heo:∃ u,h'.get? e=some u)
  (new:dt X.prog X.w (upd H x o) h' x o):Inv X pins σ (upd H x o) { s with heap:=h',toks:=t' }:=I.un (Un.write mu he k heo) (I.hok.write mu he k heo new)
theorem Inv.weak{σ':List (Option V)}(I:Inv X pins σ H s)(hl:σ'.length=σ.length)(w:∀ (i:Nat) v,σ'[i]?=some (some v)->σ[i]?=some (some v)):Inv X pins σ' H s :=
 ⟨I.ok,I.os,I.bare,I.base,let ⟨m,hn,hl'⟩:=I.loc;⟨m,hn,fun i x v e1 e2 e3=>hl' i x v e1 (w i v e2) e3⟩,I.cell,I.free,I.freeC,I.pin,I.hok,hl.trans I.len⟩
theorem Inv.pins_of{pins':List (Addr×Obj)}(I:Inv X pins σ H s)(h:∀ p∈pins',s.heap.get? p.1=some p.2/\H p.1=none/\p.1≠X.env.locals/\p.1∉X.fs/\∀ v,p.2.data≠.cell v):Inv X pins' σ H s :=
 ⟨I.ok,I.os,I.bare,I.base,I.loc,I.cell,I.free,I.freeC,fun p hp=>(Ee.mp hp).elim (fun z=>I.pin p (E1 _ z)) (h p),I.hok,I.len⟩
theorem qA{N:List Str}(hN:N.Nodup){i j:Nat}{x:Str}(a:N[i]?=some x)(b:N[j]?=some x):i=j:=by
 obtain⟨h1,e1⟩:=DZ.mp a
 obtain⟨h2,e2⟩:=DZ.mp b
 exact(List.getElem_inj hN).mp (e1.trans e2.symm)
theorem zu{M:Model}{A:Around}{E:Value->Shared->Prop}{i:Nat}{x:Str}{v:V}{u:Value}{Q:Unit->Shared->Prop}(I:Inv X pins σ H s)(hN:X.N.Nodup)(hi:X.N[i]?=some x)(hx:Loc X.env.scope x)(r:RelV v u)
  (h:∀ s',Inv X pins (σ.set i (some v)) H s'->(∃ a,Heap.SameBut a s.heap s'.heap/\(a=X.env.locals∨X.env.cells.lookup x=some a))->Q () s') (hf:X.fn x=true∨X.env.scope.names.lookup x=some .local:=by first | exact .inl rfl | exact .inr rfl | assumption):wpAny M A (storeName X.env x u) Q E s:=by
 obtain⟨m,hn,hl⟩:=id I.loc
 have hcls:(X.env.scope.kind == .class||(X.env.scope.kind == .module&&X.env.locals != X.env.globals))=false:=by rw[I.ok.kind];rfl
 have hiσ:i<σ.length:=by rw[I.len];exact(DZ.mp hi).1
 have cne:=I.cne
 have tracked:∀{a:Addr}{h':Heap},(∃ o,s.heap.get? a=some o/\H a=none)->Heap.SameBut a s.heap h'->HOk X.prog X.w H h':=fun{a h'} ha hs b ob e=>by
  obtain⟨_,_,hfree⟩:=ha
  refine(I.hok b ob e).stay (fun c w' hc q=>(hs.2 c ?_).trans q) (fun _ q=>q) fun _ _ q=>q
  rintro rfl
  rcases hc with rfl | hc
  ·rw[hfree]at e;cases e
  ·rw[hfree]at hc;cases hc
 rcases hx with hk | hk
 ·refine wpAny_storeName_local hk hn (fun h' hn' hs=>?_) hcls
  obtain⟨oL,_,_,hoL,_⟩:=id hn
  refine h _ ⟨I.ok,I.os,I.bare,⟨fun b o e n hb hx=>?_,fun b o e n hb hx=>?_,I.base.free,fun b o e hx=>?_,I.base.tups,I.base.frzs,I.base.tbls⟩,⟨_,hn',fun j y v' e1 e2 e3=>?_⟩,fun y c e=>?_,I.free,I.freeC,fun p hp=>?_,tracked ⟨oL,hoL,I.free⟩ hs,by simpa using I.len⟩ ⟨_,hs,.inl rfl⟩
  ·exact(hs.2 b (ES (EL (Heap.lt_size e) I.ok.above))).trans (I.base.keep b o e n hb hx)
  ·obtain⟨sl,e1⟩:=I.base.slot b o e n hb hx
   exact⟨sl,(hs.2 b (ES (EL (Heap.lt_size e) I.ok.above))).trans e1⟩
  ·obtain⟨o',e1⟩:=I.base.there b o e hx
   exact⟨o',(hs.2 b (ES (EL (Heap.lt_size e) I.ok.above))).trans e1⟩
  ·by_cases hj:j=i
   ·subst hj
    rw[hi]at e1;cases e1
    rw[FW hiσ]at e2
    cases e2
    exact⟨u,r,.inl ⟨hk,by simp⟩⟩
   ·rw[F6 (Ne.symm hj)]at e2
    obtain⟨u',r',q⟩:=hl j y v' e1 e2 e3
    refine⟨u',r',?_⟩
    rcases q with⟨k,e⟩ | ⟨k,c,e,z⟩
    ·refine .inl ⟨k,?_⟩
     have:y≠x:=fun e=>hj (qA hN e1 (e▸hi))
     simp[this,e]
    ·exact .inr ⟨k,c,e,z.sameBut hs (cne y c e)⟩
  ·obtain⟨w',z⟩:=I.cell y c e
   exact⟨w',z.sameBut hs (cne y c e)⟩
  ·obtain⟨e,n,ne,nf,d⟩:=I.pin p hp
   exact⟨(hs.2 p.1 ne).trans e,n,ne,nf,d⟩
 ·have hfn:X.fn x=true:=by
   rcases hf with z | z
   ·exact z
   ·rw[z]at hk;cases hk
  obtain⟨c,hc⟩:=I.ok.has x (.inl hk)
  obtain⟨w',z⟩:=I.cell x c hc
  refine wpAny_storeName_cell I.ok.kind hk hc z (fun h' hc' hs=>?_)
  obtain⟨oc,hoc,hocd⟩:=id z
  refine h { s with heap:=h' } ⟨I.ok,I.os,I.bare,⟨fun b o e n hb hx=>?_,fun b o e n hb hx=>?_,I.base.free,fun b o e hx=>?_,I.base.tups,I.base.frzs,I.base.tbls⟩,⟨m,hn.sameBut hs (Ne.symm (cne x c hc)),fun j y v' e1 e2 e3=>?_⟩,fun y c' e=>?_,I.free,I.freeC,fun p hp=>?_,tracked ⟨oc,hoc,I.freeC x c hc⟩ hs,by simpa using I.len⟩ ⟨c,hs,.inr hc⟩
  ·exact(hs.2 b (ES (EL (Heap.lt_size e) (I.ok.cab x c hfn hc)))).trans (I.base.keep b o e n hb hx)
  ·obtain⟨sl,e1⟩:=I.base.slot b o e n hb hx
   exact⟨sl,(hs.2 b (ES (EL (Heap.lt_size e) (I.ok.cab x c hfn hc)))).trans e1⟩
  ·obtain⟨o',e1⟩:=I.base.there b o e hx
   exact⟨o',(hs.2 b (ES (EL (Heap.lt_size e) (I.ok.cab x c hfn hc)))).trans e1⟩
  ·by_cases hj:j=i
   ·subst hj
    rw[hi]at e1;cases e1
    rw[FW hiσ]at e2
    cases e2
    exact⟨u,r,.inr ⟨.inl hk,c,hc,hc'⟩⟩
   ·rw[F6 (Ne.symm hj)]at e2
    obtain⟨u',r',q⟩:=hl j y v' e1 e2 e3
    refine⟨u',r',?_⟩
    rcases q with q | ⟨k,c',e,z'⟩
    ·exact .inl q
    ·refine .inr ⟨k,c',e,z'.sameBut hs ?_⟩
     rintro rfl
     exact hj (qA hN e1 (I.ok.inj _ _ _ e hc▸hi))
  ·by_cases hcc:c'=c
   ·subst hcc;exact⟨_,hc'⟩
   ·obtain⟨w2,z2⟩:=I.cell y c' e
    exact⟨w2,z2.sameBut hs hcc⟩
  ·obtain⟨e,n,ne,nf,d⟩:=I.pin p hp
   refine⟨(hs.2 p.1 ?_).trans e,n,ne,nf,d⟩
   intro q
   rw[q,hoc]at e
   have q':oc=p.2:=Er e
   exact d w' (by rw[← q'];exact hocd)
theorem l9{M:Model}{A:Around}{E:Value->Shared->Prop}{i:Nat}{x:Str}{v:V}{u:Value}{Q:Unit->Shared->Prop}(I:Inv X pins σ H s)(hN:X.N.Nodup)(hi:X.N[i]?=some x)(hx:Loc X.env.scope x)(r:RelV v u)
  (h:∀ s',Inv X pins (σ.set i (some v)) H s'->Q () s') (hf:X.fn x=true∨X.env.scope.names.lookup x=some .local:=by first | exact .inl rfl | exact .inr rfl | assumption):wpAny M A (storeName X.env x u) Q E s :=
 zu I hN hi hx r (fun s' I' _=>h s' I') hf
theorem Inv.call'{s':Shared}{ch:List Addr}(I:Inv X pins σ H s)(ho:s'.os=s.os)(u:Un (frs X.stack) ch H H' s.heap s'.heap)(hok:HOk X.prog X.w H' s'.heap)(hg:AllBare s'.gens)
  (hch:∀ b∈ch,(b∈X.ex∨X.s₀.heap.objs.size<=b)/\b≠X.env.locals/\(∀ x c,X.env.cells.lookup x=some c->c≠b)/\∀ p∈X.pn++pins,p.1≠b):Inv X pins σ H' s':=by
 obtain⟨h',g',d',t',o'⟩:=s'
 have e:o'=s.os:=ho
 subst e
 exact I.call (g':=g') (t':=t') (d':=d') u hok hg hch
end
abbrev XK:=Value->Option Addr->Hp->Prop
abbrev St:=List (Option V)
abbrev VK:=V->Hp->Prop
abbrev TE:=St->Hp->VK->Prop
abbrev TT:=St->Hp->(Bool->Hp->Prop)->Prop
abbrev TA:=St->Hp->(List V->Hp->Prop)->Prop
structure Ends where
 nx:St->Hp->Prop
 rt:VK
 bk:St->Hp->Prop:=fun _ _=>False
 ct:St->Hp->Prop:=fun _ _=>False
abbrev TS:=Ends->St->Hp->Prop
def EP(X:Cx)(pins:List (Addr×Obj))(σ:St)(Q:VK)(u:Value)(s':Shared):Prop:=∃ v H',Inv X pins σ H' s'/\RelV v u/\Q v H'
def TP(X:Cx)(pins:List (Addr×Obj))(σ:St)(Q:Bool->Hp->Prop)(b:Bool)(s':Shared):Prop:=∃ H',Inv X pins σ H' s'/\Q b H'
def AP(X:Cx)(pins:List (Addr×Obj))(σ:St)(Q:List V->Hp->Prop)(us:List Value)(s':Shared):Prop:=∃ vs H',Inv X pins σ H' s'/\Vals vs us/\Q vs H'
def SP(X:Cx)(pins:List (Addr×Obj))(D:Ends)(f:Flow)(s':Shared):Prop :=
 match f with
 |.next=>∃ σ' H',Inv X pins σ' H' s'/\D.nx σ' H'
 |.brk=>∃ σ' H',Inv X pins σ' H' s'/\D.bk σ' H'
 |.cont=>∃ σ' H',Inv X pins σ' H' s'/\D.ct σ' H'
 |.ret u=>∃ v σ' H',Inv X pins σ' H' s'/\RelV v u/\D.rt v H'
def PE(X:Cx)(e:Expr)(t:TE):Prop :=
 ∀(pins:List (Addr×Obj))(s:Shared)(σ:St)(H:Hp)(Q:VK),Inv X pins σ H s->t σ H Q->wpAny (model X.prog X.w) X.A (eval e X.env) (EP X pins σ Q) X.xe s
def PT(X:Cx)(e:Expr)(t:TT):Prop :=
 ∀(pins:List (Addr×Obj))(s:Shared)(σ:St)(H:Hp)(Q:Bool->Hp->Prop),Inv X pins σ H s->t σ H Q->wpAny (model X.prog X.w) X.A (isTrue e X.env (eval e X.env)) (TP X pins σ Q) X.xe s
def PW(X:Cx)(e:Expr)(t:TT):Prop :=
 ∀(whole:Sem Value)(pins:List (Addr×Obj))(s:Shared)(σ:St)(H:Hp)(Q:Bool->Hp->Prop),Inv X pins σ H s->t σ H Q->wpAny (model X.prog X.w) X.A (isTrue e X.env whole) (TP X pins σ Q) X.xe s
theorem PW.pt{X:Cx}{e:Expr}{t:TT}(h:PW X e t):PT X e t:=h _
def PA(X:Cx)(es:List Expr)(t:TA):Prop :=
 ∀(pos:Pos)(pins:List (Addr×Obj))(s:Shared)(σ:St)(H:Hp)(Q:List V->Hp->Prop),Inv X pins σ H s->t σ H Q->wpAny (model X.prog X.w) X.A (spliced (backTo pos (starEach es X.env))) (AP X pins σ Q) X.xe s
def PS(X:Cx)(st:Stmt)(t:TS):Prop :=
 ∀(pins:List (Addr×Obj))(s:Shared)(σ:St)(H:Hp)(D:Ends),Inv X pins σ H s->t D σ H->wpAny (model X.prog X.w) X.A (exec st X.env) (SP X pins D) X.xe s
def PSs(X:Cx)(st:List Stmt)(t:TS):Prop :=
 ∀(pins:List (Addr×Obj))(s:Shared)(σ:St)(H:Hp)(D:Ends),Inv X pins σ H s->t D σ H->wpAny (model X.prog X.w) X.A (execs st X.env) (SP X pins D) X.xe s
theorem thn{α:Type}{t:Sem α}{Q Q':α->Shared->Prop}{M:Model}{A:Around}{E:Value->Shared->Prop}{s:Shared}(h:wpAny M A t Q E s)(hQ:∀ a s,Q a s->Q' a s):wpAny M A t Q' E s:=wpAny_mono h hQ fun _ _ x=>x
end L2
namespace L2
open PySem PySem.Spec PyProof.Rows
section
variable{X:Cx}
def tVar(i:Nat):TE:=fun σ H Q=>∃ v,σ[i]?=some (some v)/\Q v H
def tC(v:V):TE:=fun _ H Q=>Q v H
theorem pe_var{i:Nat}{x:Str}{pos:Pos}(hN:X.N[i]?=some x)(hv:Vis X.env.scope x) (hd:(x == ("__debug__" : Str))=false:=by decide) (hcd:(x == ("__classdict__" : Str))=false:=by decide):PE X (.Name x pos) (tVar i):=by
 intro pins s σ H Q I h
 obtain⟨v,e,h⟩:=h
 obtain⟨m,hn,hl⟩:=I.loc
 obtain⟨u,r,l⟩:=hl i x v hN e hv
 have fin:EP X pins σ Q u s:=⟨v,H,I,r,h⟩
 rcases l with⟨hk,hm⟩ | ⟨hk,c,hc,hcell⟩
 ·exact wpAny_Name (wpAny_loadName_local I.ok.kind hk hn hm fin) hd
 ·rcases hk with hk | hk
  ·exact wpAny_Name (wpAny_loadName_cell I.ok.kind hk hc hcell fin) hd
  ·exact wpAny_Name (wpAny_loadName_free I.ok.kind hk hc hcell fin hcd) hd
theorem ag{i j pos}:PE X (.Constant (.int i) j pos) (tC (.int i)):=fun _ _ _ H _ I h=>wpAny_Constant_int ⟨.int i,H,I.tok _,⟨_,rfl⟩,h⟩
theorem De{b j pos}:PE X (.Constant (.bool b) j pos) (tC (.bl b)):=fun _ _ _ H _ I h=>Constant_bool ⟨.bl b,H,I,rfl,h⟩
theorem zT{j pos}:PE X (.Constant .none j pos) (tC .non):=fun _ _ _ H _ I h=>Constant_none ⟨.non,H,I,rfl,h⟩
theorem xh{x j pos}:PE X (.Constant (.str x) j pos) (tC (.str x)):=fun _ _ _ H _ I h=>Calls.Constant_str ⟨.str x,H,I.tok _,⟨_,rfl⟩,h⟩
def Gl(X:Cx)(x:Str):Prop:=X.env.kindOf x=some .globalImplicit
theorem kj{E:Value->Shared->Prop}{pins:List (Addr×Obj)}{s:Shared}{σ:St}{H:Hp}{x:Str}{u:Value}{pos:Pos}{Q:Value->Shared->Prop}(I:Inv X pins σ H s)(hg:Gl X x)(hm:X.mg x=some u)(h:Q u s)
  (hd:(x == ("__debug__" : Str))=false:=by decide):wpAny (model X.prog X.w) X.A (eval (.Name x pos) X.env) Q E s :=
 Calls.Name_function_global I.ok.kind hg (Calls.loadGlobal_global (by rw[I.ok.glob];exact I.mod.glob.keeps I.bk) hm h) hd
theorem o8{E:Value->Shared->Prop}{pins:List (Addr×Obj)}{s:Shared}{σ:St}{H:Hp}{x:Str}{u:Value}{pos:Pos}{Q:Value->Shared->Prop}(I:Inv X pins σ H s)(hg:Gl X x)(hm:X.mg x=none)(hv:bootBuiltins x=some u)(h:Q u s)
  (hn:x≠"__name__":=by decide) (hd:(x == ("__debug__" : Str))=false:=by decide):wpAny (model X.prog X.w) X.A (eval (.Name x pos) X.env) Q E s:=by
 obtain⟨mb,h1,h2⟩:=I.mod.blt
 exact Calls.Name_function_global I.ok.kind hg (Calls.loadGlobal_builtin (by rw[I.ok.glob];exact I.mod.glob.keeps I.bk) hm (by rw[I.ok.blt];exact h1.keeps I.bk) ((h2 x hn).trans hv) h) hd
theorem mI{x:Str}{v:V}{u:Value}{pos:Pos}(hg:Gl X x)(hm:X.mg x=some u)(r:RelV v u) (hd:(x == ("__debug__" : Str))=false:=by decide):PE X (.Name x pos) (tC v) :=
 fun _ _ _ H _ I h=>kj I hg hm ⟨v,H,I,r,h⟩ hd
theorem Dd{x:Str}{v:V}{u:Value}{pos:Pos}(hg:Gl X x)(hm:X.mg x=none)(hv:bootBuiltins x=some u)(r:RelV v u) (hn:x≠"__name__":=by decide) (hd:(x == ("__debug__" : Str))=false:=by decide):PE X (.Name x pos) (tC v) :=
 fun _ _ _ H _ I h=>o8 I hg hm hv ⟨v,H,I,r,h⟩ hn hd
variable{a b:Expr}{ta tb:TE}{pos:Pos}
def PC(X:Cx)(op:CmpOp)(a b:Expr)(t:TE):Prop :=
 ∀(pins:List (Addr×Obj))(s:Shared)(σ:St)(H:Hp)(Q:VK),Inv X pins σ H s->t σ H Q ->
  wpAny (model X.prog X.w) X.A (eval a X.env) (fun v s₁=>wpAny (model X.prog X.w) X.A (eval b X.env) (fun u s₂=>wpAny (model X.prog X.w) X.A (compareOp op v u) (EP X pins σ Q) X.xe s₂) X.xe s₁) X.xe s
def tB(t:TE):TT:=fun σ H Q=>t σ H fun x H1=>∃ c,x=.bl c/\Q c H1
theorem pt_cmp{op:CmpOp}{t:TE}(h:PC X op a b t)(h1:behindInMarks op b=false:=by first | exact nobehind _ (by decide) (by decide) | rfl):PT X (.Compare a [op] [b] pos) (tB t):=by
 intro pins s σ H Q I hw
 refine wpAny_isTrue_Compare1 (thn (h pins s σ H _ I hw) fun v s1 h1=>thn h1 fun u s2 h2=>thn h2 fun c s3 ⟨x,H1,I1,r1,q1⟩=>?_) h1
 obtain⟨d,rfl,q⟩:=q1
 cases r1
 exact wpAny_truthy_bool ⟨H1,I1,q⟩
theorem Cf{e:Expr}{t:TE}(h:PE X e t)(he:∀ whole,isTrue e X.env whole=(do let v ← whole;standAt e.pos;holding [v] (truthy v)):=by intro _;rfl):PT X e (tB t):=by
 intro pins s σ H Q I hw
 refine isTrue_plain (thn (h pins s σ H _ I hw) fun v s1 ⟨x,H1,I1,r1,q1⟩=>?_) (he _)
 obtain⟨d,rfl,q⟩:=q1
 cases r1
 exact wpAny_truthy_bool ⟨H1,I1,q⟩
variable{tA tB':TT}{rest:List Expr}
def tAnd(t u:TT):TT:=fun σ H Q=>t σ H fun c H1=>if c=true then u σ H1 Q else Q false H1
def tOr(t u:TT):TT:=fun σ H Q=>t σ H fun c H1=>if c=true then Q true H1 else u σ H1 Q
def tNot(t:TT):TT:=fun σ H Q=>t σ H fun c H1=>Q (!c) H1
theorem zK(ha:PT X a tA):PW X (.BoolOp .And [a] pos) tA:=by
 intro wh pins s σ H Q I h
 refine isTrue_and (thn (ha pins s σ H Q I h) fun c s1 e=>?_)
 cases c with
 |true=>exact isTrue_and_nil e
 |false=>exact e
theorem rX(ha:PT X a tA):PW X (.BoolOp .Or [a] pos) tA:=by
 intro wh pins s σ H Q I h
 refine isTrue_or (thn (ha pins s σ H Q I h) fun c s1 e=>?_)
 cases c with
 |false=>exact isTrue_or_nil e
 |true=>exact e
theorem Ce(ha:PT X a tA)(hb:PW X (.BoolOp .And (b::rest) pos) tB'):PW X (.BoolOp .And (a::b::rest) pos) (tAnd tA tB'):=by
 intro wh pins s σ H Q I h
 refine isTrue_and (thn (ha pins s σ H _ I h) fun c s1 ⟨H1,I1,q1⟩=>?_)
 cases c with
 |true=>exact hb wh pins s1 σ H1 Q I1 q1
 |false=>exact⟨H1,I1,q1⟩
theorem zJ(ha:PT X a tA)(hb:PW X (.BoolOp .Or (b::rest) pos) tB'):PW X (.BoolOp .Or (a::b::rest) pos) (tOr tA tB'):=by
 intro wh pins s σ H Q I h
 refine isTrue_or (thn (ha pins s σ H _ I h) fun c s1 ⟨H1,I1,q1⟩=>?_)
 cases c with
 |true=>exact⟨H1,I1,q1⟩
 |false=>exact hb wh pins s1 σ H1 Q I1 q1
theorem Cg(ha:PT X a tA):PT X (.UnaryOp .Not a pos) (tNot tA):=by
 intro pins s σ H Q I h
 exact isTrue_not (ha pins s σ H (fun c H1=>Q (!c) H1) I h)
def tAndV(ta tb:TE):TE:=fun σ H Q=>ta σ H fun x H1=>∃ c,x=.bl c/\if c=true then tb σ H1 Q else Q (.bl false) H1
theorem pe_one{op}{t:TE}(h:PE X a t):PE X (.BoolOp op [a] pos) t:=fun pins s σ H Q I hw=>BoolOp_one (h pins s σ H Q I hw)
theorem Cj(ha:PE X a ta)(hb:PE X (.BoolOp .And (b::rest) pos) tb):PE X (.BoolOp .And (a::b::rest) pos) (tAndV ta tb):=by
 intro pins s σ H Q I h
 refine BoolOp_and (thn (ha pins s σ H _ I h) fun v s1 ⟨x,H1,I1,r1,q1⟩=>?_)
 obtain⟨c,rfl,q1⟩:=q1
 cases r1
 refine wpAny_truthy_bool ?_
 cases c with
 |true=>exact hb pins s1 σ H1 Q I1 q1
 |false=>exact⟨.bl false,H1,I1,rfl,q1⟩
def tIf(t:TT)(ta tb:TE):TE:=fun σ H Q=>t σ H fun c H1=>if c=true then ta σ H1 Q else tb σ H1 Q
theorem xi{c:Expr}(hc:PT X c tA)(ha:PE X a ta)(hb:PE X b tb):PE X (.IfExp c a b pos) (tIf tA ta tb):=by
 intro pins s σ H Q I h
 refine wpAny_IfExp (thn (hc pins s σ H _ I h) fun d s1 ⟨H1,I1,q1⟩=>?_)
 cases d with
 |true=>exact ha pins s1 σ H1 Q I1 q1
 |false=>exact hb pins s1 σ H1 Q I1 q1
end
end L2
namespace L2
open PySem PySem.Spec PyProof.Rows
def SqL(K:D5)(H:Hp)(a:Addr)(xs:List V):Prop :=
 Rd H a (.lst xs) ∨
  ∃(o:Obj)(its:Array Value)(n:Nat),K.lookup a=some o/\o.cls=.type "list"/\o.dict=none/\o.data=.seq its n/\its.size<=sizeLine/\Vals xs its.toList
def SqT(K:D5)(H:Hp)(a:Addr)(xs:List V):Prop :=
 Rd H a (.tup xs) ∨
  ∃(o:Obj)(its:Array Value)(n:Nat),K.lookup a=some o/\o.cls=.type "tuple"/\o.data=.seq its n/\its.size<=sizeLine/\Vals xs its.toList
def absV:Value->Option V
 |.none=>some .non
 |.bool b=>some (.bl b)
 |.int i _=>some (.int i)
 |.str x _=>some (.str x)
 |.bytes b _=>some (.byt b)
 |.float b _=>some (.flt b)
 |.ref a=>some (.ref a)
 |.type n=>some (.ty n)
 |_=>none
theorem RelV.abs{x:V}{u:Value}(r:RelV x u):absV u=some x:=by
 cases x with
 |non=>cases r;rfl
 |bl _=>cases r;rfl
 |int _=>obtain⟨t,rfl⟩:=r;rfl
 |str _=>obtain⟨t,rfl⟩:=r;rfl
 |byt _=>obtain⟨t,rfl⟩:=r;rfl
 |flt _=>obtain⟨t,rfl⟩:=r;rfl
 |ref _=>cases r;rfl
 |ty _=>cases r;rfl
theorem RelV.inj{x y:V}{u:Value}(r:RelV x u)(q:RelV y u):x=y:=Er (r.abs.symm.trans q.abs)
theorem Vals.inj:∀{xs ys:List V}{us:List Value},Vals xs us->Vals ys us->xs=ys
 |_,_,_,.nil,.nil=>rfl
 |_,_,_,.cons r t,.cons r' t'=>by rw[r.inj r',Vals.inj t t']
section
variable{X:Cx}{pins:List (Addr×Obj)}{σ:St}{H:Hp}{s:Shared}{a:Addr}{xs ys:List V}
theorem SqL.of{K:D5}(h:H a=some (.lst xs)):SqL K H a xs:=.inl (.inl h)
theorem SqT.of{K:D5}(h:H a=some (.tup xs)):SqT K H a xs:=.inl (.inl h)
theorem Inv.list(I:Inv X pins σ H s)(h:SqL X.K H a xs):∃ its:List Value,Vals xs its/\PlainL s.heap a its.toArray/\xs.length<=sizeLine:=by
 rcases h with h | ⟨o,its,n,hk,hc,hd,hs,hz,r⟩
 ·obtain⟨z,its,n,r,e⟩:=h.ok I.hok
  exact⟨its,r,⟨_,n,e,rfl,rfl,rfl⟩,z⟩
 ·refine⟨its.toList,r,⟨o,n,I.kIn a o hk,hc,hd,by simpa using hs⟩,?_⟩
  have e:=r.length
  simp only[Fw]at e
  omega
theorem Inv.tuple(I:Inv X pins σ H s)(h:SqT X.K H a xs):∃ its:List Value,Vals xs its/\IsTup s.heap a its.toArray/\xs.length<=sizeLine:=by
 rcases h with h | ⟨o,its,n,hk,hc,hs,hz,r⟩
 ·obtain⟨z,its,r,p⟩:=h.ok I.hok
  exact⟨its,r,p,z⟩
 ·refine⟨its.toList,r,⟨o,I.kIn a o hk,hc,n,by simpa using hs⟩,?_⟩
  have e:=r.length
  simp only[Fw]at e
  omega
theorem Inv.list_inj(I:Inv X pins σ H s)(h:SqL X.K H a xs)(h':SqL X.K H a ys):xs=ys:=by
 obtain⟨its,r,⟨o,n,e,_,_,d⟩,_⟩:=I.list h
 obtain⟨its',r',⟨o',n',e',_,_,d'⟩,_⟩:=I.list h'
 rw[e]at e';cases e'
 rw[d]at d'
 injection d' with d1 _
 have:its=its':=by simpa using congrArg Array.toList d1
 subst this
 exact r.inj r'
end
abbrev Cx.wish(X:Cx)(E:Value->Shared->Prop):Cx:={ X with xe:=E }
abbrev Cx.nox(X:Cx):Cx:=X.wish fun _ _=>False
theorem Cx.Ok.wish{X:Cx}(ok:X.Ok)(E:Value->Shared->Prop):(X.wish E).Ok :=
 ⟨ok.mod,ok.kind,ok.glob,ok.blt,ok.above,ok.inj,ok.has,ok.cab,ok.hd,ok.frames,ok.stk,ok.exf,ok.bs,ok.bsz,ok.noex,ok.exfs,ok.funs,ok.frf⟩
theorem Cx.Ok.unwish{X:Cx}{E:Value->Shared->Prop}(ok:(X.wish E).Ok):X.Ok :=
 ⟨ok.mod,ok.kind,ok.glob,ok.blt,ok.above,ok.inj,ok.has,ok.cab,ok.hd,ok.frames,ok.stk,ok.exf,ok.bs,ok.bsz,ok.noex,ok.exfs,ok.funs,ok.frf⟩
section
variable{X:Cx}{pins:List (Addr×Obj)}{σ:St}{H:Hp}{s:Shared}{E:Value->Shared->Prop}
theorem Inv.wish(I:Inv X pins σ H s)(E:Value->Shared->Prop):Inv (X.wish E) pins σ H s:=⟨I.ok.wish E,I.os,I.bare,I.base,I.loc,I.cell,I.free,I.freeC,I.pin,I.hok,I.len⟩
theorem Inv.unwish(I:Inv (X.wish E) pins σ H s):Inv X pins σ H s:=⟨I.ok.unwish,I.os,I.bare,I.base,I.loc,I.cell,I.free,I.freeC,I.pin,I.hok,I.len⟩
theorem SP.unwish{D:Ends}{f:Flow}{s':Shared}(h:SP (X.wish E) pins D f s'):SP X pins D f s':=by
 cases f with
 |next=>obtain⟨σ',H',I,q⟩:=h;exact⟨σ',H',I.unwish,q⟩
 |brk=>obtain⟨σ',H',I,q⟩:=h;exact⟨σ',H',I.unwish,q⟩
 |cont=>obtain⟨σ',H',I,q⟩:=h;exact⟨σ',H',I.unwish,q⟩
 |ret u=>obtain⟨v,σ',H',I,r,q⟩:=h;exact⟨v,σ',H',I.unwish,r,q⟩
theorem PSs.nox{st:List Stmt}{t:TS}(h:PSs X.nox st t):PSs X st t:=fun pins s σ H D I hw =>
 wpAny_mono (h pins s σ H D (I.wish _) hw) (fun _ _ q=>q.unwish) fun _ _ z=>False.elim z
end
section
variable{X:Cx}{st:Stmt}{rest:List Stmt}{t u:TS}{e:Expr}{te:TE}{pos:Pos}
def tNext:TS:=fun D σ H=>D.nx σ H
def tSeq(t u:TS):TS:=fun D σ H=>t { D with nx:=u D } σ H
theorem bf:PSs X [] tNext:=fun _ _ σ H _ I h=>wpAny_execs_nil ⟨σ,H,I,h⟩
theorem af(h1:PS X st t)(h2:PSs X rest u):PSs X (st::rest) (tSeq t u):=by
 intro pins s σ H D I h
 refine wpAny_execs_cons (thn (h1 pins s σ H { D with nx:=u D } I h) fun f s1 q=>?_)
 cases f with
 |next =>
  obtain⟨σ',H',I',q⟩:=q
  exact h2 pins s1 σ' H' D I' q
 |ret v=>exact q
 |brk=>exact q
 |cont=>exact q
theorem aj(h1:PS X st t):PSs X [st] t:=by
 intro pins s σ H D I h
 refine wpAny_execs_cons (thn (h1 pins s σ H D I h) fun f s1 q=>?_)
 cases f with
 |next=>exact wpAny_execs_nil q
 |ret v=>exact q
 |brk=>exact q
 |cont=>exact q
theorem Inv.quiet{pins:List (Addr×Obj)}{σ:St}{H:Hp}{s:Shared}(I:Inv X pins σ H s):interactive X.env=false:=by simp[interactive,I.ok.kind]
def tDrop(te:TE):TS:=fun D σ H=>te σ H fun _ H1=>D.nx σ H1
theorem aC(he:PE X e te)(hs:swapsWith e none pos.line X.env=pure false:=by rfl):PS X (.Expr e pos) (tDrop te):=by
 intro pins s σ H D I h
 exact wpAny_Expr_any (thn (he pins s σ H _ I h) fun v s1 ⟨x,H1,I1,r1,q1⟩=>⟨σ,H1,I1,q1⟩) I.quiet hs
def tRet(te:TE):TS:=fun D σ H=>te σ H D.rt
theorem bQ(he:PE X e te):PS X (.Return (some e) pos) (tRet te):=by
 intro pins s σ H D I h
 exact wpAny_Return_some (thn (he pins s σ H _ I h) fun v s1 ⟨x,H1,I1,r1,q1⟩=>⟨x,σ,H1,I1,r1,q1⟩)
def tRetN:TS:=fun D _ H=>D.rt .non H
theorem zM:PS X (.Return none pos) tRetN:=fun _ _ σ H _ I h=>wpAny_Return_none ⟨.non,σ,H,I,rfl,h⟩
def tIfS(c:TT)(t u:TS):TS:=fun D σ H=>c σ H fun b H1=>if b=true then t D σ H1 else u D σ H1
theorem bG{c:Expr}{a b:List Stmt}{tc:TT}(hc:PT X c tc)(ha:PSs X a t)(hb:PSs X b u):PS X (.If c a b pos) (tIfS tc t u):=by
 intro pins s σ H D I h
 refine wpAny_If (thn (hc pins s σ H _ I h) fun d s1 ⟨H1,I1,q1⟩=>?_)
 cases d with
 |true=>exact ha pins s1 σ H1 D I1 q1
 |false=>exact hb pins s1 σ H1 D I1 q1
def tNever:TS:=fun _ _ _=>False
theorem qc:PS X st tNever:=fun _ _ _ _ _ _ h=>h.elim
end
abbrev TG:=V->St->Hp->(St->Hp->Prop)->Prop
abbrev TGs:=List V->St->Hp->(St->Hp->Prop)->Prop
def PG(X:Cx)(target:Expr)(t:TG):Prop :=
 ∀(pins:List (Addr×Obj))(s:Shared)(σ:St)(H:Hp)(v:V)(u:Value)(Q:St->Hp->Prop),Inv X pins σ H s->RelV v u->t v σ H Q ->
  wpAny (model X.prog X.w) X.A (assign target X.env u) (fun _ s'=>∃ σ' H',Inv X pins σ' H' s'/\Q σ' H') X.xe s
def PGs(X:Cx)(ts:List Expr)(t:TGs):Prop :=
 ∀(pins:List (Addr×Obj))(s:Shared)(σ:St)(H:Hp)(vs:List V)(us:List Value)(Q:St->Hp->Prop),Inv X pins σ H s->Vals vs us->t vs σ H Q ->
  wpAny (model X.prog X.w) X.A (assignInOrder ((assignEach ts X.env).map (·.2)) us) (fun _ s'=>∃ σ' H',Inv X pins σ' H' s'/\Q σ' H') X.xe s
abbrev TSet:=V->V->V->Hp->(Hp->Prop)->Prop
def PSet(X:Cx)(t:TSet):Prop :=
 ∀(pins:List (Addr×Obj))(s:Shared)(σ:St)(H:Hp)(o i v:V)(ov iv u:Value)(Q:Hp->Prop),Inv X pins σ H s->RelV o ov->RelV i iv->RelV v u->t o i v H Q ->
  wpAny (model X.prog X.w) X.A (setItem ov iv u) (fun _ s'=>∃ H',Inv X pins σ H' s'/\Q H') X.xe s
section
variable{X:Cx}{pos:Pos}
def oG(i:Nat):TG:=fun v σ H Q=>Q (σ.set i (some v)) H
theorem a9{i:Nat}{x:Str}(hN:X.N.Nodup)(hi:X.N[i]?=some x)(hx:Loc X.env.scope x)(hf:X.fn x=true∨X.env.scope.names.lookup x=some .local:=by first | exact .inl rfl | exact .inr rfl | assumption):PG X (.Name x pos) (oG i):=by
 intro pins s σ H v u Q I r h
 exact wpAny_assign_Name (l9 I hN hi hx r (fun s' I'=>⟨_,H,I',h⟩) hf)
def gNil:TGs:=fun vs σ H Q=>vs = []/\Q σ H
def gCons(t:TG)(u:TGs):TGs:=fun vs σ H Q=>∃ v r,vs=v::r/\t v σ H fun σ' H'=>u r σ' H' Q
theorem ka:PGs X [] gNil:=by
 intro pins s σ H vs us Q I r h
 obtain⟨e,h⟩:=h
 subst e
 cases r
 exact assignInOrder_nil ⟨σ,H,I,h⟩
theorem bY{e:Expr}{es:List Expr}{t:TG}{u:TGs}(h1:PG X e t)(h2:PGs X es u)
  (hs:(assignEach (e::es) X.env).map (·.2)=assign e X.env::(assignEach es X.env).map (·.2):=by rfl):PGs X (e::es) (gCons t u):=by
 intro pins s σ H vs us Q I r h
 obtain⟨v,vr,e1,h⟩:=h
 subst e1
 cases r with
 |cons r rr =>
  rw[hs]
  refine assignInOrder_cons (thn (h1 pins s σ H _ _ _ I r h) fun _ s1 ⟨σ1,H1,I1,q1⟩=>?_)
  exact h2 pins s1 σ1 H1 _ _ Q I1 rr q1
def gTup(K:D5)(n:Nat)(t:TGs):TG:=fun v σ H Q=>∃ a xs,v=.ref a/\SqT K H a xs/\xs.length=n/\t xs σ H Q
theorem o3{es:List Expr}{k:Nat}{t:TGs}{n:Nat}(hc:X.calm=true)(h:PGs X es t)
  (hn:(assignEach es X.env).length=n:=by rfl) (hst:(assignEach es X.env).findIdx? (·.1)=none:=by rfl):PG X (.Tuple es k pos) (gTup X.K n t):=by
 intro pins s σ H v u Q I r hw
 obtain⟨a,xs,e1,hq,hl,hw⟩:=hw
 subst e1
 cases r
 obtain⟨its,rv,ht,hz⟩:=I.tuple hq
 refine assign_Tuple_tuple (I.ok.hd hc) ht (by simp[hn,← hl,rv.length]) hst fun h' hx=>?_
 have I1:Inv X pins σ H { s with heap:=h' }:=I.kept (t':=s.toks) fun b o e=>hx b o (ES (Heap.lt_size e)) e
 exact h pins _ σ H xs _ Q I1 (by simpa using rv) hw
def gSub(to ti:TE)(t:TSet):TG:=fun v σ H Q=>to σ H fun o H1=>ti σ H1 fun i H2=>t o i v H2 fun H3=>Q σ H3
theorem jH{o i:Expr}{to ti:TE}{t:TSet}(ho:PE X o to)(hi:PE X i ti)(hs:PSet X t)
  (ha:∀ v,assign (.Subscript o i pos) X.env v=(do
   let ov ← holding [v] (eval o X.env)
   let iv ← holding [v,ov] (eval i X.env)
   standAt pos
   holding [v,ov,iv] (setItem ov iv v)
   release [v,ov,iv] []):=by intro _;rfl):PG X (.Subscript o i pos) (gSub to ti t):=by
 intro pins s σ H v u Q I r h
 rw[ha]
 refine wpAny_bind (wpAny_holding (thn (ho pins s σ H _ I h) fun ov s1 ⟨x,H1,I1,r1,q1⟩=>?_))
 refine wpAny_bind (wpAny_holding (thn (hi pins s1 σ H1 _ I1 q1) fun iv s2 ⟨y,H2,I2,r2,q2⟩=>?_))
 refine wpAny_bind (wpAny_standAt (wpAny_bind (wpAny_holding (thn (hs pins s2 σ H2 x y v ov iv u _ I2 r1 r2 r q2) fun _ s3 ⟨H3,I3,q3⟩=>?_))))
 exact wpAny_release ⟨σ,H3,I3,q3⟩
def tAsg(te:TE)(g:TG):TS:=fun D σ H=>te σ H fun x H1=>g x σ H1 D.nx
theorem gy{tg e:Expr}{te:TE}{g:TG}(he:PE X e te)(hg:PG X tg g)(hs:swapsWithSole [tg] e pos.line X.env=pure false:=by rfl)(hw:swappedStores [tg] e X.env=pure none:=by rfl)
  (h1:(assignEach [tg] X.env).map (·.2) = [assign tg X.env]:=by rfl):PS X (.Assign [tg] e pos) (tAsg te g):=by
 intro pins s σ H D I h
 refine wpAny_Assign_stores (thn (he pins s σ H _ I h) fun v s1 ⟨x,H1,I1,r1,q1⟩=>?_) hs hw
 rw[h1]
 exact thn (hg pins s1 σ H1 x v _ I1 r1 q1) fun _ s2 q=>q
theorem aw{i:Nat}{x:Str}{e:Expr}{te:TE}{pos':Pos}(hN:X.N.Nodup)(hi:X.N[i]?=some x)(hx:Loc X.env.scope x)(he:PE X e te)(hs:swapsWith e (some (.Name x pos')) pos.line X.env=pure false:=by rfl)(hf:X.fn x=true∨X.env.scope.names.lookup x=some .local:=by first | exact .inl rfl | exact .inr rfl | assumption) :
  PS X (.Assign [.Name x pos'] e pos) (tAsg te (oG i)):=by
 intro pins s σ H D I h
 refine wpAny_Assign_Name (thn (he pins s σ H _ I h) fun v s1 ⟨y,H1,I1,r1,q1⟩=>?_) hs
 exact l9 I1 hN hi hx r1 (fun s2 I2=>⟨_,H1,I2,q1⟩) hf
end
section
variable{X:Cx}{pos:Pos}
def B8(c:TT)(tb:TS):TS:=fun D σ H=>∃ W:Nat->St->Hp->Prop,(∃ m,W m σ H)/\∀ m σ H,W m σ H ->
 c σ H fun b H1=>if b=true then ∃ N:St->Hp->Prop,(∀ σ' H',N σ' H'->∃ m',m'<m/\W m' σ' H')/\tb { D with nx:=N,ct:=N,bk:=D.nx } σ H1 else D.nx σ H1
theorem xg{c:Expr}{body:List Stmt}{tc:TT}{tb:TS}(hp:PassesOwn (model X.prog X.w) X.A X.env X.xe)(hc:PT X c tc)(hb:PSs X body tb):PS X (.While c body [] pos) (B8 tc tb):=by
 intro pins s σ H D I h
 obtain⟨W,⟨m0,w0⟩,turn⟩:=h
 refine wpAny_While (codeAny_whileLoop (fun n s'=>∃ σ' H',Inv X pins σ' H' s'/\W n σ' H') ?_ m0 ⟨σ,H,I,w0⟩)
 rintro n s1 ⟨σ1,H1,I1,w1⟩
 refine wpAny_passesOwn hp (thn (hc pins s1 σ1 H1 _ I1 (turn n σ1 H1 w1)) fun b s2 ⟨H2,I2,q2⟩=>?_)
 cases b with
 |true =>
  obtain⟨N,hN,q2⟩:=q2
  rw[if_pos rfl]
  refine wpAny_passesOwn hp (thn (hb pins s2 σ1 H2 _ I2 q2) fun f s3 q3=>?_)
  cases f with
  |next =>
   obtain⟨σ3,H3,I3,n3⟩:=q3
   obtain⟨m',hm,w3⟩:=hN σ3 H3 n3
   exact⟨m',hm,σ3,H3,I3,w3⟩
  |cont =>
   obtain⟨σ3,H3,I3,n3⟩:=q3
   obtain⟨m',hm,w3⟩:=hN σ3 H3 n3
   exact⟨m',hm,σ3,H3,I3,w3⟩
  |brk=>exact q3
  |ret v=>exact q3
 |false =>
  rw[if_neg Ew]
  exact wpAny_execs_nil ⟨σ1,H2,I2,q2⟩
end
structure It where
 go:Nat->Hp->Prop
 yld:Nat->Hp->V->Hp->Prop
 stop:Nat->Hp->Prop
def FpOk(X:Cx)(pins:List (Addr×Obj))(H:Hp)(b:Addr):Prop :=
 H b=none/\b≠X.env.locals/\b∉X.fs/\(b∈X.ex∨X.s₀.heap.objs.size<=b)/\(∀ x c,X.env.cells.lookup x=some c->c≠b)/\∀ p∈X.pn++pins,p.1≠b
theorem Inv.fpOk{X:Cx}{pins:List (Addr×Obj)}{σ:St}{H H':Hp}{s:Shared}{b:Addr}(I:Inv X pins σ H s)(hb:s.heap.objs.size<=b)(hn:H' b=none):FpOk X pins H' b:=by
 refine⟨hn,Hd (EL I.lt hb),I.nofs hb,.inr (E7 I.sz hb),fun x c e z=>?_,fun p hp z=>?_⟩
 ·obtain⟨v,q⟩:=I.cell x c e
  exact absurd (EL q.lt (by rw[z];exact hb)) (Fh _)
 ·exact absurd (EL (Heap.lt_size (I.pin p hp).1) (by rw[z];exact hb)) (Fh _)
structure Turn(P:Program)(w:World)(K:D5)(tg:Expr)(J:It)(fp:List Addr)(it:Addr)(tn:Nat->Heap->Prop):Prop where
 mem:it∈fp
 obj:∀ i h,tn i h->∀ b∈fp,∃ o,h.get? b=some o/\∀ v,o.data≠.cell v
 keep:∀ i h h',tn i h->(∀ b∈fp,∀ o,h.get? b=some o->h'.get? b=some o)->tn i h'
 item:∀(X:Cx),X.prog=P->X.w=w->X.K=K->X.calm=true->∀(i:Nat)(pins:List (Addr×Obj))(s:Shared)(σ:St)(H:Hp)(E:Value->Shared->Prop),Inv X pins σ H s->(∀ b∈fp,FpOk X pins H b)->tn i s.heap->J.go i H ->
  wpAny (model P w) X.A (pyNext (.ref it)) (fun r s1=>∃ u,r=some u /\
   wpAny (model P w) X.A (letOwnedTupleGo tg (.ref it) u) (fun _ s2=>∃ x H',Inv X pins σ H' s2/\RelV x u/\J.yld i H x H'/\tn (i+1) s2.heap/\∀ b∈fp,H' b=none) E s1) E s
 done:∀(X:Cx),X.prog=P->X.w=w->X.K=K->X.calm=true->∀(i:Nat)(pins:List (Addr×Obj))(s:Shared)(σ:St)(H:Hp)(E:Value->Shared->Prop),Inv X pins σ H s->(∀ b∈fp,FpOk X pins H b)->tn i s.heap->J.stop i H ->
  wpAny (model P w) X.A (pyNext (.ref it)) (fun r s1=>r=none/\Inv X pins σ H s1) E s
 self:∀(A:Around)(i:Nat)(s:Shared)(Q:Value->Shared->Prop)(E:Value->Shared->Prop),tn i s.heap->Q (.ref it) s->wpAny (model P w) A (pyIter (.ref it)) Q E s
abbrev TI:=St->Hp->(It->Hp->Prop)->Prop
def PIE(X:Cx)(pins:List (Addr×Obj))(σ:St)(tg:Expr)(R:It->Hp->Prop)(itv:Value)(s2:Shared):Prop :=
 ∃(it:Addr)(fp:List Addr)(tn:Nat->Heap->Prop)(J:It)(H':Hp),itv=.ref it/\Inv X pins σ H' s2/\Turn X.prog X.w X.K tg J fp it tn/\tn 0 s2.heap/\(∀ b∈fp,FpOk X pins H' b)/\R J H'
def PI(X:Cx)(tg iter:Expr)(wi:TI):Prop :=
 ∀(pins:List (Addr×Obj))(s:Shared)(σ:St)(H:Hp)(R:It->Hp->Prop),Inv X pins σ H s->wi σ H R ->
  wpAny (model X.prog X.w) X.A (eval iter X.env) (fun v s1=>wpAny (model X.prog X.w) X.A (pyIter v) (PIE X pins σ tg R) X.xe s1) X.xe s
theorem go_of{M:Model}{A:Around}{E:Value->Shared->Prop}{s:Shared}{tg:Expr}{it:Addr}{u:Value}{o:Obj}{n:String}{vs:Array Value}{Q:Unit->Shared->Prop}(ho:s.heap.get? it=some o)(hc:o.cls=.type n)(hd:o.data=.fields vs)
  (hn : ["enumerate","zip","dict_itemiterator","dict_reverseitemiterator","odict_iterator","itertools.zip_longest","itertools.pairwise"].contains n=false) (hQ:Q () s):wpAny M A (letOwnedTupleGo tg (.ref it) u) Q E s:=by
 unfold letOwnedTupleGo
 cases tg<;>first
  |exact wpAny_pure hQ
  | (cases u<;>first
    |exact wpAny_pure hQ
    | (refine wpAny_bind (wpAny_load ho ?_)
       rw[hc,hd]
       show wpAny M A (if(["enumerate","zip","dict_itemiterator","dict_reverseitemiterator","odict_iterator","itertools.zip_longest","itertools.pairwise"].contains n&&vs[0]? == some (rawInt _))=true then _ else _) Q E s
       rw[if_neg (by intro h;rw[hn,HB]at h;cases h)]
       exact wpAny_pure hQ))
def Itl(K:D5)(a:Addr):It :=
 ⟨fun i H=>∃ xs x,SqL K H a xs/\xs[i]?=some x,fun i H x H'=>H'=H/\∀ xs,SqL K H a xs->xs[i]?=some x,fun i H=>∃ xs,SqL K H a xs/\xs.length<=i⟩
def Itr(lo:Int)(n:Nat):It:=⟨fun i _=>i<n,fun i H x H'=>H'=H/\x=.int (lo+i),fun i _=>n<=i⟩
theorem zr{P:Program}{w:World}{K:D5}{tg:Expr}(a it:Addr):Turn P w K tg (Itl K a) [it] it (fun i h=>h.IsListIter it a i) where
 mem:=by simp
 obj:=fun i h st b hb=>by
  have e:b=it:=by simpa using hb
  subst e
  obtain⟨o,e,c,d⟩:=st
  exact⟨o,e,fun v z=>by rw[d]at z;cases z⟩
 keep:=fun i h h' st k=>st.at fun o e=>k it (by simp) o e
 item:=by
  intro X hP hw hK hc i pins s σ H E I hf st hg
  subst hP hw hK
  obtain⟨xs,x,hq,hx⟩:=hg
  obtain⟨its,rv,p,hz⟩:=I.list hq
  obtain⟨u,hu,ru⟩:=rv.get hx
  obtain⟨f0,f1,f2,f3,f4,f5⟩:=hf it (by simp)
  refine wpAny_pyNext_list_item st p.isList (x:=u) (by simpa using hu) fun h' st' sb=>?_
  have I1:Inv X pins σ H { s with heap:=h' }:=I.turned (t':=s.toks) (fun b o hb e=>(sb.2 b hb).trans e) f0 f1 f3 f4 f5
  obtain⟨o,e,c,d⟩:=id st'
  exact⟨u,rfl,go_of (s:={ s with heap:=h' }) e c d (by decide) ⟨x,H,I1,ru,⟨rfl,fun ys hy=>by rw[I.list_inj hy hq];exact hx⟩,st',fun b hb=>(hf b hb).1⟩⟩
 done:=by
  intro X hP hw hK hc i pins s σ H E I hf st hg
  subst hP hw hK
  obtain⟨xs,hq,hx⟩:=hg
  obtain⟨its,rv,p,hz⟩:=I.list hq
  obtain⟨f0,f1,f2,f3,f4,f5⟩:=hf it (by simp)
  have hl:=rv.length
  exact wpAny_pyNext_list_end (I.ok.hd hc) st p.isList (by simp;omega) fun h' eb=>⟨rfl,I.turned (t':=s.toks) (fun b o hb e=>eb b o hb e) f0 f1 f3 f4 f5⟩
 self:=fun _ _ _ _ _ st h=>wpAny_pyIter_listiter st h
theorem xM{P:Program}{w:World}{K:D5}{tg:Expr}(it:Addr)(lo:Int)(n:Nat):Turn P w K tg (Itr lo n) [it] it (fun i h=>IsRangeIter h it (lo+(i:Nat)*1) ((n:Int)-(i:Nat)) 1) where
 mem:=by simp
 obj:=fun i h st b hb=>by
  have e:b=it:=by simpa using hb
  subst e
  exact⟨_,st,fun v z=>by
   have z':Data.fields _=Data.cell v:=z
   cases z'⟩
 keep:=fun i h h' st k=>k it (by simp) _ st
 item:=by
  intro X hP hw hK hc i pins s σ H E I hf st hg
  subst hP hw hK
  obtain⟨f0,f1,f2,f3,f4,f5⟩:=hf it (by simp)
  have W:=Walks.range (prog:=X.prog) (w:=X.w) (I.ok.hd hc) it lo 1 n
  refine W.item i s _ _ hg st fun v h' tk hv st' kk=>?_
  obtain⟨t,rfl⟩:=hv
  have I1:Inv X pins σ H { s with heap:=h',toks:=tk }:=I.turned (fun b o hb e=>kk b o (by simpa using hb) e) f0 f1 f3 f4 f5
  refine⟨_,rfl,go_of (s:={ s with heap:=h',toks:=tk }) (n:="range_iterator") st' rfl rfl (by decide) ⟨.int (lo+i),H,I1,⟨t,?_⟩,⟨rfl,rfl⟩,st',fun b hb=>(hf b hb).1⟩⟩
  rw[Int.mul_one]
 done:=by
  intro X hP hw hK hc i pins s σ H E I hf st hg
  subst hP hw hK
  obtain⟨f0,f1,f2,f3,f4,f5⟩:=hf it (by simp)
  exact wpAny_pyNext_range_end (I.ok.hd hc) st (by have:n<=i:=hg;omega) fun h' eb=>⟨rfl,I.turned (t':=s.toks) (fun b o hb e=>eb b o hb e) f0 f1 f3 f4 f5⟩
 self:=fun _ _ _ _ _ st h=>wpAny_pyIter_rangeiter st h
end L2
namespace L2
open PySem PySem.Spec PyProof.Rows
section
variable{X:Cx}{tg:Expr}
def iList(K:D5)(tl:TE):TI:=fun σ H R=>tl σ H fun x H1=>∃ a,x=.ref a/\(∃ xs,SqL K H1 a xs)/\R (Itl K a) H1
theorem cu{l:Expr}{tl:TE}(hl:PE X l tl):PI X tg l (iList X.K tl):=by
 intro pins s σ H R I h
 refine thn (hl pins s σ H _ I h) fun v s1 ⟨x,H1,I1,r1,q1⟩=>?_
 obtain⟨a,e,⟨xs,hq⟩,q⟩:=q1
 subst e
 cases r1
 obtain⟨its,rv,p,hz⟩:=I1.list hq
 refine wpAny_pyIter_list p.isList ?_
 refine⟨s1.heap.objs.size,[s1.heap.objs.size],_,_,H1,rfl,I1.kept (t':=s1.toks) fun b o e=>Heap.get?_push_of_some _ e,zr a _,⟨_,Heap.get?_push_size _ rfl,rfl,rfl⟩,fun b hb=>?_,q⟩
 have e:b=s1.heap.objs.size:=by simpa using hb
 subst e
 exact I1.fpOk (Ea _) (I1.hok.fresh (Ea _))
theorem xf{pins:List (Addr×Obj)}{σ:St}{H:Hp}{s:Shared}{R:It->Hp->Prop}{E:Value->Shared->Prop}{lo hi:Int}{t u v:Tok}{tk:Nat}(I:Inv X pins σ H s)(h1 : -(2^62)<=lo)(h2:lo<2^62)(h3 : -(2^62)<=hi)(h4:hi<2^62)
  (q:R (Itr lo (hi-lo).toNat) H):wpAny (model X.prog X.w) X.A (pyIter (.ref s.heap.objs.size)) (PIE X pins σ tg R) E { s with heap:=s.heap.push { cls:=.type "range",data:=.fields #[.int lo t,.int hi u,.int 1 v] },toks:=tk }:=by
 refine wpAny_pyIter_range (IsRange.new ..) (small_one h1 h2 h3 h4) ?_
 have I1:Inv X pins σ H { s with heap:=s.heap.push { cls:=.type "range",data:=.fields #[.int lo t,.int hi u,.int 1 v] },toks:=tk }:=I.kept fun b o e=>Heap.get?_push_of_some _ e
 refine⟨(s.heap.push { cls:=.type "range",data:=.fields #[.int lo t,.int hi u,.int 1 v] }).objs.size,[(s.heap.push { cls:=.type "range",data:=.fields #[.int lo t,.int hi u,.int 1 v] }).objs.size],_,_,H,rfl,
  I1.kept (t':=tk) fun b o e=>Heap.get?_push_of_some _ e,xM _ lo (hi-lo).toNat,?_,fun b hb=>?_,q⟩
 ·have e1:lo+((0:Nat):Int)*1=lo:=by simp
  have e2:(((hi-lo).toNat:Nat):Int)-((0:Nat):Int)=Builtin.Range.rangeSize lo hi 1:=by rw[rangeSize_one];split<;>omega +splitDisjunctions
  show IsRangeIter _ _ (lo+((0:Nat):Int)*1) ((((hi-lo).toNat:Nat):Int)-((0:Nat):Int)) 1
  rw[e1,e2]
  exact Heap.get?_push_size _ rfl
 ·have e:b=(s.heap.push { cls:=.type "range",data:=.fields #[.int lo t,.int hi u,.int 1 v] }).objs.size:=by simpa using hb
  subst e
  exact I1.fpOk (Ea _) (I1.hok.fresh (Ea _))
def iRng1(ta:TA):TI:=fun σ H R=>ta σ H fun vs H1=>∃ j:Int,vs = [.int j]/\-(2^62)<=j/\j<2^62/\R (Itr 0 j.toNat) H1
def iRng2(ta:TA):TI:=fun σ H R=>ta σ H fun vs H1=>∃ i j:Int,vs = [.int i,.int j]/\(-(2^62)<=i/\i<2^62/\-(2^62)<=j/\j<2^62)/\R (Itr i (j-i).toNat) H1
theorem cR{a:Expr}{ta:TA}{p pos:Pos} (hg:Gl X "range") (hm:X.mg "range" = none) (ha:PA X [a] ta) (hs:starEach [a] X.env = [(false,eval a X.env)]:=by rfl):PI X tg (.Call (.Name "range" p) [a] [] pos) (iRng1 ta):=by
 intro pins s σ H R I h
 refine Call_ (o8 I hg hm boot_range (PyProof.Rows.callWith_type1 (thn (ha pos pins s σ H _ I h) fun us s1 ⟨vs,H1,I1,r1,q1⟩=>?_) hs rfl))
 obtain⟨j,e,q1,q2,q⟩:=q1
 subst e
 cases r1 with
 |cons r rr =>
  cases rr
  obtain⟨t,rfl⟩:=r
  exact call_range_1 (xf I1 (by omega) (by omega) q1 q2 (by simpa using q))
theorem zQ{a b:Expr}{ta:TA}{p pos:Pos} (hg:Gl X "range") (hm:X.mg "range" = none) (ha:PA X [a,b] ta) (hs:starEach [a,b] X.env = [(false,eval a X.env),(false,eval b X.env)]:=by rfl) (hs2:starEach [b] X.env = [(false,eval b X.env)]:=by rfl) :
  PI X tg (.Call (.Name "range" p) [a,b] [] pos) (iRng2 ta):=by
 intro pins s σ H R I h
 refine Call_ (o8 I hg hm boot_range (PyProof.Rows.callWith_type1 (thn (ha pos pins s σ H _ I h) fun us s1 ⟨vs,H1,I1,r1,q1⟩=>?_) (by rw[hs,hs2]) (by rw[hs2];rfl)))
 obtain⟨i,j,e,⟨q1,q2,q3,q4⟩,q⟩:=q1
 subst e
 cases r1 with
 |cons r rr =>
  cases rr with
  |cons r' rr =>
   cases rr
   obtain⟨t,rfl⟩:=r
   obtain⟨t',rfl⟩:=r'
   exact call_range_2 (xf I1 q1 q2 q3 q4 q)
def tFor(wi:TI)(g:TG)(tb:TS):TS:=fun D σ H=>wi σ H fun J H1=>∃ W:Nat->Nat->St->Hp->Prop,(∃ m,W 0 m σ H1)/\∀ i m σ H,W i m σ H ->
 (J.stop i H/\D.nx σ H)∨(J.go i H/\∃ N:St->Hp->Prop,(∀ σ' H',N σ' H'->∃ m',m'<m/\W (i+1) m' σ' H')/\∀ x H',J.yld i H x H'->g x σ H' fun σ2 H2=>tb { D with nx:=N,ct:=N,bk:=D.nx } σ2 H2)
def r9(fp:List Addr)(h:Heap):List (Addr×Obj):=fp.filterMap fun b=>(h.get? b).map fun o=>(b,o)
theorem kh{fp:List Addr}{h:Heap}{b:Addr}{o:Obj}(hb:b∈fp)(e:h.get? b=some o):(b,o)∈r9 fp h:=G2.mpr ⟨b,hb,by rw[e];rfl⟩
theorem Aa{fp:List Addr}{h:Heap}{p:Addr×Obj}(hp:p∈r9 fp h):p.1∈fp/\h.get? p.1=some p.2:=by
 obtain⟨b,hb,e⟩:=G2.mp hp
 cases q:h.get? b with
 |none=>rw[q]at e;cases e
 |some o =>
  rw[q]at e
  have e':(b,o)=p:=Er e
  subst e'
  exact⟨hb,q⟩
theorem Inv.pinned{pins:List (Addr×Obj)}{σ:St}{H:Hp}{s:Shared}{fp:List Addr}(I:Inv X pins σ H s)(hf:∀ b∈fp,FpOk X pins H b)(ho:∀ b∈fp,∃ o,s.heap.get? b=some o/\∀ v,o.data≠.cell v):Inv X (pins++r9 fp s.heap) σ H s :=
 I.pins_of fun p hp=>(Ee.mp hp).elim (fun z=>I.pin p (EJ _ z)) fun z=>by
  obtain⟨hb,e⟩:=Aa z
  obtain⟨f0,f1,f2,_⟩:=hf p.1 hb
  obtain⟨o,e',d⟩:=ho p.1 hb
  rw[e]at e';cases e'
  exact⟨e,f0,f1,f2,d⟩
theorem Inv.unpinned{pins pl:List (Addr×Obj)}{σ:St}{H:Hp}{s:Shared}(I:Inv X (pins++pl) σ H s):Inv X pins σ H s:=I.pins_of fun p hp=>I.pin p (EJ _ (E1 _ hp))
theorem c7{iter:Expr}{body:List Stmt}{wi:TI}{g:TG}{tb:TS}{pos:Pos}(hp:PassesOwn (model X.prog X.w) X.A X.env X.xe)(hc:X.calm=true)(hi:PI X tg iter wi)(hg:PG X tg g)(hb:PSs X body tb)
  (hs:∀ x,foldedSetIterable iter X.env x=pure x:=by intro _;rfl):PS X (.For tg iter body [] pos) (tFor wi g tb):=by
 intro pins s σ H D I h
 refine wpAny_For (thn (hi pins s σ H _ I h) fun v s1 h1=>thn h1 fun itv s2 h2=>?_) hs
 obtain⟨it,fp,tn,J,H2,e,I2,T,st2,f2,W,⟨m0,w0⟩,turn⟩:=h2
 subst e
 have stat:∀{H':Hp},(∀ b∈fp,H' b=none)->∀ b∈fp,FpOk X pins H' b:=fun hn b hb=>⟨hn b hb,(f2 b hb).2⟩
 refine codeAny_forLoop_any (fun n s'=>∃ i σ' H',Inv X pins σ' H' s'/\tn i s'.heap/\(∀ b∈fp,H' b=none)/\W i n σ' H') ?_ m0 ⟨0,σ,H2,I2,st2,fun b hb=>(f2 b hb).1,w0⟩
 rintro n s3 ⟨i,σ3,H3,I3,st3,fr3,w3⟩
 rcases turn i n σ3 H3 w3 with⟨stop,qn⟩ | ⟨go,N,hN,step⟩
 ·refine wpAny_passesOwn hp (thn (T.done X rfl rfl rfl hc i pins s3 σ3 H3 X.xe I3 (stat fr3) st3 stop) fun r s4 ⟨hr,I4⟩=>?_)
  subst hr
  exact wpAny_execs_nil ⟨σ3,H3,I4,qn⟩
 ·refine wpAny_passesOwn hp (thn (T.item X rfl rfl rfl hc i pins s3 σ3 H3 X.xe I3 (stat fr3) st3 go) fun r s4 ⟨u,hr,h4⟩=>?_)
  subst hr
  refine wpAny_passesOwn hp (thn h4 fun _ s5 ⟨x,H5,I5,r5,y5,st5,fr5⟩=>?_)
  have I5':=I5.pinned (stat fr5) (T.obj _ _ st5)
  refine wpAny_passesOwn hp (thn (hg _ s5 σ3 H5 x u _ I5' r5 (step x H5 y5)) fun _ s6 ⟨σ6,H6,I6,q6⟩=>?_)
  refine wpAny_passesOwn hp (thn (hb _ s6 σ6 H6 _ I6 q6) fun f s7 q7=>?_)
  have again:∀{σ7:St}{H7:Hp},Inv X (pins++r9 fp s5.heap) σ7 H7 s7->N σ7 H7->∃ m,m<n/\∃ i σ' H',Inv X pins σ' H' s7/\tn i s7.heap/\(∀ b∈fp,H' b=none)/\W i m σ' H':=fun{σ7 H7} I7 n7=>by
   obtain⟨m',hm,w7⟩:=hN σ7 H7 n7
   refine⟨m',hm,i+1,σ7,H7,I7.unpinned,T.keep _ _ _ st5 fun b hb o e=>(I7.pin (b,o) (EJ _ (EJ _ (kh hb e)))).1,fun b hb=>?_,w7⟩
   obtain⟨o,e,d⟩:=T.obj _ _ st5 b hb
   exact(I7.pin (b,o) (EJ _ (EJ _ (kh hb e)))).2.1
  cases f with
  |next=>obtain⟨σ7,H7,I7,n7⟩:=q7;exact again I7 n7
  |cont=>obtain⟨σ7,H7,I7,n7⟩:=q7;exact again I7 n7
  |brk=>obtain⟨σ7,H7,I7,q7⟩:=q7;exact⟨σ7,H7,I7.unpinned,q7⟩
  |ret v=>obtain⟨x7,σ7,H7,I7,r7,q7⟩:=q7;exact⟨x7,σ7,H7,I7.unpinned,r7,q7⟩
end
theorem fg{K:D5}{a:Addr}{xs:List V}{g:TG}{tb:TS}{D:Ends}{σ:St}{H:Hp}(Pv:Nat->St->Hp->Prop)(h0:Pv 0 σ H)(hl:∀ i σ H,i<=xs.length->Pv i σ H->SqL K H a xs)
  (hs:∀ i x σ H,xs[i]?=some x->Pv i σ H->g x σ H fun σ2 H2=>tb { D with nx:=Pv (i+1),ct:=Pv (i+1),bk:=D.nx } σ2 H2) (hd:∀ σ H,Pv xs.length σ H->D.nx σ H) :
  ∃ W:Nat->Nat->St->Hp->Prop,(∃ m,W 0 m σ H)/\∀ i m σ H,W i m σ H ->
   ((Itl K a).stop i H/\D.nx σ H)∨((Itl K a).go i H/\∃ N:St->Hp->Prop,(∀ σ' H',N σ' H'->∃ m',m'<m/\W (i+1) m' σ' H')/\∀ x H',(Itl K a).yld i H x H'->g x σ H' fun σ2 H2=>tb { D with nx:=N,ct:=N,bk:=D.nx } σ2 H2):=by
 refine⟨fun i m σ H=>m=xs.length-i/\i<=xs.length/\Pv i σ H,⟨xs.length,by simp,Fu _,h0⟩,?_⟩
 rintro i m σ H ⟨rfl,hi,p⟩
 have q:=hl i σ H hi p
 by_cases hlt:i<xs.length
 ·refine .inr ⟨⟨xs,xs[i],q,by simp[hlt]⟩,Pv (i+1),fun σ' H' p'=>⟨xs.length-(i+1),by omega,rfl,hlt,p'⟩,fun x H' y=>?_⟩
  obtain⟨e,y⟩:=y
  subst e
  exact hs i x σ _ (y xs q) p
 ·have e:i=xs.length:=by omega
  subst e
  exact .inl ⟨⟨xs,q,Ea _⟩,hd σ H p⟩
theorem dz{lo:Int}{n:Nat}{g:TG}{tb:TS}{D:Ends}{σ:St}{H:Hp}(Pv:Nat->St->Hp->Prop)(h0:Pv 0 σ H)
  (hs:∀ i σ H,i<n->Pv i σ H->g (.int (lo+i)) σ H fun σ2 H2=>tb { D with nx:=Pv (i+1),ct:=Pv (i+1),bk:=D.nx } σ2 H2) (hd:∀ σ H,Pv n σ H->D.nx σ H) :
  ∃ W:Nat->Nat->St->Hp->Prop,(∃ m,W 0 m σ H)/\∀ i m σ H,W i m σ H ->
   ((Itr lo n).stop i H/\D.nx σ H)∨((Itr lo n).go i H/\∃ N:St->Hp->Prop,(∀ σ' H',N σ' H'->∃ m',m'<m/\W (i+1) m' σ' H')/\∀ x H',(Itr lo n).yld i H x H'->g x σ H' fun σ2 H2=>tb { D with nx:=N,ct:=N,bk:=D.nx } σ2 H2):=by
 refine⟨fun i m σ H=>m=n-i/\i<=n/\Pv i σ H,⟨n,by simp,Fu _,h0⟩,?_⟩
 rintro i m σ H ⟨rfl,hi,p⟩
 by_cases hlt:i<n
 ·refine .inr ⟨hlt,Pv (i+1),fun σ' H' p'=>⟨n-(i+1),by omega,rfl,hlt,p'⟩,fun x H' y=>?_⟩
  obtain⟨e,y⟩:=y
  subst e y
  exact hs i σ _ hlt p
 ·have e:i=n:=by omega
  subst e
  exact .inl ⟨Ea _,hd σ H p⟩
theorem wW{c:TT}{tb:TS}{D:Ends}{σ:St}{H:Hp}(Pv:St->Hp->Prop)(μ:St->Hp->Nat)(h0:Pv σ H)
  (hs:∀ σ H,Pv σ H->c σ H fun b H1=>if b=true then tb { D with nx:=fun σ' H'=>Pv σ' H'/\μ σ' H'<μ σ H,ct:=fun σ' H'=>Pv σ' H'/\μ σ' H'<μ σ H,bk:=D.nx } σ H1 else D.nx σ H1)
  (mono:∀ σ H Q Q',(∀ b H1,Q b H1->Q' b H1)->c σ H Q->c σ H Q'):B8 c tb D σ H:=by
 refine⟨fun m σ H=>m=μ σ H/\Pv σ H,⟨_,rfl,h0⟩,?_⟩
 rintro m σ H ⟨rfl,p⟩
 refine mono σ H _ _ (fun b H1 q=>?_) (hs σ H p)
 cases b with
 |true=>exact⟨_,fun σ' H' ⟨p',l⟩=>⟨_,l,rfl,p'⟩,q⟩
 |false=>exact q
end L2
namespace L2
open PySem PySem.Spec PyProof.Rows
abbrev R2:=V->V->Hp->VK->Prop
def OpR(X:Cx)(f:Value->Value->Sem Value)(r:R2):Prop :=
 ∀(pins:List (Addr×Obj))(s:Shared)(σ:St)(H:Hp)(x y:V)(v u:Value)(Q:VK),Inv X pins σ H s->RelV x v->RelV y u->r x y H Q ->
  wpAny (model X.prog X.w) X.A (f v u) (EP X pins σ Q) X.xe s
def UnR(X:Cx)(f:Value->Sem Value)(r:V->Hp->VK->Prop):Prop :=
 ∀(pins:List (Addr×Obj))(s:Shared)(σ:St)(H:Hp)(x:V)(v:Value)(Q:VK),Inv X pins σ H s->RelV x v->r x H Q ->
  wpAny (model X.prog X.w) X.A (f v) (EP X pins σ Q) X.xe s
def og(X:Cx)(f:Value)(r:List V->Hp->VK->Prop):Prop :=
 ∀(pins:List (Addr×Obj))(s:Shared)(σ:St)(H:Hp)(xs:List V)(us:List Value)(Q:VK),Inv X pins σ H s->Vals xs us->r xs H Q ->
  wpAny (model X.prog X.w) X.A (call f us) (EP X pins σ Q) X.xe s
def tOp(r:R2)(ta tb:TE):TE:=fun σ H Q=>ta σ H fun x H1=>tb σ H1 fun y H2=>r x y H2 Q
def tUn(r:V->Hp->VK->Prop)(ta:TE):TE:=fun σ H Q=>ta σ H fun x H1=>r x H1 Q
def rI(C:Int->Int->Prop)(g:Int->Int->V):R2:=fun x y H Q=>∃ i j,x=.int i/\y=.int j/\C i j/\Q (g i j) H
def rI0(g:Int->Int->V):R2:=fun x y H Q=>∃ i j,x=.int i/\y=.int j/\Q (g i j) H
def rU(g:Int->V):V->Hp->VK->Prop:=fun x H Q=>∃ i,x=.int i/\Q (g i) H
section
variable{X:Cx}{a b c:Expr}{ta tb tc:TE}{pos:Pos}
theorem binT(ha:PE X a ta)(hb:PE X b tb){pins:List (Addr×Obj)}{s:Shared}{σ:St}{H:Hp}{R:V->V->Hp->Prop}(I:Inv X pins σ H s)
  (h:ta σ H fun x H1=>tb σ H1 fun y H2=>R x y H2) {Q:Value->Shared->Prop} {f:Value->Value->Sem Value}
  (hf:∀ v u s2 x y H2,Inv X pins σ H2 s2->RelV x v->RelV y u->R x y H2->wpAny (model X.prog X.w) X.A (f v u) Q X.xe s2) :
  wpAny (model X.prog X.w) X.A (eval a X.env) (fun v s₁=>wpAny (model X.prog X.w) X.A (eval b X.env) (fun u s₂=>wpAny (model X.prog X.w) X.A (f v u) Q X.xe s₂) X.xe s₁) X.xe s:=by
 refine thn (ha pins s σ H _ I h) fun v s1 ⟨x,H1,I1,r1,q1⟩=>?_
 refine thn (hb pins s1 σ H1 _ I1 q1) fun u s2 ⟨y,H2,I2,r2,q2⟩=>?_
 exact hf v u s2 x y H2 I2 r1 r2 q2
theorem ao{op:Operator}{r:R2}(ho:OpR X (binaryOp op) r)(ha:PE X a ta)(hb:PE X b tb):PE X (.BinOp a op b pos) (tOp r ta tb):=by
 intro pins s σ H Q I h
 exact wpAny_BinOp (binT ha hb I h fun v u s2 x y H2 I2 rx ry q=>ho pins s2 σ H2 x y v u Q I2 rx ry q)
theorem pe_un{op:UnaryOp}{r:V->Hp->VK->Prop}(ho:UnR X (unaryOp op) r)(ha:PE X a ta):PE X (.UnaryOp op a pos) (tUn r ta):=by
 intro pins s σ H Q I h
 exact UnaryOp_ (thn (ha pins s σ H _ I h) fun v s1 ⟨x,H1,I1,r1,q1⟩=>ho pins s1 σ H1 x v Q I1 r1 q1)
theorem opI{f:Value->Value->Sem Value}{C:Int->Int->Prop}{g:Int->Int->Int}
  (rule:∀(i j:Int)(t u:Tok)(s:Shared)(Q:Value->Shared->Prop)(E:Value->Shared->Prop),C i j->Q (.int (g i j) s.toks) { s with toks:=s.toks+1 }->wpAny (model X.prog X.w) X.A (f (.int i t) (.int j u)) Q E s) :
  OpR X f (rI C fun i j=>.int (g i j)):=by
 intro pins s σ H x y v u Q I rx ry h
 obtain⟨i,j,rfl,rfl,hc,q⟩:=h
 obtain⟨t,rfl⟩:=rx
 obtain⟨t',rfl⟩:=ry
 exact rule i j t t' s _ _ hc ⟨.int (g i j),H,I.tok _,⟨_,rfl⟩,q⟩
theorem opI0{f:Value->Value->Sem Value}{g:Int->Int->Int}
  (rule:∀(i j:Int)(t u:Tok)(s:Shared)(Q:Value->Shared->Prop)(E:Value->Shared->Prop),Q (.int (g i j) s.toks) { s with toks:=s.toks+1 }->wpAny (model X.prog X.w) X.A (f (.int i t) (.int j u)) Q E s) :
  OpR X f (rI0 fun i j=>.int (g i j)):=by
 intro pins s σ H x y v u Q I rx ry h
 obtain⟨i,j,rfl,rfl,q⟩:=h
 obtain⟨t,rfl⟩:=rx
 obtain⟨t',rfl⟩:=ry
 exact rule i j t t' s _ _ ⟨.int (g i j),H,I.tok _,⟨_,rfl⟩,q⟩
theorem opB0{f:Value->Value->Sem Value}{g:Int->Int->Bool}
  (rule:∀(i j:Int)(t u:Tok)(s:Shared)(Q:Value->Shared->Prop)(E:Value->Shared->Prop),Q (.bool (g i j)) s->wpAny (model X.prog X.w) X.A (f (.int i t) (.int j u)) Q E s) :
  OpR X f (rI0 fun i j=>.bl (g i j)):=by
 intro pins s σ H x y v u Q I rx ry h
 obtain⟨i,j,rfl,rfl,q⟩:=h
 obtain⟨t,rfl⟩:=rx
 obtain⟨t',rfl⟩:=ry
 exact rule i j t t' s _ _ ⟨.bl (g i j),H,I,rfl,q⟩
def CDiv(i j:Int):Prop:=0<j/\j<1073741824
def CPow(i j:Int):Prop:=0<=j/\j<=1000000/\i.natAbs<2^64
def CMul(i j:Int):Prop:=(-(2^64)<i/\i<2^64)∨(-(2^64)<j/\j<2^64)
theorem CMul.ok{i j:Int}(h:CMul i j):IntMulOk i j:=by
 rcases h with⟨h1,h2⟩ | ⟨h1,h2⟩
 ·exact .of_left (intBits_le_64 h1 h2)
 ·exact .of_right (intBits_le_64 h1 h2)
theorem aO:OpR X (binaryOp .Add) (rI0 fun i j=>.int (i+j)):=opI0 fun _ _ _ _ _ _ _ q=>add_int q
theorem lB:OpR X (binaryOp .Sub) (rI0 fun i j=>.int (i-j)):=opI0 fun _ _ _ _ _ _ _ q=>sub_int q
theorem bD:OpR X (binaryOp .Mult) (rI CMul fun i j=>.int (i*j)):=opI fun _ _ _ _ _ _ _ hc q=>mul_int q hc.ok
theorem br:OpR X (binaryOp .FloorDiv) (rI CDiv fun i j=>.int (i/j)):=opI fun i j _ _ _ _ _ hc q=>by
 have h1:(0:Int)<j:=hc.1
 have h2:j<1073741824:=hc.2
 exact floordiv_int (by omega) (by rw[Int.fdiv_eq_ediv_of_nonneg i (by omega)];exact q) (.inl (PyProof.noPylong_small (by omega)))
theorem aT:OpR X (binaryOp .Mod) (rI (fun _ j=>0<j) fun i j=>.int (i%j)):=opI fun i j _ _ _ _ _ hc q=>by
 have h1:(0:Int)<j:=hc
 exact mod_int' (by omega) (by rw[Int.fmod_eq_emod_of_nonneg i (by omega)];exact q)
theorem xk:OpR X (binaryOp .LShift) (rI CPow fun i j=>.int (i*2^j.toNat)):=opI fun _ _ _ _ _ _ _ hc q=>lshift_int_small hc.1 hc.2.1 hc.2.2 q
theorem op_and:OpR X (binaryOp .BitAnd) (rI0 fun i j=>.int (Builtin.bitAnd i j)):=opI0 fun _ _ _ _ _ _ _ q=>and_int q
theorem op_or:OpR X (binaryOp .BitOr) (rI0 fun i j=>.int (Builtin.bitOr i j)):=opI0 fun _ _ _ _ _ _ _ q=>or_int q
theorem unI{f:Value->Sem Value}{g:Int->Int}
  (rule:∀(i:Int)(t:Tok)(s:Shared)(Q:Value->Shared->Prop)(E:Value->Shared->Prop),Q (.int (g i) s.toks) { s with toks:=s.toks+1 }->wpAny (model X.prog X.w) X.A (f (.int i t)) Q E s) :
  UnR X f (rU fun i=>.int (g i)):=by
 intro pins s σ H x v Q I rx h
 obtain⟨i,rfl,q⟩:=h
 obtain⟨t,rfl⟩:=rx
 exact rule i t s _ _ ⟨.int (g i),H,I.tok _,⟨_,rfl⟩,q⟩
theorem un_neg:UnR X (unaryOp .USub) (rU fun i=>.int (-i)):=unI fun _ _ _ _ _ q=>neg_int q
end
def scal:V->V->Bool
 |.non,.non=>true | .non,.int _=>true | .int _,.non=>true | .non,.bl _=>true | .bl _,.non=>true | .non,.str _=>true | .str _,.non=>true
 |.int _,.int _=>true | .bl _,.bl _=>true | .str _,.str _=>true | .byt _,.byt _=>true
 |.int _,.str _=>true | .str _,.int _=>true | .bl _,.str _=>true | .str _,.bl _=>true
 |_,_=>false
def rEq:R2:=fun x y H Q=>scal x y=true/\Q (.bl (decide (x=y))) H
def rNe:R2:=fun x y H Q=>scal x y=true/\Q (.bl (!decide (x=y))) H
theorem AK{i j:Int}:decide (V.int i=V.int j)=(i == j):=by
 rw[GP]
 simp
theorem Ct{i j:Bool}:decide (V.bl i=V.bl j)=(i == j):=by
 rw[GP]
 simp
theorem AJ{i j:Str}:decide (V.str i=V.str j)=(i == j):=by
 rw[GP]
 simp
theorem AL{i j:Array UInt8}:decide (V.byt i=V.byt j)=(i.toList == j.toList):=by
 rw[GP]
 cases i
 cases j
 simp
section
variable{X:Cx}{a b c:Expr}{ta tb tc:TE}{pos:Pos}
theorem bo{pins:List (Addr×Obj)}{σ:St}{H:Hp}{s:Shared}{Q:VK}{k k':Bool}(I:Inv X pins σ H s)(q:Q (.bl k) H)(e:k=k'):EP X pins σ Q (.bool k') s:=by
 subst e
 exact⟨.bl k,H,I,rfl,q⟩
theorem cx:OpR X (compareOp .Eq) rEq:=by
 intro pins s σ H x y v u Q I rx ry h
 obtain⟨hs,q⟩:=h
 cases x with
 |non =>
  cases rx
  cases y with
  |non=>cases ry;exact PySem.EqNone.eq_none_none (bo I q (by simp))
  |bl j=>cases ry;exact PySem.EqNone.eq_none_bool (bo I q (by simp))
  |int j=>obtain⟨t',rfl⟩:=ry;exact PySem.EqNone.eq_none_int (bo I q (by simp))
  |str j=>obtain⟨t',rfl⟩:=ry;exact PySem.EqNone.eq_none_str (bo I q (by simp))
  |_=>exact absurd (show false=true from hs) Ew
 |bl i =>
  cases rx
  cases y with
  |non=>cases ry;exact PySem.EqNone.eq_bool_none (bo I q (by simp))
  |bl j=>cases ry;exact eq_bool (bo I q Ct)
  |str j=>obtain⟨t',rfl⟩:=ry;exact PySem.EqMixed.eq_bool_str (bo I q (by simp))
  |_=>exact absurd (show false=true from hs) Ew
 |int i =>
  obtain⟨t,rfl⟩:=rx
  cases y with
  |non=>cases ry;exact PySem.EqNone.eq_int_none (bo I q (by simp))
  |int j=>obtain⟨t',rfl⟩:=ry;exact eq_int (bo I q AK)
  |str j=>obtain⟨t',rfl⟩:=ry;exact PySem.EqMixed.eq_int_str (bo I q (by simp))
  |_=>exact absurd (show false=true from hs) Ew
 |str i =>
  obtain⟨t,rfl⟩:=rx
  cases y with
  |non=>cases ry;exact PySem.EqNone.eq_str_none (bo I q (by simp))
  |bl j=>cases ry;exact PySem.EqMixed.eq_str_bool (bo I q (by simp))
  |int j=>obtain⟨t',rfl⟩:=ry;exact PySem.EqMixed.eq_str_int (bo I q (by simp))
  |str j=>obtain⟨t',rfl⟩:=ry;exact eq_str (bo I q AJ)
  |_=>exact absurd (show false=true from hs) Ew
 |byt i =>
  obtain⟨t,rfl⟩:=rx
  cases y with
  |byt j=>obtain⟨t',rfl⟩:=ry;exact PySem.W.eq_bytes (bo I q AL)
  |_=>exact absurd (show false=true from hs) Ew
 |_=>cases y<;>exact absurd (show false=true from hs) Ew
theorem se:OpR X (compareOp .NotEq) rNe:=by
 intro pins s σ H x y v u Q I rx ry h
 obtain⟨hs,q⟩:=h
 cases x with
 |non =>
  cases rx
  cases y with
  |non=>cases ry;exact PySem.EqNone.ne_none_none (bo I q (by simp))
  |bl j=>cases ry;exact PySem.EqNone.ne_none_bool (bo I q (by simp))
  |int j=>obtain⟨t',rfl⟩:=ry;exact PySem.EqNone.ne_none_int (bo I q (by simp))
  |str j=>obtain⟨t',rfl⟩:=ry;exact PySem.EqNone.ne_none_str (bo I q (by simp))
  |_=>exact absurd (show false=true from hs) Ew
 |bl i =>
  cases rx
  cases y with
  |non=>cases ry;exact PySem.EqNone.ne_bool_none (bo I q (by simp))
  |bl j=>cases ry;exact ne_bool (bo I q (congrArg not Ct))
  |str j=>obtain⟨t',rfl⟩:=ry;exact PySem.EqMixed.ne_bool_str (bo I q (by simp))
  |_=>exact absurd (show false=true from hs) Ew
 |int i =>
  obtain⟨t,rfl⟩:=rx
  cases y with
  |non=>cases ry;exact PySem.EqNone.ne_int_none (bo I q (by simp))
  |int j=>obtain⟨t',rfl⟩:=ry;exact ne_int (bo I q (congrArg not AK))
  |str j=>obtain⟨t',rfl⟩:=ry;exact PySem.EqMixed.ne_int_str (bo I q (by simp))
  |_=>exact absurd (show false=true from hs) Ew
 |str i =>
  obtain⟨t,rfl⟩:=rx
  cases y with
  |non=>cases ry;exact PySem.EqNone.ne_str_none (bo I q (by simp))
  |bl j=>cases ry;exact PySem.EqMixed.ne_str_bool (bo I q (by simp))
  |int j=>obtain⟨t',rfl⟩:=ry;exact PySem.EqMixed.ne_str_int (bo I q (by simp))
  |str j=>obtain⟨t',rfl⟩:=ry;exact ne_str (bo I q (congrArg not AJ))
  |_=>exact absurd (show false=true from hs) Ew
 |byt i =>
  obtain⟨t,rfl⟩:=rx
  cases y with
  |byt j=>obtain⟨t',rfl⟩:=ry;exact PySem.W.ne_bytes (bo I q (congrArg not AL))
  |_=>exact absurd (show false=true from hs) Ew
 |_=>cases y<;>exact absurd (show false=true from hs) Ew
theorem yc:OpR X (compareOp .Lt) (rI0 fun i j=>.bl (decide (i<j))):=opB0 fun _ _ _ _ _ _ _ q=>lt_int q
theorem op_gt:OpR X (compareOp .Gt) (rI0 fun i j=>.bl (decide (j<i))):=opB0 fun _ _ _ _ _ _ _ q=>gt_int q
theorem Df:OpR X (compareOp .GtE) (rI0 fun i j=>.bl (decide (j<=i))):=opB0 fun _ _ _ _ _ _ _ q=>ge_int q
theorem op_isN:OpR X (compareOp .Is) (fun x y H Q=>y=.non/\Q (.bl (decide (x=.non))) H):=by
 intro pins s σ H x y v u Q I rx ry h
 obtain⟨rfl,q⟩:=h
 cases ry
 refine is_none_gen (bo I q ?_)
 cases x<;>first
  | (cases rx;rfl)
  | (obtain⟨t,rfl⟩:=rx;rfl)
theorem aF(b:Expr){op:CmpOp}(h:op≠.In:=by decide)(h2:op≠.NotIn:=by decide):behindInMarks op b=false:=by
 have e1:(op == CmpOp.In)=false:=by cases op<;>first | rfl | exact absurd rfl h
 have e2:(op == CmpOp.NotIn)=false:=by cases op<;>first | rfl | exact absurd rfl h2
 cases b<;>simp[behindInMarks,e1,e2]
theorem gE{op:CmpOp}{r:R2}(ho:OpR X (compareOp op) r)(ha:PE X a ta)(hb:PE X b tb)(hm:behindInMarks op b=false):PE X (.Compare a [op] [b] pos) (tOp r ta tb):=by
 intro pins s σ H Q I h
 exact wpAny_Compare1 (binT ha hb I h fun v u s2 x y H2 I2 rx ry q=>ho pins s2 σ H2 x y v u Q I2 rx ry q) hm
def tTest(t:TE):TT:=fun σ H Q=>t σ H fun x H'=>∃ k,x=.bl k/\Q k H'
theorem az{op:CmpOp}{r:R2}(ho:OpR X (compareOp op) r)(ha:PE X a ta)(hb:PE X b tb)(hm:behindInMarks op b=false):PT X (.Compare a [op] [b] pos) (tTest (tOp r ta tb)):=by
 intro pins s σ H Q I h
 refine wpAny_isTrue_Compare1 (thn (ha pins s σ H _ I h) fun v s1 ⟨x,H1,I1,r1,q1⟩=>thn (hb pins s1 σ H1 _ I1 q1) fun u s2 ⟨y,H2,I2,r2,q2⟩ =>
  thn (ho pins s2 σ H2 x y v u _ I2 r1 r2 q2) fun c s3 ⟨z,H3,I3,r3,k,e,q3⟩=>?_) hm
 subst e
 cases r3
 exact wpAny_truthy_bool ⟨H3,I3,q3⟩
theorem sM:(sizeLine:Nat)<2^63:=by rw[sizeLine_eq];decide
theorem Bi{x:V}{us:List Value}(r:Vals [x] us):∃ u,us = [u]/\RelV x u:=by
 cases r with
 |cons r1 r2=>cases r2;exact⟨_,rfl,r1⟩
theorem Bh{x y:V}{us:List Value}(r:Vals [x,y] us):∃ u w',us = [u,w']/\RelV x u/\RelV y w':=by
 cases r with
 |cons r1 r2 =>
  cases r2 with
  |cons r3 r4=>cases r4;exact⟨_,_,rfl,r1,r3⟩
theorem A0(hc:X.calm=true):og X (.builtin "max") (fun xs H Q=>∃ i j,xs = [.int i,.int j]/\Q (.int (if j > i then j else i)) H):=by
 intro pins s σ H xs us Q I r h
 obtain⟨i,j,rfl,q⟩:=h
 obtain⟨u,w',rfl,⟨t,rfl⟩,⟨t',rfl⟩⟩:=Bh r
 refine max_two_ints (I.ok.hd hc) fun h' tk k=>⟨_,H,I.kept k,?_,q⟩
 by_cases hj:j > i
 ·rw[if_pos hj,if_pos hj];exact⟨_,rfl⟩
 ·rw[if_neg hj,if_neg hj];exact⟨_,rfl⟩
theorem AZ(hc:X.calm=true):og X (.builtin "min") (fun xs H Q=>∃ i j,xs = [.int i,.int j]/\Q (.int (if j<i then j else i)) H):=by
 intro pins s σ H xs us Q I r h
 obtain⟨i,j,rfl,q⟩:=h
 obtain⟨u,w',rfl,⟨t,rfl⟩,⟨t',rfl⟩⟩:=Bh r
 refine min_two_ints (I.ok.hd hc) fun h' tk k=>⟨_,H,I.kept k,?_,q⟩
 by_cases hj:j<i
 ·rw[if_pos hj,if_pos hj];exact⟨_,rfl⟩
 ·rw[if_neg hj,if_neg hj];exact⟨_,rfl⟩
end
end L2
namespace L2
open PySem PySem.Spec PyProof.Rows
structure ObjM(h:Heap)(x dx C:Addr)(mA:Str->Option Value):Prop where
 obj:h.get? x=some (Ft C dx)
 ns:h.Ns1 dx mA
 ne:dx≠x
theorem Ak{h:Heap}{dx:Addr}{mA:Str->Option Value}(n:h.Ns1 dx mA):∃ od,h.get? dx=some od/\∀ name,Hw name od=some (mA name):=by
 obtain⟨o,es,ep,ho,hd,hk,_,hm⟩:=n
 refine⟨o,ho,fun name=>?_⟩
 have e:=hm name
 unfold nsFind findBy at e
 rw[← Array.find?_toList]at e
 unfold Hw
 rw[hd]
 dsimp only
 split
 ·rename_i y q
  rw[q]at e
  exact congrArg some e
 ·rename_i q
  rw[q]at e
  have a:es.toList.any (·.refKey)=false:=by
   rw[List.any_eq_false]
   intro y hy
   obtain⟨z,t,hkey⟩:=hk y (Array.mem_toList_iff.mp hy)
   simp[DictEntry.refKey,hkey]
  have a':¬ es.toList.any (·.refKey)=true:=by rw[a];exact Ew
  rw[if_neg a']
  exact congrArg some e
theorem ObjM.look{h:Heap}{x dx C:Addr}{mA:Str->Option Value}(I:ObjM h x dx C mA):∃ od,PySem.W.InstAt h x (Ft C dx) C (some od)/\∀ name,Hw name od=some (mA name) :=
 let ⟨od,ho,hl⟩:=Ak I.ns
 ⟨od,⟨I.obj,rfl,rfl,ho⟩,hl⟩
section
variable{prog:Program}{w:World}{A:Around}{E:Value->Shared->Prop}{s:Shared}{K:D5}{x dx C f:Addr}{mA:Str->Option Value}{name:Str}{v:Value}
theorem DD{expr:Bool}{Q:Value->Shared->Prop}(X:K.In s.heap)(I:ObjM s.heap x dx C mA)(hg:FN K C name=true)(hh:E9 K C=true)
  (ha:Em K (.ref C) name=some none) (hv:mA name=some v) (hv':PySem.W.handedIn v=true) (h:Q v { s with toks:=s.toks+1 }) :
  wpAny (model prog w) A (getAttr (.ref x) name expr) Q E s:=by
 obtain⟨od,J,hl⟩:=I.look
 exact PySem.W.get_value X J (PySem.W.plainGet_of hg).1 (PySem.W.findObj_own hh ha rfl (by rw[hl,hv])) hv' h
theorem CU{ns:List Str}{Q:Unit->Shared->Prop}(X:K.In s.heap)(I:ObjM s.heap x dx C mA)
  (hs:Em K (.ref C) "__setattr__" = some (some (.builtin "object.__setattr__"))) (hp:FX K C=true) (ht:Hk K C name=some none) (hh:E9 K C=true)
  (hw:PySem.Within mA ns) (hsz:ns.length<=sizeLine)
  (h:∀ h',ObjM h' x dx C (fun y=>if y=name then some v else mA y)->Heap.SameBut dx s.heap h'->Q () { s with heap:=h',toks:=s.toks+2 }) :
  wpAny (model prog w) A (setAttr (.ref x) name v) Q E s:=by
 obtain⟨od,J,hl⟩:=I.look
 refine PySem.W.set_plain X J hs (PySem.W.osa_open (s:={ s with toks:=s.toks+1 }) (r:=none) X J hp ht fun b=>?_)
 obtain⟨cd,hc,hd'⟩:=Hf hh
 have hx:s.heap.get? x=some ⟨.ref C,some dx,.plain,#[]⟩:=I.obj
 refine wpAny_bind (wpAny_pure (wpAny_bind (wpAny_bind (wpAny_loadPart hx (wpAny_bind (PySem.W.Looks.here (s:={ s with toks:=s.toks+1 }) (PySem.W.looks_clsIn X hc) ?_))))))
 rw[hd']
 refine wpAny_pure (a:=some dx) (wpAny_bind (wpAny_pure (wpAny_bind ?_)))
 refine wpAny_nsSet1 (s:={ s with toks:=s.toks+1 }) I.ns fun h' hn2 hs2=>?_
 obtain⟨oD,esD,epD,hoD,hdD,hcD⟩:=hn2.count (PySem.Within.cons name v hw)
 refine wpAny_bind (wpAny_lookBehind hoD (by rw[hdD];exact pastItsLine_dict (E7 hcD (by rw[ET];omega))) ?_)
 exact wpAny_pure (h _ ⟨(hs2.2 _ (Ne.symm I.ne)).trans I.obj,hn2,I.ne⟩ hs2)
theorem xy{R:Result->Shared->Prop}{vs:List Value}{kw:List (Str×Value)}(X:K.In s.heap)(hm:Gb K C=true)
  (hi:Em K (.ref C) "__init__" = some (some (.ref f))) (hf:PySem.W.typeIn K (.ref f)=some (.type "function"))
  (h:codeAny (model prog w) (A.under (.builtin "type.__call__" ⟨.ref C::vs,kw⟩)) (.call (.ref f) ⟨.ref (s.heap.objs.size+1)::vs,kw⟩) (PySem.W.InitBack (s.heap.objs.size+1) R)
   { s with heap:=(s.heap.push Fg).push (Ft C s.heap.objs.size) }) :
  codeAny (model prog w) A (.call (.ref C) ⟨vs,kw⟩) R s:=by
 obtain⟨hh,g,d,t,os⟩:=s
 exact PySem.W.make_core (PySem.W.makes_of X hm) (F5 X hi) (fun self=>PySem.W.bind_fn X self hf) (.inl rfl) h
end
def putF(f:Str)(v:V):List (Str×V)->List (Str×V)
 |[]=>[(f,v)]
 | (g,x)::r=>if g=f then(g,v)::r else(g,x)::putF f v r
theorem aQ(f g:Str)(v:V):∀ fs:List (Str×V),(putF f v fs).lookup g=if g=f then some v else fs.lookup g
 |[]=>by
  show Ge g [(f,v)]=_
  by_cases h:g=f
  ·have hb:(g == f)=true:=beq_iff_eq.mpr h
   simp only[Ge,hb,if_pos h]
  ·have hb:(g == f)=false:=beq_eq_false_iff_ne.mpr h
   simp only[Ge,hb,if_neg h]
 | (k,x)::r=>by
  have ih:=aQ f g v r
  rw[show putF f v ((k,x)::r)=(if k=f then(k,v)::r else(k,x)::putF f v r) from rfl]
  by_cases hk:k=f
  ·rw[if_pos hk]
   by_cases h:g=k
   ·have hb:(g == k)=true:=beq_iff_eq.mpr h
    simp only[Ge,hb,if_pos (h.trans hk)]
   ·have hb:(g == k)=false:=beq_eq_false_iff_ne.mpr h
    simp only[Ge,hb,if_neg (fun e:g=f=>h (e.trans hk.symm))]
  ·rw[if_neg hk]
   by_cases h:g=k
   ·have hb:(g == k)=true:=beq_iff_eq.mpr h
    simp only[Ge,hb,if_neg (fun e:g=f=>hk (h.symm.trans e))]
   ·have hb:(g == k)=false:=beq_eq_false_iff_ne.mpr h
    simp only[Ge,hb]
    exact ih
theorem mV(f:Str)(v:V):∀ fs:List (Str×V),f∈(putF f v fs).map (·.1)/\∀ g,g∈fs.map (·.1)->g∈(putF f v fs).map (·.1)
 |[]=>⟨by simp[putF],fun g h=>by simp at h⟩
 | (k,x)::r=>by
  obtain⟨i1,i2⟩:=mV f v r
  rw[show putF f v ((k,x)::r)=(if k=f then(k,v)::r else(k,x)::putF f v r) from rfl]
  by_cases hk:k=f
  ·rw[if_pos hk]
   subst hk
   exact⟨by simp,fun g h=>by simpa using h⟩
  ·rw[if_neg hk]
   refine⟨?_,fun g h=>?_⟩
   ·rw[EU]
    exact Ef _ i1
   ·rw[EU]at h ⊢
    rcases Ec.mp h with e | e
    ·exact Ec.mpr (.inl e)
    ·exact Ef _ (i2 g e)
theorem mQ(f:Str)(v:V):∀ fs:List (Str×V),(putF f v fs).length<=fs.length+1
 |[]=>by simp[putF]
 | (k,x)::r=>by
  have ih:=mQ f v r
  rw[show putF f v ((k,x)::r)=(if k=f then(k,v)::r else(k,x)::putF f v r) from rfl]
  by_cases hk:k=f
  ·rw[if_pos hk,ET,ET];omega
  ·rw[if_neg hk,ET,ET];omega
theorem RelO.some_of{v:V}{o:Option Value}(r:RelO (some v) o):∃ u,o=some u/\RelV v u:=by
 cases o with
 |none=>exact(show False from r).elim
 |some u=>exact⟨u,rfl,r⟩
theorem AD{v:V}{u:Value}(r:RelV v u):PySem.W.handedIn u=true:=by
 cases v with
 |non=>cases (show u=Value.none from r);rfl
 |bl b=>cases (show u=Value.bool b from r);rfl
 |int i=>obtain⟨t,e⟩:=(show ∃ t,u=Value.int i t from r);cases e;rfl
 |str x=>obtain⟨t,e⟩:=(show ∃ t,u=Value.str x t from r);cases e;rfl
 |byt b=>obtain⟨t,e⟩:=(show ∃ t,u=Value.bytes b t from r);cases e;rfl
 |flt b=>obtain⟨t,e⟩:=(show ∃ t,u=Value.float b t from r);cases e;rfl
 |ref a=>cases (show u=Value.ref a from r);rfl
 |ty n=>cases (show u=Value.type n from r);rfl
section
variable{P:Program}{w:World}{H H':Hp}{h h':Heap}{a C dx:Addr}{fs fs':List (Str×V)}
theorem Au(hok:HOk P w H h)(e:H a=some (.ins C dx fs)):∃ mA,ObjM h a dx C mA/\(∀ f,RelO (fs.lookup f) (mA f))/\PySem.Within mA (fs.map (·.1))/\fs.length<=1000/\H dx=some (.own a):=by
 obtain⟨d,z,ne,ob,mA,n,r,q⟩:=(show dt P w H h a (.ins C dx fs) from hok a _ e)
 exact⟨mA,⟨ob,n,ne⟩,r,q,z,d⟩
end
structure Cls(K:D5)(C:Addr):Prop where
 pg:FN K C Str.empty=true
 hd:E9 K C=true
 po:FX K C=true
 sa:Em K (.ref C) "__setattr__" = some (some (.builtin "object.__setattr__"))
theorem Cls.get{K:D5}{C:Addr}(c:Cls K C)(f:Str):FN K C f=true:=c.pg
def ft(K:D5)(C:Addr)(f:Str):Prop:=Em K (.ref C) f=some none
theorem ft.taker{K:D5}{C:Addr}{f:Str}(n:ft K C f):Hk K C f=some none:=by
 unfold Hk
 rw[show Em K (.ref C) f=some none from n]
 rfl
section
variable{X:Cx}{pins:List (Addr×Obj)}{σ:St}{H:Hp}{s:Shared}{a C dx:Addr}{fs:List (Str×V)}{f:Str}{v:V}{A:Around}{E:Value->Shared->Prop}
theorem yJ{b:Bool}{Q:Value->Shared->Prop}(I:Inv X pins σ H s)(e:H a=some (.ins C dx fs))(c:Cls X.K C)(n:ft X.K C f)(l:fs.lookup f=some v)
  (h:∀ u s',Inv X pins σ H s'->RelV v u->Q u s'):wpAny (model X.prog X.w) A (getAttr (.ref a) f b) Q E s:=by
 obtain⟨mA,O,r,_,_,_⟩:=Au I.hok e
 obtain⟨u,hu,ru⟩:=RelO.some_of (v:=v) (o:=mA f) (by rw[← l];exact r f)
 exact DD I.kIn O (c.get f) c.hd n hu (AD ru) (h u _ (I.tok _) ru)
theorem xU{y:V}{u:Value}{Q:Unit->Shared->Prop}(I:Inv X pins σ H s)(e:H a=some (.ins C dx fs))(c:Cls X.K C)(n:ft X.K C f)(hl:fs.length<1000)(ry:RelV y u)
  (h:∀ s',Inv X pins σ (upd H a (.ins C dx (putF f y fs))) s'->Q () s'):wpAny (model X.prog X.w) A (setAttr (.ref a) f u) Q E s:=by
 obtain⟨mA,O,r,wi,_,ho⟩:=Au I.hok e
 have hz:(fs.map (·.1)).length<=sizeLine:=by rw[D3,sizeLine_eq];omega
 refine CU I.kIn O c.sa c.po n.taker c.hd wi hz fun h' O' sb=>h _ ?_
 have hd:∃ o,h'.get? dx=some o:=let ⟨o,_,_,e',_⟩:=O'.ns;⟨o,e'⟩
 refine I.write (x:=a) (e:=dx) (by rw[e];exact True.intro) (.inr ho) (fun b q hb z=>(sb.2 b hb).trans z) hd ?_
 refine⟨by rw[aq O.ne];exact ho,?_,O.ne,O'.obj,_,O'.ns,fun g=>?_,fun g hg=>?_⟩
 ·have:=mQ f y fs;omega
 ·show RelO ((putF f y fs).lookup g) (if g=f then some u else mA g)
  rw[aQ]
  by_cases q:g=f
  ·rw[if_pos q,if_pos q];exact ry
  ·rw[if_neg q,if_neg q];exact r g
 ·by_cases q:g=f
  ·rw[q];exact(mV f y fs).1
  ·refine(mV f y fs).2 g (wi g fun z=>hg ?_)
   show(if g=f then some u else mA g)=none
   rw[if_neg q];exact z
theorem Inv.made(I:Inv X pins σ H s):Inv X pins σ (upd (upd H s.heap.objs.size (.own (s.heap.objs.size+1))) (s.heap.objs.size+1) (.ins C s.heap.objs.size []))
  { s with heap:=(s.heap.push Fg).push (Ft C s.heap.objs.size) }:=by
 have e1:(s.heap.push Fg).get? s.heap.objs.size=some Fg:=Heap.get?_push_size s.heap rfl
 have e2:((s.heap.push Fg).push (Ft C s.heap.objs.size)).get? (s.heap.objs.size+1)=some (Ft C s.heap.objs.size):=by
  have:=Heap.get?_push_size (s.heap.push Fg) (o:=Ft C s.heap.objs.size) rfl
  rwa[Heap.size_push]at this
 have e3:(s.heap.push Fg).Ns s.heap.objs.size (fun _=>none):=⟨Fg,#[],_,e1,rfl,(fun e he=>absurd he (by simp)),fun _=>rfl⟩
 have I1:=I.laid (a:=s.heap.objs.size) (o:=.own (s.heap.objs.size+1)) (h':=s.heap.push Fg) (t':=s.toks) (fun b u q=>Heap.get?_push_of_some _ q) (Ea _) ⟨_,e1⟩
 refine I1.laid (a:=s.heap.objs.size+1) (o:=.ins C s.heap.objs.size []) (t':=s.toks) (fun b u q=>Heap.get?_push_of_some _ q) (He (Heap.size_push _ _)) ?_
 have ne:s.heap.objs.size≠s.heap.objs.size+1:=ES (F3 _)
 refine⟨by rw[aq ne,ae],Fu _,ne,e2,fun _=>none,(Heap.Ns1.of_empty e3).at fun o q=>Heap.get?_push_of_some _ q,fun _=>True.intro,fun y hy=>absurd rfl hy⟩
theorem DV{prog:Program}{w:World}{env:Env}{e:Expr}{f:Str}{pos:Pos}{s:Shared}{Q:Value->Shared->Prop}(hb:attributeBase e f env (eval e env)=eval e env)
  (h:wpAny (model prog w) A (eval e env) (fun o s₁=>wpAny (model prog w) A (getAttr o f true) Q E s₁) E s):wpAny (model prog w) A (eval (.Attribute e f pos) env) Q E s :=
 Attribute_any_ h (by rw[arm_eval_Attribute,hb])
end
def tFld(K:D5)(ta:TE)(f:Str):TE:=fun σ H Q=>ta σ H fun x H1=>∃ a C dx fs v,x=.ref a/\H1 a=some (.ins C dx fs)/\Cls K C/\ft K C f/\fs.lookup f=some v/\Q v H1
def sFld(K:D5)(ta tv:TE)(f:Str):TS:=fun D σ H=>tv σ H fun y H1=>ta σ H1 fun x H2=>∃ a C dx fs,x=.ref a/\H2 a=some (.ins C dx fs)/\Cls K C/\ft K C f/\fs.length<1000 /\
 D.nx σ (upd H2 a (.ins C dx (putF f y fs)))
section
variable{X:Cx}{o e value:Expr}{f:Str}{pos pos' tpos:Pos}{ta tv:TE}
theorem iQ(he:PE X e ta)(hb:attributeBase e f X.env (eval e X.env)=eval e X.env):PE X (.Attribute e f pos) (tFld X.K ta f):=by
 intro pins s σ H Q I h
 refine DV hb (thn (he pins s σ H _ I h) fun u s1 ⟨x,H1,I1,rx,a,C,dx,fs,v,ex,ea,c,n,l,q⟩=>?_)
 subst ex
 obtain rfl:u=Value.ref a:=rx
 exact yJ I1 ea c n l fun u' s2 I2 ru=>⟨v,H1,I2,ru,q⟩
theorem lA(ha:PE X o ta)(hv:PE X value tv)(hs:swapsWith value (some (.Attribute o f pos')) pos.line X.env=pure false):PS X (.Assign [.Attribute o f pos'] value pos) (sFld X.K ta tv f):=by
 intro pins s σ H D I h
 refine plainObj_wpAny_Assign_Attribute (thn (hv pins s σ H _ I h) fun u s1 ⟨y,H1,I1,ry,q⟩=>thn (ha pins s1 σ H1 _ I1 q) fun ov s2 ⟨x,H2,I2,rx,a,C,dx,fs,ex,ea,c,n,l,q2⟩=>?_) hs
 subst ex
 obtain rfl:ov=Value.ref a:=rx
 exact xU I2 ea c n l ry fun s3 I3=>⟨σ,_,I3,q2⟩
end
section
variable{X:Cx}{pins:List (Addr×Obj)}{σ:St}{H:Hp}{s:Shared}{A:Around}{E:Value->Shared->Prop}{Q:Value->Shared->Prop}{c:Value}{b:Bool}
end
end L2
namespace L2
open PySem PySem.Spec PyProof.Rows
structure Room(k:Nat)(A:Around):Prop where
 hd:A.handled=none
 dp:A.depth+3*k+5<recursionLimit
 un:A.units+16*k+200<cLine
theorem Room.mono{j k:Nat}{A:Around}(r:Room k A)(h:j<=k):Room j A:=⟨r.hd,by have:=r.dp;omega,by have:=r.un;omega⟩
theorem Room.deeper{k:Nat}{A:Around}(r:Room (k+1) A)(env:Env):Room k (A.deeper env) :=
 ⟨r.hd,by have:=r.dp;show A.depth+1+3*k+5<_;omega,by have:=r.un;show A.units+3+16*k+200<_;omega⟩
theorem yr{A:Around}{C:Addr}{us:List Value}{kw:List (Str×Value)}:(A.under (.builtin "type.__call__" ⟨.ref C::us,kw⟩)).depth=A.depth+1:=by
 first | rfl | simp[Around.under,Code.weight,Code.isCreation,Code.isGuard,Code.isCaller,Code.frames,Code.isFrame,guardIds]
theorem yq{A:Around}{C:Addr}{us:List Value}{kw:List (Str×Value)}:(A.under (.builtin "type.__call__" ⟨.ref C::us,kw⟩)).units=A.units+1:=by
 first | rfl | simp[Around.under,Code.cUnits,Code.frames,Code.isFrame]
theorem Room.make{k:Nat}{A:Around}(r:Room (k+1) A)(C:Addr)(us:List Value)(kw:List (Str×Value)):Room k (A.under (.builtin "type.__call__" ⟨.ref C::us,kw⟩)) :=
 ⟨r.hd,by have:=r.dp;rw[yr];omega,by have:=r.un;rw[yq];omega⟩
theorem Room.depth{k:Nat}{A:Around}(r:Room k A):A.depth<recursionLimit:=by have:=r.dp;omega
theorem Room.units{k:Nat}{A:Around}(r:Room k A):A.units+64<cLine:=by have:=r.un;omega
def tNil:TA:=fun _ H Q=>Q [] H
def tCons(ta:TE)(tr:TA):TA:=fun σ H Q=>ta σ H fun x H1=>tr σ H1 fun xs H2=>Q (x::xs) H2
section
variable{X:Cx}{e:Expr}{es:List Expr}{te:TE}{t:TA}{pos:Pos}
theorem ah:PA X [] tNil:=fun _ _ _ _ H Q I h=>Calls.spliced_nil ⟨[],H,I,.nil,h⟩
theorem aa(ha:PE X e te)(hr:PA X es t)(hs:starEach (e::es) X.env=(false,eval e X.env)::starEach es X.env:=by rfl):PA X (e::es) (tCons te t):=by
 intro pos pins s σ H Q I h
 rw[hs]
 show wpAny _ _ (spliced ((false,eval e X.env)::backTo pos (starEach es X.env))) _ _ s
 refine Calls.spliced_cons (thn (ha pins s σ H _ I h) fun u s1 ⟨x,H1,I1,r1,q1⟩=>?_)
 exact thn (hr pos pins s1 σ H1 _ I1 q1) fun us s2 ⟨xs,H2,I2,r2,q2⟩=>⟨x::xs,H2,I2,.cons r1 r2,q2⟩
def tTup(t:TA):TE:=fun σ H Q=>t σ H fun xs H1=>xs.length<=sizeLine/\∀ p,H1 p=none->Q (.ref p) (upd H1 p (.tup xs))
def tLst(t:TA):TE:=fun σ H Q=>t σ H fun xs H1=>xs.length<=sizeLine/\∀ p,H1 p=none->Q (.ref p) (upd H1 p (.lst xs))
theorem eX{x1}(h:PA X es t):PE X (.Tuple es x1 pos) (tTup t):=by
 intro pins s σ H Q I hq
 refine wpAny_Tuple_spliced (thn (h pos pins s σ H _ I hq) fun us s1 ⟨xs,H1,I1,r,z,q⟩=>⟨by rw[← r.length];exact z,?_⟩)
 have hf:H1 s1.heap.objs.size=none:=I1.hok.fresh (Ea _)
 refine⟨.ref s1.heap.objs.size,upd H1 s1.heap.objs.size (.tup xs),I1.laid (t':=s1.toks) (fun b u e=>Heap.get?_push_of_some _ e) (Ea _) ?_,rfl,q _ hf⟩
 exact⟨z,us,r,⟨_,Heap.get?_push_size _ rfl,rfl,_,rfl⟩⟩
theorem bh(h:PA X es t):PE X (.List es pos) (tLst t):=by
 intro pins s σ H Q I hq
 refine wpAny_List_spliced (thn (h pos pins s σ H _ I hq) fun us s1 ⟨xs,H1,I1,r,z,q⟩=>⟨by rw[← r.length];exact z,?_⟩)
 have hf:H1 s1.heap.objs.size=none:=I1.hok.fresh (Ea _)
 refine⟨.ref s1.heap.objs.size,upd H1 s1.heap.objs.size (.lst xs),I1.laid (t':=s1.toks) (fun b u e=>Heap.get?_push_of_some _ e) (Ea _) ?_,rfl,q _ hf⟩
 exact⟨z,us,0,r,Heap.get?_push_size _ rfl⟩
end
abbrev Sp:=List V->Hp->VK->XK->Prop
abbrev CXT:=List Env->Hp->Shared->XK->Value->Shared->Prop
structure Env0(P:Program)(w:World)(K:D5)(mg:Str->Option Value)(base:Heap)(A:Around)(outer:List Env)(s:Shared)(H:Hp):Prop where
 frames:A.frames=some outer
 mod:Mod K mg base
 bs:∀ b o,base.get? b=some o->s.heap.get? b=some o/\H b=none
 bsz:base.objs.size<=s.heap.objs.size
 funs:s.heap.FunFrames base outer
 frf:∀ b∈frs outer,H b=none
 hok:HOk P w H s.heap
 bare:AllBare s.gens
def CE(outer:List Env)(P:Program)(w:World)(H:Hp)(s:Shared)(Q:VK)(u:Value)(s':Shared):Prop :=
 ∃ v H',s'.os=s.os/\AllBare s'.gens/\Un (frs outer) [] H H' s.heap s'.heap/\HOk P w H' s'.heap/\RelV v u/\Q v H'
def CR(CX:CXT)(outer:List Env)(P:Program)(w:World)(H:Hp)(s:Shared)(Q:VK)(E:XK)(r:Result)(s':Shared):Prop :=
 match r with
 |.ok (.ret u)=>CE outer P w H s Q u s'
 |.ok _=>False
 |.error e=>CX outer H s E e s'
structure FnOk(P:Program)(w:World)(K:D5)(mg:Str->Option Value)(base:Heap)(CX:CXT)(k:Nat)(f:Addr)(fd:FuncData)(ps:List Str)(sp:Sp):Prop where
 len:∀ vs H Q E,sp vs H Q E->vs.length=ps.length
 run:∀(A:Around)(outer:List Env)(s:Shared)(H:Hp)(args:Args)(us:List Value)(vs:List V)(Q:VK)(E:XK),Room k A->Env0 P w K mg base A outer s H->BindsTo s fd args (ps.zip us)->Vals vs us->sp vs H Q E ->
  codeAny (model P w) A (.call (.ref f) args) (CR CX outer P w H s Q E) s
theorem Env0.make{P:Program}{w:World}{K:D5}{mg:Str->Option Value}{base:Heap}{A:Around}{outer:List Env}{s:Shared}{H:Hp}(e:Env0 P w K mg base A outer s H)(C:Addr)(us:List Value)(kw:List (Str×Value)) :
  Env0 P w K mg base (A.under (.builtin "type.__call__" ⟨.ref C::us,kw⟩)) outer s H:=⟨by first | exact e.frames | (simpa[Around.under,Code.envs,Code.isFrame,pushEnvs] using e.frames),e.mod,e.bs,e.bsz,e.funs,e.frf,e.hok,e.bare⟩
section
variable{X:Cx}{pins:List (Addr×Obj)}{σ:St}{H:Hp}{s s':Shared}
theorem Inv.env0(I:Inv X pins σ H s):Env0 X.prog X.w X.K X.mg X.base X.A X.stack s H :=
 ⟨I.ok.frames,I.ok.mod,I.bs,E7 I.ok.bsz I.sz,I.stack,I.stkFree,I.hok,I.bare⟩
theorem Inv.after{Q:VK}{u:Value}(I:Inv X pins σ H s)(h:CE X.stack X.prog X.w H s Q u s'):EP X pins σ Q u s':=by
 obtain⟨v,H',os,bare,un,hok,r,q⟩:=h
 obtain⟨hh,g,d,t,os'⟩:=s'
 obtain rfl:os'=s.os:=os
 exact⟨v,H',I.call (h':=hh) (g':=g) (d':=d) (t':=t) (ch:=[]) un hok bare (fun b z=>absurd z (by simp)),r,q⟩
end
def tCall(sp:Sp)(dvs:List V)(E:XK)(t:TA):TE:=fun σ H Q=>t σ H fun vs H1=>sp (vs++dvs) H1 Q E
def tMake(C:Addr)(sp:Sp)(dvs:List V)(E:XK)(t:TA):TE:=fun σ H Q=>t σ H fun vs H1=>∀ x dx,H1 x=none->H1 dx=none->dx≠x ->
 sp (.ref x::(vs++dvs)) (upd (upd H1 dx (.own x)) x (.ins C dx [])) (fun v H2=>v=.non/\Q (.ref x) H2) E
def jY(K:D5)(fd:FuncData)(ps:List Str)(ds:List Value):Prop :=
 ∀(s:Shared)(us:List Value),K.In s.heap->(us++ds).length=ps.length->BindsTo s fd ⟨us,[]⟩ (ps.zip (us++ds))
theorem jY.all{K:D5}{fd:FuncData}{ps:List Str}(h:∀ us:List Value,us.length=ps.length->bindArgs fd ⟨us,[]⟩=pure (ps.zip us)):jY K fd ps []:=fun s us _ hl=>by
 rw[Fl]at hl ⊢
 exact .of_eq (h us hl)
def uc(CX:CXT)(X:Cx)(E:XK):Prop:=∀(pins:List (Addr×Obj))(σ:St)(H:Hp)(s:Shared)(e:Value)(s':Shared),Inv X pins σ H s->CX X.stack H s E e s'->X.xe e s'
section
variable{X:Cx}{CX:CXT}{k:Nat}{f C:Addr}{fd:FuncData}{ps:List Str}{sp:Sp}{dvs:List V}{ds:List Value}{E:XK}{x m:Str}{p pos apos:Pos}{e o:Expr}{es:List Expr}{ta:TE}{t:TA}
theorem run_fn{pins:List (Addr×Obj)}{σ:St}{H:Hp}{s:Shared}{Q:VK}{us:List Value}{vs:List V}(F:FnOk X.prog X.w X.K X.mg X.base CX k f fd ps sp)(hr:Room k X.A)(hb:jY X.K fd ps ds)(hd:Vals dvs ds)(hx:uc CX X E)
  (I:Inv X pins σ H s) (r:Vals vs us) (h:sp (vs++dvs) H Q E):wpAny (model X.prog X.w) X.A (call (.ref f) us) (EP X pins σ Q) X.xe s:=by
 have r2:Vals (vs++dvs) (us++ds):=r.append hd
 have hl:(us++ds).length=ps.length:=by rw[← r2.length];exact F.len _ _ _ _ h
 refine wpAny_call (codeAny_mono (F.run X.A X.stack s H ⟨us,[]⟩ (us++ds) (vs++dvs) Q E hr I.env0 (hb s us I.kIn hl) r2 h) fun r s' hq=>?_)
 cases r with
 |error e=>exact hx pins σ H s e s' I hq
 |ok fl =>
  cases fl with
  |ret u=>exact I.after hq
  |next=>exact False.elim hq
  |brk=>exact False.elim hq
  |cont=>exact False.elim hq
theorem aI(F:FnOk X.prog X.w X.K X.mg X.base CX k f fd ps sp)(hr:Room k X.A)(hg:Gl X x)(hm:X.mg x=some (.ref f))(hk:Ep X.K (.ref f)=true)(hb:jY X.K fd ps ds)(hd:Vals dvs ds)(hx:uc CX X E)
  (ha:PA X (e::es) t) (hdb:(x == ("__debug__" : Str))=false:=by decide) (he:starEach (e::es) X.env=(false,eval e X.env)::starEach es X.env:=by rfl) (hpl:(backTo pos (starEach es X.env)).any (·.1)=false:=by rfl) :
  PE X (.Call (.Name x p) (e::es) [] pos) (tCall sp dvs E t):=by
 intro pins s σ H Q I h
 refine wpAny_Call_Name_kw (kj I hg hm ?_ hdb)
 refine Gi (h₀:=X.base) I.ok.mod.kin hk (thn (ha pos pins s σ H _ I h) fun us s1 ⟨vs,H1,I1,r,q⟩=>⟨I1.kIn,?_⟩) he hpl
 exact run_fn F hr hb hd hx I1 r q
structure Mk(K:D5)(C f:Addr):Prop where
 makes:Gb K C=true
 init:Em K (.ref C) "__init__" = some (some (.ref f))
 fn:PySem.W.isFn K (.ref f)=true
 kp:Ep K (.ref C)=true
theorem Bo{pins:List (Addr×Obj)}{σ:St}{H:Hp}{s:Shared}{Q:VK}{us:List Value}{vs:List V}(M:Mk X.K C f)(F:FnOk X.prog X.w X.K X.mg X.base CX k f fd ps sp)(hr:Room (k+1) X.A)(hb:jY X.K fd ps ds)(hd:Vals dvs ds)
  (hx:uc CX X E) (I:Inv X pins σ H s) (r:Vals vs us)
  (h:∀ x dx,H x=none->H dx=none->dx≠x->sp (.ref x::(vs++dvs)) (upd (upd H dx (.own x)) x (.ins C dx [])) (fun v H2=>v=.non/\Q (.ref x) H2) E) :
  wpAny (model X.prog X.w) X.A (call (.ref C) us) (EP X pins σ Q) X.xe s:=by
 have hq:=h (s.heap.objs.size+1) s.heap.objs.size (I.hok.fresh (Fv _)) (I.hok.fresh (Ea _)) (ES (F3 _))
 have I2:=Inv.made (C:=C) I
 have r2:Vals (V.ref (s.heap.objs.size+1)::(vs++dvs)) (Value.ref (s.heap.objs.size+1)::(us++ds)):=.cons rfl (r.append hd)
 have hl:(Value.ref (s.heap.objs.size+1)::us++ds).length=ps.length:=by
  have e:=r2.length
  rw[F.len _ _ _ _ hq]at e
  exact e.symm
 refine wpAny_call (xy (f:=f) I.kIn M.makes M.init (beq_iff_eq.mp M.fn) (codeAny_mono (F.run _ X.stack _ _ ⟨Value.ref (s.heap.objs.size+1)::us,[]⟩ (Value.ref (s.heap.objs.size+1)::(us++ds)) _ _ E (hr.make C us [])
  (I2.env0.make C us []) (hb _ (Value.ref (s.heap.objs.size+1)::us) I2.kIn hl) r2 hq) fun r s' hq'=>?_))
 cases r with
 |error e=>exact hx pins σ _ _ e s' I2 hq'
 |ok fl =>
  cases fl with
  |ret u =>
   obtain⟨v,H',I3,rv,ev,q3⟩:=I2.after hq'
   subst ev
   exact⟨rv,⟨V.ref (s.heap.objs.size+1),H',I3,rfl,q3⟩⟩
  |next=>exact False.elim hq'
  |brk=>exact False.elim hq'
  |cont=>exact False.elim hq'
theorem qk(M:Mk X.K C f)(F:FnOk X.prog X.w X.K X.mg X.base CX k f fd ps sp)(hr:Room (k+1) X.A)(hg:Gl X x)(hm:X.mg x=some (.ref C))(hb:jY X.K fd ps ds)(hd:Vals dvs ds)(hx:uc CX X E)
  (ha:PA X (e::es) t) (hdb:(x == ("__debug__" : Str))=false:=by decide) (he:starEach (e::es) X.env=(false,eval e X.env)::starEach es X.env:=by rfl) (hpl:(backTo pos (starEach es X.env)).any (·.1)=false:=by rfl) :
  PE X (.Call (.Name x p) (e::es) [] pos) (tMake C sp dvs E t):=by
 intro pins s σ H Q I h
 refine wpAny_Call_Name_kw (kj I hg hm ?_ hdb)
 refine Gi (h₀:=X.base) I.ok.mod.kin M.kp (thn (ha pos pins s σ H _ I h) fun us s1 ⟨vs,H1,I1,r,q⟩=>⟨I1.kIn,?_⟩) he hpl
 exact Bo M F hr hb hd hx I1 r q
end
section
variable{X:Cx}{CX:CXT}{k:Nat}{f C:Addr}{fd:FuncData}{ps ks:List Str}{sp:Sp}{E:XK}{x m:Str}{p pos apos kpos:Pos}{e o:Expr}{es:List Expr}{kws:List Keyword}{te ta:TE}{t tk:TA}{nm:Option Str}
variable{g:List Value->List Value->List Value}{gV:List V->List V->List V}
end
structure aY(N P:List Str)(sc:Scope):Prop where
 kind:sc.kind=.function
 co:sc.isCoroutine=false
 gen:sc.isGenerator=false
 nd:N.Nodup
 pre:N.take P.length=P
 par:∀ x∈P,sc.names.lookup x=some .local∨sc.names.lookup x=some .cell
 nofree:∀ y∈sc.names,y.2≠.free
theorem tL{kindOf:Str->Option NameKind}{x:Str}:∀{binds:List (Str×Value)}{m:Str->Option Value},(∀ v,(x,v)∉binds)->bindL kindOf binds m x=m x
 |[],_,_=>rfl
 | (n,v)::r,m,h=>by
  unfold bindL
  rw[tL fun w hw=>h w (Ef _ hw)]
  split
  ·have:x≠n:=by rintro rfl;exact h v Eh
   simp[this]
  ·rfl
theorem tN{kindOf:Str->Option NameKind}{x:Str}:∀{binds:List (Str×Value)}{m:Str->Option Value},(∀ v,(x,v)∉binds)->bindC kindOf binds m x=m x
 |[],_,_=>rfl
 | (n,v)::r,m,h=>by
  unfold bindC
  rw[tN fun w hw=>h w (Ef _ hw)]
  split
  ·rfl
  ·have:x≠n:=by rintro rfl;exact h v Eh
   simp[this]
theorem tM{kindOf:Str->Option NameKind}{x:Str}{v:Value}:∀{P:List Str}{vs:List Value}{i:Nat}{m:Str->Option Value},P.Nodup->P[i]?=some x->vs[i]?=some v->kindOf x=some .local ->
  bindL kindOf (P.zip vs) m x=some v
 |[],_,_,_,_,h,_,_=>by simp at h
 |_::_,[],_,_,_,_,h,_=>by simp at h
 |p::P,w::vs,0,m,nd,h1,h2,hk=>by
  simp at h1 h2;subst h1;subst h2
  show bindL kindOf ((p,w)::P.zip vs) m p=_
  unfold bindL
  rw[tL fun v hv=>(Ek.mp nd).1 (Ho hv).1,if_pos hk]
  simp
 |p::P,w::vs,i+1,m,nd,h1,h2,hk=>by
  show bindL kindOf ((p,w)::P.zip vs) m x=_
  unfold bindL
  exact tM (i:=i) (Ek.mp nd).2 (by simpa using h1) (by simpa using h2) hk
theorem tO{kindOf:Str->Option NameKind}{x:Str}{v:Value}:∀{P:List Str}{vs:List Value}{i:Nat}{m:Str->Option Value},P.Nodup->P[i]?=some x->vs[i]?=some v->kindOf x≠some .local ->
  bindC kindOf (P.zip vs) m x=some v
 |[],_,_,_,_,h,_,_=>by simp at h
 |_::_,[],_,_,_,_,h,_=>by simp at h
 |p::P,w::vs,0,m,nd,h1,h2,hk=>by
  simp at h1 h2;subst h1;subst h2
  show bindC kindOf ((p,w)::P.zip vs) m p=_
  unfold bindC
  rw[tN fun v hv=>(Ek.mp nd).1 (Ho hv).1,if_neg hk]
  simp
 |p::P,w::vs,i+1,m,nd,h1,h2,hk=>by
  show bindC kindOf ((p,w)::P.zip vs) m x=_
  unfold bindC
  exact tO (i:=i) (Ek.mp nd).2 (by simpa using h1) (by simpa using h2) hk
def pK(N:List Str)(vs:List V):St:=vs.map some++GW (N.length-vs.length) none
def cxOf(CX:CXT)(P:Program)(w:World)(K:D5)(mg:Str->Option Value)(base:Heap)(N:List Str)(qual:Str)(scope:Scope)(f:Addr)(cd:Value)(A:Around)(outer:List Env)(s:Shared)(H:Hp)(E:XK):Cx where
 prog:=P
 w:=w
 K:=K
 mg:=mg
 base:=base
 A:=A.deeper (envOfC qual scope s.heap.objs.size f cd)
 N:=N
 s₀:=s
 H₀:=H
 env:=envOfC qual scope s.heap.objs.size f cd
 outer:=outer
 stack:=envOfC qual scope s.heap.objs.size f cd::outer
 ex:=[]
 calm:=true
 fn:=fun _=>true
 pn:=[]
 xe:=fun e s'=>wpAny (model P w) (A.deeper (envOfC qual scope s.heap.objs.size f cd)) (leaving (envOfC qual scope s.heap.objs.size f cd) e) (fun _ s''=>CX outer H s E e s'') (fun e' s''=>CX outer H s E e' s'') s'
theorem xI{sc:Scope}{n:Nat}{x:Str}(h:sc.names.lookup x=some .cell):∃ c,(cellsFrom n sc.names []).lookup x=some c:=by
 have q:=PySem.W.cellsFrom_some sc.names n [] (.inl h)
 exact Gs.mp q
theorem Ap{CX:CXT}{P:Program}{w:World}{K:D5}{mg:Str->Option Value}{base:Heap}{N ps:List Str}{qual:Str}{scope:Scope}{f:Addr}{cd:Value}{A:Around}{outer:List Env}{s s1:Shared}{H:Hp}{E:XK}{us:List Value}{vs:List V}
  (S:aY N ps scope) (hd:A.handled=none) (e0:Env0 P w K mg base A outer s H) (hl:vs.length=ps.length) (r:Vals vs us)
  (x:InCallC s s.heap.objs.size (bindL (envOfC qual scope s.heap.objs.size f cd).kindOf (ps.zip us) fun _=>none) (cellsFrom (s.heap.objs.size+1) scope.names []) (bindC (envOfC qual scope s.heap.objs.size f cd).kindOf (ps.zip us) fun _=>none) s1) :
  Inv (cxOf CX P w K mg base N qual scope f cd A outer s H E) [] (pK N vs) H s1:=by
 have hpl:ps.length<=N.length:=by have:=congrArg List.length S.pre;rw[Eg]at this;omega
 obtain⟨h1,tk,rfl,hk⟩:=x.done
 have noA:∀ b:Addr,b∉(cxOf CX P w K mg base N qual scope f cd A outer s H E).ex:=fun b z=>absurd (show b∈([]:List Addr) from z) (by simp)
 refine⟨⟨e0.mod,S.kind,rfl,rfl,Ea _,fun y z c h1 h2=>?_,fun y hy=>?_,fun y c _ h=>?_,fun _=>hd,Around.frames_deeper e0.frames,.inr ⟨rfl,rfl⟩,fun b z=>absurd z (noA b),e0.bs,e0.bsz,fun b _ _=>noA b,fun b z=>absurd z (noA b),e0.funs,e0.frf⟩,
  rfl,e0.bare,Un.kept hk,⟨_,x.toInCall.ns,fun i y v h1 h2 h3=>?_⟩,fun y c h=>⟨_,x.cell y c h⟩,e0.hok.fresh (Ea _),fun y c h=>?_,fun p hp=>absurd (show p∈([]:List (Addr×Obj)) from hp) (by simp),e0.hok.kept hk,?_⟩
 ·exact name_of_addr x.apart (Fo h1) (Fo h2)
 ·have hy:scope.names.lookup y=some .cell∨scope.names.lookup y=some .free:=hy
  rcases hy with hy | hy
  ·exact xI hy
  ·exact absurd rfl (S.nofree _ (Fo hy))
 ·exact ER (x.above y c (Fo h))
 ·have hi:i<vs.length:=by
   unfold pK at h2
   by_cases hi:i<vs.length
   ·exact hi
   ·rw[D6 (by simpa using hi)]at h2
    rw[GC]at h2
    split at h2<;>cases h2
  have ha:vs[i]?=some v:=by
   unfold pK at h2
   rw[D8 (by simpa using hi),D9]at h2
   cases e:vs[i]? with
   |none=>rw[e]at h2;cases h2
   |some a=>rw[e]at h2;cases h2;rfl
  obtain⟨u,hu,rv⟩:=r.get ha
  have hp:ps[i]?=some y:=by
   rw[← S.pre,List.getElem?_take_of_lt (by omega)];exact h1
  have ndP:ps.Nodup:=by rw[← S.pre];exact S.nd.sublist (List.take_sublist _ _)
  refine⟨u,rv,?_⟩
  rcases S.par y (D4 hp)with k | k
  ·exact .inl ⟨k,tM ndP hp hu k⟩
  ·obtain⟨c,e⟩:=xI (n:=s.heap.objs.size+1) k
   refine .inr ⟨.inl k,c,e,?_⟩
   have q:=x.cell y c e
   rw[tO ndP hp hu (by show scope.names.lookup y≠_;rw[k];decide)]at q
   exact q
 ·exact e0.hok.fresh (ER (x.above y c (Fo h)))
 ·unfold pK
  show _=N.length
  rw[D2,D3,List.length_replicate]
  omega
theorem fn_of{CX:CXT}{P:Program}{w:World}{K:D5}{mg:Str->Option Value}{base:Heap}{k:Nat}{f:Addr}{name qual:Str}{params:Arguments}{body:List Stmt}{scope:Scope}{dV kV doc pm cdv ct oc:Value}{an od:Option Addr}
  {osl:Array (Option Value)} {N ps:List Str} {sp:Sp} (lk:K.lookup f=some ⟨oc,od,.func (EH name qual params body scope dV kV doc pm an cdv ct),osl⟩) (hcd:Ez K cdv qual=true) (S:aY N ps scope)
  (len:∀ vs H Q E,sp vs H Q E->vs.length=ps.length)
  (hbody:∀(A:Around)(outer:List Env)(s:Shared)(H:Hp)(vs:List V)(Q:VK)(E:XK),Room k (A.deeper (envOfC qual scope s.heap.objs.size f cdv))->sp vs H Q E ->
   ∃ t,PSs (cxOf CX P w K mg base N qual scope f cdv A outer s H E) body t/\t { nx:=fun _ H'=>Q .non H',rt:=Q } (pK N vs) H) :
  FnOk P w K mg base CX (k+1) f (EH name qual params body scope dV kV doc pm an cdv ct) ps sp:=by
 refine⟨len,fun A outer s H args us vs Q E hr e0 hb r hsp=>?_⟩
 have hl:=len _ _ _ _ hsp
 have KX:K.In s.heap:=e0.mod.kin.keeps fun b o e=>(e0.bs b o e).1
 have lim:s.heap.NoLimit:=e0.mod.nolimit.keeps fun b o e=>(e0.bs b o e).1
 have hkind:∀ y∈ps.zip us,scope.names.lookup y.1=some .local∨(scope.names.lookup y.1=some .cell/\((cellsFrom (s.heap.objs.size+1) scope.names []).lookup y.1).isSome=true):=fun⟨n,v⟩ hy=>by
  rcases S.par n (Ho hy).1 with q | q
  ·exact .inl q
  ·exact .inr ⟨q,PySem.W.cellsFrom_some _ _ _ (.inl q)⟩
 refine codeAny_call_function hr.depth (KX _ _ lk) rfl S.co S.gen rfl (PySem.W.codeRec_of KX hcd) (hb _ _ _ _ ?_)
 refine wpAny_newFunctionEnv_cells S.kind hkind fun env he s1 x=>?_
 subst he
 refine⟨lim.keeps x.toInCall.keep,codeAny_func ?_⟩
 obtain⟨t,ht,hq⟩:=hbody A outer s H vs Q E (hr.deeper _) hsp
 have I:Inv (cxOf CX P w K mg base N qual scope f cdv A outer s H E) [] (pK N vs) H s1:=Ap S hr.hd e0 hl r x
 refine wpAny_mono (ht [] s1 (pK N vs) H _ I hq) (fun fl s' hs=>?_) fun e s' hs=>hs
 have fin:∀{σ':St}{H':Hp}{v:V}{u:Value},Inv (cxOf CX P w K mg base N qual scope f cdv A outer s H E) [] σ' H' s'->RelV v u->Q v H'->CE outer P w H s Q u s' :=
  fun{σ' H' v u} J rv q=>⟨v,H',J.os,J.bare,J.base,J.hok,rv,q⟩
 cases fl with
 |ret u =>
  obtain⟨v,σ',H',J,rv,q⟩:=hs
  exact fin J rv q
 |next =>
  obtain⟨σ',H',J,q⟩:=hs
  exact fin (v:=V.non) (u:=Value.none) J rfl q
 |brk =>
  obtain⟨_,_,_,q⟩:=hs
  exact False.elim q
 |cont =>
  obtain⟨_,_,_,q⟩:=hs
  exact False.elim q
end L2
namespace L2
open PySem PySem.Spec PyProof.Rows
section
variable{X:Cx}{x:Str}{p pos:Pos}{e:Expr}{es:List Expr}{t:TA}{id T:String}{r:List V->Hp->VK->Prop}
def tCB(r:List V->Hp->VK->Prop)(t:TA):TE:=fun σ H Q=>t σ H fun vs H1=>r vs H1 Q
theorem av(hc:og X (.builtin id) r)(hg:Gl X x)(hm:X.mg x=none)(hv:bootBuiltins x=some (.builtin id))(ha:PA X (e::es) t) (hn:x≠"__name__":=by decide) (hdb:(x == ("__debug__" : Str))=false:=by decide)
  (he:starEach (e::es) X.env=(false,eval e X.env)::starEach es X.env:=by rfl) (hpl:(backTo pos (starEach es X.env)).any (·.1)=false:=by rfl):PE X (.Call (.Name x p) (e::es) [] pos) (tCB r t):=by
 intro pins s σ H Q I h
 refine wpAny_Call_Name_kw (o8 I hg hm hv ?_ hn hdb)
 exact PyProof.Rows.callWith_builtin1 (thn (ha pos pins s σ H _ I h) fun us s1 ⟨vs,H1,I1,r1,q1⟩=>hc pins s1 σ H1 vs us Q I1 r1 q1) he hpl
theorem gF(hc:og X (.type T) r)(hg:Gl X x)(hm:X.mg x=none)(hv:bootBuiltins x=some (.type T))(ha:PA X (e::es) t) (hn:x≠"__name__":=by decide) (hdb:(x == ("__debug__" : Str))=false:=by decide)
  (he:starEach (e::es) X.env=(false,eval e X.env)::starEach es X.env:=by rfl) (hpl:(backTo pos (starEach es X.env)).any (·.1)=false:=by rfl):PE X (.Call (.Name x p) (e::es) [] pos) (tCB r t):=by
 intro pins s σ H Q I h
 refine wpAny_Call_Name_kw (o8 I hg hm hv ?_ hn hdb)
 exact PyProof.Rows.callWith_type1 (thn (ha pos pins s σ H _ I h) fun us s1 ⟨vs,H1,I1,r1,q1⟩=>hc pins s1 σ H1 vs us Q I1 r1 q1) he hpl
end
end L2
namespace HT
open PySem PyProof.Rows
section
open PySem.SeqAt
open PySem.AutoSeq1 (wpAny_loadPart')
open PySem.MeetsSeq PySem.MeetsSeq2 PySem.MeetsSeq3
end
section
variable{prog:Program}{w:World}{A:Around}{E:Value->Shared->Prop}{s:Shared}
def sIx(n d:Nat):Option Int->Nat
 |none=>d
 |some v=>if v<0 then(v+(n:Int)).toNat else min v.toNat n
theorem sIx_nat(n d k:Nat):sIx n d (some (k:Int))=min k n:=by
 show(if(k:Int)<0 then((k:Int)+(n:Int)).toNat else min (k:Int).toNat n)=min k n
 rw[if_neg (by omega),EN]
end
end HT
namespace L2
open PySem PySem.Spec PyProof.Rows
abbrev TO:=St->Hp->(Option Int->Hp->Prop)->Prop
def PO(X:Cx)(e:Option Expr)(t:TO):Prop :=
 ∀(pins:List (Addr×Obj))(s:Shared)(σ:St)(H:Hp)(Q:Option Int->Hp->Prop),Inv X pins σ H s->t σ H Q ->
  wpAny (model X.prog X.w) X.A (evalPart e X.env) (fun u s'=>∃ o H',Inv X pins σ H' s'/\IsPart u o/\Q o H') X.xe s
def CK:TO:=fun _ H Q=>Q none H
def tPart(t:TE):TO:=fun σ H Q=>t σ H fun x H1=>∃ i,x=.int i/\Q (some i) H1
section
variable{X:Cx}{e:Expr}{te:TE}{lo hi:Option Expr}{tl th:TO}{pos p2:Pos}
theorem cQ:PO X none CK:=by
 intro pins s σ H Q I h
 rw[evalPart_none]
 exact wpAny_pure ⟨none,H,I,.none,h⟩
theorem bB(h:PE X e te):PO X (some e) (tPart te):=by
 intro pins s σ H Q I hw
 rw[evalPart_some]
 refine thn (h pins s σ H _ I hw) fun u s1 ⟨x,H1,I1,r1,q1⟩=>?_
 obtain⟨i,rfl,q⟩:=q1
 obtain⟨t,rfl⟩:=r1
 exact⟨some i,H1,I1,.int i t,q⟩
def SlR(X:Cx)(r:V->Option Int->Option Int->Hp->VK->Prop):Prop :=
 ∀(pins:List (Addr×Obj))(s:Shared)(σ:St)(H:Hp)(x:V)(v vl vu:Value)(lo hi:Option Int)(sl:Addr)(Q:VK),Inv X pins σ H s->RelV x v->s.heap.IsSliceOf sl vl vu .none->IsPart vl lo->IsPart vu hi->r x lo hi H Q ->
  ∃ T id,typeLookup (.type T) "__getitem__" = pure (some (.builtin id))/\s.TypeIs v T/\wpAny (model X.prog X.w) X.A (getItem v (.ref sl)) (EP X pins σ Q) X.xe s
def tSl(r:V->Option Int->Option Int->Hp->VK->Prop)(te:TE)(tl th:TO):TE:=fun σ H Q=>te σ H fun x H1=>tl σ H1 fun l H2=>th σ H2 fun u H3=>r x l u H3 Q
theorem bw{r:V->Option Int->Option Int->Hp->VK->Prop}(hr:SlR X r)(he:PE X e te)(hl:PO X lo tl)(hu:PO X hi th):PE X (.Subscript e (.Slice lo hi none p2) pos) (tSl r te tl th):=by
 intro pins s σ H Q I h
 refine Subscript_ (thn (he pins s σ H _ I h) fun v s1 ⟨x,H1,I1,r1,q1⟩=>?_)
 refine wpAny_Slice (thn (hl pins s1 σ H1 _ I1 q1) fun vl s2 ⟨l,H2,I2,pl,q2⟩=>thn (hu pins s2 σ H2 _ I2 q2) fun vu s3 ⟨u,H3,I3,pu,q3⟩=>?_)
 rw[evalPart_none]
 refine wpAny_pure ?_
 have I4:Inv X pins σ H3 { s3 with heap:=s3.heap.push { cls:=.type "slice",data:=.fields #[vl,vu,.none] } }:=I3.kept (t':=s3.toks) fun b ob q=>Heap.get?_push_of_some _ q
 obtain⟨T,id,hT,ht,hg⟩:=hr pins { s3 with heap:=s3.heap.push { cls:=.type "slice",data:=.fields #[vl,vu,.none] } } σ H3 x v vl vu l u s3.heap.objs.size Q I4 r1 (Heap.IsSliceOf.new ..) pl pu q3
 show wpAny (model X.prog X.w) X.A (subscriptTail e (.Slice lo hi none p2) v (.ref s3.heap.objs.size)) (EP X pins σ Q) X.xe { s3 with heap:=s3.heap.push { cls:=.type "slice",data:=.fields #[vl,vu,.none] } }
 exact tail_any (ops:=[.ref s3.heap.objs.size,v]) ht hT hg (by with_unfolding_all rfl)
def cutV(xs:List V)(lo hi:Option Int):List V:=(xs.drop (HT.sIx xs.length 0 lo)).take (HT.sIx xs.length xs.length hi-HT.sIx xs.length 0 lo)
theorem wd(xs:List V)(lo hi:Option Int):(cutV xs lo hi).length<=xs.length:=by
 unfold cutV
 rw[Eg,Eu]
 omega
end
end L2
namespace L2
open PySem PySem.Spec PyProof.Rows
def ixN(n:Nat)(i:Int):Option Nat:=if 0<=i then(if i<n then some i.toNat else none) else if -(n:Int)<=i then some (i+n).toNat else none
def atI{α:Type}(xs:List α)(i:Int):Option α:=(ixN xs.length i).bind fun j=>xs[j]?
theorem vP{n:Nat}{i:Int}{j:Nat}(h:ixN n i=some j):seqIndex? i n=some j/\j<n/\-(n:Int)<=i/\i<n:=by
 unfold ixN at h
 by_cases h0:0<=i
 ·rw[if_pos h0]at h
  by_cases h1:i<n
  ·rw[if_pos h1]at h
   have e:i.toNat=j:=Er h
   exact⟨by rw[seqIndex_of h0 h1,e],by omega,by omega,h1⟩
  ·rw[if_neg h1]at h;cases h
 ·rw[if_neg h0]at h
  by_cases h1 : -(n:Int)<=i
  ·rw[if_pos h1]at h
   have e:(i+n).toNat=j:=Er h
   exact⟨by rw[seqIndex_neg (by omega) h1,e],by omega,h1,by omega⟩
  ·rw[if_neg h1]at h;cases h
theorem A8{α:Type}{xs:List α}{i:Int}{v:α}(h:atI xs i=some v):∃ j,seqIndex? i xs.length=some j/\xs[j]?=some v/\j<xs.length/\-(xs.length:Int)<=i/\i<xs.length:=by
 unfold atI at h
 cases e:ixN xs.length i with
 |none=>rw[e]at h;cases h
 |some j =>
  rw[e]at h
  obtain⟨h1,h2,h3,h4⟩:=vP e
  exact⟨j,h1,h,h2,h3,h4⟩
theorem aJ{α:Type}{xs:List α}{j:Nat}{v:α}(h:xs[j]?=some v):atI xs (j:Int)=some v:=by
 have hj:j<xs.length:=(DZ.mp h).1
 have e:ixN xs.length (j:Int)=some j:=by
  unfold ixN
  rw[if_pos (by omega),if_pos (by omega)];simp
 unfold atI;rw[e];exact h
def DY(b:Expr):Prop:=∀ o i,subscripted b false o i=operate [o,i] (getItem o i)
def IxR(X:Cx)(r:R2):Prop :=
 ∀(value slice:Expr)(pins:List (Addr×Obj))(s:Shared)(σ:St)(H:Hp)(x y:V)(v u:Value)(Q:VK),Inv X pins σ H s->RelV x v->RelV y u->r x y H Q ->
  subscripted slice false v u=operate [v,u] (getItem v u)->wpAny (model X.prog X.w) X.A (subscriptTail value slice v u) (EP X pins σ Q) X.xe s
def MtR(X:Cx)(id:String)(r:V->List V->Hp->VK->Prop):Prop :=
 ∀(pins:List (Addr×Obj))(s:Shared)(σ:St)(H:Hp)(x:V)(xs:List V)(v:Value)(us:List Value)(Q:VK),Inv X pins σ H s->RelV x v->Vals xs us->r x xs H Q ->
  wpAny (model X.prog X.w) X.A (call (.builtin id) (v::us)) (EP X pins σ Q) X.xe s
section
variable{X:Cx}{a b:Expr}{ta tb:TE}{pos:Pos}
theorem aN{r:R2}(hr:IxR X r)(ha:PE X a ta)(hb:PE X b tb)(hs:DY b):PE X (.Subscript a b pos) (tOp r ta tb):=by
 intro pins s σ H Q I h
 exact Subscript_ (binT ha hb I h fun v u s2 x y H2 I2 rx ry q=>hr a b pins s2 σ H2 x y v u Q I2 rx ry q (hs _ _))
def rIxL(K:D5):R2:=fun x y H Q=>∃ p xs i v,x=.ref p/\y=.int i/\SqL K H p xs/\atI xs i=some v/\Q v H
def rIxT(K:D5):R2:=fun x y H Q=>∃ p xs i v,x=.ref p/\y=.int i/\SqT K H p xs/\atI xs i=some v/\Q v H
theorem aE:IxR X (rIxL X.K):=by
 intro value slice pins s σ H x y v u Q I rx ry h hs
 obtain⟨p,xs,i,z,rfl,rfl,hq,he,q⟩:=h
 cases rx
 obtain⟨t,rfl⟩:=ry
 obtain⟨its,r,pl,hz⟩:=I.list hq
 obtain⟨j,h1,h2,h3,h4,h5⟩:=A8 he
 obtain⟨w,ew,rw'⟩:=r.get h2
 have hl:=r.length
 have hn:=sM
 have fin:EP X pins σ Q w s:=⟨z,H,I,rw',q⟩
 by_cases h0:0<=i
 ·have hj:i.toNat=j:=by
   rw[seqIndex_of h0 h5]at h1
   exact Er h1
  exact item_listR pl.isList h0 (by omega) (by rw[hj];simpa using ew) fin hs
 ·have hj:(i+(its.toArray.size:Int)).toNat=j:=by
   rw[seqIndex_neg (by omega) h4]at h1
   rw[Et,← hl]
   exact Er h1
  exact subscriptTail_builtinR (x:=w) pl.isList.typeIs slot_list_getitem.lookup
   (wpAny_getItem_list_neg (Q:=fun r s'=>r=w/\EP X pins σ Q r s') pl.isList (by omega) (by rw[Et]<;>omega) (by omega) (by rw[hj];simpa using ew) ⟨rfl,fin⟩) hs
theorem bg:IxR X (rIxT X.K):=by
 intro value slice pins s σ H x y v u Q I rx ry h hs
 obtain⟨p,xs,i,z,rfl,rfl,hq,he,q⟩:=h
 cases rx
 obtain⟨t,rfl⟩:=ry
 obtain⟨its,r,pl,hz⟩:=I.tuple hq
 obtain⟨j,h1,h2,h3,h4,h5⟩:=A8 he
 obtain⟨w,ew,rw'⟩:=r.get h2
 have hl:=r.length
 have hn:=sM
 have fin:EP X pins σ Q w s:=⟨z,H,I,rw',q⟩
 exact subscriptTail_builtinR (x:=w) pl.typeIs slot_tuple_getitem.lookup
  (getItem_tuple (j:=j) (Q:=fun r s'=>r=w/\EP X pins σ Q r s') pl (by omega) (by omega) (by rw[Et,← hl];exact h1) (by simpa using ew) ⟨rfl,fin⟩) hs
theorem yp(its:List Value)(n j:Nat)(u:Value):Obj.mapSeq (·.setIfInBounds j u) { cls:=.type "list",data:=.seq its.toArray n }={ cls:=.type "list",data:=.seq (its.set j u).toArray n }:=by
 simp[Obj.mapSeq]
theorem Inv.lst{pins:List (Addr×Obj)}{σ:St}{H:Hp}{s:Shared}{p:Addr}{xs:List V}(I:Inv X pins σ H s)(h:H p=some (.lst xs)) :
  ∃(its:List Value)(n:Nat),Vals xs its/\s.heap.get? p=some { cls:=.type "list",data:=.seq its.toArray n }/\xs.length<=sizeLine:=by
 obtain⟨z,its,n,r,e⟩:=I.hok p _ h
 exact⟨its,n,r,e,z⟩
theorem Inv.lstUpd{pins:List (Addr×Obj)}{σ:St}{H:Hp}{s:Shared}{p:Addr}{xs ys:List V}{its its':List Value}{n n':Nat}{f:Obj->Obj}(I:Inv X pins σ H s)(h:H p=some (.lst xs))
  (ho:s.heap.get? p=some { cls:=.type "list",data:=.seq its.toArray n }) (hf:f { cls:=.type "list",data:=.seq its.toArray n }={ cls:=.type "list",data:=.seq its'.toArray n' }) (r:Vals ys its') (hz:ys.length<=sizeLine) (t:Nat) :
  Inv X pins σ (upd H p (.lst ys)) { s with heap:=s.heap.update p f,toks:=t }:=by
 have e:(s.heap.update p f).get? p=some { cls:=.type "list",data:=.seq its'.toArray n' }:=by
  rw[Heap.get?_update_self f ho (by rw[hf]<;>rfl),hf]
 refine I.write (x:=p) (e:=p) (by rw[h];trivial) (.inl rfl) (fun b u hb q=>(Heap.get?_update_other _ _ (Ne.symm hb)).trans q) ⟨_,e⟩ ?_
 exact⟨hz,its',n',r,e⟩
def rSetL:V->V->V->Hp->(Hp->Prop)->Prop:=fun o i v H Q=>∃ p xs k j,o=.ref p/\i=.int k/\H p=some (.lst xs)/\ixN xs.length k=some j/\Q (upd H p (.lst (xs.set j v)))
theorem dU:PSet X rSetL:=by
 intro pins s σ H o i v ov iv u Q I ro ri rv h
 obtain⟨p,xs,k,j,rfl,rfl,hp,hj,q⟩:=h
 cases ro
 obtain⟨t,rfl⟩:=ri
 obtain⟨its,n,r,ho,hz⟩:=I.lst hp
 obtain⟨h1,h2,h3,h4⟩:=vP hj
 have hl:=r.length
 have hn:=sM
 have I':Inv X pins σ (upd H p (.lst (xs.set j v))) { s with heap:=s.heap.update p (Obj.mapSeq (·.setIfInBounds j u)) } :=
  I.lstUpd hp ho (yp its n j u) (r.set rv j) (by rw[EF];exact hz) s.toks
 by_cases h0:0<=k
 ·have hk:k.toNat=j:=by
   rw[seqIndex_of h0 h4]at h1
   exact Er h1
  exact PySem.W.ki_setAt ho h0 (by omega) (by rw[Et,← hl];exact h4) (by rw[hk];exact⟨_,I',q⟩)
 ·have hk:(k+(its.toArray.size:Int)).toNat=j:=by
   rw[seqIndex_neg (by omega) h3]at h1
   rw[Et,← hl]
   exact Er h1
  exact PySem.W.ki_setBack ho (by omega) (by rw[Et,← hl];exact h3) (by omega) (by rw[hk];exact⟨_,I',q⟩)
theorem rQ(lo hi:Option Int)(n:Nat):(sliceBounds lo hi none n).1=((HT.sIx n 0 lo:Nat):Int)/\(sliceBounds lo hi none n).2.1=((HT.sIx n n hi:Nat):Int)/\(sliceBounds lo hi none n).2.2=1:=by
 refine⟨?_,?_,rfl⟩
 ·cases lo with
  |none=>simp[sliceBounds,HT.sIx]
  |some i =>
   simp only[sliceBounds,HT.sIx,Option.getD_none,show(1:Int) > 0 by decide,if_true]
   by_cases h:i<0
   ·simp only[h,if_true]<;>omega
   ·simp only[h,if_false]<;>omega
 ·cases hi with
  |none=>simp[sliceBounds,HT.sIx]
  |some i =>
   simp only[sliceBounds,HT.sIx,Option.getD_none,show(1:Int) > 0 by decide,if_true]
   by_cases h:i<0
   ·simp only[h,if_true]<;>omega
   ·simp only[h,if_false]<;>omega
theorem pT(its:List Value)(lo hi:Option Int):slicePick its.toArray lo hi none=((its.drop (HT.sIx its.length 0 lo)).take (HT.sIx its.length its.length hi-HT.sIx its.length 0 lo)).toArray:=by
 obtain⟨h1,h2,h3⟩:=rQ lo hi its.toArray.size
 unfold slicePick
 rw[h1,h2,h3]
 simp only[sliceRange_one,pick_run,Et]<;>rfl
def rSlL(K:D5):V->Option Int->Option Int->Hp->VK->Prop:=fun x lo hi H Q=>∃ a xs,x=.ref a/\SqL K H a xs/\∀ p,H p=none->Q (.ref p) (upd H p (.lst (cutV xs lo hi)))
theorem bP:SlR X (rSlL X.K):=by
 intro pins s σ H x v vl vu lo hi sl Q I rx hs pl pu h
 obtain⟨a,xs,rfl,hx,q⟩:=h
 cases rx
 obtain⟨its,r,ht,hz⟩:=I.list hx
 have hlen:=r.length
 refine⟨"list",_,slot_list_getitem.lookup,ht.isList.typeIs,?_⟩
 refine wpAny_getItem_list_slice ht.isList hs pl pu .none (by simp) ?_ (by rw[Et]<;>omega)
 rw[pT,← hlen]
 refine⟨.ref s.heap.objs.size,_,I.laid (t':=s.toks) (o:=.lst (cutV xs lo hi)) (fun b ob q=>Heap.get?_push_of_some _ q) (Ea _) ?_,rfl,q _ (I.hok.fresh (Ea _))⟩
 exact⟨E7 (wd xs lo hi) hz,_,0,(r.drop (HT.sIx xs.length 0 lo)).take (HT.sIx xs.length xs.length hi-HT.sIx xs.length 0 lo),Heap.get?_push_size _ rfl⟩
def sX:V->Bool
 |.non=>true
 |.bl _=>true
 |.int _=>true
 |.str _=>true
 |_=>false
def eqV:V->V->Bool
 |.non,.non=>true
 |.bl a,.bl b=>a == b
 |.bl a,.int b=>(if a then 1 else 0) == b
 |.int a,.bl b=>a == (if b then 1 else 0)
 |.int a,.int b=>a == b
 |.str a,.str b=>a == b
 |_,_=>false
theorem eqAt_V{A:Around}{s:Shared}{y x:V}{u v:Value}(ry:RelV y u)(rx:RelV x v)(fy:sX y=true)(fx:sX x=true):SeqAt.EqAt A s u v (eqV y x):=by
 cases y with
 |non =>
  cases ry
  cases x with
  |non=>cases rx;exact SeqAt.EqAt.same _
  |bl b=>cases rx;exact SeqAt.EqAt.none_bool b
  |int b=>obtain⟨t,rfl⟩:=rx;exact SeqAt.EqAt.none_int b t
  |str b=>obtain⟨t,rfl⟩:=rx;exact SeqAt.EqAt.none_str b t
  |_=>exact absurd (show false=true from fx) Ew
 |bl a =>
  cases ry
  cases x with
  |non=>cases rx;exact SeqAt.EqAt.bool_none a
  |bl b=>cases rx;exact SeqAt.EqAt.bool_bool a b
  |int b=>obtain⟨t,rfl⟩:=rx;exact SeqAt.EqAt.bool_int a b t
  |str b=>obtain⟨t,rfl⟩:=rx;exact SeqAt.EqAt.bool_str a b t
  |_=>exact absurd (show false=true from fx) Ew
 |int a =>
  obtain⟨t',rfl⟩:=ry
  cases x with
  |non=>cases rx;exact SeqAt.EqAt.int_none a t'
  |bl b=>cases rx;exact SeqAt.EqAt.int_bool a t' b
  |int b=>obtain⟨t,rfl⟩:=rx;exact SeqAt.EqAt.int_int a t' b t
  |str b=>obtain⟨t,rfl⟩:=rx;exact SeqAt.EqAt.int_str a t' b t
  |_=>exact absurd (show false=true from fx) Ew
 |str a =>
  obtain⟨t',rfl⟩:=ry
  cases x with
  |non=>cases rx;exact SeqAt.EqAt.str_none a t'
  |bl b=>cases rx;exact SeqAt.EqAt.str_bool a t' b
  |int b=>obtain⟨t,rfl⟩:=rx;exact SeqAt.EqAt.str_int a t' b t
  |str b=>obtain⟨t,rfl⟩:=rx;exact SeqAt.EqAt.str_str a t' b t
  |_=>exact absurd (show false=true from fx) Ew
 |_=>exact absurd (show false=true from fy) Ew
def eqU(x:V)(u:Value):Bool:=match u with
 |.none=>eqV .non x
 |.bool b=>eqV (.bl b) x
 |.int i _=>eqV (.int i) x
 |.str z _=>eqV (.str z) x
 |_=>false
theorem Cr{x y:V}{u:Value}(r:RelV y u)(f:sX y=true):eqU x u=eqV y x:=by
 cases y with
 |non=>cases r;rfl
 |bl b=>cases r;rfl
 |int i=>obtain⟨t,rfl⟩:=r;rfl
 |str z=>obtain⟨t,rfl⟩:=r;rfl
 |_=>exact absurd (show false=true from f) Ew
theorem wG{x:V}:∀{xs:List V}{us:List Value},Vals xs us->xs.all sX=true->us.any (eqU x)=xs.any fun y=>eqV y x
 |_,_,.nil,_=>rfl
 |y::xs,u::us,.cons r t,f=>by
  rw[List.all_cons,GF]at f
  rw[F9,F9,Cr r f.1,wG t f.2]
theorem qC{A:Around}{s:Shared}{x:V}{v:Value}(rx:RelV x v)(fx:sX x=true):∀{xs:List V}{us:List Value},Vals xs us->xs.all sX=true->∀ u∈us,SeqAt.EqAt A s u v (eqU x u)
 |_,_,.nil,_=>fun u hu=>by cases hu
 |y::xs,u::us,.cons r t,f=>fun u' hu=>by
  rw[List.all_cons,GF]at f
  rcases Ec.mp hu with rfl | hu
  ·rw[Cr r f.1];exact eqAt_V r rx f.1 fx
  ·exact qC rx fx t f.2 u' hu
def inV(x:V)(xs:List V):Bool:=xs.any fun y=>eqV y x
def rIn(K:D5)(neg:Bool):R2:=fun x y H Q=>∃ p xs,y=.ref p/\(SqL K H p xs∨SqT K H p xs)/\sX x=true/\xs.all sX=true/\Q (.bl (if neg then !inV x xs else inV x xs)) H
theorem zZ:OpR X (compareOp .In) (rIn X.K false):=by
 intro pins s σ H x y v u Q I rx ry h
 obtain⟨p,xs,rfl,hq,fx,fs,q⟩:=h
 cases ry
 rcases hq with hq | hq
 ·obtain⟨its,r,pl,hz⟩:=I.list hq
  refine SeqAt.in_listAt (eqU x) pl.isList (fun w hw=>qC rx fx r fs w (by simpa using hw)) ⟨.bl _,H,I,rfl,?_⟩
  rw[show its.toArray.any (eqU x)=its.any (eqU x) by simp,wG r fs]
  exact q
 ·obtain⟨its,r,pl,hz⟩:=I.tuple hq
  refine SeqAt.in_tupleAt (eqU x) pl (fun w hw=>qC rx fx r fs w (by simpa using hw)) ⟨.bl _,H,I,rfl,?_⟩
  rw[show its.toArray.any (eqU x)=its.any (eqU x) by simp,wG r fs]
  exact q
theorem ak:og X (.builtin "len") (fun xs H Q=>∃ p ys,xs = [.ref p]/\(SqL X.K H p ys∨SqT X.K H p ys)/\Q (.int ys.length) H):=by
 intro pins s σ H xs us Q I r h
 obtain⟨p,ys,rfl,hq,q⟩:=h
 obtain⟨u,rfl,rx⟩:=Bi r
 cases rx
 have hn:=sM
 rcases hq with hq | hq
 ·obtain⟨its,r',pl,hz⟩:=I.list hq
  have hlen:=r'.length
  exact Calls.call_len_list pl.isList (by simp only[Et]<;>omega) ⟨.int ys.length,H,I.tok _,⟨s.toks+1,by rw[Et,hlen]⟩,q⟩
 ·obtain⟨its,r',pl,hz⟩:=I.tuple hq
  have hlen:=r'.length
  exact len_tuple pl (by simp only[Et]<;>omega) ⟨.int ys.length,H,I.tok _,⟨s.toks+1,by rw[Et,hlen]⟩,q⟩
theorem fm:og X (.type "list") (fun xs H Q=>∃ p ys,xs = [.ref p]/\(SqL X.K H p ys∨SqT X.K H p ys)/\∀ l,H l=none->Q (.ref l) (upd H l (.lst ys))):=by
 intro pins s σ H xs us Q I r h
 obtain⟨p,ys,rfl,hq,q⟩:=h
 obtain⟨u,rfl,rx⟩:=Bi r
 cases rx
 have fin:∀(its:List Value),Vals ys its->ys.length<=sizeLine->∀(h':Heap)(c':Nat),(∀ b o',s.heap.get? b=some o'->h'.get? b=some o') ->
   h'.get? s.heap.objs.size=some { cls:=.type "list",dict:=none,data:=.seq its.toArray c',slots:=#[] }->EP X pins σ Q (.ref s.heap.objs.size) { s with heap:=h' }:=fun its r' hz h' c' kp e =>
  ⟨.ref s.heap.objs.size,_,I.laid (t':=s.toks) kp (Ea _) (show dt X.prog X.w _ h' _ (.lst ys) from⟨hz,its,c',r',e⟩),rfl,q _ (I.hok.fresh (Ea _))⟩
 rcases hq with hq | hq
 ·obtain⟨its,r',pl,hz⟩:=I.list hq
  have hlen:=r'.length
  obtain⟨o,ho,hc,n,hd⟩:=pl.isList
  exact call_list_seq p (.inl rfl) ho hc hd (fun h' c' kp e=>fin its r' hz h' c' kp e) (by simp only[Et]<;>omega)
 ·obtain⟨its,r',pl,hz⟩:=I.tuple hq
  have hlen:=r'.length
  obtain⟨o,ho,hc,n,hd⟩:=pl
  exact call_list_seq p (.inr rfl) ho hc hd (fun h' c' kp e=>fin its r' hz h' c' kp e) (by simp only[Et]<;>omega)
def tyV(K:D5)(T:String)(x:V)(H:Hp):Prop:=match x with
 |.str _=>T = "str"
 |.int _=>T = "int"
 |.ref p=>(T = "list"/\∃ xs,SqL K H p xs)∨(T = "tuple"/\∃ o,K.lookup p=some o/\o.cls=.type "tuple"/\o.dict=none) ∨
   (T = "dict"/\((∃ kvs,H p=some (.dK kvs))∨∃ kvs,H p=some (.dT kvs)))∨(T = "set"/\∃ S n,H p=some (.set S n))
 |_=>False
theorem B6{pins:List (Addr×Obj)}{σ:St}{H:Hp}{s:Shared}{T:String}{x:V}{v:Value}(I:Inv X pins σ H s)(r:RelV x v)(ty:tyV X.K T x H) :
  s.TypeIs v T/\∀ a,v=.ref a->∃ ob,s.heap.get? a=some ob/\ob.dict=none:=by
 cases x with
 |str z =>
  obtain⟨t,rfl⟩:=r
  cases (show T = "str" from ty)
  exact⟨typeIs_str s z t,fun _ e=>nomatch e⟩
 |int i =>
  obtain⟨t,rfl⟩:=r
  cases (show T = "int" from ty)
  exact⟨typeIs_int s i t,fun _ e=>nomatch e⟩
 |ref p =>
  cases r
  rcases ty with⟨rfl,xs,hq⟩ | ⟨rfl,o,hk,hc,hd⟩ | ⟨rfl,hk⟩ | ⟨rfl,S,n,hk⟩
  ·obtain⟨its,_,pl,_⟩:=I.list hq
   refine⟨pl.isList.typeIs,fun a e=>?_⟩
   cases e
   obtain⟨o,n,e,c,hd,_⟩:=pl
   exact⟨o,e,hd⟩
  ·refine⟨⟨o,I.kIn p o hk,hc⟩,fun a e=>?_⟩
   cases e
   exact⟨o,I.kIn _ o hk,hd⟩
  ·have z:∃ o,s.heap.get? p=some o/\o.ExactDict:=by
    rcases hk with⟨kvs,hk⟩ | ⟨kvs,hk⟩
    ·obtain⟨_,_,_,_,o,_,_,e,ex,_⟩:=I.hok p _ hk
     exact⟨o,e,ex⟩
    ·obtain⟨_,_,_,_,o,_,_,e,ex,_⟩:=I.hok p _ hk
     exact⟨o,e,ex⟩
   obtain⟨o,e,ex⟩:=z
   refine⟨⟨o,e,ex.1⟩,fun a e2=>?_⟩
   cases e2
   exact⟨o,e,ex.2.1⟩
  ·obtain⟨o,_,_,_,e,ex,_⟩:=I.hok p _ hk
   refine⟨⟨o,e,ex.1⟩,fun a e2=>?_⟩
   cases e2
   exact⟨o,e,ex.2.1⟩
 |_=>exact False.elim ty
def tBM0(K:D5)(T:String)(r:V->List V->Hp->VK->Prop)(to:TE):TE:=fun σ H Q=>to σ H fun x H1=>tyV K T x H1/\r x [] H1 Q
def tBM(K:D5)(T:String)(r:V->List V->Hp->VK->Prop)(to:TE)(t:TA):TE:=fun σ H Q=>to σ H fun x H1=>tyV K T x H1/\t σ H1 fun xs H2=>r x xs H2 Q
variable{o e:Expr}{es:List Expr}{to:TE}{t:TA}{name:Str}{apos cpos:Pos}{T id:String}{r:V->List V->Hp->VK->Prop}
theorem pe_bm0(pa:PlainAttrs T)(slot:Slot T name id) (hty:typeOf (.builtin id)=pure (.type "method_descriptor")) (hm:MtR X id r) (ho:PE X o to)
  (hbase:attributeBase o name X.env (eval o X.env)=eval o X.env:=by rfl) (hline:(apos.endLine == cpos.line)=true:=by rfl):PE X (.Call (.Attribute o name apos) [] [] cpos) (tBM0 X.K T r to):=by
 intro pins s σ H Q I h
 refine wpAny_Call_method0_late hbase hline (thn (ho pins s σ H _ I h) fun v s1 ⟨x,H1,I1,r1,ty,q1⟩=>?_)
 obtain⟨h1,h2⟩:=B6 I1 r1 ty
 exact⟨T,id,pa,slot,hty,h1,h2,Calls.callWith_builtin rfl (PySem.evalArgs_none (hm pins s1 σ H1 x [] v [] Q I1 r1 .nil q1))⟩
theorem cv(pa:PlainAttrs T)(slot:Slot T name id) (hty:typeOf (.builtin id)=pure (.type "method_descriptor")) (hm:MtR X id r) (ho:PE X o to) (ha:PA X (e::es) t)
  (hbase:attributeBase o name X.env (eval o X.env)=eval o X.env:=by rfl)
  (hfew:((backTo cpos (starEach (e::es) X.env)).all (fun x=>!x.1)&&(backToKw cpos (keywordEach [] X.env)).all (fun x=>x.1.isSome)
   && decide ((e::es).length+([]:List Keyword).length+(if([]:List Keyword).isEmpty then 0 else 1)<30))=true:=by rfl)
  (hline:(apos.endLine == cpos.line)=true:=by rfl) (hs:starEach (e::es) X.env=(false,eval e X.env)::starEach es X.env:=by rfl) (hplain:(backTo cpos (starEach es X.env)).any (·.1)=false:=by rfl) :
  PE X (.Call (.Attribute o name apos) (e::es) [] cpos) (tBM X.K T r to t):=by
 intro pins s σ H Q I h
 refine wpAny_Call_method_late hbase hfew hline rfl (thn (ho pins s σ H _ I h) fun v s1 ⟨x,H1,I1,r1,ty,q1⟩=>?_)
 obtain⟨h1,h2⟩:=B6 I1 r1 ty
 refine⟨T,id,pa,slot,hty,h1,h2,?_⟩
 have hA:=ha cpos pins s1 σ H1 _ I1 q1
 rw[hs]at hA ⊢
 refine Calls.callWith_builtin (by show(false||(backTo cpos (starEach es X.env)).any (·.1))=false;rw[hplain]<;>rfl) (Calls.evalArgs_plain ?_)
 exact thn hA fun us s2 ⟨vs,H2,I2,r2,q2⟩=>hm pins s2 σ H2 x vs v us Q I2 r1 r2 q2
end
end L2
namespace L2
open PySem PySem.Spec PyProof.Rows
def MtM(X:Cx)(id:String)(r:V->List V->Hp->VK->Prop):Prop :=
 ∀(pins:List (Addr×Obj))(s:Shared)(σ:St)(H:Hp)(x:V)(xs:List V)(v:Value)(us:List Value)(Q:VK),Inv X pins σ H s->RelV x v->Vals xs us->r x xs H Q ->
  wpAny (model X.prog X.w) X.A (call (.builtin id) (v::us)) (EP X pins σ Q) X.xe s
theorem Vals.one:∀{x:V}{us:List Value},Vals [x] us->∃ u,us = [u]/\RelV x u
 |_,_,.cons r .nil=>⟨_,rfl,r⟩
theorem Vals.two:∀{x y:V}{us:List Value},Vals [x,y] us->∃ u v,us = [u,v]/\RelV x u/\RelV y v
 |_,_,_,.cons r (.cons q .nil)=>⟨_,_,rfl,r,q⟩
theorem Vals.zero:∀{us:List Value},Vals [] us->us = []
 |_,.nil=>rfl
theorem Vals.dropLast{xs:List V}{us:List Value}(h:Vals xs us):Vals xs.dropLast us.dropLast:=by
 induction h with
 |nil=>exact .nil
 |cons r t ih =>
  cases t with
  |nil=>exact .nil
  |cons q t'=>exact .cons r ih
theorem Vals.eraseIdx:∀{xs:List V}{us:List Value}(i:Nat),Vals xs us->Vals (xs.eraseIdx i) (us.eraseIdx i)
 |_,_,_,.nil=>.nil
 |_,_,0,.cons _ t=>t
 |_,_,i+1,.cons r t=>.cons r (Vals.eraseIdx i t)
theorem yL{α:Type}(l:List α):l.eraseIdx (l.length-1)=l.dropLast:=by
 induction l with
 |nil=>rfl
 |cons a r ih =>
  cases r with
  |nil=>rfl
  |cons b r =>
   have e:(a::b::r).length-1=((b::r).length-1)+1:=by
    have h1:(a::b::r).length=r.length+2:=rfl
    have h2:(b::r).length=r.length+1:=rfl
    omega
   rw[e,List.eraseIdx_cons_succ,ih]
   all_goals rfl
theorem sN{α:Type}:∀(l:List α)(i:Nat),(l.eraseIdx i).length<=l.length
 |[],_=>Ea _
 |_::_,0=>Fv _
 |_::r,i+1=>Nat.succ_le_succ (sN r i)
section
variable{X:Cx}{pins:List (Addr×Obj)}{σ:St}{H:Hp}{s:Shared}{l b:Addr}{xs ys zs:List V}
theorem Inv.lset{its its':List Value}{n:Nat}{f:Array Value->Array Value}{t':Nat}(I:Inv X pins σ H s)(hH:H l=some (.lst xs))
  (e:s.heap.get? l=some { cls:=.type "list",data:=.seq its.toArray n }) (hf:f its.toArray=its'.toArray) (hv:Vals ys its') (hz:ys.length<=sizeLine) :
  Inv X pins σ (upd H l (.lst ys)) { s with heap:=s.heap.update l (Obj.mapSeq f),toks:=t' }:=by
 have q:=PySem.IsL.update e f
 rw[hf]at q
 refine I.write (x:=l) (e:=l) (by rw[hH];exact trivial) (.inl rfl) (fun b' u hb hu=>(Heap.get?_update_other s.heap (Obj.mapSeq f) (Ne.symm hb)).trans hu) ⟨_,q⟩ ?_
 exact⟨hz,its',_,hv,q⟩
theorem Inv.lnew{its:List Value}{t':Nat}(I:Inv X pins σ H s)(hv:Vals ys its)(hz:ys.length<=sizeLine) :
  Inv X pins σ (upd H s.heap.objs.size (.lst ys)) { s with heap:=s.heap.push { cls:=.type "list",data:=.seq its.toArray },toks:=t' } :=
 I.laid (fun _ _ q=>Heap.get?_push_of_some _ q) (Ea _) ⟨hz,its,0,hv,Heap.get?_push_size _ rfl⟩
theorem Inv.fresh(I:Inv X pins σ H s):H s.heap.objs.size=none:=I.hok.fresh (Ea _)
theorem Inv.lstM(I:Inv X pins σ H s)(hH:H l=some (.lst xs)):xs.length<=sizeLine/\∃(its:List Value)(n:Nat),Vals xs its/\xs.length=its.length/\s.heap.get? l=some { cls:=.type "list",data:=.seq its.toArray n }:=by
 obtain⟨z,its,n,r,e⟩:=I.hok l _ hH
 exact⟨z,its,n,r,r.length,e⟩
end
section
variable{X:Cx}
def CZ:V->List V->Hp->VK->Prop:=fun x vs H Q=>∃ l xs y,x=.ref l/\vs = [y]/\H l=some (.lst xs)/\xs.length<sizeLine/\Q .non (upd H l (.lst (xs++[y])))
theorem aP:MtM X "list.append" CZ:=by
 intro pins s σ H x vs v us Q I rx rv h
 obtain⟨l,xs,y,rfl,rfl,hH,hz,q⟩:=h
 cases rx
 obtain⟨u,rfl,ru⟩:=rv.one
 obtain⟨z,its,n,r,hl,e⟩:=I.lstM hH
 refine call_meets F.slot_list_append ⟨_,e,rfl⟩ F.entry_list_append (F.args_list_append_2 _ _) (PySem.list_append l its.toArray n u (by rw[Et];omega)) ⟨e,?_⟩
 refine⟨.non,_,I.lset (its':=its++[u]) hH e (by simp) (r.append (.cons ru .nil)) ?_,rfl,q⟩
 rw[D2,Ed]
 omega
def rPop:V->List V->Hp->VK->Prop:=fun x vs H Q=>∃ l xs y,x=.ref l/\vs = []/\H l=some (.lst xs)/\xs[xs.length-1]?=some y/\Q y (upd H l (.lst xs.dropLast))
theorem mt_pop:MtM X "list.pop" rPop:=by
 intro pins s σ H x vs v us Q I rx rv h
 obtain⟨l,xs,y,rfl,rfl,hH,hy,q⟩:=h
 cases rx
 have hus:=rv.zero
 subst hus
 obtain⟨z,its,n,r,hl,e⟩:=I.lstM hH
 obtain⟨u,hu,ru⟩:=r.get hy
 have hy':its.toArray[its.toArray.size-1]?=some u:=by
  show its.toArray[its.length-1]?=some u
  rw[← F2,← hl]
  exact hu
 refine call_meets F.slot_list_pop ⟨_,e,rfl⟩ F.entry_list_pop (F.args_list_pop_1 _) (MeetsSeq.list_pop_last l its.toArray n u hy' (by rw[Et];omega)) ⟨e,?_⟩
 refine⟨y,_,I.lset (its':=its.dropLast) hH e ?_ r.dropLast ?_,ru,q⟩
 ·show its.toArray.eraseIdxIfInBounds (its.toArray.size-1)=its.dropLast.toArray
  rw[Et,Ha,yL]
 ·rw[FI]
  omega
def rPopAt:V->List V->Hp->VK->Prop:=fun x vs H Q=>∃ l xs i k y,x=.ref l/\vs = [.int i]/\H l=some (.lst xs)/\-(2^63)<=i/\i<2^63/\seqIndex? i xs.length=some k/\xs[k]?=some y/\Q y (upd H l (.lst (xs.eraseIdx k)))
theorem xp:MtM X "list.pop" rPopAt:=by
 intro pins s σ H x vs v us Q I rx rv h
 obtain⟨l,xs,i,k,y,rfl,rfl,hH,h1,h2,hk,hy,q⟩:=h
 cases rx
 obtain⟨u,rfl,ru⟩:=rv.one
 obtain⟨t,rfl⟩:=ru
 obtain⟨z,its,n,r,hl,e⟩:=I.lstM hH
 obtain⟨w,hw,rw'⟩:=r.get hy
 refine call_meets F.slot_list_pop ⟨_,e,rfl⟩ F.entry_list_pop (F.args_list_pop_2 _ _)
  (MeetsSeq.list_pop_at l its.toArray n i t k w (fitsIndex_both h1 h2) (by rw[Et,← hl];exact hk) (by rw[← F2];exact hw) (by rw[Et];omega)) ⟨e,?_⟩
 refine⟨y,_,I.lset (its':=its.eraseIdx k) hH e ?_ (r.eraseIdx k) ?_,rw',q⟩
 ·show its.toArray.eraseIdxIfInBounds k=(its.eraseIdx k).toArray
  rw[Ha]
 ·have:=sN xs k
  omega
def rCat:R2:=fun x y H Q=>∃ l b xs zs,x=.ref l/\y=.ref b/\H l=some (.lst xs)/\H b=some (.lst zs)/\xs.length+zs.length<=sizeLine/\∀ p,H p=none->Q (.ref p) (upd H p (.lst (xs++zs)))
theorem op_cat:OpR X (binaryOp .Add) rCat:=by
 intro pins s σ H x y v u Q I rx ry h
 obtain⟨l,b,xs,zs,rfl,rfl,hH,hB,hz,q⟩:=h
 cases rx
 cases ry
 obtain⟨z,its,n,r,hl,e⟩:=I.lstM hH
 obtain⟨z2,its2,n2,r2,hl2,e2⟩:=I.lstM hB
 refine PySem.P.add_list e e2 ?_ (by rw[Et,Et];omega)
 have ea:its.toArray++its2.toArray=(its++its2).toArray:=by simp
 rw[ea]
 exact⟨.ref _,_,I.lnew (t':=s.toks) (r.append r2) (by rw[D2];omega),rfl,q _ I.fresh⟩
end
section
variable{prog:Program}{w:World}{A:Around}{E:Value->Shared->Prop}{s:Shared}
end
section
variable{X:Cx}
end
end L2
namespace Att
open PySem PySem.W PySem.Calls PyProof.Rows
theorem mX{P:Params}{h:Heap}:∀(ns:List Int)(vs:List Value),WellAll P h vs (ns.map WData.int)->IntsAre vs ns:=by
 intro ns
 induction ns with
 |nil =>
  intro vs w
  rw[List.map_nil]at w
  cases w
  exact .nil
 |cons n ns ih =>
  intro vs w
  rw[EU]at w
  cases w with
  |cons a b =>
   cases a
   exact .cons _ _ (ih _ b)
theorem zG{l:OpenLaw}{n:Nat}(hn:l.most=some n){P:Params}{h:Heap}{args:List WData}{vals:List Value}
  (hpre:l.row.toRowW.claim.pre args=true) (hwl:WellAll P h vals args) :
  ∃ a vs ns,vals = [Value.ref a]/\args = [WData.list (ns.map WData.int)]/\h.get? a=some { cls:=.type "list",data:=.seq vs.toArray }/\IntsAre vs ns/\ns.length<=n:=by
 have hsh:WShape.hasAll [] args [.list .int]=true:=(pre_splitW hpre).1
 have hc:l.pre.holds [] { args:=args }=true:=(pre_splitW hpre).2
 obtain⟨d,r,rfl,h1,h2⟩:=hasAllW_cons hsh
 obtain rfl:=hasAllW_nil h2
 obtain⟨xs,rfl,h3⟩:=hasW_list h1
 obtain⟨ns,rfl⟩:=items_int h3
 have hlen:ns.length<=n:=by
  unfold OpenLaw.pre at hc
  have h4:(WTm.not (.lt (.lit (.int (n:Int))) (.len (.arg 0)))).holds [] { args:=[.list (ns.map .int)] }=true:=by
   have h4:=(holds_andW hc).1
   rw[hn]at h4
   exact h4
  have h5:=condW_of h4 (w_not (w_lt w_lit (w_len_list (w_arg rfl))))
  rw[D3]at h5
  refine Nat.le_of_not_lt fun q=>?_
  have q':(n:Int)<((ns.length:Nat):Int):=by omega
  first
   | (rw[decide_eq_true q']at h5;exact absurd h5 (by decide))
   | (simp at h5;omega)
 cases hwl with
 |cons w1 w2 =>
  cases w2
  cases w1 with
  |list ho hall=>exact⟨_,_,ns,rfl,rfl,ho,mX ns _ hall,hlen⟩
theorem zO(l:OpenLaw)(args:List WData):l.row.toRowW.claim.post args (.bool true) args=true :=
 postW_of (r:=l.row.toRowW) (X:=(true == true))
  (show WShape.has [] (.bool true) .bool=true by first | rfl | decide | simp[WShape.has,WShape.arms,WShape.armsAll])
  (show(WTm.eq .res (.lit (.bool true))).value [] { args:=args,res:=some (.bool true),after:=args }=some (.bool (true == true)) from w_eq_bool (w_res rfl) w_lit) rfl
theorem attach_call{l:OpenLaw}{n:Nat}{q:Program}{loose:List Str}{XP:(Str->Option Value)->Heap->Prop}{YP:World->Heap->Prop}{d:DefRec}
  (hn:l.most=some n) (hdf:d.params.defaults = [])
  (call:∀(w:World)(s₀ s₁:Shared)(mg mb:Str->Option Value)(fa:Addr)(o:Obj)(pm cd doc:Value)(a:Addr)(vs:List Value)(ns:List Int),
   Ground q loose [] XP w s₀ mg mb s₁.heap->YP w s₁.heap ->
   s₁.heap.get? fa=some o->o.data=.func (docDef d.name d.params d.body d.scope pm cd doc)->s₁.heap.CodeRec cd d.name->mg d.name=some (.ref fa) ->
   s₁.heap.get? a=some { cls:=.type "list",data:=.seq vs.toArray }->IntsAre vs ns->ns.length<=n->s₁.gens=#[] ->
   codeAny (model l.prog w) callerA (.call (.ref fa) ⟨[.ref a],[]⟩) (fun r s'=>r=.ok (.ret (.bool true))/\OldK s₁.heap s'.heap/\s'.os=s₁.os/\AllBare s'.gens) s₁) :
  WalkO q loose XP YP l.row.toRowW d [] (fun f vs=>PySem.call f vs):=by
 intro w s₀ s₁ mg mb G Y fa o pm cd doc dV kV ho hd hcd hD hmg hg args vals as hpre hlay hrd hwl hlo
 obtain rfl:dV=.none:=Dflts.none hD hdf
 obtain rfl:kV=.none:=Dflts.noKw hD
 obtain⟨a,vs,ns,rfl,rfl,hobj,hints,hlen⟩:=zG hn hpre hwl
 refine enter_call (codeAny_mono (call w s₀ s₁ mg mb fa o pm cd doc a vs ns G Y ho (fd_plain hd) hcd hmg hobj hints hlen hg) fun r s' hq=>?_)
 obtain⟨rfl,h2,h3,h4⟩:=hq
 exact⟨.inl ⟨.bool true,.bool true,[],rfl,fun _=>rfl,.bool true,zO l _,fun _=>⟨Hb,fun _ hm=>(nomatch hm)⟩⟩,h2,h3,h4⟩
section
variable{prog:Program}{w:World}{A:Around}{E:Value->Shared->Prop}{s:Shared}{K:Frag}
end
end Att
namespace L2
open PySem PySem.Spec PyProof.Rows
theorem rM:∀{vs:List Value}{ns:List Int},IntsAre vs ns->Vals (ns.map V.int) vs
 |_,_,.nil=>.nil
 |_,_,.cons n t h=>.cons ⟨t,rfl⟩ (rM h)
def Only(H:Hp):Prop:=∀ b,H b=none∨∃ o xs,H b=some (.frz o (.lst xs))
theorem BI{P:Program}{w:World}{K:D5}{mg mb:Str->Option Value}{CX:CXT}{k:Nat}{fa a:Addr}{fd:FuncData}{x:Str}{sp:Sp}{s₁:Shared}{vs:List Value}{ns:List Int}
  (KX:K.In s₁.heap) (hns:s₁.heap.Ns mainGlobals mg) (hb:s₁.heap.Ns builtinsNs mb) (hbb:∀ x:Str,x≠"__name__"->mb x=bootBuiltins x) (hlim:s₁.heap.NoLimit) (hg:s₁.gens=#[])
  (ha:s₁.heap.get? a=some { cls:=.type "list",data:=.seq vs.toArray }) (hi:IntsAre vs ns) (hl:ns.length<=sizeLine) (hr:Room k callerA)
  (F:∀ base:Heap,K.In base->base.Ns mainGlobals mg->FnOk P w K mg base CX k fa fd [x] sp) (hbind:∀(s:Shared)(u:Value),BindsTo s fd ⟨[u],[]⟩ [(x,u)])
  (hsp:∀ H:Hp,Only H->SqL K H a (ns.map V.int)->sp [.ref a] H (fun v _=>v=.bl true) fun _ _ _=>False)
  (hCX:∀ H e s',CX [] H s₁ (fun _ _ _=>False) e s'->False) :
  codeAny (model P w) callerA (.call (.ref fa) ⟨[.ref a],[]⟩) (fun r s'=>r=.ok (.ret (.bool true))/\OldK s₁.heap s'.heap/\s'.os=s₁.os/\AllBare s'.gens) s₁:=by
 have rv:=rM hi
 have lenV:=hi.length
 have core:∀ H:Hp,Only H->SqL K H a (ns.map V.int)->HOk P w H s₁.heap->(∀ b,H b≠none->b=a)->(H a≠none->K.lookup a=none) ->
   codeAny (model P w) callerA (.call (.ref fa) ⟨[.ref a],[]⟩) (fun r s'=>r=.ok (.ret (.bool true))/\OldK s₁.heap s'.heap/\s'.os=s₁.os/\AllBare s'.gens) s₁:=by
  intro H hO hS hok hA hK
  have base_of:∀{b:Addr}{o:Obj},s₁.heap.get? b=some o->H b=none->(hidT s₁.heap H).get? b=some o:=fun e n=>BR e n
  have noA:∀{b:Addr}{o:Obj}{es:Array DictEntry}{ep:Nat},s₁.heap.get? b=some o->o.data=.dict es ep->H b=none:=fun{b o es ep} e d=>by
   cases q:H b with
   |none=>rfl
   |some u =>
    have e':b=a:=hA b (by rw[q];simp)
    subst e'
    rw[ha]at e;cases e
    have d':Data.seq vs.toArray _=Data.dict es ep:=d
    cases d'
  have nsK:∀{b:Addr}{m:Str->Option Value},s₁.heap.Ns b m->(hidT s₁.heap H).Ns b m:=fun{b m} ⟨o,es,ep,e,d,r⟩=>⟨o,es,ep,base_of e (noA e d),d,r⟩
  have hKb:K.In (hidT s₁.heap H):=fun b o e=>base_of (KX b o e) (by
   cases q:H b with
   |none=>rfl
   |some u =>
    have e':b=a:=hA b (by rw[q];simp)
    subst e'
    rw[hK (by rw[q];simp)]at e;cases e)
  have hM:Mod K mg (hidT s₁.heap H):=⟨hKb,nsK hns,⟨mb,nsK hb,hbb⟩,let ⟨mc,h1,h2⟩:=hlim;⟨mc,nsK h1,h2⟩⟩
  have e0:Env0 P w K mg (hidT s₁.heap H) callerA [] s₁ H:=⟨rfl,hM,fun b o e=>Dp e,He (AA _ _),trivial,fun b hb=>absurd (show b∈([]:List Addr) from hb) (by simp),hok,.of_eq hg⟩
  refine codeAny_mono ((F _ hKb (nsK hns)).run callerA [] s₁ H ⟨[.ref a],[]⟩ [.ref a] [.ref a] _ _ hr e0 (hbind s₁ (.ref a)) (.cons rfl .nil) (hsp H hO hS)) fun r s' h=>?_
  cases r with
  |error e=>exact(hCX H e s' h).elim
  |ok fl =>
   cases fl with
   |next=>exact False.elim h
   |brk=>exact False.elim h
   |cont=>exact False.elim h
   |ret u =>
    obtain⟨v,H',os,bare,un,hok',r',q⟩:=h
    have q':v=.bl true:=q
    subst q'
    obtain rfl:u=Value.bool true:=r'
    refine⟨rfl,OldK.of_keep fun b o e=>?_,os,bare⟩
    cases q:H b with
    |none=>exact un.keep b o e q (by intro z;exact absurd (show b∈([]:List Addr) from z) (by simp)) (by simp)
    |some u =>
     rcases hO b with z | ⟨ob,xs,z⟩
     ·rw[q]at z;cases z
     ·have z2:=un.frzs b ob _ z
      obtain⟨e1,_⟩:=hok b _ z
      obtain⟨e2,_⟩:=hok' b _ z2
      rw[e]at e1;cases e1
      exact e2
 cases hk:K.lookup a with
 |some o =>
  have e:=KX a o hk
  rw[ha]at e
  cases e
  refine core (fun _=>none) (fun _=>.inl rfl) (.inr ⟨_,vs.toArray,_,hk,rfl,rfl,rfl,by rw[Et,lenV];exact hl,by simpa using rv⟩) (fun b u z=>by have z':(none:Option HO)=some u:=z;cases z') (fun b z=>absurd rfl z) fun z=>absurd rfl z
 |none =>
  refine core (fun b=>if b=a then some (.frz { cls:=.type "list",data:=.seq vs.toArray } (.lst (ns.map V.int))) else none) (fun b=>?_) (.inl (.inr ⟨{ cls:=.type "list",data:=.seq vs.toArray },if_pos rfl⟩)) (fun b u z=>?_) (fun b z=>?_) fun _=>hk
  ·by_cases hb:b=a
   ·exact .inr ⟨_,_,if_pos hb⟩
   ·exact .inl (if_neg hb)
  ·by_cases hb:b=a
   ·have z':=(if_pos hb).symm.trans z
    cases z'
    subst hb
    exact⟨ha,by rw[D3];exact hl,vs,_,rv,ha⟩
   ·have z':=(if_neg hb).symm.trans z
    cases z'
  ·by_cases hb:b=a
   ·exact hb
   ·exact absurd (if_neg hb) z
end L2
namespace L2
open PySem PySem.Spec PyProof.Rows
theorem walk_of{l:Hl}{n k:Nat}{q:Program}{loose:List Str}{XP:(Str->Option Value)->Heap->Prop}{YP:World->Heap->Prop}{d:DefRec}{K:Params->D5}{CX:World->CXT}{sp:World->Sp}{x:Str}
  (hn:l.most=some n) (hn2:n<=sizeLine) (hdf:d.params.defaults = []) (hr:Room k callerA)
  (hY:∀(w:World)(h:Heap),YP w h->(K w.params).In h)
  (F:∀(w:World)(mg:Str->Option Value)(fa:Addr)(h:Heap),(K w.params).In h->h.Ns mainGlobals mg->mg d.name=some (.ref fa) ->
   ∃ fd:FuncData,(∀(s:Shared)(u:Value),BindsTo s fd ⟨[u],[]⟩ [(x,u)]) /\
    ∀ base:Heap,(K w.params).In base->base.Ns mainGlobals mg->FnOk l.prog w (K w.params) mg base (CX w) k fa fd [x] (sp w))
  (hsp:∀(w:World)(H:Hp)(a:Addr)(ns:List Int),ns.length<=n->Only H->SqL (K w.params) H a (ns.map V.int)->sp w [.ref a] H (fun v _=>v=.bl true) fun _ _ _=>False)
  (hCX:∀(w:World)(H:Hp)(s:Shared)(e:Value)(s':Shared),CX w [] H s (fun _ _ _=>False) e s'->False) :
  PySem.W.WalkO q loose XP YP l.row.toRowW d [] (fun f vs=>PySem.call f vs):=by
 refine Att.attach_call hn hdf fun w s₀ s₁ mg mb fa o pm cd doc a vs ns G Y ho hd hcd hmg hobj hints hlen hg=>?_
 have KX:=hY w _ Y
 obtain⟨fd,hb,hF⟩:=F w mg fa _ KX G.T.g hmg
 exact BI KX G.T.g G.T.b G.T.builtins G.T.nolimit hg hobj hints (E7 hlen hn2) hr hF hb (fun H hO hS=>hsp w H a ns hlen hO hS) fun H e s'=>hCX w H s₁ e s'
end L2
namespace L2
open PySem PySem.Spec PyProof.Rows
def Ax(s:Stmt)(j:Nat):Stmt:=match s with
 |.ClassDef _ _ _ body _ _ _ _ _ _ _=>body.getD j (.Pass ⟨0,0,0,0⟩)
 |_=>.Pass ⟨0,0,0,0⟩
def aV(s:Stmt):Arguments:=match s with
 |.FunctionDef _ a _ _ _ _ _ _ _ _=>a
 |_=>{ posonlyargs:=[],args:=[],vararg:=none,kwonlyargs:=[],kw_defaults:=[],kwarg:=none,defaults:=[] }
def aR(s:Stmt):List Stmt:=match s with
 |.FunctionDef _ _ b _ _ _ _ _ _ _=>b
 |_=>[]
def au(s:Stmt):Scope:=match s with
 |.FunctionDef _ _ _ _ _ _ sc _ _ _=>sc
 |_=>{ kind:=.function,names:=[],isGenerator:=false,isCoroutine:=false }
abbrev CX0:CXT:=fun _ _ _ _ _ _=>False
abbrev E0:XK:=fun _ _ _=>False
theorem bz{X:Cx}:uc CX0 X E0:=fun _ _ _ _ _ _ _ h=>h.elim
structure Fun(K:D5)(x qual:Str)(st:Stmt)(f:Addr)(fd:FuncData):Prop where
 ex:∃(oc:Value)(od:Option Addr)(kV doc pm:Value)(an:Option Addr)(cdv ct:Value)(osl:Array (Option Value)),
  fd=EH x qual (aV st) (aR st) (au st) .none kV doc pm an cdv ct/\K.lookup f=some ⟨oc,od,.func fd,osl⟩/\Ez K cdv qual=true
 kp:Ep K (.ref f)=true
section
variable{P:Program}{w:World}{K:D5}{mg:Str->Option Value}{base:Heap}
theorem Fun.ok{x qual:Str}{st:Stmt}{f:Addr}{fd:FuncData}{N ps:List Str}{k:Nat}{sp:Sp}(F:Fun K x qual st f fd)(S:aY N ps (au st))(len:∀ vs H Q E,sp vs H Q E->vs.length=ps.length)
  (hbody:∀(cdv:Value)(A:Around)(outer:List Env)(s:Shared)(H:Hp)(vs:List V)(Q:VK)(E:XK),Room k (A.deeper (envOfC qual (au st) s.heap.objs.size f cdv))->sp vs H Q E ->
   ∃ t,PSs (cxOf CX0 P w K mg base N qual (au st) f cdv A outer s H E).nox (aR st) t/\t { nx:=fun _ H'=>Q .non H',rt:=Q } (pK N vs) H):FnOk P w K mg base CX0 (k+1) f fd ps sp:=by
 obtain⟨oc,od,kV,doc,pm,an,cdv,ct,osl,rfl,lk,hcd⟩:=F.ex
 refine fn_of lk hcd S len fun A outer s H vs Q E hr hsp=>?_
 obtain⟨t,h,q⟩:=hbody cdv A outer s H vs Q E hr hsp
 exact⟨t,h.nox,q⟩
theorem Fun.binds{x qual:Str}{st:Stmt}{f:Addr}{fd:FuncData}{ps:List Str}(F:Fun K x qual st f fd)
  (h:∀(kV doc pm:Value)(an:Option Addr)(cdv ct:Value)(us:List Value),us.length=ps.length->bindArgs (EH x qual (aV st) (aR st) (au st) .none kV doc pm an cdv ct) ⟨us,[]⟩=pure (ps.zip us)):jY K fd ps []:=by
 obtain⟨oc,od,kV,doc,pm,an,cdv,ct,osl,rfl,lk,hcd⟩:=F.ex
 exact .all (h kV doc pm an cdv ct)
theorem bx{x qual:Str}{st:Stmt}{f:Addr}{oc:Value}{od an:Option Addr}{osl:Array (Option Value)}{kV doc pm cdv ct:Value}(l:K.lookup f=some ⟨oc,od,.func (EH x qual (aV st) (aR st) (au st) .none kV doc pm an cdv ct),osl⟩)
  (c:Ez K cdv qual=true) (k:Ep K (.ref f)=true):Fun K x qual st f (EH x qual (aV st) (aR st) (au st) .none kV doc pm an cdv ct):=⟨⟨oc,od,kV,doc,pm,an,cdv,ct,osl,rfl,l,c⟩,k⟩
end
theorem hu_of{A:Around}{k:Nat}(hr:Room k A):A.units+1<cLine:=Nat.lt_of_le_of_lt (Nat.add_le_add_left (by decide:1<=64) _) hr.units
theorem ar{n:Nat}(h:n<=1000):n<sizeLine:=Nat.lt_of_le_of_lt h (by decide)
section
variable{X:Cx}
theorem pv(i:Nat){x:Str}{pos:Pos}(hN:X.N[i]?=some x:=by rfl)(hv:Vis X.env.scope x:=by first | exact Or.inl rfl | exact Or.inr (Or.inl rfl) | exact Or.inr (Or.inr rfl)) (hd:(x == ("__debug__" : Str))=false:=by decide)
  (hcd:(x == ("__classdict__" : Str))=false:=by decide):PE X (.Name x pos) (tVar i):=pe_var hN hv hd hcd
end
theorem iteF{A B:Prop}(h:B):if false=true then A else B:=by
 rw[if_neg Ew]
 exact h
theorem iteT{A B:Prop}(h:A):if true=true then A else B:=by
 rw[if_pos rfl]
 exact h
theorem ite2{c A B:Prop} [Decidable c] (h1:c->A) (h2:¬ c->B):if c then A else B:=by
 by_cases h:c
 ·rw[if_pos h]
  exact h1 h
 ·rw[if_neg h]
  exact h2 h
theorem iteNS{c A B:Prop} [Decidable c] (hc:c) (h:B):if(!decide c)=true then A else B:=by
 rw[decide_eq_true hc]
 exact iteF h
def Same(H H':Hp):Prop:=∀ b o,H b=some o->H' b=some o
theorem Same.trans{H H1 H2:Hp}(a:Same H H1)(b:Same H1 H2):Same H H2:=fun c o h=>b c o (a c o h)
theorem Same.seq{K:D5}{H H':Hp}{a:Addr}{xs:List V}(e:Same H H')(h:SqL K H a xs):SqL K H' a xs:=by
 rcases h with(h | ⟨o,h⟩) | h
 ·exact .inl (.inl (e _ _ h))
 ·exact .inl (.inr ⟨o,e _ _ h⟩)
 ·exact .inr h
end L2
set_option maxRecDepth 100000
set_option maxHeartbeats 4000000
namespace L2
open PySem PySem.Spec PyProof.Rows
end L2
namespace L2
open PySem PySem.Spec PyProof.Rows
section
variable(P:Program)(w:World)
end
section
variable{P:Program}{w:World}{H H':Hp}{h h':Heap}{a:Addr}{o:HO}
end
section
variable{P:Program}{w:World}{H:Hp}{h h':Heap}{x e:Addr}{o':HO}
end
section
variable{fs fs' ex ex':List Addr}{H H1 H2:Hp}{h h1 h2 h':Heap}{a x e:Addr}{o:HO}
end
end L2
namespace L2
open PySem PySem.Spec PyProof.Rows
section
variable{X:Cx}{pins:List (Addr×Obj)}{σ:List (Option V)}{H H':Hp}{s:Shared}{h':Heap}
end
end L2
namespace L2
open PySem PySem.Spec PyProof.Rows
section
variable{X:Cx}
variable{a b:Expr}{ta tb:TE}{pos:Pos}
variable{tA tB':TT}{rest:List Expr}
end
end L2
namespace L2
open PySem PySem.Spec PyProof.Rows
section
variable{X:Cx}{pins:List (Addr×Obj)}{σ:St}{H:Hp}{s:Shared}{a:Addr}{xs ys:List V}
end
section
variable{X:Cx}{pins:List (Addr×Obj)}{σ:St}{H:Hp}{s:Shared}{E:Value->Shared->Prop}
end
section
variable{X:Cx}{st:Stmt}{rest:List Stmt}{t u:TS}{e:Expr}{te:TE}{pos:Pos}
end
section
variable{X:Cx}{pos:Pos}
end
section
variable{X:Cx}{pos:Pos}
end
end L2
namespace L2
open PySem PySem.Spec PyProof.Rows
section
variable{X:Cx}{tg:Expr}
end
end L2
namespace L2
open PySem PySem.Spec PyProof.Rows
section
variable{X:Cx}{a b c:Expr}{ta tb tc:TE}{pos:Pos}
end
section
variable{X:Cx}{a b c:Expr}{ta tb tc:TE}{pos:Pos}
end
end L2
namespace L2
open PySem PySem.Spec PyProof.Rows
section
variable{prog:Program}{w:World}{A:Around}{E:Value->Shared->Prop}{s:Shared}{K:D5}{x dx C f:Addr}{mA:Str->Option Value}{name:Str}{v:Value}
end
section
variable{P:Program}{w:World}{H H':Hp}{h h':Heap}{a C dx:Addr}{fs fs':List (Str×V)}
end
section
variable{X:Cx}{pins:List (Addr×Obj)}{σ:St}{H:Hp}{s:Shared}{a C dx:Addr}{fs:List (Str×V)}{f:Str}{v:V}{A:Around}{E:Value->Shared->Prop}
end
section
variable{X:Cx}{o e value:Expr}{f:Str}{pos pos' tpos:Pos}{ta tv:TE}
end
section
variable{X:Cx}{pins:List (Addr×Obj)}{σ:St}{H:Hp}{s:Shared}{A:Around}{E:Value->Shared->Prop}{Q:Value->Shared->Prop}{c:Value}{b:Bool}
end
end L2
namespace L2
open PySem PySem.Spec PyProof.Rows
section
variable{X:Cx}{e:Expr}{es:List Expr}{te:TE}{t:TA}{pos:Pos}
end
section
variable{X:Cx}{pins:List (Addr×Obj)}{σ:St}{H:Hp}{s s':Shared}
end
section
variable{X:Cx}{CX:CXT}{k:Nat}{f C:Addr}{fd:FuncData}{ps:List Str}{sp:Sp}{dvs:List V}{ds:List Value}{E:XK}{x m:Str}{p pos apos:Pos}{e o:Expr}{es:List Expr}{ta:TE}{t:TA}
end
section
variable{X:Cx}{CX:CXT}{k:Nat}{f C:Addr}{fd:FuncData}{ps ks:List Str}{sp:Sp}{E:XK}{x m:Str}{p pos apos kpos:Pos}{e o:Expr}{es:List Expr}{kws:List Keyword}{te ta:TE}{t tk:TA}{nm:Option Str}
variable{g:List Value->List Value->List Value}{gV:List V->List V->List V}
end
end L2
namespace L2
open PySem PySem.Spec PyProof.Rows
section
variable{X:Cx}{x:Str}{p pos:Pos}{e:Expr}{es:List Expr}{t:TA}{id T:String}{r:List V->Hp->VK->Prop}
end
end L2
namespace L2
open PySem PySem.Spec PyProof.Rows
section
variable{κ:Type} [DecidableEq κ]
def valV(kvs:List (κ×V))(k:κ):Option V:=(kvs.find? fun kv=>decide (kv.1=k)).map (·.2)
def putK(kvs:List (κ×V))(k:κ)(v:V):List (κ×V) :=
 if(kvs.any fun kv=>decide (kv.1=k))=true then kvs.map (fun kv=>if kv.1=k then(kv.1,v) else kv) else kvs++[(k,v)]
theorem cM{p:κ×V}{r:List (κ×V)}{k:κ}(e:p.1=k):valV (p::r) k=some p.2:=by simp[valV,FV,e]
theorem cN{p:κ×V}{r:List (κ×V)}{k:κ}(e:¬ p.1=k):valV (p::r) k=valV r k:=by simp[valV,FV,e]
theorem l8(k:κ):∀ kvs:List (κ×V),(kvs.any fun kv=>decide (kv.1=k))=(valV kvs k).isSome
 |[]=>rfl
 |p::r=>by
  rw[F9]
  by_cases e:p.1=k
  ·simp only[cM e,decide_eq_true e,Bool.true_or,Option.isSome_some]
  ·rw[cN e,decide_eq_false e,Bool.false_or];exact l8 k r
theorem wX(k j:κ)(y:V):∀ kvs:List (κ×V),valV (kvs.map fun kv=>if kv.1=k then(kv.1,y) else kv) j=(valV kvs j).map fun x=>if j=k then y else x
 |[]=>rfl
 |p::r=>by
  have ih:=wX k j y r
  rw[EU]
  by_cases h:p.1=k
  ·rw[if_pos h]
   by_cases e:p.1=j
   ·rw[cM (p:=(p.1,y)) e,cM e,GK,if_pos (e.symm.trans h)]
   ·rw[cN (p:=(p.1,y)) e,cN e,ih]
  ·rw[if_neg h]
   by_cases e:p.1=j
   ·rw[cM (p:=p) e,cM e,GK,if_neg (fun z=>h (e.trans z))]
   ·rw[cN (p:=p) e,cN e,ih]
theorem rN(k j:κ)(y:V):∀ kvs:List (κ×V),valV kvs k=none->valV (kvs++[(k,y)]) j=if j=k then some y else valV kvs j
 |[],_=>by
  by_cases e:k=j
  ·rw[if_pos e.symm];exact cM (p:=(k,y)) e
  ·rw[if_neg (fun z=>e z.symm)];exact cN (p:=(k,y)) e
 |p::r,hn=>by
  rw[FO]
  have hk:¬ p.1=k:=fun z=>by rw[cM z]at hn;cases hn
  rw[cN hk]at hn
  have ih:=rN k j y r hn
  by_cases e:p.1=j
  ·rw[cM e,cM e,if_neg (fun z=>hk (e.trans z))]
  ·rw[cN e,cN e,ih]
theorem pI(kvs:List (κ×V))(k j:κ)(y:V):valV (putK kvs k y) j=if j=k then some y else valV kvs j:=by
 unfold putK
 by_cases a:(kvs.any fun kv=>decide (kv.1=k))=true
 ·rw[if_pos a,wX]
  rw[l8]at a
  by_cases e:j=k
  ·obtain⟨x,hx⟩:=Gs.mp a
   rw[if_pos e,e,hx,GK,if_pos rfl]
  ·rw[if_neg e]
   cases valV kvs j with
   |none=>rfl
   |some x=>rw[GK,if_neg e]
 ·rw[if_neg a]
  refine rN k j y kvs ?_
  rw[l8]at a
  cases q:valV kvs k with
  |none=>rfl
  |some x=>rw[q]at a;exact(a rfl).elim
theorem fT(kvs:List (κ×V))(k:κ)(v:V):(putK kvs k v).length<=kvs.length+1:=by
 unfold putK
 split
 ·rw[D3];omega
 ·rw[D2,ET,GO];omega
theorem RelO.isSome_eq{o:Option V}{u:Option Value}(r:RelO o u):o.isSome=u.isSome:=by
 cases o with
 |none=>cases u with
  |none=>rfl
  |some _=>exact(show False from r).elim
 |some _=>cases u with
  |none=>exact(show False from r).elim
  |some _=>rfl
theorem KV.val{kvs:List (κ×V)}{vs:List (κ×Value)}(r:KV kvs vs)(k:κ):RelO (valV kvs k) (valueAt vs k):=by
 unfold KV at r
 induction r with
 |nil=>exact True.intro
 | @cons p q ps qs h t ih =>
  obtain⟨h1,h2⟩:=h
  by_cases e:p.1=k
  ·have e':q.1=k:=h1.symm.trans e
   have b:valueAt (q::qs) k=some q.2:=by simp[valueAt,FV,e']
   rw[cM e,b];exact h2
  ·have e':¬ q.1=k:=fun z=>e (h1.trans z)
   have b:valueAt (q::qs) k=valueAt qs k:=by simp[valueAt,FV,e']
   rw[cN e,b];exact ih
theorem KV.any{kvs:List (κ×V)}{vs:List (κ×Value)}(r:KV kvs vs)(k:κ):(kvs.any fun kv=>decide (kv.1=k))=vs.any fun kv=>decide (kv.1=k):=by
 unfold KV at r
 induction r with
 |nil=>rfl
 |cons h t ih=>rw[F9,F9,ih,h.1]
theorem KV.repl{kvs:List (κ×V)}{vs:List (κ×Value)}(r:KV kvs vs)(k:κ){y:V}{u:Value}(ry:RelV y u) :
  KV (kvs.map fun kv=>if kv.1=k then(kv.1,y) else kv) (vs.map fun kv=>if kv.1=k then(kv.1,u) else kv):=by
 unfold KV at r ⊢
 induction r with
 |nil=>exact .nil
 | @cons p q ps qs h t ih =>
  rw[EU,EU]
  refine .cons ?_ ih
  obtain⟨h1,h2⟩:=h
  by_cases e:p.1=k
  ·rw[if_pos e,if_pos (h1.symm.trans e)];exact⟨h1,ry⟩
  ·rw[if_neg e,if_neg (fun z=>e (h1.trans z))];exact⟨h1,h2⟩
theorem KV.put{kvs:List (κ×V)}{vs:List (κ×Value)}(r:KV kvs vs)(k:κ){y:V}{u:Value}(ry:RelV y u):KV (putK kvs k y) (stored vs k u):=by
 unfold putK stored
 rw[r.any k]
 by_cases e:(vs.any fun kv=>decide (kv.1=k))=true
 ·rw[if_pos e,if_pos e];exact r.repl k ry
 ·rw[if_neg e,if_neg e];exact Paired.snoc r ⟨rfl,ry⟩
theorem KV.length{kvs:List (κ×V)}{vs:List (κ×Value)}(r:KV kvs vs):kvs.length=vs.length:=Paired.length r
end
theorem BM{P:Program}{w:World}{k:Key}{u:Value}(r:RelV (kV k) u):(df P w).is k u=true:=by
 cases k with
 |inl i=>obtain⟨t,e⟩:=(show ∃ t,u=Value.int i t from r);subst e;exact vz P w i t
 |inr x=>obtain⟨t,e⟩:=(show ∃ t,u=Value.str x t from r);subst e;exact vy P w x t
theorem sU{P:Program}{w:World}:∀{ks:List Key}{us:List Value},Vals (ks.map kV) us->ItemsAre (df P w) ks us
 |[],_,r=>by rw[List.map_nil]at r;cases r;exact .nil
 |k::ks,_,r=>by
  rw[EU]at r
  cases r with
  |cons h t=>exact .cons (BM h) (sU t)
abbrev KT(H:Hp):List (List Key×V)->List (List Key×Addr×Value)->Prop:=Paired fun p q=>p.1=q.1/\H q.2.1=some (.tup (p.1.map kV))/\RelV p.2 q.2.2
theorem KT.val{H:Hp}{kvs:List (List Key×V)}{xs:List (List Key×Addr×Value)}(r:KT H kvs xs)(k:List Key):RelO (valV kvs k) ((atKey xs k).map (·.2)):=by
 induction r with
 |nil=>exact True.intro
 | @cons p q ps qs h t ih =>
  obtain⟨h1,_,h2⟩:=h
  by_cases e:p.1=k
  ·have e':q.1=k:=h1.symm.trans e
   have b:atKey (q::qs) k=some q.2:=by simp[atKey,FV,e']
   rw[cM e,b];exact h2
  ·have e':¬ q.1=k:=fun z=>e (h1.trans z)
   have b:atKey (q::qs) k=atKey qs k:=by simp[atKey,FV,e']
   rw[cN e,b];exact ih
theorem KT.repl{H:Hp}{kvs:List (List Key×V)}{xs:List (List Key×Addr×Value)}(r:KT H kvs xs)(k:List Key){y:V}{u:Value}(ry:RelV y u) :
  KT H (kvs.map fun kv=>if kv.1=k then(kv.1,y) else kv) (xs.map (putAt k u)):=by
 induction r with
 |nil=>exact .nil
 | @cons p q ps qs h t ih =>
  rw[EU,EU]
  refine .cons ?_ ih
  obtain⟨h1,h2,h3⟩:=h
  unfold putAt
  by_cases e:p.1=k
  ·rw[if_pos e,if_pos (h1.symm.trans e)];exact⟨h1,h2,ry⟩
  ·rw[if_neg e,if_neg (fun z=>e (h1.trans z))];exact⟨h1,h2,h3⟩
theorem KT.put{H:Hp}{kvs:List (List Key×V)}{xs:List (List Key×Addr×Value)}(r:KT H kvs xs)(k:List Key){b:Addr}{y:V}{u:Value}(hb:H b=some (.tup (k.map kV)))(ry:RelV y u) :
  KT H (putK kvs k y) (storedH xs k b u):=by
 have e:(kvs.any fun kv=>decide (kv.1=k))=(atKey xs k).isSome:=by
  rw[l8,(r.val k).isSome_eq,Option.isSome_map]
 unfold putK storedH
 rw[e]
 by_cases q:(atKey xs k).isSome=true
 ·rw[if_pos q,if_pos q];exact r.repl k ry
 ·rw[if_neg q,if_neg q];exact Paired.snoc r ⟨rfl,hb,ry⟩
theorem KT.keeps{H H':Hp}{kvs:List (List Key×V)}{xs:List (List Key×Addr×Value)}(r:KT H kvs xs)(ht:∀ b ys,H b=some (.tup ys)->H' b=some (.tup ys)):KT H' kvs xs :=
 Paired.mapP r fun _ _ z=>⟨z.1,ht _ _ z.2.1,z.2.2⟩
section
variable{P:Program}{w:World}{H:Hp}{h:Heap}{a:Addr}
theorem rd_of{u:HO}(ok:HOk P w H h)(e:Rd H a u):dt P w H h a u:=e.ok ok
theorem B0{kvs:List (Key×V)}(ok:HOk P w H h)(e:Rd H a (.dK kvs)):kvs.length<=sizeLine/\(a == sysModules)=false/\∃ vs,KV kvs vs/\h.DictOf (df P w) a vs :=
 show dt P w H h a (.dK kvs) from rd_of ok e
theorem dk_of{kvs:List (Key×V)}(ok:HOk P w H h)(e:H a=some (.dK kvs)):kvs.length<=sizeLine/\(a == sysModules)=false/\∃ vs,KV kvs vs/\h.DictOf (df P w) a vs:=B0 ok (.inl e)
theorem xB{ks:List Key}(ok:HOk P w H h)(e:H a=some (.tup (ks.map kV))):(tupleKind (df P w)).is h ks a:=by
 obtain⟨_,its,r,o,h1,h2,n,h3⟩:=(show dt P w H h a (.tup (ks.map kV)) from ok a _ e)
 exact⟨o,its.toArray,n,h1,h2,h3,by simpa using sU r⟩
theorem BX{kvs:List (List Key×V)}(ok:HOk P w H h)(e:Rd H a (.dT kvs)):kvs.length<=sizeLine/\(a == sysModules)=false /\
  ∃ xs,KT H kvs xs/\h.DictOfH (tupleKind (df P w)) a xs:=by
 obtain⟨z,y,xs,r,o,es,ep,h1,h2,h3,h4,h5⟩:=(show dt P w H h a (.dT kvs) from rd_of ok e)
 refine⟨z,y,xs,r,o,es,ep,h1,h2,h3,h4,fun x hx=>?_,h5⟩
 have all:∀{l:List (List Key×V)}{m:List (List Key×Addr×Value)},KT H l m->∀ x∈m,(tupleKind (df P w)).is h x.1 x.2.1:=by
  intro l m q
  induction q with
  |nil=>intro x hx;exact nomatch hx
  | @cons p q ps qs hq t ih =>
   intro x hx
   rcases Ec.mp hx with e | hx
   ·subst e
    exact xB ok (by rw[← hq.1];exact hq.2.1)
   ·exact ih x hx
 exact all r x hx
theorem dt_of{kvs:List (List Key×V)}(ok:HOk P w H h)(e:H a=some (.dT kvs)):kvs.length<=sizeLine/\(a == sysModules)=false /\
  ∃ xs,KT H kvs xs/\h.DictOfH (tupleKind (df P w)) a xs:=BX ok (.inl e)
end
def DGet(H:Hp)(a:Addr)(y:V)(r:Option V):Prop :=
 (∃ kvs k,Rd H a (.dK kvs)/\y=kV k/\r=valV kvs k)∨∃ kvs k b,Rd H a (.dT kvs)/\y=.ref b/\H b=some (.tup (k.map kV))/\r=valV kvs k
def DPut(H:Hp)(a:Addr)(y v:V)(H':Hp):Prop :=
 (∃ kvs k,H a=some (.dK kvs)/\y=kV k/\kvs.length<sizeLine/\H'=upd H a (.dK (putK kvs k v))) ∨
 ∃ kvs k b,H a=some (.dT kvs)/\y=.ref b/\H b=some (.tup (k.map kV))/\kvs.length<sizeLine/\H'=upd H a (.dT (putK kvs k v))
theorem DGet.k{H:Hp}{a:Addr}{kvs:List (Key×V)}{k:Key}(e:H a=some (.dK kvs)):DGet H a (kV k) (valV kvs k):=.inl ⟨kvs,k,.inl e,rfl,rfl⟩
theorem DPut.k{H:Hp}{a:Addr}{kvs:List (Key×V)}{k:Key}{v:V}(e:H a=some (.dK kvs))(hl:kvs.length<sizeLine):DPut H a (kV k) v (upd H a (.dK (putK kvs k v))):=.inl ⟨kvs,k,e,rfl,hl,rfl⟩
section
variable{X:Cx}{pins:List (Addr×Obj)}{σ:St}{H:Hp}{s:Shared}{a:Addr}{y v:V}{u r:Value}{o:Option V}{A:Around}{E:Value->Shared->Prop}
theorem Inv.big(I:Inv X pins σ H s):sysModules<s.heap.objs.size:=by
 have h:mainGlobals<s.heap.objs.size:=(I.mod.glob.keeps I.bk).lt
 exact Nat.lt_trans (by decide) h
theorem AO{Q:Value->Shared->Prop}(hu:A.units+1<cLine)(I:Inv X pins σ H s)(g:DGet H a y (some v))(ry:RelV y u)(h:∀ w' s',Inv X pins σ H s'->RelV v w'->Q w' s') :
  wpAny (model X.prog X.w) A (getItem (.ref a) u) Q E s:=by
 rcases g with⟨kvs,k,e,ey,l⟩ | ⟨kvs,k,b,e,ey,eb,l⟩
 ·subst ey
  obtain⟨z,hd,vs,rel,dd⟩:=B0 I.hok e
  obtain⟨w',hw,rw'⟩:=RelO.some_of (v:=v) (o:=valueAt vs k) (by rw[l];exact rel.val k)
  exact wpAny_getItem_of (BM ry) dd.mapOf hw (h w' _ (I.tok _) rw')
 ·subst ey
  cases (show u=Value.ref b from ry)
  obtain⟨z,hd,xs,rel,dd⟩:=BX I.hok e
  obtain⟨w',hw,rw'⟩:=RelO.some_of (v:=v) (o:=(atKey xs k).map (·.2)) (by rw[l];exact rel.val k)
  obtain⟨p,hp,hp2⟩:=EO.mp hw
  refine wpAny_getItem_heap (tupleKind_room_in1 hu) (xB I.hok eb) dd hp ?_
  rw[hp2]
  exact h w' _ (I.tok _) rw'
theorem DR{Q:Value->Shared->Prop}(hu:A.units+1<cLine)(I:Inv X pins σ H s)(g:DGet H a y o)(ry:RelV y u)(h:∀ s',Inv X pins σ H s'->Q (.bool (!o.isSome)) s') :
  wpAny (model X.prog X.w) A (compareOp .NotIn u (.ref a)) Q E s:=by
 rcases g with⟨kvs,k,e,ey,l⟩ | ⟨kvs,k,b,e,ey,eb,l⟩
 ·subst ey
  obtain⟨z,hd,vs,rel,dd⟩:=B0 I.hok e
  refine wpAny_notIn_of (BM ry) hd dd.mapOf ?_
  rw[← (rel.val k).isSome_eq,← l]
  exact h _ (I.tok _)
 ·subst ey
  cases (show u=Value.ref b from ry)
  obtain⟨z,hd,xs,rel,dd⟩:=BX I.hok e
  refine wpAny_notIn_heap (tupleKind_room_in1 hu) (xB I.hok eb) hd dd ?_
  have q:=(rel.val k).isSome_eq
  rw[Option.isSome_map]at q
  rw[← q,← l]
  exact h _ (I.tok _)
theorem AM{h':Heap}{t':Nat}{ob:HO}(I:Inv X pins σ H s)(mu:Mut (H a))(hs:Heap.SameBut a s.heap h')(he:∃ q,h'.get? a=some q)(new:dt X.prog X.w (upd H a ob) h' a ob) :
  Inv X pins σ (upd H a ob) { s with heap:=h',toks:=t' } :=
 I.write (x:=a) (e:=a) mu (.inl rfl) (fun b q hb z=>(hs.2 b hb).trans z) he new
theorem dk_new{P:Program}{w:World}{H':Hp}{h':Heap}{kvs:List (Key×V)}{vs:List (Key×Value)}(z:kvs.length<=sizeLine)(hd:(a == sysModules)=false)(rel:KV kvs vs)(dd:h'.DictOf (df P w) a vs) :
  dt P w H' h' a (.dK kvs):=⟨z,hd,vs,rel,dd⟩
theorem AN{H':Hp}{Q:Unit->Shared->Prop}(hu:A.units+1<cLine)(I:Inv X pins σ H s)(g:DPut H a y v H')(ry:RelV y u)(rv:RelV v r)(h:∀ s',Inv X pins σ H' s'->Q () s') :
  wpAny (model X.prog X.w) A (setItem (.ref a) u r) Q E s:=by
 rcases g with⟨kvs,k,e,ey,l,eH⟩ | ⟨kvs,k,b,e,ey,eb,l,eH⟩
 ·subst ey eH
  obtain⟨z,hd,vs,rel,dd⟩:=dk_of I.hok e
  have hz:vs.length<=sizeLine:=by rw[← rel.length];exact z
  have hl:(putK kvs k v).length<=sizeLine:=by have:=fT kvs k v;omega
  refine wpAny_setItem_pairs (hsz:=hz) (BM ry) dd fun h' dd' hs=>h _ ?_
  have he:∃ q,h'.get? a=some q:=let ⟨q,_,_,hq,_⟩:=dd';⟨q,hq⟩
  exact AM I (by rw[e];exact True.intro) hs he (dk_new hl hd (rel.put k rv) dd')
 ·subst ey eH
  cases (show u=Value.ref b from ry)
  obtain⟨z,hd,xs,rel,dd⟩:=dt_of I.hok e
  have hz:xs.length<=sizeLine:=by rw[← Paired.length rel];exact z
  have hl:(putK kvs k v).length<=sizeLine:=by have:=fT kvs k v;omega
  refine wpAny_setItem_heap (hsz:=hz) (tupleKind_room_in1 hu) (xB I.hok eb) dd fun h' dd' hs=>h _ ?_
  obtain⟨q,es,ep,hq,h2,h3,h4,_,h5⟩:=dd'
  refine AM I (by rw[e];exact True.intro) hs ⟨q,hq⟩ ⟨hl,hd,_,(rel.put k eb rv).keeps fun c ys ec=>?_,q,es,ep,hq,h2,h3,h4,h5⟩
  rw[aq (ne_of ec e (fun z=>nomatch z))]
  exact ec
end
section
variable{X:Cx}{pins:List (Addr×Obj)}{σ:St}{H:Hp}{s:Shared}{a:Addr}{kvs:List (Key×V)}{k:Key}{u:Value}{A:Around}{E:Value->Shared->Prop}
end
def NoSl(i:Expr):Prop:=∀ ov iv,subscripted i false ov iv=operate [ov,iv] (getItem ov iv)
theorem CM{prog:Program}{w:World}{A:Around}{E:Value->Shared->Prop}{s:Shared}{env:Env}{value slice:Expr}{pos:Pos}{T id:String}{Q:Value->Shared->Prop}
  (hl:typeLookup (.type T) "__getitem__" = pure (some (.builtin id))) (hs:NoSl slice)
  (h:wpAny (model prog w) A (eval value env) (fun o s₁=>wpAny (model prog w) A (eval slice env) (fun i s₂=>s₂.TypeIs o T/\wpAny (model prog w) A (getItem o i) Q E s₂) E s₁) E s) :
  wpAny (model prog w) A (eval (.Subscript value slice pos) env) Q E s:=by
 refine Subscript_ (wpAny_mono h (fun o s₁ h₁=>wpAny_mono h₁ (fun i s₂ h₂=>?_) fun _ _ x=>x) fun _ _ x=>x)
 obtain⟨hT,h₂⟩:=h₂
 unfold subscriptTail
 refine wpAny_bind ?_
 rw[getitemInPython_of_ne hT.not_modules]
 refine wpAny_bind (wpAny_specialOf hT hl ?_)
 have fin:wpAny (model prog w) A (subscripted slice false o i) (fun r s₃=>wpAny (model prog w) A (letTemporaryGo value o r >>= fun _=>pure r) Q E s₃) E s₂:=by
  rw[hs o i]
  exact wpAny_operating (wpAny_mono h₂ (fun r s₃ h₃=>wpAny_bind (wpAny_letTemporaryGo (wpAny_pure h₃))) fun _ _ x=>x)
 first
  |exact wpAny_pure (wpAny_bind fin)
  |exact wpAny_bind (wpAny_pure (wpAny_bind fin))
  |exact wpAny_bind fin
theorem vU{X:Cx}{pins:List (Addr×Obj)}{σ:St}{H:Hp}{s:Shared}{a:Addr}{y:V}{o:Option V}(I:Inv X pins σ H s)(g:DGet H a y o):s.TypeIs (.ref a) "dict":=by
 rcases g with⟨kvs,k,e,_,_⟩ | ⟨kvs,k,b,e,_,_,_⟩
 ·obtain⟨_,_,vs,_,dd⟩:=B0 I.hok e
  exact dd.typeIs
 ·obtain⟨_,_,xs,_,dd⟩:=BX I.hok e
  exact dd.typeIs
def tDGet(td ty:TE):TE:=fun σ H Q=>td σ H fun x H1=>ty σ H1 fun y H2=>∃ a v,x=.ref a/\DGet H2 a y (some v)/\Q v H2
def CL(ty td:TE):TE:=fun σ H Q=>ty σ H fun y H1=>td σ H1 fun x H2=>∃ a o,x=.ref a/\DGet H2 a y o/\Q (.bl (!o.isSome)) H2
def sDPut(td ty tv:TE):TS:=fun D σ H=>tv σ H fun v H1=>td σ H1 fun x H2=>ty σ H2 fun y H3=>∃ a H4,x=.ref a/\DPut H3 a y v H4/\D.nx σ H4
section
variable{X:Cx}{o i e value:Expr}{pos pos' tpos:Pos}{td ty tv:TE}
theorem zV(hu:X.A.units+1<cLine)(ho:PE X o td)(hi:PE X i ty)(hs:NoSl i):PE X (.Subscript o i pos) (tDGet td ty):=by
 intro pins s σ H Q I h
 refine CM PySem.F.slot_dict_getitem.lookup hs (thn (ho pins s σ H _ I h) fun u s1 ⟨x,H1,I1,rx,q1⟩=>thn (hi pins s1 σ H1 _ I1 q1) fun iv s2 ⟨y,H2,I2,ry,a,v,ex,g,q2⟩=>?_)
 subst ex
 obtain rfl:u=Value.ref a:=rx
 exact⟨vU I2 g,AO hu I2 g ry fun w' s3 I3 rw'=>⟨v,H2,I3,rw',q2⟩⟩
theorem zW(hu:X.A.units+1<cLine)(hi:PE X i ty)(ho:PE X o td):PC X .NotIn i o (CL ty td):=by
 intro pins s σ H Q I h
 refine thn (hi pins s σ H _ I h) fun iv s1 ⟨y,H1,I1,ry,q1⟩=>thn (ho pins s1 σ H1 _ I1 q1) fun u s2 ⟨x,H2,I2,rx,a,ov,ex,g,q2⟩=>?_
 subst ex
 obtain rfl:u=Value.ref a:=rx
 exact DR hu I2 g ry fun s3 I3=>⟨.bl (!ov.isSome),H2,I3,rfl,q2⟩
theorem zN(hu:X.A.units+1<cLine)(ho:PE X o td)(hi:PE X i ty)(hv:PE X value tv)(hs:swapsWith value (some (.Subscript o i pos')) pos.line X.env=pure false) :
  PS X (.Assign [.Subscript o i pos'] value pos) (sDPut td ty tv):=by
 intro pins s σ H D I h
 refine wpAny_Assign_Subscript (thn (hv pins s σ H _ I h) fun r s1 ⟨v,H1,I1,rv,q1⟩=>thn (ho pins s1 σ H1 _ I1 q1) fun u s2 ⟨x,H2,I2,rx,q2⟩=>thn (hi pins s2 σ H2 _ I2 q2) fun iv s3 ⟨y,H3,I3,ry,a,H4,ex,g,q3⟩=>?_) hs
 subst ex
 obtain rfl:u=Value.ref a:=rx
 exact AN hu I3 g ry rv fun s4 I4=>⟨σ,H4,I4,q3⟩
end
theorem B3{P:Program}{w:World}{H:Hp}(h:Heap)(hb:sysModules<h.objs.size):dt P w H (h.push { cls:=.type "dict",data:=.dict #[] }) h.objs.size (.dK []) :=
 ⟨Fu _,beq_eq_false_iff_ne.mpr (Ne.symm (ES hb)),[],.nil,Heap.DictOf.new h⟩
def tDNewK:TE:=fun _ H Q=>∀ p,H p=none->Q (.ref p) (upd H p (.dK []))
section
variable{X:Cx}{pos:Pos}
theorem xj:PE X (.Dict [] [] pos) tDNewK:=fun pins s σ H Q I h =>
 wpAny_Dict_empty ⟨.ref s.heap.objs.size,_,I.laid (a:=s.heap.objs.size) (o:=.dK []) (t':=s.toks) (fun _ _ q=>Heap.get?_push_of_some _ q) (Ea _) (B3 s.heap I.big),rfl,h _ (I.hok.fresh (Ea _))⟩
end
section
variable{X:Cx}{pins:List (Addr×Obj)}{σ:St}{H:Hp}{s:Shared}{a:Addr}{y d:V}{u r:Value}{o:Option V}{A:Around}{E:Value->Shared->Prop}
end
section
variable{X:Cx}{o e f:Expr}{apos cpos:Pos}{td ty tx:TE}
end
section
variable{X:Cx}{pins:List (Addr×Obj)}{σ:St}{H:Hp}{s:Shared}{a:Addr}{kvs:List (Key×V)}{A:Around}{E:Value->Shared->Prop}
end
section
variable{X:Cx}{pins:List (Addr×Obj)}{σ:St}{H:Hp}{s:Shared}{a:Addr}{y:V}{u:Value}{A:Around}{E:Value->Shared->Prop}
end
end L2
namespace Att
open PySem PySem.W PySem.Calls PyProof.Rows
section
variable{prog:Program}{w:World}{A:Around}{E:Value->Shared->Prop}{s:Shared}{K:Frag}
end
end Att
namespace L2
open PySem PySem.Spec PyProof.Rows
end L2
namespace L2
open PySem PySem.Spec PyProof.Rows
end L2
namespace L2
open PySem PySem.Spec PyProof.Rows
section
variable{P:Program}{w:World}{K:D5}{mg:Str->Option Value}{base:Heap}
end
section
variable{X:Cx}
end
section
variable{κ:Type} [DecidableEq κ]
end
end L2
namespace L2
open PySem PySem.Spec PyProof.Rows
def clOf(env:Env)(fr:List (Str×Nat)):List (Str×Addr):=fr.map fun p=>(p.1,(env.cells.lookup p.1).getD 0)
def frOf(fr:List (Str×Nat))(σ:St):St:=fr.map fun p=>(σ[p.2]?).join
def dS(X:Cx)(scope:Scope)(fr:List (Str×Nat))(x:Str)(C:Addr)(ex:List Addr)(s:Shared)(H:Hp):Cx where
 prog:=X.prog
 w:=X.w
 K:=X.K
 mg:=X.mg
 base:=X.base
 A:=X.A
 N:=x::fr.map (·.1)
 s₀:=s
 H₀:=H
 env:=compEnvC scope (clOf X.env fr) C X.env
 outer:=X.stack
 stack:=X.stack
 ex:=ex
 fn:=fun _=>false
 calm:=X.calm
 pn:=[]
 xe:=fun _ _=>False
structure c6(X:Cx)(scope:Scope)(fr:List (Str×Nat))(x:Str):Prop where
 clos:closureFor scope X.env=pure (clOf X.env fr)
 cell:∀ y∈scope.names,y.2≠.cell
 kind:scope.kind=.function
 names:∀ y∈scope.names,y.2=.local->scope.names.lookup y.1=some .local
 xl:scope.names.lookup x=some .local
 nd:(x::fr.map (·.1)).Nodup
 slot:∀ p∈fr,X.N[p.2]?=some p.1/\X.env.kindOf p.1=some .cell
 has:∀ y∈(relabel scope X.env).names,(y.2=.cell∨y.2=.free)->y.1∈fr.map (·.1)
 frk:∀ p∈fr,(relabel scope X.env).names.lookup p.1=some .cell
theorem c6.plain{X:Cx}{scope:Scope}{x:Str}(clos:closureFor scope X.env=pure [])(cell:∀ y∈scope.names,y.2≠.cell)(kind:scope.kind=.function)(names:∀ y∈scope.names,y.2=.local->scope.names.lookup y.1=some .local)
  (hx:scope.names.lookup x=some .local) (nf:∀ y∈scope.names,y.2≠.free):c6 X scope [] x where
 clos:=clos
 cell:=cell
 kind:=kind
 names:=names
 xl:=hx
 nd:=by simp
 slot:=fun p hp=>nomatch hp
 has:=fun y hy hk=>by
  obtain⟨⟨n,k⟩,hz,e⟩:=EW.mp (show y∈scope.names.map _ from hy)
  have h1:=nf _ hz
  have h2:=cell _ hz
  dsimp only at e h1 h2
  have hf:(k == NameKind.free)=false:=by simpa using h1
  rw[hf]at e
  simp only[HB,Ff,if_false]at e
  subst e
  exact(hk.elim h2 h1).elim
 frk:=fun p hp=>nomatch hp
theorem c6.one{X:Cx}{scope:Scope}{x y:Str}{j:Nat}(clos:closureFor scope X.env=pure (clOf X.env [(y,j)]))(cell:∀ y∈scope.names,y.2≠.cell)(kind:scope.kind=.function)(names:∀ y∈scope.names,y.2=.local->scope.names.lookup y.1=some .local)
  (hx:scope.names.lookup x=some .local) (nd:([x,y]:List Str).Nodup) (hN:X.N[j]?=some y) (hk:X.env.kindOf y=some .cell) (nf:∀ z∈scope.names,z.2=.free->z.1=y) (hr:(relabel scope X.env).names.lookup y=some .cell):c6 X scope [(y,j)] x where
 clos:=clos
 cell:=cell
 kind:=kind
 names:=names
 xl:=hx
 nd:=nd
 slot:=fun p hp=>by
  have e:p=(y,j):=by simpa using hp
  subst e
  exact⟨hN,hk⟩
 has:=fun z hz hk=>by
  obtain⟨⟨n,k⟩,hm,e⟩:=EW.mp (show z∈scope.names.map _ from hz)
  have h2:=cell _ hm
  dsimp only at e h2
  have hn:z.1=n:=by rw[← e];split<;>rfl
  have hf:k=.free:=by
   by_cases q:k=.free
   ·exact q
   ·have hb:(k == NameKind.free)=false:=by simpa using q
    rw[hb]at e
    simp only[HB,Ff,if_false]at e
    subst e
    exact(hk.elim h2 q).elim
  have:=nf _ hm hf
  rw[hn]
  simp[← this]
 frk:=fun p hp=>by
  have e:p=(y,j):=by simpa using hp
  subst e
  exact hr
theorem iR{env:Env}:∀{fr:List (Str×Nat)}{y:Str}{c:Addr},(clOf env fr).lookup y=some c->y∈fr.map (·.1)/\c=(env.cells.lookup y).getD 0
 |[],_,_,h=>by cases h
 |p::r,y,c,h=>by
  unfold clOf at h
  rw[EU,List.lookup_cons]at h
  cases e:y == p.1 with
  |true =>
   rw[e]at h
   have ey:y=p.1:=eq_of_beq e
   cases h
   exact⟨by rw[ey];exact Eh,by rw[ey]⟩
  |false =>
   rw[e]at h
   obtain⟨a,b⟩:=iR (env:=env) (fr:=r) h
   exact⟨Ef _ a,b⟩
theorem eO{env:Env}:∀{fr:List (Str×Nat)}{y:Str},y∈fr.map (·.1)->(clOf env fr).lookup y=some ((env.cells.lookup y).getD 0)
 |[],_,h=>by cases h
 |p::r,y,h=>by
  unfold clOf
  rw[EU,List.lookup_cons]
  cases e:y == p.1 with
  |true =>
   have ey:y=p.1:=eq_of_beq e
   rw[ey]
  |false =>
   have ny:y≠p.1:=fun z=>by rw[z]at e;simp at e
   rcases Ec.mp h with z | z
   ·exact absurd z ny
   ·exact eO (env:=env) (fr:=r) z
section
variable{X:Cx}{pins:List (Addr×Obj)}{σ:St}{H:Hp}{s:Shared}{scope:Scope}{fr:List (Str×Nat)}{x:Str}
theorem c6.cells(O:c6 X scope fr x)(I:Inv X pins σ H s){y:Str}{c:Addr}(h:(clOf X.env fr).lookup y=some c):X.env.cells.lookup y=some c:=by
 obtain⟨hm,e⟩:=iR h
 obtain⟨p,hp,ep⟩:=EW.mp hm
 have k:=(O.slot p hp).2
 rw[ep]at k
 obtain⟨c',e'⟩:=I.ok.has y (.inl k)
 rw[e']at e
 rw[e',e]
 rfl
theorem BO{fp:List Addr}(O:c6 X scope fr x)(I:Inv X pins σ H s)(hf:∀ b∈fp,FpOk X pins H b)(hfs:∀ b∈fp,b<s.heap.objs.size){g h':Heap}{tk:Nat}(hg:g=s.heap.push (LCg.lst []))
  (hk:∀ b o,g.get? b=some o->h'.get? b=some o) (hC:h'.Ns g.objs.size fun _=>none) :
  Inv (dS X scope fr x g.objs.size (s.heap.objs.size::fp) { s with heap:=g } H) (X.pn++pins++[(s.heap.objs.size,LCg.lst [])]) (none::frOf fr σ) H { s with heap:=h',toks:=tk }:=by
 have hsz:g.objs.size=s.heap.objs.size+1:=by rw[hg,Heap.size_push]
 have kp:∀ b o,s.heap.get? b=some o->g.get? b=some o:=fun b o e=>by rw[hg];exact Heap.get?_push_of_some _ e
 have hk0:∀ b o,s.heap.get? b=some o->h'.get? b=some o:=fun b o e=>hk b o (kp b o e)
 have hDo:h'.get? s.heap.objs.size=some (LCg.lst []):=hk _ _ (by rw[hg];exact Heap.get?_push_size _ rfl)
 have neC:∀ b,b<s.heap.objs.size->b≠g.objs.size:=fun b e=>by rw[hsz];exact ES (G7 e)
 have hDC:s.heap.objs.size≠g.objs.size:=by rw[hsz];exact ES (F3 _)
 have hfr:H g.objs.size=none:=I.hok.fresh (by rw[hsz];exact Fv _)
 have hfD:H s.heap.objs.size=none:=I.hok.fresh (Ea _)
 have cne:∀ y c,X.env.cells.lookup y=some c->c<s.heap.objs.size:=fun y c e=>by
  obtain⟨v,q⟩:=I.cell y c e
  exact q.lt
 have nst:∀ b,b≠X.env.locals->b∉X.fs->b∉frs X.stack:=fun b h1 h2 z=>(Ec.mp (I.stkSub b z)).elim h1 h2
 have nstD:s.heap.objs.size∉frs X.stack:=nst _ (Hd I.lt) (I.nofs (Ea _))
 refine⟨⟨I.ok.mod,O.kind,I.ok.glob,I.ok.blt,Ea _,?_,?_,fun _ _ z _=>(by cases z),I.ok.hd,I.ok.frames,.inl rfl,?_,?_,?_,?_,?_,?_,I.stkFree⟩,rfl,I.bare,Un.kept hk,?_,?_,hfr,?_,?_,I.hok.kept hk0,?_⟩
 ·intro y z c h1 h2
  exact I.ok.inj y z c (O.cells I h1) (O.cells I h2)
 ·intro y hy
  have hm:y∈fr.map (·.1):=by
   rcases hy with hy | hy
   ·exact O.has (y,_) (Fo hy) (.inl rfl)
   ·exact O.has (y,_) (Fo hy) (.inr rfl)
  exact⟨_,eO hm⟩
 ·intro b hb
  rcases Ec.mp hb with rfl | hb
  ·exact⟨hDC,fun y c e=>ES (cne y c (O.cells I e))⟩
  ·exact⟨neC b (hfs b hb),fun y c e=>(hf b hb).2.2.2.2.1 y c (O.cells I e)⟩
 ·intro b o e
  exact⟨kp b o (I.bs b o e).1,(I.bs b o e).2⟩
 ·show X.base.objs.size<=g.objs.size
  rw[hsz]
  exact G8 (E7 I.ok.bsz I.sz)
 ·intro b o e hb
  rcases Ec.mp hb with z | hb
  ·have:=Heap.lt_size (I.bs b o e).1
   rw[z]at this
   exact Fh _ this
  ·rcases(hf b hb).2.2.2.1 with z | z
   ·exact I.ok.noex b o e z
   ·exact absurd (EL (Heap.lt_size (I.ok.bs b o e).1) z) (Fh _)
 ·intro b hb
  rcases Ec.mp hb with z | hb
  ·rw[z];exact nstD
  ·exact nst b (hf b hb).2.1 (hf b hb).2.2.1
 ·exact(I.kept (h':=g) (t':=s.toks) kp).stack
 ·refine⟨_,hC,fun i y v e1 e2 e3=>?_⟩
  cases i with
  |zero=>cases e2
  |succ k =>
   have e1':(fr.map (·.1))[k]?=some y:=e1
   have e2':(frOf fr σ)[k]?=some (some v):=e2
   unfold frOf at e2'
   rw[D9]at e1' e2'
   cases q:fr[k]? with
   |none=>rw[q]at e1';cases e1'
   |some p =>
    rw[q]at e1' e2'
    have ey:p.1=y:=Er e1'
    have ev:(σ[p.2]?).join=some v:=Er e2'
    have hp:p∈fr:=D4 q
    obtain⟨hN,hK⟩:=O.slot p hp
    have hkk:=O.frk p hp
    rw[ey]at hN hK hkk
    have ev':σ[p.2]?=some (some v):=by
     cases q2:σ[p.2]? with
     |none=>rw[q2]at ev;cases ev
     |some w=>rw[q2]at ev;exact congrArg some ev
    obtain⟨m,hn,hl⟩:=I.loc
    obtain⟨u,r,l⟩:=hl p.2 y v hN ev' (.inr (.inl hK))
    refine⟨u,r,?_⟩
    rcases l with⟨k1,_⟩ | ⟨_,c,ec,z⟩
    ·rw[hK]at k1;cases k1
    ·have hm:y∈fr.map (·.1):=by rw[← ey];exact EW.mpr ⟨p,hp,rfl⟩
     have el:=eO (env:=X.env) hm
     rw[ec]at el
     exact .inr ⟨.inl hkk,c,el,by obtain⟨o,ho,hd⟩:=z;exact⟨o,hk0 _ _ ho,hd⟩⟩
 ·intro y c e
  obtain⟨v,o,ho,hd⟩:=I.cell y c (O.cells I e)
  exact⟨v,o,hk0 _ _ ho,hd⟩
 ·intro y c e
  exact I.freeC y c (O.cells I e)
 ·intro p hp
  rcases Ee.mp hp with hp | hp
  ·cases hp
  ·rcases Ee.mp hp with hp | hp
   ·obtain⟨e,n,ne,nf,d⟩:=I.pin p hp
    exact⟨hk0 _ _ e,n,neC _ (Heap.lt_size e),nst _ ne nf,d⟩
   ·have ep:p=(s.heap.objs.size,LCg.lst []):=by simpa using hp
    subst ep
    exact⟨hDo,hfD,hDC,nstD,fun v z=>by cases z⟩
 ·show(none::frOf fr σ).length=(x::fr.map (·.1)).length
  unfold frOf
  simp
theorem sV{fp:List Addr}{g:Heap}{s':Shared}{H':Hp}{σ':St}{ys:List V}{us:List Value}(I:Inv X pins σ H s)(hf:∀ b∈fp,FpOk X pins H b)(hg:g=s.heap.push (LCg.lst []))
  (J:Inv (dS X scope fr x g.objs.size (s.heap.objs.size::fp) { s with heap:=g } H) (X.pn++pins++[(s.heap.objs.size,LCg.lst us)]) σ' H' s') (hv:Vals ys us) (hl:ys.length<=sizeLine) :
  Inv X pins σ (upd H' s.heap.objs.size (.lst ys)) s'/\H' s.heap.objs.size=none/\FpOk X pins (upd H' s.heap.objs.size (.lst ys)) g.objs.size/\∃ m,s'.heap.Ns g.objs.size m:=by
 have hsz:g.objs.size=s.heap.objs.size+1:=by rw[hg,Heap.size_push]
 have kp:∀ b o,s.heap.get? b=some o->g.get? b=some o:=fun b o e=>by rw[hg];exact Heap.get?_push_of_some _ e
 obtain⟨eD,nD,_,_,_⟩:=J.pin (s.heap.objs.size,LCg.lst us) (by simp)
 have hDC:g.objs.size≠s.heap.objs.size:=by rw[hsz];exact Hd (F3 _)
 have nD':∀ b u,H' b=some u->b≠s.heap.objs.size:=fun b u e z=>by rw[z]at e;rw[e]at nD;cases nD
 have hx:∀ b o,s.heap.get? b=some o->b∉fp->b∉s.heap.objs.size::fp:=fun b o e hb z=>by
  rcases Ec.mp z with z | z
  ·have:=Heap.lt_size e
   rw[z]at this
   exact Fh _ this
  ·exact hb z
 have bU:Un (frs X.stack) (s.heap.objs.size::fp) H H' g s'.heap:=J.base
 have ltD:∀ b o,s.heap.get? b=some o->b≠s.heap.objs.size:=fun b o e=>ES (Heap.lt_size e)
 have un:Un (frs X.stack) fp H (upd H' s.heap.objs.size (.lst ys)) s.heap s'.heap:=by
  refine⟨fun b o e n hb he=>bU.keep b o (kp b o e) n hb (hx b o e he),fun b o e n hb he=>bU.slot b o (kp b o e) n hb (hx b o e he),fun b o e n he=>?_,fun b o e he=>bU.there b o (kp b o e) (hx b o e he),fun b xs e=>?_,fun b o u e=>?_,fun b ps e=>?_⟩
  ·rw[aq (ltD b o e)];exact bU.free b o (kp b o e) n (hx b o e he)
  ·have q:=bU.tups b xs e
   rw[aq (nD' b _ q)];exact q
  ·have q:=bU.frzs b o u e
   rw[aq (nD' b _ q)];exact q
  ·obtain⟨more,q⟩:=bU.tbls b ps e
   exact⟨more,by rw[aq (nD' b _ q)];exact q⟩
 have hok:HOk X.prog X.w (upd H' s.heap.objs.size (.lst ys)) s'.heap:=fun b u e=>by
  by_cases hb:b=s.heap.objs.size
  ·rw[hb,ae]at e
   cases e
   rw[hb]
   exact⟨hl,us,us.length,hv,eD⟩
  ·rw[aq hb]at e
   exact(J.hok b u e).stay (fun c v _ q=>q) (fun c q=>by rw[aq (nD' c _ q)];exact q) fun c xs q=>by rw[aq (nD' c _ q)];exact q
 have os:s'.os=s.os:=J.os
 refine⟨I.call' os un hok J.bare fun b hb=>⟨(hf b hb).2.2.2.1,(hf b hb).2.1,(hf b hb).2.2.2.2⟩,nD,?_,?_⟩
 ·refine I.fpOk (H':=upd H' s.heap.objs.size (.lst ys)) (b:=g.objs.size) (by rw[hsz];exact Fv _) ?_
  rw[aq hDC]
  exact J.free
 ·obtain⟨m,hn,_⟩:=J.loc
  exact⟨m,hn⟩
end
def rO(te:TE)(fv:St)(J:It)(H1:Hp)(QQ:List V->Hp->Prop):Prop :=
 ∃ W:Nat->Nat->List V->Hp->Prop,(∃ m,W 0 m [] H1)/\∀ i m ys H,W i m ys H->ys.length<=sizeLine /\
  ((J.stop i H/\QQ ys H)∨(J.go i H/\∃ N:V->Hp->Prop,(∀ y H2,N y H2->∃ m',m'<m/\W (i+1) m' (ys++[y]) H2)/\∀ x H',J.yld i H x H'->te (some x::fv) H' N))
section
variable{X:Cx}{scope:Scope}{fr:List (Str×Nat)}{x:Str}{elt iter:Expr}{px pos:Pos}{te:TE}{wi:TI}
theorem tJ{pins:List (Addr×Obj)}{σ:St}{H:Hp}{s:Shared}{E:Value->Shared->Prop}{it:Addr}{fp:List Addr}{tn:Nat->Heap->Prop}{J:It}{RR:Value->Addr->Result->Shared->Prop}{QQ:List V->Hp->Prop}(hc:X.calm=true)(O:c6 X scope fr x)
  (he:∀ C ex s H,PE (dS X scope fr x C ex s H) elt te) (I:Inv X pins σ H s) (T:Turn X.prog X.w X.K (.Name x px) J fp it tn) (st:tn 0 s.heap) (hf:∀ b∈fp,FpOk X pins H b) (hq:rO te (frOf fr σ) J H QQ)
  (fin:∀ D C H4 ys s4 m,Inv X pins σ (upd H4 D (.lst ys)) s4->H4 D=none->FpOk X pins (upd H4 D (.lst ys)) C->s4.heap.Ns C m->QQ ys H4->RR (.ref D) C (.ok .next) s4) :
  wpAny (model X.prog X.w) X.A (newList []) (fun acc s₃=>wpAny (model X.prog X.w) X.A (newFunctionEnv scope X.env.globals (clOf X.env fr) [] X.env.qual none .none (some X.env)) (fun cenv s₄ =>
   codeAny (model X.prog X.w) X.A (.compStart (.ListComp elt [⟨.Name x px,iter,[],0⟩] scope pos) 0 (.ref it) acc { cenv with scope:=relabel scope X.env }) (RR acc cenv.locals) s₄) E s₃) E s:=by
 obtain⟨W,⟨m0,w0⟩,turn⟩:=hq
 have hfs:∀ b∈fp,b<s.heap.objs.size:=fun b hb=>by
  obtain⟨o,e,_⟩:=T.obj 0 s.heap st b hb
  exact Heap.lt_size e
 refine wpAny_newObj_type (wpAny_newFunctionEnv O.cell (by intro y hy;simp at hy) (fun h₁ hns₁ hsb₁=>?_) O.kind)
 dsimp only at hns₁ hsb₁ ⊢
 generalize hH2:s.heap.push { cls:=.type "list",dict:=none,data:=.seq ([]:List Value).toArray }=g at hns₁ hsb₁ ⊢
 have hg:g=s.heap.push (LCg.lst []):=hH2.symm
 have hsz:g.objs.size=s.heap.objs.size+1:=by rw[hg,Heap.size_push]
 have hk:∀ b o,g.get? b=some o->h₁.get? b=some o:=fun b o e=>hsb₁.extBut b o (ES (Heap.lt_size e)) (Heap.get?_push_of_some _ e)
 have kp:∀ b o,s.heap.get? b=some o->h₁.get? b=some o:=fun b o e=>hk b o (by rw[hg];exact Heap.get?_push_of_some _ e)
 have J0:=BO (h':=h₁) (tk:=s.toks+([]:List (Str×Value)).length) O I hf hfs hg hk hns₁
 have stat:∀{H':Hp}{us:List Value},(∀ b∈fp,H' b=none)->∀ b∈fp,FpOk (dS X scope fr x g.objs.size (s.heap.objs.size::fp) { s with heap:=g } H) (X.pn++pins++[(s.heap.objs.size,LCg.lst us)]) H' b:=fun{H' us} hn b hb=>by
  obtain⟨_,f1,f2,f3,f4,f5⟩:=hf b hb
  refine⟨hn b hb,?_,fun z=>(Ec.mp (I.stkSub b z)).elim f1 f2,.inl (Ef _ hb),fun y c e=>f4 y c (O.cells I e),fun p hp=>?_⟩
  ·show b≠g.objs.size
   rw[hsz];exact ES (G7 (hfs b hb))
  ·rcases Ee.mp hp with hp | hp
   ·cases hp
   ·rcases Ee.mp hp with hp | hp
    ·exact f5 p hp
    ·have ep:p=(s.heap.objs.size,LCg.lst us):=by simpa using hp
     rw[ep]
     exact Hd (hfs b hb)
 have loop:codeAny (model X.prog X.w) X.A (.compLoop (.ListComp elt [⟨.Name x px,iter,[],0⟩] scope pos) 0 (.ref it) (.ref s.heap.objs.size) (compEnvC scope (clOf X.env fr) g.objs.size X.env))
   (RR (.ref s.heap.objs.size) g.objs.size) { s with heap:=h₁,toks:=s.toks+([]:List (Str×Value)).length }:=by
  refine codeAny_compLoop_tests (fun n s'=>∃ i ys us H',Inv (dS X scope fr x g.objs.size (s.heap.objs.size::fp) { s with heap:=g } H) (X.pn++pins++[(s.heap.objs.size,LCg.lst us)]) (none::frOf fr σ) H' s'/\Vals ys us/\tn i s'.heap/\(∀ b∈fp,H' b=none)/\W i n ys H') ?_ m0
   ⟨0,[],[],H,J0,.nil,T.keep 0 s.heap h₁ st fun b _ o e=>kp b o e,fun b hb=>(hf b hb).1,w0⟩
  rintro n s3 ⟨i,ys,us,H3,J3,hv,st3,fr3,w3⟩
  obtain⟨hlen,hh⟩:=turn i n ys H3 w3
  have none_err:∀{α:Type}{t:Sem α}{Q:α->Shared->Prop}{E':Value->Shared->Prop}{s:Shared},wpAny (model X.prog X.w) X.A t Q (fun _ _=>False) s->wpAny (model X.prog X.w) X.A t Q E' s:=fun h=>wpAny_mono h (fun _ _ q=>q) fun _ _ z=>z.elim
  rcases hh with⟨stop,qn⟩ | ⟨go,N,hN,step⟩
  ·refine none_err (thn (T.done (dS X scope fr x g.objs.size (s.heap.objs.size::fp) { s with heap:=g } H) rfl rfl rfl hc i _ s3 _ H3 _ J3 (stat fr3) st3 stop) fun r s4 ⟨hr,J4⟩=>?_)
   subst hr
   obtain⟨I4,nD,fC,m,hn⟩:=sV I hf hg J4 hv hlen
   exact fin _ _ H3 ys s4 m I4 nD fC hn qn
  ·refine none_err (thn (T.item (dS X scope fr x g.objs.size (s.heap.objs.size::fp) { s with heap:=g } H) rfl rfl rfl hc i _ s3 _ H3 _ J3 (stat fr3) st3 go) fun r s4 ⟨u,hr,h4⟩=>?_)
   subst hr
   have h4':=wpAny_bind (f:=fun _=>assign (.Name x px) (compEnvC scope (clOf X.env fr) g.objs.size X.env) u) (thn h4 (Q':=fun _ s5=>wpAny (model X.prog X.w) X.A (assign (.Name x px) (compEnvC scope (clOf X.env fr) g.objs.size X.env) u) (fun _ s6=>∃(σ6:St)(H6:Hp)(v:V)(s5':Shared)(H5:Hp),Inv (dS X scope fr x g.objs.size (s.heap.objs.size::fp) { s with heap:=g } H) (X.pn++pins++[(s.heap.objs.size,LCg.lst us)]++r9 fp s5'.heap) σ6 H6 s6/\σ6=some v::frOf fr σ/\H6=H5/\J.yld i H3 v H5/\tn (i+1) s5'.heap) (fun _ _=>False) s5) fun _ s5 ⟨v,H5,J5,r5,y5,st5,fr5⟩=>by
    have J5':=J5.pinned (stat fr5) (T.obj _ _ st5)
    have hNd:(dS X scope fr x g.objs.size (s.heap.objs.size::fp) { s with heap:=g } H).N.Nodup:=O.nd
    have hxl:(dS X scope fr x g.objs.size (s.heap.objs.size::fp) { s with heap:=g } H).env.scope.names.lookup x=some .local:=lookup_relabel_local O.xl
    exact thn (a9 (X:=dS X scope fr x g.objs.size (s.heap.objs.size::fp) { s with heap:=g } H) (i:=0) hNd rfl (.inl hxl) (.inr hxl) _ s5 _ H5 v u (fun σ6 H6=>σ6=some v::frOf fr σ/\H6=H5) J5' r5 ⟨rfl,rfl⟩) fun _ s6 ⟨σ6,H6,J6,e6,e7⟩=>⟨σ6,H6,v,s5,H5,J6,e6,e7,y5,st5⟩)
   refine none_err (thn h4' fun _ s6 ⟨σ6,H6,v,s5,H5,J6,e6,e7,y5,st5⟩=>?_)
   subst e6 e7
   refine wpAny_tests_nil ?_
   rw[if_pos rfl]
   refine none_err (thn (he _ _ _ _ _ s6 _ H6 _ J6 (step v H6 y5)) fun u7 s7 ⟨v7,H7,J7,r7,q7⟩=>?_)
   obtain⟨m',hm,w7⟩:=hN v7 H7 q7
   obtain⟨eD,nD,dC,dF,dd⟩:=J7.pin (s.heap.objs.size,LCg.lst us) (EJ _ (E1 _ (EJ _ (by simp))))
   have hvl:=hv.length
   refine append_at (hsz:=by show us.toArray.size<=sizeLine;rw[Et,← hvl];exact hlen) eD fun h8 hs8 hD8=>?_
   have pinD:∀ p∈X.pn++pins,p.1≠s.heap.objs.size:=fun p hp z=>by
    have:=Heap.lt_size (I.pin p hp).1
    rw[z]at this
    exact Fh _ this
   have J7a:Inv (dS X scope fr x g.objs.size (s.heap.objs.size::fp) { s with heap:=g } H) (X.pn++pins) _ H7 s7:=J7.pins_of fun p hp=>J7.pin p (EJ _ (E1 _ (E1 _ hp)))
   have J8:Inv (dS X scope fr x g.objs.size (s.heap.objs.size::fp) { s with heap:=g } H) (X.pn++pins) _ H7 { s7 with heap:=h8 }:=J7a.turned (t':=s7.toks) (fun b o hb e=>(hs8.2 b hb).trans e) nD dC (.inl Eh) (fun y c e z=>by
    obtain⟨w',q⟩:=I.cell y c (O.cells I e)
    have:=q.lt
    rw[z]at this
    exact Fh _ this) (fun p hp=>(Ee.mp hp).elim (fun z=>by cases z) (pinD p))
   have J9:Inv (dS X scope fr x g.objs.size (s.heap.objs.size::fp) { s with heap:=g } H) (X.pn++pins++[(s.heap.objs.size,LCg.lst (us++[u7]))]) _ H7 { s7 with heap:=h8 }:=J8.pins_of fun p hp=>by
    rcases Ee.mp hp with hp | hp
    ·exact J8.pin p (EJ _ hp)
    ·have ep:p=(s.heap.objs.size,LCg.lst (us++[u7])):=by simpa using hp
     subst ep
     exact⟨hD8.trans (congrArg some (LCg.lst_snoc us u7)),nD,dC,dF,fun v z=>by cases z⟩
   have J10:=J9.weak (σ':=none::frOf fr σ) rfl fun i v e=>by
    cases i with
    |zero=>cases e
    |succ k=>exact e
   have pinF:∀ b∈fp,∀ o,s5.heap.get? b=some o->s7.heap.get? b=some o/\H7 b=none:=fun b hb o e=>by
    obtain⟨q1,q2,_⟩:=J7.pin (b,o) (EJ _ (EJ _ (kh hb e)))
    exact⟨q1,q2⟩
   refine⟨m',hm,i+1,ys++[v7],us++[u7],H7,J10,hv.append (.cons r7 .nil),T.keep _ _ _ st5 fun b hb o e=>(hs8.2 b (ES (hfs b hb))).trans (pinF b hb o e).1,fun b hb=>?_,w7⟩
   obtain⟨o,e,_⟩:=T.obj _ _ st5 b hb
   exact(pinF b hb o e).2
 exact codeAny_compStart_list loop (T.self X.A 0 _ _ _ (T.keep 0 s.heap h₁ st fun b _ o e=>kp b o e) loop)
def tComp(wi:TI)(te:TE)(fr:List (Str×Nat)):TE:=fun σ H Q=>wi σ H fun J H1=>rO te (frOf fr σ) J H1 fun ys H2=>∀ D,H2 D=none->Q (.ref D) (upd H2 D (.lst ys))
theorem kb(hc:X.calm=true)(O:c6 X scope fr x)(hi:PI X (.Name x px) iter wi)(he:∀ C ex s H,PE (dS X scope fr x C ex s H) elt te)(hs:∀ x,foldedSetIterable iter X.env x=pure x:=by intro _;rfl) :
  PE X (.ListComp elt [⟨.Name x px,iter,[],0⟩] scope pos) (tComp wi te fr):=by
 intro pins s σ H Q I h
 rw[eval_ListComp]
 refine wpAny_comprehension_free (use:=none) rfl hs O.clos O.kind O.names (thn (hi pins s σ H _ I h) fun xv s1 h1=>thn h1 fun itv s2 h2=>?_)
 obtain⟨it,fp,tn,J,H2,e,I2,T,st2,f2,q2⟩:=h2
 subst e
 refine tJ (RR:=fun acc C=>compPost (model X.prog X.w) X.A X.xe none (EP X pins σ Q) acc C) hc O he I2 T st2 f2 q2 ?_
 intro D C H4 ys s4 m I4 nD fC hn q4
 refine⟨m,hn,fun h' hs'=>?_⟩
 obtain⟨g0,g1,g2,g3,g4,g5⟩:=fC
 exact⟨.ref D,_,I4.turned (t':=s4.toks) (fun b o hb e=>(hs'.2 b hb).trans e) g0 g1 g3 g4 g5,rfl,q4 D nD⟩
def Bl(i:Nat)(wi:TI)(te:TE)(fr:List (Str×Nat)):TS:=fun D σ H=>wi σ H fun J H1=>rO te (frOf fr σ) J H1 fun ys H2=>∀ a,H2 a=none->D.nx (σ.set i (some (.ref a))) (upd H2 a (.lst ys))
theorem j8{i:Nat}{y:Str}{py spos:Pos}(hc:X.calm=true)(hN:X.N.Nodup)(hi':X.N[i]?=some y)(hy:X.env.scope.names.lookup y=some .local)(O:c6 X scope fr x)(hi:PI X (.Name x px) iter wi)(he:∀ C ex s H,PE (dS X scope fr x C ex s H) elt te)
  (hsw:swapsWith (.ListComp elt [⟨.Name x px,iter,[],0⟩] scope pos) (some (.Name y py)) spos.line X.env=pure true:=by rfl) (hs:∀ x,foldedSetIterable iter X.env x=pure x:=by intro _;rfl) :
  PS X (.Assign [.Name y py] (.ListComp elt [⟨.Name x px,iter,[],0⟩] scope pos) spos) (Bl i wi te fr):=by
 intro pins s σ H D I h
 rw[exec_Assign_Name_used _ _ _ _ hsw]
 refine wpAny_bind (wpAny_standAt (wpAny_bind ?_))
 show wpAny _ X.A (do let _ ← comprehension (.ListComp elt [⟨.Name x px,iter,[],0⟩] scope pos) scope X.env _ (newList []) false (eval iter X.env) (some (assign (.Name y py) X.env))) _ _ s
 refine wpAny_bind (thn (wpAny_comprehension_free (use:=some (assign (.Name y py) X.env)) (Q:=fun _ s'=>SP X pins D .next s') rfl hs O.clos O.kind O.names (thn (hi pins s σ H _ I h) fun xv s1 h1=>thn h1 fun itv s2 h2=>?_)) fun _ s' hq=>wpAny_pure (wpAny_pure hq))
 obtain⟨it,fp,tn,J,H2,e,I2,T,st2,f2,q2⟩:=h2
 subst e
 refine tJ (RR:=fun acc C=>compPost (model X.prog X.w) X.A X.xe (some (assign (.Name y py) X.env)) (fun _ s'=>SP X pins D .next s') acc C) hc O he I2 T st2 f2 q2 ?_
 intro a C H4 ys s4 m I4 nD fC hn q4
 obtain⟨g0,g1,g2,g3,g4,g5⟩:=fC
 obtain⟨oC,eC,hoC⟩:=LCg.ns_obj hn
 have I5:Inv X (pins++[(C,oC)]) σ (upd H4 a (.lst ys)) s4:=I4.pins_of fun p hp=>by
  rcases Ee.mp hp with hp | hp
  ·exact I4.pin p (EJ _ hp)
  ·have ep:p=(C,oC):=by simpa using hp
   subst ep
   obtain⟨es,epp,hd,_⟩:=hoC
   exact⟨eC,g0,g1,g2,fun v z=>by rw[hd]at z;cases z⟩
 show wpAny _ X.A (assign (.Name y py) X.env (.ref a)) _ _ _
 refine wpAny_assign_Name (l9 I5 hN hi' (.inl hy) (v:=.ref a) rfl (fun s6 I6=>?_) (.inr hy))
 obtain⟨e6,_⟩:=I6.pin (C,oC) (EJ _ (EJ _ (by simp)))
 refine⟨m,hoC.ns e6,fun h' hs'=>?_⟩
 exact⟨_,_,I6.unpinned.turned (t':=s6.toks) (fun b o hb e=>(hs'.2 b hb).trans e) g0 g1 g3 g4 g5,q4 a nD⟩
end
theorem eU{K:D5}{a:Addr}{xs:List V}{te:TE}{fv:St}{H1:Hp}{QQ:List V->Hp->Prop}(Pv:Nat->List V->Hp->Prop)(hz:xs.length<=sizeLine)(h0:Pv 0 [] H1)(hl:∀ i ys H,i<=xs.length->Pv i ys H->SqL K H a xs)
  (hs:∀ i x ys H,xs[i]?=some x->Pv i ys H->te (some x::fv) H fun y H2=>Pv (i+1) (ys++[y]) H2) (hd:∀ ys H,ys.length=xs.length->Pv xs.length ys H->QQ ys H)
  : rO te fv (Itl K a) H1 QQ:=by
 refine⟨fun i m ys H=>m=xs.length-i/\i<=xs.length/\ys.length=i/\Pv i ys H,⟨xs.length,by simp,Fu _,rfl,h0⟩,?_⟩
 rintro i m ys H ⟨rfl,hi,hy,p⟩
 have q:=hl i ys H hi p
 refine⟨by omega,?_⟩
 by_cases hlt:i<xs.length
 ·refine .inr ⟨⟨xs,xs[i],q,by simp[hlt]⟩,fun y H2=>Pv (i+1) (ys++[y]) H2,fun y H2 p2=>⟨xs.length-(i+1),by omega,rfl,hlt,by rw[D2,hy];rfl,p2⟩,fun x H' y=>?_⟩
  obtain⟨e,y⟩:=y
  subst e
  exact hs i x ys _ (y xs q) p
 ·have e:i=xs.length:=by omega
  subst e
  exact .inl ⟨⟨xs,q,Ea _⟩,hd ys H hy p⟩
theorem pd{lo:Int}{n:Nat}{te:TE}{fv:St}{H1:Hp}{QQ:List V->Hp->Prop}(Pv:Nat->List V->Hp->Prop)(hz:n<=sizeLine)(h0:Pv 0 [] H1)
  (hs:∀ i ys H,i<n->Pv i ys H->te (some (.int (lo+i))::fv) H fun y H2=>Pv (i+1) (ys++[y]) H2) (hd:∀ ys H,ys.length=n->Pv n ys H->QQ ys H)
  : rO te fv (Itr lo n) H1 QQ:=by
 refine⟨fun i m ys H=>m=n-i/\i<=n/\ys.length=i/\Pv i ys H,⟨n,by simp,Fu _,rfl,h0⟩,?_⟩
 rintro i m ys H ⟨rfl,hi,hy,p⟩
 refine⟨by omega,?_⟩
 by_cases hlt:i<n
 ·refine .inr ⟨hlt,fun y H2=>Pv (i+1) (ys++[y]) H2,fun y H2 p2=>⟨n-(i+1),by omega,rfl,hlt,by rw[D2,hy];rfl,p2⟩,fun x H' y=>?_⟩
  obtain⟨e,y⟩:=y
  subst e y
  exact hs i ys _ hlt p
 ·have e:i=n:=by omega
  subst e
  exact .inl ⟨Ea _,hd ys H hy p⟩
end L2
namespace L2
open PySem PySem.Spec PyProof.Rows
theorem nP:bootBuiltins "list" = some (.type "list"):=by decide +kernel
theorem aU:bootBuiltins "len" = some (.builtin "len"):=by decide +kernel
theorem bZ:bootBuiltins "isinstance" = some (.builtin "isinstance"):=by decide +kernel
theorem A4:bootBuiltins "sorted" = some (.builtin "sorted"):=by decide +kernel
theorem tK:bootBuiltins "enumerate" = some (.type "enumerate"):=by decide +kernel
structure Cal(P:Program)(w:World)(K:D5)(mg:Str->Option Value)(base:Heap)(k:Nat)(x:Str)(ps:List Str)(sp:Sp)(f:Addr)(fd:FuncData):Prop where
 ok:FnOk P w K mg base CX0 k f fd ps sp
 bn:jY K fd ps []
 mg:mg x=some (.ref f)
 kp:Ep K (.ref f)=true
structure Mak(P:Program)(w:World)(K:D5)(mg:Str->Option Value)(base:Heap)(k:Nat)(x:Str)(ps:List Str)(sp:Sp)(C f:Addr)(fd:FuncData):Prop where
 mkc:Mk K C f
 ok:FnOk P w K mg base CX0 k f fd ps sp
 bn:jY K fd ps []
 mg:mg x=some (.ref C)
theorem dB{X:Cx}{sts:List Stmt}{t t2:TS}(h:PSs X sts t)(i:∀ D σ H,t2 D σ H->t D σ H):PSs X sts t2:=fun pins s σ H D I q=>h pins s σ H D I (i D σ H q)
section
variable{X:Cx}
end
inductive RdD(K:D5)(H:Hp):V->PyData->Prop where
 |non:RdD K H .non .none
 |bl (b:Bool):RdD K H (.bl b) (.bool b)
 |int (i:Int):RdD K H (.int i) (.int i)
 |lst {a:Addr} {xs:List V} {ds:List PyData} (h:SqL K H a xs) (hl:xs.length=ds.length) (r:∀(i:Nat)(x:V)(d:PyData),xs[i]?=some x->ds[i]?=some d->RdD K H x d):RdD K H (.ref a) (.list ds)
 |tup {a:Addr} {xs:List V} {ds:List PyData} (h:SqT K H a xs) (hl:xs.length=ds.length) (r:∀(i:Nat)(x:V)(d:PyData),xs[i]?=some x->ds[i]?=some d->RdD K H x d):RdD K H (.ref a) (.tuple ds)
theorem i7{h:Heap}:∀{xs:List V}{us:List Value}{ds:List PyData},Vals xs us->xs.length=ds.length->(∀(i:Nat) x d,xs[i]?=some x->ds[i]?=some d->∀ u,RelV x u->∃ as,Reads h u d as)->∃ as,ReadsAll h us ds as
 |_,_,[],.nil,_,_=>⟨_,.nil⟩
 |_,_,_::_,.nil,e,_=>by cases e
 |_,_,[],.cons _ _,e,_=>by cases e
 |_,_,d::ds,.cons r rr,e,k=>by
  obtain⟨a1,q1⟩:=k 0 _ d rfl rfl _ r
  obtain⟨a2,q2⟩:=i7 rr (Nat.succ.inj e) fun i x d' e1 e2=>k (i+1) x d' e1 e2
  exact⟨_,.cons q1 q2⟩
section
variable{X:Cx}
theorem RdD.reads{pins:List (Addr×Obj)}{σ:St}{H:Hp}{s:Shared}(I:Inv X pins σ H s){x:V}{d:PyData}(r:RdD X.K H x d):∀ u,RelV x u->∃ as,Reads s.heap u d as:=by
 induction r with
 |non=>intro u hu;cases hu;exact⟨_,.none⟩
 |bl b=>intro u hu;cases hu;exact⟨_,.bool b⟩
 |int i=>intro u hu;obtain⟨t,rfl⟩:=hu;exact⟨_,.int i t⟩
 |lst h hl r ih =>
  intro u hu
  cases hu
  obtain⟨its,rv,p,_⟩:=I.list h
  obtain⟨as,q⟩:=i7 (h:=s.heap) rv hl ih
  obtain⟨o,n,e,c,_,d⟩:=p
  exact⟨_,.list e c d (by simpa using q)⟩
 |tup h hl r ih =>
  intro u hu
  cases hu
  obtain⟨its,rv,p,_⟩:=I.tuple h
  obtain⟨as,q⟩:=i7 (h:=s.heap) rv hl ih
  obtain⟨o,e,c,n,d⟩:=p
  exact⟨_,.tuple e c d (by simpa using q)⟩
def rSame(b:Bool)(K:D5):R2:=fun x y H Q=>∃ d,RdD K H x d/\RdD K H y d/\SeqAt.shaped d=true/\Q (.bl b) H
theorem op_eqD(hu:X.A.units+64<cLine):OpR X (compareOp .Eq) (rSame true X.K):=by
 intro pins s σ H x y v u Q I rx ry h
 obtain⟨d,r1,r2,hs,q⟩:=h
 obtain⟨as,q1⟩:=r1.reads I v rx
 obtain⟨bs,q2⟩:=r2.reads I u ry
 refine eq_dataH q1 q2 hs hs hu ?_
 rw[SeqAt.eqv_refl d (SeqAt.canLay_of_shaped hs)]
 exact⟨.bl true,H,I,rfl,q⟩
theorem op_neD(hu:X.A.units+64<cLine):OpR X (compareOp .NotEq) (rSame false X.K):=by
 intro pins s σ H x y v u Q I rx ry h
 obtain⟨d,r1,r2,hs,q⟩:=h
 obtain⟨as,q1⟩:=r1.reads I v rx
 obtain⟨bs,q2⟩:=r2.reads I u ry
 refine ne_dataH q1 q2 hs hs hu ?_
 rw[SeqAt.eqv_refl d (SeqAt.canLay_of_shaped hs)]
 exact⟨.bl false,H,I,rfl,q⟩
end
section
variable{X:Cx}{tg:Expr}
end
end L2
namespace L2
open PySem PySem.Spec PyProof.Rows
section
variable{P:Program}{w:World}{H:Hp}{h:Heap}{a:Addr}{o:HO}
theorem dt.get(x:dt P w H h a o):∃ ob,h.get? a=some ob:=by
 cases o with
 |lst xs=>obtain⟨_,_,_,_,e⟩:=x;exact⟨_,e⟩
 |tup xs=>obtain⟨_,_,_,ob,e,_⟩:=x;exact⟨_,e⟩
 |dK kvs=>obtain⟨_,_,_,_,o,_,_,e,_⟩:=x;exact⟨_,e⟩
 |dT kvs=>obtain⟨_,_,_,_,o,_,_,e,_⟩:=x;exact⟨_,e⟩
 |set S n=>obtain⟨o,_,_,_,e,_⟩:=x;exact⟨_,e⟩
 |ins C dx fs=>obtain⟨_,_,_,e,_⟩:=x;exact⟨_,e⟩
 |own y=>exact x
 |xd fs=>obtain⟨_,⟨_,_,_,e,_⟩,_⟩:=x;exact⟨_,e⟩
 |rng lo hi=>obtain⟨_,_,_,e⟩:=x;exact⟨_,e⟩
 |frz ob u=>exact⟨_,x.1⟩
 |tbl ps=>exact⟨_,(show h.get? a=some _ from x)⟩
 |met f y=>exact⟨_,(show h.get? a=some _ from x)⟩
 |ext φ=>exact x.2.1
theorem HOk.none_of(x:HOk P w H h)(e:h.get? a=none):H a=none:=by
 cases q:H a with
 |none=>rfl
 |some u =>
  obtain⟨ob,z⟩:=(x a u q).get
  rw[e]at z
  cases z
end
structure XOk(X:Cx)(pins:List (Addr×Obj))(H:Hp)(b:Addr):Prop where
 old:X.s₀.heap.get? b=none
 trk:H b=none
 nl:b≠X.env.locals
 nc:∀ x c,X.env.cells.lookup x=some c->c≠b
 np:∀ p∈X.pn++pins,p.1≠b
section
variable{X:Cx}{pins:List (Addr×Obj)}{σ:St}{H H':Hp}{s s':Shared}{b:Addr}
theorem Inv.xok(I:Inv X pins σ H s)(hx:X.ex = [])(e:s.heap.get? b=none)(n:H' b=none):XOk X pins H' b:=by
 refine⟨?_,n,fun z=>?_,fun x c q z=>?_,fun p hp z=>?_⟩
 ·cases q:X.s₀.heap.get? b with
  |none=>rfl
  |some o =>
   obtain⟨o',e'⟩:=I.base.there b o q (by rw[hx];simp)
   rw[e]at e'
   cases e'
 ·obtain⟨m,⟨o,_,_,ho,_⟩,_⟩:=I.loc
  rw[z,ho]at e
  cases e
 ·obtain⟨v,o,ho,_⟩:=I.cell x c q
  rw[z,e]at ho
  cases ho
 ·have:=(I.pin p hp).1
  rw[z,e]at this
  cases this
theorem Inv.xstep{h':Heap}{ch:List Addr}(I:Inv X pins σ H s)(hch:∀ b∈ch,XOk X pins H b)
  (keep:∀ b o,s.heap.get? b=some o->b∉ch->b∉frs X.stack->h'.get? b=some o)
  (slot:∀ b o,s.heap.get? b=some o->b∉ch->b∈frs X.stack->∃ sl,h'.get? b=some { o with slots:=sl }):Inv X pins σ H { s with heap:=h' }:=by
 have any:∀ b o,s.heap.get? b=some o->b∉ch->∃ sl,h'.get? b=some { o with slots:=sl }:=fun b o e hc=>by
  by_cases hb:b∈frs X.stack
  ·exact slot b o e hc hb
  ·exact⟨o.slots,keep b o e hc hb⟩
 have fsub:∀ b,b∈frs X.stack->b≠X.env.locals->b∈X.fs:=fun b hb n=>(Ec.mp (I.stkSub b hb)).elim (fun z=>absurd z n) fun z=>z
 have neL:∀ b o,X.s₀.heap.get? b=some o->b≠X.env.locals:=fun b o e=>ES (EL (Heap.lt_size e) I.ok.above)
 have neC:∀ b o,X.s₀.heap.get? b=some o->b∉ch:=fun b o e hb=>by
  have:=(hch b hb).old
  rw[e]at this
  cases this
 have cellK:∀ x c,X.env.cells.lookup x=some c->∀ v,s.heap.IsCell c v->h'.IsCell c v:=fun x c e v ⟨o,ho,hd⟩=>by
  obtain⟨sl,q⟩:=any c o ho fun z=>(hch c z).nc x c e rfl
  exact⟨_,q,hd⟩
 refine⟨I.ok,I.os,I.bare,⟨fun b o e n hb hx=>?_,fun b o e n hb hx=>?_,I.base.free,fun b o e hx=>?_,I.base.tups,I.base.frzs,I.base.tbls⟩,?_,fun x c e=>?_,I.free,I.freeC,fun p hp=>?_,fun b u e=>?_,I.len⟩
 ·exact keep b o (I.base.keep b o e n hb hx) (neC b o e) fun z=>hb (fsub b z (neL b o e))
 ·obtain⟨sl,e1⟩:=I.base.slot b o e n hb hx
  obtain⟨sl',e2⟩:=any b _ e1 (neC b o e)
  exact⟨sl',e2⟩
 ·obtain⟨o',e1⟩:=I.base.there b o e hx
  obtain⟨sl,e2⟩:=any b _ e1 (neC b o e)
  exact⟨_,e2⟩
 ·obtain⟨m,⟨o,es,ep,ho,r⟩,hl⟩:=I.loc
  obtain⟨sl,e2⟩:=any _ o ho fun z=>(hch _ z).nl rfl
  refine⟨m,⟨_,es,ep,e2,r⟩,fun i x v e1 e2 e3=>?_⟩
  obtain⟨u,r,l⟩:=hl i x v e1 e2 e3
  refine⟨u,r,?_⟩
  rcases l with l | ⟨k,c,e,z⟩
  ·exact .inl l
  ·exact .inr ⟨k,c,e,cellK x c e _ z⟩
 ·obtain⟨v,z⟩:=I.cell x c e
  exact⟨v,cellK x c e v z⟩
 ·obtain⟨e,n,ne,nf,d⟩:=I.pin p hp
  exact⟨keep p.1 p.2 e (fun z=>(hch p.1 z).np p hp rfl) fun z=>nf (fsub p.1 z ne),n,ne,nf,d⟩
 ·have nof:∀ c u',H c=some u'->c∉ch/\c∉frs X.stack:=fun c u' q=>⟨fun z=>(by rw[(hch c z).trk]at q;exact nomatch q),fun z=>(by rw[I.stkFree c z]at q;exact nomatch q)⟩
  refine(I.hok b u e).stay (fun c v hc q=>?_) (fun _ q=>q) fun _ _ q=>q
  rcases hc with z | z
  ·rw[z]at q ⊢
   exact keep b v q (nof b u e).1 (nof b u e).2
  ·exact keep c v q (nof c _ z).1 (nof c _ z).2
theorem Inv.xtrack{a:Addr}{o:HO}(I:Inv X pins σ H s)(f:XOk X pins H a)(new:dt X.prog X.w (upd H a o) s.heap a o):Inv X pins σ (upd H a o) s:=by
 have ne:∀ b u,H b=some u->b≠a:=fun b u e=>ay e f.trk
 have nb:∀ b u,s.heap.get? b=some u->b≠a->H b=none->upd H a o b=none:=fun b u _ n q=>by rw[aq n];exact q
 refine⟨I.ok,I.os,I.bare,⟨I.base.keep,I.base.slot,fun b ob e n hx=>?_,I.base.there,fun b xs e=>?_,fun b ob xs e=>?_,fun b ps e=>?_⟩,I.loc,I.cell,?_,fun x c e=>?_,fun p hp=>?_,fun b u e=>?_,I.len⟩
 ·rw[aq (fun z=>by rw[z,f.old]at e;cases e)]
  exact I.base.free b ob e n hx
 ·have:=I.base.tups b xs e
  rw[aq (ne _ _ this)]
  exact this
 ·have:=I.base.frzs b ob xs e
  rw[aq (ne _ _ this)]
  exact this
 ·obtain⟨m,q⟩:=I.base.tbls b ps e
  exact⟨m,by rw[aq (ne _ _ q)];exact q⟩
 ·rw[aq (Ne.symm f.nl)]
  exact I.free
 ·rw[aq (f.nc x c e)]
  exact I.freeC x c e
 ·obtain⟨e,n,r⟩:=I.pin p hp
  exact⟨e,by rw[aq (f.np p hp)];exact n,r⟩
 ·by_cases hb:b=a
  ·rw[hb,ae]at e
   cases e
   rw[hb]
   exact new
  ·rw[aq hb]at e
   exact(I.hok b u e).stay (fun c v _ q=>q) (fun c q=>by rw[aq (ne c _ q)];exact q) fun c xs q=>by rw[aq (ne c _ q)];exact q
end
def Trc(h:Heap)(x:Addr)(C:Value)(T:Addr):Prop :=
 ∃ oe vs a0 oT ts,h.get? x=some oe/\oe.cls=C/\vs[0]?=some a0/\oe.data=.fields vs/\vs[1]?=some (.ref T)/\T≠x/\h.get? T=some oT/\oT.data=.fields ts/\ts[3]?=some .none
def Xnw(h:Heap)(x:Addr)(C:Value):Prop:=∃ oe vs a0,h.get? x=some oe/\oe.cls=C/\oe.data=.fields vs/\vs[0]?=some a0/\vs[1]?=some .none
def XA(X:Cx)(pins:List (Addr×Obj))(H:Hp)(s:Shared)(x:Addr)(C:Value):Prop:=XOk X pins H x/\(Xnw s.heap x C∨∃ T,XOk X pins H T/\Trc s.heap x C T)
section
variable{X:Cx}{pins:List (Addr×Obj)}{σ:St}{H:Hp}{s:Shared}{x:Addr}{C:Value}{E:Value->Shared->Prop}
abbrev hidX(X:Cx)(h:Heap)(ch:List Addr):Heap:=PySem.W.hideAll h (ch++frs X.stack)
theorem Inv.hidF(I:Inv X pins σ H s)(ch:List Addr):s.heap.FunFrames (hidX X s.heap ch) X.stack :=
 PySem.W.funFrames_hide I.stack fun env he a hf=>EJ _ (G2.mpr ⟨env,he,hf⟩)
theorem Az(ch:List Addr)(h:Heap):(hidX X h ch).StaysIn h:=fun _ _ e=>PySem.W.of_hideAll _ e
theorem jM{ch:List Addr}{h:Heap}{b:Addr}(hb:b∈ch):(hidX X h ch).get? b=none:=PySem.W.hideAll_none _ (E1 _ hb)
theorem Inv.left{h':Heap}{ch:List Addr}{a0:Value}(I:Inv X pins σ H s)(hx:X.ex = [])(hch:∀ b∈ch,XOk X pins H b)(k:(hidX X s.heap ch).StaysIn h')(t:h'.TracedW (hidX X s.heap ch) x C a0)(u:s.heap.UpToSlots h') :
  Inv X pins σ H { s with heap:=h' }/\∃ T,XOk X pins H T/\Trc h' x C T:=by
 have fr:∀ b o,s.heap.get? b=some o->b∈frs X.stack->∃ sl,h'.get? b=some { o with slots:=sl }:=fun b o e hb=>by
  obtain⟨_,o',ho,hd⟩:=I.stack.mem hb
  rw[e]at ho
  cases ho
  exact u b o e hd
 refine⟨I.xstep hch (fun b o e n1 n2=>k b o (GY _ e fun z=>(Ee.mp z).elim n1 n2)) fun b o e _ hb=>fr b o e hb,?_⟩
 obtain⟨oe,vs,T,oT,ts,he,⟨hcls,h0⟩,hd,h1,hnT,hTe,hT,hdT,h3⟩:=t
 refine⟨T,?_,oe,vs,a0,oT,ts,he,hcls,h0,hd,h1,hTe,hT,hdT,h3⟩
 cases q:s.heap.get? T with
 |none=>exact I.xok hx q (I.hok.none_of q)
 |some o =>
  by_cases z:T∈ch
  ·exact hch T z
  ·by_cases z2:T∈frs X.stack
   ·obtain⟨_,o',ho,hd'⟩:=I.stack.mem z2
    obtain⟨sl,e⟩:=fr T o q z2
    rw[hT]at e
    cases e
    rw[q]at ho
    cases ho
    exact absurd hdT (hd' ts)
   ·have:=GY (ch++frs X.stack) q fun z3=>(Ee.mp z3).elim z z2
    rw[hnT]at this
    cases this
theorem Inv.leave{Q:Unit->Shared->Prop}(I:Inv X pins σ H s)(hx:X.ex = [])(hst:X.stack=X.env::X.outer)(hfr:X.env.frame=some X.env.locals)(xa:XA X pins H s x C)
  (h:∀ h' T,Inv X pins σ H { s with heap:=h' }->XOk X pins H x->XOk X pins H T->Trc h' x C T->Q () { s with heap:=h' }):wpAny (model X.prog X.w) X.A (leaving X.env (.ref x)) Q E s:=by
 obtain⟨x1,x2⟩:=xa
 have frm:X.A.frames=some (X.env::X.outer):=by rw[← hst];exact I.ok.frames
 rcases x2 with⟨oe,vs,a0,he,hc,hd,h0,h1⟩ | ⟨T,xT,oe,vs,a0,oT,ts,he,hc,h0,hd,h1,hTe,hT,hdT,h3⟩
 ·have hch:∀ b∈[x],XOk X pins H b:=fun b hb=>by
   have e:b=x:=by simpa using hb
   rw[e]
   exact x1
  refine wpAny_leaving_firstW (base:=hidX X s.heap [x]) frm (hst▸I.hidF [x]) hfr he (Az _ _) (jM (by simp)) hd h1 h0 fun h' L=>?_
  obtain⟨k1,_,k3,k4⟩:=L
  obtain⟨I',T,xT,tr⟩:=I.left hx hch k1 k3 k4
  rw[hc]at tr
  exact h h' T I' x1 xT tr
 ·have hch:∀ b∈[x,T],XOk X pins H b:=fun b hb=>by
   rcases Ec.mp hb with e | hb
   ·rw[e]
    exact x1
   ·have e:b=T:=by simpa using hb
    rw[e]
    exact xT
  refine wpAny_leaving_nextW (base:=hidX X s.heap [x,T]) frm (hst▸I.hidF [x,T]) hfr ⟨oe,vs,T,oT,ts,he,⟨hc,h0⟩,hd,h1,jM (by simp),hTe,hT,hdT,h3⟩ (Az _ _) (jM (by simp)) fun h' L=>?_
  obtain⟨k1,_,k3,k4⟩:=L
  obtain⟨I',T',xT',tr⟩:=I.left hx hch k1 k3 k4
  exact h h' T' I' x1 xT' tr
end
section
variable{X:Cx}{k:Nat}{f C:Addr}{fd:FuncData}{ps:List Str}{sp:Sp}{dvs:List V}{ds:List Value}{W:WK}{x m:Str}{p pos apos:Pos}{e o:Expr}{es:List Expr}{ta:TE}{t:TA}
end
end L2
namespace L2
open PySem PySem.Spec PyProof.Rows
abbrev veM:List Value:=[.type "ValueError",.type "Exception",.type "BaseException",.type "object"]
abbrev ExC(K:D5)(C:Addr):Prop:=FT K C veM "ValueError.__new__" = true
theorem AG{K:D5}{C:Addr}{h:Heap}(e:ExC K C)(X:K.In h):∃ bm N nm qn bs hdct sn sub ab col dd k0 k1 k2 k3 k5 mN,h.get? C=some (excClassObj nm qn C N bs bm hdct sn sub ab col dd k0 k1 k2 k3 k5 "ValueError.__new__")/\h.Ns N mN/\mN "__init__" = none/\OwnTail h veM bm/\∀ B b,EY K C B=some b->(Value.ref C::bm).contains B=b:=by
 have z:=e
 unfold ExC FT at z
 split at z
 ·rename_i ddx cdx slx hobj
  split at z
  ·rename_i Cx bmx y0 y1 y2 y3 nx y5 hmro hslots
   have zz:=z
   simp only[GF,beq_iff_eq,FZ]at zz
   obtain⟨⟨⟨⟨⟨eC,eN⟩,edel⟩,etail⟩,ens⟩,einit⟩:=zz
   subst eC
   subst eN
   obtain⟨l⟩:=slx
   have hl:l = [y0,y1,y2,y3,some (.builtin "ValueError.__new__"),y5]:=hslots
   subst hl
   obtain⟨nm,bs,mro,ns,qn,hd,sn,sub,ab,col,del⟩:=cdx
   have hmro':mro=.ref Cx::bmx:=hmro
   have hdel':del=false:=edel
   subst hmro' hdel'
   refine⟨bmx,ns,nm,qn,bs,hd,sn,sub,ab,col,ddx,y0,y1,y2,y3,y5,_,X _ _ hobj,.of_isNs (PySem.W.isNs_of_in X ens),PySem.W.nsMap_none_of_in X ens einit,PySem.W.tail_of_in X etail,fun B b hB=>?_⟩
   unfold EY HE at hB
   rw[hobj]at hB
   simpa using hB
  ·cases z
 ·cases z
section
variable{X:Cx}{pins:List (Addr×Obj)}{σ:St}{H:Hp}{s:Shared}{x:Addr}{C:Value}
def Cx.marked(X:Cx)(v:Value):Cx:={ X with A:=X.A.mark (some v),calm:=false,xe:=fun _ _=>False }
theorem Inv.marked(I:Inv X pins σ H s)(v:Value):Inv (X.marked v) pins σ H s :=
 ⟨⟨I.ok.mod,I.ok.kind,I.ok.glob,I.ok.blt,I.ok.above,I.ok.inj,I.ok.has,I.ok.cab,fun z=>(by cases z),I.ok.frames,I.ok.stk,I.ok.exf,I.ok.bs,I.ok.bsz,I.ok.noex,I.ok.exfs,I.ok.funs,I.ok.frf⟩,I.os,I.bare,I.base,I.loc,I.cell,I.free,I.freeC,I.pin,I.hok,I.len⟩
theorem Inv.unmarked{hd:X.calm=true->X.A.handled=none}{fr:X.A.frames=some X.stack}{v:Value}(I:Inv (X.marked v) pins σ H s):Inv X pins σ H s :=
 ⟨⟨I.ok.mod,I.ok.kind,I.ok.glob,I.ok.blt,I.ok.above,I.ok.inj,I.ok.has,I.ok.cab,hd,fr,I.ok.stk,I.ok.exf,I.ok.bs,I.ok.bsz,I.ok.noex,I.ok.exfs,I.ok.funs,I.ok.frf⟩,I.os,I.bare,I.base,I.loc,I.cell,I.free,I.freeC,I.pin,I.hok,I.len⟩
theorem Inv.gone{i:Nat}{n:Str}{h':Heap}{tk:Nat}{m:Str->Option Value}{v:Option Value}(I:Inv X pins σ H s)(hN:X.N.Nodup)(hi:X.N[i]?=some n)(hm:s.heap.Ns X.env.locals m/\∀ (i:Nat) (x:Str) (v:V),X.N[i]?=some x->σ[i]?=some (some v)->Vis X.env.scope x->∃ u,RelV v u/\Look X.env s.heap m x u)
  (hn:h'.Ns X.env.locals (fun y=>if y=n then v else m y)) (hs:Heap.SameBut X.env.locals s.heap h'):Inv X pins (σ.set i none) H { s with heap:=h',toks:=tk }:=by
 have lo:∀ b o,X.s₀.heap.get? b=some o->b≠X.env.locals:=fun b o e=>ES (EL (Heap.lt_size e) I.ok.above)
 obtain⟨oL,_,_,hoL,_⟩:=id hm.1
 refine⟨I.ok,I.os,I.bare,⟨fun b o e n1 hb hx=>(hs.2 b (lo b o e)).trans (I.base.keep b o e n1 hb hx),fun b o e n1 hb hx=>?_,I.base.free,fun b o e hx=>?_,I.base.tups,I.base.frzs,I.base.tbls⟩,⟨_,hn,fun j y w' e1 e2 e3=>?_⟩,fun y c e=>?_,I.free,I.freeC,fun p hp=>?_,fun b u e=>?_,by simpa using I.len⟩
 ·obtain⟨sl,q⟩:=I.base.slot b o e n1 hb hx
  exact⟨sl,(hs.2 b (lo b o e)).trans q⟩
 ·obtain⟨o',q⟩:=I.base.there b o e hx
  exact⟨o',(hs.2 b (lo b o e)).trans q⟩
 ·by_cases hj:j=i
  ·subst hj
   rw[EG]at e2
   split at e2
   ·split at e2<;>cases e2
   ·rename_i z;exact absurd rfl z
  ·rw[F6 (Ne.symm hj)]at e2
   obtain⟨u',r',l'⟩:=hm.2 j y w' e1 e2 e3
   refine⟨u',r',?_⟩
   rcases l' with⟨kk,e⟩ | ⟨kk,c,e,z⟩
   ·refine .inl ⟨kk,?_⟩
    have ny:y≠n:=fun q=>hj (qA hN e1 (q▸hi))
    show(if y=n then v else m y)=some u'
    rw[if_neg ny];exact e
   ·exact .inr ⟨kk,c,e,z.sameBut hs (I.cne y c e)⟩
 ·obtain⟨w2,z⟩:=I.cell y c e
  exact⟨w2,z.sameBut hs (I.cne y c e)⟩
 ·obtain⟨e,n1,ne,nf,d⟩:=I.pin p hp
  exact⟨(hs.2 p.1 ne).trans e,n1,ne,nf,d⟩
 ·refine(I.hok b u e).stay (fun c v2 hc q=>(hs.2 c fun z=>?_).trans q) (fun _ q=>q) fun _ _ q=>q
  have fr:=I.free
  rcases hc with y | y
  ·rw[← y,z,fr]at e;cases e
  ·rw[z,fr]at y;cases y
end
section
variable{M:Model}{A:Around}{E:Value->Shared->Prop}{h:Heap}{g:Array GenState}{d:Drawn}{t:Nat}{os:OsState}
end
def Cx.tried(X:Cx)(pins:List (Addr×Obj))(E:Value->Shared->Prop):Cx:={ X with pn:=X.pn++pins,xe:=E }
section
variable{X:Cx}{pins pins':List (Addr×Obj)}{σ:St}{H:Hp}{s:Shared}{E:Value->Shared->Prop}{b:Addr}
theorem Inv.tried(I:Inv X pins σ H s):Inv (X.tried pins E) [] σ H s :=
 ⟨⟨I.ok.mod,I.ok.kind,I.ok.glob,I.ok.blt,I.ok.above,I.ok.inj,I.ok.has,I.ok.cab,I.ok.hd,I.ok.frames,I.ok.stk,I.ok.exf,I.ok.bs,I.ok.bsz,I.ok.noex,I.ok.exfs,I.ok.funs,I.ok.frf⟩,I.os,I.bare,I.base,I.loc,I.cell,I.free,I.freeC,fun p hp=>I.pin p (by rw[Fl]at hp;exact hp),I.hok,I.len⟩
theorem Inv.untried(I:Inv (X.tried pins E) pins' σ H s):Inv X pins σ H s :=
 ⟨⟨I.ok.mod,I.ok.kind,I.ok.glob,I.ok.blt,I.ok.above,I.ok.inj,I.ok.has,I.ok.cab,I.ok.hd,I.ok.frames,I.ok.stk,I.ok.exf,I.ok.bs,I.ok.bsz,I.ok.noex,I.ok.exfs,I.ok.funs,I.ok.frf⟩,I.os,I.bare,I.base,I.loc,I.cell,I.free,I.freeC,fun p hp=>I.pin p (E1 _ hp),I.hok,I.len⟩
theorem XOk.untried(x:XOk (X.tried pins E) pins' H b):XOk X pins H b:=⟨x.old,x.trk,x.nl,x.nc,fun p hp=>x.np p (E1 _ hp)⟩
theorem SP.untried{D:Ends}{f:Flow}(h:SP (X.tried pins E) [] D f s):SP X pins D f s:=by
 cases f with
 |next=>obtain⟨σ',H',I,q⟩:=h;exact⟨σ',H',I.untried,q⟩
 |brk=>obtain⟨σ',H',I,q⟩:=h;exact⟨σ',H',I.untried,q⟩
 |cont=>obtain⟨σ',H',I,q⟩:=h;exact⟨σ',H',I.untried,q⟩
 |ret u=>obtain⟨v,σ',H',I,r,q⟩:=h;exact⟨v,σ',H',I.untried,r,q⟩
end
section
variable{X:Cx}{k:Nat}{f:Addr}{fd:FuncData}{ps:List Str}{sp:Sp}{dvs:List V}{ds:List Value}{W:WK}{x:Str}{p pos:Pos}{e:Expr}{es:List Expr}{t:TA}
end
end L2
namespace L2
open PySem PySem.Spec PyProof.Rows
end L2
namespace L2
open PySem PySem.Spec PyProof.Rows
section
variable{prog:Program}{w:World}{A:Around}{E:Value->Shared->Prop}{s:Shared}
end
end L2
namespace L2
open PySem PySem.Spec PyProof.Rows
section
variable{prog:Program}{w:World}{A:Around}{E:Value->Shared->Prop}{s:Shared}
end
section
variable{X:Cx}
end
end L2
namespace L2
open PySem PySem.Spec PyProof.Rows
section
variable{X:Cx}
end
end L2
namespace L2
open PySem PySem.Spec PyProof.Rows
theorem Inv.turnedL{X:Cx}{pins:List (Addr×Obj)}{σ:St}{H:Hp}{s:Shared}{h':Heap}{t':Nat}{fp:List Addr}(I:Inv X pins σ H s)(k:∀ b o,b∉fp->s.heap.get? b=some o->h'.get? b=some o)(hf:∀ b∈fp,FpOk X pins H b):Inv X pins σ H { s with heap:=h',toks:=t' }:=by
 have nit:∀ b u,H b=some u->b∉fp:=fun b u e z=>by rw[(hf b z).1]at e;cases e
 refine I.step (g':=s.gens) (d':=s.drawn) (ch:=fp) (fun b hb=>?_) (fun b o _ _ hc e _=>k b o hc e) (fun b o _ _ hc e _=>⟨o.slots,k b o hc e⟩) (fun _ _ _ _ n=>n)
  (fun b o hc e=>⟨o,k b o hc e⟩) (fun _ _ e=>e) (fun _ _ _ e=>e) (fun b ps e=>⟨#[],by rw[e];simp⟩) (fun m hm=>?_) (fun b u e=>?_) I.bare
 ·obtain⟨f0,f1,f2,f3,f4,f5⟩:=hf b hb
  exact⟨f3,f1,f4,f5⟩
 ·obtain⟨o,es,ep,ho,r⟩:=hm
  exact⟨o,es,ep,k _ o (fun z=>(hf _ z).2.1 rfl) ho,r⟩
 ·refine(I.hok b u e).stay (fun c v hc q=>k c v ?_ q) (fun _ q=>q) fun _ _ q=>q
  rcases hc with z | z
  ·rw[z];exact nit b u e
  ·exact nit c _ z
def Ite(K:D5)(a:Addr):It :=
 ⟨fun i H=>∃ xs x,SqL K H a xs/\xs[i]?=some x,fun i H v H'=>∃ T x,H T=none/\v=.ref T/\H'=upd H T (.tup [.int (i:Int),x])/\∀ xs,SqL K H a xs->xs[i]?=some x,fun i H=>∃ xs,SqL K H a xs/\xs.length<=i⟩
theorem zt{P:Program}{w:World}{K:D5}{es:List Expr}{k:Nat}{pos:Pos}(a e it:Addr)(hei:e≠it):Turn P w K (.Tuple es k pos) (Ite K a) [e,it] e (fun i h=>(∃ old,IsEnum h e it ((i:Nat):Int) old)/\h.IsListIter it a i) where
 mem:=by simp
 obj:=fun i h st b hb=>by
  obtain⟨⟨old,he⟩,o,e2,c,d⟩:=st
  rcases Ec.mp hb with rfl | hb
  ·exact⟨_,he,fun v z=>by
    have z':Data.fields _=Data.cell v:=z
    cases z'⟩
  ·have e3:b=it:=by simpa using hb
   subst e3
   exact⟨o,e2,fun v z=>by rw[d]at z;cases z⟩
 keep:=fun i h h' st kk=>by
  obtain⟨⟨old,he⟩,hit⟩:=st
  exact⟨⟨old,kk e (by simp) _ he⟩,hit.at fun o q=>kk it (by simp) o q⟩
 item:=by
  intro X hP hw hK hc i pins s σ H E I hf st hg
  subst hP hw hK
  obtain⟨xs,x,hq,hx⟩:=hg
  obtain⟨its,rv,p,hz⟩:=I.list hq
  obtain⟨u,hu,ru⟩:=rv.get hx
  obtain⟨⟨old,he⟩,hit⟩:=st
  refine wpAny_pyNext_enum_item he hit p.isList (x:=u) (by simpa using hu) hei fun h' ho hit' hT hsz hk=>?_
  refine⟨_,rfl,?_⟩
  refine wpAny_letOwnedTupleGo_enum ho fun h2 he2 hs2=>?_
  have hs2':Heap.SameBut e h' h2:=hs2
  have hel:e<s.heap.objs.size:=Heap.lt_size he
  have hil:it<s.heap.objs.size:=by obtain⟨_,q,_⟩:=hit;exact Heap.lt_size q
  have hfr:H s.heap.objs.size=none:=I.hok.fresh (Ea _)
  have I0:Inv X pins σ (upd H s.heap.objs.size (.tup [.int (i:Int),x])) { s with heap:=s.heap.push { cls:=.type "tuple",data:=.seq #[.int (i:Int) s.toks,u] },toks:=s.toks+1 } :=
   I.laid (t':=s.toks+1) (fun b u e=>Heap.get?_push_of_some _ e) (Ea _) ⟨by show 2<=sizeLine;decide,[.int (i:Int) s.toks,u],.cons ⟨_,rfl⟩ (.cons ru .nil),⟨_,Heap.get?_push_size _ rfl,rfl,_,rfl⟩⟩
  have hfb:∀ b∈[e,it],b<s.heap.objs.size:=fun b hb=>by
   rcases Ec.mp hb with rfl | hb
   ·exact hel
   ·have e3:b=it:=by simpa using hb
    rw[e3];exact hil
  have hn:∀ b∈[e,it],upd H s.heap.objs.size (.tup [.int (i:Int),x]) b=none:=fun b hb=>by
   rw[aq (ES (hfb b hb))]
   exact(hf b hb).1
  have I2:Inv X pins σ (upd H s.heap.objs.size (.tup [.int (i:Int),x])) { s with heap:=h2,toks:=s.toks+1 }:=Inv.turnedL (s:={ s with heap:=s.heap.push { cls:=.type "tuple",data:=.seq #[.int (i:Int) s.toks,u] },toks:=s.toks+1 }) (h':=h2) I0 (t':=s.toks+1) (fp:=[e,it]) (fun b o hb q=>by
   have nb:b≠e:=fun z=>hb (by simp[z])
   have nb2:b≠it:=fun z=>hb (by simp[z])
   refine(hs2'.2 b nb).trans ?_
   rcases Heap.get?_push_cases q with⟨z1,z2⟩ | q
   ·rw[z1,z2];exact hT
   ·exact hk b o nb nb2 q) fun b hb=>⟨hn b hb,(hf b hb).2⟩
  refine⟨.ref s.heap.objs.size,_,I2,rfl,⟨s.heap.objs.size,x,hfr,rfl,rfl,fun ys hy=>by rw[I.list_inj hy hq];exact hx⟩,?_,hn⟩
  refine⟨⟨u,?_⟩,hit'.at fun o q=>(hs2'.2 it (Ne.symm hei)).trans q⟩
  have e4:(((i+1:Nat):Nat):Int)=(i:Int)+1:=by omega
  rw[e4]
  exact he2
 done:=by
  intro X hP hw hK hc i pins s σ H E I hf st hg
  subst hP hw hK
  obtain⟨xs,hq,hx⟩:=hg
  obtain⟨its,rv,p,hz⟩:=I.list hq
  obtain⟨⟨old,he⟩,hit⟩:=st
  have hl:=rv.length
  obtain⟨f0,f1,f2,f3,f4,f5⟩:=hf it (by simp)
  exact wpAny_pyNext_enum_end (I.ok.hd hc) he hit p.isList (by simp;omega) fun h' eb=>⟨rfl,I.turned (t':=s.toks) (fun b o hb e=>eb b o hb e) f0 f1 f3 f4 f5⟩
 self:=fun _ _ _ _ _ st h=>by
  obtain⟨⟨old,he⟩,_⟩:=st
  exact wpAny_pyIter_enum he h
section
variable{X:Cx}
def iEnum(K:D5)(ta:TA):TI:=fun σ H R=>ta σ H fun vs H1=>∃ a,vs = [.ref a]/\(∃ xs,SqL K H1 a xs)/\R (Ite K a) H1
theorem zR{l:Expr}{ta:TA}{es:List Expr}{k:Nat}{tp p pos:Pos} (hg:Gl X "enumerate") (hm:X.mg "enumerate" = none) (ha:PA X [l] ta) (hs:starEach [l] X.env = [(false,eval l X.env)]:=by rfl) :
  PI X (.Tuple es k tp) (.Call (.Name "enumerate" p) [l] [] pos) (iEnum X.K ta):=by
 intro pins s σ H R I h
 refine Call_ (o8 I hg hm tK (PyProof.Rows.callWith_type1 (thn (ha pos pins s σ H _ I h) fun us s1 ⟨vs,H1,I1,r1,q1⟩=>?_) hs rfl))
 obtain⟨a,e,⟨xs,hq⟩,q⟩:=q1
 subst e
 obtain⟨u,rfl,ru⟩:=Bi r1
 cases ru
 obtain⟨its,rv,p,hz⟩:=I1.list hq
 refine call_enumerate_list p.isList fun h' he hit hsz hk=>?_
 refine wpAny_pyIter_enum he ?_
 refine⟨s1.heap.objs.size+1,[s1.heap.objs.size+1,s1.heap.objs.size],_,_,H1,rfl,I1.kept (t':=s1.toks) hk,zt a _ _ (Nat.succ_ne_self _),⟨⟨_,he⟩,hit⟩,fun b hb=>?_,q⟩
 have hb':s1.heap.objs.size<=b:=by
  rcases Ec.mp hb with rfl | hb
  ·exact Fv _
  ·have e3:b=s1.heap.objs.size:=by simpa using hb
   rw[e3];exact Ea _
 exact I1.fpOk hb' (I1.hok.fresh hb')
end
theorem xD{K:D5}{a:Addr}{xs:List V}{g:TG}{tb:TS}{D:Ends}{σ:St}{H:Hp}(Pv:Nat->St->Hp->Prop)(h0:Pv 0 σ H)(hl:∀ i σ H,i<=xs.length->Pv i σ H->SqL K H a xs)
  (hs:∀ i x σ H T,xs[i]?=some x->Pv i σ H->H T=none->g (.ref T) σ (upd H T (.tup [.int (i:Int),x])) fun σ2 H2=>tb { D with nx:=Pv (i+1),ct:=Pv (i+1),bk:=D.nx } σ2 H2) (hd:∀ σ H,Pv xs.length σ H->D.nx σ H) :
  ∃ W:Nat->Nat->St->Hp->Prop,(∃ m,W 0 m σ H)/\∀ i m σ H,W i m σ H ->
   ((Ite K a).stop i H/\D.nx σ H)∨((Ite K a).go i H/\∃ N:St->Hp->Prop,(∀ σ' H',N σ' H'->∃ m',m'<m/\W (i+1) m' σ' H')/\∀ x H',(Ite K a).yld i H x H'->g x σ H' fun σ2 H2=>tb { D with nx:=N,ct:=N,bk:=D.nx } σ2 H2):=by
 refine⟨fun i m σ H=>m=xs.length-i/\i<=xs.length/\Pv i σ H,⟨xs.length,by simp,Fu _,h0⟩,?_⟩
 rintro i m σ H ⟨rfl,hi,p⟩
 have q:=hl i σ H hi p
 by_cases hlt:i<xs.length
 ·refine .inr ⟨⟨xs,xs[i],q,by simp[hlt]⟩,Pv (i+1),fun σ' H' p'=>⟨xs.length-(i+1),by omega,rfl,hlt,p'⟩,fun v H' y=>?_⟩
  obtain⟨T,x,hT,rfl,rfl,y⟩:=y
  exact hs i x σ _ T (y xs q) p hT
 ·have e:i=xs.length:=by omega
  subst e
  exact .inl ⟨⟨xs,q,Ea _⟩,hd σ H p⟩
end L2
namespace L2
open PySem PySem.Spec PyProof.Rows
section
variable{X:Cx}
end
theorem eR{n j:Nat}(h:j<n):ixN n (j:Int)=some j:=by
 unfold ixN
 rw[if_pos (by omega),if_pos (by omega)]
 rfl
end L2
namespace L2
open PySem PySem.Spec PyProof.Rows
theorem gX:∀{ds:List PyData},(∀ d∈ds,d.canLay0=true)->PyData.canLayAll0 ds=true
 |[],_=>by simp[PyData.canLayAll0]
 |d::ds,h=>by
  rw[PyData.canLayAll0,h d (by simp),gX fun x hx=>h x (by simp[hx])]
  rfl
theorem jt{n:Nat}:∀{ds:List PyData},(∀ d∈ds,d.depth<=n)->PyData.depthAll ds<=n
 |[],_=>by simp[PyData.depthAll]
 |d::ds,h=>by
  have h1:=h d (by simp)
  have h2:=jt (ds:=ds) fun x hx=>h x (Ef _ hx)
  rw[PyData.depthAll]
  omega
theorem mE{ds:List PyData}(h:∀ d∈ds,d.canLay0=true/\d.depth<=10):SeqAt.shaped (.list ds)=true:=by
 have h1:=gX fun d hd=>(h d hd).1
 have h2:=jt fun d hd=>(h d hd).2
 have h3:PyData.depth (.list ds)<=64:=by simp only[PyData.depth];omega
 show(PyData.canLay0 (.list ds)&&decide (PyData.depth (.list ds)<=64))=true
 rw[GF]
 exact⟨by simp only[PyData.canLay0];exact h1,decide_eq_true h3⟩
end L2
namespace L2
open PySem PySem.Spec PyProof.Rows
section
variable{X:Cx}{pins:List (Addr×Obj)}{σ:St}{H:Hp}{s:Shared}{scope:Scope}{fr:List (Str×Nat)}{xs:List Str}
end
section
variable{prog:Program}{w:World}{A:Around}{s:Shared}
end
section
variable{X:Cx}{scope:Scope}{fr:List (Str×Nat)}{xs:List Str}{elt iter tg:Expr}{ifs:List Expr}{pos:Pos}{te:TE}{tt:TT}{tgt:TG}{wi:TI}
end
end L2
namespace L2
open PySem PySem.Spec PyProof.Rows
section
variable{X:Cx}{K:D5}{pos:Pos}
theorem xC(h:X.K=K):IxR X (rIxL K):=h▸aE
theorem pk(h:X.K=K):og X (.type "list") (fun xs H Q=>∃ p ys,xs = [.ref p]/\(SqL K H p ys∨SqT K H p ys)/\∀ l,H l=none->Q (.ref l) (upd H l (.lst ys))):=h▸fm
theorem zU{e:Expr}{f:Str}{ta:TE}(h:X.K=K)(he:PE X e ta)(hb:attributeBase e f X.env (eval e X.env)=eval e X.env):PE X (.Attribute e f pos) (tFld K ta f):=h▸iQ he hb
end
end L2
namespace L2
open PySem PySem.Spec PyProof.Rows
section
variable{X:Cx}
def CY:V->List V->Hp->VK->Prop:=fun x vs H Q=>∃ l xs k y,x=.ref l/\vs = [.int k,y]/\H l=some (.lst xs)/\0<=k/\k<=xs.length/\xs.length<sizeLine/\Q .non (upd H l (.lst (xs.take k.toNat++y::xs.drop k.toNat)))
theorem mM:MtM X "list.insert" CY:=by
 intro pins s σ H x vs v us Q I rx rv h
 obtain⟨l,xs,k,y,rfl,rfl,hH,h0,hk,hz,q⟩:=h
 cases rx
 obtain⟨u1,u2,rfl,r1,r2⟩:=rv.two
 obtain⟨t,rfl⟩:=r1
 obtain⟨z,its,n,r,hl,e⟩:=I.lstM hH
 have hn:=sM
 have hfit:¬ (!Builtin.List.listFitsIndex k)=true:=by
  rw[fitsIndex_both (by omega) (by omega)]
  exact Ew
 refine call_meets F.slot_list_insert ⟨_,e,rfl⟩ F.entry_list_insert (F.args_list_insert_3 _ _ _) (AutoListH.list_insert_list_int_val_1 l its.toArray n k t u2 hfit (by rw[Et];omega)) ⟨e,?_⟩
 refine⟨.non,_,I.lset (its':=its.take k.toNat++u2::its.drop k.toNat) hH e ?_ ((r.take _).append (.cons r2 (r.drop _))) ?_,rfl,q⟩
 ·dsimp only
  rw[if_neg (by omega),Et,Fc (by omega)]
  simp
  exact EM (by rw[Eu];omega)
 ·rw[D2,ET,Eg,Eu]
  omega
theorem qM:∀{ns:List Int}{us:List Value},Vals (ns.map V.int) us->IntsAre us ns
 |[],_,.nil=>.nil
 |n::ns,_,.cons r rr=>by
  obtain⟨t,rfl⟩:=r
  exact .cons n t (qM rr)
end
end L2
namespace L2
open PySem PySem.Spec PyProof.Rows
theorem my:∀{ps:List Nat},(∀ p∈ps,p<1000)->PyData.weightAll ((ps.map fun(p:Nat)=>((p:Nat):Int)).map PyData.int)<=12*ps.length
 |[],_=>by simp[PyData.weightAll]
 |p::ps,h=>by
  have ih:=my (ps:=ps) fun x hx=>h x (Ef _ hx)
  have hp:=h p (by simp)
  have hw:PyData.weight (.int (p:Int))<=11:=by
   rw[PyData.weight]
   split
   ·exact Fu _
   ·rename_i z
    have z':p≠0:=fun e=>z (by rw[e];rfl)
    have e:((p:Int)).natAbs=p:=rfl
    rw[e]
    have:=(Nat.log2_lt z').mpr (show p<2^10 by omega)
    omega
  rw[EU,EU,PyData.weightAll,ET]
  omega
theorem BH{ps:List Nat}(h:∀ p∈ps,p<1000)(hl:ps.length<=1000):PyData.layable0 (.list ((ps.map fun(p:Nat)=>((p:Nat):Int)).map PyData.int))=true:=by
 have h1:=PySem.W.shaped_ints (ps.map fun(p:Nat)=>((p:Nat):Int))
 have h2:=my h
 have h3:PyData.weight (.list ((ps.map fun(p:Nat)=>((p:Nat):Int)).map PyData.int))<=2^20:=by
  rw[PyData.weight];omega +splitDisjunctions
 unfold PyData.layable0
 unfold SeqAt.shaped at h1
 rw[h1,decide_eq_true h3]
 rfl
section
variable{X:Cx}
def rIndex(K:D5):V->List V->Hp->VK->Prop:=fun x vs H Q=>∃(l:Addr)(ps:List Nat)(k:Nat),x=.ref l/\vs = [.int (k:Int)]/\SqL K H l (ps.map fun(p:Nat)=>V.int (p:Int))/\(∀ p∈ps,p<1000)/\ps.length<=1000/\k∈ps/\Q (.int ((ps.idxOf k:Nat):Int)) H
theorem BQ{ps:List Nat}{k:Nat}:(ps.map fun(p:Nat)=>((p:Nat):Int)).idxOf (k:Int)=ps.idxOf k:=by
 induction ps with
 |nil=>rfl
 |cons p ps ih =>
  rw[EU,List.idxOf_cons,List.idxOf_cons,ih]
  have e:(((p:Nat):Int) == (k:Int))=(p == k):=by
   by_cases h:p=k
   ·subst h;simp
   ·have h2:¬ (p:Int)=(k:Int):=fun z=>h (by omega)
    rw[beq_eq_false_iff_ne.mpr h,beq_eq_false_iff_ne.mpr h2]
  rw[e]
theorem qB:MtM X "list.index" (rIndex X.K):=by
 intro pins s σ H x vs v us Q I rx rv h
 obtain⟨l,ps,k,rfl,rfl,hq,hs,hl,hk,q⟩:=h
 cases rx
 obtain⟨u,rfl,ru⟩:=rv.one
 obtain⟨t,rfl⟩:=ru
 have e:(ps.map fun(p:Nat)=>V.int (p:Int))=(ps.map fun(p:Nat)=>((p:Nat):Int)).map V.int:=by rw[List.map_map];rfl
 rw[e]at hq
 obtain⟨its,r,pl,hz⟩:=I.list hq
 refine index_list_ints pl.isList (qM r) (BH hs hl) (EW.mpr ⟨k,hk,rfl⟩) ?_
 rw[BQ]
 exact⟨.int _,H,I.tok _,⟨_,rfl⟩,q⟩
theorem op_eqG(hu:X.A.units+64<cLine):OpR X (compareOp .Eq) (fun x y H Q=>∃ d1 d2,RdD X.K H x d1/\RdD X.K H y d2/\SeqAt.shaped d1=true/\SeqAt.shaped d2=true/\Q (.bl (PyData.eqv d1 d2)) H):=by
 intro pins s σ H x y v u Q I rx ry h
 obtain⟨d1,d2,r1,r2,h1,h2,q⟩:=h
 obtain⟨as,q1⟩:=r1.reads I v rx
 obtain⟨bs,q2⟩:=r2.reads I u ry
 exact eq_dataH q1 q2 h1 h2 hu ⟨.bl _,H,I,rfl,q⟩
end
end L2
namespace L2
open PySem PySem.Spec PyProof.Rows
theorem zo:∀{us:List Value}{ns:List Int},IntsAre us ns->Vals (ns.map V.int) us
 |_,_,.nil=>.nil
 |_,_,.cons _ t r=>.cons ⟨t,rfl⟩ (zo r)
section
variable{X:Cx}
end
end L2
namespace L2
open PySem PySem.Spec PyProof.Rows
section
variable{X:Cx}{tg:Expr}
end
end L2
namespace L2
open PySem PySem.Spec PyProof.Rows
theorem bt_min:bootBuiltins "min" = some (.builtin "min"):=by decide +kernel
theorem bt_max:bootBuiltins "max" = some (.builtin "max"):=by decide +kernel
section
variable{X:Cx}
def rCatS(K:D5):R2:=fun x y H Q=>∃ l b xs zs,x=.ref l/\y=.ref b/\SqL K H l xs/\SqL K H b zs/\xs.length+zs.length<=sizeLine/\∀ p,H p=none->Q (.ref p) (upd H p (.lst (xs++zs)))
theorem bL:OpR X (binaryOp .Add) (rCatS X.K):=by
 intro pins s σ H x y v u Q I rx ry h
 obtain⟨l,b,xs,zs,rfl,rfl,hH,hB,hz,q⟩:=h
 cases rx
 cases ry
 obtain⟨its,r,pl,_⟩:=I.list hH
 obtain⟨its2,r2,pl2,_⟩:=I.list hB
 obtain⟨⟨cls,dd,data,sl⟩,ho,hc,n,hd⟩:=pl.isList
 obtain⟨⟨cls2,dd2,data2,sl2⟩,ho2,hc2,n2,hd2⟩:=pl2.isList
 simp only at hc hd hc2 hd2
 subst hc hd hc2 hd2
 have ea:its.toArray++its2.toArray=(its++its2).toArray:=by simp
 have e1:=r.length
 have e2:=r2.length
 refine concat_meets ⟨_,ho,rfl⟩ ⟨_,ho2,rfl⟩ noFill_list_add seq_list_add PySem.F.slot_list_add PySem.F.entry_list_add (PySem.F.args_list_add_2 _ _) (list_addW l b its.toArray its2.toArray n n2 dd dd2 sl sl2 (by rw[Et,Et];omega)) ⟨ho,ho2,?_⟩
 rw[ea]
 exact⟨.ref _,_,I.lnew (t':=s.toks) (r.append r2) (by rw[D2];omega),rfl,q _ I.fresh⟩
end
end L2
namespace L2
open PySem PySem.Spec PyProof.Rows
section
variable{X:Cx}
end
section
variable{X:Cx}
end
end L2
namespace L2
open PySem PySem.Spec PyProof.Rows
end L2
namespace L2
open PySem PySem.Spec PyProof.Rows
section
variable{X:Cx}
theorem op_neG(hu:X.A.units+64<cLine):OpR X (compareOp .NotEq) (fun x y H Q=>∃ d1 d2,RdD X.K H x d1/\RdD X.K H y d2/\SeqAt.shaped d1=true/\SeqAt.shaped d2=true/\Q (.bl (!PyData.eqv d1 d2)) H):=by
 intro pins s σ H x y v u Q I rx ry h
 obtain⟨d1,d2,r1,r2,h1,h2,q⟩:=h
 obtain⟨as,q1⟩:=r1.reads I v rx
 obtain⟨bs,q2⟩:=r2.reads I u ry
 exact ne_dataH q1 q2 h1 h2 hu ⟨.bl _,H,I,rfl,q⟩
theorem nk:∀(a b:List Int),PyData.eqvAll (a.map PyData.int) (b.map PyData.int)=decide (a=b)
 |[],[]=>by simp[PyData.eqvAll]
 |[],y::b=>by simp[PyData.eqvAll]
 |x::a,[]=>by simp[PyData.eqvAll]
 |x::a,y::b=>by
  rw[EU,EU]
  simp only[PyData.eqvAll,PyData.eqv,nk a b]
  by_cases h:x=y
  ·by_cases h2:a=b
   ·simp[h,h2]
   ·simp[h,h2]
  ·simp[h]
theorem xG(a b:List Int):PyData.eqv (.list (a.map PyData.int)) (.list (b.map PyData.int))=decide (a=b):=by
 rw[← nk]
 simp only[PyData.eqv]
end
section
variable{X:Cx}{tg:Expr}
end
section
variable{P:Program}{w:World}{K:D5}{mg:Str->Option Value}{base:Heap}
end
end L2
namespace PyProof.Rows
open PySem
local macro_rules | `(tactic| walk_at "gallop") => do
 let n:=Lean.mkIdent (Lean.mkPrivateNameCore `PySem.Builtin.List.W1All `PySem.Builtin.gallop)
 `(tactic| delta $n)
local macro_rules | `(tactic| walk_at "st") => `(tactic| try dsimp -zeta -zetaHave only)
local macro_rules | `(tactic| walk_at "l4") => `(tactic| (extract_lets -underBinder +onlyGivenNames a b; subst a b))
abbrev AE:Bool->Keyed->Array Keyed->Nat->Nat->Nat->StateT SortSt Sem (Option Nat):=sortPriv% PySem.Builtin.gallop
def IntP(p:Keyed):Prop:=∃ n t,p.1=.int n t
def ky(p:Keyed):Int:=numOf p.1
theorem aH{σ α:Type}{M:Model}{A:Around}{E:Value->Shared->Prop}{s:Shared}{c:Prop} [Decidable c] {a b:StateT σ Sem α} {Q:α->σ->Prop} {st:σ} (h:c) (q:wpS M A E s a Q st):wpS M A E s (if c then a else b) Q st:=by rw[if_pos h];exact q
theorem aG{σ α:Type}{M:Model}{A:Around}{E:Value->Shared->Prop}{s:Shared}{c:Prop} [Decidable c] {a b:StateT σ Sem α} {Q:α->σ->Prop} {st:σ} (h:¬ c) (q:wpS M A E s b Q st):wpS M A E s (if c then a else b) Q st:=by rw[if_neg h];exact q
variable{prog:Program}{w:World}{A:Around}{E:Value->Shared->Prop}{s:Shared}
theorem pH{st:SortSt}{x y:Keyed}{Q:Option Bool->SortSt->Prop}(hk:kindOf st=oneType')(hx:IntP x)(hy:IntP y)(h:Q (some (decide (ky x<ky y))) st):wpS (model prog w) A E s ((sortPriv% PySem.Builtin.lt) x y) Q st:=by
 show wpS (model prog w) A E s (lt' x y) Q st
 obtain⟨n,t,hx⟩:=hx
 obtain⟨m,u,hy⟩:=hy
 rw[lt'_eq]
 refine wpS_bind (wpS_get ?_)
 unfold ky at h
 rw[hx,hy]at h
 rw[hk,keyLt'_oneType,hx,hy]
 refine wpS_bind (wpS_lift (wpAny_attempt (oneLt_int ⟨rfl,?_⟩)))
 exact wpS_pure h
theorem aX{st:SortSt}{arr:Array Keyed}{i:Nat}{p:Keyed}{Q:Keyed->SortSt->Prop}(hi:arr[i]?=some p)(h:Q p st):wpS (model prog w) A E s ((sortPriv% PySem.Builtin.elem) arr i) Q st:=by
 show wpS (model prog w) A E s (elem' arr i) Q st
 rw[elem'_eq,hi]
 exact wpS_pure h
theorem ir{st:SortSt}{left:Bool}{key:Keyed}{arr:Array Keyed}{base n hint:Nat}{Q:Option Nat->SortSt->Prop}(f:Nat->Bool)(hk:kindOf st=oneType')(hkey:IntP key)(hin:∀ i,i<n->∃ p,arr[base+i]?=some p/\IntP p/\f i=if left then decide (ky p<ky key) else !decide (ky key<ky p))
  (mono:∀ i j,i<=j->j<n->f j=true->f i=true) (hh:hint<n) (h:∀ k,k<=n->(∀ i,i<k->f i=true)->(∀ i,k<=i->i<n->f i=false)->Q (some k) st) :
  wpS (model prog w) A E s (AE left key arr base n hint) Q st:=by
 unfold AE
 walk_at "gallop"
 extract_lets -underBinder +onlyGivenNames beyond
 clear_value (eb:beyond=_)
 have hb:∀(i:Nat)(Q':Option Bool->SortSt->Prop),i<n->Q' (some (f i)) st->wpS (model prog w) A E s (beyond i) Q' st:=by
  intro i Q' hi q
  obtain⟨p,hp,ip,ef⟩:=hin i hi
  rw[eb]
  refine wpS_bind (aX hp ?_)
  rw[ef]at q
  cases left with
  |true=>exact pH hk ip hkey q
  |false=>exact wpS_bind (pH hk hkey ip (wpS_pure q))
 clear eb
 walk_at "l4"
 refine wpS_bind (hb hint _ hh ?_)
 walk_at "st"
 have nmono:∀ i j,i<=j->j<n->f i=false->f j=false:=fun i j hij hj e=>by
  cases z:f j with
  |false=>rfl
  |true=>rw[mono i j hij hj z]at e;cases e
 extract_lets -underBinder +onlyGivenNames jp
 clear_value (ej:jp=_)
 have hj:∀(u:Unit)(a0 a1 lo hi:Nat),lo<=hi->hi<=n->(∀ i,i<lo->f i=true)->(∀ i,hi<=i->i<n->f i=false)->wpS (model prog w) A E s (jp u a0 a1 lo hi) Q st:=by
  intro u a0 a1 lo hi h1 h2 h3 h4
  rw[ej]
  dsimp only
  refine wpS_bind (wpS_mono (wpS_forRange (I:=fun x c st'=>st'=st/\∃ l r,c=(none,l,r)/\l<=r/\r<=n/\r-l<=n-x/\(∀ i,i<l->f i=true)/\(∀ i,r<=i->i<n->f i=false))
   (Q:=fun c st'=>st'=st/\∃ l,c=(none,l,l)/\l<=n/\(∀ i,i<l->f i=true)/\(∀ i,l<=i->i<n->f i=false)) ?step ?fin ⟨rfl,lo,hi,rfl,h1,h2,by omega,h3,h4⟩) ?post)
  case post =>
   rintro c st' ⟨rfl,l,rfl,g1,g2,g3⟩
   exact wpS_pure (h l g1 g2 g3)
  case fin =>
   rintro c st' ⟨rfl,l,r,rfl,g1,g2,g3,g4,g5⟩
   have:l=r:=by omega
   subst this
   exact⟨rfl,l,rfl,g2,g4,g5⟩
  case step =>
   rintro x c st' _ hx ⟨rfl,l,r,rfl,g1,g2,g3,g4,g5⟩
   dsimp only
   by_cases z:l ≥ r
   ·refine aH z ?_
    have:l=r:=by omega
    subst this
    exact wpS_pure ⟨rfl,l,rfl,g2,g4,g5⟩
   ·refine aG z ?_
    refine wpS_bind (hb _ _ (by omega) ?_)
    cases e:f (l+(r-l)/2) with
    |true=>exact wpS_pure ⟨rfl,_,r,rfl,by omega,g2,by omega,fun i hi=>mono i _ (by omega) (by omega) e,g5⟩
    |false=>exact wpS_pure ⟨rfl,l,_,rfl,by omega,by omega,by omega,g4,fun i h1 h2=>nmono _ i h1 h2 e⟩
 clear ej
 cases er:f hint with
 |true =>
  refine aH rfl ?_
  dsimp only
  refine wpS_bind (wpS_mono (wpS_forRange (I:=fun x c st'=>st'=st/\∃ l o,c=(none,l,o)/\l<o/\x+1<=o/\hint+l<n/\f (hint+l)=true)
   (Q:=fun c st'=>st'=st/\∃ l o,c=(none,l,o)/\l<o/\hint+l<n/\f (hint+l)=true/\(n-hint<=o∨f (hint+o)=false)) ?step ?fin ⟨rfl,0,1,rfl,by omega,by omega,by omega,er⟩) ?post)
  case post =>
   rintro c st' ⟨rfl,l,o,rfl,g1,g2,g3,g4⟩
   dsimp only
   refine hj _ _ _ _ _ (by omega) (by omega) (fun i hi=>mono i _ (by omega) g2 g3) fun i h1 h2=>?_
   rcases g4 with g4 | g4
   ·omega
   ·exact nmono (hint+o) i (by omega) h2 g4
  case fin =>
   rintro c st' ⟨rfl,l,o,rfl,g1,g2,g3,g4⟩
   exact⟨rfl,l,o,rfl,g1,g3,g4,.inl (by omega)⟩
  case step =>
   rintro x c st' _ hx ⟨rfl,l,o,rfl,g1,g2,g3,g4⟩
   dsimp only
   by_cases z:o ≥ n-hint
   ·refine aH z ?_
    exact wpS_pure ⟨rfl,l,o,rfl,g1,g3,g4,.inl z⟩
   ·refine aG z ?_
    refine wpS_bind (hb _ _ (by omega) ?_)
    cases e:f (hint+o) with
    |true=>exact wpS_pure ⟨rfl,_,_,rfl,by omega,by omega,by omega,e⟩
    |false=>exact wpS_pure ⟨rfl,l,o,rfl,g1,g3,g4,.inr e⟩
 |false =>
  refine aG Ew ?_
  dsimp only
  refine wpS_bind (wpS_mono (wpS_forRange (I:=fun x c st'=>st'=st/\∃ l o,c=(none,l,o)/\l<o/\x+1<=o/\l<=hint/\f (hint-l)=false)
   (Q:=fun c st'=>st'=st/\∃ l o,c=(none,l,o)/\l<o/\l<=hint/\f (hint-l)=false/\(hint+1<=o∨f (hint-o)=true)) ?step ?fin ⟨rfl,0,1,rfl,by omega,by omega,by omega,er⟩) ?post)
  case post =>
   rintro c st' ⟨rfl,l,o,rfl,g1,g2,g3,g4⟩
   dsimp only
   refine hj _ _ _ _ _ (by omega) (by omega) (fun i hi=>?_) fun i h1 h2=>nmono _ i h1 h2 g3
   rcases g4 with g4 | g4
   ·omega
   ·exact mono i (hint-o) (by omega) (by omega) g4
  case fin =>
   rintro c st' ⟨rfl,l,o,rfl,g1,g2,g3,g4⟩
   exact⟨rfl,l,o,rfl,g1,g3,g4,.inl (by omega)⟩
  case step =>
   rintro x c st' _ hx ⟨rfl,l,o,rfl,g1,g2,g3,g4⟩
   dsimp only
   by_cases z:o ≥ hint+1
   ·refine aH z ?_
    exact wpS_pure ⟨rfl,l,o,rfl,g1,g3,g4,.inl z⟩
   ·refine aG z ?_
    refine wpS_bind (hb _ _ (by omega) ?_)
    cases e:f (hint-o) with
    |true=>exact wpS_pure ⟨rfl,l,o,rfl,g1,g3,g4,.inr e⟩
    |false=>exact wpS_pure ⟨rfl,_,_,rfl,by omega,by omega,by omega,e⟩
def Upl(l:List Keyed):Prop:=l.Pairwise fun x y=>ky x<=ky y
structure LM(P R o:List Keyed)(i j:Nat):Prop where
 pm:o.Perm (P.take i++R.take j)
 up:Upl o
 la:∀ x∈o,∀ y∈P.drop i,ky x<=ky y
 lb:∀ x∈o,∀ y∈R.drop j,ky x<=ky y
theorem LM.swap{P R o:List Keyed}{i j:Nat}(h:LM P R o i j):LM R P o j i:=⟨h.pm.trans EA,h.up,h.lb,h.la⟩
theorem LM.a{P R o:List Keyed}{i j:Nat}(h:LM P R o i j)(u:Upl P)(k:Nat)(c:∀ x∈(P.drop i).take k,∀ y∈R.drop j,ky x<=ky y):LM P R (o++(P.drop i).take k) (i+k) j where
 pm:=by
  rw[F8,ED]
  refine(h.pm.append_right _).trans ?_
  rw[ED]
  exact Fm _ EA
 up:=E2.mpr ⟨h.up,(u.drop).take,fun x hx y hy=>h.la x hx y (E4 hy)⟩
 la:=fun x hx y hy=>by
  rw[← Fx]at hy
  rcases Ee.mp hx with hx | hx
  ·exact h.la x hx y (E5 hy)
  ·have z:Upl ((P.drop i).take k++(P.drop i).drop k):=by rw[Es];exact u.drop
   exact(E2.mp z).2.2 x hx y hy
 lb:=fun x hx y hy=>by
  rcases Ee.mp hx with hx | hx
  ·exact h.lb x hx y hy
  ·exact c x hx y hy
theorem LM.fin{P R o:List Keyed}{i j:Nat}(h:LM P R o i j)(u:Upl P)(v:Upl R)(c:∀ x∈P.drop i,∀ y∈R.drop j,ky x<=ky y):(o++P.drop i++R.drop j).Perm (P++R)/\Upl (o++P.drop i++R.drop j):=by
 constructor
 ·refine((h.pm.append_right _).append_right _).trans ?_
  have e:P++R=(P.take i++P.drop i)++(R.take j++R.drop j):=by rw[Es,Es]
  rw[e,← ED]
  refine List.Perm.append_right _ ?_
  rw[ED,ED]
  exact Fm _ EA
 ·refine E2.mpr ⟨E2.mpr ⟨h.up,u.drop,h.la⟩,v.drop,fun x hx y hy=>?_⟩
  rcases Ee.mp hx with hx | hx
  ·exact h.lb x hx y hy
  ·exact c x hx y hy
end PyProof.Rows
namespace PyProof.Rows
open PySem
local macro_rules | `(tactic| walk_at "setG") => do
 let n:=Lean.mkIdent (Lean.mkPrivateNameCore `PySem.Builtin.List.W1All `PySem.Builtin.setMinGallop)
 `(tactic| delta $n)
local macro_rules | `(tactic| walk_at "mergeLo") => do
 let n:=Lean.mkIdent (Lean.mkPrivateNameCore `PySem.Builtin.List.W1All `PySem.Builtin.mergeLo)
 `(tactic| delta $n)
local macro_rules | `(tactic| walk_at "st") => `(tactic| try dsimp -zeta -zetaHave only)
local macro_rules | `(tactic| walk_at "l3") => `(tactic| (extract_lets -underBinder +onlyGivenNames a b c; subst a b c))
local macro_rules | `(tactic| walk_at "l11") => `(tactic| (extract_lets -underBinder +onlyGivenNames a b c d e f g h i j k; subst a b c d e f g h i j k; dsimp -zeta -zetaHave only))
variable{prog:Program}{w:World}{A:Around}{E:Value->Shared->Prop}{s:Shared}
structure SmG(st st':SortSt):Prop where
 k:kindOf st'=kindOf st
 a:arrOf st'=arrOf st
 p:pendingOf st'=pendingOf st
 f:failedOf st'=failedOf st
theorem SmG.rfl'(st:SortSt):SmG st st:=⟨rfl,rfl,rfl,rfl⟩
theorem SmG.trans{a b c:SortSt}(h:SmG a b)(g:SmG b c):SmG a c:=⟨g.k.trans h.k,g.a.trans h.a,g.p.trans h.p,g.f.trans h.f⟩
theorem l5{st:SortSt}{g:Nat}{Q:Unit->SortSt->Prop}(h:∀ st',SmG st st'->Q () st'):wpS (model prog w) A E s ((sortPriv% PySem.Builtin.setMinGallop) g) Q st:=by
 walk_at "setG"
 exact wpS_modify (h _ ⟨rfl,rfl,rfl,rfl⟩)
theorem gT(a:Array Keyed)(i:Nat):(a.extract i).toList=a.toList.drop i:=by
 rw[F7,FK]
 exact EM (by rw[Eu];exact Ea _)
theorem md(a:Array Keyed)(i k:Nat):(a.extract i (i+k)).toList=(a.toList.drop i).take k:=by
 rw[F7,FK]
 congr 1
 omega
theorem fE{P:List Keyed}{i:Nat}{x:Keyed}(h:P[i]?=some x):(P.drop i).take 1 = [x]:=by
 have hi:=(DZ.mp h).1
 rw[Fi hi]
 rw[D1 hi]at h
 cases h
 rfl
theorem LM.a1{P R o:List Keyed}{i j:Nat}{x:Keyed}(h:LM P R o i j)(u:Upl P)(hx:P[i]?=some x)(c:∀ y∈R.drop j,ky x<=ky y):LM P R (o++[x]) (i+1) j:=by
 have:=h.a u 1 (by rw[fE hx];intro z hz;rw[E6.mp hz];exact c)
 rwa[fE hx]at this
theorem i5{P:List Keyed}{i:Nat}{x:Keyed}(u:Upl P)(hx:P[i]?=some x):∀ y∈P.drop i,ky x<=ky y:=by
 have hi:=(DZ.mp hx).1
 have z:Upl (P.drop i):=u.drop
 rw[Fi hi]at z ⊢
 rw[D1 hi]at hx
 cases hx
 intro y hy
 rcases Ec.mp hy with rfl | hy
 ·exact FA _
 ·exact(G0.mp z).1 y hy
theorem Ac{P:List Keyed}{i k:Nat}{x:Keyed}(h:x∈(P.drop i).take k):∃ m,m<k/\P[i+m]?=some x:=by
 obtain⟨m,hm,e⟩:=List.getElem_of_mem h
 rw[Eg,Eu]at hm
 refine⟨m,by omega,?_⟩
 rw[Gw,G9]at e
 rw[D1 (by omega),e]
theorem zp{P:List Keyed}{i j:Nat}{x y:Keyed}(u:Upl P)(hx:P[i]?=some x)(hy:P[j]?=some y)(h:i<=j):ky x<=ky y:=i5 u hx y (by
 have hj:=(DZ.mp hy).1
 refine D4 (i:=j-i) ?_
 rw[Fz,show i+(j-i)=j by omega,hy])
theorem Ae{P:List Keyed}{i:Nat}{x:Keyed}(h:x∈P.drop i):∃ m,P[i+m]?=some x:=by
 obtain⟨m,hm⟩:=List.getElem?_of_mem h
 exact⟨m,by rw[← hm,Fz]⟩
def fR(P:List Keyed)(i:Nat)(v:Keyed)(m:Nat):Bool:=match P[i+m]? with | some p=>!decide (ky v<ky p) | none=>false
def fL(P:List Keyed)(i:Nat)(v:Keyed)(m:Nat):Bool:=match P[i+m]? with | some p=>decide (ky p<ky v) | none=>false
theorem ni{P:List Keyed}{i m:Nat}{v p:Keyed}(h:P[i+m]?=some p):fR P i v m = !decide (ky v<ky p):=by unfold fR;rw[h]
theorem oH{P:List Keyed}{i m:Nat}{v p:Keyed}(h:P[i+m]?=some p):fL P i v m=decide (ky p<ky v):=by unfold fL;rw[h]
theorem DI{P:List Keyed}{i:Nat}{v:Keyed}(u:Upl P){n:Nat}(hn:i+n<=P.length):∀ x y,x<=y->y<n->fR P i v y=true->fR P i v x=true:=fun x y hxy hy e=>by
 have hx:P[i+x]?=some P[i+x]:=D1 (by omega)
 have hy':P[i+y]?=some P[i+y]:=D1 (by omega)
 rw[ni hy']at e
 rw[ni hx]
 have:=zp u hx hy' (by omega)
 simp only[FZ,decide_eq_false_iff_not]at e ⊢
 omega
theorem DL{P:List Keyed}{i:Nat}{v:Keyed}(u:Upl P){n:Nat}(hn:i+n<=P.length):∀ x y,x<=y->y<n->fL P i v y=true->fL P i v x=true:=fun x y hxy hy e=>by
 have hx:P[i+x]?=some P[i+x]:=D1 (by omega)
 have hy':P[i+y]?=some P[i+y]:=D1 (by omega)
 rw[oH hy']at e
 rw[oH hx]
 have:=zp u hx hy' (by omega)
 simp only[decide_eq_true_eq]at e ⊢
 omega
theorem DJ{P:List Keyed}{i k:Nat}{v:Keyed}(h:∀ m,m<k->fR P i v m=true):∀ x∈(P.drop i).take k,ky x<=ky v:=fun x hx=>by
 obtain⟨m,hm,e⟩:=Ac hx
 have:=h m hm
 rw[ni e]at this
 simp only[FZ,decide_eq_false_iff_not]at this
 omega
theorem DM{P:List Keyed}{i k:Nat}{v:Keyed}(h:∀ m,m<k->fL P i v m=true):∀ x∈(P.drop i).take k,ky x<ky v:=fun x hx=>by
 obtain⟨m,hm,e⟩:=Ac hx
 have:=h m hm
 rw[oH e]at this
 simpa using this
theorem fR_hi{P:List Keyed}{i k n:Nat}{v:Keyed}(hn:P.length<=i+n)(h:∀ m,k<=m->m<n->fR P i v m=false):∀ y∈P.drop (i+k),ky v<ky y:=fun y hy=>by
 obtain⟨m,e⟩:=Ae hy
 have hl:=(DZ.mp e).1
 have:=h (k+m) (by omega) (by omega)
 rw[ni (show P[i+(k+m)]?=some y by rw[← Nat.add_assoc];exact e)]at this
 simpa using this
theorem fL_hi{P:List Keyed}{i k n:Nat}{v:Keyed}(hn:P.length<=i+n)(h:∀ m,k<=m->m<n->fL P i v m=false):∀ y∈P.drop (i+k),ky v<=ky y:=fun y hy=>by
 obtain⟨m,e⟩:=Ae hy
 have hl:=(DZ.mp e).1
 have:=h (k+m) (by omega) (by omega)
 rw[oH (show P[i+(k+m)]?=some y by rw[← Nat.add_assoc];exact e)]at this
 simp only[decide_eq_false_iff_not]at this
 omega
theorem wU{st:SortSt}{key:Keyed}{arr:Array Keyed}{base n hint:Nat}{Q:Option Nat->SortSt->Prop}(hk:kindOf st=oneType')(hkey:IntP key)(u:Upl arr.toList)(ip:∀ x∈arr.toList,IntP x)(hn:base+n<=arr.size)(hh:hint<n)
  (h:∀ k,k<=n->(∀ i,i<k->fR arr.toList base key i=true)->(∀ i,k<=i->i<n->fR arr.toList base key i=false)->Q (some k) st):wpS (model prog w) A E s ((sortPriv% PySem.Builtin.gallop) false key arr base n hint) Q st :=
 have la:arr.toList.length=arr.size:=by simp
 ir (fR arr.toList base key) hk hkey (fun i hi=>by
  have hx:arr.toList[base+i]?=some arr.toList[base+i]:=D1 (by omega)
  exact⟨_,by rw[← hx];simp,ip _ (E8 _),by rw[ni hx];rfl⟩) (DI u (by omega)) hh h
theorem wV{st:SortSt}{key:Keyed}{arr:Array Keyed}{base n hint:Nat}{Q:Option Nat->SortSt->Prop}(hk:kindOf st=oneType')(hkey:IntP key)(u:Upl arr.toList)(ip:∀ x∈arr.toList,IntP x)(hn:base+n<=arr.size)(hh:hint<n)
  (h:∀ k,k<=n->(∀ i,i<k->fL arr.toList base key i=true)->(∀ i,k<=i->i<n->fL arr.toList base key i=false)->Q (some k) st):wpS (model prog w) A E s ((sortPriv% PySem.Builtin.gallop) true key arr base n hint) Q st :=
 have la:arr.toList.length=arr.size:=by simp
 ir (fL arr.toList base key) hk hkey (fun i hi=>by
  have hx:arr.toList[base+i]?=some arr.toList[base+i]:=D1 (by omega)
  exact⟨_,by rw[← hx];simp,ip _ (E8 _),by rw[oH hx];rfl⟩) (DL u (by omega)) hh h
theorem Co{σ α β:Type}{M:Model}{c:Prop} [Decidable c] {F:α->StateT σ Sem β} {x y:α} {Q:β->σ->Prop} {st:σ} (h:∀ z,wpS M A E s (F z) Q st):wpS M A E s (if c then F x else F y) Q st:=by
 split<;>exact h _
theorem uo{σ α:Type}{M:Model}{m:StateT σ Sem α}{Q:α->σ->Prop}{st:σ}(h:∀ R:α->σ->Prop,(∀ a st',Q a st'->R a st')->wpS M A E s m R st):wpS M A E s m Q st:=h Q fun _ _ q=>q
def xq:Array Keyed->Array Keyed->StateT SortSt Sem (Array Keyed):=sortPriv% PySem.Builtin.mergeLo
theorem at_l{a:Array Keyed}{i:Nat}{x:Keyed}(h:a.toList[i]?=some x):a[i]?=some x:=by rw[← h];simp
theorem uj{st:SortSt}{a b:Array Keyed}{Q:Array Keyed->SortSt->Prop}(hk:kindOf st=oneType')(ua:Upl a.toList)(ub:Upl b.toList)(ia:∀ x∈a.toList,IntP x)(ib:∀ x∈b.toList,IntP x)(a1:1<=a.size)(b1:1<=b.size)
  (h0:∀ x y:Keyed,b.toList[0]?=some x->y∈a.toList->ky x<=ky y) (hst:∀ x y:Keyed,x∈b.toList->a.toList[a.size-1]?=some y->ky x<ky y)
  (h:∀ R st',SmG st st'->R.toList.Perm (a.toList++b.toList)->Upl R.toList->Q R st'):wpS (model prog w) A E s (xq a b) Q st:=by
 unfold xq
 walk_at "mergeLo"
 have la:a.toList.length=a.size:=by simp
 have lb:b.toList.length=b.size:=by simp
 have atA:∀ i,i<a.size->∃ x,a.toList[i]?=some x/\IntP x:=fun i hi=>⟨_,D1 (by omega),ia _ (E8 _)⟩
 have atB:∀ i,i<b.size->∃ x,b.toList[i]?=some x/\IntP x:=fun i hi=>⟨_,D1 (by omega),ib _ (E8 _)⟩
 have dn:∀(o:Array Keyed)(i j:Nat)(st':SortSt),SmG st st'->LM a.toList b.toList o.toList i j->j=b.size->Q (o++a.extract i++b.extract j) st':=by
  intro o i j st' sg lm e
  have nb:b.toList.drop j = []:=GG (by omega)
  obtain⟨g1,g2⟩:=lm.fin ua ub (by rw[nb];intro x _ y hy;cases hy)
  refine h _ st' sg ?_ ?_
  ·rw[EK,EK,gT,gT];exact g1
  ·rw[EK,EK,gT,gT];exact g2
 have ls:∀(o:Array Keyed)(i j:Nat)(st':SortSt),SmG st st'->LM a.toList b.toList o.toList i j->i+1=a.size->Q (o++b.extract j++a.extract i) st':=by
  intro o i j st' sg lm e
  obtain⟨z,hz,_⟩:=atA i (by omega)
  have na:a.toList.drop i = [z]:=by
   rw[← fE hz]
   exact(EM (by rw[Eu];omega)).symm
  obtain⟨g1,g2⟩:=lm.swap.fin ub ua (by
   rw[na]
   intro x hx y hy
   rw[E6.mp hy]
   exact Fn (hst x z (E5 hx) (by rw[← e];exact hz)))
  refine h _ st' sg ?_ ?_
  ·rw[EK,EK,gT,gT];exact g1.trans EA
  ·rw[EK,EK,gT,gT];exact g2
 refine wpS_bind (wpS_lift (wpAny_rule ⟨rfl,?_⟩))
 obtain⟨y0,hy0,iy0⟩:=atB 0 (by omega)
 walk_at "l3"
 refine wpS_bind (aX (at_l hy0) ?_)
 have m0:LM a.toList b.toList [y0] 0 1:=⟨by rw[Hx,Hq,← fE hy0];exact HA _,GA ..,fun x hx y hy=>by rw[E6.mp hx];exact h0 y0 y hy0 hy,fun x hx y hy=>by
  rw[E6.mp hx]
  exact i5 ub hy0 y (E5 hy)⟩
 by_cases c1:(1 == b.size)=true
 ·refine aH c1 ?_
  exact wpS_pure (dn _ _ _ _ (SmG.rfl' _) m0 (by simpa using c1))
 refine aG c1 ?_
 have c1':1≠b.size:=by simpa using c1
 by_cases c2:(0+1 == a.size)=true
 ·refine aH c2 ?_
  exact wpS_pure (ls _ _ _ _ (SmG.rfl' _) m0 (by simpa using c2))
 refine aG c2 ?_
 have c2':0+1≠a.size:=by simpa using c2
 refine wpS_bind (wpS_get ?_)
 refine wpS_bind (wpS_mono (wpS_forRange (I:=fun x c st'=>SmG st st'/\∃(o:Array Keyed)(i j g:Nat),c=(none,o,i,j,g)/\LM a.toList b.toList o.toList i j/\i+1<a.size/\j<b.size/\x+1<=i+j)
  (Q:=fun c st'=>∃(r:Array Keyed)(z:Array Keyed×Nat×Nat×Nat),c=(some r,z)/\Q r st') ?step ?fin ⟨SmG.rfl' _,_,_,_,_,rfl,m0,by omega,by omega,by omega⟩) ?post)
 case post =>
  rintro c st' ⟨r,z,rfl,q⟩
  exact wpS_pure q
 case fin =>
  rintro c st' ⟨sg,o,i,j,g,rfl,lm,g1,g2,g3⟩
  omega
 case step =>
  rintro x c st1 _ hx ⟨sg1,o,i,j,g,rfl,lm,g1,g2,g3⟩
  refine wpS_bind (wpS_mono (wpS_forRange (I:=fun y c st'=>SmG st st'/\∃(o:Array Keyed)(i j ac bc:Nat),c=(none,o,i,j,ac,bc)/\LM a.toList b.toList o.toList i j/\i+1<a.size/\j<b.size/\x+1+y<=i+j)
   (Q:=fun c st'=>(∃(r:Array Keyed)(z:Array Keyed×Nat×Nat×Nat×Nat),c=(some r,z)/\Q r st')∨SmG st st'/\∃(o:Array Keyed)(i j ac bc:Nat),c=(none,o,i,j,ac,bc)/\LM a.toList b.toList o.toList i j/\i+1<a.size/\j<b.size/\x+2<=i+j) ?istep ?ifin ⟨sg1,o,i,j,0,0,rfl,lm,g1,g2,by omega⟩) ?ipost)
  case ifin =>
   rintro c st' ⟨sg,o,i,j,ac,bc,rfl,lm,g1,g2,g3⟩
   exact .inr ⟨sg,o,i,j,ac,bc,rfl,lm,g1,g2,by omega⟩
  case istep =>
   rintro y c st2 _ hy ⟨sg2,o,i,j,ac,bc,rfl,lm,g1,g2,g3⟩
   obtain⟨vb,hvb,ivb⟩:=atB j g2
   obtain⟨va,hva,iva⟩:=atA i (by omega)
   dsimp only
   refine wpS_bind (aX (at_l hvb) (wpS_bind (aX (at_l hva) (wpS_bind (pH (sg2.k.trans hk) ivb iva ?_)))))
   by_cases c:ky vb<ky va
   ·rw[decide_eq_true c]
    dsimp only
    refine aH rfl ?_
    refine wpS_bind (aX (at_l hvb) ?_)
    have m2:LM a.toList b.toList (o.push vb).toList i (j+1):=by
     rw[FH]
     exact(lm.swap.a1 ub hvb fun z hz=>by have:=i5 ua hva z hz;omega).swap
    by_cases d1:(j+1 == b.size)=true
    ·refine aH d1 ?_
     exact wpS_pure (.inl ⟨_,_,rfl,dn _ _ _ _ sg2 m2 (by simpa using d1)⟩)
    ·refine aG d1 ?_
     have d1':j+1≠b.size:=by simpa using d1
     split
     ·exact wpS_pure (.inr ⟨sg2,_,_,_,_,_,rfl,m2,g1,by omega,by omega⟩)
     ·exact wpS_pure ⟨sg2,_,_,_,_,_,rfl,m2,g1,by omega,by omega⟩
   ·rw[decide_eq_false c]
    dsimp only
    refine aG Ew ?_
    refine wpS_bind (aX (at_l hva) ?_)
    have m2:LM a.toList b.toList (o.push va).toList (i+1) j:=by
     rw[FH]
     exact lm.a1 ua hva fun z hz=>by have:=i5 ub hvb z hz;omega
    by_cases d1:(i+1+1 == a.size)=true
    ·refine aH d1 ?_
     exact wpS_pure (.inl ⟨_,_,rfl,ls _ _ _ _ sg2 m2 (by simpa using d1)⟩)
    ·refine aG d1 ?_
     have d1':i+1+1≠a.size:=by simpa using d1
     split
     ·exact wpS_pure (.inr ⟨sg2,_,_,_,_,_,rfl,m2,by omega,g2,by omega⟩)
     ·exact wpS_pure ⟨sg2,_,_,_,_,_,rfl,m2,by omega,g2,by omega⟩
  case ipost =>
   rintro c st2 (⟨r,z,rfl,q⟩ | ⟨sg2,o,i,j,ac,bc,rfl,lm,g1,g2,g3⟩)
   ·exact wpS_pure ⟨_,_,rfl,q⟩
   dsimp -zeta -zetaHave only
   refine wpS_bind (wpS_lift (wpAny_rule ⟨rfl,?_⟩))
   refine wpS_bind (wpS_mono (wpS_forRange (I:=fun y c st'=>SmG st st'/\∃(o:Array Keyed)(i j g ac bc:Nat),c=(none,o,i,j,g,ac,bc)/\LM a.toList b.toList o.toList i j/\i+1<a.size/\j<b.size/\x+2<=i+j)
    (Q:=fun c st'=>(∃(r:Array Keyed)(z:Array Keyed×Nat×Nat×Nat×Nat×Nat),c=(some r,z)/\Q r st')∨SmG st st'/\∃(o:Array Keyed)(i j g ac bc:Nat),c=(none,o,i,j,g,ac,bc)/\LM a.toList b.toList o.toList i j/\i+1<a.size/\j<b.size/\x+2<=i+j) ?jstep ?jfin ⟨sg2,o,i,j,_,ac,bc,rfl,lm,g1,g2,g3⟩) ?jpost)
   case jfin=>exact fun c st' q=>.inr q
   case jpost =>
    rintro c st3 (⟨r,z,rfl,q⟩ | ⟨sg3,o,i,j,g,ac,bc,rfl,lm,g1,g2,g3⟩)
    ·exact wpS_pure ⟨_,_,rfl,q⟩
    dsimp only
    exact wpS_bind (l5 fun st4 sg4=>wpS_pure ⟨sg3.trans sg4,_,_,_,_,rfl,lm,g1,g2,by omega⟩)
   case jstep =>
    rintro y c st3 _ hy ⟨sg3,o,i,j,g,ac,bc,rfl,lm,g1,g2,g3⟩
    walk_at "st"
    walk_at "l11"
    extract_lets -underBinder +onlyGivenNames jp
    clear_value (ej:jp=_)
    refine uo fun R hR=>?_
    refine Co (F:=fun z=>jp () z) fun g'=>?_
    rw[ej]
    clear ej jp
    walk_at "st"
    refine wpS_bind (l5 fun st4 sg4=>?_)
    have sg34:=sg3.trans sg4
    have k4:=sg34.k.trans hk
    obtain⟨vb,hvb,ivb⟩:=atB j g2
    refine wpS_bind (aX (at_l hvb) ?_)
    refine wpS_bind (wU k4 ivb ua ia (by omega) (by omega) fun k kn kt kf=>?_)
    walk_at "st"
    extract_lets -underBinder +onlyGivenNames ac jp
    subst ac
    clear_value (ej:jp=_)
    have vbl:=i5 ub hvb
    have hlo:=DJ kt
    have hhi:=fR_hi (by omega) kf
    have hj:∀(o':Array Keyed)(i':Nat),LM a.toList b.toList o'.toList i' j->i'+1<a.size->(∀ y∈a.toList.drop i',ky vb<=ky y)->x+2<=i'+j->wpS (model prog w) A E s (jp () o' i') R st4:=by
     intro o' i' lm' g1' gv g3'
     rw[ej]
     clear ej jp
     walk_at "st"
     refine wpS_bind (aX (at_l hvb) ?_)
     have m2:LM a.toList b.toList (o'.push vb).toList i' (j+1):=by
      rw[FH]
      exact(lm'.swap.a1 ub hvb gv).swap
     by_cases d1:(j+1 == b.size)=true
     ·refine aH d1 ?_
      exact wpS_pure (hR _ _ (.inl ⟨_,_,rfl,dn _ _ _ _ sg34 m2 (by simpa using d1)⟩))
     refine aG d1 ?_
     have d1':j+1≠b.size:=by simpa using d1
     obtain⟨va,hva,iva⟩:=atA i' (by omega)
     have val:=i5 ua hva
     refine wpS_bind (aX (at_l hva) ?_)
     refine wpS_bind (wV k4 iva ub ib (by omega) (by omega) fun k2 kn2 kt2 kf2=>?_)
     walk_at "st"
     extract_lets -underBinder +onlyGivenNames ac jp
     subst ac
     clear_value (ej:jp=_)
     have hlo2:=DM kt2
     have hhi2:=fL_hi (by omega) kf2
     have hj:∀(o':Array Keyed)(j':Nat),LM a.toList b.toList o'.toList i' j'->j'<b.size->(∀ y∈b.toList.drop j',ky va<=ky y)->x+2<=i'+j'->wpS (model prog w) A E s (jp () o' j') R st4:=by
      intro o' j' lm2 g2' gv' g3''
      rw[ej]
      clear ej jp
      walk_at "st"
      refine wpS_bind (aX (at_l hva) ?_)
      have m3:LM a.toList b.toList (o'.push va).toList (i'+1) j':=by
       rw[FH]
       exact lm2.a1 ua hva gv'
      by_cases d2:(i'+1+1 == a.size)=true
      ·refine aH d2 ?_
       exact wpS_pure (hR _ _ (.inl ⟨_,_,rfl,ls _ _ _ _ sg34 m3 (by simpa using d2)⟩))
      refine aG d2 ?_
      have d2':i'+1+1≠a.size:=by simpa using d2
      split
      ·exact wpS_pure (hR _ _ (.inr ⟨sg34,_,_,_,_,_,_,rfl,m3,by omega,g2',by omega⟩))
      ·exact wpS_pure (hR _ _ ⟨sg34,_,_,_,_,_,_,rfl,m3,by omega,g2',by omega⟩)
     clear ej
     by_cases z2:k2 > 0
     ·refine aH z2 ?_
      have m3:LM a.toList b.toList (o'.push vb++b.extract (j+1) (j+1+k2)).toList i' (j+1+k2):=by
       rw[EK,md]
       exact(m2.swap.a ub k2 fun x hx y hy=>by have:=hlo2 x hx;have:=val y hy;omega).swap
      by_cases d2:(j+1+k2 == b.size)=true
      ·refine aH d2 ?_
       exact wpS_pure (hR _ _ (.inl ⟨_,_,rfl,dn _ _ _ _ sg34 m3 (by simpa using d2)⟩))
      refine aG d2 ?_
      have d2':j+1+k2≠b.size:=by simpa using d2
      exact hj _ _ m3 (by omega) hhi2 (by omega)
     ·refine aG z2 ?_
      have:k2=0:=by omega
      subst this
      exact hj _ _ m2 (by omega) hhi2 (by omega)
    clear ej
    by_cases z:k > 0
    ·refine aH z ?_
     have m2:LM a.toList b.toList (o++a.extract i (i+k)).toList (i+k) j:=by
      rw[EK,md]
      exact lm.a ua k fun x hx y hy=>by have:=hlo x hx;have:=vbl y hy;omega
     by_cases d1:(i+k+1 == a.size)=true
     ·refine aH d1 ?_
      exact wpS_pure (hR _ _ (.inl ⟨_,_,rfl,ls _ _ _ _ sg34 m2 (by simpa using d1)⟩))
     refine aG d1 ?_
     have d1':i+k+1≠a.size:=by simpa using d1
     by_cases d2:(i+k == a.size)=true
     ·exfalso
      have d2':i+k=a.size:=by simpa using d2
      obtain⟨vl,hvl,_⟩:=atA (a.size-1) (by omega)
      have h1:=kt (a.size-1-i) (by omega)
      rw[ni (show a.toList[i+(a.size-1-i)]?=some vl by rw[show i+(a.size-1-i)=a.size-1 by omega];exact hvl)]at h1
      have h2:=hst vb vl (D4 hvb) hvl
      simp only[FZ,decide_eq_false_iff_not]at h1
      omega
     refine aG d2 ?_
     have d2':i+k≠a.size:=by simpa using d2
     exact hj _ _ m2 (by omega) (fun y hy=>Fn (hhi y hy)) (by omega)
    ·refine aG z ?_
     have:k=0:=by omega
     subst this
     exact hj _ _ lm g1 (fun y hy=>Fn (hhi y hy)) (by omega)
end PyProof.Rows
namespace PyProof.Rows
open PySem
local macro_rules | `(tactic| walk_at "mergeHi") => do
 let n:=Lean.mkIdent (Lean.mkPrivateNameCore `PySem.Builtin.List.W1All `PySem.Builtin.mergeHi)
 `(tactic| delta $n)
local macro_rules | `(tactic| walk_at "st") => `(tactic| try dsimp -zeta -zetaHave only)
local macro_rules | `(tactic| walk_at "l3") => `(tactic| (extract_lets -underBinder +onlyGivenNames a b c; subst a b c))
local macro_rules | `(tactic| walk_at "l11") => `(tactic| (extract_lets -underBinder +onlyGivenNames a b c d e f g h i j k; subst a b c d e f g h i j k; dsimp -zeta -zetaHave only))
variable{prog:Program}{w:World}{A:Around}{E:Value->Shared->Prop}{s:Shared}
structure LH(P R o:List Keyed)(i j:Nat):Prop where
 pm:o.Perm (P.drop i++R.drop j)
 up:Upl o
 la:∀ x∈P.take i,∀ y∈o,ky x<=ky y
 lb:∀ x∈R.take j,∀ y∈o,ky x<=ky y
theorem LH.swap{P R o:List Keyed}{i j:Nat}(h:LH P R o i j):LH R P o j i:=⟨h.pm.trans EA,h.up,h.lb,h.la⟩
theorem BZ(P:List Keyed){i i':Nat}(h:i'<=i)(hi:i<=P.length):P.drop i'=(P.take i).drop i'++P.drop i:=by
 have e:=congrArg (List.drop i') (Es i P)
 rw[Hi,Eg,show i'-min i P.length=0 by omega,F0]at e
 exact e.symm
theorem LH.a{P R o:List Keyed}{i j:Nat}(h:LH P R o i j)(u:Upl P){i':Nat}(hi':i'<=i)(hi:i<=P.length)(c:∀ x∈R.take j,∀ y∈(P.take i).drop i',ky x<=ky y):LH P R ((P.take i).drop i'++o) i' j where
 pm:=by
  rw[BZ P hi' hi,ED]
  exact Fm _ h.pm
 up:=E2.mpr ⟨(u.take).drop,h.up,fun x hx y hy=>h.la x (E5 hx) y hy⟩
 la:=fun x hx y hy=>by
  have e:P.take i'=(P.take i).take i':=by rw[Gm,Fc hi']
  rw[e]at hx
  rcases Ee.mp hy with hy | hy
  ·have z:Upl ((P.take i).take i'++(P.take i).drop i'):=by rw[Es];exact u.take
   exact(E2.mp z).2.2 x hx y hy
  ·exact h.la x (E4 hx) y hy
 lb:=fun x hx y hy=>by
  rcases Ee.mp hy with hy | hy
  ·exact c x hx y hy
  ·exact h.lb x hx y hy
theorem qG{P:List Keyed}{i:Nat}{x:Keyed}(h:P[i]?=some x):(P.take (i+1)).drop i = [x]:=by
 have hi:=(DZ.mp h).1
 rw[F1,show i+1-i=1 by omega]
 exact fE h
theorem LH.a1{P R o:List Keyed}{i j:Nat}{x:Keyed}(h:LH P R o (i+1) j)(u:Upl P)(hx:P[i]?=some x)(c:∀ y∈R.take j,ky y<=ky x):LH P R (x::o) i j:=by
 have hi:=(DZ.mp hx).1
 have:=h.a u (i':=i) (by omega) (by omega) (by rw[qG hx];intro y hy z hz;rw[E6.mp hz];exact c y hy)
 rwa[qG hx]at this
theorem LH.fin{P R o:List Keyed}{i j:Nat}(h:LH P R o i j)(u:Upl P)(v:Upl R)(c:∀ x∈P.take i,∀ y∈R.take j,ky x<=ky y):(P.take i++R.take j++o).Perm (P++R)/\Upl (P.take i++R.take j++o):=by
 constructor
 ·refine(Fm _ h.pm).trans ?_
  have e:P++R=(P.take i++P.drop i)++(R.take j++R.drop j):=by rw[Es,Es]
  rw[e,← ED,← ED]
  refine List.Perm.append_right _ ?_
  rw[ED,ED]
  exact Fm _ EA
 ·refine E2.mpr ⟨E2.mpr ⟨u.take,v.take,c⟩,h.up,fun x hx y hy=>?_⟩
  rcases Ee.mp hx with hx | hx
  ·exact h.la x hx y hy
  ·exact h.lb x hx y hy
theorem j6{P:List Keyed}{i:Nat}{x:Keyed}(u:Upl P)(hx:P[i]?=some x):∀ y∈P.take (i+1),ky y<=ky x:=fun y hy=>by
 obtain⟨m,hm,e⟩:=List.getElem_of_mem hy
 rw[Eg]at hm
 rw[Gw]at e
 exact zp u (i:=m) (by rw[D1 (by omega),e]) hx (by omega)
theorem fR_lo'{P:List Keyed}{k:Nat}{v:Keyed}(h:∀ m,m<k->fR P 0 v m=true):∀ x∈P.take k,ky x<=ky v:=DJ (P:=P) (i:=0) h
theorem fL_lo'{P:List Keyed}{k:Nat}{v:Keyed}(h:∀ m,m<k->fL P 0 v m=true):∀ x∈P.take k,ky x<ky v:=DM (P:=P) (i:=0) h
theorem xw{P:List Keyed}{i k:Nat}{y:Keyed}(h:y∈(P.take i).drop k):∃ m,k<=m/\m<i/\P[m]?=some y:=by
 rw[F1]at h
 obtain⟨m,hm,e⟩:=Ac h
 exact⟨k+m,by omega,by omega,e⟩
theorem fR_hi'{P:List Keyed}{k n:Nat}{v:Keyed}(h:∀ m,k<=m->m<n->fR P 0 v m=false):∀ y∈(P.take n).drop k,ky v<ky y:=fun y hy=>by
 obtain⟨m,h1,h2,e⟩:=xw hy
 have:=h m h1 h2
 rw[ni (show P[0+m]?=some y by rw[Nat.zero_add];exact e)]at this
 simpa using this
theorem fL_hi'{P:List Keyed}{k n:Nat}{v:Keyed}(h:∀ m,k<=m->m<n->fL P 0 v m=false):∀ y∈(P.take n).drop k,ky v<=ky y:=fun y hy=>by
 obtain⟨m,h1,h2,e⟩:=xw hy
 have:=h m h1 h2
 rw[oH (show P[0+m]?=some y by rw[Nat.zero_add];exact e)]at this
 simp only[decide_eq_false_iff_not]at this
 omega
theorem lD(a:Array Keyed)(i:Nat):(a.extract 0 i).toList=a.toList.take i:=by
 rw[F7,FK]
 rfl
theorem qS(a:Array Keyed)(i k:Nat):(a.extract k i).toList=(a.toList.take i).drop k:=by
 rw[F7,FK,F1]
def rv(o:Array Keyed):List Keyed:=o.toList.reverse
theorem qb(o:Array Keyed)(x:Keyed):rv (o.push x)=x::rv o:=by unfold rv;rw[FH,List.reverse_append];rfl
theorem Cc(o p:Array Keyed):rv (o++p.reverse)=p.toList++rv o:=by unfold rv;rw[EK,List.reverse_append,FJ,List.reverse_reverse]
def xr:Array Keyed->Array Keyed->StateT SortSt Sem (Array Keyed):=sortPriv% PySem.Builtin.mergeHi
theorem uk{st:SortSt}{a b:Array Keyed}{Q:Array Keyed->SortSt->Prop}(hk:kindOf st=oneType')(ua:Upl a.toList)(ub:Upl b.toList)(ia:∀ x∈a.toList,IntP x)(ib:∀ x∈b.toList,IntP x)(a1:1<=a.size)(b1:1<=b.size)
  (h0:∀ x y:Keyed,b.toList[0]?=some x->y∈a.toList->ky x<ky y) (hst:∀ x y:Keyed,x∈b.toList->a.toList[a.size-1]?=some y->ky x<ky y)
  (h:∀ R st',SmG st st'->R.toList.Perm (a.toList++b.toList)->Upl R.toList->Q R st'):wpS (model prog w) A E s (xr a b) Q st:=by
 unfold xr
 walk_at "mergeHi"
 have la:a.toList.length=a.size:=by simp
 have lb:b.toList.length=b.size:=by simp
 have atA:∀ i,i<a.size->∃ x,a.toList[i]?=some x/\IntP x:=fun i hi=>⟨_,D1 (by omega),ia _ (E8 _)⟩
 have atB:∀ i,i<b.size->∃ x,b.toList[i]?=some x/\IntP x:=fun i hi=>⟨_,D1 (by omega),ib _ (E8 _)⟩
 have dn:∀(o:Array Keyed)(i j:Nat)(st':SortSt),SmG st st'->LH a.toList b.toList (rv o) i j->i=0∨j=0->Q (a.extract 0 i++b.extract 0 j++o.reverse) st':=by
  intro o i j st' sg lm e
  obtain⟨g1,g2⟩:=lm.fin ua ub (by
   rcases e with e | e
   ·subst e;intro x hx;cases hx
   ·subst e;intro x _ y hy;cases hy)
  refine h _ st' sg ?_ ?_
  ·rw[EK,EK,lD,lD,FJ];exact g1
  ·rw[EK,EK,lD,lD,FJ];exact g2
 have ls:∀(o:Array Keyed)(i j:Nat)(st':SortSt),SmG st st'->LH a.toList b.toList (rv o) i j->j=1->Q (b.extract 0 j++a.extract 0 i++o.reverse) st':=by
  intro o i j st' sg lm e
  subst e
  obtain⟨z,hz,_⟩:=atB 0 (by omega)
  have nb:b.toList.take 1 = [z]:=fE (P:=b.toList) (i:=0) hz
  obtain⟨g1,g2⟩:=lm.swap.fin ub ua (by
   rw[nb]
   intro x hx y hy
   rw[E6.mp hx]
   exact Fn (h0 z y hz (E4 hy)))
  refine h _ st' sg ?_ ?_
  ·rw[EK,EK,lD,lD,FJ];exact g1.trans EA
  ·rw[EK,EK,lD,lD,FJ];exact g2
 refine wpS_bind (wpS_lift (wpAny_rule ⟨rfl,?_⟩))
 obtain⟨y0,hy0,iy0⟩:=atA (a.size-1) (by omega)
 walk_at "l3"
 refine wpS_bind (aX (at_l hy0) ?_)
 have m0:LH a.toList b.toList (rv #[y0]) (a.size-1) b.size:=⟨by
   show[y0].Perm _
   rw[GG (show b.toList.length<=b.size by omega),Fl]
   have e:=qG hy0
   rw[show a.size-1+1=a.size by omega,EM (by omega)]at e
   rw[e],GA ..,fun x hx y hy=>by
   have:y=y0:=E6.mp hy
   rw[this]
   refine j6 ua hy0 x ?_
   rw[show a.size-1+1=a.size by omega,EM (by omega)]
   exact E4 hx,fun x hx y hy=>by
   have:y=y0:=E6.mp hy
   rw[this]
   exact Fn (hst x y0 (E4 hx) hy0)⟩
 by_cases c1:(a.size-1 == 0)=true
 ·refine aH c1 ?_
  exact wpS_pure (dn _ _ _ _ (SmG.rfl' _) m0 (.inl (by simpa using c1)))
 refine aG c1 ?_
 have c1':a.size-1≠0:=by simpa using c1
 by_cases c2:(b.size == 1)=true
 ·refine aH c2 ?_
  exact wpS_pure (ls _ _ _ _ (SmG.rfl' _) m0 (by simpa using c2))
 refine aG c2 ?_
 have c2':b.size≠1:=by simpa using c2
 refine wpS_bind (wpS_get ?_)
 refine wpS_bind (wpS_mono (wpS_forRange (I:=fun x c st'=>SmG st st'/\∃(o:Array Keyed)(i j g:Nat),c=(none,i,j,o,g)/\LH a.toList b.toList (rv o) i j/\1<=i/\i<=a.size/\2<=j/\j<=b.size/\x+1+(i+j)<=a.size+b.size)
  (Q:=fun c st'=>∃(r:Array Keyed)(z:Nat×Nat×Array Keyed×Nat),c=(some r,z)/\Q r st') ?step ?fin ⟨SmG.rfl' _,_,_,_,_,rfl,m0,by omega,by omega,by omega,by omega,by omega⟩) ?post)
 case post =>
  rintro c st' ⟨r,z,rfl,q⟩
  exact wpS_pure q
 case fin =>
  rintro c st' ⟨sg,o,i,j,g,rfl,lm,g1,g1',g2,g2',g3⟩
  omega
 case step =>
  rintro x c st1 _ hx ⟨sg1,o,i,j,g,rfl,lm,g1,g1',g2,g2',g3⟩
  refine wpS_bind (wpS_mono (wpS_forRange (I:=fun y c st'=>SmG st st'/\∃(o:Array Keyed)(i j ac bc:Nat),c=(none,i,j,o,ac,bc)/\LH a.toList b.toList (rv o) i j/\1<=i/\i<=a.size/\2<=j/\j<=b.size/\x+1+y+(i+j)<=a.size+b.size)
   (Q:=fun c st'=>(∃(r:Array Keyed)(z:Nat×Nat×Array Keyed×Nat×Nat),c=(some r,z)/\Q r st')∨SmG st st'/\∃(o:Array Keyed)(i j ac bc:Nat),c=(none,i,j,o,ac,bc)/\LH a.toList b.toList (rv o) i j/\1<=i/\i<=a.size/\2<=j/\j<=b.size/\x+2+(i+j)<=a.size+b.size) ?istep ?ifin ⟨sg1,o,i,j,0,0,rfl,lm,g1,g1',g2,g2',by omega⟩) ?ipost)
  case ifin =>
   rintro c st' ⟨sg,o,i,j,ac,bc,rfl,lm,g1,g1',g2,g2',g3⟩
   exact .inr ⟨sg,o,i,j,ac,bc,rfl,lm,g1,g1',g2,g2',by omega⟩
  case istep =>
   rintro y c st2 _ hy ⟨sg2,o,i,j,ac,bc,rfl,lm,g1,g1',g2,g2',g3⟩
   obtain⟨vb,hvb,ivb⟩:=atB (j-1) (by omega)
   obtain⟨va,hva,iva⟩:=atA (i-1) (by omega)
   have ei:i-1+1=i:=by omega
   have ej:j-1+1=j:=by omega
   dsimp only
   refine wpS_bind (aX (at_l hvb) (wpS_bind (aX (at_l hva) (wpS_bind (pH (sg2.k.trans hk) ivb iva ?_)))))
   by_cases c:ky vb<ky va
   ·rw[decide_eq_true c]
    dsimp only
    refine aH rfl ?_
    refine wpS_bind (aX (at_l hva) ?_)
    have m2:LH a.toList b.toList (rv (o.push va)) (i-1) j:=by
     rw[qb]
     exact LH.a1 (by rw[ei];exact lm) ua hva fun z hz=>by
      have:=j6 ub hvb z (by rw[ej];exact hz)
      omega
    by_cases d1:(i-1 == 0)=true
    ·refine aH d1 ?_
     exact wpS_pure (.inl ⟨_,_,rfl,dn _ _ _ _ sg2 m2 (.inl (by simpa using d1))⟩)
    ·refine aG d1 ?_
     have d1':i-1≠0:=by simpa using d1
     split
     ·exact wpS_pure (.inr ⟨sg2,_,_,_,_,_,rfl,m2,by omega,by omega,g2,g2',by omega⟩)
     ·exact wpS_pure ⟨sg2,_,_,_,_,_,rfl,m2,by omega,by omega,g2,g2',by omega⟩
   ·rw[decide_eq_false c]
    dsimp only
    refine aG Ew ?_
    refine wpS_bind (aX (at_l hvb) ?_)
    have m2:LH a.toList b.toList (rv (o.push vb)) i (j-1):=by
     rw[qb]
     exact(LH.a1 (by rw[ej];exact lm.swap) ub hvb fun z hz=>by
      have:=j6 ua hva z (by rw[ei];exact hz)
      omega).swap
    by_cases d1:(j-1 == 1)=true
    ·refine aH d1 ?_
     exact wpS_pure (.inl ⟨_,_,rfl,ls _ _ _ _ sg2 m2 (by simpa using d1)⟩)
    ·refine aG d1 ?_
     have d1':j-1≠1:=by simpa using d1
     split
     ·exact wpS_pure (.inr ⟨sg2,_,_,_,_,_,rfl,m2,g1,g1',by omega,by omega,by omega⟩)
     ·exact wpS_pure ⟨sg2,_,_,_,_,_,rfl,m2,g1,g1',by omega,by omega,by omega⟩
  case ipost =>
   rintro c st2 (⟨r,z,rfl,q⟩ | ⟨sg2,o,i,j,ac,bc,rfl,lm,g1,g1',g2,g2',g3⟩)
   ·exact wpS_pure ⟨_,_,rfl,q⟩
   dsimp -zeta -zetaHave only
   refine wpS_bind (wpS_lift (wpAny_rule ⟨rfl,?_⟩))
   refine wpS_bind (wpS_mono (wpS_forRange (I:=fun y c st'=>SmG st st'/\∃(o:Array Keyed)(i j g ac bc:Nat),c=(none,i,j,o,g,ac,bc)/\LH a.toList b.toList (rv o) i j/\1<=i/\i<=a.size/\2<=j/\j<=b.size/\x+2+(i+j)<=a.size+b.size)
    (Q:=fun c st'=>(∃(r:Array Keyed)(z:Nat×Nat×Array Keyed×Nat×Nat×Nat),c=(some r,z)/\Q r st')∨SmG st st'/\∃(o:Array Keyed)(i j g ac bc:Nat),c=(none,i,j,o,g,ac,bc)/\LH a.toList b.toList (rv o) i j/\1<=i/\i<=a.size/\2<=j/\j<=b.size/\x+2+(i+j)<=a.size+b.size) ?jstep ?jfin ⟨sg2,o,i,j,_,ac,bc,rfl,lm,g1,g1',g2,g2',g3⟩) ?jpost)
   case jfin=>exact fun c st' q=>.inr q
   case jpost =>
    rintro c st3 (⟨r,z,rfl,q⟩ | ⟨sg3,o,i,j,g,ac,bc,rfl,lm,g1,g1',g2,g2',g3⟩)
    ·exact wpS_pure ⟨_,_,rfl,q⟩
    dsimp only
    exact wpS_bind (l5 fun st4 sg4=>wpS_pure ⟨sg3.trans sg4,_,_,_,_,rfl,lm,g1,g1',g2,g2',by omega⟩)
   case jstep =>
    rintro y c st3 _ hy ⟨sg3,o,i,j,g,ac,bc,rfl,lm,g1,g1',g2,g2',g3⟩
    walk_at "st"
    walk_at "l11"
    extract_lets -underBinder +onlyGivenNames jp
    clear_value (ej:jp=_)
    refine uo fun R hR=>?_
    refine Co (F:=fun z=>jp () z) fun g'=>?_
    rw[ej]
    clear ej jp
    walk_at "st"
    refine wpS_bind (l5 fun st4 sg4=>?_)
    have sg34:=sg3.trans sg4
    have k4:=sg34.k.trans hk
    have ej1:j-1+1=j:=by omega
    obtain⟨vb,hvb,ivb⟩:=atB (j-1) (by omega)
    refine wpS_bind (aX (at_l hvb) ?_)
    refine wpS_bind (wU k4 ivb ua ia (by omega) (by omega) fun k kn kt kf=>?_)
    walk_at "st"
    extract_lets -underBinder +onlyGivenNames kk ac jp
    subst kk ac
    clear_value (ej:jp=_)
    have vbl:=j6 ub hvb
    rw[ej1]at vbl
    have hlo:=fR_lo' kt
    have hhi:=fR_hi' kf
    have hj:∀(i':Nat)(o':Array Keyed),LH a.toList b.toList (rv o') i' j->1<=i'->i'<=a.size->(∀ y∈a.toList.take i',ky y<=ky vb)->x+2+(i'+j)<=a.size+b.size->wpS (model prog w) A E s (jp () i' o') R st4:=by
     intro i' o' lm' q1 q1' gv g3'
     rw[ej]
     clear ej jp
     walk_at "st"
     refine wpS_bind (aX (at_l hvb) ?_)
     have m2:LH a.toList b.toList (rv (o'.push vb)) i' (j-1):=by
      rw[qb]
      exact(LH.a1 (by rw[ej1];exact lm'.swap) ub hvb gv).swap
     by_cases d1:(j-1 == 1)=true
     ·refine aH d1 ?_
      exact wpS_pure (hR _ _ (.inl ⟨_,_,rfl,ls _ _ _ _ sg34 m2 (by simpa using d1)⟩))
     refine aG d1 ?_
     have d1':j-1≠1:=by simpa using d1
     have ei1:i'-1+1=i':=by omega
     obtain⟨va,hva,iva⟩:=atA (i'-1) (by omega)
     have val:=j6 ua hva
     rw[ei1]at val
     refine wpS_bind (aX (at_l hva) ?_)
     refine wpS_bind (wV k4 iva ub ib (by omega) (by omega) fun k2 kn2 kt2 kf2=>?_)
     walk_at "st"
     extract_lets -underBinder +onlyGivenNames kk ac jp
     subst kk ac
     clear_value (ej:jp=_)
     have hlo2:=fL_lo' kt2
     have hhi2:=fL_hi' kf2
     have hj:∀(j':Nat)(o':Array Keyed),LH a.toList b.toList (rv o') i' j'->2<=j'->j'<=b.size->(∀ y∈b.toList.take j',ky y<=ky va)->x+2+(i'+j')<=a.size+b.size->wpS (model prog w) A E s (jp () j' o') R st4:=by
      intro j' o' lm2 q2 q2' gv' g3''
      rw[ej]
      clear ej jp
      walk_at "st"
      refine wpS_bind (aX (at_l hva) ?_)
      have m3:LH a.toList b.toList (rv (o'.push va)) (i'-1) j':=by
       rw[qb]
       exact LH.a1 (by rw[ei1];exact lm2) ua hva gv'
      by_cases d2:(i'-1 == 0)=true
      ·refine aH d2 ?_
       exact wpS_pure (hR _ _ (.inl ⟨_,_,rfl,dn _ _ _ _ sg34 m3 (.inl (by simpa using d2))⟩))
      refine aG d2 ?_
      have d2':i'-1≠0:=by simpa using d2
      split
      ·exact wpS_pure (hR _ _ (.inr ⟨sg34,_,_,_,_,_,_,rfl,m3,by omega,by omega,q2,q2',by omega⟩))
      ·exact wpS_pure (hR _ _ ⟨sg34,_,_,_,_,_,_,rfl,m3,by omega,by omega,q2,q2',by omega⟩)
     clear ej
     by_cases z2:j-1-k2 > 0
     ·refine aH z2 ?_
      have m3:LH a.toList b.toList (rv (o'.push vb++(b.extract k2 (j-1)).reverse)) i' k2:=by
       rw[Cc,qS]
       exact(m2.swap.a ub (by omega) (by omega) fun x hx y hy=>by have:=hhi2 y hy;have:=val x hx;omega).swap
      by_cases d2:(k2 == 1)=true
      ·refine aH d2 ?_
       exact wpS_pure (hR _ _ (.inl ⟨_,_,rfl,ls _ _ _ _ sg34 m3 (by simpa using d2)⟩))
      refine aG d2 ?_
      have d2':k2≠1:=by simpa using d2
      by_cases d3:(k2 == 0)=true
      ·refine aH d3 ?_
       exact wpS_pure (hR _ _ (.inl ⟨_,_,rfl,dn _ _ _ _ sg34 m3 (.inr (by simpa using d3))⟩))
      refine aG d3 ?_
      have d3':k2≠0:=by simpa using d3
      exact hj _ _ m3 (by omega) (by omega) (fun y hy=>Fn (hlo2 y hy)) (by omega)
     ·refine aG z2 ?_
      have:k2=j-1:=by omega
      subst this
      exact hj _ _ m2 (by omega) (by omega) (fun y hy=>Fn (hlo2 y hy)) (by omega)
    clear ej
    by_cases z:i-k > 0
    ·refine aH z ?_
     have m2:LH a.toList b.toList (rv (o++(a.extract k i).reverse)) k j:=by
      rw[Cc,qS]
      exact lm.a ua (by omega) (by omega) fun x hx y hy=>by have:=hhi y hy;have:=vbl x hx;omega
     by_cases d1:(k == 0)=true
     ·refine aH d1 ?_
      exact wpS_pure (hR _ _ (.inl ⟨_,_,rfl,dn _ _ _ _ sg34 m2 (.inl (by simpa using d1))⟩))
     refine aG d1 ?_
     have d1':k≠0:=by simpa using d1
     exact hj _ _ m2 (by omega) (by omega) hlo (by omega)
    ·refine aG z ?_
     have:k=i:=by omega
     subst this
     exact hj _ _ lm g1 g1' hlo (by omega)
end PyProof.Rows
namespace PyProof.Rows
open PySem
local macro_rules | `(tactic| walk_at "countRun") => do
 let n:=Lean.mkIdent (Lean.mkPrivateNameCore `PySem.Builtin.List.W1All `PySem.Builtin.countRun)
 `(tactic| delta $n)
local macro_rules | `(tactic| walk_at "binarySort") => do
 let n:=Lean.mkIdent (Lean.mkPrivateNameCore `PySem.Builtin.List.W1All `PySem.Builtin.binarySort)
 `(tactic| delta $n)
local macro_rules | `(tactic| walk_at "st") => `(tactic| try dsimp -zeta -zetaHave only)
local macro_rules | `(tactic| walk_at "l3") => `(tactic| (extract_lets -underBinder +onlyGivenNames a b c; subst a b c))
local macro_rules | `(tactic| walk_at "l11") => `(tactic| (extract_lets -underBinder +onlyGivenNames a b c d e f g h i j k; subst a b c d e f g h i j k; dsimp -zeta -zetaHave only))
local macro_rules | `(tactic| walk_at "l1") => `(tactic| (extract_lets -underBinder +onlyGivenNames a; subst a; try dsimp -zeta -zetaHave only))
local macro_rules | `(tactic| walk_at "l2") => `(tactic| (extract_lets -underBinder +onlyGivenNames a b; subst a b; try dsimp -zeta -zetaHave only))
local macro_rules | `(tactic| walk_at "l4") => `(tactic| (extract_lets -underBinder +onlyGivenNames a b c d; subst a b c d; try dsimp -zeta -zetaHave only))
variable{prog:Program}{w:World}{A:Around}{E:Value->Shared->Prop}{s:Shared}
structure SB(lo:Nat)(st0 st:SortSt):Prop where
 perm:(arrOf st).Perm (arrOf st0)
 kind:kindOf st=oneType'
 failed:failedOf st=failedOf st0
 pend:pendingOf st=pendingOf st0
 low:∀ i,i<lo->(arrOf st)[i]?=(arrOf st0)[i]?
theorem SB.set{lo:Nat}{st0 st:SortSt}(h:SB lo st0 st){xs:Array Keyed}(hp:xs.Perm (arrOf st))(hl:∀ i,i<lo->xs[i]?=(arrOf st)[i]?):SB lo st0 (setArr st xs) :=
 ⟨hp.trans h.perm,h.kind,h.failed,h.pend,fun i hi=>(hl i hi).trans (h.low i hi)⟩
theorem SB.size{lo:Nat}{st0 st:SortSt}(h:SB lo st0 st):(arrOf st).size=(arrOf st0).size:=h.perm.size_eq
def Sin(xs:Array Keyed)(lo n:Nat):Prop:=∀ i j,lo<=i->i<=j->j<lo+n->K xs i<=K xs j
def Nin(xs:Array Keyed)(lo n:Nat):Prop:=∀ i j,lo<=i->i<=j->j<lo+n->K xs j<=K xs i
theorem j4{lo:Nat}{st0 st:SortSt}{i j:Nat}{Q:Option Bool->SortSt->Prop}(hB:SB lo st0 st)(h0:IntKeys (arrOf st0))(hi:i<(arrOf st0).size)(hj:j<(arrOf st0).size)
  (h:Q (some (decide (K (arrOf st) i<K (arrOf st) j))) st):wpS (model prog w) A E s ((sortPriv% PySem.Builtin.ltAt) i j) Q st:=by
 have at':∀ i,i<(arrOf st0).size->∃ t q,(arrOf st)[i]?=some (.int (K (arrOf st) i) t,q):=fun i hi=>by
  have hi':i<(arrOf st).size:=by rw[hB.size];exact hi
  obtain⟨n,t,hn⟩:=h0 (arrOf st)[i] ((Gg.mp hB.perm).mem_iff.mp (by simp))
  have e:(arrOf st)[i]?=some (arrOf st)[i]:=getElem?_pos _ i hi'
  refine⟨t,(arrOf st)[i].2,?_⟩
  unfold K
  rw[e]
  show some (arrOf st)[i]=some (.int (numOf (arrOf st)[i].1) t,(arrOf st)[i].2)
  rw[hn]
  exact congrArg some (Prod.ext hn rfl)
 obtain⟨t,p,e1⟩:=at' i hi
 obtain⟨u,q,e2⟩:=at' j hj
 exact wpS_ltAt hB.kind e1 e2 h
theorem l6{lo:Nat}{st0 st:SortSt}{i j:Nat}{Q:Unit->SortSt->Prop}(hB:SB lo st0 st)(hl:lo<=i)(hj:j<=(arrOf st0).size)(h:∀ st',SB lo st0 st'->(∀ k,K (arrOf st') k=if i<=k/\k<j then K (arrOf st) (i+j-1-k) else K (arrOf st) k)->Q () st') :
  wpS (model prog w) A E s ((sortPriv% PySem.Builtin.reverseSlice) i j) Q st:=by
 have hj':j<=(arrOf st).size:=by rw[hB.size];exact hj
 refine wpS_reverse (h _ (hB.set (mirror_perm _ _ _ _) fun k hk=>?_) fun k=>K_mirror hj' k)
 rw[getElem?_mirror_all hj',if_neg (by omega)]
theorem CS(xs:Array Keyed)(lo:Nat):Sin xs lo 1:=fun i j h1 h2 h3=>by
 have:i=j:=by omega
 rw[this];exact FA _
theorem Ca{xs:Array Keyed}{lo n:Nat}(h:Sin xs lo n)(n1:1<=n)(c:¬ K xs (lo+n)<K xs (lo+n-1)):Sin xs lo (n+1):=fun i j h1 h2 h3=>by
 by_cases z:j<lo+n
 ·exact h i j h1 h2 z
 ·have ej:j=lo+n:=by omega
  by_cases zi:i=j
  ·rw[zi];exact FA _
  ·have:=h i (lo+n-1) h1 (by omega) (by omega)
   rw[ej];omega
theorem xm{xs:Array Keyed}{lo n:Nat}(h:Nin xs lo n)(n1:1<=n)(c:K xs (lo+n)<=K xs (lo+n-1)):Nin xs lo (n+1):=fun i j h1 h2 h3=>by
 by_cases z:j<lo+n
 ·exact h i j h1 h2 z
 ·have ej:j=lo+n:=by omega
  by_cases zi:i=j
  ·rw[zi];exact FA _
  ·have:=h i (lo+n-1) h1 (by omega) (by omega)
   rw[ej];omega
def tI:Nat->Nat->StateT SortSt Sem (Option Nat):=sortPriv% PySem.Builtin.countRun
theorem xK{st0:SortSt}{lo nrem:Nat}{Q:Option Nat->SortSt->Prop}(hk:kindOf st0=oneType')(h0:IntKeys (arrOf st0))(hn:lo+nrem<=(arrOf st0).size)(n1:1<=nrem)
  (h:∀ m st',SB lo st0 st'->1<=m->m<=nrem->Sin (arrOf st') lo m->Q (some m) st'):wpS (model prog w) A E s (tI lo nrem) Q st0:=by
 have hB:SB lo st0 st0:=⟨Array.Perm.refl _,hk,rfl,rfl,fun _ _=>rfl⟩
 unfold tI
 walk_at "countRun"
 refine wpS_bind (wpS_mono (wpS_forRange (I:=fun x c st'=>st'=st0/\c=(none,x)/\Sin (arrOf st0) lo x)
  (Q:=fun c st'=>st'=st0/\∃ n,c=(none,n)/\1<=n/\n<=nrem/\Sin (arrOf st0) lo n/\(n=nrem∨K (arrOf st0) (lo+n)<K (arrOf st0) (lo+n-1))) ?step ?fin ⟨rfl,rfl,CS _ _⟩) ?post)
 case fin =>
  rintro c st' ⟨rfl,rfl,hs⟩
  rw[show max 1 nrem=nrem by omega]at hs ⊢
  exact⟨rfl,nrem,rfl,n1,Ea _,hs,.inl rfl⟩
 case step =>
  rintro x c st' h1 h2 ⟨rfl,rfl,hs⟩
  dsimp only
  refine wpS_bind (j4 hB h0 (by omega) (by omega) ?_)
  by_cases z:K (arrOf st') (lo+x)<K (arrOf st') (lo+x-1)
  ·simp only[z,decide_true,if_true]
   exact wpS_pure ⟨rfl,x,rfl,h1,by omega,hs,.inr z⟩
  ·simp only[z,decide_false,Ff,if_false]
   exact wpS_pure ⟨rfl,rfl,Ca hs h1 z⟩
 case post =>
  rintro c st' ⟨rfl,n,rfl,g1,g2,hs,hor⟩
  walk_at "st"
  walk_at "l2"
  by_cases z:(n == nrem)=true
  ·refine aH z ?_
   exact wpS_pure (h n st' hB g1 g2 hs)
  refine aG z ?_
  have z':n≠nrem:=by simpa using z
  have hlt:=hor.resolve_left z'
  extract_lets -underBinder +onlyGivenNames jp
  clear_value (ej:jp=_)
  have hj:∀ st1,SB lo st' st1->Nin (arrOf st1) lo (n+1)->wpS (model prog w) A E s (jp ()) Q st1:=by
   intro st1 hB1 hs1
   rw[ej]
   clear ej jp
   walk_at "st"
   refine wpS_bind (wpS_lift (wpAny_rule ⟨rfl,?_⟩))
   refine wpS_bind (wpS_mono (wpS_forRange (I:=fun x c st2=>SB lo st' st2/\∃ neq,c=(none,x,neq)/\Nin (arrOf st2) lo x/\neq+1<=x/\(∀ i,lo+x-(neq+1)<=i->i<lo+x->K (arrOf st2) i=K (arrOf st2) (lo+x-1)))
    (Q:=fun c st2=>SB lo st' st2/\∃ m neq,c=(none,m,neq)/\1<=m/\m<=nrem/\Nin (arrOf st2) lo m/\neq+1<=m/\(∀ i,lo+m-(neq+1)<=i->i<lo+m->K (arrOf st2) i=K (arrOf st2) (lo+m-1))) ?dstep ?dfin ⟨hB1,0,rfl,hs1,by omega,fun i h1 h2=>by congr 1;omega⟩) ?dpost)
   case dfin =>
    rintro c st2 ⟨hB2,neq,rfl,hs2,q1,q2⟩
    rw[show max (n+1) nrem=nrem by omega]at hs2 q1 q2 ⊢
    exact⟨hB2,nrem,neq,rfl,by omega,Ea _,hs2,q1,q2⟩
   case dstep =>
    rintro x c st2 h1 h2 ⟨hB2,neq,rfl,hs2,q1,q2⟩
    dsimp only
    refine wpS_bind (j4 hB2 h0 (by omega) (by omega) ?_)
    by_cases z:K (arrOf st2) (lo+x)<K (arrOf st2) (lo+x-1)
    ·simp only[z,decide_true,if_true]
     have nx:=xm hs2 (by omega) (Fn z)
     by_cases y:neq > 0
     ·refine aH y ?_
      refine wpS_bind (l6 hB2 (by omega) (by omega) fun st3 hB3 e3=>?_)
      have e3':∀ k,K (arrOf st3) k=K (arrOf st2) k:=fun k=>by
       rw[e3]
       split
       ·rename_i hk
        rw[q2 _ (by omega) (by omega),q2 k (by omega) (by omega)]
       ·rfl
      refine wpS_pure ⟨hB3,0,rfl,fun i j a1 a2 a3=>?_,by omega,fun i h1 h2=>by congr 1;omega⟩
      rw[e3',e3']
      exact nx i j a1 a2 a3
     ·refine aG y ?_
      exact wpS_pure ⟨hB2,0,rfl,nx,by omega,fun i h1 h2=>by congr 1;omega⟩
    ·simp only[z,decide_false,Ff,if_false]
     refine wpS_bind (j4 hB2 h0 (by omega) (by omega) ?_)
     by_cases y:K (arrOf st2) (lo+x-1)<K (arrOf st2) (lo+x)
     ·simp only[y,decide_true,if_true]
      exact wpS_pure ⟨hB2,x,neq,rfl,by omega,by omega,hs2,q1,q2⟩
     ·simp only[y,decide_false,Ff,if_false]
      have eq:K (arrOf st2) (lo+x)=K (arrOf st2) (lo+x-1):=by omega
      refine wpS_pure ⟨hB2,neq+1,rfl,xm hs2 (by omega) (by omega),by omega,fun i a1 a2=>?_⟩
      rw[show lo+(x+1)-1=lo+x by omega]
      by_cases ix:i=lo+x
      ·rw[ix]
      ·rw[eq];exact q2 i (by omega) (by omega)
   case dpost =>
    rintro c st2 ⟨hB2,m,neq,rfl,m1,m2,hs2,q1,q2⟩
    walk_at "st"
    walk_at "l4"
    extract_lets -underBinder +onlyGivenNames jp
    clear_value (ej:jp=_)
    have hj:∀ st3,SB lo st' st3->Nin (arrOf st3) lo m->wpS (model prog w) A E s (jp ()) Q st3:=by
     intro st3 hB3 hs3
     rw[ej]
     clear ej jp
     walk_at "st"
     refine wpS_bind (l6 hB3 (Ea _) (by omega) fun st4 hB4 e4=>?_)
     have hs4:Sin (arrOf st4) lo m:=fun i j a1 a2 a3=>by
      rw[e4,e4,if_pos (by omega),if_pos (by omega)]
      exact hs3 _ _ (by omega) (by omega) (by omega)
     refine wpS_bind (wpS_mono (wpS_forRange (I:=fun x c st'=>st'=st4/\c=(none,x)/\Sin (arrOf st4) lo x) (Q:=fun c st'=>st'=st4/\∃ n,c=(none,n)/\1<=n/\n<=nrem/\Sin (arrOf st4) lo n) ?ustep ?ufin ⟨rfl,rfl,hs4⟩) ?upost)
     case ufin =>
      rintro c st5 ⟨rfl,rfl,hs5⟩
      rw[show max m nrem=nrem by omega]at hs5 ⊢
      exact⟨rfl,nrem,rfl,n1,Ea _,hs5⟩
     case ustep =>
      rintro x c st5 h1 h2 ⟨rfl,rfl,hs5⟩
      dsimp only
      refine wpS_bind (j4 hB4 h0 (by omega) (by omega) ?_)
      by_cases z:K (arrOf st5) (lo+x)<K (arrOf st5) (lo+x-1)
      ·simp only[z,decide_true,if_true]
       exact wpS_pure ⟨rfl,x,rfl,by omega,by omega,hs5⟩
      ·simp only[z,decide_false,Ff,if_false]
       exact wpS_pure ⟨rfl,rfl,Ca hs5 (by omega) z⟩
     case upost =>
      rintro c st5 ⟨rfl,k,rfl,k1,k2,hs5⟩
      exact wpS_pure (h k st5 hB4 k1 k2 hs5)
    by_cases y:neq > 0
    ·refine aH y ?_
     refine wpS_bind (l6 hB2 (by omega) (by omega) fun st3 hB3 e3=>hj st3 hB3 fun i j a1 a2 a3=>?_)
     have e3':∀ k,K (arrOf st3) k=K (arrOf st2) k:=fun k=>by
      rw[e3]
      split
      ·rename_i hk
       rw[q2 _ (by omega) (by omega),q2 k (by omega) (by omega)]
      ·rfl
     rw[e3',e3']
     exact hs2 i j a1 a2 a3
    ·refine aG y ?_
     exact hj st2 hB2 hs2
  by_cases y:n > 1
  ·refine aH y ?_
   refine wpS_bind (j4 hB h0 (by omega) (by omega) ?_)
   by_cases r:K (arrOf st') lo<K (arrOf st') (lo+n-1)
   ·simp only[r,decide_true,if_true]
    exact wpS_pure (h n st' hB g1 g2 hs)
   ·simp only[r,decide_false,Ff,if_false]
    have all:∀ k,lo<=k->k<lo+n->K (arrOf st') k=K (arrOf st') (lo+n-1):=fun k a1 a2=>by
     have b1:=hs lo k (Ea _) a1 a2
     have b2:=hs k (lo+n-1) a1 (by omega) (by omega)
     omega
    refine wpS_bind (l6 hB (Ea _) (by omega) fun st1 hB1 e1=>hj st1 hB1 ?_)
    have e1':∀ k,K (arrOf st1) k=K (arrOf st') k:=fun k=>by
     rw[e1]
     split
     ·rename_i hk
      rw[all _ (by omega) (by omega),all k (by omega) (by omega)]
     ·rfl
    refine xm (fun i j a1 a2 a3=>?_) (by omega) ?_
    ·rw[e1',e1',all i a1 (by omega),all j (by omega) a3]
     exact FA _
    ·rw[e1',e1']
     exact Fn hlt
  ·refine aG y ?_
   have:n=1:=by omega
   subst this
   refine hj st' hB (xm (fun i j a1 a2 a3=>?_) (by omega) (Fn hlt))
   have:i=j:=by omega
   rw[this];exact FA _
def nQ:Nat->Nat->Nat->StateT SortSt Sem Bool:=sortPriv% PySem.Builtin.binarySort
theorem Bg{st0 st:SortSt}{lo n m:Nat}{Q:Bool->SortSt->Prop}(h0:IntKeys (arrOf st0))(hn:lo+n<=(arrOf st0).size)(hm:m<=n)(hB:SB lo st0 st)(hs:Sin (arrOf st) lo m)
  (h:∀ st',SB lo st0 st'->Sin (arrOf st') lo n->Q true st'):wpS (model prog w) A E s (nQ lo n m) Q st:=by
 unfold nQ
 walk_at "binarySort"
 refine wpS_bind (wpS_mono (wpS_forRange (I:=fun k c st'=>c=(none,())/\SB lo st0 st'/\Sin (arrOf st') lo (min k n))
  (Q:=fun c st'=>c=(none,())/\SB lo st0 st'/\Sin (arrOf st') lo n) ?step ?fin ?init) ?post)
 case post =>
  rintro c st' ⟨rfl,hB',hs'⟩
  exact wpS_pure (h st' hB' hs')
 case init =>
  refine⟨rfl,hB,fun i j h1 h2 h3=>?_⟩
  by_cases z:m=0
  ·have:i=j:=by omega
   rw[this];exact FA _
  ·exact hs i j h1 h2 (by omega)
 case fin =>
  rintro c st' ⟨hc,hB',hs'⟩
  refine⟨hc,hB',?_⟩
  rwa[show min (max (max m 1) n) n=n by omega]at hs'
 case step =>
  rintro k c st' hak hkn ⟨rfl,hB',hs'⟩
  rw[show min k n=k by omega]at hs'
  dsimp only
  refine wpS_bind (wpS_mono (wpS_forRange (I:=fun x c st''=>st''=st'/\∃ l r,c=(none,l,r)/\l<=r/\r<=k/\r-l<=k-x /\
    (∀ i,lo<=i->i<lo+l->K (arrOf st') i<=K (arrOf st') (lo+k))/\(∀ i,lo+r<=i->i<lo+k->K (arrOf st') (lo+k)<K (arrOf st') i))
   (Q:=fun c st''=>st''=st'/\∃ l,c=(none,l,l)/\l<=k /\
    (∀ i,lo<=i->i<lo+l->K (arrOf st') i<=K (arrOf st') (lo+k))/\(∀ i,lo+l<=i->i<lo+k->K (arrOf st') (lo+k)<K (arrOf st') i)) ?istep ?ifin ⟨rfl,0,k,rfl,by omega,by omega,by omega,fun i h1 h2=>by omega,fun i h1 h2=>by omega⟩) ?ipost)
  case ifin =>
   rintro c st'' ⟨rfl,l,r,rfl,q1,q2,q3,q4,q5⟩
   have:l=r:=by omega
   subst this
   exact⟨rfl,l,rfl,q2,q4,q5⟩
  case istep =>
   rintro x c st'' _ hxk ⟨rfl,l,r,rfl,q1,q2,q3,q4,q5⟩
   dsimp only
   by_cases z:l ≥ r
   ·refine aH z ?_
    have:l=r:=by omega
    subst this
    exact wpS_pure ⟨rfl,l,rfl,q2,q4,q5⟩
   ·refine aG z ?_
    refine wpS_bind (j4 hB' h0 (by omega) (by omega) ?_)
    by_cases y:K (arrOf st'') (lo+k)<K (arrOf st'') (lo+(l+r)/2)
    ·simp only[y,decide_true,if_true]
     refine wpS_pure ⟨rfl,l,(l+r)/2,rfl,by omega,by omega,by omega,q4,fun i h1 h2=>?_⟩
     have:=hs' (lo+(l+r)/2) i (by omega) h1 h2
     omega
    ·simp only[y,decide_false,Ff,if_false]
     refine wpS_pure ⟨rfl,(l+r)/2+1,r,rfl,by omega,by omega,by omega,fun i h1 h2=>?_,q5⟩
     have:=hs' i (lo+(l+r)/2) h1 (by omega) (by omega)
     omega
  case ipost =>
   rintro c st'' ⟨rfl,l,rfl,q1,q2,q3⟩
   dsimp only
   have hks:lo+k<(arrOf st'').size:=by rw[hB'.size];omega
   have el:lo+k-(lo+k-(lo+l))=lo+l:=by omega
   refine wpS_bind ?_
   show wpS _ _ _ _ (moveDown' (lo+k) (lo+l)) _ _
   rw[moveDown'_eq]
   refine wpS_modify (wpS_pure ⟨rfl,hB'.set (bubble_perm _ _ _) fun i hi=>?_,?_⟩)
   ·rw[getElem?_bubble hks _ (by omega),el,if_neg (by omega),if_neg (by omega)]
   ·rw[show min (k+1) n=k+1 by omega]
    intro i j h1 h2 h3
    show K (bubble (arrOf st'') (lo+k) (lo+k-(lo+l))) i<=K (bubble (arrOf st'') (lo+k) (lo+k-(lo+l))) j
    rw[K_bubble hks (by omega),K_bubble hks (by omega),el]
    repeat' split
    all_goals first
     | (exfalso;omega)
     |exact FA _
     |exact q2 _ (by omega) (by omega)
     |exact Fn (q3 _ (by omega) (by omega))
     |exact hs' _ _ (by omega) (by omega) (by omega)
end PyProof.Rows
namespace PyProof.Rows
open PySem
local macro_rules | `(tactic| walk_at "mergeAt") => do
 let n:=Lean.mkIdent (Lean.mkPrivateNameCore `PySem.Builtin.List.W1All `PySem.Builtin.mergeAt)
 `(tactic| delta $n)
local macro_rules | `(tactic| walk_at "st") => `(tactic| try dsimp -zeta -zetaHave only)
local macro_rules | `(tactic| walk_at "l3") => `(tactic| (extract_lets -underBinder +onlyGivenNames a b c; subst a b c))
local macro_rules | `(tactic| walk_at "l11") => `(tactic| (extract_lets -underBinder +onlyGivenNames a b c d e f g h i j k; subst a b c d e f g h i j k; dsimp -zeta -zetaHave only))
local macro_rules | `(tactic| walk_at "l1") => `(tactic| (extract_lets -underBinder +onlyGivenNames a; subst a; try dsimp -zeta -zetaHave only))
local macro_rules | `(tactic| walk_at "l2") => `(tactic| (extract_lets -underBinder +onlyGivenNames a b; subst a b; try dsimp -zeta -zetaHave only))
local macro_rules | `(tactic| walk_at "l4") => `(tactic| (extract_lets -underBinder +onlyGivenNames a b c d; subst a b c d; try dsimp -zeta -zetaHave only))
variable{prog:Program}{w:World}{A:Around}{E:Value->Shared->Prop}{s:Shared}
theorem rW{P:List Keyed}{i n m:Nat}(hm:m<n):((P.drop i).take n)[m]?=P[i+m]?:=by
 rw[Gj,if_pos hm,Fz]
theorem Cb{P:List Keyed}{i n x y:Nat}{p q:Keyed}(u:Upl ((P.drop i).take n))(hp:P[i+x]?=some p)(hq:P[i+y]?=some q)(h:x<=y)(hy:y<n):ky p<=ky q :=
 zp u (i:=x) (j:=y) (by rw[rW (by omega)];exact hp) (by rw[rW hy];exact hq) h
theorem zk{st:SortSt}{key:Keyed}{arr:Array Keyed}{base n hint:Nat}{Q:Option Nat->SortSt->Prop}(hk:kindOf st=oneType')(hkey:IntP key)(u:Upl ((arr.toList.drop base).take n))(ip:∀ x∈arr.toList,IntP x)(hn:base+n<=arr.size)(hh:hint<n)
  (h:∀ k,k<=n->(∀ i,i<k->fR arr.toList base key i=true)->(∀ i,k<=i->i<n->fR arr.toList base key i=false)->Q (some k) st):wpS (model prog w) A E s ((sortPriv% PySem.Builtin.gallop) false key arr base n hint) Q st:=by
 have la:arr.toList.length=arr.size:=by simp
 refine ir (fR arr.toList base key) hk hkey (fun i hi=>?_) (fun x y hxy hy e=>?_) hh h
 ·have hx:arr.toList[base+i]?=some arr.toList[base+i]:=D1 (by omega)
  exact⟨_,by rw[← hx];simp,ip _ (E8 _),by rw[ni hx];rfl⟩
 ·have hx:arr.toList[base+x]?=some arr.toList[base+x]:=D1 (by omega)
  have hy':arr.toList[base+y]?=some arr.toList[base+y]:=D1 (by omega)
  rw[ni hy']at e
  rw[ni hx]
  have:=Cb u hx hy' hxy hy
  simp only[FZ,decide_eq_false_iff_not]at e ⊢
  omega
theorem zm{st:SortSt}{key:Keyed}{arr:Array Keyed}{base n hint:Nat}{Q:Option Nat->SortSt->Prop}(hk:kindOf st=oneType')(hkey:IntP key)(u:Upl ((arr.toList.drop base).take n))(ip:∀ x∈arr.toList,IntP x)(hn:base+n<=arr.size)(hh:hint<n)
  (h:∀ k,k<=n->(∀ i,i<k->fL arr.toList base key i=true)->(∀ i,k<=i->i<n->fL arr.toList base key i=false)->Q (some k) st):wpS (model prog w) A E s ((sortPriv% PySem.Builtin.gallop) true key arr base n hint) Q st:=by
 have la:arr.toList.length=arr.size:=by simp
 refine ir (fL arr.toList base key) hk hkey (fun i hi=>?_) (fun x y hxy hy e=>?_) hh h
 ·have hx:arr.toList[base+i]?=some arr.toList[base+i]:=D1 (by omega)
  exact⟨_,by rw[← hx];simp,ip _ (E8 _),by rw[oH hx];rfl⟩
 ·have hx:arr.toList[base+x]?=some arr.toList[base+x]:=D1 (by omega)
  have hy':arr.toList[base+y]?=some arr.toList[base+y]:=D1 (by omega)
  rw[oH hy']at e
  rw[oH hx]
  have:=Cb u hx hy' hxy hy
  simp only[decide_eq_true_eq]at e ⊢
  omega
theorem Ad{P:List Keyed}{i n k:Nat}{y:Keyed}(h:y∈((P.drop i).take n).drop k):∃ m,k<=m/\m<n/\P[i+m]?=some y:=by
 obtain⟨m,e⟩:=Ae h
 have hl:=(DZ.mp e).1
 rw[Eg]at hl
 rw[rW (by omega)]at e
 exact⟨k+m,by omega,by omega,e⟩
theorem fR_sh{P:List Keyed}{i n k:Nat}{v:Keyed}(h:∀ m,k<=m->m<n->fR P i v m=false):∀ y∈((P.drop i).take n).drop k,ky v<ky y:=fun y hy=>by
 obtain⟨m,h1,h2,e⟩:=Ad hy
 have:=h m h1 h2
 rw[ni e]at this
 simpa using this
theorem fL_sh{P:List Keyed}{i n k:Nat}{v:Keyed}(h:∀ m,k<=m->m<n->fL P i v m=false):∀ y∈((P.drop i).take n).drop k,ky v<=ky y:=fun y hy=>by
 obtain⟨m,h1,h2,e⟩:=Ad hy
 have:=h m h1 h2
 rw[oH e]at this
 simp only[decide_eq_false_iff_not]at this
 omega
theorem xE(c:Nat):∀(l:List Keyed)(n:Nat)(xs:Array Keyed),c+n+l.length<=xs.size->((l.zipIdx n).foldl (fun a x=>match x with | (p,j)=>a.setIfInBounds (c+j) p) xs).toList=xs.toList.take (c+n)++l++xs.toList.drop (c+n+l.length)
 |[],n,xs,_=>by
  show xs.toList=_
  rw[Fl,GO,Nat.add_zero,Es]
 |p::l,n,xs,h=>by
  have ll:xs.toList.length=xs.size:=by simp
  rw[ET]at h ⊢
  rw[List.zipIdx_cons,List.foldl_cons]
  show((l.zipIdx (n+1)).foldl _ (xs.setIfInBounds (c+n) p)).toList=_
  rw[xE c l (n+1) _ (by rw[HC];omega),Hu,List.drop_set_of_lt (by omega),show c+(n+1)=c+n+1 by omega,show c+n+1+l.length=c+n+(l.length+1) by omega]
  have e:(xs.toList.set (c+n) p).take (c+n+1)=xs.toList.take (c+n)++[p]:=by
   rw[EV,List.take_set_of_le (Ea _),FW (by omega)]
   rfl
  rw[e,ED (xs.toList.take (c+n)) [p] l]
  rfl
theorem wY{P R:List Keyed}(u:Upl P)(v:Upl R)(c:∀ x∈P,∀ y∈R,ky x<=ky y):Upl (P++R):=E2.mpr ⟨u,v,c⟩
theorem CH{σ:Type}{M:Model}{x st:σ}{Q:PUnit->σ->Prop}(h:Q ⟨⟩ x):wpS M A E s (set x:StateT σ Sem PUnit) Q st:=by
 unfold wpS
 rw[StateT.run_set]
 exact wpAny_pure ⟨rfl,h⟩
def xu:Nat->StateT SortSt Sem Bool:=sortPriv% PySem.Builtin.mergeAt
theorem um{st:SortSt}{i sa na pa sb nb pb:Nat}{Q:Bool->SortSt->Prop}(hk:kindOf st=oneType')(hf:failedOf st=none)(h0:IntKeys (arrOf st))(p1:(pendingOf st)[i]?=some (sa,na,pa))(p2:(pendingOf st)[i+1]?=some (sb,nb,pb))(es:sb=sa+na)(a1:1<=na)(b1:1<=nb)(le:sb+nb<=(arrOf st).size)
  (s1:Upl (((arrOf st).toList.drop sa).take na)) (s2:Upl (((arrOf st).toList.drop sb).take nb))
  (h:∀(st':SortSt)(M:List Keyed),kindOf st'=oneType'->failedOf st'=none->pendingOf st'=((pendingOf st).setIfInBounds i (sa,na+nb,pa)).eraseIdxIfInBounds (i+1)->(arrOf st').toList=(arrOf st).toList.take sa++M++(arrOf st).toList.drop (sb+nb)->M.Perm (((arrOf st).toList.drop sa).take na++((arrOf st).toList.drop sb).take nb)->Upl M->Q true st') :
  wpS (model prog w) A E s (xu i) Q st:=by
 unfold xu
 walk_at "mergeAt"
 refine wpS_bind (wpS_get ?_)
 rw[show((sortPriv% PySem.Builtin.SortState.pending) st)[i]?=some (sa,na,pa) from p1,show((sortPriv% PySem.Builtin.SortState.pending) st)[i+1]?=some (sb,nb,pb) from p2]
 dsimp -zeta -zetaHave only
 refine wpS_bind (CH ?_)
 obtain⟨xs,exs⟩:∃ xs,arrOf st=xs:=⟨_,rfl⟩
 obtain⟨st1,est1⟩:∃ st1:SortSt,SortSt.mk' (kindOf st) (arrOf st) (((pendingOf st).setIfInBounds i (sa,na+nb,pa)).eraseIdxIfInBounds (i+1)) (gallopOf st) (failedOf st)=st1:=⟨_,rfl⟩
 have k1:kindOf st1=oneType':=by rw[← est1];exact hk
 have f1:failedOf st1=none:=by rw[← est1];exact hf
 have e1:arrOf st1=xs:=by rw[← est1,← exs]
 have q1:pendingOf st1=((pendingOf st).setIfInBounds i (sa,na+nb,pa)).eraseIdxIfInBounds (i+1):=by rw[← est1]
 show wpS (model prog w) A E s _ Q (SortSt.mk' (kindOf st) (arrOf st) (((pendingOf st).setIfInBounds i (sa,na+nb,pa)).eraseIdxIfInBounds (i+1)) (gallopOf st) (failedOf st))
 rw[est1]
 clear est1
 rw[show(sortPriv% PySem.Builtin.SortState.a) st=xs from exs]
 rw[exs]at h0 le s1 s2 h
 clear exs p1 p2 hf hk
 have ll:xs.toList.length=xs.size:=by simp
 have ip:∀ x∈xs.toList,IntP x:=fun x hx=>h0 x hx
 have at':∀ i,i<xs.size->∃ x,xs.toList[i]?=some x/\IntP x:=fun i hi=>⟨_,D1 (by omega),ip _ (E8 _)⟩
 obtain⟨b0,hb0,ib0⟩:=at' sb (by omega)
 refine wpS_bind (aX (at_l hb0) ?_)
 refine wpS_bind (zk k1 ib0 s1 ip (by omega) (by omega) fun k kn kt kf=>?_)
 dsimp -zeta -zetaHave only
 obtain⟨S1,eS1⟩:∃ S1,(xs.toList.drop sa).take na=S1:=⟨_,rfl⟩
 obtain⟨S2,eS2⟩:∃ S2,(xs.toList.drop sb).take nb=S2:=⟨_,rfl⟩
 have l1:S1.length=na:=by rw[← eS1,Eg,Eu];omega
 have l2:S2.length=nb:=by rw[← eS2,Eg,Eu];omega
 have tk1:S1.take k=(xs.toList.drop sa).take k:=by rw[← eS1,Gm,Fc kn]
 have lo1:∀ x∈S1.take k,ky x<=ky b0:=by rw[tk1];exact DJ kt
 have hi1:∀ y∈S1.drop k,ky b0<ky y:=by rw[← eS1];exact fR_sh kf
 have bS:S2[0]?=some b0:=by rw[← eS2,rW (by omega)];exact hb0
 rw[eS1]at s1
 rw[eS2]at s2
 have b0l:∀ y∈S2,ky b0<=ky y:=i5 (i:=0) s2 bS
 have whole:Upl (S1++S2)->Q true st1:=fun u=>h st1 (S1++S2) k1 f1 q1 (by
  rw[e1,← eS1,← eS2,← ED,es,← F8,← F8,← es,Es]) (by rw[eS1,eS2]) u
 by_cases z:(na-k == 0)=true
 ·refine aH z ?_
  have z':na-k=0:=by simpa using z
  refine wpS_pure (whole (wY s1 s2 fun x hx y hy=>?_))
  have:=lo1 x (by rw[EM (by omega)];exact hx)
  have:=b0l y hy
  omega
 refine aG z ?_
 have z':na-k≠0:=by simpa using z
 obtain⟨al,hal,ial⟩:=at' (sa+k+(na-k)-1) (by omega)
 have aS:S1[na-1]?=some al:=by rw[← eS1,rW (by omega),← hal];congr 1;omega
 refine wpS_bind (aX (at_l hal) ?_)
 refine wpS_bind (zm k1 ial (by rw[eS2];exact s2) ip (by omega) (by omega) fun m mn mt mf=>?_)
 dsimp -zeta -zetaHave only
 have tk2:S2.take m=(xs.toList.drop sb).take m:=by rw[← eS2,Gm,Fc mn]
 have lo2:∀ x∈S2.take m,ky x<ky al:=by rw[tk2];exact DM mt
 have hi2:∀ y∈S2.drop m,ky al<=ky y:=by rw[← eS2];exact fL_sh mf
 have all:∀ x∈S1,ky x<=ky al:=fun x hx=>j6 s1 aS x (by rw[EM (by omega)];exact hx)
 by_cases y:(m == 0)=true
 ·refine aH y ?_
  have y':m=0:=by simpa using y
  subst y'
  exact wpS_pure (whole (wY s1 s2 fun x hx y hy=>Int.le_trans (all x hx) (hi2 y hy)))
 refine aG y ?_
 have y':m≠0:=by simpa using y
 walk_at "st"
 extract_lets -underBinder +onlyGivenNames xx yy jp
 subst xx yy
 clear_value (ej:jp=_)
 have ea:(xs.extract (sa+k) sb).toList=S1.drop k:=by
  rw[qS,← eS1,F1,F1,Fx]
  congr 1
  omega
 have eb:(xs.extract sb (sb+m)).toList=S2.take m:=by rw[md,tk2]
 have za:(xs.extract (sa+k) sb).size=na-k:=by rw[← Fw,ea,Eu,l1]
 have zb:(xs.extract sb (sb+m)).size=m:=by rw[← Fw,eb,Eg];omega
 have ipa:∀ x∈(xs.extract (sa+k) sb).toList,IntP x:=fun x hx=>by
  rw[qS]at hx
  exact ip x (E4 (E5 hx))
 have ipb:∀ x∈(xs.extract sb (sb+m)).toList,IntP x:=fun x hx=>by
  rw[md]at hx
  exact ip x (E5 (E4 hx))
 have ua:Upl (xs.extract (sa+k) sb).toList:=by rw[ea];exact s1.drop
 have ub:Upl (xs.extract sb (sb+m)).toList:=by rw[eb];exact s2.take
 have c0:∀ x y:Keyed,(xs.extract sb (sb+m)).toList[0]?=some x->y∈(xs.extract (sa+k) sb).toList->ky x<ky y:=fun x y hx hy=>by
  rw[eb,Gj,if_pos (by omega),bS]at hx
  cases hx
  rw[ea]at hy
  exact hi1 y hy
 have cl:∀ x y:Keyed,x∈(xs.extract sb (sb+m)).toList->(xs.extract (sa+k) sb).toList[(xs.extract (sa+k) sb).size-1]?=some y->ky x<ky y:=fun x y hx hy=>by
  rw[za,ea,Fz,show k+(na-k-1)=na-1 by omega,aS]at hy
  cases hy
  rw[eb]at hx
  exact lo2 x hx
 have hj:∀(R:Array Keyed)(st2:SortSt),SmG st1 st2->R.toList.Perm ((xs.extract (sa+k) sb).toList++(xs.extract sb (sb+m)).toList)->Upl R.toList->wpS (model prog w) A E s (jp R) Q st2:=by
  intro R st2 sg pm up
  rw[ej]
  clear ej jp
  walk_at "st"
  rw[ea,eb]at pm
  have rl:R.toList.length=na-k+m:=by rw[pm.length_eq,D2,Eu,Eg,l1,l2];omega
  refine wpS_bind (wpS_modify ?_)
  refine wpS_bind (wpS_get ?_)
  have ff:(sortPriv% PySem.Builtin.SortState.failed) st2=none:=sg.f.trans f1
  show wpS (model prog w) A E s (pure ((sortPriv% PySem.Builtin.SortState.failed) st2).isNone) Q _
  rw[ff]
  have tk:∀ x∈S1.take k,∀ y∈S1.drop k,ky x<=ky y:=by
   have:Upl (S1.take k++S1.drop k):=by rw[Es];exact s1
   exact(E2.mp this).2.2
  have tk':∀ x∈S2.take m,∀ y∈S2.drop m,ky x<=ky y:=by
   have:Upl (S2.take m++S2.drop m):=by rw[Es];exact s2
   exact(E2.mp this).2.2
  refine wpS_pure (h _ (S1.take k++R.toList++S2.drop m) (sg.k.trans k1) rfl (sg.p.trans q1) ?_ ?_ ?_)
  ·show(R.toList.zipIdx.foldl (fun a x=>match x with | (p,j)=>a.setIfInBounds (sa+k+j) p) (arrOf st2)).toList=_
   rw[sg.a,e1,xE (sa+k) R.toList 0 xs (by omega),Nat.add_zero,rl,show sa+k+(na-k+m)=sb+m by omega,F8,← tk1]
   have ed:xs.toList.drop (sb+m)=S2.drop m++xs.toList.drop (sb+nb):=by
    rw[← Fx,← eS2]
    have e:=congrArg (List.drop m) (Es nb (xs.toList.drop sb))
    rw[Hi,Eg,Eu,show m-min nb (xs.toList.length-sb)=0 by omega,F0,Fx]at e
    exact e.symm
   rw[ed]
   simp only[ED]
  ·rw[eS1,eS2]
   have e:S1++S2=S1.take k++(S1.drop k++S2.take m)++S2.drop m:=by
    rw[ED,ED,Es,← ED,Es]
   rw[e]
   exact(Fm _ pm).append_right _
  ·refine wY (wY s1.take up fun x hx y hy=>?_) s2.drop fun x hx y hy=>?_
   ·rcases Ee.mp (pm.mem_iff.mp hy)with hy | hy
    ·exact tk x hx y hy
    ·have:=lo1 x hx
     have:=b0l y (E4 hy)
     omega
   ·rcases Ee.mp hx with hx | hx
    ·have:=lo1 x hx
     have:=b0l y (E5 hy)
     omega
    ·rcases Ee.mp (pm.mem_iff.mp hx)with hx | hx
     ·exact Int.le_trans (all x (E5 hx)) (hi2 y hy)
     ·exact tk' x hx y hy
 clear ej
 by_cases c:na-k<=m
 ·refine aH c ?_
  exact wpS_bind (uj k1 ua ub ipa ipb (by omega) (by omega) (fun x y a b=>Fn (c0 x y a b)) cl fun R st2 sg pm up=>hj R st2 sg pm up)
 ·refine aG c ?_
  exact wpS_bind (uk k1 ua ub ipa ipb (by omega) (by omega) c0 cl fun R st2 sg pm up=>hj R st2 sg pm up)
end PyProof.Rows
namespace PyProof.Rows
open PySem
local macro_rules | `(tactic| walk_at "sortRuns") => do
 let n:=Lean.mkIdent (Lean.mkPrivateNameCore `PySem.Builtin.List.W1All `PySem.Builtin.sortRuns)
 `(tactic| delta $n)
local macro_rules | `(tactic| walk_at "st") => `(tactic| try dsimp -zeta -zetaHave only)
local macro_rules | `(tactic| walk_at "l3") => `(tactic| (extract_lets -underBinder +onlyGivenNames a b c; subst a b c))
local macro_rules | `(tactic| walk_at "l11") => `(tactic| (extract_lets -underBinder +onlyGivenNames a b c d e f g h i j k; subst a b c d e f g h i j k; dsimp -zeta -zetaHave only))
local macro_rules | `(tactic| walk_at "l1") => `(tactic| (extract_lets -underBinder +onlyGivenNames a; subst a; try dsimp -zeta -zetaHave only))
local macro_rules | `(tactic| walk_at "l2") => `(tactic| (extract_lets -underBinder +onlyGivenNames a b; subst a b; try dsimp -zeta -zetaHave only))
local macro_rules | `(tactic| walk_at "l4") => `(tactic| (extract_lets -underBinder +onlyGivenNames a b c d; subst a b c d; try dsimp -zeta -zetaHave only))
variable{prog:Program}{w:World}{A:Around}{E:Value->Shared->Prop}{s:Shared}
def Rn(L:List Keyed):List (Nat×Nat×Nat)->Nat->Nat->Prop
 |[],c,e=>c=e
 |p::t,c,e=>p.1=c/\1<=p.2.1/\Upl ((L.drop p.1).take p.2.1)/\Rn L t (c+p.2.1) e
theorem Rn.le{L:List Keyed}:∀{T:List (Nat×Nat×Nat)}{c e:Nat},Rn L T c e->c+T.length<=e
 |[],c,e,h=>by cases h;exact Ea _
 |p::t,c,e,⟨_,h1,_,h⟩=>by
  have:=Rn.le h
  rw[ET]
  omega
theorem Rn.app{L:List Keyed}:∀{T1 T2:List (Nat×Nat×Nat)}{c e:Nat},Rn L (T1++T2) c e↔∃ m,Rn L T1 c m/\Rn L T2 m e
 |[],T2,c,e=>⟨fun h=>⟨c,rfl,h⟩,fun⟨m,h1,h2⟩=>by cases h1;exact h2⟩
 |p::t,T2,c,e=>by
  constructor
  ·rintro⟨h1,h2,h3,h4⟩
   obtain⟨m,g1,g2⟩:=Rn.app.mp h4
   exact⟨m,⟨h1,h2,h3,g1⟩,g2⟩
  ·rintro⟨m,⟨h1,h2,h3,g1⟩,g2⟩
   exact⟨h1,h2,h3,Rn.app.mpr ⟨m,g1,g2⟩⟩
theorem Rn.lo{L L':List Keyed}{m:Nat}(hm:L.take m=L'.take m):∀{T:List (Nat×Nat×Nat)}{c e:Nat},Rn L T c e->e<=m->Rn L' T c e
 |[],c,e,h,_=>h
 |p::t,c,e,⟨h1,h2,h3,h4⟩,he=>by
  have hl:=h4.le
  refine⟨h1,h2,?_,Rn.lo hm h4 he⟩
  have cut:∀ Z:List Keyed,(Z.drop p.1).take p.2.1=((Z.take m).drop p.1).take p.2.1:=fun Z=>by
   rw[F1,Gm,Fc (by omega)]
  rw[cut L',← hm,← cut L]
  exact h3
theorem Rn.hi{L L':List Keyed}{m:Nat}(hm:L.drop m=L'.drop m):∀{T:List (Nat×Nat×Nat)}{c e:Nat},Rn L T c e->m<=c->Rn L' T c e
 |[],c,e,h,_=>h
 |p::t,c,e,⟨h1,h2,h3,h4⟩,he=>by
  refine⟨h1,h2,?_,Rn.hi hm h4 (by omega)⟩
  have cut:∀ Z:List Keyed,Z.drop p.1=(Z.drop m).drop (p.1-m):=fun Z=>by rw[Fx];congr 1;omega
  rw[cut L',← hm,← cut L]
  exact h3
theorem Rn.like{L:List Keyed}:∀{T T':List (Nat×Nat×Nat)}{c e:Nat},T.map (fun p=>(p.1,p.2.1))=T'.map (fun p=>(p.1,p.2.1))->Rn L T c e->Rn L T' c e
 |[],[],c,e,_,h=>h
 |p::t,q::t',c,e,hm,⟨h1,h2,h3,h4⟩=>by
  rw[EU,EU]at hm
  injection hm with a b
  injection a with a1 a2
  refine⟨by rw[← a1];exact h1,by rw[← a2];exact h2,by rw[← a1,← a2];exact h3,?_⟩
  rw[← a2]
  exact Rn.like b h4
 |[],q::t',c,e,hm,h=>by cases hm
 |p::t,[],c,e,hm,h=>by cases hm
structure SI(a₀:Array Keyed)(lo:Nat)(st:SortSt):Prop where
 perm:(arrOf st).Perm a₀
 kind:kindOf st=oneType'
 failed:failedOf st=none
 rn:Rn (arrOf st).toList (pendingOf st).toList 0 lo
 le:lo<=a₀.size
theorem SI.size{a₀:Array Keyed}{lo:Nat}{st:SortSt}(h:SI a₀ lo st):(arrOf st).size=a₀.size:=h.perm.size_eq
theorem SI.keys{a₀:Array Keyed}{lo:Nat}{st:SortSt}(h:SI a₀ lo st)(h0:IntKeys a₀):IntKeys (arrOf st):=fun p hp=>h0 p ((Gg.mp h.perm).mem_iff.mp hp)
theorem mw{a₀:Array Keyed}{lo i:Nat}{st:SortSt}{Q:Bool->SortSt->Prop}(h0:IntKeys a₀)(hS:SI a₀ lo st)(hi:i+1<(pendingOf st).size)(h:∀ st',SI a₀ lo st'->(pendingOf st').size+1=(pendingOf st).size->(arrOf st').toList.drop lo=(arrOf st).toList.drop lo->Q true st') :
  wpS (model prog w) A E s ((sortPriv% PySem.Builtin.mergeAt) i) Q st:=by
 have tl:(pendingOf st).toList.length=(pendingOf st).size:=by simp
 obtain⟨T,eT⟩:∃ T,(pendingOf st).toList=T:=⟨_,rfl⟩
 rw[eT]at tl
 have g1:(pendingOf st)[i]?=some T[i]:=by rw[← D1,← eT];simp
 have g2:(pendingOf st)[i+1]?=some T[i+1]:=by rw[← D1,← eT];simp
 have sp:T=T.take i++T[i]::T[i+1]::T.drop (i+2):=by
  rw[← Fi,← Fi,Es]
 obtain⟨T1,eT1⟩:∃ T1,T.take i=T1:=⟨_,rfl⟩
 obtain⟨T2,eT2⟩:∃ T2,T.drop (i+2)=T2:=⟨_,rfl⟩
 obtain⟨⟨sa,na,pa⟩,ep⟩:∃ p,T[i]=p:=⟨_,rfl⟩
 obtain⟨⟨sb,nb,pb⟩,eq⟩:∃ p,T[i+1]=p:=⟨_,rfl⟩
 have t1l:T1.length=i:=by rw[← eT1,Eg];omega
 rw[ep]at g1
 rw[eq]at g2
 rw[eT1,eT2,ep,eq]at sp
 have rn:=hS.rn
 rw[eT,sp]at rn
 obtain⟨m,r1,⟨x1,x2,x3,⟨y1,y2,y3,r2⟩⟩⟩:=Rn.app.mp rn
 dsimp only at x1 x2 x3 y1 y2 y3 r2
 have le2:=r2.le
 have le:=hS.le
 have sz:=hS.size
 have ll:(arrOf st).toList.length=(arrOf st).size:=by simp
 refine um hS.kind hS.failed (hS.keys h0) g1 g2 (by omega) x2 y2 (by omega) x3 y3 fun st' M k' f' p' e' pm up=>?_
 have Ml:M.length=na+nb:=by
  rw[pm.length_eq,D2,Eg,Eg,Eu,Eu]
  omega
 have hpp:(pendingOf st').toList=T1++(sa,na+nb,pa)::T2:=by
  rw[p']
  have:(((pendingOf st).setIfInBounds i (sa,na+nb,pa)).eraseIdxIfInBounds (i+1)).toList=(T.set i (sa,na+nb,pa)).eraseIdx (i+1):=by
   unfold Array.eraseIdxIfInBounds
   rw[dif_pos (by rw[HC];exact hi),Array.toList_eraseIdx,Hu,eT]
  rw[this,sp,← t1l,GN _ _ (Ea _),EE,List.set_cons_zero,List.eraseIdx_append_of_length_le (by omega),show T1.length+1-T1.length=1 by omega]
  rfl
 have ptl:(pendingOf st').size+1=(pendingOf st).size:=by
  have a:=congrArg List.length hpp
  have b:=congrArg List.length sp
  simp only[D2,ET,Fw]at a b
  omega
 have es:sb=sa+na:=by omega
 have lt:((arrOf st).toList.take sa).length=sa:=by rw[Eg];omega
 have tke:(arrOf st).toList.take m=(arrOf st').toList.take m:=by
  rw[e',ED,Hg (by omega),Gm,x1,Nat.min_self]
 have dre:(arrOf st).toList.drop (sb+nb)=(arrOf st').toList.drop (sb+nb):=by
  rw[e',List.drop_left' (by rw[D2,lt,Ml];omega)]
 refine h st' ⟨?_,k',f',?_,le⟩ ptl (by
  have e:=congrArg (List.drop (lo-(sb+nb))) dre
  rw[Fx,Fx,show sb+nb+(lo-(sb+nb))=lo by omega]at e
  exact e.symm)
 ·refine Array.Perm.trans (Gg.mpr ?_) hS.perm
  rw[e']
  have e2:(arrOf st).toList=(arrOf st).toList.take sa++(((arrOf st).toList.drop sa).take na++((arrOf st).toList.drop sb).take nb)++(arrOf st).toList.drop (sb+nb):=by
   have es:sb=sa+na:=by omega
   rw[← ED,es,← F8,← F8,Es]
  exact((Fm _ pm).append_right _).trans (List.Perm.of_eq e2.symm)
 ·rw[hpp]
  refine Rn.app.mpr ⟨m,r1.lo tke (Ea _),x1,by show 1<=na+nb;omega,?_,?_⟩
  ·show Upl (((arrOf st').toList.drop sa).take (na+nb))
   have:((arrOf st').toList.drop sa).take (na+nb)=M:=by
    rw[e',ED,Hi,lt,EE,F0,GG (by omega),Hq,Hg (by omega),EM (by omega)]
   rw[this]
   exact up
  ·show Rn _ T2 (m+(na+nb)) lo
   have:=r2.hi dre (by omega)
   rw[show m+(na+nb)=m+na+nb by omega]
   exact this
theorem CQ{xs:Array Keyed}{lo n:Nat}(h:Sin xs lo n)(hn:lo+n<=xs.size):Upl ((xs.toList.drop lo).take n):=by
 have ll:xs.toList.length=xs.size:=by simp
 refine Hy.mpr fun i j hi hj hij=>?_
 rw[Eg,Eu]at hj
 rw[Gw,G9,Gw,G9]
 have z:=h (lo+i) (lo+j) (by omega) (by omega) (by omega)
 rw[K_eq (by omega),K_eq (by omega)]at z
 simpa[ky] using z
theorem SB.si{a₀:Array Keyed}{lo:Nat}{st0 st:SortSt}(h:SB lo st0 st)(hS:SI a₀ lo st0):SI a₀ lo st:=by
 refine⟨h.perm.trans hS.perm,h.kind,h.failed.trans hS.failed,?_,hS.le⟩
 rw[h.pend]
 refine hS.rn.lo (FY fun i=>?_) (Ea _)
 rw[Gj,Gj]
 split
 ·rename_i hi
  have:=h.low i hi
  rw[← F2,← F2]at this
  exact this.symm
 ·rfl
theorem ite_lt(c:Bool){n:Nat}(h:¬ n<=1):(if c=true then n-2-1 else n-2)+1<n:=by split<;>omega
def rP:StateT SortSt Sem Unit:=sortPriv% PySem.Builtin.sortRuns
theorem ui{a₀:Array Keyed}{st:SortSt}{Q:Unit->SortSt->Prop}(h0:IntKeys a₀)(hS:SI a₀ 0 st)(h:∀ st',(arrOf st').Perm a₀->failedOf st'=none->Upl (arrOf st').toList->Q () st'):wpS (model prog w) A E s rP Q st:=by
 unfold rP
 walk_at "sortRuns"
 refine wpS_bind (wpS_get ?_)
 rw[show((sortPriv% PySem.Builtin.SortState.a) st).size=a₀.size from hS.size]
 walk_at "st"
 walk_at "l3"
 generalize (sortPriv% PySem.Builtin.minRun) a₀.size a₀.size 0=mr
 refine wpS_bind (wpS_mono (wpS_forRange (I:=fun x c st'=>∃ lo,c=(none,lo)/\SI a₀ lo st'/\(lo=a₀.size∨x<=lo)) (Q:=fun c st'=>c=(none,a₀.size)/\SI a₀ a₀.size st') ?step ?fin ⟨0,rfl,hS,.inr (Ea _)⟩) ?post)
 case fin =>
  rintro c st' ⟨lo,rfl,hS',g⟩
  have:=hS'.le
  have:lo=a₀.size:=by omega
  subst this
  exact⟨rfl,hS'⟩
 case step =>
  rintro x c st' _ hx ⟨lo,rfl,hS',g⟩
  have le:=hS'.le
  have sz:=hS'.size
  by_cases z:lo ≥ a₀.size
  ·refine aH z ?_
   have:lo=a₀.size:=by omega
   subst this
   exact wpS_pure ⟨rfl,hS'⟩
  refine aG z ?_
  refine uo fun R hR=>?_
  refine wpS_bind (xK hS'.kind (hS'.keys h0) (by omega) (by omega) fun m st1 hB1 m1 m2 hs1=>?_)
  walk_at "st"
  extract_lets -underBinder +onlyGivenNames nn jp
  subst nn
  clear_value (ej:jp=_)
  have hj:∀(n:Nat)(st2:SortSt),SB lo st' st2->1<=n->lo+n<=a₀.size->Sin (arrOf st2) lo n->wpS (model prog w) A E s (jp () n) R st2:=by
   intro n st2 hB2 n1 n2 hs2
   rw[ej]
   clear ej jp
   walk_at "st"
   have S2:=hB2.si hS'
   have u2:=CQ hs2 (by rw[S2.size];exact n2)
   refine wpS_bind (wpS_get ?_)
   walk_at "st"
   extract_lets -underBinder +onlyGivenNames jp
   clear_value (ej:jp=_)
   have hj:∀ st3:SortSt,SI a₀ lo st3->(arrOf st3).toList.drop lo=(arrOf st2).toList.drop lo->wpS (model prog w) A E s (jp ()) R st3:=by
    intro st3 S3 e3
    rw[ej]
    clear ej jp
    walk_at "st"
    refine wpS_bind (wpS_modify (wpS_pure (hR _ _ ⟨lo+n,rfl,⟨S3.perm,S3.kind,S3.failed,?_,n2⟩,?_⟩)))
    ·show Rn (arrOf st3).toList ((pendingOf st3).push (lo,n,0)).toList 0 (lo+n)
     rw[FH]
     refine Rn.app.mpr ⟨lo,S3.rn,rfl,n1,?_,rfl⟩
     show Upl (((arrOf st3).toList.drop lo).take n)
     rw[e3]
     exact u2
    ·rcases g with g | g
     ·exact absurd g (by omega)
     ·exact .inr (by omega)
   clear ej
   cases eb:((sortPriv% PySem.Builtin.SortState.pending) st2).back? with
   |none=>exact hj st2 S2 rfl
   |some p =>
    obtain⟨s1,n1',p1⟩:=p
    walk_at "st"
    extract_lets -underBinder +onlyGivenNames pw
    clear_value pw
    refine wpS_bind (wpS_mono (wpS_forRange (I:=fun _ c st3=>c=(none,())/\SI a₀ lo st3/\(arrOf st3).toList.drop lo=(arrOf st2).toList.drop lo) (Q:=fun c st3=>c=(none,())/\SI a₀ lo st3/\(arrOf st3).toList.drop lo=(arrOf st2).toList.drop lo) ?pstep (fun c st3 q=>q) ⟨rfl,S2,rfl⟩) ?ppost)
    case pstep =>
     rintro y c st3 _ hy ⟨rfl,S3,e3⟩
     refine wpS_bind (wpS_get ?_)
     walk_at "st"
     walk_at "l1"
     by_cases big:((sortPriv% PySem.Builtin.SortState.pending) st3).size > 1
     ·rw[if_pos big]
      obtain⟨⟨q1,q2,q3⟩,eq⟩:∃ p,((sortPriv% PySem.Builtin.SortState.pending) st3)[((sortPriv% PySem.Builtin.SortState.pending) st3).size-2]?=some p:=⟨_,getElem?_pos _ _ (by omega)⟩
      rw[eq]
      dsimp -zeta -zetaHave only
      split
      ·exact wpS_pure ⟨rfl,S3,e3⟩
      ·exact wpS_bind (mw h0 S3 (show(pendingOf st3).size-2+1<(pendingOf st3).size from by have:(pendingOf st3).size > 1:=big;omega) fun st4 S4 _ e4=>wpS_pure ⟨rfl,S4,e4.trans e3⟩)
     ·rw[if_neg big]
      exact wpS_pure ⟨rfl,S3,e3⟩
    case ppost =>
     rintro c st3 ⟨rfl,S3,e3⟩
     walk_at "st"
     walk_at "l1"
     refine wpS_bind (wpS_modify (hj _ ⟨S3.perm,S3.kind,S3.failed,?_,S3.le⟩ e3))
     refine Rn.like ?_ S3.rn
     show _=FF _ ((pendingOf st3).modify _ _).toList
     rw[Array.toList_modify]
     refine FY fun i=>?_
     rw[D9,D9,List.getElem?_modify]
     cases (pendingOf st3).toList[i]? with
     |none=>rfl
     |some p =>
      show some (p.1,p.2.1)=some ((if _=i then _ else p).1,(if _=i then _ else p).2.1)
      split<;>rfl
  clear ej
  by_cases c:m<mr
  ·refine aH c ?_
   refine wpS_bind (wpS_lift (wpAny_rule ⟨rfl,?_⟩))
   refine wpS_bind (Bg (hS'.keys h0) (by rw[sz];omega) (by omega) hB1 hs1 fun st2 hB2 hs2=>?_)
   exact hj _ st2 hB2 (by omega) (by omega) hs2
  ·refine aG c ?_
   exact hj m st1 hB1 m1 (by omega) hs1
 case post =>
  rintro c st' ⟨rfl,hS'⟩
  walk_at "st"
  walk_at "l1"
  have pl:(pendingOf st').size<=a₀.size:=by
   have:=hS'.rn.le
   rw[Fw]at this
   omega
  refine wpS_bind (wpS_mono (wpS_forRange (I:=fun x c st3=>c=(none,())/\SI a₀ a₀.size st3/\((pendingOf st3).size<=1∨(pendingOf st3).size+x<=a₀.size)) (Q:=fun c st3=>c=(none,())/\SI a₀ a₀.size st3/\(pendingOf st3).size<=1) ?fstep ?ffin ⟨rfl,hS',.inr pl⟩) ?fpost)
  case ffin =>
   rintro c st3 ⟨rfl,S3,g⟩
   exact⟨rfl,S3,by omega⟩
  case fpost =>
   rintro c st3 ⟨rfl,S3,g⟩
   refine wpS_pure (h st3 S3.perm S3.failed ?_)
   have rn:=S3.rn
   have sz:=S3.size
   have ll:(arrOf st3).toList.length=(arrOf st3).size:=by simp
   have tl:(pendingOf st3).toList.length=(pendingOf st3).size:=by simp
   match e:(pendingOf st3).toList with
   |[] =>
    rw[e]at rn
    have rn':0=a₀.size:=rn
    rw[List.eq_nil_of_length_eq_zero (show(arrOf st3).toList.length=0 by omega)]
    exact Hb
   |[p] =>
    rw[e]at rn
    obtain⟨r1,_,r3,r4⟩:=rn
    have r4':0+p.2.1=a₀.size:=r4
    rw[r1,F0,EM (by omega)]at r3
    exact r3
   |p::q::t =>
    rw[e]at tl
    simp only[ET]at tl
    omega
  case fstep =>
   rintro x c st3 _ hx ⟨rfl,S3,g⟩
   refine wpS_bind (wpS_get ?_)
   by_cases z:((sortPriv% PySem.Builtin.SortState.pending) st3).size<=1
   ·refine aH z ?_
    exact wpS_pure ⟨rfl,S3,z⟩
   refine aG z ?_
   refine wpS_bind (mw h0 S3 (ite_lt _ z) fun st4 S4 p4 _=>wpS_pure ⟨rfl,S4,?_⟩)
   have z':¬ (pendingOf st3).size<=1:=z
   omega
end PyProof.Rows
namespace PyProof.Rows
open PySem
variable{prog:Program}{w:World}{A:Around}{E:Value->Shared->Prop}{s:Shared}
theorem upl_to{xs:Array Keyed}(u:Upl xs.toList):SortedTo xs xs.size:=fun i j hij hj=>by
 have ll:xs.toList.length=xs.size:=by simp
 have hi':i<xs.size:=by omega
 rw[K_eq hi',K_eq hj]
 have:=zp u (i:=i) (j:=j) (D1 (by omega)) (D1 (by omega)) hij
 simpa[ky] using this
theorem Bm{a:Addr}{vs:List Value}{ns:List Int}{n:Nat}{P:Fin->Shared->Prop} (ho:s.heap.get? a=some (seqObj "list" vs.toArray n)) (hI:IntsAre vs ns) (hz:vs.length<=sizeLine)
  (h:∀(out:Array Value)(ns':List Int),IntsAre out.toList ns'->ns'.Perm ns->ns'.Pairwise (·<=·)->P (.done (.ret .none)) { s with heap:=sortedHeap s.heap a vs out }) :
  wpAny (model prog w) A (Builtin.«list.sort» ⟨[.ref a],[]⟩) P E s:=by
 by_cases h64:vs.length<64
 ·exact list_sort_tree ho hI h64 h
 obtain⟨v₁,v₂,rest,e⟩:∃ v₁ v₂ rest,vs=v₁::v₂::rest:=by
  match vs,h64 with
  |[],h64=>exact absurd (by decide) h64
  |[_],h64=>exact absurd (by show 1<64;decide) h64
  |v₁::v₂::rest,_=>exact⟨v₁,v₂,rest,rfl⟩
 have sz:vs.toArray.size=vs.length:=by simp
 have ha:a<s.heap.objs.size:=Heap.lt_size ho
 rw[list_sort_plain]
 refine wpAny_bind (listItems_at ho rfl (wpAny_bind (listUpdate_at ho rfl ?_)))
 obtain⟨e1,ho1⟩:∃ e1,(s.heap.update a (Obj.mapSeq fun _=>#[])).get? a=some (seqObj "list" #[] e1):=⟨_,get?_update_seq ho (fun _=>#[])⟩
 refine wpAny_bind (seqEpoch_at ho1 rfl (wpAny_bind (wpAny_newTuple (wpAny_bind (wpAny_newList (wpAny_holding ?_))))))
 have ho6:(((s.heap.update a (Obj.mapSeq fun _=>#[])).push (seqObj "tuple" vs.toArray 0)).push (seqObj "list" #[] 0)).get? a=some (seqObj "list" #[] e1):=by
  rw[Heap.get?_push_ne _ _ _ (by rw[size_push',Heap.size_update];exact ES (G7 ha)),Heap.get?_push_ne _ _ _ (by rw[Heap.size_update];exact ES ha)]
  exact ho1
 show wpAny (model prog w) A _ P E { s with heap:=((s.heap.update a (Obj.mapSeq fun _=>#[])).push (seqObj "tuple" vs.toArray 0)).push (seqObj "list" #[] 0) }
 have n2:¬ vs.toArray.size<2:=by omega
 dsimp only
 rw[if_neg n2,if_neg n2]
 have kk:keyKind' vs.toArray=pure oneType':=by subst e;exact keyKind_ints hI
 rw[kk]
 refine wpAny_bind (wpAny_pure ?_)
 have run:=ui (prog:=prog) (w:=w) (A:=A) (E:=E) (s:={ s with heap:=((s.heap.update a (Obj.mapSeq fun _=>#[])).push (seqObj "tuple" vs.toArray 0)).push (seqObj "list" #[] 0) }) (a₀:=pairsOf vs) (st:=SortSt.mk' oneType' (vs.toArray.zip vs.toArray) #[] 7 none)
  (Q:=fun _ st'=>(arrOf st').Perm (pairsOf vs)/\failedOf st'=none/\Upl (arrOf st').toList) hI.intKeys ⟨Array.Perm.refl _,rfl,rfl,rfl,Fu _⟩ fun st' q1 q2 q3=>⟨q1,q2,q3⟩
 refine wpAny_bind (wpAny_mono run ?_ fun _ _ e=>e)
 rintro⟨⟨⟩,st'⟩ s' ⟨rfl,hp,hf,hu⟩
 dsimp only
 refine wpAny_bind (seqEpoch_at ho6 rfl ?_)
 refine wpAny_bind (listUpdate_at ho6 rfl ?_ (hsz2:=by refine E7 (He ((Array.size_map ..).trans (hp.size_eq.trans (pairsOf_size _)))) ?_;omega))
 rw[hf]
 simp only[bne_self_eq_false,Ff,if_false]
 obtain⟨ns',h1,h2,h3⟩:=sorted_out hI hp (by rw[← hp.size_eq];exact upl_to hu)
 exact wpAny_pure (h _ ns' h1 h2 h3)
theorem xP{l:Addr}{vs:List Value}{ns:List Int}{Q:Value->Shared->Prop}(hl:s.heap.IsList l vs.toArray)(hI:IntsAre vs ns)(hz:vs.length<=sizeLine)
  (h:∀(out:Array Value)(ns':List Int),IntsAre out.toList ns'->ns'.Perm ns->ns'.Pairwise (·<=·)->Q (.ref (s.heap.objs.size+1)) { s with heap:=sortedAll s.heap vs out }) :
  wpAny (model prog w) A (call (.builtin "sorted") [.ref l]) Q E s:=by
 refine Calls.call_function_entry kind_sorted plain_sorted entry_sorted (args_sorted1 _) ?_
 unfold Builtin.«sorted»
 refine wpAny_bind (m:=checkCount "sorted" 1 1 _) (wpAny_pure ?_)
 refine wpAny_bind (collect_list hl ?_ hz)
 refine wpAny_bind (wpAny_newList ?_ hz)
 have hsz:((s.heap.push (seqObj "list" #[] 0)).update s.heap.objs.size (Obj.mapSeq (·++vs.toArray))).objs.size=s.heap.objs.size+1:=by
  rw[Heap.size_update,size_push']
 have hoL:(((s.heap.push (seqObj "list" #[] 0)).update s.heap.objs.size (Obj.mapSeq (·++vs.toArray))).push (seqObj "list" vs.toArray 0)).get? (s.heap.objs.size+1)=some (seqObj "list" vs.toArray 0):=by
  rw[← hsz];exact Heap.get?_push_size _ rfl
 show wpAny _ _ _ _ _ { s with heap:=((s.heap.push (seqObj "list" #[] 0)).update s.heap.objs.size (Obj.mapSeq (·++vs.toArray))).push (seqObj "list" vs.toArray 0) }
 rw[hsz]
 refine wpAny_bind (wpAny_holding (wpAny_call_entry slot_list_sort ⟨_,hoL,rfl⟩ entry_list_sort (Bm hoL hI hz fun out ns' a1 a2 a3=>⟨_,rfl,?_⟩) (args_list_sort _)))
 exact wpAny_pure ⟨_,rfl,h out ns' a1 a2 a3⟩
end PyProof.Rows
namespace L2
open PySem PySem.Spec PyProof.Rows
section
variable{X:Cx}
def Cd(K:D5):List V->Hp->VK->Prop:=fun xs H Q=>∃(p:Addr)(ns:List Int),xs = [.ref p]/\SqL K H p (ns.map V.int)/\∀(l:Addr)(out:List Int),H l=none->out.Perm ns->out.Pairwise (·<=·)->Q (.ref l) (upd H l (.lst (out.map V.int)))
theorem yS:og X (.builtin "sorted") (Cd X.K):=by
 intro pins s σ H xs us Q I r h
 obtain⟨p,ns,rfl,hq,q⟩:=h
 obtain⟨u,rfl,ru⟩:=Bi r
 cases ru
 obtain⟨its,rv,pl,hz⟩:=I.list hq
 have hi:=qM rv
 have hl:=rv.length
 rw[D3]at hl hz
 refine xP pl.isList hi (by omega) fun out ns' a1 a2 a3=>?_
 obtain⟨e,he⟩:=sortedAll_at s.heap its out
 refine⟨.ref (s.heap.objs.size+1),_,I.laid (t':=s.toks) (fun _ _=>sortedAll_old) (Fv _) (show dt X.prog X.w _ _ _ (.lst (ns'.map V.int)) from⟨?_,out.toList,e,zo a1,?_⟩),rfl,q _ ns' (I.hok.fresh (Fv _)) a2 a3⟩
 ·rw[D3,a2.length_eq]
  omega
 ·exact he
end
end L2
namespace L2
open PySem PySem.Spec PyProof.Rows
section
variable{X:Cx}
end
end L2
namespace L2
open PySem PySem.Spec PyProof.Rows
section
variable{prog:Program}{w:World}{A:Around}{E:Value->Shared->Prop}{s:Shared}{z TI TO i1 i2 l1 l2:Addr}{f0:Value}{f1:Bool}
end
section
variable{X:Cx}
end
end L2
namespace L2
open PySem PySem.Spec PyProof.Rows
section
variable{X:Cx}
end
end L2
namespace L2
open PySem PySem.Spec PyProof.Rows
section
variable{prog:Program}{w:World}{A:Around}{E:Value->Shared->Prop}{s:Shared}{d:Addr}
end
section
variable{X:Cx}{pins:List (Addr×Obj)}{σ:St}{H:Hp}{s:Shared}{d:Addr}{u:HO}{o:Obj}
end
section
variable{X:Cx}
end
end L2
namespace L2
open PySem PySem.Spec PyProof.Rows PySem.Calls Builtin Builtin.ObjectAttr Builtin.Getset_descriptor
def nZ(x D:Addr)(h:Heap):Prop:=∃ o,h.get? x=some o/\o.cls=.ref D
theorem nZ.type{x D:Addr}{h:Heap}(M:Model)(I:nZ x D h):Gx M h (typeOf (.ref x)) (.ref D):=by
 obtain⟨o,a,b⟩:=I
 exact b▸(PySem.W.Looks.ld a).andThen .now
structure ErC(K:D5)(D:Addr):Prop where
 ga:Em K (.ref D) "__getattribute__" = some (some (.builtin "BaseException.__getattribute__"))
 gt:Em K (.ref D) "__getattr__" = some none
 hb:EY K D (.type "BaseException")=some true
 hd:E9 K D=true
 ha:Em K (.ref D) "__class__" = some (some (.builtin "object.__class__"))
 hn:PySem.W.specialIn K (.builtin "object.__class__") "__get__" = some (some (.builtin "getset_descriptor.__get__"))
 tk:PySem.W.takesIn K (.builtin "object.__class__")=some true
 hm:EY K D (.type "object")=some true
section
variable{prog:Program}{w:World}{A:Around}{E:Value->Shared->Prop}{s:Shared}{K:D5}{x D:Addr}
theorem Dz{M:Model}{h:Heap}(X:K.In h)(e:ErC K D):Gx M h (find (.ref x) (.ref D) "__class__") (.bind (.builtin "getset_descriptor.__get__") (.builtin "object.__class__")):=by
 have L1:=F5 (M:=M) X e.ha
 have L2:=PySem.W.looks_specialIn (M:=M) X e.hn
 have L3:=PySem.W.looks_takesIn (M:=M) X e.tk
 refine L1.andThen (L2.andThen ?_)
 exact(show Gx M h (dataDescriptor? (some (.builtin "object.__class__")) (some (.builtin "getset_descriptor.__get__"))) (some (.builtin "getset_descriptor.__get__",.builtin "object.__class__")) from L3.andThen .now).andThen (PySem.W.Looks.tag .now)
theorem kd_get{R:Except Value Flow->Shared->Prop}{tp:Value}(X:K.In s.heap)(I:nZ x D s.heap)(e:ErC K D)
  (h:R (.ok (.ret (.ref D))) s):codeAny (model prog w) A (.call (.builtin "getset_descriptor.__get__") ⟨[.builtin "object.__class__",.ref x,tp],[]⟩) R s:=by
 obtain⟨hh,g,dr,t,os⟩:=s
 have L0:=I.type (model prog w)
 have L1:=GX (M:=model prog w) X e.hm
 refine codeAny_call_builtin PySem.W.KF.slot_gs.plain PySem.W.KF.entry_gs (PySem.W.KF.slot_gs.check _ _ _ _ _ _ _ _ PySem.W.KF.type_class (PySem.W.KF.args_gs _ _ _) ?_)
 unfold Builtin.«getset_descriptor.__get__» descrGet
 rw[PySem.W.dga_obj]
 refine wpAny_bind (wpAny_pure ?_)
 unfold descrGetter descrCheckInstance descrNameAndClass isInstance
 simp only[PySem.W.KF.owner_class]
 repeat lk
 refine⟨Code.quiet_builtin _ (by decide +kernel),codeAny_builtin PySem.W.KF.entry_class ?_⟩
 unfold Builtin.«object.__class__» shownTypeOf
 repeat lk
 exact h
theorem BL{M:Model}{nameV:Value}{Q:Unit->Shared->Prop}(X:K.In s.heap)(I:nZ x D s.heap)(e:ErC K D)(hq:Q () s):wpAny M A (checkBuiltinCall "BaseException.__getattribute__" ⟨[.ref x,nameV],[]⟩) Q E s:=by
 obtain⟨hh,g,d,t,os⟩:=s
 have hk:builtinKind "BaseException.__getattribute__" = some .slot:=by decide +kernel
 have hsplit:splitId "BaseException.__getattribute__" = some ("BaseException","__getattribute__"):=by decide +kernel
 have ha:=F.args_bexc_ga (.ref x) nameV
 have L0:=I.type M
 have L1:=GX (M:=M) X e.hb
 have LI:Gx M hh (isInstance (.ref x) (.type "BaseException")) true:=L0.andThen L1
 simp only[checkBuiltinCall,hk,hsplit]
 refine wpAny_bind (LI.at ?_)
 repeat (first | assumption | wp_step)
theorem BJ{tk:Tok}{Q:Fin->Shared->Prop}(X:K.In s.heap)(I:nZ x D s.heap)(e:ErC K D)(h:Q (.done (.ret (.ref D))) s):wpAny (model prog w) A (Builtin.«object.__getattribute__» ⟨[.ref x,.str "__class__" tk],[]⟩) Q E s:=by
 obtain⟨hh,g,d,t,os⟩:=s
 have L0:=I.type (model prog w)
 have L2:=Dz (x:=x) (M:=model prog w) X e
 unfold Builtin.«object.__getattribute__»
 repeat (first | assumption | with_reducible refine L0.at ?_ | with_reducible refine L2.at ?_ | with_reducible refine wpAny_call (kd_get (K:=K) X I e ?_) | wp_step)
theorem BK{Q:Option Value->Shared->Prop}(X:K.In s.heap)(I:nZ x D s.heap)(e:ErC K D)(h:Q (some (.ref D)) { s with toks:=s.toks+1 }):wpAny (model prog w) A (getAttr? (.ref x) "__class__") Q E s:=by
 obtain⟨hh,g,d,t,os⟩:=s
 have L0:=I.type (model prog w)
 have L1:=F5 (M:=model prog w) X e.ga
 have L3:=F5 (M:=model prog w) X e.gt
 have f3:=F.excAttr_ValueError.ga.bind (.ref x)
 unfold getAttr? getAttrBy? getAttrBy
 refine wpAny_bind (wpAny_mkText (wpAny_bind (wpAny_attempt (wpAny_holding (wpAny_bind (L0.at (wpAny_bind (L1.at ?_))))))))
 show wpAny _ _ (getAttrByItsOwn _ _ _ _ _ _) _ _ _
 unfold getAttrByItsOwn
 refine wpAny_bind (show wpAny _ _ (typeLookup _ _) _ _ _ from L3.at ?_)
 refine wpAny_bind (wpAny_attempt (wpAny_holding ?_))
 show wpAny _ _ (boundAndCalled _ _ _) _ _ _
 unfold boundAndCalled
 rw[f3]
 refine wpAny_bind (wpAny_pure ?_)
 refine wpAny_call (codeAny_call_builtin F.excAttr_ValueError.ga.plain F.entry_bexc_ga (BL (s:=⟨hh,g,d,t+1,os⟩) X I e (BJ (s:=⟨hh,g,d,t+1,os⟩) X I e ?_)))
 exact wpAny_mono (PySem.W.handed_on rfl (Q:=fun v s'=>v=.ref D/\s'=⟨hh,g,d,t+1,os⟩) ⟨rfl,rfl⟩) (fun v s'' hv=>by obtain⟨rfl,rfl⟩:=hv;exact wpAny_pure h) (fun _ _ z=>z)
theorem xA(e:ErC K D):PySem.W.KitX K (.ref x) (.ref D) (nZ x D) where
 ty:=fun M _ _ I=>I.type M
 it:=fun _ _ X _=>by
  obtain⟨cdD,hcD,_⟩:=Hf e.hd
  unfold HE at hcD
  split at hcD
  ·rename_i c' d' cd' sl' ho
   intro A' Q' E' s' k q
   unfold isType loadHead
   exact wpAny_bind (wpAny_loadPart (k _ _ (X _ _ ho)) (wpAny_pure q))
  ·cases hcD
 ne:=fun h tp dd its n sl X htp=>by
  obtain⟨cdD,hcD,_⟩:=Hf e.hd
  refine Hc.mpr fun q=>?_
  have e:D=tp:=Value.ref.inj (beq_iff_eq.mp q)
  subst e
  unfold HE at hcD
  split at hcD
  ·rename_i c' d' cd' sl' ho
   have z:=(X _ _ ho).symm.trans htp
   cases z
  ·cases hcD
 ca:=fun X I k=>BK X I e k
end
end L2
namespace L2
open PySem PySem.Spec PyProof.Rows
structure DK(h h':Heap):Prop where
 le:h.objs.size<=h'.objs.size
 d:∀(e:Addr)(o':Obj),e<h.objs.size->h'.get? e=some o'->∃ o,h.get? e=some o/\o'.dict=o.dict
theorem DK.rfl'(h:Heap):DK h h:=⟨Ea _,fun _ o' _ q=>⟨o',q,rfl⟩⟩
theorem DK.trans{a b c:Heap}(x:DK a b)(y:DK b c):DK a c:=⟨E7 x.le y.le,fun e o' he q=>by
 obtain⟨o1,q1,d1⟩:=y.d e o' (EL he x.le) q
 obtain⟨o,q0,d0⟩:=x.d e o1 he q1
 exact⟨o,q0,d1.trans d0⟩⟩
theorem DK.upd{h:Heap}{a:Addr}{f:Obj->Obj}(ha:(h.get? a).isSome)(hf:∀ o,(f o).dict=o.dict):DK h (h.update a f):=by
 refine⟨He (Heap.size_update ..).symm,fun e o' he q=>?_⟩
 by_cases z:a=e
 ·subst z
  obtain⟨o,q0⟩:=Gs.mp ha
  obtain⟨q1,_⟩:=Heap.get?_some_iff.mp q
  obtain⟨q2,_⟩:=Heap.get?_some_iff.mp q0
  refine⟨o,q0,?_⟩
  cases h
  simp only[Heap.update,Array.getElem?_modify,if_true]at q1
  simp only at q2
  rw[q2]at q1
  cases q1
  exact hf o
 ·rw[Heap.get?_update_other _ _ z]at q
  exact⟨o',q,rfl⟩
theorem DK.psh(h:Heap)(o:Obj):DK h (h.push o):=by
 refine⟨by rw[Heap.size_push];exact Fv _,fun e o' he q=>?_⟩
 rw[Heap.get?_push_ne _ _ _ (ES he)]at q
 exact⟨o',q,rfl⟩
def aW{α:Type}:Sem α->Prop
 |.pure _=>True
 |.raise _=>True
 |.unsupported _=>True
 |.finish _=>True
 |.rule _ k=>aW (k ())
 |.at _ k=>aW (k ())
 |.load _ _ k=>∀ o,aW (k o)
 |.update _ _ f k=>(∀ o,(f o).dict=o.dict)/\aW (k ())
 |.alloc _ k=>∀ a,aW (k a)
 |.loadIfAlive _ k=>∀ o,aW (k o)
 |.point _ k=>aW (k ())
 |.register _ _=>True
 |.fresh k=>∀ t,aW (k t)
 |.ask k=>∀ t,aW (k t)
 |.choose _ _ k=>∀ t,aW (k t)
 |.os _ _ k=>∀ t,aW (k t)
 |.call _ _ _ _ _=>False
 |.handled _ k=>∀ t,aW (k t)
 |.newGen _ k=>∀ t,aW (k t)
 |.genState _ k=>∀ t,aW (k t)
 |.resume _ _ _ _=>False
 |.yield _ _ _ _=>True
 |.stack k=>∀ t,aW (k t)
 |.fork _ _=>True
 |.thread k=>∀ t,aW (k t)
 |.await _ _ _ _ _=>True
theorem aW.bind{α β:Type}{m:Sem α}{f:α->Sem β}(hm:aW m)(hf:∀ a,aW (f a)):aW (m >>= f):=by
 show aW (m.bind f)
 induction m with
 |pure a=>exact hf a
 |raise e=>exact True.intro
 |unsupported w=>exact True.intro
 |finish e=>exact True.intro
 |rule t k ih=>exact ih () hm
 | «at» p k ih=>exact ih () hm
 |load a p k ih=>exact fun o=>ih o (hm o)
 |update a p g k ih=>exact⟨hm.1,ih () hm.2⟩
 |alloc o k ih=>exact fun a=>ih a (hm a)
 |loadIfAlive a k ih=>exact fun o=>ih o (hm o)
 |point l k ih=>exact ih () hm
 |register a k ih=>exact True.intro
 |fresh k ih=>exact fun o=>ih o (hm o)
 |ask k ih=>exact fun o=>ih o (hm o)
 |choose s n k ih=>exact fun o=>ih o (hm o)
 |os q l k ih=>exact fun o=>ih o (hm o)
 |call c h g l k ih=>exact hm.elim
 |handled o k ih=>exact fun o=>ih o (hm o)
 |newGen c k ih=>exact fun o=>ih o (hm o)
 |genState g k ih=>exact fun o=>ih o (hm o)
 |resume g r l k ih=>exact hm.elim
 |yield v g l k ih=>exact True.intro
 |stack k ih=>exact fun o=>ih o (hm o)
 |fork c k ih=>exact True.intro
 |thread k ih=>exact fun o=>ih o (hm o)
 |await a t d l k ih=>exact True.intro
theorem BY{α:Type}{M:Model}{Γ:PySem.Ctx}(m:Sem α)(hm:aW m)(Q:α->Pos->Shared->Prop)(E:Value->Pos->Shared->Prop)(p:Pos)(s:Shared)(h:Sem.wp M Γ m Q E p s) :
  Sem.wp M Γ m (fun a p' s'=>Q a p' s'/\DK s.heap s'.heap) (fun e p' s'=>E e p' s'/\DK s.heap s'.heap) p s:=by
 have go:∀{m:Sem α}{p:Pos}{s s1:Shared},DK s.heap s1.heap->Sem.wp M Γ m (fun a p' s'=>Q a p' s'/\DK s1.heap s'.heap) (fun e p' s'=>E e p' s'/\DK s1.heap s'.heap) p s1->Sem.wp M Γ m (fun a p' s'=>Q a p' s'/\DK s.heap s'.heap) (fun e p' s'=>E e p' s'/\DK s.heap s'.heap) p s1 :=
  fun{m p s s1} d z=>Sem.wp_mono M Γ m (fun a p' s' q=>⟨q.1,d.trans q.2⟩) (fun a p' s' q=>⟨q.1,d.trans q.2⟩) p s1 z
 induction m generalizing p s with
 |pure a=>rw[Sem.wp]at h ⊢;exact⟨h,DK.rfl' _⟩
 |raise e=>rw[Sem.wp]at h ⊢;exact⟨h,DK.rfl' _⟩
 |unsupported w=>rw[Sem.wp]at h;exact h.elim
 |finish e=>rw[Sem.wp]at h;exact h.elim
 |rule t k ih=>rw[Sem.wp]at h ⊢;exact ih () hm p s h
 | «at» p' k ih=>rw[Sem.wp]at h ⊢;exact ih () hm p' s h
 |load a pt k ih=>rw[Sem.wp]at h ⊢;obtain⟨o,e,h⟩:=h;exact⟨o,e,ih o (hm o) p s h⟩
 |update a pt g k ih=>rw[Sem.wp]at h ⊢;exact⟨h.1,go (DK.upd h.1 hm.1) (ih () hm.2 p _ h.2)⟩
 |alloc o k ih=>rw[Sem.wp]at h ⊢;exact go (DK.psh _ _) (ih _ (hm _) p _ h)
 |loadIfAlive a k ih=>rw[Sem.wp]at h ⊢;exact ih _ (hm _) p s h
 |point l k ih=>rw[Sem.wp]at h ⊢;exact ih () hm p s h
 |register a k ih=>rw[Sem.wp]at h;exact h.elim
 |fresh k ih=>rw[Sem.wp]at h ⊢;exact ih _ (hm _) p _ h
 |ask k ih=>rw[Sem.wp]at h ⊢;exact ih _ (hm _) p s h
 |choose sr n k ih=>rw[Sem.wp]at h ⊢;exact⟨h.1,ih _ (hm _) p _ h.2⟩
 |os q l k ih=>rw[Sem.wp]at h ⊢;exact ih _ (hm _) p _ h
 |call c hh g l k ih=>exact hm.elim
 |handled o k ih=>rw[Sem.wp]at h ⊢;exact ih _ (hm _) p s h
 |newGen c k ih=>rw[Sem.wp]at h ⊢;exact ih _ (hm _) p _ h
 |genState g k ih=>rw[Sem.wp]at h ⊢;obtain⟨o,e,h⟩:=h;exact⟨o,e,ih _ (hm _) p s h⟩
 |resume g r l k ih=>exact hm.elim
 |yield v g l k ih=>rw[Sem.wp]at h;exact h.elim
 |stack k ih=>rw[Sem.wp]at h ⊢;exact ih _ (hm _) p s h
 |fork c k ih=>rw[Sem.wp]at h;exact h.elim
 |thread k ih=>rw[Sem.wp]at h ⊢;exact ih _ (hm _) p s h
 |await a t d l k ih=>rw[Sem.wp]at h;exact h.elim
theorem l7{α:Type}{M:Model}{A:Around}{m:Sem α}(hm:aW m){Q:α->Shared->Prop}{E:Value->Shared->Prop}{s:Shared}(h:wpAny M A m Q E s):wpAny M A m (fun a s'=>Q a s'/\DK s.heap s'.heap) (fun e s'=>E e s'/\DK s.heap s'.heap) s :=
 fun Γ p hΓ=>BY m hm _ _ p s (h Γ p hΓ)
theorem ba{α:Type}(a:α):aW (pure a:Sem α):=True.intro
theorem sY{α:Type}(w:String):aW (PySem.unsupported w:Sem α):=True.intro
theorem c5{α:Type}{c:Prop} [Decidable c] {a b:Sem α} (ha:aW a) (hb:aW b):aW (if c then a else b):=by split<;>assumption
theorem kJ(a:Addr):aW (load a):=fun _=>True.intro
theorem jq:aW stack:=fun _=>True.intro
theorem oI(v:Value):aW (fieldsOf v):=by
 unfold fieldsOf
 cases v with
 |ref a =>
  refine aW.bind (kJ a) fun o=>?_
  cases o.data<;>exact True.intro
 |_=>exact True.intro
theorem gh(v:Value)(i:Nat):aW (field v i):=by
 unfold field
 refine aW.bind (oI v) fun vs=>?_
 cases vs[i]?<;>exact True.intro
theorem fz(v:Value)(i:Nat)(x:Value):aW (setField v i x):=by
 unfold setField
 cases v with
 |ref a =>
  show aW (updateField a i x)
  unfold updateField
  refine aW.bind (kJ a) fun o=>?_
  cases o.data with
  |fields vs =>
   refine c5 ?_ (sY _)
   refine⟨fun o=>?_,True.intro⟩
   unfold Obj.mapFields
   split<;>rfl
  |_=>exact True.intro
 |_=>exact True.intro
theorem eS(e:Value)(f:Option Addr):aW (setFlight e f):=by
 unfold setFlight
 refine aW.bind (gh e 1) fun tb=>?_
 exact c5 (fz _ _ _) (ba _)
theorem nt:∀ l:List Env,aW (readyFrames l)
 |[]=>True.intro
 |env::outer=>by
  unfold readyFrames
  cases env.frame with
  |none=>exact True.intro
  |some f =>
   refine aW.bind (kJ f) fun o=>?_
   refine c5 (ba _) ?_
   refine aW.bind ?_ fun i=>aW.bind ?_ fun b=>aW.bind ⟨fun o=>rfl,True.intro⟩ fun _=>nt outer
   ·unfold behindIsImport
    refine c5 (ba _) (c5 (ba _) (aW.bind (gh _ _) fun _=>ba _))
   ·unfold keptBack
    cases outer with
    |nil=>exact c5 (ba _) (aW.bind (by unfold underTheClaimsCaller;exact aW.bind jq fun _=>ba _) fun _=>ba _)
    |cons c r=>exact ba _
theorem qU(env:Env):aW (HD env):=by
 unfold HD frameObject frameEnvs
 refine aW.bind (aW.bind jq fun _=>ba _) fun l=>aW.bind ?_ fun o=>?_
 ·cases (l.dropWhile fun x=>x.frame != env.frame) with
  |nil=>exact ba _
  |cons e r=>exact aW.bind (nt _) fun _=>ba _
 ·cases o<;>exact True.intro
theorem vT(f:Addr)(b:Bool):aW (entryPlaceOf f b):=by
 unfold entryPlaceOf
 refine aW.bind jq fun acts=>?_
 split<;>exact True.intro
theorem gU(e:Value)(env:Env):aW (noteFrame e env):=by
 unfold noteFrame
 cases env.frame with
 |none=>exact True.intro
 |some f =>
  refine aW.bind (gh _ _) fun head=>?_
  have last:aW (do
    let a ← HD env
    let pl ← entryPlaceOf f (head != .none)
    let b ← EntryCells.newEntry head a .none (rawInt f) .none pl
    setField e 1 b):=by
   refine aW.bind (qU env) fun a=>aW.bind (vT _ _) fun pl=>aW.bind ?_ fun b=>fz _ _ _
   unfold EntryCells.newEntry newFields newObj
   dsimp only
   have nw:∀ d:Data,aW (newObjAsIs (.type "traceback") d):=fun d=>aW.bind (fun _=>True.intro) fun _=>ba _
   exact c5 (aW.bind (sY _) fun _=>nw _) (nw _)
  refine c5 (aW.bind (gh _ _) fun z=>c5 (ba _) (aW.bind (fz _ _ _) fun _=>last)) last
theorem qT(env:Env)(e:Value):aW (leaving env e):=aW.bind (gU e env) fun _=>eS e none
end L2
namespace L2
open PySem PySem.Spec PyProof.Rows
def Xd(h:Heap)(x:Addr)(d:Option Addr):Prop:=∃ oe,h.get? x=some oe/\oe.dict=d
theorem Xd.dk{h h':Heap}{x:Addr}{d:Option Addr}(z:Xd h x d)(k:DK h h')(ex:∃ o,h'.get? x=some o):Xd h' x d:=by
 obtain⟨oe,e,hd⟩:=z
 obtain⟨o',e'⟩:=ex
 obtain⟨o,e2,d2⟩:=k.d x o' (Heap.lt_size e) e'
 rw[e]at e2
 cases e2
 exact⟨o',e',d2.trans hd⟩
theorem Trc.there{h:Heap}{x T:Addr}{C:Value}(t:Trc h x C T):∃ o,h.get? x=some o:=by
 obtain⟨oe,_,_,_,_,he,_⟩:=t
 exact⟨oe,he⟩
def CXd(P:Program)(w:World):CXT:=fun outer H s E e s'=>∃(x:Addr)(C:Value)(T:Addr)(H':Hp)(d:Option Addr),e=.ref x/\s'.os=s.os/\AllBare s'.gens/\Un (frs outer) [] H H' s.heap s'.heap/\HOk P w H' s'.heap /\
 s.heap.get? x=none/\s.heap.get? T=none/\H' x=none/\H' T=none/\Trc s'.heap x C T/\Xd s'.heap x d/\E C d H'
abbrev WKD:=Value->Option Addr->St->Hp->Prop
def WshD(X:Cx)(W:WKD):Prop:=∀(pins:List (Addr×Obj))(σ:St)(H:Hp)(s:Shared)(x:Addr)(C:Value)(d:Option Addr),Inv X pins σ H s->XA X pins H s x C->Xd s.heap x d->W C d σ H->X.xe (.ref x) s
theorem i4{P:Program}{w:World}{K:D5}{mg:Str->Option Value}{base:Heap}{N:List Str}{qual:Str}{scope:Scope}{f:Addr}{cd:Value}{A:Around}{outer:List Env}{s₀:Shared}{H₀:Hp}{E:XK} :
  WshD (cxOf (CXd P w) P w K mg base N qual scope f cd A outer s₀ H₀ E) (fun C d _ H=>E C d H):=fun pins σ H s x C d I xa z hE=>by
 show wpAny (model P w) (A.deeper (envOfC qual scope s₀.heap.objs.size f cd)) (leaving (envOfC qual scope s₀.heap.objs.size f cd) (.ref x)) _ _ s
 refine wpAny_mono (l7 (qT _ _) (Inv.leave (Q:=fun _ s'=>∃ h' T,s'={ s with heap:=h' }/\Inv (cxOf (CXd P w) P w K mg base N qual scope f cd A outer s₀ H₀ E) pins σ H { s with heap:=h' }/\XOk (cxOf (CXd P w) P w K mg base N qual scope f cd A outer s₀ H₀ E) pins H x/\XOk (cxOf (CXd P w) P w K mg base N qual scope f cd A outer s₀ H₀ E) pins H T/\Trc h' x C T) (E:=fun _ _=>False) I rfl rfl rfl xa fun h' T I' x1 xT tr=>⟨h',T,rfl,I',x1,xT,tr⟩)) ?_ (fun _ _ q=>q.1.elim)
 rintro _ s' ⟨⟨h',T,rfl,I',x1,xT,tr⟩,dk⟩
 exact⟨x,C,T,H,d,rfl,I'.os,I'.bare,I'.base,I'.hok,x1.old,xT.old,x1.trk,xT.trk,tr,z.dk dk tr.there,hE⟩
structure CalD(P:Program)(w:World)(K:D5)(mg:Str->Option Value)(base:Heap)(k:Nat)(x:Str)(ps:List Str)(sp:Sp)(f:Addr)(fd:FuncData):Prop where
 ok:FnOk P w K mg base (CXd P w) k f fd ps sp
 bn:jY K fd ps []
 mg:mg x=some (.ref f)
 kp:Ep K (.ref f)=true
theorem Fun.okD{P:Program}{w:World}{K:D5}{mg:Str->Option Value}{base:Heap}{x qual:Str}{st:Stmt}{f:Addr}{fd:FuncData}{N ps:List Str}{k:Nat}{sp:Sp}(F:Fun K x qual st f fd)(S:aY N ps (au st))(len:∀ vs H Q E,sp vs H Q E->vs.length=ps.length)
  (hbody:∀(cdv:Value)(A:Around)(outer:List Env)(s:Shared)(H:Hp)(vs:List V)(Q:VK)(E:XK),Room k (A.deeper (envOfC qual (au st) s.heap.objs.size f cdv))->sp vs H Q E ->
   ∃ t,PSs (cxOf (CXd P w) P w K mg base N qual (au st) f cdv A outer s H E) (aR st) t/\t { nx:=fun _ H'=>Q .non H',rt:=Q } (pK N vs) H):FnOk P w K mg base (CXd P w) (k+1) f fd ps sp:=by
 obtain⟨oc,od,kV,doc,pm,an,cdv,ct,osl,rfl,lk,hcd⟩:=F.ex
 exact fn_of lk hcd S len fun A outer s H vs Q E hr hsp=>hbody cdv A outer s H vs Q E hr hsp
section
variable{X:Cx}{k:Nat}{f C:Addr}{fd:FuncData}{ps:List Str}{sp:Sp}{dvs:List V}{ds:List Value}{W:WKD}{x m:Str}{p pos apos:Pos}{e o:Expr}{es:List Expr}{ta:TE}{t:TA}
theorem WshD.of{pins:List (Addr×Obj)}{σ:St}{H:Hp}{s s':Shared}{v:Value}(ws:WshD X W)(hx:X.ex = [])(I:Inv X pins σ H s)(h:CXd X.prog X.w X.stack H s (fun C d H'=>W C d σ H') v s'):X.xe v s':=by
 obtain⟨x,C,T,H',d,rfl,os,bare,un,hok,nx,nT,tx,tT,tr,z,q⟩:=h
 have I':Inv X pins σ H' s':=I.call' os un hok bare fun b z=>absurd z (by simp)
 exact ws pins σ H' s' x C d I' ⟨I.xok hx nx tx,.inr ⟨T,I.xok hx nT tT,tr⟩⟩ z q
theorem CV{pins:List (Addr×Obj)}{σ:St}{H:Hp}{s:Shared}{Q:VK}{us:List Value}{vs:List V}(F:FnOk X.prog X.w X.K X.mg X.base (CXd X.prog X.w) k f fd ps sp)(hr:Room k X.A)(hb:jY X.K fd ps ds)(hd:Vals dvs ds)(ws:WshD X W)(hx:X.ex = [])
  (I:Inv X pins σ H s) (r:Vals vs us) (h:sp (vs++dvs) H Q (fun C d H'=>W C d σ H')):wpAny (model X.prog X.w) X.A (call (.ref f) us) (EP X pins σ Q) X.xe s:=by
 have r2:Vals (vs++dvs) (us++ds):=r.append hd
 have hl:(us++ds).length=ps.length:=by rw[← r2.length];exact F.len _ _ _ _ h
 refine wpAny_call (codeAny_mono (F.run X.A X.stack s H ⟨us,[]⟩ (us++ds) (vs++dvs) Q _ hr I.env0 (hb s us I.kIn hl) r2 h) fun r s' hq=>?_)
 cases r with
 |error e=>exact ws.of hx I hq
 |ok fl =>
  cases fl with
  |ret u=>exact I.after hq
  |next=>exact False.elim hq
  |brk=>exact False.elim hq
  |cont=>exact False.elim hq
def tCallD(sp:Sp)(dvs:List V)(W:WKD)(t:TA):TE:=fun σ H Q=>t σ H fun vs H1=>sp (vs++dvs) H1 Q fun C d H'=>W C d σ H'
theorem ql(F:FnOk X.prog X.w X.K X.mg X.base (CXd X.prog X.w) k f fd ps sp)(hr:Room k X.A)(hg:Gl X x)(hm:X.mg x=some (.ref f))(hk:Ep X.K (.ref f)=true)(hb:jY X.K fd ps ds)(hd:Vals dvs ds)(ws:WshD X W)(hx:X.ex = [])
  (ha:PA X (e::es) t) (hdb:(x == ("__debug__" : Str))=false:=by decide) (he:starEach (e::es) X.env=(false,eval e X.env)::starEach es X.env:=by rfl) (hpl:(backTo pos (starEach es X.env)).any (·.1)=false:=by rfl) :
  PE X (.Call (.Name x p) (e::es) [] pos) (tCallD sp dvs W t):=by
 intro pins s σ H Q I h
 refine wpAny_Call_Name_kw (kj I hg hm ?_ hdb)
 refine Gi (h₀:=X.base) I.ok.mod.kin hk (thn (ha pos pins s σ H _ I h) fun us s1 ⟨vs,H1,I1,r,q⟩=>⟨I1.kIn,?_⟩) he hpl
 exact CV F hr hb hd ws hx I1 r q
end
def CJ(C:Addr)(W:WKD)(t:TA):TS:=fun _ σ H=>t σ H fun vs H1=>vs.length<=sizeLine/\W (.ref C) none σ H1
theorem jG{X:Cx}{x:Str}{C:Addr}{e:Expr}{es:List Expr}{t:TA}{W:WKD}{np cpos pos:Pos}(ec:ExC X.K C)(hm:X.mg x=some (.ref C))(hg:Gl X x)(ws:WshD X W)(hx:X.ex = [])(hc:X.calm=true)(ha:PA X (e::es) t)
  (he:starEach (e::es) X.env=(false,eval e X.env)::starEach es X.env:=by rfl) (hpl:(backTo cpos (starEach es X.env)).any (·.1)=false:=by rfl) (hdb:(x == ("__debug__" : Str))=false:=by decide) :
  PS X (.Raise (some (.Call (.Name x np) (e::es) [] cpos)) none pos) (CJ C W t):=by
 intro pins s σ H D I h
 obtain⟨tl,N,nm,qn,bs,hdct,sn,sub,ab,col,dd,k0,k1,k2,k3,k5,mN,hC,hN,hni,T,_⟩:=AG ec I.ok.mod.kin
 have hpl2:(backTo cpos (starEach (e::es) X.env)).any (·.1)=false:=by
  rw[he]
  show(false||(backTo cpos (starEach es X.env)).any (·.1))=false
  rw[hpl];rfl
 refine wpAny_Raise_call_subT (C:=C) (nm:=nm) (q:=qn) (N:=N) (bs:=bs) (bm:=tl) (hdct:=hdct) (sn:=sn) (sub:=sub) (ab:=ab) (col:=col) (dd:=dd) (k0:=k0) (k1:=k1) (k2:=k2) (k3:=k3) (k5:=k5) Hr (mN:=mN) (T.hasType Hr.hasBase) (I.ok.hd hc) hpl2 hni (kj I hg hm ⟨rfl,?_⟩ hdb)
 have z:=ha cpos pins s σ H _ I h
 rw[he]at z ⊢
 refine Calls.evalArgs_plain (wpAny_mono z (fun us s2 zz=>?_) fun _ _ y=>y)
 obtain⟨vs,H1,I2,r,hz,q⟩:=zz
 refine⟨rfl,by rw[← r.length];exact hz,I2.bk _ _ hC,hN.keeps I2.bk,T.keeps I2.bk,fun h' e' hme=>?_⟩
 obtain⟨t0,ht0,_,_⟩:=hme.there
 have I3:Inv X pins σ H1 { s2 with heap:=h' }:=I2.kept (t':=s2.toks) hme.keeps
 exact ws pins σ H1 _ e' (.ref C) none I3 ⟨I2.xok hx hme.new (I2.hok.none_of hme.new),.inl ⟨_,_,_,ht0,rfl,rfl,rfl,rfl⟩⟩ ⟨_,ht0,rfl⟩ q
def WshTD(X:Cx)(W:WKD):Prop:=∀(pins:List (Addr×Obj))(σ:St)(H:Hp)(s:Shared)(x T:Addr)(C:Value)(d:Option Addr),Inv X pins σ H s->XOk X pins H x->XOk X pins H T->Trc s.heap x C T->Xd s.heap x d->W C d σ H->X.xe (.ref x) s
section
variable{X:Cx}{k:Nat}{f:Addr}{fd:FuncData}{ps:List Str}{sp:Sp}{dvs:List V}{ds:List Value}{W:WKD}{x:Str}{p pos:Pos}{e:Expr}{es:List Expr}{t:TA}
end
section
variable{M:Model}{A:Around}{E:Value->Shared->Prop}{h:Heap}{g:Array GenState}{d:Drawn}{t:Nat}{os:OsState}
theorem DO{C D:Addr}{nm2 qn2:Str}{N2:Addr}{bs2 bm2:List Value}{hdct2:Bool}{sn2:List Str}{sub2:List Value}{ab2:Bool}{col2:Option Bool}{dd2:Option Addr}{j0 j1 j2 j3 j5:Option Value}{id2:String}{x:Addr}{ob:Obj}{Q:Bool->Shared->Prop}
  (hD:h.get? D=some (excClassObj nm2 qn2 D N2 bs2 bm2 hdct2 sn2 sub2 ab2 col2 dd2 j0 j1 j2 j3 j5 id2)) (hob:h.get? x=some ob) (hcl:ob.cls=.ref C)
  (hDB:(Value.ref D::bm2).contains (.type "BaseException")=true) (lk:Gx M h (isSubtype (.ref C) (.ref D)) true) (hq:Q true ⟨h,g,d,t,os⟩):wpAny M A (excMatches (.ref x) (.ref D)) Q E ⟨h,g,d,t,os⟩:=by
 have ntup:=tc_notTuple
 unfold excMatches
 repeat (first | (with_reducible refine wpAny_loadPart_at hob ?_;rw[hcl]) | with_reducible refine wpAny_loadPart_at hD ?_ | (with_reducible refine wpAny_isSubtype_exc hD ?_;rw[hDB]) | with_reducible refine lk.at ?_ | wp_step)
 exact hq
end
def excD(x C:Addr)(d:Option Addr):HO:=.ext fun h=>∃ o,h.get? x=some o/\o.cls=.ref C/\o.dict=d/\Hv o=true
def CI(ie:Nat)(Cs:Addr->Prop)(tb:WKD->TS)(ts:TS):TS:=fun Ds σ H=>tb (fun C d σ1 H1=>∃ c,C=.ref c/\Cs c/\∀ x,H1 x=none->ts { nx:=fun σ2 H2=>Ds.nx (σ2.set ie none) H2,rt:=fun _ _=>False } (σ1.set ie (some (.ref x))) (upd H1 x (excD x c d))) Ds σ H
theorem zL{X:Cx}{body:List Stmt}{b0:Stmt}{suite:List Stmt}{dn en:Str}{np hpos pos:Pos}{D:Addr}{ie:Nat}{Cs:Addr->Prop}{tb:WKD->TS}{ts:TS}(hx:X.ex = [])(hst:X.stack=X.env::X.outer)(hfr:X.env.frame=some X.env.locals)(hN:X.N.Nodup)(hi:X.N[ie]?=some en)(hl:X.env.kindOf en=some .local)
  (hgD:Gl X dn) (hmD:X.mg dn=some (.ref D)) (eD:ExC X.K D) (hCs:∀ c,Cs c->EY X.K c (.ref D)=some true)
  (hb:∀ pins XE W,WshTD (X.tried pins XE) W->PSs (X.tried pins XE) body (tb W)) (hs:∀ v,PSs (X.marked v) (b0::suite) ts) (hdb:(dn == ("__debug__" : Str))=false:=by decide) :
  PS X (.Try body [.ExceptHandler (some (.Name dn np)) (some en) (b0::suite) hpos] [] [] pos) (CI ie Cs tb ts):=by
 intro pins s σ H Ds I h
 refine wpAny_Try_except ?_
 refine wpAny_mono (hb pins (fun e s₁=>wpAny (model X.prog X.w) X.A (noteFrame e X.env) (fun _ s₂=>wpAny (model X.prog X.w) X.A (setFlight e none) (fun _ s₃=>wpAny (model X.prog X.w) X.A (handleBy e X.env [.ExceptHandler (some (.Name dn np)) (some en) (b0::suite) hpos]) (SP X pins Ds) X.xe s₃) X.xe s₂) X.xe s₁) _ ?_ [] s σ H Ds I.tried h) (fun f s1 q=>?_) fun _ _ z=>z
 ·intro pins' σ1 H1 s1 x T C d I1 xx xT tr zd hw
  obtain⟨c,rfl,hc,hts⟩:=hw
  have I2:Inv X pins σ1 H1 s1:=I1.untried
  have x2:XOk X pins H1 x:=xx.untried
  have T2:XOk X pins H1 T:=xT.untried
  have frm:X.A.frames=some (X.env::X.outer):=by rw[← hst];exact I2.ok.frames
  have fly:∀{h:Heap}{T:Addr},Inv X pins σ1 H1 { s1 with heap:=h }->Trc h x (.ref c) T->∃ a0,Heap.FlyingW (hidX X h [x,T]) (X.env::X.outer) x (.ref c) a0 h:=fun{h T} J tr=>by
   obtain⟨oe,vs,a0,oT,ts,he,hcl,h0,hd,h1,hTe,hT,hdT,h3⟩:=tr
   exact⟨a0,Az _ _,jM (by simp),hst▸J.hidF [x,T],⟨oe,vs,T,oT,ts,he,⟨hcl,h0⟩,hd,h1,jM (by simp),hTe,hT,hdT,h3⟩⟩
  have two:∀{T:Addr},XOk X pins H1 T->∀ b∈[x,T],XOk X pins H1 b:=fun{T} hT b hb=>by
   rcases Ec.mp hb with e | hb
   ·rw[e];exact x2
   ·have e:b=T:=by simpa using hb
    rw[e];exact hT
  obtain⟨a0,fl⟩:=fly (h:=s1.heap) I2 tr
  refine wpAny_mono (l7 (gU _ _) (wpAny_looks_onW (Q:=fun _ s'=>∃ h4,s'={ s1 with heap:=h4 }/\Heap.HeldW (hidX X s1.heap [x,T]) (X.env::X.outer) x (.ref c) a0 X.env.locals h4/\s1.heap.UpToSlots h4) (E:=fun _ _=>False) frm hfr fl fun h4 a b=>⟨h4,rfl,a,b⟩)) ?_ (fun _ _ q=>q.1.elim)
  rintro _ s4 ⟨⟨h4,rfl,held4,up4⟩,dk4⟩
  refine wpAny_mono (l7 (eS _ _) (wpAny_landsW (Q:=fun _ s'=>∃ h5,s'={ s1 with heap:=h5 }/\Heap.FlyingW (hidX X s1.heap [x,T]) (X.env::X.outer) x (.ref c) a0 h5/\h4.UpToSlots h5) (E:=fun _ _=>False) held4 fun h5 a b=>⟨h5,rfl,a,b⟩)) ?_ (fun _ _ q=>q.1.elim)
  rintro _ s5 ⟨⟨h5,rfl,fl5,up5⟩,dk5⟩
  obtain⟨I5,T5,xT5,tr5⟩:=I2.left hx (two T2) fl5.1 fl5.2.2.2 (up4.trans up5)
  have z5:Xd h5 x d:=zd.dk (DK.trans (b:=h4) dk4 dk5) tr5.there
  refine wpAny_handleBy_cons (codeAny_handlers_test (Calls.Name_function_global I5.ok.kind hgD (Calls.loadGlobal_global (by rw[I5.ok.glob];exact I5.mod.glob.keeps I5.bk) hmD ?_) hdb)) (by intro q;cases q)
  obtain⟨_,_,_,_,_,_,_,_,_,_,_,_,_,_,_,_,_,hD,_,_,TD,_⟩:=AG eD I5.kIn
  have hDB:=TD.hasType (X:="BaseException") (b:=true) rfl
  obtain⟨ob,_,_,_,_,hob,hcl,_⟩:=id tr5
  refine DO hD hob hcl (by rw[List.contains_cons,hDB,Bool.or_true]) (GX I5.kIn (hCs c hc)) ?_
  refine codeAny_handlers_suite_as ?_
  obtain⟨a5,fl5'⟩:=fly I5 tr5
  refine wpAny_mono (l7 (eS _ _) (lands_againW (Q:=fun _ s'=>∃ h6,s'={ s1 with heap:=h6 }/\Heap.FlyingW (hidX X h5 [x,T5]) (X.env::X.outer) x (.ref c) a5 h6/\h5.UpToSlots h6) (E:=fun _ _=>False) (s:={ s1 with heap:=h5 }) fl5' fun h6 a b=>⟨h6,rfl,a,b⟩)) ?_ (fun _ _ q=>q.1.elim)
  rintro _ s6 ⟨⟨h6,rfl,fl6,up6⟩,dk6⟩
  obtain⟨I6,T6,xT6,tr6⟩:=I5.left hx (two xT5) fl6.1 fl6.2.2.2 up6
  have z6:Xd h6 x d:=z5.dk dk6 tr6.there
  obtain⟨oe,vs6,_,_,_,he,hcl6,_,hd6,_⟩:=id tr6
  have hnc:Hv oe=true:=by unfold Hv;rw[hd6]
  have hdd:oe.dict=d:=by
   obtain⟨o2,e2,d2⟩:=z6
   rw[he]at e2
   cases e2
   exact d2
  have I7:=I6.xtrack (o:=excD x c d) x2 ⟨⟨oe,he,hcl6,hdd,hnc⟩,⟨oe,he⟩,fun h1 h2 ⟨o,z1,z2⟩ kk=>⟨o,kk o z1,z2⟩⟩
  refine l9 I7 hN hi (.inl hl) (v:=.ref x) rfl (fun s8 I8=>?_) (.inr hl)
  refine wpAny_mono (hs (.ref x) pins s8 _ _ _ (I8.marked _) (hts x x2.trk)) (fun f s9 q9=>?_) fun _ _ z=>z.elim
  cases f with
  |next =>
   obtain⟨σ9,H9,I9,q9⟩:=q9
   have I9':Inv X pins σ9 H9 s9:=Inv.unmarked (hd:=I2.ok.hd) (fr:=I2.ok.frames) I9
   obtain⟨m,hm⟩:=I9'.loc
   refine wpAny_nameGoes_keeps hl hm.1 (by rw[I9'.ok.kind];rfl) fun h' v hn hss=>?_
   exact⟨_,_,I9'.gone hN hi hm hn hss,q9⟩
  |brk=>obtain⟨_,_,_,z⟩:=q9;exact z.elim
  |cont=>obtain⟨_,_,_,z⟩:=q9;exact z.elim
  |ret u=>obtain⟨_,_,_,_,_,z⟩:=q9;exact z.elim
 ·have q':=SP.untried q
  cases f with
  |next=>exact wpAny_execs_nil q'
  |brk=>exact q'
  |cont=>exact q'
  |ret u=>exact q'
end L2
namespace L2
open PySem PySem.Spec PyProof.Rows PySem.Calls Builtin Builtin.ObjectAttr
section
variable{prog:Program}{w:World}{A:Around}{E:Value->Shared->Prop}{h:Heap}{g:Array GenState}{d:Drawn}{t:Nat}{os:OsState}
variable{nm q:Str}{C N:Addr}{bs bm bmB:List Value}{hdct:Bool}{sn:List Str}{sub:List Value}{ab:Bool}{col:Option Bool}{dd:Option Addr}{k0 k1 k2 k3 k5:Option Value}{B newId initId:String}
end
section
variable{prog:Program}{w:World}{A:Around}{E:Value->Shared->Prop}{s:Shared}{K:D5}{x C fI:Addr}{name:Str}{v:Value}
end
section
variable{X:Cx}{pins:List (Addr×Obj)}{σ:St}{H:Hp}{s:Shared}{A:Around}{E:Value->Shared->Prop}{a C fI:Addr}{f:Str}
end
section
variable{prog:Program}{w:World}{A:Around}{E:Value->Shared->Prop}{s:Shared}{env:Env}
variable{nm q:Str}{C N:Addr}{bs bm bmB:List Value}{hdct:Bool}{sn:List Str}{sub:List Value}{ab:Bool}{col:Option Bool}{dd:Option Addr}{k0 k1 k2 k3 k5:Option Value}{B newId initId:String}
end
theorem gY{X:Cx}:og X (.builtin "isinstance") (fun xs H Q=>∃ x c dx d b,xs = [.ref x,.ref d]/\H x=some (excD x c dx)/\ErC X.K c/\Ex X.K (.ref c) (.ref d)=some b/\Q (.bl b) H):=by
 intro pins s σ H xs us Q I r h
 obtain⟨x,c,dx,d,b,rfl,hx,ec,ek,q⟩:=h
 obtain⟨v1,v2,rfl,r1,r2⟩:=Bh r
 cases r1
 cases r2
 obtain⟨⟨o,p1,p2,_⟩,_,_⟩:=(show dt X.prog X.w H s.heap x (excD x c dx) from I.hok x _ hx)
 exact PySem.W.kia_one (xA ec) I.kIn ⟨o,p1,p2⟩ ek (fun z=>nomatch z) fun tk=>⟨.bl b,H,I.tok tk,rfl,q⟩
theorem yT{X:Cx}:og X (.builtin "isinstance") (fun xs H Q=>∃ x c dx T b,xs = [.ref x,.ty T]/\H x=some (excD x c dx)/\ErC X.K c/\Ex X.K (.ref c) (.type T)=some b/\Q (.bl b) H):=by
 intro pins s σ H xs us Q I r h
 obtain⟨x,c,dx,T,b,rfl,hx,ec,ek,q⟩:=h
 obtain⟨v1,v2,rfl,r1,r2⟩:=Bh r
 cases r1
 cases r2
 obtain⟨⟨o,p1,p2,_⟩,_,_⟩:=(show dt X.prog X.w H s.heap x (excD x c dx) from I.hok x _ hx)
 exact PySem.W.kia_one (xA ec) I.kIn ⟨o,p1,p2⟩ ek (fun z=>nomatch z) fun tk=>⟨.bl b,H,I.tok tk,rfl,q⟩
end L2
namespace L2
open PySem PySem.Spec PyProof.Rows
end L2
namespace L2
open PySem PySem.Spec PyProof.Rows
def PnX(X:Cx):Prop:=∀ b∈X.ex,∃ o,(b,o)∈X.pn
section
variable{X:Cx}{pins:List (Addr×Obj)}{σ:St}{H H':Hp}{s s':Shared}{b:Addr}
theorem Inv.xokP(I:Inv X pins σ H s)(hx:PnX X)(e:s.heap.get? b=none)(n:H' b=none):XOk X pins H' b:=by
 refine⟨?_,n,fun z=>?_,fun x c q z=>?_,fun p hp z=>?_⟩
 ·cases q:X.s₀.heap.get? b with
  |none=>rfl
  |some o =>
   obtain⟨o',e'⟩:=I.base.there b o q fun z=>by
    obtain⟨o1,h1⟩:=hx b z
    have:=(I.pin (b,o1) (E1 _ h1)).1
    rw[e]at this
    cases this
   rw[e]at e'
   cases e'
 ·obtain⟨m,⟨o,_,_,ho,_⟩,_⟩:=I.loc
  rw[z,ho]at e
  cases e
 ·obtain⟨v,o,ho,_⟩:=I.cell x c q
  rw[z,e]at ho
  cases ho
 ·have:=(I.pin p hp).1
  rw[z,e]at this
  cases this
end
section
variable{M:Model}{A:Around}{E:Value->Shared->Prop}{s:Shared}
end
section
variable{X:Cx}{pins:List (Addr×Obj)}{σ:St}{H:Hp}{s:Shared}{x T:Addr}{C:Value}{E:Value->Shared->Prop}
end
section
variable{X:Cx}{k:Nat}{f:Addr}{fd:FuncData}{ps:List Str}{sp:Sp}{dvs:List V}{ds:List Value}{W:WKD}{x:Str}{p pos:Pos}{e:Expr}{es:List Expr}{t:TA}
end
section
variable{X:Cx}{pins:List (Addr×Obj)}{σ:St}{H:Hp}{s:Shared}{x T L:Addr}{C:Value}{d:Option Addr}{R:Value->Shared->Prop}{fenv cenv:Env}{outer:List Env}
end
section
variable{X:Cx}{scope:Scope}{fr:List (Str×Nat)}{xs:List Str}{elt iter tg:Expr}{ifs:List Expr}{pos:Pos}{tt:TT}{tgt:TG}{wi:TI}
end
end L2
namespace L2
open PySem PySem.Spec PyProof.Rows
theorem C4{X:Cx}(h:X.ex = []):PnX X:=fun b hb=>by rw[h]at hb;cases hb
section
variable{X:Cx}{k:Nat}{f C:Addr}{fd:FuncData}{ps:List Str}{sp:Sp}{dvs:List V}{ds:List Value}{W:WKD}{x m:Str}{p pos apos:Pos}{e o:Expr}{es:List Expr}{ta:TE}{t:TA}
def tMakeD(C:Addr)(sp:Sp)(dvs:List V)(W:WKD)(t:TA):TE:=fun σ H Q=>t σ H fun vs H1=>∀ x dx,H1 x=none->H1 dx=none->dx≠x ->
 sp (.ref x::(vs++dvs)) (upd (upd H1 dx (.own x)) x (.ins C dx [])) (fun v H2=>v=.non/\Q (.ref x) H2) fun C d H'=>W C d σ H'
theorem Bs(M:Mk X.K C f)(F:FnOk X.prog X.w X.K X.mg X.base (CXd X.prog X.w) k f fd ps sp)(hr:Room (k+1) X.A)(hg:Gl X x)(hm:X.mg x=some (.ref C))(hb:jY X.K fd ps ds)(hd:Vals dvs ds)(ws:WshTD X W)(hx:PnX X)
  (ha:PA X (e::es) t) (hdb:(x == ("__debug__" : Str))=false:=by decide) (he:starEach (e::es) X.env=(false,eval e X.env)::starEach es X.env:=by rfl) (hpl:(backTo pos (starEach es X.env)).any (·.1)=false:=by rfl) :
  PE X (.Call (.Name x p) (e::es) [] pos) (tMakeD C sp dvs W t):=by
 intro pins s σ H Q I h
 refine wpAny_Call_Name_kw (kj I hg hm ?_ hdb)
 refine Gi (h₀:=X.base) I.ok.mod.kin M.kp (thn (ha pos pins s σ H _ I h) fun us s1 ⟨vs,H1,I1,r,q⟩=>⟨I1.kIn,?_⟩) he hpl
 have hq:=q (s1.heap.objs.size+1) s1.heap.objs.size (I1.hok.fresh (Fv _)) (I1.hok.fresh (Ea _)) (ES (F3 _))
 have I2:=Inv.made (C:=C) I1
 have r2:Vals (V.ref (s1.heap.objs.size+1)::(vs++dvs)) (Value.ref (s1.heap.objs.size+1)::(us++ds)):=.cons rfl (r.append hd)
 have hl:(Value.ref (s1.heap.objs.size+1)::us++ds).length=ps.length:=by
  have e:=r2.length
  rw[F.len _ _ _ _ hq]at e
  exact e.symm
 refine wpAny_call (xy (f:=f) I1.kIn M.makes M.init (beq_iff_eq.mp M.fn) (codeAny_mono (F.run _ X.stack _ _ ⟨Value.ref (s1.heap.objs.size+1)::us,[]⟩ (Value.ref (s1.heap.objs.size+1)::(us++ds)) _ _ _ (hr.make C us [])
  (I2.env0.make C us []) (hb _ (Value.ref (s1.heap.objs.size+1)::us) I2.kIn hl) r2 hq) fun r s' hq'=>?_))
 cases r with
 |error e =>
  obtain⟨x,C,T,H',d,rfl,os,bare,un,hok,nx,nT,tx,tT,tr,z,q'⟩:=hq'
  have I':Inv X pins σ H' s':=I2.call' os un hok bare fun b z=>absurd z (by simp)
  exact ws pins σ H' s' x T C d I' (I2.xokP hx nx tx) (I2.xokP hx nT tT) tr z q'
 |ok fl =>
  cases fl with
  |ret u =>
   obtain⟨v,H',I3,rv,ev,q3⟩:=I2.after hq'
   subst ev
   exact⟨rv,⟨V.ref (s1.heap.objs.size+1),H',I3,rfl,q3⟩⟩
  |next=>exact False.elim hq'
  |brk=>exact False.elim hq'
  |cont=>exact False.elim hq'
end
section
variable{M:Model}{A:Around}{E:Value->Shared->Prop}{h:Heap}{g:Array GenState}{d:Drawn}{t:Nat}{os:OsState}
end
end L2
namespace L2
open PySem PySem.Spec PyProof.Rows
end L2
namespace L2
theorem len_0{α:Type}{l:List α}(h:l.length=0):l = []:=GB.mp h
theorem yE{α:Type}{l:List α}{n:Nat}(h:l.length=n+1):∃ x r,l=x::r/\r.length=n:=by
 cases l with
 |nil=>cases h
 |cons x r=>exact⟨x,r,rfl,Nat.succ.inj h⟩
theorem len_1{α:Type}{l:List α}(h:l.length=1):∃ a,l = [a]:=by
 obtain⟨a,r,rfl,e⟩:=yE h
 exact⟨a,by rw[len_0 e]⟩
theorem gB{α:Type}{l:List α}(h:l.length=2):∃ a b,l = [a,b]:=by
 obtain⟨a,r,rfl,e⟩:=yE h
 obtain⟨b,rfl⟩:=len_1 e
 exact⟨a,b,rfl⟩
theorem vE{α:Type}{l:List α}(h:l.length=3):∃ a b c,l = [a,b,c]:=by
 obtain⟨a,r,rfl,e⟩:=yE h
 obtain⟨b,c,rfl⟩:=gB e
 exact⟨a,b,c,rfl⟩
theorem BG{α:Type}{l:List α}(h:l.length=4):∃ a b c d,l = [a,b,c,d]:=by
 obtain⟨a,r,rfl,e⟩:=yE h
 obtain⟨b,c,d,rfl⟩:=vE e
 exact⟨a,b,c,d,rfl⟩
theorem len_5{α:Type}{l:List α}(h:l.length=5):∃ a b c d e,l = [a,b,c,d,e]:=by
 obtain⟨a,r,rfl,z⟩:=yE h
 obtain⟨b,c,d,e,rfl⟩:=BG z
 exact⟨a,b,c,d,e,rfl⟩
theorem len_6{α:Type}{l:List α}(h:l.length=6):∃ a b c d e f,l = [a,b,c,d,e,f]:=by
 obtain⟨a,r,rfl,z⟩:=yE h
 obtain⟨b,c,d,e,f,rfl⟩:=len_5 z
 exact⟨a,b,c,d,e,f,rfl⟩
end L2
namespace K8
theorem B9:∀{a b:List Nat},a.Nodup->(∀ x∈a,x∈b)->a.length<=b.length
 |[],_,_,_=>Fu _
 |x::a,b,nd,h=>by
  obtain⟨n1,n2⟩:=Ek.mp nd
  have hx:=h x (by simp)
  have ih:=B9 (a:=a) (b:=b.erase x) n2 fun y hy=>(List.mem_erase_of_ne (fun e:y=x=>n1 (e▸hy))).mpr (h y (Ef _ hy))
  rw[List.length_erase_of_mem hx]at ih
  have:0<b.length:=Fy hx
  rw[ET]
  omega
theorem eP{a:List Nat}{N:Nat}(nd:a.Nodup)(h:∀ x∈a,x<N):a.length<=N:=by
 have:=B9 (b:=Gu N) nd fun x hx=>List.mem_range.mpr (h x hx)
 rwa[FG]at this
theorem xn{l:List Nat}(nd:l.Nodup){i j x:Nat}(hi:l[i]?=some x)(hj:l[j]?=some x):i=j:=by
 have p:=Hy.mp nd
 obtain⟨h1,e1⟩:=DZ.mp hi
 obtain⟨h2,e2⟩:=DZ.mp hj
 rcases Nat.lt_trichotomy i j with z | z | z
 ·exact absurd (e1.trans e2.symm) (p i j h1 h2 z)
 ·exact z
 ·exact absurd (e2.trans e1.symm) (p j i h2 h1 z)
abbrev En:=List (Nat×Nat)
structure aZ(m:Nat)(es:En)(ts:List (List Nat)):Prop where
 len:ts.length=m
 ends:∀ e∈es,e.1<m/\e.2<m/\e.1≠e.2
 nd:∀(p:Nat)(l:List Nat),ts[p]?=some l->l.Nodup
 mem:∀(p:Nat)(l:List Nat),ts[p]?=some l->∀ t,t∈l↔∃ e,es[t]?=some e/\(e.1=p∨e.2=p)
theorem Bk(m:Nat):aZ m [] (GW m []) where
 len:=by simp
 ends:=fun e h=>by cases h
 nd:=fun p l h=>by
  rw[GC]at h
  split at h
  ·cases h;exact Gn
  ·cases h
 mem:=fun p l h t=>by
  rw[GC]at h
  split at h
  ·cases h;simp
  ·cases h
def ins(l:List Nat)(k x:Nat):List Nat:=l.take k++x::l.drop k
theorem vQ{l:List Nat}{k x y:Nat}:y∈ins l k x↔y=x∨y∈l:=by
 unfold ins
 rw[Ee,Ec]
 have:=Es k l
 constructor
 ·rintro(h | h | h)
  ·exact .inr (E4 h)
  ·exact .inl h
  ·exact .inr (E5 h)
 ·rintro(h | h)
  ·exact .inr (.inl h)
  ·rw[← this]at h
   rcases Ee.mp h with z | z
   ·exact .inl z
   ·exact .inr (.inr z)
theorem As{l:List Nat}{k x:Nat}(nd:l.Nodup)(h:x∉l):(ins l k x).Nodup:=by
 unfold ins
 have e:=Es k l
 rw[← e]at nd
 obtain⟨a,b,c⟩:=EB.mp nd
 refine EB.mpr ⟨a,Ek.mpr ⟨fun z=>h (E5 z),b⟩,fun y hy z hz=>?_⟩
 rcases Ec.mp hz with q | q
 ·intro w
  exact h (by rw[← q,← w];exact E4 hy)
 ·exact c y hy z q
theorem aZ.put{m:Nat}{es:En}{ts:List (List Nat)}{one two k j:Nat}{l l':List Nat}(w:aZ m es ts)(h1:one<m)(h2:two<m)(hn:one≠two)(e1:ts[one]?=some l)(e2:ts[two]?=some l') :
  aZ m (es++[(one,two)]) ((ts.set one (ins l k es.length)).set two (ins l' j es.length)):=by
 have old:∀{p l},ts[p]?=some l->es.length∉l:=fun{p l} e z=>by
  obtain⟨x,hx,_⟩:=(w.mem p l e es.length).mp z
  have:=(DZ.mp hx).1
  omega
 have get:∀ p q,((ts.set one (ins l k es.length)).set two (ins l' j es.length))[p]?=some q->(p=two/\q=ins l' j es.length)∨(p=one/\p≠two/\q=ins l k es.length)∨(p≠one/\p≠two/\ts[p]?=some q):=fun p q e=>by
  have L:two<(ts.set one (ins l k es.length)).length:=by rw[EF,w.len];exact h2
  have L1:one<ts.length:=by rw[w.len];exact h1
  rw[EG]at e
  by_cases z:two=p
  ·rw[if_pos z,if_pos L]at e
   exact .inl ⟨z.symm,(Er e).symm⟩
  ·rw[if_neg z,EG]at e
   by_cases y:one=p
   ·rw[if_pos y,if_pos L1]at e
    exact .inr (.inl ⟨y.symm,Ne.symm z,(Er e).symm⟩)
   ·rw[if_neg y]at e
    exact .inr (.inr ⟨Ne.symm y,Ne.symm z,e⟩)
 have esg:∀ t x,(es++[(one,two)])[t]?=some x↔(es[t]?=some x)∨(t=es.length/\x=(one,two)):=fun t x=>by
  by_cases z:t<es.length
  ·rw[D8 z]
   constructor
   ·exact .inl
   ·rintro(y | y)
    ·exact y
    ·omega
  ·rw[D6 (by omega)]
   constructor
   ·intro y
    have hl:=(DZ.mp y).1
    rw[Ed]at hl
    have ht:t=es.length:=by omega
    subst ht
    rw[EE]at y
    cases y
    exact .inr ⟨rfl,rfl⟩
   ·rintro(y | ⟨y,rfl⟩)
    ·have:=(DZ.mp y).1;omega
    ·rw[y,EE];rfl
 refine⟨by rw[EF,EF];exact w.len,fun e he=>?_,fun p q e=>?_,fun p q e t=>?_⟩
 ·rcases Ee.mp he with z | z
  ·exact w.ends e z
  ·have:e=(one,two):=by simpa using z
   subst this
   exact⟨h1,h2,hn⟩
 ·rcases get p q e with⟨_,rfl⟩ | ⟨_,_,rfl⟩ | ⟨_,_,y⟩
  ·exact As (w.nd two l' e2) (old e2)
  ·exact As (w.nd one l e1) (old e1)
  ·exact w.nd p q y
 ·rcases get p q e with⟨rfl,rfl⟩ | ⟨rfl,np,rfl⟩ | ⟨n1,n2,y⟩
  ·rw[vQ,w.mem p l' e2 t]
   constructor
   ·rintro(z | ⟨x,hx,hp⟩)
    ·exact⟨(one,p),(esg _ _).mpr (.inr ⟨z,rfl⟩),.inr rfl⟩
    ·exact⟨x,(esg _ _).mpr (.inl hx),hp⟩
   ·rintro⟨x,hx,hp⟩
    rcases(esg _ _).mp hx with z | ⟨z,_⟩
    ·exact .inr ⟨x,z,hp⟩
    ·exact .inl z
  ·rw[vQ,w.mem p l e1 t]
   constructor
   ·rintro(z | ⟨x,hx,hp⟩)
    ·exact⟨(p,two),(esg _ _).mpr (.inr ⟨z,rfl⟩),.inl rfl⟩
    ·exact⟨x,(esg _ _).mpr (.inl hx),hp⟩
   ·rintro⟨x,hx,hp⟩
    rcases(esg _ _).mp hx with z | ⟨z,_⟩
    ·exact .inr ⟨x,z,hp⟩
    ·exact .inl z
  ·rw[w.mem p q y t]
   constructor
   ·rintro⟨x,hx,hp⟩
    exact⟨x,(esg _ _).mpr (.inl hx),hp⟩
   ·rintro⟨x,hx,hp⟩
    rcases(esg _ _).mp hx with z | ⟨z,rfl⟩
    ·exact⟨x,z,hp⟩
    ·rcases hp with hp | hp
     ·exact absurd hp.symm n1
     ·exact absurd hp.symm n2
def hd(es:En)(d:Nat):Nat:=match es[d/2]? with | some e=>if d%2=0 then e.2 else e.1 | none=>0
def tl(es:En)(d:Nat):Nat:=match es[d/2]? with | some e=>if d%2=0 then e.1 else e.2 | none=>0
def leave(es:En)(t p:Nat):Nat:=match es[t]? with | some e=>if e.1=p then 2*t else 2*t+1 | none=>0
def nxt(l:List Nat)(t:Nat):Nat:=(l[(l.idxOf t+1)%l.length]?).getD 0
def fol(es:En)(ts:List (List Nat))(d:Nat):Nat:=leave es (nxt ((ts[hd es d]?).getD []) (d/2)) (hd es d)
section
variable{m:Nat}{es:En}{ts:List (List Nat)}
theorem qN{l:List Nat}{t:Nat}(h:t∈l):l[l.idxOf t]?=some t:=by
 have hl:=Gv.mpr h
 rw[D1 hl,List.getElem_idxOf]
theorem gG{l:List Nat}{t:Nat}(h:t∈l):l[(l.idxOf t+1)%l.length]?=some (nxt l t):=by
 have hl:0<l.length:=Fy h
 have:=GQ (l.idxOf t+1) hl
 unfold nxt
 rw[D1 this]
 rfl
theorem aZ.at(w:aZ m es ts){d:Nat}(h:d<2*es.length):∃ e l,es[d/2]?=some e/\hd es d=(if d%2=0 then e.2 else e.1)/\tl es d=(if d%2=0 then e.1 else e.2)/\hd es d<m/\ts[hd es d]?=some l/\d/2∈l:=by
 have hl:d/2<es.length:=by omega
 have e1:es[d/2]?=some es[d/2]:=D1 hl
 have q:=w.ends _ (D4 e1)
 generalize es[d/2]=e at e1 q
 have h1:hd es d=(if d%2=0 then e.2 else e.1):=by unfold hd;rw[e1]
 have h2:tl es d=(if d%2=0 then e.1 else e.2):=by unfold tl;rw[e1]
 have h3:hd es d<m:=by rw[h1];split<;>omega
 have h4:ts[hd es d]?=some (ts[hd es d]'(by rw[w.len];exact h3)):=D1 _
 refine⟨e,_,e1,h1,h2,h3,h4,(w.mem _ _ h4 _).mpr ⟨e,e1,?_⟩⟩
 rw[h1]
 split
 ·exact .inr rfl
 ·exact .inl rfl
theorem aZ.foll(w:aZ m es ts){d:Nat}(h:d<2*es.length):∃ l e,ts[hd es d]?=some l/\d/2∈l/\es[nxt l (d/2)]?=some e/\(e.1=hd es d∨e.2=hd es d)/\e.1≠e.2/\fol es ts d=(if e.1=hd es d then 2*nxt l (d/2) else 2*nxt l (d/2)+1)/\fol es ts d<2*es.length/\fol es ts d/2=nxt l (d/2)/\tl es (fol es ts d)=hd es d:=by
 obtain⟨e0,l,h1,h2,h3,h4,h5,h6⟩:=w.at h
 have hn:=gG h6
 obtain⟨e,he,hp⟩:=(w.mem _ _ h5 _).mp (D4 hn)
 have hlt:=(DZ.mp he).1
 have hne:=(w.ends e (D4 he)).2.2
 have hf:fol es ts d=(if e.1=hd es d then 2*nxt l (d/2) else 2*nxt l (d/2)+1):=by
  unfold fol
  rw[h5]
  show leave es (nxt l (d/2)) (hd es d)=_
  unfold leave
  rw[he]
 refine⟨l,e,h5,h6,he,hp,hne,hf,?_,?_,?_⟩
 ·rw[hf];split<;>omega
 ·rw[hf];split<;>omega
 ·rw[hf]
  by_cases z:e.1=hd es d
  ·have a1:2*nxt l (d/2)/2=nxt l (d/2):=by omega
   have a2:2*nxt l (d/2)%2=0:=by omega
   rw[if_pos z]
   unfold tl
   rw[a1,he]
   show(if 2*nxt l (d/2)%2=0 then e.1 else e.2)=_
   rw[if_pos a2,z]
  ·have a1:(2*nxt l (d/2)+1)/2=nxt l (d/2):=by omega
   have a2:¬ (2*nxt l (d/2)+1)%2=0:=by omega
   rw[if_neg z]
   unfold tl
   rw[a1,he]
   show(if(2*nxt l (d/2)+1)%2=0 then e.1 else e.2)=_
   rw[if_neg a2]
   exact hp.elim (fun y=>absurd y z) id
theorem aZ.inj(w:aZ m es ts){a b:Nat}(ha:a<2*es.length)(hb:b<2*es.length)(h:fol es ts a=fol es ts b):a=b:=by
 obtain⟨l,e,p1,p2,_,_,_,_,_,p3,p4⟩:=w.foll ha
 obtain⟨l',e',q1,q2,_,_,_,_,_,q3,q4⟩:=w.foll hb
 have hh:hd es a=hd es b:=by rw[← p4,← q4,h]
 rw[hh,q1]at p1
 cases p1
 have hx:nxt l (a/2)=nxt l (b/2):=by rw[← p3,← q3,h]
 have g1:=gG p2
 have g2:=gG q2
 rw[hx]at g1
 have ii:=xn (w.nd _ _ q1) g1 g2
 have i1:=Gv.mpr p2
 have i2:=Gv.mpr q2
 have ix:l.idxOf (a/2)=l.idxOf (b/2):=by
  generalize l.idxOf (a/2)=x at *
  generalize l.idxOf (b/2)=y at *
  by_cases z1:x+1=l.length
  ·by_cases z2:y+1=l.length
   ·omega
   ·rw[z1,GL,Fq (by omega)]at ii;omega
  ·by_cases z2:y+1=l.length
   ·rw[z2,GL,Fq (by omega)]at ii;omega
   ·rw[Fq (by omega),Fq (by omega)]at ii;omega
 have ht:a/2=b/2:=by
  have g3:=qN p2
  have g4:=qN q2
  rw[ix,g4]at g3
  exact(Er g3).symm
 obtain⟨e1,_,r1,r2,_,_,_,_⟩:=w.at ha
 obtain⟨e2,_,s1,s2,_,_,_,_⟩:=w.at hb
 rw[ht,s1]at r1
 have ee:e2=e1:=Er r1
 rw[ee]at s1 s2
 have hne:=(w.ends e1 (D4 s1)).2.2
 rw[r2,s2]at hh
 have:a%2=b%2:=by
  by_cases z1:a%2=0<;>by_cases z2:b%2=0
  ·omega
  ·rw[if_pos z1,if_neg z2]at hh;exact absurd hh.symm hne
  ·rw[if_neg z1,if_pos z2]at hh;exact absurd hh hne
  ·omega
 omega
end
structure Be(f:Nat->Nat)(N:Nat):Prop where
 lt:∀ d,d<N->f d<N
 inj:∀ a b,a<N->b<N->f a=f b->a=b
structure Path(f:Nat->Nat)(N first:Nat)(r:List Nat):Prop where
 hd:r[0]?=some first
 lt:∀ d∈r,d<N
 nd:r.Nodup
 nx:∀ i x y,r[i]?=some x->r[i+1]?=some y->y=f x
theorem Bt{f:Nat->Nat}{N d:Nat}(h:d<N):Path f N d [d] where
 hd:=rfl
 lt:=fun x hx=>by have:x=d:=by simpa using hx
                  rw[this];exact h
 nd:=by simp
 nx:=fun i x y h1 h2=>by
  have:=(DZ.mp h2).1
  rw[Ed]at this
  omega
theorem Path.snoc{f:Nat->Nat}{N d x:Nat}{r:List Nat}(p:Be f N)(h:Path f N d (r++[x]))(hn:f x≠d):Path f N d (r++[x]++[f x]) where
 hd:=by rw[D8 (by rw[D2,Ed];omega)];exact h.hd
 lt:=fun y hy=>by
  rcases Ee.mp hy with z | z
  ·exact h.lt y z
  ·have:y=f x:=by simpa using z
   rw[this];exact p.lt x (h.lt x (by simp))
 nd:=by
  refine EB.mpr ⟨h.nd,by simp,fun a ha b hb e=>?_⟩
  have eb:b=f x:=by simpa using hb
  subst eb
  obtain⟨i,hi⟩:=EI.mp ha
  rw[e]at hi
  have hil:=(DZ.mp hi).1
  rw[D2,Ed]at hil
  cases i with
  |zero =>
   rw[h.hd]at hi
   exact hn (Er hi).symm
  |succ i =>
   have gi:(r++[x])[i]?=some ((r++[x])[i]'(by rw[D2,Ed];omega)):=D1 _
   have:=h.nx i _ _ gi hi
   have mi:=h.lt _ (D4 gi)
   have mx:=h.lt x (by simp)
   have e2:=p.inj _ _ mx mi this
   rw[← e2]at gi
   have gx:(r++[x])[r.length]?=some x:=by rw[D6 (Ea _),EE];rfl
   have:=xn h.nd gi gx
   omega
 nx:=fun i a b h1 h2=>by
  have h2l:=(DZ.mp h2).1
  rw[D2,D2,Ed,Ed]at h2l
  rw[D8 (by rw[D2,Ed];omega)]at h1
  by_cases z:i+1<(r++[x]).length
  ·rw[D8 z]at h2
   exact h.nx i a b h1 h2
  ·rw[D2,Ed]at z
   have ei:i=r.length:=by omega
   subst ei
   rw[D6 (by rw[D2,Ed];omega)]at h2
   have:r.length+1-(r++[x]).length=0:=by rw[D2,Ed];omega
   rw[this]at h2
   rw[D6 (Ea _),EE]at h1
   have e1:x=a:=Er h1
   have e2:f x=b:=Er h2
   rw[← e2,e1]
structure Ring(f:Nat->Nat)(N:Nat)(r:List Nat):Prop where
 lt:∀ d∈r,d<N
 nd:r.Nodup
 ne:0<r.length
 nx:∀ i x,r[i]?=some x->r[(i+1)%r.length]?=some (f x)
theorem Path.ring{f:Nat->Nat}{N d x:Nat}{r:List Nat}(p:Be f N)(h:Path f N d (r++[x]))(he:f x=d):Ring f N (r++[x]) where
 lt:=h.lt
 nd:=h.nd
 ne:=by rw[D2,Ed];omega
 nx:=fun i y hy=>by
  have hl:=(DZ.mp hy).1
  by_cases z:i+1=(r++[x]).length
  ·rw[z,GL]
   have:i=r.length:=by rw[D2,Ed]at z;omega
   subst this
   rw[D6 (Ea _),EE]at hy
   have:x=y:=Er hy
   subst this
   rw[he];exact h.hd
  ·have l2:i+1<(r++[x]).length:=by omega
   rw[Fq l2]
   have g:=D1 l2
   rw[g,h.nx i _ _ hy g]
theorem Ring.back{f:Nat->Nat}{N a:Nat}{r:List Nat}(p:Be f N)(h:Ring f N r)(ha:a<N)(hf:f a∈r):a∈r:=by
 obtain⟨i,hi⟩:=EI.mp hf
 have hl:=(DZ.mp hi).1
 have key:∃ j,j<r.length/\(j+1)%r.length=i:=by
  cases i with
  |zero=>exact⟨r.length-1,by have:=h.ne;omega,by have:=h.ne;rw[show r.length-1+1=r.length by omega,GL]⟩
  |succ i=>exact⟨i,by omega,Fq hl⟩
 obtain⟨j,hj,ej⟩:=key
 have g:=D1 hj
 have q:=h.nx j _ g
 rw[ej,hi]at q
 have mj:=h.lt _ (D4 g)
 have:=p.inj _ _ ha mj (Er q)
 rw[this]
 exact D4 g
structure fq(f:Nat->Nat)(N i:Nat)(rs:List (List Nat)):Prop where
 ring:∀ r∈rs,Ring f N r
 hdl:∀ r∈rs,∀ h,r[0]?=some h->h<i/\∀ d∈r,h<=d
 asc:∀(a b:Nat)(r r':List Nat)(h h':Nat),a<b->rs[a]?=some r->rs[b]?=some r'->r[0]?=some h->r'[0]?=some h'->h<h'
 nd:rs.flatten.Nodup
 all:∀ d,d<i->d∈rs.flatten
theorem xW(f:Nat->Nat)(N:Nat):fq f N 0 [] where
 ring:=fun r h=>by cases h
 hdl:=fun r h=>by cases h
 asc:=fun a b r r' h h' _ e=>by cases e
 nd:=by simp
 all:=fun d h=>by omega
theorem fq.skip{f:Nat->Nat}{N i:Nat}{rs:List (List Nat)}(w:fq f N i rs)(h:i∈rs.flatten):fq f N (i+1) rs where
 ring:=w.ring
 hdl:=fun r hr x hx=>⟨by have:=(w.hdl r hr x hx).1;omega,(w.hdl r hr x hx).2⟩
 asc:=w.asc
 nd:=w.nd
 all:=fun d hd=>by
  by_cases z:d=i
  ·rw[z];exact h
  ·exact w.all d (by omega)
theorem fq.put{f:Nat->Nat}{N i:Nat}{rs:List (List Nat)}{r:List Nat}(p:Be f N)(w:fq f N i rs)(h:i∉rs.flatten)(hi:i<N)(hr:Ring f N r)(pa:Path f N i r):fq f N (i+1) (rs++[r]):=by
 have apart:∀(k x:Nat),r[k]?=some x->x∉rs.flatten:=fun k=>by
  induction k with
  |zero =>
   intro x hx
   rw[pa.hd]at hx
   cases hx
   exact h
  |succ k ih =>
   intro x hx z
   have hl:=(DZ.mp hx).1
   have g:=D1 (show k<r.length by omega)
   have e:=pa.nx k _ _ g hx
   obtain⟨q,hq,zq⟩:=EZ.mp z
   rw[e]at zq
   exact ih _ g (EZ.mpr ⟨q,hq,(w.ring q hq).back p (hr.lt _ (D4 g)) zq⟩)
 have least:∀ d∈r,i<=d:=fun d hd=>by
  obtain⟨k,hk⟩:=EI.mp hd
  by_cases z:i<=d
  ·exact z
  ·exact absurd (w.all d (by omega)) (apart k d hk)
 refine⟨fun q hq=>?_,fun q hq x hx=>?_,fun a b q q' x x' hab ha hb hx hx'=>?_,?_,fun d hd=>?_⟩
 ·rcases Ee.mp hq with z | z
  ·exact w.ring q z
  ·have:q=r:=by simpa using z
   rw[this];exact hr
 ·rcases Ee.mp hq with z | z
  ·have:=w.hdl q z x hx
   exact⟨by omega,this.2⟩
  ·have e:q=r:=by simpa using z
   subst e
   rw[pa.hd]at hx
   cases hx
   exact⟨by omega,least⟩
 ·have bl:=(DZ.mp hb).1
  rw[D2,Ed]at bl
  rw[D8 (by omega)]at ha
  by_cases z:b<rs.length
  ·rw[D8 z]at hb
   exact w.asc a b q q' x x' hab ha hb hx hx'
  ·have eb:b=rs.length:=by omega
   subst eb
   rw[D6 (Ea _),EE]at hb
   have e:r=q':=Er hb
   subst e
   rw[pa.hd]at hx'
   cases hx'
   exact(w.hdl q (D4 ha) x hx).1
 ·rw[FP]
  have e : [r].flatten=r:=by simp
  rw[e]
  refine EB.mpr ⟨w.nd,hr.nd,fun a ha b hb e=>?_⟩
  obtain⟨k,hk⟩:=EI.mp hb
  exact apart k b hk (e▸ha)
 ·rw[FP,Ee]
  by_cases z:d=i
  ·right
   rw[z]
   simp
   exact D4 pa.hd
  ·exact .inl (w.all d (by omega))
theorem DE{rs:List (List Nat)}(nd:rs.flatten.Nodup){a b:Nat}{r r':List Nat}{d:Nat}(ha:rs[a]?=some r)(hb:rs[b]?=some r')(h1:d∈r)(h2:d∈r'):a=b:=by
 induction rs generalizing a b with
 |nil=>cases ha
 |cons q rs ih =>
  rw[EC]at nd
  obtain⟨_,n2,n3⟩:=EB.mp nd
  cases a with
  |zero =>
   cases b with
   |zero=>rfl
   |succ b =>
    have e:q=r:=Er ha
    subst e
    exact absurd rfl (n3 d h1 d (EZ.mpr ⟨r',D4 hb,h2⟩))
  |succ a =>
   cases b with
   |zero =>
    have e:q=r':=Er hb
    subst e
    exact absurd rfl (n3 d h2 d (EZ.mpr ⟨r,D4 ha,h1⟩))
   |succ b=>exact congrArg Nat.succ (ih n2 ha hb)
end K8
namespace K8
def fJ(f:Nat->Nat):Nat->List Nat->Nat->Prop
 |x,[],z=>f x=z
 |x,y::l,z=>f x=y/\fJ f y l z
theorem cC{f:Nat->Nat}:∀{x:Nat}{l:List Nat}{y:Nat}{k:List Nat}{z:Nat},fJ f x (l++y::k) z↔fJ f x l y/\fJ f y k z
 |x,[],y,k,z=>Iff.rfl
 |x,a::l,y,k,z=>by
  show(f x=a/\fJ f a (l++y::k) z)↔(f x=a/\fJ f a l y)/\fJ f y k z
  rw[cC,and_assoc]
theorem gj{f g:Nat->Nat}:∀{x y:Nat}{l:List Nat}{z:Nat},fJ f x l z->g y=f x->(∀ t∈l,g t=f t)->fJ g y l z
 |x,y,[],z,h,e,_=>e.trans h
 |x,y,a::l,z,h,e,k=>⟨e.trans h.1,gj h.2 (k a (Eh ..)) fun t ht=>k t (Ef _ ht)⟩
theorem nB{f g F:Nat->Nat}:∀{x:Nat}{l:List Nat}{z:Nat},fJ f x l z->(∀ t∈x::l,g (F t)=F (f t))->fJ g (F x) (l.map F) (F z)
 |x,[],z,h,k=>by
  show g (F x)=F z
  rw[k x (Eh ..),show f x=z from h]
 |x,a::l,z,h,k=>⟨by rw[k x (Eh ..),h.1],nB h.2 fun t ht=>k t (Ef _ ht)⟩
theorem nC{f:Nat->Nat}{S:Nat->Prop}:∀{x:Nat}{l:List Nat}{z:Nat},fJ f x l z->(∀ t∈x::l,S t->S (f t))->S x->S z/\∀ t∈l,S t
 |x,[],z,h,k,s=>⟨by have:=k x (Eh ..) s;rwa[show f x=z from h]at this,fun t ht=>nomatch ht⟩
 |x,a::l,z,h,k,s=>by
  have s1:S a:=by have:=k x (Eh ..) s;rwa[h.1]at this
  obtain⟨h1,h2⟩:=nC h.2 (fun t ht=>k t (Ef _ ht)) s1
  refine⟨h1,fun t ht=>?_⟩
  rcases Ec.mp ht with y | y
  ·rw[y];exact s1
  ·exact h2 t y
structure CR(f:Nat->Nat)(N:Nat)(r:List Nat):Prop where
 ch:∃ x l,r=x::l/\fJ f x l x
 lt:∀ d∈r,d<N
 nd:r.Nodup
theorem CR.closed{f:Nat->Nat}{N:Nat}{r:List Nat}(h:CR f N r):∀ d∈r,f d∈r:=by
 obtain⟨x,l,rfl,c⟩:=h.ch
 intro d hd
 rcases Ec.mp hd with y | y
 ·subst y
  cases l with
  |nil=>rw[show f d=d from c];exact Eh ..
  |cons a l=>rw[c.1];simp
 ·obtain⟨A,B,rfl⟩:=G4 y
  have c2:=(cC.mp c).2
  cases B with
  |nil=>rw[show f d=x from c2];exact Eh ..
  |cons a B=>rw[c2.1];simp
theorem CR.sub{f:Nat->Nat}{N:Nat}{r:List Nat}{S:Nat->Prop}(h:CR f N r)(k:∀ t∈r,S t->S (f t)){d:Nat}(hd:d∈r)(s:S d):∀ t∈r,S t:=by
 obtain⟨x,l,rfl,c⟩:=h.ch
 have fromx:S x->∀ t∈x::l,S t:=fun sx t ht=>by
  rcases Ec.mp ht with y | y
  ·rw[y];exact sx
  ·exact(nC c k sx).2 t y
 rcases Ec.mp hd with y | y
 ·exact fromx (y▸s)
 ·obtain⟨A,B,rfl⟩:=G4 y
  have c2:=(cC.mp c).2
  exact fromx (nC c2 (fun t ht=>k t (by simp only[Ec,Ee]at ht ⊢;rcases ht with z | z<;>simp[z])) s).1
theorem CR.same{f:Nat->Nat}{N:Nat}{r r':List Nat}(h:CR f N r)(h':CR f N r'){d:Nat}(h1:d∈r)(h2:d∈r'):∀ t∈r,t∈r':=h.sub (S:=fun t=>t∈r') (fun t _=>h'.closed t) h1 h2
theorem CR.ne{f:Nat->Nat}{N:Nat}{r:List Nat}(h:CR f N r):∃ d,d∈r:=by
 obtain⟨x,l,rfl,_⟩:=h.ch
 exact⟨x,Eh ..⟩
structure Part(f:Nat->Nat)(N:Nat)(rs:List (List Nat)):Prop where
 cr:∀ r∈rs,CR f N r
 nd:rs.flatten.Nodup
 all:∀ d,d<N->d∈rs.flatten
theorem Part.same:∀{rs qs:List (List Nat)}{f:Nat->Nat}{N:Nat},Part f N rs->Part f N qs->rs.length=qs.length:=by
 have le:∀(k:Nat){rs qs:List (List Nat)}{f:Nat->Nat}{N:Nat},Part f N rs->Part f N qs->rs.length<=qs.length:=by
  intro _ rs qs f N p q
  have g:∀ r∈rs,∃ i,i<qs.length/\∃ r',qs[i]?=some r'/\∀ t∈r',t∈r:=fun r hr=>by
   have c:=p.cr r hr
   obtain⟨d,hd⟩:=c.ne
   obtain⟨r',m1,m2⟩:=EZ.mp (q.all d (c.lt d hd))
   obtain⟨i,hi⟩:=EI.mp m1
   exact⟨i,(DZ.mp hi).1,r',hi,(q.cr r' m1).same c m2 hd⟩
  have:∀(l:List (List Nat)),(∀ r∈l,r∈rs)->l.flatten.Nodup->∃ is:List Nat,is.length=l.length/\is.Nodup/\∀ i∈is,i<qs.length/\∃ r∈l,∃ r',qs[i]?=some r'/\∀ t∈r',t∈r:=fun l=>by
   induction l with
   |nil=>intro _ _;exact⟨[],rfl,Gn,fun i hi=>nomatch hi⟩
   |cons r l ih =>
    intro h nd
    rw[EC]at nd
    obtain⟨n1,n2,n3⟩:=EB.mp nd
    obtain⟨is,e1,e2,e3⟩:=ih (fun r hr=>h r (Ef _ hr)) n2
    obtain⟨i,h1,r',h2,h3⟩:=g r (h r (Eh ..))
    refine⟨i::is,by simp[e1],Ek.mpr ⟨fun z=>?_,e2⟩,fun j hj=>?_⟩
    ·obtain⟨_,r2,m2,r3,m3,m4⟩:=e3 i z
     rw[h2]at m3
     cases m3
     obtain⟨d,hd⟩:=(q.cr r' (D4 h2)).ne
     exact n3 d (h3 d hd) d (EZ.mpr ⟨r2,m2,m4 d hd⟩) rfl
    ·rcases Ec.mp hj with z | z
     ·subst z;exact⟨h1,r,Eh ..,r',h2,h3⟩
     ·obtain⟨k1,r2,k2,k3⟩:=e3 j z
      exact⟨k1,r2,Ef _ k2,k3⟩
  obtain⟨is,e1,e2,e3⟩:=this rs (fun _ h=>h) p.nd
  rw[← e1]
  exact eP e2 fun i hi=>(e3 i hi).1
 intro rs qs f N p q
 exact Nat.le_antisymm (le 0 p q) (le 0 q p)
theorem Ring.cr{f:Nat->Nat}{N:Nat}{r:List Nat}(h:Ring f N r):CR f N r:=by
 refine⟨?_,h.lt,h.nd⟩
 have ne:=h.ne
 match r,h,ne with
 |x::l,h,_ =>
  refine⟨x,l,rfl,?_⟩
  have key:∀(k i:Nat)(y:Nat),i+k+1=(x::l).length->(x::l)[i]?=some y->fJ f y ((x::l).drop (i+1)) x:=fun k=>by
   induction k with
   |zero =>
    intro i y hi hy
    have e:=h.nx i y hy
    rw[show(i+1)%(x::l).length=0 by rw[← hi];simp]at e
    rw[List.drop_of_length_le (by omega)]
    exact(Er e).symm
   |succ k ih =>
    intro i y hi hy
    have e:=h.nx i y hy
    rw[Fq (by omega)]at e
    obtain⟨hl,e2⟩:=DZ.mp e
    rw[Fi hl,e2]
    exact⟨rfl,ih (i+1) (f y) (by omega) e⟩
  exact key l.length 0 x (by simp) rfl
theorem fq.part{f:Nat->Nat}{N:Nat}{rs:List (List Nat)}(w:fq f N N rs):Part f N rs:=⟨fun r hr=>(w.ring r hr).cr,w.nd,w.all⟩
end K8
namespace K8
theorem sW{A B:List Nat}{t:Nat}(h:t∉A):(A++t::B).idxOf t=A.length:=by
 rw[List.idxOf_append,if_neg h,List.idxOf_cons_self,Nat.zero_add]
theorem bj{A B:List Nat}{t:Nat}(h:t∉A):nxt (A++t::B) t=((B++(A++t::B)).head?).getD 0:=by
 unfold nxt
 rw[sW h]
 cases B with
 |nil =>
  have e:(A.length+1)%(A++[t]).length=0:=by rw[D2,Ed,GL]
  rw[e,Hq,List.head?_eq_getElem?]
 |cons b B =>
  have e:(A.length+1)%(A++t::b::B).length=A.length+1:=Fq (by simp)
  rw[e,D6 (by omega)]
  rw[show A.length+1-A.length=1 by omega]
  rfl
theorem Ar{A B:List Nat}{u n:Nat}(h:u∉A):ins (A++u::B) ((A++u::B).idxOf u+1) n=A++u::n::B:=by
 rw[sW h]
 unfold ins
 have e1:(A++u::B).take (A.length+1)=A++[u]:=by
  rw[List.take_append,EM (by omega),show A.length+1-A.length=1 by omega]
  rfl
 have e2:(A++u::B).drop (A.length+1)=B:=by simp
 rw[e1,e2]
 simp
theorem fP{l:List Nat}{u:Nat}(h:u∈l):∃ A B,l=A++u::B/\u∉A:=by
 induction l with
 |nil=>exact nomatch h
 |cons a l ih =>
  by_cases z:a=u
  ·subst z;exact⟨[],l,rfl,List.not_mem_nil⟩
  ·rcases Ec.mp h with y | y
   ·exact absurd y.symm z
   ·obtain⟨A,B,rfl,k⟩:=ih y
    exact⟨a::A,B,rfl,fun w=>by rcases Ec.mp w with w | w;exact z w.symm;exact k w⟩
theorem Dw{l:List Nat}{u n:Nat}(hu:u∈l)(hn:n∉l) :
  nxt (ins l (l.idxOf u+1) n) u=n/\nxt (ins l (l.idxOf u+1) n) n=nxt l u/\∀ t∈l,t≠u->nxt (ins l (l.idxOf u+1) n) t=nxt l t:=by
 obtain⟨A,B,rfl,k⟩:=fP hu
 rw[Ar k]
 have hnA:n∉A:=fun z=>hn (by simp[z])
 have hnu:n≠u:=fun z=>hn (by simp[z])
 refine⟨?_,?_,fun t ht htu=>?_⟩
 ·rw[bj k];rfl
 ·have e:A++u::n::B=(A++[u])++n::B:=by simp
  rw[e,bj (fun z=>by rcases Ee.mp z with z | z;exact hnA z;exact hnu (by simpa using z)),bj k]
  cases B<;>cases A<;>rfl
 ·rcases Ee.mp ht with z | z
  ·obtain⟨A1,A2,rfl,k2⟩:=fP z
   have e1:(A1++t::A2)++u::n::B=A1++t::(A2++u::n::B):=by simp
   have e2:(A1++t::A2)++u::B=A1++t::(A2++u::B):=by simp
   rw[e1,e2,bj k2,bj k2]
   cases A2<;>rfl
  ·have z':t∈B:=by
    rcases Ec.mp z with z | z
    ·exact absurd z htu
    ·exact z
   by_cases tA:t∈A
   ·obtain⟨A1,A2,rfl,k2⟩:=fP tA
    have e1:(A1++t::A2)++u::n::B=A1++t::(A2++u::n::B):=by simp
    have e2:(A1++t::A2)++u::B=A1++t::(A2++u::B):=by simp
    rw[e1,e2,bj k2,bj k2]
    cases A2<;>rfl
   ·obtain⟨B1,B2,rfl,k2⟩:=fP z'
    have tn:t≠n:=fun y=>hn (by rw[← y];simp)
    have e1:A++u::n::(B1++t::B2)=(A++u::n::B1)++t::B2:=by simp
    have e2:A++u::(B1++t::B2)=(A++u::B1)++t::B2:=by simp
    rw[e1,e2,bj (by simp[tA,htu,tn,k2]),bj (by simp[tA,htu,k2])]
    cases B2<;>cases A<;>rfl
theorem mR{es:En}{e:Nat×Nat}{t p:Nat}(h:t<es.length):leave (es++[e]) t p=leave es t p:=by
 unfold leave
 rw[D8 h]
theorem sO{es:En}{e:Nat×Nat}{p:Nat}:leave (es++[e]) es.length p=if e.1=p then 2*es.length else 2*es.length+1:=by
 unfold leave
 rw[D6 (Ea _),EE]
 rfl
theorem o9{es:En}{e:Nat×Nat}{d:Nat}(h:d<2*es.length):hd (es++[e]) d=hd es d:=by
 unfold hd
 rw[D8 (by omega)]
theorem hd_new{es:En}{e:Nat×Nat}:hd (es++[e]) (2*es.length)=e.2/\hd (es++[e]) (2*es.length+1)=e.1:=by
 have e1:2*es.length/2=es.length:=by omega
 have e2:(2*es.length+1)/2=es.length:=by omega
 constructor
 ·unfold hd
  rw[e1,D6 (Ea _),EE]
  show(if 2*es.length%2=0 then e.2 else e.1)=_
  rw[if_pos (by omega)]
 ·unfold hd
  rw[e2,D6 (Ea _),EE]
  show(if(2*es.length+1)%2=0 then e.2 else e.1)=_
  rw[if_neg (by omega)]
theorem hd_inj{m:Nat}{es:En}{ts:List (List Nat)}(w:aZ m es ts){a b:Nat}(ha:a<2*es.length)(hb:b<2*es.length)(h:hd es a=hd es b)(h2:a/2=b/2):a=b:=by
 obtain⟨e1,_,r1,r2,_⟩:=w.at ha
 obtain⟨e2,_,s1,s2,_⟩:=w.at hb
 rw[h2,s1]at r1
 cases r1
 have hne:=(w.ends e1 (D4 s1)).2.2
 rw[r2,s2]at h
 by_cases z1:a%2=0<;>by_cases z2:b%2=0
 ·omega
 ·rw[if_pos z1,if_neg z2]at h;exact absurd h.symm hne
 ·rw[if_neg z1,if_pos z2]at h;exact absurd h hne
 ·omega
def bp(n:Nat)(e:Nat×Nat)(p:Nat):Nat:=if e.1=p then 2*n else 2*n+1
theorem dO{es:En}{ts:List (List Nat)}{d:Nat}{l:List Nat}(h:ts[hd es d]?=some l):fol es ts d=leave es (nxt l (d/2)) (hd es d):=by
 unfold fol
 rw[h]
 rfl
end K8
namespace K8
theorem aZ.flip{m:Nat}{es:En}{ts:List (List Nat)}{a b:Nat}(w:aZ m (es++[(a,b)]) ts):aZ m (es++[(b,a)]) ts:=by
 have key:∀(x y:Nat)(t p:Nat),(∃ e,(es++[(x,y)])[t]?=some e/\(e.1=p∨e.2=p))->∃ e,(es++[(y,x)])[t]?=some e/\(e.1=p∨e.2=p):=fun x y t p=>by
  rintro⟨e,h1,h2⟩
  by_cases z:t<es.length
  ·rw[D8 z]at h1
   exact⟨e,by rw[D8 z];exact h1,h2⟩
  ·have hl:=(DZ.mp h1).1
   rw[D2,Ed]at hl
   have z':t=es.length:=by omega
   subst z'
   rw[D6 (Ea _),EE]at h1
   cases h1
   exact⟨(y,x),by rw[D6 (Ea _),EE];rfl,h2.symm⟩
 refine⟨w.len,fun e he=>?_,w.nd,fun p l h t=>⟨fun z=>key a b t p ((w.mem p l h t).mp z),fun z=>(w.mem p l h t).mpr (key b a t p z)⟩⟩
 rcases Ee.mp he with z | z
 ·exact w.ends e (E1 _ z)
 ·have:e=(b,a):=by simpa using z
  subst this
  obtain⟨h1,h2,h3⟩:=w.ends (a,b) (by simp)
  exact⟨h2,h1,fun y=>h3 y.symm⟩
theorem aZ.room{m:Nat}{es:En}{ts:List (List Nat)}(w:aZ m es ts):aZ (m+1) es (ts++[[]]):=by
 refine⟨by rw[D2,w.len];rfl,fun e he=>?_,fun p l h=>?_,fun p l h t=>?_⟩
 ·obtain⟨h1,h2,h3⟩:=w.ends e he
  exact⟨by omega,by omega,h3⟩
 all_goals by_cases z:p<ts.length
 ·rw[D8 z]at h
  exact w.nd p l h
 ·have hl:=(DZ.mp h).1
  rw[D2,Ed]at hl
  have z':p=ts.length:=by omega
  subst z'
  rw[D6 (Ea _),EE]at h
  cases h
  exact Gn
 ·rw[D8 z]at h
  exact w.mem p l h t
 ·have hl:=(DZ.mp h).1
  rw[D2,Ed]at hl
  have z':p=ts.length:=by omega
  subst z'
  rw[D6 (Ea _),EE]at h
  cases h
  refine⟨(fun y=>nomatch y),?_⟩
  rintro⟨e,h1,h2⟩
  obtain⟨k1,k2,_⟩:=w.ends e (D4 h1)
  have:=w.len
  omega
theorem DP{m:Nat}{es:En}{ts:List (List Nat)}(w:aZ m es ts){p:Nat}{l:List Nat}(h:ts[p]?=some l):es.length∉l:=fun z=>by
 obtain⟨x,hx,_⟩:=(w.mem p l h es.length).mp z
 have:=(DZ.mp hx).1
 omega
theorem nh{m:Nat}{es:En}{ts ts':List (List Nat)}{e:Nat×Nat}{p u:Nat}{l:List Nat}(w:aZ m es ts)(hl:ts[p]?=some l)(hu:u<2*es.length)(hp:hd es u=p)(hl':ts'[p]?=some (ins l (l.idxOf (u/2)+1) es.length)) :
  fol (es++[e]) ts' u=bp es.length e p/\(∀ b,b/2=es.length->hd (es++[e]) b=p->fol (es++[e]) ts' b=fol es ts u)/\∀ d,d<2*es.length->d≠u->hd es d=p->fol (es++[e]) ts' d=fol es ts d:=by
 obtain⟨_,l0,_,_,_,_,g5,g6⟩:=w.at hu
 rw[hp,hl]at g5
 cases g5
 have nn:=DP w hl
 obtain⟨n1,n2,n3⟩:=Dw g6 nn
 have lt:∀ t∈l,nxt l t<es.length:=fun t ht=>by
  obtain⟨x,hx,_⟩:=(w.mem p l hl (nxt l t)).mp (D4 (gG ht))
  exact(DZ.mp hx).1
 refine⟨?_,fun b hb hpb=>?_,fun d hd' hne hpd=>?_⟩
 ·rw[dO (l:=ins l (l.idxOf (u/2)+1) es.length) (by rw[o9 hu,hp];exact hl'),n1,o9 hu,hp,sO]
  rfl
 ·rw[dO (l:=ins l (l.idxOf (u/2)+1) es.length) (by rw[hpb];exact hl'),hb,n2,hpb,mR (lt _ g6),dO (l:=l) (by rw[hp];exact hl),hp]
 ·obtain⟨_,l0,_,_,_,_,k5,k6⟩:=w.at hd'
  rw[hpd,hl]at k5
  cases k5
  have tne:d/2≠u/2:=fun z=>hne (hd_inj w hd' hu (hpd.trans hp.symm) z)
  rw[dO (l:=ins l (l.idxOf (u/2)+1) es.length) (by rw[o9 hd',hpd];exact hl'),n3 _ k6 tne,o9 hd',hpd,mR (lt _ k6),dO (l:=l) (by rw[hpd];exact hl),hpd]
theorem qO{m:Nat}{es:En}{ts ts':List (List Nat)}{e:Nat×Nat}(w:aZ m es ts){d:Nat}(hd':d<2*es.length)(h:ts'[hd es d]?=ts[hd es d]?):fol (es++[e]) ts' d=fol es ts d:=by
 obtain⟨_,l,_,_,_,_,k5,k6⟩:=w.at hd'
 have lt:nxt l (d/2)<es.length:=by
  obtain⟨x,hx,_⟩:=(w.mem _ l k5 (nxt l (d/2))).mp (D4 (gG k6))
  exact(DZ.mp hx).1
 rw[dO (l:=l) (by rw[o9 hd',h];exact k5),o9 hd',mR lt,dO k5]
theorem bu(n:Nat)(e:Nat×Nat)(p:Nat):bp n e p/2=n:=by
 unfold bp
 split<;>omega
theorem me{es:En}{one two:Nat}{e:Nat×Nat}(hne:one≠two)(he:e=(one,two)∨e=(two,one)):hd (es++[e]) (bp es.length e one)=two/\hd (es++[e]) (bp es.length e two)=one/\bp es.length e one≠bp es.length e two/\∀ d,d<2*(es.length+1)->d<2*es.length∨d=bp es.length e one∨d=bp es.length e two:=by
 obtain⟨h1,h2⟩:=hd_new (es:=es) (e:=e)
 unfold bp
 rcases he with he | he
 ·have c1:e.1=one:=by rw[he]
  have c2:¬ e.1=two:=by rw[he];exact hne
  have c3:e.2=two:=by rw[he]
  rw[if_pos c1,if_neg c2,h1,h2]
  exact⟨c3,c1,by omega,fun d hd=>by omega⟩
 ·have c1:e.1=two:=by rw[he]
  have c2:¬ e.1=one:=by rw[he];exact fun z=>hne z.symm
  have c3:e.2=one:=by rw[he]
  rw[if_pos c1,if_neg c2,h1,h2]
  exact⟨c1,c3,by omega,fun d hd=>by omega⟩
structure Gr(m:Nat)(es:En)(ts:List (List Nat)):Prop where
 w:aZ m es ts
 conn:∀ S:Nat->Prop,(∀ e∈es,S e.1↔S e.2)->∀ p q,p<m->q<m->S p->S q
 mb:m<=es.length+1
theorem Cp{m:Nat}{es:En}{ts:List (List Nat)}(g:Gr m es ts):m<=es.length+1:=g.mb
theorem CR.mono{f g:Nat->Nat}{N M:Nat}{r:List Nat}(h:CR f N r)(hN:N<=M)(k:∀ t∈r,g t=f t):CR g M r:=by
 obtain⟨x,l,rfl,c⟩:=h.ch
 exact⟨⟨x,l,rfl,gj c (k x (Eh ..)) fun t ht=>k t (Ef _ ht)⟩,fun d hd=>EL (h.lt d hd) hN,h.nd⟩
theorem xH{m:Nat}{es:En}{e:Nat×Nat}(c:∀ S:Nat->Prop,(∀ e∈es,S e.1↔S e.2)->∀ p q,p<m->q<m->S p->S q):∀ S:Nat->Prop,(∀ x∈es++[e],S x.1↔S x.2)->∀ p q,p<m->q<m->S p->S q :=
 fun S h=>c S fun x hx=>h x (E1 _ hx)
theorem Gr.join{m:Nat}{es:En}{ts:List (List Nat)}(g:Gr m es ts){left right one two:Nat}{e:Nat×Nat}{l l' tail:List Nat}(hl:left<2*es.length)(hr:CR (fol es ts) (2*es.length) (left::tail))(hch:fJ (fol es ts) left tail left)(hm:right∈left::tail)
  (h1:hd es left=one) (h2:hd es right=two) (hne:one≠two) (he:e=(one,two)∨e=(two,one)) (e1:ts[one]?=some l) (e2:ts[two]?=some l') :
  Gr m (es++[e]) ((ts.set one (ins l (l.idxOf (left/2)+1) es.length)).set two (ins l' (l'.idxOf (right/2)+1) es.length)):=by
 have w:=g.w
 have hlen:=w.len
 have o1:one<m:=by rw[← hlen];exact(DZ.mp e1).1
 have o2:two<m:=by rw[← hlen];exact(DZ.mp e2).1
 have W:aZ m (es++[e]) ((ts.set one (ins l (l.idxOf (left/2)+1) es.length)).set two (ins l' (l'.idxOf (right/2)+1) es.length)):=by
  rcases he with rfl | rfl
  ·exact w.put o1 o2 hne e1 e2
  ·exact(w.put o1 o2 hne e1 e2).flip
 exact⟨W,xH g.conn,by have:=g.mb;rw[D2];exact G8 this⟩
theorem Gr.leaf{m:Nat}{es:En}{ts:List (List Nat)}(g:Gr m es ts){left one:Nat}{e:Nat×Nat}{l tail:List Nat}(hl:left<2*es.length)(hr:CR (fol es ts) (2*es.length) (left::tail))(hch:fJ (fol es ts) left tail left)
  (h1:hd es left=one) (he:e=(one,m)∨e=(m,one)) (e1:ts[one]?=some l) :
  Gr (m+1) (es++[e]) (ts.set one (ins l (l.idxOf (left/2)+1) es.length)++[[es.length]]):=by
 have w:=g.w
 have hlen:=w.len
 have o1:one<m:=by rw[← hlen];exact(DZ.mp e1).1
 have hne:one≠m:=by omega
 have W:aZ (m+1) (es++[e]) (ts.set one (ins l (l.idxOf (left/2)+1) es.length)++[[es.length]]):=by
  have q:=w.room.put (one:=one) (two:=m) (k:=l.idxOf (left/2)+1) (j:=0) (l:=l) (l':=[]) (by omega) (by omega) hne (by rw[D8 (by omega)];exact e1) (by rw[D6 (by omega),hlen,EE];rfl)
  have q2:((ts++[[]]).set one (ins l (l.idxOf (left/2)+1) es.length)).set m (ins [] 0 es.length)=ts.set one (ins l (l.idxOf (left/2)+1) es.length)++[[es.length]]:=by
   rw[GU _ _ (by omega),GN _ _ (by rw[EF];omega),EF,hlen,EE]
   rfl
  rw[q2]at q
  rcases he with rfl | rfl
  ·exact q
  ·exact q.flip
 refine⟨W,fun S hS p q hp hq sp=>?_,by have:=g.mb;rw[D2];exact Nat.succ_le_succ this⟩
 have old:=g.conn S fun x hx=>hS x (E1 _ hx)
 have nw:S one↔S m:=by
  have:=hS e (EJ _ (E6.mpr rfl))
  rcases he with rfl | rfl
  ·exact this
  ·exact this.symm
 have s1:S one:=by
  by_cases c:p=m
  ·subst c;exact nw.mpr sp
  ·exact old p one (by omega) o1 sp
 by_cases c:q=m
 ·subst c;exact nw.mp s1
 ·exact old one q o1 (by omega) s1
theorem gr_two:Gr 2 [(0,1)] [[0],[0]]:=by
 have W:aZ 2 [(0,1)] [[0],[0]]:=by
  refine⟨rfl,fun e he=>?_,fun p l h=>?_,fun p l h t=>?_⟩
  ·have:e=(0,1):=by simpa using he
   subst this
   exact⟨by decide,by decide,by decide⟩
  ·match p,h with
   |0,h=>cases h;decide
   |1,h=>cases h;decide
   |p+2,h=>cases h
  ·have key:(∃ e,([(0,1)]:En)[t]?=some e/\(e.1=p∨e.2=p))↔t=0/\(p=0∨p=1):=by
    constructor
    ·rintro⟨e,h1,h2⟩
     match t,h1 with
     |0,h1=>cases h1;exact⟨rfl,h2.imp Eq.symm Eq.symm⟩
     |t+1,h1=>cases h1
    ·rintro⟨rfl,h2⟩
     exact⟨(0,1),rfl,h2.imp Eq.symm Eq.symm⟩
   rw[key]
   match p,h with
   |0,h=>cases h;simp
   |1,h=>cases h;simp
   |p+2,h=>cases h
 refine⟨W,fun S hS p q hp hq sp=>?_,by decide⟩
 have h01:S 0↔S 1:=hS (0,1) (by simp)
 have hp':p=0∨p=1:=by omega
 have hq':q=0∨q=1:=by omega
 rcases hp' with rfl | rfl<;>rcases hq' with rfl | rfl
 ·exact sp
 ·exact h01.mp sp
 ·exact h01.mpr sp
 ·exact sp
end K8
namespace K8
structure Bij(F:Nat->Nat)(n:Nat):Prop where
 lt:∀ k,k<n->F k<n
 inj:∀ a b,a<n->b<n->F a=F b->a=b
 sur:∀ y,y<n->∃ k,k<n/\F k=y
def ofL(o:List Nat)(k:Nat):Nat:=(o[k]?).getD 0
theorem xJ{o:List Nat}{n:Nat}(hl:o.length=n)(nd:o.Nodup)(h:∀ x∈o,x<n):Bij (ofL o) n:=by
 have get:∀ k,k<n->o[k]?=some (ofL o k):=fun k hk=>by
  unfold ofL
  rw[D1 (by omega)]
  rfl
 refine⟨fun k hk=>h _ (D4 (get k hk)),fun a b ha hb e=>xn nd (get a ha) (by rw[get b hb,e]),fun y hy=>?_⟩
 have hm:y∈o:=by
  by_cases z:y∈o
  ·exact z
  ·have:=eP (a:=y::o) (N:=n) (Ek.mpr ⟨z,nd⟩) fun x hx=>by
    rcases Ec.mp hx with u | u
    ·omega
    ·exact h x u
   rw[ET]at this
   omega
 obtain⟨k,hk⟩:=EI.mp hm
 have hkl:=(DZ.mp hk).1
 refine⟨k,by omega,?_⟩
 have:=get k (by omega)
 rw[hk]at this
 exact(Er this).symm
theorem mL{F:Nat->Nat}:∀{l:List Nat},l.Nodup->(∀ x∈l,∀ y∈l,F x=F y->x=y)->(l.map F).Nodup
 |[],_,_=>Gn
 |a::l,nd,h=>by
  obtain⟨n1,n2⟩:=Ek.mp nd
  refine Ek.mpr ⟨fun z=>?_,mL n2 fun x hx y hy=>h x (Ef _ hx) y (Ef _ hy)⟩
  obtain⟨x,hx,e⟩:=EW.mp z
  have:=h x (Ef _ hx) a (Eh ..) e
  exact n1 (this▸hx)
theorem Dv{F:Nat->Nat}{l:List Nat}{t:Nat}(ht:t∈l)(h:∀ x∈l,F x=F t->x=t):nxt (l.map F) (F t)=F (nxt l t):=by
 obtain⟨A,B,rfl,k⟩:=fP ht
 have k2:F t∉A.map F:=fun z=>by
  obtain⟨x,hx,e⟩:=EW.mp z
  exact k (h x (by simp[hx]) e▸hx)
 rw[EX,EU,bj k2,bj k]
 cases B<;>cases A<;>rfl
theorem Du{X Y:List Nat}{t:Nat}(nd:(X++Y).Nodup)(ht:t∈X++Y):nxt (Y++X) t=nxt (X++Y) t:=by
 obtain⟨n1,n2,n3⟩:=EB.mp nd
 rcases Ee.mp ht with z | z
 ·have tY:t∉Y:=fun y=>n3 t z t y rfl
  obtain⟨A,B,rfl,k⟩:=fP z
  have e1:Y++(A++t::B)=(Y++A)++t::B:=by simp
  have e2:(A++t::B)++Y=A++t::(B++Y):=by simp
  rw[e1,e2,bj (by simp[tY,k]),bj k]
  cases B<;>cases Y<;>cases A<;>rfl
 ·have tX:t∉X:=fun y=>n3 t y t z rfl
  obtain⟨A,B,rfl,k⟩:=fP z
  have e1:(A++t::B)++X=A++t::(B++X):=by simp
  have e2:X++(A++t::B)=(X++A)++t::B:=by simp
  rw[e1,e2,bj k,bj (by simp[tX,k])]
  cases B<;>cases X<;>cases A<;>rfl
structure Ren(m:Nat)(es es2:En)(ts ts2:List (List Nat))(π σ:Nat->Nat):Prop where
 pi:Bij π m
 si:Bij σ es.length
 l1:es2.length=es.length
 l2:ts2.length=m
 es:∀(k:Nat)(e:Nat×Nat),es[k]?=some e->es2[σ k]?=some (π e.1,π e.2)
 ts:∀(p:Nat)(l:List Nat),ts[p]?=some l->∃ X Y,l=X++Y/\ts2[π p]?=some ((Y++X).map σ)
section
variable{m:Nat}{es es2:En}{ts ts2:List (List Nat)}{π σ:Nat->Nat}
theorem Ren.es'(R:Ren m es es2 ts ts2 π σ){j:Nat}{x:Nat×Nat}(h:es2[j]?=some x):∃ k e,σ k=j/\es[k]?=some e/\x=(π e.1,π e.2):=by
 have hj:=(DZ.mp h).1
 rw[R.l1]at hj
 obtain⟨k,hk,rfl⟩:=R.si.sur j hj
 have e1:es[k]?=some es[k]:=D1 hk
 have:=R.es k _ e1
 rw[h]at this
 exact⟨k,_,rfl,e1,Er this⟩
theorem Ren.ts'(R:Ren m es es2 ts ts2 π σ)(w:aZ m es ts){j:Nat}{L:List Nat}(h:ts2[j]?=some L):∃ p l X Y,p<m/\π p=j/\ts[p]?=some l/\l=X++Y/\L=(Y++X).map σ:=by
 have hj:=(DZ.mp h).1
 rw[R.l2]at hj
 obtain⟨p,hp,rfl⟩:=R.pi.sur j hj
 have e1:ts[p]?=some (ts[p]'(by rw[w.len];exact hp)):=D1 _
 obtain⟨X,Y,h1,h2⟩:=R.ts p _ e1
 rw[h]at h2
 exact⟨p,_,X,Y,hp,rfl,e1,h1,Er h2⟩
theorem jI(w:aZ m es ts){p:Nat}{l:List Nat}(h:ts[p]?=some l){t:Nat}(ht:t∈l):t<es.length:=by
 obtain⟨x,hx,_⟩:=(w.mem p l h t).mp ht
 exact(DZ.mp hx).1
theorem Ren.turn(R:Ren m es es2 ts ts2 π σ)(w:aZ m es ts):aZ m es2 ts2:=by
 refine⟨R.l2,fun x hx=>?_,fun j L h=>?_,fun j L h t=>?_⟩
 ·obtain⟨j,hj⟩:=EI.mp hx
  obtain⟨k,e,_,h1,rfl⟩:=R.es' hj
  obtain⟨a1,a2,a3⟩:=w.ends e (D4 h1)
  exact⟨R.pi.lt _ a1,R.pi.lt _ a2,fun z=>a3 (R.pi.inj _ _ a1 a2 z)⟩
 ·obtain⟨p,l,X,Y,hp,rfl,h1,rfl,rfl⟩:=R.ts' w h
  have nd:=w.nd p _ h1
  obtain⟨n1,n2,n3⟩:=EB.mp nd
  refine mL (EB.mpr ⟨n2,n1,fun a ha b hb z=>n3 b hb a ha z.symm⟩) fun x hx y hy=>R.si.inj x y (jI w h1 ?_) (jI w h1 ?_)
  ·simp only[Ee]at hx ⊢;exact hx.symm
  ·simp only[Ee]at hy ⊢;exact hy.symm
 ·obtain⟨p,l,X,Y,hp,rfl,h1,rfl,rfl⟩:=R.ts' w h
  constructor
  ·intro z
   obtain⟨k,hk,rfl⟩:=EW.mp z
   obtain⟨e,h2,h3⟩:=(w.mem p _ h1 k).mp (by simp only[Ee]at hk ⊢;exact hk.symm)
   exact⟨_,R.es k e h2,h3.imp (congrArg π) (congrArg π)⟩
  ·rintro⟨x,h2,h3⟩
   obtain⟨k,e,rfl,h4,rfl⟩:=R.es' h2
   obtain⟨a1,a2,a3⟩:=w.ends e (D4 h4)
   have hk:=(w.mem p _ h1 k).mpr ⟨e,h4,h3.imp (R.pi.inj _ _ a1 hp) (R.pi.inj _ _ a2 hp)⟩
   exact EW.mpr ⟨k,by simp only[Ee]at hk ⊢;exact hk.symm,rfl⟩
def Phi(σ:Nat->Nat)(d:Nat):Nat:=2*σ (d/2)+d%2
theorem mh(d:Nat):Phi σ d/2=σ (d/2):=by unfold Phi;omega
theorem Ren.hd(R:Ren m es es2 ts ts2 π σ){d:Nat}(hd':d<2*es.length):hd es2 (Phi σ d)=π (hd es d):=by
 have e1:es[d/2]?=some (es[d/2]'(by omega)):=D1 _
 have e2:=R.es _ _ e1
 unfold K8.hd
 rw[mh,e1,e2]
 have hm:Phi σ d%2=d%2:=by unfold Phi;omega
 show(if Phi σ d%2=0 then π es[d/2].2 else π es[d/2].1)=π (if d%2=0 then es[d/2].2 else es[d/2].1)
 rw[hm]
 split<;>rfl
theorem Ren.fol(R:Ren m es es2 ts ts2 π σ)(w:aZ m es ts){d:Nat}(hd':d<2*es.length):fol es2 ts2 (Phi σ d)=Phi σ (fol es ts d):=by
 obtain⟨_,l,_,_,_,k4,k5,k6⟩:=w.at hd'
 obtain⟨X,Y,rfl,h2⟩:=R.ts _ _ k5
 have nd:=w.nd _ _ k5
 rw[dO (l:=(Y++X).map σ) (by rw[R.hd hd'];exact h2),dO k5,mh,R.hd hd']
 have k7:d/2∈Y++X:=by simp only[Ee]at k6 ⊢;exact k6.symm
 rw[Dv k7 fun x hx=>R.si.inj x _ (jI w k5 (by simp only[Ee]at hx ⊢;exact hx.symm)) (jI w k5 k6),Du nd k6]
 have hn:=D4 (gG k6)
 have hlt:=jI w k5 hn
 generalize nxt (X++Y) (d/2)=t at hlt
 have e1:es[t]?=some es[t]:=D1 hlt
 have a1:=(w.ends _ (D4 e1)).1
 unfold leave
 rw[R.es _ _ e1,e1]
 show(if π es[t].1=π (K8.hd es d) then 2*σ t else 2*σ t+1)=Phi σ (if es[t].1=K8.hd es d then 2*t else 2*t+1)
 by_cases z:es[t].1=K8.hd es d
 ·rw[if_pos z,if_pos (congrArg π z)]
  unfold Phi
  rw[show 2*t/2=t by omega]
  omega
 ·rw[if_neg z,if_neg (fun y=>z (R.pi.inj _ _ a1 k4 y))]
  unfold Phi
  rw[show(2*t+1)/2=t by omega]
  omega
theorem Bd(b:Bij σ es.length){x y:Nat}(hx:x<2*es.length)(hy:y<2*es.length)(e:Phi σ x=Phi σ y):x=y:=by
 have e1:σ (x/2)=σ (y/2):=by
  have h1:=mh (σ:=σ) x
  have h2:=mh (σ:=σ) y
  rw[e]at h1
  exact h1.symm.trans h2
 have:=b.inj _ _ (by omega) (by omega) e1
 unfold Phi at e
 omega
theorem Ren.gr(R:Ren m es es2 ts ts2 π σ)(g:Gr m es ts):Gr m es2 ts2:=by
 refine⟨R.turn g.w,fun S hS x y hx hy sx=>?_,by rw[R.l1];exact g.mb⟩
 obtain⟨x',hx',rfl⟩:=R.pi.sur x hx
 obtain⟨y',hy',rfl⟩:=R.pi.sur y hy
 refine g.conn (fun p=>S (π p)) (fun e he=>?_) x' y' hx' hy' sx
 obtain⟨k,hk⟩:=EI.mp he
 exact hS (π e.1,π e.2) (D4 (R.es k e hk))
end
end K8
namespace K8
open PySem L2
local macro_rules | `(tactic| walk_at "cc") => `(tactic| first | exact ⟨by decide, by decide⟩ | (show (0 : Int) < _; decide) | (show (0 : Int) < _; omega) | (show (0 : Int) ≤ _; omega) | exact ⟨by decide, by decide, by decide⟩ | exact ⟨by omega, by omega, by decide⟩ | exact Or.inl ⟨by decide, by decide⟩ | exact Or.inl ⟨by omega, by omega⟩)
local macro_rules | `(tactic| walk_at "rd") => `(tactic| repeat (first | refine ⟨_, rfl, ?_⟩ | refine ⟨_, _, rfl, rfl, ?_⟩ | refine ⟨rfl, ?_⟩ | (refine ⟨?cc, ?_⟩; (case cc => walk_at "cc"))))
def top(i:Nat):Stmt:=PySem.Challenge.pw_spinfloor_k10_webs_refused.main.body.getD i (.Pass ⟨0,0,0,0⟩)
abbrev oZ:Stmt:=top 2
abbrev fG:Stmt:=top 3
abbrev eJ:Stmt:=top 4
abbrev cG:Stmt:=top 5
abbrev c8:Stmt:=top 6
abbrev eu:Stmt:=top 7
abbrev fF:Stmt:=top 15
abbrev bV:Stmt:=top 17
abbrev bK:Stmt:=top 18
abbrev bA:Stmt:=top 19
abbrev cK:Stmt:=Ax (top 20) 0
abbrev cL:Stmt:=Ax (top 22) 0
abbrev eF:Stmt:=top 26
abbrev fH:Stmt:=top 27
abbrev eB:Stmt:=top 28
abbrev de:Stmt:=top 29
abbrev da:Stmt:=top 30
abbrev bt:Stmt:=top 31
abbrev eG:Stmt:=top 32
abbrev eE:Stmt:=top 33
abbrev cH:Stmt:=top 34
abbrev bX:Stmt:=top 35
abbrev c9:Stmt:=top 36
abbrev cJ:Stmt:=top 37
abbrev eI:Stmt:=top 38
abbrev eA:Stmt:=top 39
abbrev bW:Stmt:=top 40
abbrev qa:Stmt:=top 41
def tf(a b s:Int):List (Str×V):=putF "strength" (.int s) (putF "two" (.int b) (putF "one" (.int a) []))
theorem oV(a b s:Int):(tf a b s).lookup ("one" : Str)=some (.int a):=by
 unfold tf
 rw[aQ,if_neg (by decide +kernel),aQ,if_neg (by decide +kernel),aQ,if_pos rfl]
theorem wZ(a b s:Int):(tf a b s).lookup ("two" : Str)=some (.int b):=by
 unfold tf
 rw[aQ,if_neg (by decide +kernel),aQ,if_pos rfl]
theorem f1_len(a:Int):(putF "one" (.int a) []).length<1000:=by show 1<1000;decide
theorem f2_len(a b:Int):(putF "two" (.int b) (putF "one" (.int a) [])).length<1000:=by
 have e:(putF "two" (.int b) (putF "one" (.int a) []):List (Str×V))=([("one",.int a),("two",.int b)]:List (Str×V)):=by
  show(if("one" : Str) = "two" then[(("one" : Str),V.int b)] else(("one" : Str),V.int a)::putF "two" (V.int b) [])=_
  rw[if_neg (by decide +kernel)]
  all_goals rfl
 rw[e]
 show 2<1000
 decide
structure CT(K:D5)(C:Addr):Prop where
 cl:Cls K C
 n1:ft K C "one"
 n2:ft K C "two"
 n3:ft K C "strength"
def oW(K:D5):Sp:=fun vs H Q _=>∃(p C dx:Addr)(a b s:Int),vs = [.ref p,.int a,.int b,.int s]/\H p=some (.ins C dx [])/\CT K C/\a≠b/\0<=a/\0<=b/\0<=s /\
 ∀ H',H' p=some (.ins C dx (tf a b s))->(∀ q o,H q=some o->q≠p->H' q=some o)->Q .non H'
theorem ai{H:Hp}{p:Addr}(h:H p=none)(o:HO):Same H (upd H p o):=fun b u q=>by rw[aq (ay q h)];exact q
theorem bO{H H2:Hp}{l:Addr}(h:Same H H2)(hl:H l=none)(o:HO):Same H (upd H2 l o):=fun b u q=>by rw[aq (ay q hl)];exact h b u q
def iV(p:Nat):V:=.int (p:Int)
theorem iV_at{hs:List Nat}{k x:Nat}(h:hs[k]?=some x):atI (hs.map iV) (k:Int)=some (iV x):=aJ (by rw[D9,h];rfl)
def bJ(H:Hp)(ys:List V)(es:En):Prop:=ys.length=es.length/\∀(i:Nat)(e:Nat×Nat),es[i]?=some e->∃ p,ys[i]?=some (.ref p)/\H p=some (.tup [iV e.1,iV e.2])
theorem bJ.mono{H H':Hp}{ys:List V}{es:En}(h:bJ H ys es)(s:Same H H'):bJ H' ys es:=⟨h.1,fun i e q=>by
 obtain⟨p,a,b⟩:=h.2 i e q
 exact⟨p,a,s _ _ b⟩⟩
def bF(K:D5)(H:Hp)(xs:List V)(es:En):Prop:=xs.length=es.length/\∀(i:Nat)(e:Nat×Nat),es[i]?=some e->∃ p C dx s,xs[i]?=some (.ref p)/\H p=some (.ins C dx (tf (e.1:Int) (e.2:Int) s))/\CT K C
theorem bF.mono{K:D5}{H H':Hp}{xs:List V}{es:En}(t:bF K H xs es)(h:Same H H'):bF K H' xs es:=⟨t.1,fun i e q=>by
 obtain⟨p,C,dx,s,a,b,d⟩:=t.2 i e q
 exact⟨p,C,dx,s,a,h _ _ b,d⟩⟩
def bq(H:Hp)(xs:List V)(ts:List (List Nat)):Prop:=xs.length=ts.length/\∀(i:Nat)(l:List Nat),ts[i]?=some l->∃ p,xs[i]?=some (.ref p)/\H p=some (.lst (l.map iV))
theorem bq.mono{H H':Hp}{xs:List V}{ts:List (List Nat)}(h:bq H xs ts)(s:Same H H'):bq H' xs ts:=⟨h.1,fun i e q=>by
 obtain⟨p,a,b⟩:=h.2 i e q
 exact⟨p,a,s _ _ b⟩⟩
theorem bq.snoc{H:Hp}{xs:List V}{ts:List (List Nat)}{q:Addr}{l:List Nat}(h:bq H xs ts)(e:H q=some (.lst (l.map iV))):bq H (xs++[.ref q]) (ts++[l]):=by
 refine⟨by rw[D2,D2,h.1];rfl,fun j k ej=>?_⟩
 by_cases hj:j<ts.length
 ·rw[D8 hj]at ej
  obtain⟨p,a1,a2⟩:=h.2 j k ej
  exact⟨p,by rw[D8 (by rw[h.1];exact hj)];exact a1,a2⟩
 ·rw[D6 (by omega)]at ej
  have hj2:j=ts.length:=by
   have:=(DZ.mp ej).1
   rw[Ed]at this
   omega
  subst hj2
  rw[EE]at ej
  cases ej
  exact⟨q,by rw[← h.1,D6 (Ea _),EE];rfl,e⟩
def cD(S:Addr->Prop)(H:Hp)(xs:List V)(ts:List (List Nat)):Prop:=xs.length=ts.length/\∀(i:Nat)(l:List Nat),ts[i]?=some l->∃ p,xs[i]?=some (.ref p)/\¬ S p/\H p=some (.lst (l.map iV))
theorem cD.mono{S:Addr->Prop}{H H':Hp}{xs:List V}{ts:List (List Nat)}(h:cD S H xs ts)(s:∀ b u,¬ S b->H b=some u->H' b=some u):cD S H' xs ts:=⟨h.1,fun i e q=>by
 obtain⟨p,a,n,b⟩:=h.2 i e q
 exact⟨p,a,n,s _ _ n b⟩⟩
theorem cD.off{S:Addr->Prop}{H:Hp}{xs:List V}{ts:List (List Nat)}(h:cD S H xs ts):bq H xs ts:=⟨h.1,fun i e q=>by
 obtain⟨p,a,n,b⟩:=h.2 i e q
 exact⟨p,a,b⟩⟩
theorem cD.snoc{S:Addr->Prop}{H:Hp}{xs:List V}{ts:List (List Nat)}{q:Addr}{l:List Nat}(h:cD S H xs ts)(n:¬ S q)(e:H q=some (.lst (l.map iV))):cD S H (xs++[.ref q]) (ts++[l]):=by
 refine⟨by rw[D2,D2,h.1];rfl,fun j k ej=>?_⟩
 by_cases hj:j<ts.length
 ·rw[D8 hj]at ej
  obtain⟨p,a1,a2⟩:=h.2 j k ej
  exact⟨p,by rw[D8 (by rw[h.1];exact hj)];exact a1,a2⟩
 ·rw[D6 (by omega)]at ej
  have hj2:j=ts.length:=by
   have:=(DZ.mp ej).1
   rw[Ed]at this
   omega
  subst hj2
  rw[EE]at ej
  cases ej
  exact⟨q,by rw[← h.1,D6 (Ea _),EE];rfl,n,e⟩
theorem qP{f:Nat->Nat}{N i:Nat}{rs:List (List Nat)}(w:fq f N i rs):rs.flatten.length<=N:=eP w.nd fun x hx=>by
 obtain⟨r,h1,h2⟩:=EZ.mp hx
 exact(w.ring r h1).lt x h2
theorem Bp{f:Nat->Nat}{N i:Nat}{rs:List (List Nat)}(w:fq f N i rs):rs.length<=N:=by
 have h:∀(l:List (List Nat)),(∀ r∈l,0<r.length)->l.length<=l.flatten.length:=fun l=>by
  induction l with
  |nil=>intro _;exact Ea _
  |cons a l ih =>
   intro h
   rw[EC,D2,ET]
   have h1:=h a (Eh ..)
   have h2:=ih fun r hr=>h r (Ef _ hr)
   omega
 exact E7 (h rs fun r hr=>(w.ring r hr).ne) (qP w)
structure TT(K:D5)(H:Hp)(a b:Addr)(m:Nat)(es:En)(ts:List (List Nat)):Prop where
 xs:∃ xs,SqL K H a xs/\bF K H xs es
 ys:∃ ys,SqL K H b ys/\bq H ys ts
 w:aZ m es ts
 few:es.length<=70
theorem TT.mono{K:D5}{H H':Hp}{a b:Addr}{m:Nat}{es:En}{ts:List (List Nat)}(t:TT K H a b m es ts)(s:Same H H'):TT K H' a b m es ts:=by
 obtain⟨⟨xs,h1,h2⟩,⟨ys,h3,h4⟩,w,f⟩:=t
 exact⟨⟨xs,s.seq h1,h2.mono s⟩,⟨ys,s.seq h3,h4.mono s⟩,w,f⟩
theorem et{m:Nat}{es:En}{ts:List (List Nat)}(w:aZ m es ts)(f:es.length<=70){p:Nat}{l:List Nat}(h:ts[p]?=some l):(∀ t∈l,t<70)/\l.length<=70:=by
 have a:∀ t∈l,t<es.length:=fun t ht=>by
  obtain⟨e,he,_⟩:=(w.mem p l h t).mp ht
  exact(DZ.mp he).1
 exact⟨fun t ht=>by have:=a t ht;omega,E7 (eP (w.nd p l h) a) f⟩
theorem perm{m:Nat}{es:En}{ts:List (List Nat)}(w:aZ m es ts):Be (fol es ts) (2*es.length):=⟨fun d h=>by
 obtain⟨_,_,_,_,_,_,_,_,z,_⟩:=w.foll h
 exact z,fun a b ha hb h=>w.inj ha hb h⟩
def zC(K:D5):Sp:=fun vs H Q _=>∃(a:Addr)(xs:List V)(es:En)(d:Nat),vs = [.ref a,.int (d:Int)]/\SqL K H a xs/\bF K H xs es/\d<2*es.length/\Q (iV (hd es d)) H
def zB(K:D5):Sp:=fun vs H Q _=>∃(a:Addr)(xs:List V)(es:En)(t p:Nat)(e:Nat×Nat),vs = [.ref a,.int (t:Int),.int (p:Int)]/\SqL K H a xs/\bF K H xs es/\es[t]?=some e/\Q (iV (if e.1=p then 2*t else 2*t+1)) H
def CN(K:D5):Sp:=fun vs H Q _=>∃(a b:Addr)(m:Nat)(es:En)(ts:List (List Nat))(d:Nat),vs = [.ref a,.ref b,.int (d:Int)]/\TT K H a b m es ts/\d<2*es.length/\Q (iV (fol es ts d)) H
def zD(K:D5):Sp:=fun vs H Q _=>∃(a b:Addr)(m:Nat)(es:En)(ts:List (List Nat))(d:Nat),vs = [.ref a,.ref b,.int (d:Int)]/\TT K H a b m es ts/\d<2*es.length /\
 ∀ q r H',Same H H'->H q=none->H' q=some (.lst (r.map iV))->Path (fol es ts) (2*es.length) d r->Ring (fol es ts) (2*es.length) r->Q (.ref q) H'
def pM(K:D5):Sp:=fun vs H Q _=>∃(a b:Addr)(m:Nat)(es:En)(ts:List (List Nat)),vs = [.ref a,.ref b]/\TT K H a b m es ts /\
 ∀ q ys rs H',Same H H'->H' q=some (.lst ys)->bq H' ys rs->fq (fol es ts) (2*es.length) (2*es.length) rs->Q (.ref q) H'
def Bb(H:Hp)(ys:List V)(n:Nat)(rs:List (List Nat)):Prop:=ys.length=n/\∀ i,i<n->∃ p a b r r',ys[i]?=some (.ref p)/\H p=some (.tup [iV a,iV b])/\rs[a]?=some r/\2*i∈r/\rs[b]?=some r'/\2*i+1∈r'
def ur(K:D5):Sp:=fun vs H Q _=>∃(a b:Addr)(xs ys:List V)(es:En)(f:Nat->Nat)(rs:List (List Nat)),vs = [.ref a,.ref b]/\SqL K H a xs/\bF K H xs es/\es.length<=70/\SqL K H b ys/\bq H ys rs/\fq f (2*es.length) (2*es.length) rs /\
 ∀ q zs H',Same H H'->H' q=some (.lst zs)->Bb H' zs es.length rs->Q (.ref q) H'
def AW(ns:List Int)(k:Nat):Int:=ns.getD k 0
def xc(K:D5):Sp:=fun vs H Q _=>∃(a:Addr)(k:Nat)(ns:List Int),vs = [.ref a,.int (k:Int)]/\SqL K H a (ns.map V.int)/\Q (.int (AW ns k)) H
structure Txt(mg:Str->Option Value):Prop where
 n_len:mg "len" = none
 n_int:mg "int" = none
 n_bool:mg "bool" = none
 n_list:mg "list" = none
 n_tuple:mg "tuple" = none
 n_range:mg "range" = none
 n_enumerate:mg "enumerate" = none
 n_isinstance:mg "isinstance" = none
 n_min:mg "min" = none
 n_sum:mg "sum" = none
 n_sorted:mg "sorted" = none
section
variable{P:Program}{w:World}{K:D5}{mg:Str->Option Value}{base:Heap}
theorem zH:aY ["ties","dart","tie"] ["ties","dart"] (au oZ):=⟨rfl,rfl,rfl,by decide +kernel,rfl,by decide +kernel,by decide +kernel⟩
theorem Dk{f:Addr}{fd:FuncData} (F:Fun K "head" "head" oZ f fd):FnOk P w K mg base CX0 1 f fd ["ties","dart"] (zC K):=by
 refine F.ok zH (fun vs H Q E h=>?_) (fun cdv A outer s H vs Q E hr h=>?_)
 ·obtain⟨a,xs,es,d,rfl,_⟩:=h
  rfl
 obtain⟨a,xs,es,d,rfl,hS,hT,hdl,k⟩:=h
 have hl:d/2<es.length:=by omega
 have e1:es[d/2]?=some es[d/2]:=D1 hl
 obtain⟨p,C,dx,s',x1,x2,x3⟩:=hT.2 _ _ e1
 have hh:hd es d=if d%2=0 then es[d/2].2 else es[d/2].1:=by unfold hd;rw[e1]
 have ed:(d:Int)/2=((d/2:Nat):Int):=by omega
 refine⟨_,(af (aw (i:=2) zH.nd rfl (Or.inl rfl) (aN aE (pv 0) (ao br (pv 1) ag) (fun _ _=>rfl)))
   (aj (bQ (xi (az cx (ao aT (pv 1) ag) ag (aF _)) (iQ (pv 2) rfl) (iQ (pv 2) rfl))))),?_⟩
 refine⟨_,rfl,_,rfl,_,_,rfl,rfl,⟨by decide,by decide⟩,a,xs,_,_,rfl,rfl,hS,(by rw[ed];exact aJ x1),?_⟩
 refine⟨_,rfl,_,_,rfl,rfl,(by show(0:Int)<2;decide),rfl,_,rfl,?_⟩
 refine ite2 (fun q=>?_) (fun q=>?_)
 ·have q':(d:Int)%2=0:=V.int.inj (of_decide_eq_true q)
  refine⟨_,rfl,p,C,dx,_,_,rfl,x2,x3.cl,x3.n2,wZ _ _ _,?_⟩
  rw[hh,if_pos (by omega)]at k
  exact k
 ·have q':¬ (d:Int)%2=0:=fun z=>q (decide_eq_true (congrArg V.int z))
  refine⟨_,rfl,p,C,dx,_,_,rfl,x2,x3.cl,x3.n1,oV _ _ _,?_⟩
  rw[hh,if_neg (by omega)]at k
  exact k
theorem xV:aY ["ties","number","place"] ["ties","number","place"] (au fG):=⟨rfl,rfl,rfl,by decide +kernel,rfl,by decide +kernel,by decide +kernel⟩
theorem ye{f:Addr}{fd:FuncData} (F:Fun K "leaving" "leaving" fG f fd):FnOk P w K mg base CX0 1 f fd ["ties","number","place"] (zB K):=by
 refine F.ok xV (fun vs H Q E h=>?_) (fun cdv A outer s H vs Q E hr h=>?_)
 ·obtain⟨a,xs,es,t,p,e,rfl,_⟩:=h
  rfl
 obtain⟨a,xs,es,t,pl,e,rfl,hS,hT,he,k⟩:=h
 obtain⟨p,C,dx,s',x1,x2,x3⟩:=hT.2 _ _ he
 have m2:CMul 2 (t:Int):=.inl ⟨by decide,by decide⟩
 refine⟨_,(aj (bQ (xi (az cx (iQ (aN aE (pv 0) (pv 1) (fun _ _=>rfl)) rfl) (pv 2) (aF _)) (ao bD ag (pv 1)) (ao aO (ao bD ag (pv 1)) ag)))),?_⟩
 refine⟨_,rfl,_,rfl,a,xs,_,_,rfl,rfl,hS,aJ x1,p,C,dx,_,_,rfl,x2,x3.cl,x3.n1,oV _ _ _,_,rfl,rfl,_,rfl,?_⟩
 refine ite2 (fun q=>?_) (fun q=>?_)
 ·have q':(e.1:Int)=(pl:Int):=V.int.inj (of_decide_eq_true q)
  refine⟨_,rfl,_,_,rfl,rfl,m2,?_⟩
  rw[if_pos (by omega)]at k
  exact k
 ·have q':¬ (e.1:Int)=(pl:Int):=fun z=>q (decide_eq_true (congrArg V.int z))
  refine⟨_,rfl,_,_,rfl,rfl,m2,_,_,rfl,rfl,?_⟩
  rw[if_neg (by omega)]at k
  exact k
theorem fQ:aY ["ties","turns","dart","place","about","behind"] ["ties","turns","dart"] (au eJ):=⟨rfl,rfl,rfl,by decide +kernel,rfl,by decide +kernel,by decide +kernel⟩
theorem u9{f fh fl:Addr}{fd fdh fdl:FuncData} (F:Fun K "follower" "follower" eJ f fd) (T:Txt mg) (G_head:Cal P w K mg base 1 "head" ["ties","dart"] (zC K) fh fdh) (G_leaving:Cal P w K mg base 1 "leaving" ["ties","number","place"] (zB K) fl fdl):FnOk P w K mg base CX0 2 f fd ["ties","turns","dart"] (CN K):=by
 refine F.ok fQ (fun vs H Q E h=>?_) (fun cdv A outer s H vs Q E hr h=>?_)
 ·obtain⟨a,b,m,es,ts,d,rfl,_⟩:=h
  rfl
 obtain⟨a,b,m,es,ts,d,rfl,tt,hdl,k⟩:=h
 obtain⟨⟨xs,h1,h2⟩,⟨ys,h3,h4⟩,w',few⟩:=tt
 obtain⟨l,e,p1,p2,p3,p4,p5,p6,p7,p8,p9⟩:=w'.foll hdl
 obtain⟨small,len⟩:=et w' few p1
 obtain⟨q,y1,y2⟩:=h4.2 _ _ p1
 have ed:(d:Int)/2=((d/2:Nat):Int):=by omega
 refine⟨_,(af (aw (i:=3) fQ.nd rfl (Or.inl rfl) (aI G_head.ok (hr.mono (by decide)) rfl G_head.mg G_head.kp G_head.bn .nil bz (aa (pv 0) (aa (pv 2) ah))))
   (af (aw (i:=4) fQ.nd rfl (Or.inl rfl) (aN aE (pv 1) (pv 3) (fun _ _=>rfl)))
   (af (aw (i:=5) fQ.nd rfl (Or.inl rfl) (ao aT (ao aO (cv Eb Gz Gy qB (pv 4) (aa (ao br (pv 2) ag) ah)) ag) (av ak (by rfl) T.n_len aU (aa (pv 4) ah))))
   (aj (bQ (aI G_leaving.ok (hr.mono (by decide)) rfl G_leaving.mg G_leaving.kp G_leaving.bn .nil bz (aa (pv 0) (aa (aN aE (pv 4) (pv 5) (fun _ _=>rfl)) (aa (pv 3) ah))))))))),?_⟩
 refine⟨_,rfl,_,rfl,a,xs,es,d,rfl,h1,h2,hdl,?_⟩
 refine⟨_,rfl,_,rfl,b,ys,_,_,rfl,rfl,h3,aJ y1,?_⟩
 have hlen:(l.map iV).length=l.length:=D3 _
 have hl0:0<l.length:=Fy p2
 have hmod:(((l.idxOf (d/2):Nat):Int)+1)%((l.map iV).length:Int)=(((l.idxOf (d/2)+1)%l.length:Nat):Int):=by rw[hlen];rfl
 refine⟨_,rfl,.inl ⟨rfl,_,SqL.of y2⟩,_,rfl,_,_,rfl,rfl,⟨by decide,by decide⟩,q,l,d/2,rfl,congrArg (fun z=>[V.int z]) ed,SqL.of y2,fun p hp=>by have:=small p hp;omega,by omega,p2,_,_,rfl,rfl,_,rfl,q,_,rfl,.inl (SqL.of y2),_,_,rfl,rfl,(by show(0:Int)<((l.map iV).length:Int);rw[hlen];omega),?_⟩
 refine⟨_,rfl,_,rfl,_,rfl,q,_,_,_,rfl,rfl,SqL.of y2,(by rw[hmod];exact iV_at (gG p2)),_,rfl,a,xs,es,nxt l (d/2),hd es d,e,rfl,h1,h2,p3,?_⟩
 rw[p6]at k
 exact k
theorem dX:aY ["ties","turns","first","row","dart"] ["ties","turns","first"] (au cG):=⟨rfl,rfl,rfl,by decide +kernel,rfl,by decide +kernel,by decide +kernel⟩
theorem Dl{f ff:Addr}{fd fdf:FuncData} (F:Fun K "round_from" "round_from" cG f fd) (G_follower:Cal P w K mg base 2 "follower" ["ties","turns","dart"] (CN K) ff fdf):FnOk P w K mg base CX0 3 f fd ["ties","turns","first"] (zD K):=by
 refine F.ok dX (fun vs H Q E h=>?_) (fun cdv A outer s H vs Q E hr h=>?_)
 ·obtain⟨a,b,m,es,ts,d,rfl,_⟩:=h
  rfl
 obtain⟨a,b,m,es,ts,d,rfl,tt,hdl,k⟩:=h
 have pm:=perm tt.w
 refine⟨_,(af (aw (i:=3) dX.nd rfl (Or.inl rfl) (bh (aa (pv 2) ah)))
   (af (aw (i:=4) dX.nd rfl (Or.inl rfl) (aI G_follower.ok (hr.mono (by decide)) rfl G_follower.mg G_follower.kp G_follower.bn .nil bz (aa (pv 0) (aa (pv 1) (aa (pv 2) ah)))))
   (af (xg PassesOwn.never (az se (pv 4) (pv 2) (aF _)) (af (aC (cv Eb Ej Ei aP (pv 3) (aa (pv 4) ah)))
   (aj (aw (i:=4) dX.nd rfl (Or.inl rfl) (aI G_follower.ok (hr.mono (by decide)) rfl G_follower.mg G_follower.kp G_follower.bn .nil bz (aa (pv 0) (aa (pv 1) (aa (pv 4) ah))))))))
   (aj (bQ (pv 3)))))),?_⟩
 refine⟨_,rfl,(by show 1<=sizeLine;decide),fun q hq=>?_⟩
 have s1:=ai hq (.lst [.int (d:Int)])
 refine⟨_,rfl,_,rfl,_,rfl,a,b,m,es,ts,d,rfl,tt.mono s1,hdl,?_⟩
 refine wW (fun σ H2=>∃(r:List Nat)(x:Nat),σ = [some (.ref a),some (.ref b),some (.int (d:Int)),some (.ref q),some (iV (fol es ts x))]/\Same H H2/\H2 q=some (.lst ((r++[x]).map iV))/\Path (fol es ts) (2*es.length) d (r++[x]))
  (fun σ H2=>match H2 q with | some (.lst xs)=>200-xs.length | _=>0) ⟨[],d,rfl,s1,ae,Bt hdl⟩ ?_ ?_
 ·rintro σ H2 ⟨r,x,rfl,s2,hq2,pa⟩
  refine⟨_,rfl,_,rfl,rfl,_,rfl,?_⟩
  have few:=tt.few
  have hlen:=eP pa.nd pa.lt
  refine ite2 (fun c=>?_) (fun c=>?_)
  ·have c':fol es ts x≠d:=fun z=>by
    rw[decide_eq_true (show iV (fol es ts x)=V.int (d:Int) by rw[z];rfl)]at c
    cases c
   have pa2:=pa.snoc pm c'
   have hlen2:=eP pa2.nd pa2.lt
   have lt2:fol es ts x<2*es.length:=pa2.lt _ (by simp)
   refine⟨_,rfl,.inl ⟨rfl,_,SqL.of hq2⟩,_,rfl,q,_,_,rfl,rfl,hq2,ar (by rw[D3];omega),?_⟩
   have s3:=bO s2 hq (.lst ((r++[x]).map iV++[iV (fol es ts x)]))
   refine⟨_,rfl,_,rfl,_,rfl,a,b,m,es,ts,fol es ts x,rfl,tt.mono s3,lt2,?_⟩
   refine⟨⟨r++[x],fol es ts x,rfl,s3,?_,pa2⟩,?_⟩
   ·rw[ae,show((r++[x]++[fol es ts x]).map iV)=(r++[x]).map iV++[iV (fol es ts x)] from by rw[EX];rfl]
   ·show(match(upd H2 q (.lst ((r++[x]).map iV++[iV (fol es ts x)]))) q with | some (.lst xs)=>200-xs.length | _=>0)<(match H2 q with | some (.lst xs)=>200-xs.length | _=>0)
    rw[ae,hq2]
    show 200-((r++[x]).map iV++[iV (fol es ts x)]).length<200-((r++[x]).map iV).length
    rw[D2,D3,Ed]
    omega
  ·have c':fol es ts x=d:=by
    by_cases z:fol es ts x=d
    ·exact z
    ·exact absurd (by rw[decide_eq_false (fun y=>z (by have:=V.int.inj y;omega))];rfl) c
   refine⟨_,rfl,?_⟩
   exact k q _ H2 s2 hq hq2 pa (pa.ring pm c')
 ·rintro σ H2 Q1 Q2 hi ⟨v',e,b',e2,z1,c',e3,q'⟩
  exact⟨v',e,b',e2,z1,c',e3,hi _ _ q'⟩
theorem cE:aY ["ties","turns","rounds","seen","dart","row","gone"] ["ties","turns"] (au c8):=⟨rfl,rfl,rfl,by decide +kernel,rfl,by decide +kernel,by decide +kernel⟩
theorem z4{f ff:Addr}{fd fdf:FuncData} (F:Fun K "rounds_of" "rounds_of" c8 f fd) (T:Txt mg) (G_round_from:Cal P w K mg base 3 "round_from" ["ties","turns","first"] (zD K) ff fdf):FnOk P w K mg base CX0 4 f fd ["ties","turns"] (pM K):=by
 refine F.ok cE (fun vs H Q E h=>?_) (fun cdv A outer s H vs Q E hr h=>?_)
 ·obtain⟨a,b,m,es,ts,rfl,_⟩:=h
  rfl
 obtain⟨a,b,m,es,ts,rfl,tt,k⟩:=h
 have hu:=hu_of hr
 have pm:=perm tt.w
 have few:=tt.few
 obtain⟨xs,h1,h2⟩:=tt.xs
 refine⟨_,(af (aw (i:=2) cE.nd rfl (Or.inl rfl) (bh ah))
   (af (aw (i:=3) cE.nd rfl (Or.inl rfl) xj)
   (af (c7 PassesOwn.never rfl (cR rfl T.n_range (aa (ao bD ag (av ak (by rfl) T.n_len aU (aa (pv 0) ah))) ah)) (a9 (i:=4) cE.nd rfl (Or.inl rfl)) (aj (bG (pt_cmp (zW hu (pv 4) (pv 3))) (af (aw (i:=5) cE.nd rfl (Or.inl rfl) (aI G_round_from.ok (hr.mono (by decide)) rfl G_round_from.mg G_round_from.kp G_round_from.bn .nil bz (aa (pv 0) (aa (pv 1) (aa (pv 4) ah)))))
   (af (aC (cv Eb Ej Ei aP (pv 2) (aa (pv 5) ah)))
   (aj (c7 PassesOwn.never rfl (cu (pv 5)) (a9 (i:=6) cE.nd rfl (Or.inl rfl)) (aj (zN hu (pv 3) (pv 6) De rfl)))))) bf)))
   (aj (bQ (pv 2)))))),?_⟩
 refine⟨(by show 0<=sizeLine;decide),fun qr hqr=>fun qs hqs=>?_⟩
 have s1:=(ai hqr (.lst [])).trans (ai hqs (.dK []))
 have hqs0:H qs=none:=by
  cases z:H qs with
  |none=>rfl
  |some o=>rw[ai hqr (.lst []) qs o z]at hqs;cases hqs
 have hne:qr≠qs:=fun z=>by rw[← z,ae]at hqs;cases hqs
 have hxl:xs.length=es.length:=h2.1
 have hN:(2*(xs.length:Int)).toNat=2*es.length:=by omega
 refine⟨_,rfl,a,xs,rfl,.inl (s1.seq h1),_,_,rfl,rfl,.inl ⟨by decide,by decide⟩,_,rfl,by omega,by omega,dz (n:=(2*(xs.length:Int)).toNat) (fun i σ H2=>∃ v4 v5 v6 ys rs kvs,σ = [some (.ref a),some (.ref b),some (.ref qr),some (.ref qs),v4,v5,v6]/\Same H H2/\H2 qr=some (.lst ys)/\cD (fun p=>p=qr∨p=qs) H2 ys rs/\H2 qs=some (.dK kvs)/\kvs.length<=rs.flatten.length/\(∀ d:Nat,(valV kvs (Sum.inl (d:Int))).isSome=true↔d∈rs.flatten)/\fq (fol es ts) (2*es.length) i rs)
  ⟨_,_,_,[],[],[],rfl,s1,by rw[aq hne,ae],⟨rfl,fun i l e=>by simp at e⟩,ae,Ea _,fun d=>by simp[valV],xW _ _⟩ ?_ ?_⟩
 ·rintro i σ H2 hi ⟨v4,v5,v6,ys,rs,kvs,rfl,s2,e1,rx,e2,kl,km,ro⟩
  rw[hN]at hi
  have e0:(0:Int)+(i:Int)=(i:Int):=FR _
  rw[e0]
  have fl:=qP ro
  have rl:=Bp ro
  refine⟨_,rfl,_,rfl,_,_,rfl,DGet.k (k:=Sum.inl (i:Int)) e2,_,rfl,?_⟩
  refine ite2 (fun c=>?_) (fun c=>?_)
  ·have hni:i∉rs.flatten:=fun z=>by
    rw[(km i).mpr z]at c
    cases c
   refine⟨_,rfl,_,rfl,_,rfl,a,b,m,es,ts,i,rfl,tt.mono s2,hi,fun q r H3 s3 hq hq3 pa ri=>?_⟩
   have s23:=s2.trans s3
   have nq:¬ (q=qr∨q=qs):=by
    rintro(z | z)
    ·rw[z,e1]at hq;cases hq
    ·rw[z,e2]at hq;cases hq
   refine⟨_,rfl,.inl ⟨rfl,_,SqL.of (s3 _ _ e1)⟩,_,rfl,qr,_,_,rfl,rfl,s3 _ _ e1,ar (by rw[rx.1];omega),?_⟩
   have s4:=bO s23 hqr (.lst (ys++[.ref q]))
   have hrq:∀{H5:Hp},cD (fun p=>p=qr∨p=qs) H5 (ys++[.ref q]) (rs++[r])->H5 q=some (.lst (r.map iV)):=fun h=>by
    obtain⟨p,z1,_,z2⟩:=h.2 rs.length r (by rw[D6 (Ea _),EE];rfl)
    rw[← rx.1,D6 (Ea _),EE]at z1
    cases z1
    exact z2
   have rx4:cD (fun p=>p=qr∨p=qs) (upd H3 qr (.lst (ys++[.ref q]))) (ys++[.ref q]) (rs++[r]):=by
    refine(rx.mono fun p o n z=>?_).snoc nq ?_
    ·rw[aq (fun z=>n (.inl z))];exact s3 _ _ z
    ·rw[aq (fun z=>nq (.inl z))];exact hq3
   have rl:r.length<=2*es.length:=eP ri.nd ri.lt
   refine⟨_,rfl,q,rfl,⟨_,SqL.of (hrq rx4)⟩,fg (xs:=r.map iV) (fun j σ H5=>∃ v6 kvs',σ = [some (.ref a),some (.ref b),some (.ref qr),some (.ref qs),some (.int (i:Int)),some (.ref q),v6]/\Same H H5/\H5 qr=some (.lst (ys++[.ref q]))/\cD (fun p=>p=qr∨p=qs) H5 (ys++[.ref q]) (rs++[r])/\H5 qs=some (.dK kvs')/\kvs'.length<=rs.flatten.length+j/\∀ d:Nat,(valV kvs' (Sum.inl (d:Int))).isSome=true↔d∈rs.flatten∨d∈r.take j)
    ⟨_,kvs,rfl,s4,ae,rx4,by rw[aq hne.symm];exact s3 _ _ e2,kl,fun d=>by rw[km d];simp⟩ (fun j σ H5 _ p=>?_) ?_ ?_⟩
   ·obtain⟨_,_,_,_,_,z,_⟩:=p
    exact SqL.of (hrq z)
   ·rintro j x σ H5 hx ⟨v6,kvs',rfl,s5,f1,rx5,f2,kl5,km5⟩
    rw[D9]at hx
    obtain⟨g,hg,rfl⟩:=EO.mp hx
    have hjl:j<r.length:=(DZ.mp hg).1
    refine⟨_,rfl,_,rfl,qs,_,rfl,DPut.k (k:=Sum.inl (g:Int)) f2 (ar (by omega)),?_⟩
    refine⟨_,_,rfl,bO s5 hqs0 _,by rw[aq hne];exact f1,rx5.mono fun p o n z=>by rw[aq (fun z=>n (.inr z))];exact z,ae,by have:=fT kvs' (Sum.inl (g:Int)) (V.bl true);omega,fun d=>?_⟩
    rw[pI]
    have tk:r.take (j+1)=r.take j++[g]:=by rw[EV,hg];rfl
    rw[tk]
    by_cases z:d=g
    ·subst z
     simp
    ·rw[if_neg (fun y=>z (by have:=Sum.inl.inj y;omega)),km5 d]
     simp[z]
   ·rintro σ H5 ⟨v6,kvs',rfl,s5,f1,rx5,f2,kl5,km5⟩
    rw[D3]at kl5 km5
    refine⟨_,_,_,_,rs++[r],kvs',rfl,s5,f1,rx5,f2,by rw[FP,D2];simpa using kl5,fun d=>?_,ro.put pm hni hi ri pa⟩
    rw[km5 d,Fb,FP,Ee]
    simp
  ·have hii:i∈rs.flatten:=(km i).mp (by
    cases z:(valV kvs (Sum.inl (i:Int))).isSome with
    |true=>rfl
    |false=>exact absurd (by rw[z];rfl) c)
   exact⟨_,_,_,ys,rs,kvs,rfl,s2,e1,rx,e2,kl,km,ro.skip hii⟩
 ·rintro σ H2 ⟨v4,v5,v6,ys,rs,kvs,rfl,s2,e1,rx,e2,kl,km,ro⟩
  rw[hN]at ro
  exact⟨_,rfl,k qr ys rs H2 s2 e1 rx.off ro⟩
theorem eK:aY ["ties","rounds","number_at","number","row","dart"] ["ties","rounds"] (au eu):=⟨rfl,rfl,rfl,by decide +kernel,rfl,by decide +kernel,by decide +kernel⟩
theorem Bx{f:Addr}{fd:FuncData} (F:Fun K "sides_of" "sides_of" eu f fd) (T:Txt mg):FnOk P w K mg base CX0 1 f fd ["ties","rounds"] (ur K):=by
 refine F.ok eK (fun vs H Q E h=>?_) (fun cdv A outer s H vs Q E hr h=>?_)
 ·obtain⟨a,b,xs,ys,es,g,rs,rfl,_⟩:=h
  rfl
 obtain⟨a,b,xs,ys,es,g,rs,rfl,hS,hT,few,hB,hR,ro,k⟩:=h
 have hu:=hu_of hr
 have fl:=qP ro
 refine⟨_,(af (aw (i:=2) eK.nd rfl (Or.inr rfl) xj)
   (af (c7 PassesOwn.never rfl (zR rfl T.n_enumerate (aa (pv 1) ah)) (o3 rfl (bY (a9 (i:=3) eK.nd rfl (Or.inl rfl)) (bY (a9 (i:=4) eK.nd rfl (Or.inl rfl)) ka))) (aj (c7 PassesOwn.never rfl (cu (pv 4)) (a9 (i:=5) eK.nd rfl (Or.inl rfl)) (aj (zN hu (pv 2) (pv 5) (pv 3) rfl)))))
   (aj (bQ (kb rfl (fr:=[("number_at",2)]) (by exact c6.one (by rfl) (by decide +kernel) (by rfl) (by decide +kernel) (by rfl) (by decide +kernel) (by rfl) (by rfl) (by decide +kernel) (by rfl)) (cR rfl T.n_range (aa (av ak (by rfl) T.n_len aU (aa (pv 0) ah)) ah)) (fun C ex s H=>(eX (aa (zV hu (pv 1) (ao bD ag (pv 0)) (fun _ _=>rfl)) (aa (zV hu (pv 1) (ao aO (ao bD ag (pv 0)) ag) (fun _ _=>rfl)) ah))))))))),?_⟩
 intro q hq
 have s1:=ai hq (.dK [])
 have kF:∀ i,(rs.take i).flatten.length<=rs.flatten.length:=fun i=>by
  have:=congrArg (fun z=>z.flatten.length) (Es i rs)
  simp only[FP,D2]at this
  omega
 refine⟨_,rfl,b,rfl,⟨_,s1.seq hB⟩,xD (K:=K) (xs:=ys) (fun i σ H2=>∃ v3 v4 v5 kvs,σ = [some (.ref a),some (.ref b),some (.ref q),v3,v4,v5]/\Same H H2/\H2 q=some (.dK kvs)/\kvs.length<=(rs.take i).flatten.length/\∀(d c:Nat)(r:List Nat),c<i->rs[c]?=some r->d∈r->valV kvs (Sum.inl (d:Int))=some (iV c))
  ⟨_,_,_,[],rfl,s1,ae,Fu _,fun d c r z=>absurd z (FU _)⟩ (fun i σ H2 _ ⟨_,_,_,_,_,s2,_⟩=>s2.seq hB) ?_ ?_⟩
 ·rintro i x σ H2 T2 hx ⟨v3,v4,v5,kvs,rfl,s2,e1,kl,km⟩ hT2
  have hil:i<rs.length:=by
   have:=(DZ.mp hx).1
   rw[hR.1]at this
   exact this
  have hr':rs[i]?=some rs[i]:=D1 hil
  obtain⟨p,x1,x2⟩:=hR.2 i _ hr'
  rw[hx]at x1
  cases x1
  generalize rs[i]=r at hr' x2
  have s3:Same H (upd H2 T2 (.tup [.int (i:Int),.ref p])):=s2.trans (ai hT2 _)
  have f1:(rs.take (i+1)).flatten=(rs.take i).flatten++r:=by rw[EV,hr'];simp
  have f2:=kF (i+1)
  rw[f1,D2]at f2
  refine⟨T2,_,rfl,SqT.of ae,rfl,_,_,rfl,_,_,rfl,rfl,?_⟩
  refine⟨_,rfl,p,rfl,⟨_,SqL.of (s3 _ _ x2)⟩,fg (xs:=r.map iV) (fun j σ H5=>∃ v5 kvs',σ = [some (.ref a),some (.ref b),some (.ref q),some (.int (i:Int)),some (.ref p),v5]/\Same H H5/\H5 q=some (.dK kvs')/\kvs'.length<=(rs.take i).flatten.length+j/\(∀(d c:Nat)(r:List Nat),c<i->rs[c]?=some r->d∈r->valV kvs' (Sum.inl (d:Int))=some (iV c))/\∀ d∈r.take j,valV kvs' (Sum.inl (d:Int))=some (iV i))
   ⟨_,kvs,rfl,s3,ai hT2 _ _ _ e1,kl,km,fun d hd=>by simp at hd⟩ (fun j σ H5 _ ⟨_,_,_,z,_⟩=>SqL.of (z _ _ x2)) ?_ ?_⟩
  ·rintro j x σ H5 hx2 ⟨v5,kvs',rfl,s5,g1,kl5,km5,kn5⟩
   rw[D9]at hx2
   obtain⟨g,hg,rfl⟩:=EO.mp hx2
   have hjl:j<r.length:=(DZ.mp hg).1
   refine⟨_,rfl,_,rfl,_,rfl,q,_,rfl,DPut.k (k:=Sum.inl (g:Int)) g1 (ar (by omega)),?_⟩
   refine⟨_,_,rfl,bO s5 hq _,ae,by have:=fT kvs' (Sum.inl (g:Int)) (V.int (i:Int));omega,fun d c r' hc hrc hd=>?_,fun d hd=>?_⟩
   ·rw[pI,if_neg (fun z=>?_)]
    ·exact km5 d c r' hc hrc hd
    ·have z':d=g:=by have:=Sum.inl.inj z;omega
     subst z'
     have:=DE ro.nd hrc hr' hd (D4 hg)
     omega
   ·rw[pI]
    by_cases z:d=g
    ·subst z
     rw[if_pos rfl]
     rfl
    ·rw[if_neg (fun y=>z (by have:=Sum.inl.inj y;omega))]
     refine kn5 d ?_
     rw[EV,hg]at hd
     simpa[z] using hd
  ·rintro σ H5 ⟨v5,kvs',rfl,s5,g1,kl5,km5,kn5⟩
   rw[D3]at kl5 kn5
   rw[Fb]at kn5
   refine⟨_,_,_,kvs',rfl,s5,g1,by rw[f1,D2];exact kl5,fun d c r' hc hrc hd=>?_⟩
   by_cases z:c=i
   ·subst z
    rw[hr']at hrc
    cases hrc
    exact kn5 d hd
   ·exact km5 d c r' (by omega) hrc hd
 ·rintro σ H2 ⟨v3,v4,v5,kvs,rfl,s2,e1,kl,km⟩
  rw[hR.1]at km
  have get:∀ d,d<2*es.length->∃ c r,rs[c]?=some r/\d∈r/\valV kvs (Sum.inl (d:Int))=some (iV c):=fun d hd=>by
   obtain⟨r,z1,z2⟩:=EZ.mp (ro.all d hd)
   obtain⟨c,z3⟩:=EI.mp z1
   exact⟨c,r,z3,z2,km d c r (DZ.mp z3).1 z3 z2⟩
  have hxl:xs.length=es.length:=hT.1
  refine⟨_,rfl,a,xs,rfl,.inl (s2.seq hS),_,rfl,by omega,by omega,pd (fun i zs H3=>Same H2 H3/\Bb H3 zs i rs) (by rw[EN,hxl];exact ER (ar (by omega))) ⟨fun _ _ e=>e,rfl,fun i hi=>absurd hi (FU _)⟩ ?_ ?_⟩
  ·rintro i zs H3 hi ⟨s3,sd⟩
   have e0:(0:Int)+(i:Int)=(i:Int):=FR _
   rw[e0]
   rw[EN,hxl]at hi
   obtain⟨c1,r1,z1,z2,z3⟩:=get (2*i) (by omega)
   obtain⟨c2,r2,y1,y2,y3⟩:=get (2*i+1) (by omega)
   have m2:CMul 2 (i:Int):=.inl ⟨by decide,by decide⟩
   have d1:DGet H3 q (V.int (2*(i:Int))) (some (iV c1)):=by
    rw[← z3,show((2*i:Nat):Int)=2*(i:Int) by omega]
    exact DGet.k (k:=Sum.inl (2*(i:Int))) (s3 _ _ e1)
   have d2:DGet H3 q (V.int (2*(i:Int)+1)) (some (iV c2)):=by
    rw[← y3,show((2*i+1:Nat):Int)=2*(i:Int)+1 by omega]
    exact DGet.k (k:=Sum.inl (2*(i:Int)+1)) (s3 _ _ e1)
   refine⟨_,rfl,_,rfl,_,_,rfl,rfl,m2,q,_,rfl,d1,_,rfl,_,rfl,_,_,rfl,rfl,m2,_,_,rfl,rfl,q,_,rfl,d2,(by show 2<=sizeLine;decide),fun t ht=>?_⟩
   have s4:=ai ht (.tup [iV c1,iV c2])
   refine⟨s3.trans s4,by rw[D2,sd.1];rfl,fun j hj=>?_⟩
   by_cases z:j=i
   ·subst z
    exact⟨t,c1,c2,r1,r2,by rw[← sd.1,D6 (Ea _),EE];rfl,ae,z1,z2,y1,y2⟩
   ·obtain⟨p,a',b',r,r',w1,w2,w3⟩:=sd.2 j (by omega)
    exact⟨p,a',b',r,r',by rw[D8 (by rw[sd.1];omega)];exact w1,s4 _ _ w2,w3⟩
  ·rintro zs H3 hzl ⟨s3,sd⟩ D hD
   rw[EN,hxl]at sd
   exact k D zs _ ((s2.trans s3).trans (ai hD _)) ae ⟨sd.1,fun i hi=>by
    obtain⟨p,a',b',r,r',w1,w2,w3⟩:=sd.2 i hi
    exact⟨p,a',b',r,r',w1,ai hD _ _ _ w2,w3⟩⟩
theorem pZ:aY ["self","one","two","strength"] ["self","one","two","strength"] (au cL):=⟨rfl,rfl,rfl,by decide +kernel,rfl,by decide +kernel,by decide +kernel⟩
theorem Dj{f:Addr}{fd:FuncData} (F:Fun K "__init__" "Tie.__init__" cL f fd):FnOk P w K mg base CX0 1 f fd ["self","one","two","strength"] (oW K):=by
 refine F.ok pZ (fun vs H Q E h=>?_) (fun cdv A outer s H vs Q E hr h=>?_)
 ·obtain⟨p,C,dx,a,b,s,rfl,_⟩:=h
  rfl
 obtain⟨p,C,dx,a,b,st,rfl,hp,T,hne,ha,hb,hs,k⟩:=h
 refine⟨_,(af (bG (az cx (pv 1) (pv 2) (aF _)) (aj qc) bf)
   (af (bG (PW.pt (zJ (az yc (pv 1) ag (aF _)) (rX (az yc (pv 2) ag (aF _))))) (aj qc) bf)
   (af (bG (az yc (pv 3) ag (aF _)) (aj qc) bf)
   (af (lA (pv 0) (pv 1) rfl)
   (af (lA (pv 0) (pv 2) rfl)
   (aj (lA (pv 0) (pv 3) rfl))))))),?_⟩
 walk_at "rd"
 refine ite2 (fun c=>absurd (V.int.inj (of_decide_eq_true c)) hne) (fun _=>?_)
 walk_at "rd"
 refine ite2 (fun c=>absurd (of_decide_eq_true c) (by omega)) (fun _=>?_)
 walk_at "rd"
 refine ite2 (fun c=>absurd (of_decide_eq_true c) (by omega)) (fun _=>?_)
 walk_at "rd"
 refine ite2 (fun c=>absurd (of_decide_eq_true c) (by omega)) (fun _=>?_)
 refine⟨_,rfl,_,rfl,p,C,dx,[],rfl,hp,T.cl,T.n1,(by show 0<1000;decide),?_⟩
 refine⟨_,rfl,_,rfl,p,C,dx,_,rfl,ae,T.cl,T.n2,f1_len a,?_⟩
 refine⟨_,rfl,_,rfl,p,C,dx,_,rfl,ae,T.cl,T.n3,f2_len a b,?_⟩
 exact k _ ae fun q o e hq=>by rw[aq hq,aq hq,aq hq];exact e
theorem uJ:aY ["script","k"] ["script","k"] (au eG):=⟨rfl,rfl,rfl,by decide +kernel,rfl,by decide +kernel,by decide +kernel⟩
theorem Dm{f:Addr}{fd:FuncData} (F:Fun K "_law_cell" "_law_cell" eG f fd) (T:Txt mg):FnOk P w K mg base CX0 1 f fd ["script","k"] (xc K):=by
 refine F.ok uJ (fun vs H Q E h=>?_) (fun cdv A outer s H vs Q E hr h=>?_)
 ·obtain⟨a,k,ns,rfl,_⟩:=h
  rfl
 obtain⟨a,k,ns,rfl,hS,q⟩:=h
 refine⟨_,(af (bG (az yc (pv 1) (av ak (by rfl) T.n_len aU (aa (pv 0) ah)) (aF _)) (aj (bQ (aN aE (pv 0) (pv 1) (fun _ _=>rfl)))) bf)
   (aj (bQ ag))),?_⟩
 refine⟨_,rfl,_,rfl,a,_,rfl,.inl hS,_,_,rfl,rfl,_,rfl,?_⟩
 refine ite2 (fun c=>?_) (fun c=>?_)
 ·have c':(k:Int)<((ns.map V.int).length:Int):=of_decide_eq_true c
  rw[D3]at c'
  have hk:k<ns.length:=by omega
  have hat:atI (ns.map V.int) (k:Int)=some (.int (AW ns k)):=aJ (by rw[D9,D1 hk];unfold AW;rw[Ht,D1 hk];rfl)
  exact⟨_,rfl,_,rfl,a,_,_,_,rfl,rfl,hS,hat,q⟩
 ·have c':¬ (k:Int)<((ns.map V.int).length:Int):=fun z=>c (decide_eq_true z)
  rw[D3]at c'
  have e:AW ns k=0:=by unfold AW;rw[Ht,Fj (by omega)];rfl
  rw[e]at q
  exact q
theorem at0{u v:V}:atI [u,v] 0=some u:=rfl
theorem at1{u v:V}:atI [u,v] 1=some v:=rfl
theorem bJ.put{H:Hp}{ys:List V}{es:En}{q:Addr}{zs:List V}{o:HO}(t:bJ H ys es)(h:H q=some (.lst zs)):bJ (upd H q o) ys es:=⟨t.1,fun i e z=>by
 obtain⟨p,a,b⟩:=t.2 i e z
 refine⟨p,a,?_⟩
 rw[aq (fun z=>by rw[z,h]at b;cases b)]
 exact b⟩
theorem bJ.snoc{H:Hp}{xs:List V}{es:En}{e:Nat×Nat}{p:Addr}(t:bJ H xs es)(h:H p=some (.tup [iV e.1,iV e.2])):bJ H (xs++[.ref p]) (es++[e]):=by
 refine⟨by rw[D2,D2,t.1];rfl,fun j k ej=>?_⟩
 by_cases hj:j<es.length
 ·rw[D8 hj]at ej
  obtain⟨p,a1,a2⟩:=t.2 j k ej
  exact⟨p,by rw[D8 (by rw[t.1];exact hj)];exact a1,a2⟩
 ·rw[D6 (by omega)]at ej
  have hj2:j=es.length:=by
   have:=(DZ.mp ej).1
   rw[Ed]at this
   omega
  subst hj2
  rw[EE]at ej
  cases ej
  exact⟨p,by rw[← t.1,D6 (Ea _),EE];rfl,h⟩
theorem DC{l:List Nat}{k n:Nat}:(ins l k n).length=l.length+1:=by
 unfold ins
 rw[D2,ET,Eg,Eu]
 omega
theorem Ck(X:Int)(n:Nat):0<=X%((n:Int)+1)/\X%((n:Int)+1)<=(n:Int):=⟨Fd _ (by omega),by have:=Fe X (show(0:Int)<(n:Int)+1 by omega);omega⟩
def Dist(xs:List V):Prop:=∀(i j:Nat)(p:Addr),xs[i]?=some (.ref p)->xs[j]?=some (.ref p)->i=j
theorem cD.set{S:Addr->Prop}{H:Hp}{xs:List V}{ts:List (List Nat)}{i:Nat}{p:Addr}{l':List Nat}(h:cD S H xs ts)(D:Dist xs)(e:xs[i]?=some (.ref p)):cD S (upd H p (.lst (l'.map iV))) xs (ts.set i l'):=by
 refine⟨by rw[EF];exact h.1,fun j l z=>?_⟩
 have hi:i<ts.length:=by rw[← h.1];exact(DZ.mp e).1
 rw[EG]at z
 by_cases hj:i=j
 ·subst hj
  rw[if_pos rfl,if_pos hi]at z
  cases z
  obtain⟨p',a1,a2,a3⟩:=h.2 i _ (D1 hi)
  rw[e]at a1
  cases a1
  exact⟨p,e,a2,ae⟩
 ·rw[if_neg hj]at z
  obtain⟨p',a1,a2,a3⟩:=h.2 j l z
  exact⟨p',a1,a2,by rw[aq (fun y=>by rw[y]at a1;exact hj (D i j p e a1))];exact a3⟩
theorem insV{l:List Nat}{k n:Nat}:(l.map iV).take k++V.int (n:Int)::(l.map iV).drop k=(ins l k n).map iV:=by
 unfold ins
 rw[EX,EU,FC,FD]
 rfl
end
end K8
namespace K8
open PySem L2
local macro_rules | `(tactic| walk_at "cc") => `(tactic| first | exact ⟨by decide, by decide⟩ | (show (0 : Int) < _; decide) | (show (0 : Int) < _; omega) | (show (0 : Int) ≤ _; omega) | exact ⟨by decide, by decide, by decide⟩ | exact ⟨by omega, by omega, by decide⟩ | exact Or.inl ⟨by decide, by decide⟩ | exact Or.inl ⟨by omega, by omega⟩)
local macro_rules | `(tactic| walk_at "rd") => `(tactic| repeat (first | refine ⟨_, rfl, ?_⟩ | refine ⟨_, _, rfl, rfl, ?_⟩ | refine ⟨rfl, ?_⟩ | (refine ⟨?cc, ?_⟩; (case cc => walk_at "cc"))))
def pP(K:D5):Sp:=fun vs H Q _=>∃(a:Addr)(ys:List V)(es:En)(d:Nat),vs = [.ref a,.int (d:Int)]/\SqL K H a ys/\bJ H ys es/\d<2*es.length/\Q (iV (hd es d)) H
section
variable{P:Program}{w:World}{K:D5}{mg:Str->Option Value}{base:Heap}
theorem uI:aY ["ends","dart"] ["ends","dart"] (au eF):=⟨rfl,rfl,rfl,by decide +kernel,rfl,by decide +kernel,by decide +kernel⟩
theorem BC{f:Addr}{fd:FuncData} (F:Fun K "_law_head" "_law_head" eF f fd):FnOk P w K mg base CX0 1 f fd ["ends","dart"] (pP K):=by
 refine F.ok uI (fun vs H Q E h=>?_) (fun cdv A outer s H vs Q E hr h=>?_)
 ·obtain⟨a,ys,es,d,rfl,_⟩:=h
  rfl
 obtain⟨a,ys,es,d,rfl,hS,hE,hdl,k⟩:=h
 have hl:d/2<es.length:=by omega
 have e1:es[d/2]?=some es[d/2]:=D1 hl
 obtain⟨p,x1,x2⟩:=hE.2 _ _ e1
 have hh:hd es d=if d%2=0 then es[d/2].2 else es[d/2].1:=by unfold hd;rw[e1]
 have ed:(d:Int)/2=((d/2:Nat):Int):=by omega
 have hat:atI [iV es[d/2].1,iV es[d/2].2] (1-(d:Int)%2)=some (iV (hd es d)):=by
  by_cases z:d%2=0
  ·rw[hh,if_pos z,show(1-(d:Int)%2)=1 by omega];rfl
  ·rw[hh,if_neg z,show(1-(d:Int)%2)=0 by omega];rfl
 refine⟨_,(aj (bQ (aN bg (aN aE (pv 0) (ao br (pv 1) ag) (fun _ _=>rfl)) (ao lB ag (ao aT (pv 1) ag)) (fun _ _=>rfl)))),?_⟩
 exact⟨_,rfl,_,rfl,_,_,rfl,rfl,⟨by decide,by decide⟩,a,ys,_,_,rfl,rfl,hS,(by rw[ed];exact aJ x1),_,rfl,_,_,rfl,rfl,(by show(0:Int)<2;decide),_,_,rfl,rfl,p,_,_,_,rfl,rfl,SqT.of x2,hat,k⟩
end
end K8
namespace K8
open PySem L2
local macro_rules | `(tactic| walk_at "cc") => `(tactic| first | exact ⟨by decide, by decide⟩ | (show (0 : Int) < _; decide) | (show (0 : Int) < _; omega) | (show (0 : Int) ≤ _; omega) | exact ⟨by decide, by decide, by decide⟩ | exact ⟨by omega, by omega, by decide⟩ | exact Or.inl ⟨by decide, by decide⟩ | exact Or.inl ⟨by omega, by omega⟩)
local macro_rules | `(tactic| walk_at "rd") => `(tactic| repeat (first | refine ⟨_, rfl, ?_⟩ | refine ⟨_, _, rfl, rfl, ?_⟩ | refine ⟨rfl, ?_⟩ | (refine ⟨?cc, ?_⟩; (case cc => walk_at "cc"))))
theorem Gr.joinP{m:Nat}{es:En}{ts:List (List Nat)}(g:Gr m es ts){left right one two:Nat}{e:Nat×Nat}{l l' xs ys:List Nat}{rest:List (List Nat)}(hl:left<2*es.length)(hr:CR (fol es ts) (2*es.length) (left::(xs++right::ys)))(hch:fJ (fol es ts) left (xs++right::ys) left)(hm:right∈left::(xs++right::ys))
  (h1:hd es left=one) (h2:hd es right=two) (hne:one≠two) (he:e=(one,two)∨e=(two,one)) (e1:ts[one]?=some l) (e2:ts[two]?=some l')
  (pr:Part (fol es ts) (2*es.length) ((left::(xs++right::ys))::rest)) :
  Part (fol (es++[e]) ((ts.set one (ins l (l.idxOf (left/2)+1) es.length)).set two (ins l' (l'.idxOf (right/2)+1) es.length))) (2*(es++[e]).length) ((left::bp es.length e one::ys)::(right::bp es.length e two::xs)::rest):=by
 have w:=g.w
 have hrt:right<2*es.length:=hr.lt right hm
 have hlen:=w.len
 have o1:one<m:=by rw[← hlen];exact(DZ.mp e1).1
 have o2:two<m:=by rw[← hlen];exact(DZ.mp e2).1
 have W:aZ m (es++[e]) ((ts.set one (ins l (l.idxOf (left/2)+1) es.length)).set two (ins l' (l'.idxOf (right/2)+1) es.length)):=by
  rcases he with rfl | rfl
  ·exact w.put o1 o2 hne e1 e2
  ·exact(w.put o1 o2 hne e1 e2).flip
 have r1:((ts.set one (ins l (l.idxOf (left/2)+1) es.length)).set two (ins l' (l'.idxOf (right/2)+1) es.length))[one]?=some (ins l (l.idxOf (left/2)+1) es.length):=by
  rw[EG,if_neg (fun z=>hne z.symm),EG,if_pos rfl,if_pos (by rw[hlen];exact o1)]
 have r2:((ts.set one (ins l (l.idxOf (left/2)+1) es.length)).set two (ins l' (l'.idxOf (right/2)+1) es.length))[two]?=some (ins l' (l'.idxOf (right/2)+1) es.length):=by
  rw[EG,if_pos rfl,if_pos (by rw[EF,hlen];exact o2)]
 have r3:∀ p,p≠one->p≠two->((ts.set one (ins l (l.idxOf (left/2)+1) es.length)).set two (ins l' (l'.idxOf (right/2)+1) es.length))[p]?=ts[p]?:=fun p n1 n2=>by
  rw[EG,if_neg (fun z=>n2 z.symm),EG,if_neg (fun z=>n1 z.symm)]
 generalize (ts.set one (ins l (l.idxOf (left/2)+1) es.length)).set two (ins l' (l'.idxOf (right/2)+1) es.length)=ts' at W r1 r2 r3
 obtain⟨a1,a2,a3⟩:=nh (e:=e) w e1 hl h1 r1
 obtain⟨b1,b2,b3⟩:=nh (e:=e) w e2 hrt h2 r2
 obtain⟨d1,d2,d3,d4⟩:=me (es:=es) hne he
 have fa:=b2 _ (bu _ _ _) d1
 have fb:=a2 _ (bu _ _ _) d2
 have els:∀ d,d<2*es.length->d≠left->d≠right->fol (es++[e]) ts' d=fol es ts d:=fun d hd' n1 n2=>by
  by_cases z1:hd es d=one
  ·exact a3 d hd' n1 z1
  ·by_cases z2:hd es d=two
   ·exact b3 d hd' n2 z2
   ·exact qO w hd' (r3 _ z1 z2)
 generalize ha:bp es.length e one=α at *
 generalize hb:bp es.length e two=β at *
 have hα:α/2=es.length:=by rw[← ha];exact bu _ _ _
 have hβ:β/2=es.length:=by rw[← hb];exact bu _ _ _
 have hlr:right≠left:=fun z=>hne (by rw[← h1,← h2,z])
 have hm':right∈xs++right::ys:=by
  rcases Ec.mp hm with z | z
  ·exact absurd z hlr
  ·exact z
 obtain⟨c1,c2⟩:=cC.mp hch
 have nd:=hr.nd
 have ltx:∀ t∈xs,t<2*es.length/\t≠left/\t≠right:=fun t ht=>by
  refine⟨hr.lt t (by simp[ht]),fun z=>?_,fun z=>?_⟩
  ·subst z;exact(Ek.mp nd).1 (by simp[ht])
  ·subst z
   have:=(EB.mp (Ek.mp nd).2).2.2 t ht t (by simp)
   exact this rfl
 have lty:∀ t∈ys,t<2*es.length/\t≠left/\t≠right:=fun t ht=>by
  refine⟨hr.lt t (by simp[ht]),fun z=>?_,fun z=>?_⟩
  ·subst z;exact(Ek.mp nd).1 (by simp[ht])
  ·subst z
   exact(Ek.mp (EB.mp (Ek.mp nd).2).2.1).1 ht
 have ndr:=pr.nd
 rw[EC]at ndr
 obtain⟨_,nd2,nd3⟩:=EB.mp ndr
 have ltr:∀ t∈rest.flatten,t<2*es.length/\t≠left/\t≠right:=fun t ht=>by
  obtain⟨q,q1,q2⟩:=EZ.mp ht
  exact⟨(pr.cr q (Ef _ q1)).lt t q2,fun z=>nd3 left (by simp) t ht z.symm,fun z=>nd3 right (by simp) t ht z.symm⟩
 have hlen2:(es++[e]).length=es.length+1:=by rw[D2];rfl
 have PP:Part (fol (es++[e]) ts') (2*(es++[e]).length) ((left::α::ys)::(right::β::xs)::rest):=by
  refine⟨fun q hq=>?_,?_,fun d hd'=>?_⟩
  ·rcases Ec.mp hq with z | z
   ·subst z
    refine⟨⟨left,α::ys,rfl,a1,gj c2 fa fun t ht=>els t (lty t ht).1 (lty t ht).2.1 (lty t ht).2.2⟩,fun d hd'=>?_,?_⟩
    ·rw[hlen2]
     simp only[Ec]at hd'
     rcases hd' with y | y | y
     ·omega
     ·omega
     ·have:=(lty d y).1;omega
    ·refine Ek.mpr ⟨fun y=>?_,Ek.mpr ⟨fun y=>?_,?_⟩⟩
     ·rcases Ec.mp y with y | y
      ·omega
      ·exact(lty _ y).2.1 rfl
     ·have:=(lty _ y).1;omega
     ·exact(Ek.mp (EB.mp (Ek.mp nd).2).2.1).2
   ·rcases Ec.mp z with z | z
    ·subst z
     refine⟨⟨right,β::xs,rfl,b1,gj c1 fb fun t ht=>els t (ltx t ht).1 (ltx t ht).2.1 (ltx t ht).2.2⟩,fun d hd'=>?_,?_⟩
     ·rw[hlen2]
      simp only[Ec]at hd'
      rcases hd' with y | y | y
      ·omega
      ·omega
      ·have:=(ltx d y).1;omega
     ·refine Ek.mpr ⟨fun y=>?_,Ek.mpr ⟨fun y=>?_,?_⟩⟩
      ·rcases Ec.mp y with y | y
       ·omega
       ·exact(ltx _ y).2.2 rfl
      ·have:=(ltx _ y).1;omega
      ·exact(EB.mp (Ek.mp nd).2).1
    ·refine(pr.cr q (Ef _ z)).mono (by rw[hlen2];omega) fun t ht=>?_
     obtain⟨k1,k2,k3⟩:=ltr t (EZ.mpr ⟨q,z,ht⟩)
     exact els t k1 k2 k3
  ·have dis:∀ x∈xs,∀ y∈ys,x≠y:=fun x hx y hy=>(EB.mp (Ek.mp nd).2).2.2 x hx y (by simp[hy])
   rw[EC,EC]
   refine EB.mpr ⟨?_,EB.mpr ⟨?_,nd2,fun a ha b hb=>?_⟩,fun a ha b hb=>?_⟩
   ·refine Ek.mpr ⟨fun y=>?_,Ek.mpr ⟨fun y=>?_,(Ek.mp (EB.mp (Ek.mp nd).2).2.1).2⟩⟩
    ·rcases Ec.mp y with y | y
     ·omega
     ·exact(lty _ y).2.1 rfl
    ·have:=(lty _ y).1;omega
   ·refine Ek.mpr ⟨fun y=>?_,Ek.mpr ⟨fun y=>?_,(EB.mp (Ek.mp nd).2).1⟩⟩
    ·rcases Ec.mp y with y | y
     ·omega
     ·exact(ltx _ y).2.2 rfl
    ·have:=(ltx _ y).1;omega
   ·obtain⟨k1,k2,k3⟩:=ltr b hb
    simp only[Ec]at ha
    rcases ha with y | y | y
    ·exact fun z=>k3 (z▸y)
    ·omega
    ·exact nd3 a (by simp[y]) b hb
   ·simp only[Ec,Ee]at ha hb
    rcases hb with(y | y | y) | y
    ·rcases ha with z | z | z
     ·exact fun u=>hlr (by rw[← y,← u,z])
     ·have:=hrt;omega
     ·exact fun u=>(lty a z).2.2 (u.trans y)
    ·rcases ha with z | z | z
     ·omega
     ·omega
     ·have:=(lty a z).1;omega
    ·rcases ha with z | z | z
     ·exact fun u=>(ltx b y).2.1 (u▸z)
     ·have:=(ltx b y).1;omega
     ·exact fun u=>dis b y a z u.symm
    ·obtain⟨k1,k2,k3⟩:=ltr b y
     rcases ha with z | z | z
     ·exact fun u=>k2 (u▸z)
     ·omega
     ·exact nd3 a (by simp[z]) b y
  ·rw[hlen2]at hd'
   simp only[EC,Ee,Ec]
   rcases d4 d hd' with y | y | y
   ·have:=pr.all d y
    simp only[EC,Ee,Ec]at this
    rcases this with(z | z | z | z) | z
    ·exact .inl (.inl z)
    ·exact .inr (.inl (.inr (.inr z)))
    ·exact .inr (.inl (.inl z))
    ·exact .inl (.inr (.inr z))
    ·exact .inr (.inr z)
   ·exact .inl (.inr (.inl y))
   ·exact .inr (.inl (.inr (.inl y)))
 exact PP
theorem Gr.leafP{m:Nat}{es:En}{ts:List (List Nat)}(g:Gr m es ts){left one:Nat}{e:Nat×Nat}{l tail:List Nat}{rest:List (List Nat)}(hl:left<2*es.length)(hr:CR (fol es ts) (2*es.length) (left::tail))(hch:fJ (fol es ts) left tail left)
  (h1:hd es left=one) (he:e=(one,m)∨e=(m,one)) (e1:ts[one]?=some l)
  (pr:Part (fol es ts) (2*es.length) ((left::tail)::rest)) :
  Part (fol (es++[e]) (ts.set one (ins l (l.idxOf (left/2)+1) es.length)++[[es.length]])) (2*(es++[e]).length) ((left::bp es.length e one::bp es.length e m::tail)::rest):=by
 have w:=g.w
 have hlen:=w.len
 have o1:one<m:=by rw[← hlen];exact(DZ.mp e1).1
 have hne:one≠m:=by omega
 have W:aZ (m+1) (es++[e]) (ts.set one (ins l (l.idxOf (left/2)+1) es.length)++[[es.length]]):=by
  have q:=w.room.put (one:=one) (two:=m) (k:=l.idxOf (left/2)+1) (j:=0) (l:=l) (l':=[]) (by omega) (by omega) hne (by rw[D8 (by omega)];exact e1) (by rw[D6 (by omega),hlen,EE];rfl)
  have q2:((ts++[[]]).set one (ins l (l.idxOf (left/2)+1) es.length)).set m (ins [] 0 es.length)=ts.set one (ins l (l.idxOf (left/2)+1) es.length)++[[es.length]]:=by
   rw[GU _ _ (by omega),GN _ _ (by rw[EF];omega),EF,hlen,EE]
   rfl
  rw[q2]at q
  rcases he with rfl | rfl
  ·exact q
  ·exact q.flip
 have r1:(ts.set one (ins l (l.idxOf (left/2)+1) es.length)++[[es.length]])[one]?=some (ins l (l.idxOf (left/2)+1) es.length):=by
  rw[D8 (by rw[EF];omega),EG,if_pos rfl,if_pos (by omega)]
 have r2:(ts.set one (ins l (l.idxOf (left/2)+1) es.length)++[[es.length]])[m]?=some [es.length]:=by
  rw[D6 (by rw[EF];omega),EF,hlen,EE]
  rfl
 have r3:∀ p,p≠one->p<m->(ts.set one (ins l (l.idxOf (left/2)+1) es.length)++[[es.length]])[p]?=ts[p]?:=fun p n1 n2=>by
  rw[D8 (by rw[EF];omega),EG,if_neg (fun z=>n1 z.symm)]
 generalize ts.set one (ins l (l.idxOf (left/2)+1) es.length)++[[es.length]]=ts' at W r1 r2 r3
 obtain⟨a1,a2,a3⟩:=nh (e:=e) w e1 hl h1 r1
 obtain⟨d1,d2,d3,d4⟩:=me (es:=es) hne he
 have fb:=a2 _ (bu _ _ _) d2
 have fa:fol (es++[e]) ts' (bp es.length e one)=bp es.length e m:=by
  rw[dO (l:=[es.length]) (by rw[d1];exact r2),bu,d1]
  have:nxt [es.length] es.length=es.length:=by
   unfold nxt
   rw[List.idxOf_cons_self]
   simp
  rw[this,sO]
  rfl
 have els:∀ d,d<2*es.length->d≠left->fol (es++[e]) ts' d=fol es ts d:=fun d hd' n1=>by
  by_cases z1:hd es d=one
  ·exact a3 d hd' n1 z1
  ·obtain⟨_,_,_,_,_,k4,_⟩:=w.at hd'
   exact qO w hd' (r3 _ z1 k4)
 generalize ha:bp es.length e one=α at *
 generalize hb:bp es.length e m=β at *
 have hα:α/2=es.length:=by rw[← ha];exact bu _ _ _
 have hβ:β/2=es.length:=by rw[← hb];exact bu _ _ _
 have nd:=hr.nd
 have ltt:∀ t∈tail,t<2*es.length/\t≠left:=fun t ht=>⟨hr.lt t (by simp[ht]),fun z=>(Ek.mp nd).1 (z▸ht)⟩
 have ndr:=pr.nd
 rw[EC]at ndr
 obtain⟨_,nd2,nd3⟩:=EB.mp ndr
 have ltr:∀ t∈rest.flatten,t<2*es.length/\t≠left:=fun t ht=>by
  obtain⟨q,q1,q2⟩:=EZ.mp ht
  exact⟨(pr.cr q (Ef _ q1)).lt t q2,fun z=>nd3 left (by simp) t ht z.symm⟩
 have hlen2:(es++[e]).length=es.length+1:=by rw[D2];rfl
 have nd4:(left::α::β::tail).Nodup:=by
  refine Ek.mpr ⟨fun y=>?_,Ek.mpr ⟨fun y=>?_,Ek.mpr ⟨fun y=>?_,(Ek.mp nd).2⟩⟩⟩
  ·simp only[Ec]at y
   rcases y with y | y | y
   ·omega
   ·omega
   ·exact(ltt _ y).2 rfl
  ·simp only[Ec]at y
   rcases y with y | y
   ·exact d3 y
   ·have:=(ltt _ y).1;omega
  ·have:=(ltt _ y).1;omega
 have PP:Part (fol (es++[e]) ts') (2*(es++[e]).length) ((left::α::β::tail)::rest):=by
  refine⟨fun q hq=>?_,?_,fun d hd'=>?_⟩
  ·rcases Ec.mp hq with z | z
   ·subst z
    refine⟨⟨left,α::β::tail,rfl,a1,fa,gj hch fb fun t ht=>els t (ltt t ht).1 (ltt t ht).2⟩,fun d hd'=>?_,nd4⟩
    rw[hlen2]
    simp only[Ec]at hd'
    rcases hd' with y | y | y | y
    ·omega
    ·omega
    ·omega
    ·have:=(ltt d y).1;omega
   ·refine(pr.cr q (Ef _ z)).mono (by rw[hlen2];omega) fun t ht=>?_
    obtain⟨k1,k2⟩:=ltr t (EZ.mpr ⟨q,z,ht⟩)
    exact els t k1 k2
  ·rw[EC]
   refine EB.mpr ⟨nd4,nd2,fun a ha b hb=>?_⟩
   obtain⟨k1,k2⟩:=ltr b hb
   simp only[Ec]at ha
   rcases ha with y | y | y | y
   ·exact fun u=>k2 (u▸y)
   ·omega
   ·omega
   ·exact nd3 a (by simp[y]) b hb
  ·rw[hlen2]at hd'
   simp only[EC,Ee,Ec]
   rcases d4 d hd' with y | y | y
   ·have:=pr.all d y
    simp only[EC,Ee,Ec]at this
    rcases this with(z | z) | z
    ·exact .inl (.inl z)
    ·exact .inl (.inr (.inr (.inr z)))
    ·exact .inr z
   ·exact .inl (.inr (.inl y))
   ·exact .inl (.inr (.inr (.inl y)))
 exact PP
theorem CR.turn{f:Nat->Nat}{N:Nat}{A B:List Nat}(h:CR f N (A++B))(nb:B≠[]):CR f N (B++A):=by
 have pm:(B++A).Perm (A++B):=EA
 refine⟨?_,fun d hd=>h.lt d (pm.mem_iff.mp hd),pm.nodup_iff.mpr h.nd⟩
 match A,B,h,nb with
 |[],B,h,_ =>
  rw[Fl]
  exact h.ch
 |x::A,b::B,h,_ =>
  obtain⟨y,l,e,c⟩:=h.ch
  rw[FO]at e
  cases e
  obtain⟨c1,c2⟩:=cC.mp c
  exact⟨b,B++x::A,rfl,cC.mpr ⟨c2,c1⟩⟩
theorem Part.perm{f:Nat->Nat}{N:Nat}{rs rs':List (List Nat)}(p:Part f N rs)(h:rs.Perm rs'):Part f N rs' :=
 ⟨fun r hr=>p.cr r (h.mem_iff.mpr hr),h.flatten.nodup_iff.mp p.nd,fun d hd=>h.flatten.mem_iff.mp (p.all d hd)⟩
theorem Part.swap{f:Nat->Nat}{N:Nat}{r r':List Nat}{rest:List (List Nat)}(p:Part f N (r::rest))(h:CR f N r')(pm:r'.Perm r):Part f N (r'::rest):=by
 have q:((r'::rest).flatten).Perm ((r::rest).flatten):=by
  rw[EC,EC]
  exact pm.append_right _
 refine⟨fun x hx=>?_,q.nodup_iff.mpr p.nd,fun d hd=>q.mem_iff.mpr (p.all d hd)⟩
 rcases Ec.mp hx with z | z
 ·rw[z];exact h
 ·exact p.cr x (Ef _ z)
theorem i8:∀{rs:List (List Nat)}{i:Nat}{r:List Nat},rs[i]?=some r->rs.Perm (r::rs.eraseIdx i)
 |[],i,r,h=>by cases h
 |x::rs,0,r,h=>by cases h;exact HA _
 |x::rs,i+1,r,h=>by
  have ih:=i8 (rs:=rs) (i:=i) (r:=r) h
  show(x::rs).Perm (r::x::rs.eraseIdx i)
  exact(ih.cons x).trans (Fs r x _)
theorem ma{rs:List (List Nat)}{i:Nat}(hi:i<rs.length)(r:List Nat):(r::rs.eraseIdx i).Perm (rs.set i r):=by
 have h:(rs.set i r)[i]?=some r:=by rw[FW hi]
 have:=i8 h
 rw[List.eraseIdx_set_eq]at this
 exact this.symm
theorem mz{m:Nat}{es:En}{ts rings:List (List Nat)}(g:Gr m es ts)(pt:Part (fol es ts) (2*es.length) rings){w left right one two:Nat}{A B C:List Nat}(hw:rings[w]?=some (A++left::(B++right::C))){e:Nat×Nat}{l l':List Nat}(h1:hd es left=one)(h2:hd es right=two)(hne:one≠two)(he:e=(one,two)∨e=(two,one))(e1:ts[one]?=some l)(e2:ts[two]?=some l') :
  Gr m (es++[e]) ((ts.set one (ins l (l.idxOf (left/2)+1) es.length)).set two (ins l' (l'.idxOf (right/2)+1) es.length)) /\
  Part (fol (es++[e]) ((ts.set one (ins l (l.idxOf (left/2)+1) es.length)).set two (ins l' (l'.idxOf (right/2)+1) es.length))) (2*(es++[e]).length) (rings.set w (A++left::bp es.length e one::C)++[B++[right,bp es.length e two]]):=by
 have wl:=(DZ.mp hw).1
 have p1:=pt.perm (i8 hw)
 have c0:=p1.cr _ (Eh ..)
 have c1:CR (fol es ts) (2*es.length) (left::(B++right::(C++A))):=by
  have:=c0.turn (GD _ _)
  rw[FO,ED,FO]at this
  exact this
 have pm:(left::(B++right::(C++A))).Perm (A++left::(B++right::C)):=by
  have:(left::(B++right::C)++A).Perm (A++left::(B++right::C)):=EA
  rw[FO,ED,FO]at this
  exact this
 have p2:=p1.swap c1 pm
 have hl:=c1.lt left (Eh ..)
 obtain⟨x,tl,ex,ch⟩:=c1.ch
 cases ex
 have hm:right∈left::(B++right::(C++A)):=by simp
 refine⟨g.join hl c1 ch hm h1 h2 hne he e1 e2,?_⟩
 have q:=g.joinP hl c1 ch hm h1 h2 hne he e1 e2 p2
 generalize (ts.set one (ins l (l.idxOf (left/2)+1) es.length)).set two (ins l' (l'.idxOf (right/2)+1) es.length)=ts' at q ⊢
 generalize bp es.length e one=α at q ⊢
 generalize bp es.length e two=β at q ⊢
 have d1:CR (fol (es++[e]) ts') (2*(es++[e]).length) (A++left::α::C):=by
  have h:=q.cr _ (Eh ..)
  by_cases na:A = []
  ·subst na
   rw[Fl]at h
   exact h
  ·have h':CR (fol (es++[e]) ts') (2*(es++[e]).length) ((left::α::C)++A):=h
   exact h'.turn na
 have pm1:(A++left::α::C).Perm (left::α::(C++A)):=(EA:(A++(left::α::C)).Perm ((left::α::C)++A))
 have q1:=q.swap d1 pm1
 have q2:=q1.perm (Fs _ _ _)
 have d2:CR (fol (es++[e]) ts') (2*(es++[e]).length) (B++[right,β]):=by
  have h:=q2.cr _ (Eh ..)
  by_cases nb:B = []
  ·subst nb;exact h
  ·have h':CR (fol (es++[e]) ts') (2*(es++[e]).length) ([right,β]++B):=h
   exact h'.turn nb
 have q3:=q2.swap d2 (EA:(B++[right,β]).Perm ([right,β]++B))
 refine q3.perm ?_
 refine(FL _ (ma wl _)).trans ?_
 exact(EA:([B++[right,β]]++rings.set w (A++left::α::C)).Perm _)
theorem zv{m:Nat}{es:En}{ts rings:List (List Nat)}(g:Gr m es ts)(pt:Part (fol es ts) (2*es.length) rings){w left one:Nat}{A B:List Nat}(hw:rings[w]?=some (A++left::B)){e:Nat×Nat}{l:List Nat}(h1:hd es left=one)(he:e=(one,m)∨e=(m,one))(e1:ts[one]?=some l) :
  Gr (m+1) (es++[e]) (ts.set one (ins l (l.idxOf (left/2)+1) es.length)++[[es.length]]) /\
  Part (fol (es++[e]) (ts.set one (ins l (l.idxOf (left/2)+1) es.length)++[[es.length]])) (2*(es++[e]).length) (rings.set w (A++left::bp es.length e one::bp es.length e m::B)):=by
 have wl:=(DZ.mp hw).1
 have p1:=pt.perm (i8 hw)
 have c0:=p1.cr _ (Eh ..)
 have c1:CR (fol es ts) (2*es.length) (left::(B++A)):=c0.turn (GD _ _)
 have p2:=p1.swap c1 (EA:((left::B)++A).Perm (A++left::B))
 have hl:=c1.lt left (Eh ..)
 obtain⟨x,tl,ex,ch⟩:=c1.ch
 cases ex
 refine⟨g.leaf hl c1 ch h1 he e1,?_⟩
 have q:=g.leafP hl c1 ch h1 he e1 p2
 generalize ts.set one (ins l (l.idxOf (left/2)+1) es.length)++[[es.length]]=ts' at q ⊢
 generalize bp es.length e one=α at q ⊢
 generalize bp es.length e m=β at q ⊢
 have d1:CR (fol (es++[e]) ts') (2*(es++[e]).length) (A++left::α::β::B):=by
  have h:=q.cr _ (Eh ..)
  by_cases na:A = []
  ·subst na
   rw[Fl]at h
   exact h
  ·have h':CR (fol (es++[e]) ts') (2*(es++[e]).length) ((left::α::β::B)++A):=h
   exact h'.turn na
 have q1:=q.swap d1 (EA:(A++(left::α::β::B)).Perm ((left::α::β::B)++A))
 exact q1.perm (ma wl _)
def xb(K:D5):Sp:=fun vs H Q _=>∃(pt q:Addr)(xs:List V)(p d n:Nat)(l:List Nat),vs = [.ref pt,.int (p:Int),.int (d:Int),.int (n:Int)]/\SqL K H pt xs/\xs[p]?=some (.ref q)/\H q=some (.lst (l.map iV))/\d/2∈l/\l.length<=70/\(∀ x∈l,x<1000)/\Q .non (upd H q (.lst ((ins l (l.idxOf (d/2)+1) n).map iV)))
section
variable{P:Program}{w:World}{K:D5}{mg:Str->Option Value}{base:Heap}
theorem oY:aY ["turns","place","behind","fresh","row"] ["turns","place","behind","fresh"] (au fH):=⟨rfl,rfl,rfl,by decide +kernel,rfl,by decide +kernel,by decide +kernel⟩
theorem ok_put{f:Addr}{fd:FuncData} (F:Fun K "_law_put" "_law_put" fH f fd):FnOk P w K mg base CX0 1 f fd ["turns","place","behind","fresh"] (xb K):=by
 refine F.ok oY (fun vs H Q E h=>?_) (fun cdv A outer s H vs Q E hr h=>?_)
 ·obtain⟨pt,q,xs,p,d,n,l,rfl,_⟩:=h
  rfl
 obtain⟨pt,q,xs,p,d,n,l,rfl,hS,hx,hq,hd,l60,lb,kk⟩:=h
 have ix:l.idxOf (d/2)<l.length:=List.idxOf_lt_length_of_mem hd
 have ll:(l.map iV).length=l.length:=D3 ..
 have eL:(d:Int)/2=((d/2:Nat):Int):=by omega
 refine⟨_,(af (aw (i:=4) oY.nd rfl (Or.inl rfl) (aN aE (pv 0) (pv 1) (fun _ _=>rfl)))
   (aj (aC (cv Eb Gq Gp mM (pv 4) (aa (ao aO (cv Eb Gz Gy qB (pv 4) (aa (ao br (pv 2) ag) ah)) ag) (aa (pv 3) ah)))))),?_⟩
 refine⟨_,rfl,_,rfl,pt,xs,_,_,rfl,rfl,hS,aJ hx,?_⟩
 refine⟨_,rfl,.inl ⟨rfl,_,SqL.of hq⟩,_,rfl,.inl ⟨rfl,_,SqL.of hq⟩,_,rfl,_,_,rfl,rfl,⟨by decide,by decide⟩,q,l,d/2,rfl,congrArg (fun z=>[V.int z]) eL,SqL.of hq,fun p hp=>by have:=lb p hp;omega,by omega,hd,_,_,rfl,rfl,_,rfl,q,_,_,_,rfl,rfl,hq,by omega,by omega,ar (by omega),?_⟩
 rw[insV,show(((l.idxOf (d/2):Nat):Int)+1).toNat=l.idxOf (d/2)+1 by omega]
 exact kk
end
structure GwC(S:Addr->Prop)(H:Hp)(pe pt pr:Addr)(ys xs zs:List V)(es:En)(ts rg:List (List Nat)):Prop where
 he:H pe=some (.lst ys)
 en:bJ H ys es
 ht:H pt=some (.lst xs)
 rx:cD (fun p=>p=pe∨p=pt∨p=pr∨S p) H xs ts
 di:Dist xs
 hr:H pr=some (.lst zs)
 rz:cD (fun p=>(p=pe∨p=pt∨p=pr)∨V.ref p∈xs∨S p) H zs rg
 ne:pe≠pt/\pe≠pr/\pt≠pr/\¬ S pe/\¬ S pt/\¬ S pr
 sl:∀ p,S p->H p≠none
def Keep(S:Addr->Prop)(H H':Hp):Prop:=∀ p o,S p->H p=some o->H' p=some o
theorem Keep.trans{S:Addr->Prop}{H H1 H2:Hp}(a:Keep S H H1)(b:Keep S H1 H2):Keep S H H2:=fun p o s h=>b p o s (a p o s h)
theorem Keep.of{S:Addr->Prop}{H H1:Hp}(a:Same H H1):Keep S H H1:=fun p o _ h=>a p o h
theorem Keep.upd{S:Addr->Prop}{H:Hp}{q:Addr}{o:HO}(n:¬ S q):Keep S H (upd H q o):=fun p u s h=>by rw[aq (show p≠q from fun z=>n (z▸s))];exact h
theorem zh{S:Addr->Prop}{H:Hp}{xs:List V}{ts:List (List Nat)}(h:cD S H xs ts){p:Addr}(m:V.ref p∈xs):H p≠none:=by
 obtain⟨i,hi⟩:=EI.mp m
 have il:=(DZ.mp hi).1
 obtain⟨p',a1,_,a3⟩:=h.2 i _ (D1 (by rw[← h.1];exact il))
 rw[hi]at a1
 cases a1
 rw[a3]
 exact fun z=>nomatch z
section
variable{S:Addr->Prop}{H H':Hp}{pe pt pr:Addr}{ys xs zs:List V}{es:En}{ts rg:List (List Nat)}
theorem GwC.same(c:GwC S H pe pt pr ys xs zs es ts rg)(s:Same H H'):GwC S H' pe pt pr ys xs zs es ts rg :=
 ⟨s _ _ c.he,c.en.mono s,s _ _ c.ht,c.rx.mono fun p o _ z=>s _ _ z,c.di,s _ _ c.hr,c.rz.mono fun p o _ z=>s _ _ z,c.ne,fun p sp z=>by
  cases y:H p with
  |none=>exact c.sl p sp y
  |some o=>rw[s _ _ y]at z;cases z⟩
theorem GwC.new(c:GwC S H pe pt pr ys xs zs es ts rg){b:Addr}(h:H b=none):b≠pe/\b≠pt/\b≠pr/\¬ S b/\V.ref b∉xs/\V.ref b∉zs :=
 ⟨fun z=>(by rw[z,c.he]at h;cases h),fun z=>(by rw[z,c.ht]at h;cases h),fun z=>(by rw[z,c.hr]at h;cases h),fun z=>c.sl b z h,fun z=>zh c.rx z h,fun z=>zh c.rz z h⟩
theorem GwC.put(c:GwC S H pe pt pr ys xs zs es ts rg){i:Nat}{q:Addr}(hx:xs[i]?=some (.ref q))(l':List Nat):GwC S (upd H q (.lst (l'.map iV))) pe pt pr ys xs zs es (ts.set i l') rg/\¬ S q:=by
 have il:i<ts.length:=by rw[← c.rx.1];exact(DZ.mp hx).1
 obtain⟨q',a1,a2,a3⟩:=c.rx.2 i _ (D1 il)
 rw[hx]at a1
 cases a1
 have n1:pe≠q:=fun z=>a2 (.inl z.symm)
 have n2:pt≠q:=fun z=>a2 (.inr (.inl z.symm))
 have n3:pr≠q:=fun z=>a2 (.inr (.inr (.inl z.symm)))
 have n4:¬ S q:=fun z=>a2 (.inr (.inr (.inr z)))
 refine⟨⟨by rw[aq n1];exact c.he,c.en.put a3,by rw[aq n2];exact c.ht,c.rx.set c.di hx,c.di,by rw[aq n3];exact c.hr,c.rz.mono fun p o n z=>?_,c.ne,fun p sp z=>?_⟩,n4⟩
 ·rw[aq (show p≠q from fun y=>n (.inr (.inl (y▸D4 hx))))];exact z
 ·rw[aq (show p≠q from fun y=>n4 (y▸sp))]at z;exact c.sl p sp z
theorem GwC.updR(c:GwC S H pe pt pr ys xs zs es ts rg){zs':List V}{rg':List (List Nat)}(hz:cD (fun p=>(p=pe∨p=pt∨p=pr)∨V.ref p∈xs∨S p) H zs' rg'):GwC S (upd H pr (.lst zs')) pe pt pr ys xs zs' es ts rg':=by
 obtain⟨n1,n2,n3,n4,n5,n6⟩:=c.ne
 refine⟨by rw[aq n2];exact c.he,c.en.put c.hr,by rw[aq n3];exact c.ht,c.rx.mono fun p o n z=>?_,c.di,ae,hz.mono fun p o n z=>?_,c.ne,fun p sp z=>?_⟩
 ·rw[aq (fun y=>n (.inr (.inr (.inl y))))];exact z
 ·rw[aq (fun y=>n (.inl (.inr (.inr y))))];exact z
 ·rw[aq (show p≠pr from fun y=>n6 (y▸sp))]at z;exact c.sl p sp z
theorem mG{S:Addr->Prop}{H:Hp}{zs:List V}{rg:List (List Nat)}(h:cD S H zs rg){W:Nat}{b:Addr}{r:List Nat}(n:¬ S b)(e:H b=some (.lst (r.map iV))):cD S H (zs.set W (.ref b)) (rg.set W r):=by
 refine⟨by rw[EF,EF];exact h.1,fun j l z=>?_⟩
 rw[EG]at z ⊢
 by_cases hj:W=j
 ·rw[if_pos hj]at z ⊢
  by_cases hl:W<rg.length
  ·rw[if_pos hl]at z
   cases z
   exact⟨b,by rw[if_pos (by rw[h.1];exact hl)],n,e⟩
  ·rw[if_neg hl]at z;cases z
 ·rw[if_neg hj]at z ⊢
  exact h.2 j l z
theorem GwC.leaf(c:GwC S H pe pt pr ys xs zs es ts rg){pn:Addr}(hp:pn≠pe/\pn≠pt/\pn≠pr/\¬ S pn/\V.ref pn∉xs/\V.ref pn∉zs){l:List Nat}(e:H pn=some (.lst (l.map iV))):GwC S (upd H pt (.lst (xs++[.ref pn]))) pe pt pr ys (xs++[.ref pn]) zs es (ts++[l]) rg:=by
 obtain⟨n1,n2,n3,n4,n5,n6⟩:=c.ne
 obtain⟨m1,m2,m3,m4,m5,m6⟩:=hp
 have R:=c.rx.snoc (q:=pn) (l:=l) (by rintro(z | z | z | z);exact m1 z;exact m2 z;exact m3 z;exact m4 z) e
 refine⟨by rw[aq n1];exact c.he,c.en.put c.ht,ae,R.mono fun p o n z=>?_,fun i j p e1 e2=>?_,by rw[aq (Ne.symm n3)];exact c.hr,⟨c.rz.1,fun i l hl=>?_⟩,c.ne,fun p sp z=>?_⟩
 ·rw[aq (fun y=>n (.inr (.inl y)))];exact z
 ·have old:∀ k,(xs++[V.ref pn])[k]?=some (.ref p)->(xs[k]?=some (.ref p))∨(k=xs.length/\p=pn):=fun k ek=>by
   by_cases hk:k<xs.length
   ·rw[D8 hk]at ek;exact .inl ek
   ·have:=(DZ.mp ek).1
    rw[D2,Ed]at this
    have hk2:k=xs.length:=by omega
    subst hk2
    rw[D6 (Ea _),EE]at ek
    cases ek
    exact .inr ⟨rfl,rfl⟩
  rcases old i e1 with a | ⟨a,a'⟩
  ·rcases old j e2 with b | ⟨b,b'⟩
   ·exact c.di i j p a b
   ·exact absurd (b'▸D4 a) m5
  ·rcases old j e2 with b | ⟨b,b'⟩
   ·exact absurd (a'▸D4 b) m5
   ·rw[a,b]
 ·obtain⟨p,a1,a2,a3⟩:=c.rz.2 i l hl
  refine⟨p,a1,?_,?_⟩
  ·rintro(y | y | y)
   ·exact a2 (.inl y)
   ·rcases Ee.mp y with y | y
    ·exact a2 (.inr (.inl y))
    ·have:p=pn:=by
      have:=E6.mp y
      cases this;rfl
     exact m6 (this▸D4 a1)
   ·exact a2 (.inr (.inr y))
  ·rw[aq (fun y=>a2 (.inl (.inr (.inl y))))];exact a3
 ·rw[aq (show p≠pt from fun y=>n5 (y▸sp))]at z;exact c.sl p sp z
theorem GwC.fin(c:GwC S H pe pt pr ys xs zs es ts rg){i:Nat}{q:Addr}(hx:xs[i]?=some (.ref q))(l':List Nat){t:Addr}(ht:(upd H q (.lst (l'.map iV))) t=none)(e:Nat×Nat) :
  GwC S (upd (upd (upd H q (.lst (l'.map iV))) t (.tup [iV e.1,iV e.2])) pe (.lst (ys++[.ref t]))) pe pt pr (ys++[.ref t]) xs zs (es++[e]) (ts.set i l') rg/\Keep S H (upd (upd (upd H q (.lst (l'.map iV))) t (.tup [iV e.1,iV e.2])) pe (.lst (ys++[.ref t]))):=by
 obtain⟨c1,nq⟩:=c.put hx l'
 have sn:=ai ht (.tup [iV e.1,iV e.2])
 have c2:=c1.same sn
 obtain⟨n1,n2,n3,n4,n5,n6⟩:=c.ne
 refine⟨⟨ae,(c2.en.snoc ae).put c2.he,by rw[aq (Ne.symm n1)];exact c2.ht,c2.rx.mono fun p o n z=>?_,c2.di,by rw[aq (Ne.symm n2)];exact c2.hr,c2.rz.mono fun p o n z=>?_,c.ne,fun p sp z=>?_⟩,?_⟩
 ·rw[aq (fun y=>n (.inl y))];exact z
 ·rw[aq (fun y=>n (.inl (.inl y)))];exact z
 ·rw[aq (show p≠pe from fun y=>n4 (y▸sp))]at z;exact c2.sl p sp z
 ·exact((Keep.upd nq).trans (Keep.of sn)).trans (Keep.upd n4)
end
end K8
namespace K8
open PySem L2
local macro_rules | `(tactic| walk_at "cc") => `(tactic| first | exact ⟨by decide, by decide⟩ | (show (0 : Int) < _; decide) | (show (0 : Int) < _; omega) | (show (0 : Int) ≤ _; omega) | exact ⟨by decide, by decide, by decide⟩ | exact ⟨by omega, by omega, by decide⟩ | exact Or.inl ⟨by decide, by decide⟩ | exact Or.inl ⟨by omega, by omega⟩)
local macro_rules | `(tactic| walk_at "rd") => `(tactic| repeat (first | refine ⟨_, rfl, ?_⟩ | refine ⟨_, _, rfl, rfl, ?_⟩ | refine ⟨rfl, ?_⟩ | (refine ⟨?cc, ?_⟩; (case cc => walk_at "cc"))))
def GwA(S:Addr->Prop)(H:Hp)(pe pt pr:Addr)(m:Nat)(es:En)(ts rg:List (List Nat)):Prop:=(∃ ys xs zs,GwC S H pe pt pr ys xs zs es ts rg)/\Gr m es ts/\Part (fol es ts) (2*es.length) rg
def stepT:TS:=fun D σ H=>∃(pe pt q rg:Addr)(v0 v3 v4 v5 v6 v7 v10 v15:Option V)(a L one two n o:Nat)(xs ys:List V)(ring l:List Nat),σ = [v0,some (.ref pe),some (.ref pt),v3,v4,v5,v6,v7,some (.ref rg),some (.int (a:Int)),v10,some (.int (one:Int)),some (.int (two:Int)),some (.int (n:Int)),some (.int ((2*n+o:Nat):Int)),v15]/\o<2/\H pt=some (.lst xs)/\xs[one]?=some (.ref q)/\H q=some (.lst (l.map iV))/\L/2∈l/\l.length<=70/\(∀ x∈l,x<1000)/\H rg=some (.lst (ring.map iV))/\ring[a]?=some L/\q≠pe/\H pe=some (.lst ys)/\ys.length<=70 /\
 ∀ t,(upd H q (.lst ((ins l (l.idxOf (L/2)+1) n).map iV))) t=none->D.nx σ (upd (upd (upd H q (.lst ((ins l (l.idxOf (L/2)+1) n).map iV))) t (.tup (if o=0 then[iV one,iV two] else[iV two,iV one]))) pe (.lst (ys++[.ref t])))
def DX(S:Addr->Prop)(H:Hp)(pe pt pr:Addr)(N P:Nat)(Q:Hp->Prop):Prop:=∀(m':Nat)(es':En)(ts' rg':List (List Nat))(H':Hp),Keep S H H'->GwA S H' pe pt pr m' es' ts' rg'->N<=es'.length->es'.length<=N+1->m'<=P->Q H'
def stepO:TS:=fun D σ H=>∃(S:Addr->Prop)(c:Int)(pe pt pr rq:Addr)(P m W a b:Nat)(v5 v7 v11 v12 v13 v14 v15:Option V)(ys xs zs:List V)(es:En)(ts rg:List (List Nat))(ring:List Nat),σ = [some (.int c),some (.ref pe),some (.ref pt),some (.ref pr),some (.int (P:Int)),v5,some (.int (W:Int)),v7,some (.ref rq),some (.int (a:Int)),some (.int (b:Int)),v11,v12,v13,v14,v15]/\GwC S H pe pt pr ys xs zs es ts rg/\Gr m es ts/\Part (fol es ts) (2*es.length) rg/\es.length<=62/\m<=P/\zs[W]?=some (.ref rq)/\rg[W]?=some ring/\H rq=some (.lst (ring.map iV))/\a<=b/\b<ring.length/\(∀ σ',DX S H pe pt pr es.length P (D.nx σ'))/\DX S H pe pt pr es.length P (D.rt .non)
theorem pJ{r:List Nat}{a L:Nat}(h:r[a]?=some L):r.take (a+1)=r.take a++[L]:=by
 rw[EV,h];rfl
theorem jE{r:List Nat}{a L:Nat}(h:r[a]?=some L):r=r.take a++L::r.drop (a+1):=by
 have:=(Es (a+1) r).symm
 rw[pJ h,ED]at this
 exact this
theorem mB{r:List Nat}{a b L R:Nat}(h:r[a]?=some L)(h2:r[b]?=some R)(lt:a<b):r=r.take a++L::((r.drop (a+1)).take (b-a-1)++R::r.drop (b+1)):=by
 have e:(r.drop (a+1))[b-a-1]?=some R:=by rw[Fz,show a+1+(b-a-1)=b by omega];exact h2
 have:=jE e
 rw[Fx,show a+1+(b-a-1+1)=b+1 by omega]at this
 rw[← this]
 exact jE h
theorem Cm{r:List Nat}{a b R:Nat}(h2:r[b]?=some R)(lt:a<b):(r.drop (a+1)).take (b-a)=(r.drop (a+1)).take (b-a-1)++[R]:=by
 have e:(r.drop (a+1))[b-a-1]?=some R:=by rw[Fz,show a+1+(b-a-1)=b by omega];exact h2
 rw[show b-a=b-a-1+1 by omega]
 exact pJ e
theorem AV{xs:List V}{c:Nat}(h:c<=xs.length):cutV xs (some (c:Int)) none=xs.drop c:=by
 unfold cutV
 rw[HT.sIx_nat,Fc h]
 show(xs.drop c).take (xs.length-c)=_
 exact EM (by rw[Eu];exact Ea _)
theorem AU{xs:List V}{c:Nat}(h:c<=xs.length):cutV xs none (some (c:Int))=xs.take c:=by
 unfold cutV
 rw[HT.sIx_nat,Fc h]
 show(xs.drop 0).take (c-0)=_
 rw[F0,Nat.sub_zero]
theorem AS{xs:List V}{c d:Nat}(h:c<=xs.length)(h2:d<=xs.length):cutV xs (some (c:Int)) (some (d:Int))=(xs.drop c).take (d-c):=by
 unfold cutV
 rw[HT.sIx_nat,HT.sIx_nat,Fc h,Fc h2]
theorem bH{H G:Hp}{p:Addr}(sm:Same H G)(z:G p=none):H p=none:=by
 cases y:H p with
 |none=>rfl
 |some o=>rw[sm _ _ y]at z;cases z
theorem B4{n o x y:Nat}(o2:o<2)(ne:x≠y):bp n (if o=0 then(x,y) else(y,x)) x=2*n+o/\bp n (if o=0 then(x,y) else(y,x)) y=2*n+1-o:=by
 by_cases z:o=0
 ·subst z
  rw[if_pos rfl]
  unfold bp
  exact⟨by rw[if_pos rfl];rfl,by rw[if_neg ne];rfl⟩
 ·have:o=1:=by omega
  subst this
  rw[if_neg (by decide)]
  unfold bp
  exact⟨by rw[if_neg (Ne.symm ne)],by rw[if_pos rfl];rfl⟩
theorem B7{o x y:Nat}:HO.tup (if o=0 then[iV x,iV y] else[iV y,iV x])=HO.tup [iV (if o=0 then(x,y) else(y,x)).1,iV (if o=0 then(x,y) else(y,x)).2]:=by
 by_cases z:o=0
 ·rw[if_pos z,if_pos z]
 ·rw[if_neg z,if_neg z]
theorem zY{o x y:Nat}:(if o=0 then(x,y) else(y,x))=(x,y)∨(if o=0 then(x,y) else(y,x))=(y,x):=by
 by_cases z:o=0
 ·exact .inl (if_pos z)
 ·exact .inr (if_neg z)
theorem iw{f:Nat->Nat}{N:Nat}{rs:List (List Nat)}(p:Part f N rs):rs.length<=N:=by
 have h1:rs.flatten.length<=N:=eP p.nd fun d hd=>by
  obtain⟨r,a,b⟩:=EZ.mp hd
  exact(p.cr r a).lt d b
 have h2:∀ l:List (List Nat),(∀ r∈l,∃ d,d∈r)->l.length<=l.flatten.length:=fun l=>by
  induction l with
  |nil=>intro _;exact Ea _
  |cons r l ih =>
   intro h
   obtain⟨d,hd⟩:=h r (Eh ..)
   have:=ih fun q hq=>h q (Ef _ hq)
   have:=Fy hd
   rw[EC,D2,ET]
   omega
 exact E7 (h2 rs fun r hr=>(p.cr r hr).ne) h1
def zw:Sp:=fun vs H Q _=>∃(S:Addr->Prop)(c:Int)(pe pt pr:Addr)(P m:Nat)(es:En)(ts rg:List (List Nat)),vs = [.int c,.ref pe,.ref pt,.ref pr,.int (P:Int)]/\GwA S H pe pt pr m es ts rg/\0<es.length/\es.length<=62/\m<=P/\DX S H pe pt pr es.length P (Q .non)
section
variable{P:Program}{w:World}{K:D5}{mg:Str->Option Value}{base:Heap}
theorem a8:aY ["cell","ends","turns","rings","places","mixed","which","rest","ring","a","b","one","two","fresh","out","back"] ["cell","ends","turns","rings","places"] (au eB):=⟨rfl,rfl,rfl,by decide +kernel,rfl,by decide +kernel,by decide +kernel⟩
theorem Dg{f fh fp:Addr}{fd dh dp:FuncData} (F:Fun K "_law_step" "_law_step" eB f fd) (T:Txt mg) (G_law_head:Cal P w K mg base 1 "_law_head" ["ends","dart"] (pP K) fh dh) (G_law_put:Cal P w K mg base 1 "_law_put" ["turns","place","behind","fresh"] (xb K) fp dp):FnOk P w K mg base CX0 2 f fd ["cell","ends","turns","rings","places"] zw:=by
 refine F.ok a8 (fun vs H Q E h=>?_) (fun cdv A outer s H vs Q E hr h=>?_)
 ·obtain⟨S,c,pe,pt,pr,P,m,es,ts,rg,rfl,_⟩:=h
  rfl
 obtain⟨S,c,pe,pt,pr,P,m,es,ts,rg,rfl,⟨⟨ys,xs,zs,C⟩,g,part⟩,e0,few,mP,kk⟩:=h
 refine⟨_,(af (aw (i:=5) a8.nd rfl (Or.inl rfl) (ao aT (ao bD (ao aT (pv 0) ag) ag) ag))
   (af (aw (i:=6) a8.nd rfl (Or.inl rfl) (ao aT (ao br (pv 5) ag) (av ak (by rfl) T.n_len aU (aa (pv 3) ah))))
   (af (aw (i:=7) a8.nd rfl (Or.inl rfl) (ao br (ao br (pv 5) ag) (av ak (by rfl) T.n_len aU (aa (pv 3) ah))))
   (af (aw (i:=8) a8.nd rfl (Or.inl rfl) (aN aE (pv 3) (pv 6) (fun _ _=>rfl)))
   (af (aw (i:=9) a8.nd rfl (Or.inl rfl) (ao aT (pv 7) (av ak (by rfl) T.n_len aU (aa (pv 8) ah))))
   (af (aw (i:=10) a8.nd rfl (Or.inl rfl) (pv 9))
   (af (bG (az cx (ao aT (pv 5) ag) ag (aF _)) (aj (aw (i:=10) a8.nd rfl (Or.inl rfl) (ao aO (pv 9) (ao aT (ao br (pv 7) (av ak (by rfl) T.n_len aU (aa (pv 8) ah))) (ao lB (av ak (by rfl) T.n_len aU (aa (pv 8) ah)) (pv 9)))))) bf)
   (dB (t2:=stepO) (af (aw (i:=11) a8.nd rfl (Or.inl rfl) (aI G_law_head.ok (hr.mono (by decide)) rfl G_law_head.mg G_law_head.kp G_law_head.bn .nil bz (aa (pv 1) (aa (aN aE (pv 8) (pv 9) (fun _ _=>rfl)) ah))))
   (af (aw (i:=12) a8.nd rfl (Or.inl rfl) (aI G_law_head.ok (hr.mono (by decide)) rfl G_law_head.mg G_law_head.kp G_law_head.bn .nil bz (aa (pv 1) (aa (aN aE (pv 8) (pv 10) (fun _ _=>rfl)) ah))))
   (af (aw (i:=13) a8.nd rfl (Or.inl rfl) (av ak (by rfl) T.n_len aU (aa (pv 1) ah)))
   (af (aw (i:=14) a8.nd rfl (Or.inl rfl) (ao aO (ao bD ag (pv 13)) (ao aT (ao br (pv 0) ag) ag)))
   (af (aw (i:=15) a8.nd rfl (Or.inl rfl) (ao lB (ao aO (ao bD ag (pv 13)) ag) (pv 14)))
   (af (bG (PW.pt (Ce (az cx (pv 11) (pv 12) (aF _)) (zK (az Df (av ak (by rfl) T.n_len aU (aa (pv 2) ah)) (pv 4) (aF _))))) (aj zM) bf)
   (af (bG (az cx (pv 11) (pv 12) (aF _)) (af (aw (i:=12) a8.nd rfl (Or.inl rfl) (av ak (by rfl) T.n_len aU (aa (pv 2) ah)))
   (af (aC (cv Eb Ej Ei aP (pv 2) (aa (bh (aa (pv 13) ah)) ah)))
   (aj (gy (ao bL (ao bL (bw bP (pv 8) cQ (bB (ao aO (pv 9) ag))) (bh (aa (pv 14) (aa (pv 15) ah)))) (bw bP (pv 8) (bB (ao aO (pv 9) ag)) cQ)) (jH (pv 3) (pv 6) dU))))) (af (aC (aI G_law_put.ok (hr.mono (by decide)) rfl G_law_put.mg G_law_put.kp G_law_put.bn .nil bz (aa (pv 2) (aa (pv 12) (aa (aN aE (pv 8) (pv 10) (fun _ _=>rfl)) (aa (pv 13) ah))))))
   (af (gy (ao bL (ao bL (bw bP (pv 8) cQ (bB (ao aO (pv 9) ag))) (bh (aa (pv 14) ah))) (bw bP (pv 8) (bB (ao aO (pv 10) ag)) cQ)) (jH (pv 3) (pv 6) dU))
   (aj (aC (cv Eb Ej Ei aP (pv 3) (aa (ao bL (bw bP (pv 8) (bB (ao aO (pv 9) ag)) (bB (ao aO (pv 10) ag))) (bh (aa (pv 15) ah))) ah)))))))
   (dB (t2:=stepT) (af (aC (aI G_law_put.ok (hr.mono (by decide)) rfl G_law_put.mg G_law_put.kp G_law_put.bn .nil bz (aa (pv 2) (aa (pv 11) (aa (aN aE (pv 8) (pv 9) (fun _ _=>rfl)) (aa (pv 13) ah))))))
   (aj (bG (az cx (ao aT (pv 14) ag) ag (aF _)) (aj (aC (cv Eb Ej Ei aP (pv 1) (aa (eX (aa (pv 11) (aa (pv 12) ah))) ah)))) (aj (aC (cv Eb Ej Ei aP (pv 1) (aa (eX (aa (pv 12) (aa (pv 11) ah))) ah))))))) (fun D0 S0 H0 h0=>?restp))))))))) (fun D0 S0 H0 h0=>?resto))))))))),?_⟩
 case restp =>
  obtain⟨pe,pt,q,rg,v0,v3,v4,v5,v6,v7,v10,v15,a,L,one,two,n,o,xs,ys,ring,l,rfl,o2,hpt,hx,hq,hL,l60,lb,hrg,hra,qpe,hpe,y60,kk⟩:=h0
  have hraV:(ring.map iV)[a]?=some (iV L):=by rw[D9,hra];rfl
  refine⟨_,rfl,_,rfl,_,rfl,_,rfl,rg,_,_,_,rfl,rfl,SqL.of hrg,aJ hraV,_,rfl,pt,q,xs,one,L,n,l,rfl,SqL.of hpt,hx,hq,hL,l60,lb,?_⟩
  have hpe2:(upd H0 q (.lst ((ins l (l.idxOf (L/2)+1) n).map iV))) pe=some (.lst ys):=by rw[aq (Ne.symm qpe)];exact hpe
  refine⟨_,rfl,_,_,rfl,rfl,(by show(0:Int)<2;decide),rfl,_,rfl,ite2 (fun c=>?_) (fun c=>?_)⟩
  ·have c':((2*n+o:Nat):Int)%2=0:=V.int.inj (of_decide_eq_true c)
   have o0:o=0:=by omega +splitDisjunctions
   refine⟨_,rfl,.inl ⟨rfl,_,SqL.of hpe2⟩,_,rfl,_,rfl,(by show 2<=sizeLine;decide),fun t ht=>⟨pe,ys,_,rfl,rfl,ai ht _ _ _ hpe2,ar (by omega +splitDisjunctions),?_⟩⟩
   have:=kk t ht
   rw[if_pos o0]at this
   exact this
  ·have c':¬ ((2*n+o:Nat):Int)%2=0:=fun z=>c (decide_eq_true (congrArg V.int z))
   have o0:¬ o=0:=by omega +splitDisjunctions
   refine⟨_,rfl,.inl ⟨rfl,_,SqL.of hpe2⟩,_,rfl,_,rfl,(by show 2<=sizeLine;decide),fun t ht=>⟨pe,ys,_,rfl,rfl,ai ht _ _ _ hpe2,ar (by omega +splitDisjunctions),?_⟩⟩
   have:=kk t ht
   rw[if_neg o0]at this
   exact this
 case resto =>
  clear C g part kk mP few e0
  obtain⟨S,c,pe,pt,pr,rq,P,m,W,a,b,v5,v7,v11,v12,v13,v14,v15,ys,xs,zs,es,ts,rg,ring,rfl,C,g,part,few,mP,hzW,hrW,hrq,ab,bl,kN,kR⟩:=h0
  have wf:=g.w
  have mf:=Cp g
  have cr:=part.cr ring (D4 hrW)
  obtain⟨L,hL⟩:∃ L,ring[a]?=some L:=⟨_,D1 (by omega +splitDisjunctions)⟩
  obtain⟨R,hR⟩:∃ R,ring[b]?=some R:=⟨_,D1 bl⟩
  have hLl:=cr.lt L (D4 hL)
  have hRl:=cr.lt R (D4 hR)
  have yl:ys.length=es.length:=C.en.1
  have xl:xs.length=m:=by rw[C.rx.1,wf.len]
  have hLV:(ring.map iV)[a]?=some (iV L):=by rw[D9,hL];rfl
  have hRV:(ring.map iV)[b]?=some (iV R):=by rw[D9,hR];rfl
  have rlen:(ring.map iV).length=ring.length:=D3 _
  have rle:ring.length<=2*es.length:=eP cr.nd cr.lt
  obtain⟨_,l,_,_,_,k4,k5,k6⟩:=wf.at hLl
  obtain⟨_,l',_,_,_,k4',k5',k6'⟩:=wf.at hRl
  obtain⟨sm1,f1⟩:=et wf (E7 few (by decide)) k5
  obtain⟨sm2,f2⟩:=et wf (E7 few (by decide)) k5'
  obtain⟨p1,y1,y2,y3⟩:=C.rx.2 _ _ k5
  obtain⟨p2,z1,z2,z3⟩:=C.rx.2 _ _ k5'
  obtain⟨rq',a1,a2,a3⟩:=C.rz.2 _ _ hrW
  rw[hzW]at a1
  cases a1
  obtain⟨n1,n2,n3,n4,n5,n6⟩:=C.ne
  obtain⟨o,ho,o2⟩:∃ o:Nat,c/3%2=(o:Int)/\o<2:=⟨(c/3%2).toNat,by omega +splitDisjunctions,by omega +splitDisjunctions⟩
  have qpt:rq≠pt:=fun z=>a2 (.inl (.inr (.inl z)))
  have qpr:rq≠pr:=fun z=>a2 (.inl (.inr (.inr z)))
  have qxs:V.ref rq∉xs:=fun z=>a2 (.inr (.inl z))
  refine⟨_,rfl,_,rfl,_,rfl,rq,_,_,_,rfl,rfl,SqL.of hrq,aJ hLV,pe,ys,es,L,rfl,SqL.of C.he,C.en,hLl,?_⟩
  refine⟨_,rfl,_,rfl,_,rfl,rq,_,_,_,rfl,rfl,SqL.of hrq,aJ hRV,pe,ys,es,R,rfl,SqL.of C.he,C.en,hRl,?_⟩
  refine⟨_,rfl,pe,ys,rfl,.inl (SqL.of C.he),?_⟩
  refine⟨_,rfl,_,_,rfl,rfl,.inl ⟨by decide,by decide⟩,_,rfl,_,_,rfl,rfl,⟨by decide,by decide⟩,_,_,rfl,rfl,(by show(0:Int)<2;decide),_,_,rfl,rfl,?_⟩
  refine⟨_,rfl,_,_,rfl,rfl,.inl ⟨by decide,by decide⟩,_,_,rfl,rfl,_,rfl,_,_,rfl,rfl,?_⟩
  have hb:4*(es.length:Int)+1-(2*(es.length:Int)+(o:Int))=((2*es.length+1-o:Nat):Int):=by omega +splitDisjunctions
  have ha:2*(es.length:Int)+(o:Int)=((2*es.length+o:Nat):Int):=by omega +splitDisjunctions
  rw[ho,yl]
  dsimp only
  rw[hb,ha]
  have cutA:cutV (ring.map iV) none (some ((a:Int)+1))=((ring.take a++[L]).map iV):=by
   rw[show(a:Int)+1=((a+1:Nat):Int) by omega +splitDisjunctions,AU (by rw[rlen];omega +splitDisjunctions),← pJ hL,FC]
  have cutB:∀ x,x<ring.length->cutV (ring.map iV) (some ((x:Int)+1)) none=((ring.drop (x+1)).map iV):=fun x hx=>by
   rw[show(x:Int)+1=((x+1:Nat):Int) by omega +splitDisjunctions,AV (by rw[rlen];omega +splitDisjunctions),FD]
  have zl:zs.length=rg.length:=C.rz.1
  have rgl:rg.length<=2*es.length:=iw part
  have Wl:W<rg.length:=(DZ.mp hrW).1
  refine⟨_,rfl,_,rfl,rfl,_,rfl,ite2 (fun e1=>?_) (fun e1=>?_)⟩
  ·refine⟨_,rfl,pt,xs,rfl,.inl (SqL.of C.ht),_,rfl,_,_,rfl,rfl,_,rfl,ite2 (fun e2=>?_) (fun e2=>?_)⟩
   ·exact kR m es ts rg H0 (Keep.of (fun _ _ z=>z)) ⟨⟨ys,xs,zs,C⟩,g,part⟩ (Ea _) (Fv _) mP
   have mlt:m<P:=by
    by_cases z:m<P
    ·exact z
    ·exact absurd (decide_eq_true (by rw[xl];omega +splitDisjunctions)) e2
   refine⟨_,rfl,_,rfl,rfl,_,rfl,ite2 (fun _=>?_) (fun z=>absurd e1 z)⟩
   refine⟨_,rfl,pt,xs,rfl,.inl (SqL.of C.ht),?_⟩
   refine⟨_,rfl,.inl ⟨rfl,_,SqL.of C.ht⟩,_,rfl,(by show 1<=sizeLine;decide),fun pn hpn=>⟨pt,xs,_,rfl,rfl,ai hpn _ _ _ C.ht,ar (by omega +splitDisjunctions),?_⟩⟩
   have sn:=ai hpn (.lst [V.int (es.length:Int)])
   have C1:=(C.same sn).leaf (C.new hpn) (l:=[es.length]) ae
   have hrq1:=sn _ _ hrq
   have hrq2:(upd (upd H0 pn (.lst [V.int (es.length:Int)])) pt (.lst (xs++[.ref pn]))) rq=some (.lst (ring.map iV)):=by rw[aq qpt];exact hrq1
   have kp1:Keep S H0 (upd (upd H0 pn (.lst [V.int (es.length:Int)])) pt (.lst (xs++[.ref pn]))):=(Keep.of sn).trans (Keep.upd n5)
   generalize hG1:upd (upd H0 pn (.lst [V.int (es.length:Int)])) pt (.lst (xs++[.ref pn]))=G1 at C1 hrq2 kp1
   refine⟨_,rfl,_,rfl,_,_,rfl,rfl,_,rfl,rq,_,rfl,SqL.of hrq2,fun b1 hb1=>?_⟩
   rw[cutA]
   have t1:=ai hb1 (.lst ((ring.take a++[L]).map iV))
   refine⟨_,rfl,_,rfl,(by show 2<=sizeLine;decide),fun b2 hb2=>?_⟩
   have t2:=ai hb2 (.lst ([2*es.length+o,2*es.length+1-o].map iV))
   refine⟨b1,b2,(ring.take a++[L]).map iV,[2*es.length+o,2*es.length+1-o].map iV,rfl,rfl,SqL.of (t2 _ _ ae),SqL.of ae,(by rw[D3,D3,D2,Eg];exact ER (ar (by simp;omega +splitDisjunctions))),fun b3 hb3=>?_⟩
   have t3:=ai hb3 (.lst ((ring.take a++[L]).map iV++[2*es.length+o,2*es.length+1-o].map iV))
   have t03:=(t1.trans t2).trans t3
   refine⟨_,rfl,_,rfl,_,_,rfl,rfl,_,rfl,rq,_,rfl,SqL.of (t03 _ _ hrq2),fun b4 hb4=>?_⟩
   rw[cutB a (by omega +splitDisjunctions)]
   have t4:=ai hb4 (.lst ((ring.drop (a+1)).map iV))
   refine⟨b3,b4,_,_,rfl,rfl,SqL.of (t4 _ _ ae),SqL.of ae,(by rw[D2,D3,D3,D2,Eg,D3,Eu];exact ER (ar (by simp;omega +splitDisjunctions))),fun b5 hb5=>?_⟩
   have hlist:(ring.take a++[L]).map iV++[2*es.length+o,2*es.length+1-o].map iV++(ring.drop (a+1)).map iV=(ring.take a++L::(2*es.length+o)::(2*es.length+1-o)::ring.drop (a+1)).map iV:=by simp
   rw[hlist]
   have t5:=ai hb5 (.lst ((ring.take a++L::(2*es.length+o)::(2*es.length+1-o)::ring.drop (a+1)).map iV))
   have t04:=t03.trans t4
   have t05:=t04.trans t5
   have C5:=C1.same t05
   obtain⟨w1,w2,w3,w4,w5,w6⟩:=C1.new (bH t04 hb5)
   have C6:=C5.updR (mG C5.rz (W:=W) (b:=b5) (by rintro((z | z | z) | z | z);exact w1 z;exact w2 z;exact w3 z;exact w5 z;exact w4 z) ae)
   refine⟨_,rfl,_,rfl,pr,zs,_,W,rfl,rfl,C5.hr,eR (by omega +splitDisjunctions),?_⟩
   have hrq6:=(aq (o:=.lst (zs.set W (.ref b5))) qpr).trans (t05 _ _ hrq2)
   have kp6:=(kp1.trans (Keep.of t05)).trans (Keep.upd (q:=pr) (o:=.lst (zs.set W (.ref b5))) n6)
   have tsl:hd es L<ts.length:=by rw[wf.len];exact k4
   obtain⟨p1',u1,u2,u3⟩:=C6.rx.2 (hd es L) l (by rw[D8 tsl];exact k5)
   refine⟨pe,pt,p1',rq,_,_,_,_,_,_,_,_,a,L,hd es L,xs.length,es.length,o,xs++[.ref pn],ys,ring,l,rfl,o2,C6.ht,u1,u3,k6,by omega +splitDisjunctions,fun x hx=>by have:=sm1 x hx;omega +splitDisjunctions,hrq6,hL,fun z=>u2 (.inl z),C6.he,by omega +splitDisjunctions,fun t ht=>?_⟩
   obtain⟨C7,kp7⟩:=C6.fin u1 (ins l (l.idxOf (L/2)+1) es.length) ht (if o=0 then(hd es L,xs.length) else(xs.length,hd es L))
   rw[B7]
   have hne:hd es L≠xs.length:=by omega +splitDisjunctions
   have hS:=zv (e:=if o=0 then(hd es L,xs.length) else(xs.length,hd es L)) (w:=W) g part (hrW.trans (congrArg some (jE hL))) rfl (by rw[xl];exact zY) k5
   rw[← xl,(B4 o2 hne).1,(B4 o2 hne).2]at hS
   rw[GU _ _ tsl]at C7
   exact kN _ (xs.length+1) _ _ _ _ (kp6.trans kp7) ⟨⟨_,_,_,C7⟩,hS.1,hS.2⟩ (by rw[D2];omega +splitDisjunctions) (by rw[D2];exact Ea _) (by omega +splitDisjunctions)
  ·refine iteF ?_
   refine⟨_,rfl,_,rfl,rfl,_,rfl,ite2 (fun z=>absurd z e1) (fun _=>?_)⟩
   have hne:hd es L≠hd es R:=fun z=>e1 (decide_eq_true (by rw[z]))
   have alt:a<b:=by
    rcases Nat.lt_or_ge a b with z | z
    ·exact z
    ·have:a=b:=by omega +splitDisjunctions
     subst this
     rw[hL]at hR
     cases hR
     exact absurd rfl hne
   refine⟨_,rfl,_,rfl,_,rfl,_,rfl,rq,_,_,_,rfl,rfl,SqL.of hrq,aJ hRV,_,rfl,pt,p2,xs,hd es R,R,es.length,l',rfl,SqL.of C.ht,z1,z3,k6',by omega +splitDisjunctions,fun x hx=>by have:=sm2 x hx;omega +splitDisjunctions,?_⟩
   obtain⟨C1,np2⟩:=C.put z1 (ins l' (l'.idxOf (R/2)+1) es.length)
   have hrq2:(upd H0 p2 (.lst ((ins l' (l'.idxOf (R/2)+1) es.length).map iV))) rq=some (.lst (ring.map iV)):=by rw[aq (show rq≠p2 from fun z=>qxs (z▸D4 z1))];exact hrq
   have kp1:Keep S H0 (upd H0 p2 (.lst ((ins l' (l'.idxOf (R/2)+1) es.length).map iV))):=Keep.upd np2
   generalize hG1:upd H0 p2 (.lst ((ins l' (l'.idxOf (R/2)+1) es.length).map iV))=G1 at C1 hrq2 kp1
   refine⟨_,rfl,_,rfl,_,_,rfl,rfl,_,rfl,rq,_,rfl,SqL.of hrq2,fun b1 hb1=>?_⟩
   rw[cutA]
   have t1:=ai hb1 (.lst ((ring.take a++[L]).map iV))
   refine⟨_,rfl,(by show 1<=sizeLine;decide),fun b2 hb2=>?_⟩
   have t2:=ai hb2 (.lst ([2*es.length+o].map iV))
   refine⟨b1,b2,(ring.take a++[L]).map iV,[2*es.length+o].map iV,rfl,rfl,SqL.of (t2 _ _ ae),SqL.of ae,(by rw[D3,D3,D2,Eg];exact ER (ar (by simp;omega +splitDisjunctions))),fun b3 hb3=>?_⟩
   have t3:=ai hb3 (.lst ((ring.take a++[L]).map iV++[2*es.length+o].map iV))
   have t03:=(t1.trans t2).trans t3
   refine⟨_,rfl,_,rfl,_,_,rfl,rfl,_,rfl,rq,_,rfl,SqL.of (t03 _ _ hrq2),fun b4 hb4=>?_⟩
   rw[cutB b bl]
   have t4:=ai hb4 (.lst ((ring.drop (b+1)).map iV))
   refine⟨b3,b4,_,_,rfl,rfl,SqL.of (t4 _ _ ae),SqL.of ae,(by rw[D2,D3,D3,D2,Eg,D3,Eu];exact ER (ar (by simp;omega +splitDisjunctions))),fun b5 hb5=>?_⟩
   have hlist:(ring.take a++[L]).map iV++[2*es.length+o].map iV++(ring.drop (b+1)).map iV=(ring.take a++L::(2*es.length+o)::ring.drop (b+1)).map iV:=by simp
   rw[hlist]
   have t5:=ai hb5 (.lst ((ring.take a++L::(2*es.length+o)::ring.drop (b+1)).map iV))
   have t04:=t03.trans t4
   have t05:=t04.trans t5
   have C5:=C1.same t05
   obtain⟨w1,w2,w3,w4,w5,w6⟩:=C1.new (bH t04 hb5)
   have C6:=C5.updR (mG C5.rz (W:=W) (b:=b5) (by rintro((z | z | z) | z | z);exact w1 z;exact w2 z;exact w3 z;exact w5 z;exact w4 z) ae)
   refine⟨_,rfl,_,rfl,pr,zs,_,W,rfl,rfl,C5.hr,eR (by omega +splitDisjunctions),?_⟩
   have hrq6:=(aq (o:=.lst (zs.set W (.ref b5))) qpr).trans (t05 _ _ hrq2)
   have kp6:=(kp1.trans (Keep.of t05)).trans (Keep.upd (q:=pr) (o:=.lst (zs.set W (.ref b5))) n6)
   generalize hG6:upd _ pr (HO.lst (zs.set W (.ref b5)))=G6 at C6 hrq6 kp6
   refine⟨_,rfl,.inl ⟨rfl,_,SqL.of C6.hr⟩,_,rfl,_,rfl,_,_,rfl,rfl,_,rfl,_,rfl,_,_,rfl,rfl,_,rfl,rq,_,rfl,SqL.of hrq6,fun b6 hb6=>?_⟩
   have cutM:cutV (ring.map iV) (some ((a:Int)+1)) (some ((b:Int)+1))=(((ring.drop (a+1)).take (b-a-1)++[R]).map iV):=by
    rw[show(a:Int)+1=((a+1:Nat):Int) by omega +splitDisjunctions,show(b:Int)+1=((b+1:Nat):Int) by omega +splitDisjunctions,AS (by rw[rlen];omega +splitDisjunctions) (by rw[rlen];omega +splitDisjunctions),← Cm hR alt,FC,FD,show b+1-(a+1)=b-a by omega +splitDisjunctions]
   rw[cutM]
   have t6:=ai hb6 (.lst (((ring.drop (a+1)).take (b-a-1)++[R]).map iV))
   refine⟨_,rfl,(by show 1<=sizeLine;decide),fun b7 hb7=>?_⟩
   have t7:=ai hb7 (.lst ([2*es.length+1-o].map iV))
   refine⟨b6,b7,((ring.drop (a+1)).take (b-a-1)++[R]).map iV,[2*es.length+1-o].map iV,rfl,rfl,SqL.of (t7 _ _ ae),SqL.of ae,(by rw[D3,D3,D2,Eg,Eu];exact ER (ar (by simp;omega +splitDisjunctions))),fun b8 hb8=>?_⟩
   have hlist2:((ring.drop (a+1)).take (b-a-1)++[R]).map iV++[2*es.length+1-o].map iV=((ring.drop (a+1)).take (b-a-1)++[R,2*es.length+1-o]).map iV:=by simp
   rw[hlist2]
   have t8:=ai hb8 (.lst (((ring.drop (a+1)).take (b-a-1)++[R,2*es.length+1-o]).map iV))
   have t67:=t6.trans t7
   have t68:=t67.trans t8
   have C8:=C6.same t68
   obtain⟨x1,x2,x3,x4,x5,x6⟩:=C6.new (bH t67 hb8)
   have C9:=C8.updR (C8.rz.snoc (q:=b8) (by rintro((z | z | z) | z | z);exact x1 z;exact x2 z;exact x3 z;exact x5 z;exact x4 z) ae)
   refine⟨pr,zs.set W (.ref b5),_,rfl,rfl,C8.hr,ar (by rw[EF];omega +splitDisjunctions),?_⟩
   have hrq9:=(aq (o:=.lst (zs.set W (.ref b5)++[.ref b8])) qpr).trans (t68 _ _ hrq6)
   have kp9:=(kp6.trans (Keep.of t68)).trans (Keep.upd (q:=pr) (o:=.lst (zs.set W (.ref b5)++[.ref b8])) n6)
   obtain⟨p1',u1,u2,u3⟩:=C9.rx.2 (hd es L) l (by rw[F6 (Ne.symm hne)];exact k5)
   refine⟨pe,pt,p1',rq,_,_,_,_,_,_,_,_,a,L,hd es L,hd es R,es.length,o,xs,ys,ring,l,rfl,o2,C9.ht,u1,u3,k6,by omega +splitDisjunctions,fun x hx=>by have:=sm1 x hx;omega +splitDisjunctions,hrq9,hL,fun z=>u2 (.inl z),C9.he,by omega +splitDisjunctions,fun t ht=>?_⟩
   obtain⟨C10,kp10⟩:=C9.fin u1 (ins l (l.idxOf (L/2)+1) es.length) ht (if o=0 then(hd es L,hd es R) else(hd es R,hd es L))
   rw[B7]
   have hS:=mz (e:=if o=0 then(hd es L,hd es R) else(hd es R,hd es L)) (w:=W) g part (hrW.trans (congrArg some (mB hL hR alt))) rfl rfl hne zY k5 k5'
   rw[(B4 o2 hne).1,(B4 o2 hne).2]at hS
   rw[List.set_comm _ _ (Ne.symm hne)]at C10
   exact kN _ m _ _ _ _ (kp9.trans kp10) ⟨⟨_,_,_,C10⟩,hS.1,hS.2⟩ (by rw[D2];omega +splitDisjunctions) (by rw[D2];exact Ea _) mP
 have zl:zs.length=rg.length:=C.rz.1
 have mf:=Cp g
 have rg0:0<rg.length:=by
  rcases Nat.eq_zero_or_pos rg.length with z | z
  ·have:=part.all 0 (by omega +splitDisjunctions)
   rw[GB.mp z]at this
   cases this
  ·exact z
 have rgl:rg.length<=2*es.length:=iw part
 refine⟨_,rfl,_,_,rfl,rfl,(by show(0:Int)<1000000007;decide),_,_,rfl,rfl,.inr ⟨by decide,by decide⟩,_,_,rfl,rfl,(by show(0:Int)<2147483647;decide),?_⟩
 have o0:(0:Int)<=c%1000000007*48271%2147483647:=Fd _ (by decide)
 have o1:c%1000000007*48271%2147483647<2147483647:=Fe _ (by decide)
 refine⟨_,rfl,_,_,rfl,rfl,⟨by decide,by decide⟩,_,rfl,pr,zs,rfl,.inl (SqL.of C.hr),_,_,rfl,rfl,(by show(0:Int)<(zs.length:Int);omega +splitDisjunctions),?_⟩
 refine⟨_,rfl,_,_,rfl,rfl,⟨by decide,by decide⟩,_,rfl,pr,zs,rfl,.inl (SqL.of C.hr),_,_,rfl,rfl,⟨(by show(0:Int)<(zs.length:Int);omega +splitDisjunctions),(by show(zs.length:Int)<1073741824;omega +splitDisjunctions)⟩,?_⟩
 dsimp only
 generalize c%1000000007*48271%2147483647=M at o0 o1
 obtain⟨W,hW,Wl⟩:∃ W:Nat,M/2%(zs.length:Int)=(W:Int)/\W<rg.length:=by
  have h0:=Fd (M/2) (show(zs.length:Int)≠0 by omega +splitDisjunctions)
  have h1:=Fe (M/2) (show(0:Int)<(zs.length:Int) by omega +splitDisjunctions)
  exact⟨_,(FQ h0).symm,by omega +splitDisjunctions⟩
 obtain⟨R,hR⟩:∃ R:Nat,M/2/(zs.length:Int)=(R:Int):=⟨_,(FQ (Int.ediv_nonneg (by omega +splitDisjunctions) (by omega +splitDisjunctions))).symm⟩
 rw[hW,hR]
 obtain⟨ring,hring⟩:∃ r,rg[W]?=some r:=⟨_,D1 Wl⟩
 obtain⟨rq,q1,q2,q3⟩:=C.rz.2 W ring hring
 have cr:=part.cr ring (D4 hring)
 have rle:ring.length<=2*es.length:=eP cr.nd cr.lt
 have rlen:(ring.map iV).length=ring.length:=D3 _
 have rpos:0<ring.length:=by
  obtain⟨d,hd⟩:=cr.ne
  exact Fy hd
 have lpos:(0:Int)<((ring.map iV).length:Int):=by omega +splitDisjunctions
 refine⟨_,rfl,_,rfl,pr,zs,_,_,rfl,rfl,SqL.of C.hr,aJ q1,?_⟩
 refine⟨_,rfl,_,rfl,rq,_,rfl,.inl (SqL.of q3),_,_,rfl,rfl,lpos,?_⟩
 dsimp only
 obtain⟨a,ha,al⟩:∃ a:Nat,(R:Int)%((ring.map iV).length:Int)=(a:Int)/\a<ring.length:=by
  have h0:=Fd (R:Int) (show((ring.map iV).length:Int)≠0 by omega +splitDisjunctions)
  have h1:=Fe (R:Int) lpos
  exact⟨_,(FQ h0).symm,by omega +splitDisjunctions⟩
 rw[ha]
 refine⟨_,rfl,?_⟩
 refine⟨_,rfl,_,_,rfl,rfl,(by show(0:Int)<2;decide),rfl,_,rfl,ite2 (fun c1=>?_) (fun c1=>?_)⟩
 ·have bpos:(0:Int)<((ring.map iV).length:Int)-(a:Int):=by omega +splitDisjunctions
  refine⟨_,rfl,_,rfl,_,rfl,rq,_,rfl,.inl (SqL.of q3),_,_,rfl,rfl,⟨lpos,(by show((ring.map iV).length:Int)<1073741824;omega +splitDisjunctions)⟩,_,rfl,rq,_,rfl,.inl (SqL.of q3),_,rfl,_,_,rfl,rfl,_,_,rfl,rfl,bpos,_,_,rfl,rfl,?_⟩
  dsimp only
  obtain⟨d,hd,dl⟩:∃ d:Nat,(R:Int)/((ring.map iV).length:Int)%(((ring.map iV).length:Int)-(a:Int))=(d:Int)/\a+d<ring.length:=by
   have h0:=Fd ((R:Int)/((ring.map iV).length:Int)) (show((ring.map iV).length:Int)-(a:Int)≠0 by omega +splitDisjunctions)
   have h1:=Fe ((R:Int)/((ring.map iV).length:Int)) bpos
   exact⟨_,(FQ h0).symm,by omega +splitDisjunctions⟩
  rw[hd,show(a:Int)+(d:Int)=((a+d:Nat):Int) by omega +splitDisjunctions]
  exact⟨S,c,pe,pt,pr,rq,P,m,W,a,a+d,_,_,_,_,_,_,_,ys,xs,zs,es,ts,rg,ring,rfl,C,g,part,few,mP,q1,hring,q3,by omega +splitDisjunctions,dl,fun _=>kk,kk⟩
 ·exact⟨S,c,pe,pt,pr,rq,P,m,W,a,a,_,_,_,_,_,_,_,ys,xs,zs,es,ts,rg,ring,rfl,C,g,part,few,mP,q1,hring,q3,Ea _,al,fun _=>kk,kk⟩
end
end K8
namespace K8
open PySem L2
local macro_rules | `(tactic| walk_at "cc") => `(tactic| first | exact ⟨by decide, by decide⟩ | (show (0 : Int) < _; decide) | (show (0 : Int) < _; omega) | (show (0 : Int) ≤ _; omega) | exact ⟨by decide, by decide, by decide⟩ | exact ⟨by omega, by omega, by decide⟩ | exact Or.inl ⟨by decide, by decide⟩ | exact Or.inl ⟨by omega, by omega⟩)
local macro_rules | `(tactic| walk_at "rd") => `(tactic| repeat (first | refine ⟨_, rfl, ?_⟩ | refine ⟨_, _, rfl, rfl, ?_⟩ | refine ⟨rfl, ?_⟩ | (refine ⟨?cc, ?_⟩; (case cc => walk_at "cc"))))
def uy:Sp:=fun vs H Q _=>∃(c:Int)(m:Nat),vs = [.int c,.int (m:Int)]/\m<=100/\∀(q:Addr)(o:List Nat)(H':Hp),Same H H'->H q=none->H' q=some (.lst (o.map iV))->o.length=m->o.Nodup->(∀ x∈o,x<m)->Q (.ref q) H'
def pR(K:D5):Sp:=fun vs H Q _=>∃(a:Addr)(P:Nat)(cs:List Int),vs = [.ref a,.int (P:Int)]/\SqL K H a (cs.map V.int)/\cs.length<=62/\2<=P /\
 ∀(t pe pt pr:Addr)(m:Nat)(es:En)(ts rg:List (List Nat))(H':Hp),Same H H'->H' t=some (.tup [.ref pe,.ref pt,.ref pr])->GwA (fun p=>H p≠none) H' pe pt pr m es ts rg->0<es.length->es.length<=cs.length+1->m<=P->Q (.ref t) H'
theorem Bu:Part (fol [(0,1)] [[0],[0]]) 2 [[0,1]]:=by
 refine⟨fun r hr=>?_,by decide,fun d hd=>?_⟩
 ·have:r = [0,1]:=by simpa using hr
  subst this
  exact⟨⟨0,[1],rfl,by decide,(by show fol [(0,1)] [[0],[0]] 1=0;decide)⟩,fun d hd=>by simp at hd ⊢;omega,by decide⟩
 ·simp
  omega
theorem Keep.same{H H1 H2:Hp}(s:Same H H1)(k:Keep (fun p=>H p≠none) H1 H2):Same H H2:=fun p o h=>k p o (fun z=>by rw[z]at h;cases h) (s p o h)
section
variable{P:Program}{w:World}{K:D5}{mg:Str->Option Value}{base:Heap}
theorem dw:aY ["cell","many","order","mixed","k"] ["cell","many"] (au da):=⟨rfl,rfl,rfl,by decide +kernel,rfl,by decide +kernel,by decide +kernel⟩
theorem BA{f:Addr}{fd:FuncData} (F:Fun K "_law_order" "_law_order" da f fd) (T:Txt mg):FnOk P w K mg base CX0 1 f fd ["cell","many"] uy:=by
 refine F.ok dw (fun vs H Q E h=>?_) (fun cdv A outer s H vs Q E hr h=>?_)
 ·obtain⟨c,m,rfl,_⟩:=h
  rfl
 obtain⟨c,m,rfl,hm,k⟩:=h
 refine⟨_,(af (aw (i:=2) dw.nd rfl (Or.inl rfl) (bh ah))
   (af (aw (i:=3) dw.nd rfl (Or.inl rfl) (ao aT (pv 0) ag))
   (af (c7 PassesOwn.never rfl (cR rfl T.n_range (aa (pv 1) ah)) (a9 (i:=4) dw.nd rfl (Or.inl rfl)) (af (aw (i:=3) dw.nd rfl (Or.inl rfl) (ao aT (ao aO (ao bD (pv 3) ag) (ao bD ag (pv 4))) ag))
   (aj (aC (cv Eb Gq Gp mM (pv 2) (aa (ao aT (pv 3) (ao aO (pv 4) ag)) (aa (pv 4) ah)))))))
   (aj (bQ (pv 2)))))),?_⟩
 refine⟨(by show 0<=sizeLine;decide),fun q hq=>?_⟩
 refine⟨_,rfl,_,_,rfl,rfl,(by show(0:Int)<1000000007;decide),?_⟩
 refine⟨_,rfl,_,rfl,by omega,by omega,dz (n:=(m:Int).toNat) (fun i σ H2=>∃(M:Int),∃ v4 o,σ = [some (.int c),some (.int (m:Int)),some (.ref q),some (.int M),v4]/\Same H H2/\H2 q=some (.lst (o.map iV))/\o.length=i/\o.Nodup/\∀ x∈o,x<i) ⟨_,_,[],rfl,ai hq _,ae,rfl,Gn,fun x hx=>nomatch hx⟩ ?_ ?_⟩
 ·rintro i σ H2 hi ⟨M,v4,o,rfl,s2,hq2,ol,nd,lt⟩
  rw[EN]at hi
  have e0:(0:Int)+(i:Int)=(i:Int):=FR _
  rw[e0]
  have hlen:(o.map iV).length=i:=by rw[D3];exact ol
  refine⟨_,rfl,_,_,rfl,rfl,.inr ⟨by decide,by decide⟩,_,rfl,_,_,rfl,rfl,.inl ⟨by decide,by decide⟩,_,_,rfl,rfl,_,_,rfl,rfl,(by show(0:Int)<2147483647;decide),?_⟩
  refine⟨_,rfl,.inl ⟨rfl,_,SqL.of hq2⟩,_,rfl,_,rfl,_,_,rfl,rfl,_,_,rfl,rfl,(by show(0:Int)<(i:Int)+1;omega),_,rfl,q,_,_,_,rfl,rfl,hq2,(Ck _ _).1,(by rw[hlen];exact(Ck _ _).2),ar (by omega),?_⟩
  rw[insV]
  refine⟨_,_,_,rfl,bO s2 hq _,ae,by rw[DC,ol],As nd fun z=>by have:=lt i z;omega,fun x hx=>?_⟩
  rcases vQ.mp hx with z | z
  ·omega
  ·have:=lt x z;omega
 ·rintro σ H2 ⟨M,v4,o,rfl,s2,hq2,ol,nd,lt⟩
  rw[EN]at ol lt
  exact⟨_,rfl,k q o H2 s2 hq hq2 ol nd lt⟩
theorem dy:aY ["cells","places","ends","turns","rings","cell"] ["cells","places"] (au de):=⟨rfl,rfl,rfl,by decide +kernel,rfl,by decide +kernel,by decide +kernel⟩
theorem BD{f fs:Addr}{fd ds:FuncData} (F:Fun K "_law_grown" "_law_grown" de f fd) (G_law_step:Cal P w K mg base 2 "_law_step" ["cell","ends","turns","rings","places"] zw fs ds):FnOk P w K mg base CX0 3 f fd ["cells","places"] (pR K):=by
 refine F.ok dy (fun vs H Q E h=>?_) (fun cdv A outer s H vs Q E hr h=>?_)
 ·obtain⟨a,P,cs,rfl,_⟩:=h
  rfl
 obtain⟨a,P,cs,rfl,hS,h62,P2,kk⟩:=h
 have hcl:(cs.map V.int).length=cs.length:=D3 _
 refine⟨_,(af (aw (i:=2) dy.nd rfl (Or.inl rfl) (bh (aa (eX (aa ag (aa ag ah))) ah)))
   (af (aw (i:=3) dy.nd rfl (Or.inl rfl) (bh (aa (bh (aa ag ah)) (aa (bh (aa ag ah)) ah))))
   (af (aw (i:=4) dy.nd rfl (Or.inl rfl) (bh (aa (bh (aa ag (aa ag ah))) ah)))
   (af (c7 PassesOwn.never rfl (cu (pv 0)) (a9 (i:=5) dy.nd rfl (Or.inl rfl)) (aj (aC (aI G_law_step.ok (hr.mono (by decide)) rfl G_law_step.mg G_law_step.kp G_law_step.bn .nil bz (aa (pv 5) (aa (pv 2) (aa (pv 3) (aa (pv 4) (aa (pv 1) ah)))))))))
   (aj (bQ (eX (aa (pv 2) (aa (pv 3) (aa (pv 4) ah)))))))))),?_⟩
 refine⟨(by show 2<=sizeLine;decide),fun t0 ht0=>⟨(by show 1<=sizeLine;decide),fun pe hpe=>?_⟩⟩
 refine⟨(by show 1<=sizeLine;decide),fun p0 hp0=>⟨(by show 1<=sizeLine;decide),fun p1 hp1=>⟨(by show 2<=sizeLine;decide),fun pt hpt=>?_⟩⟩⟩
 refine⟨(by show 2<=sizeLine;decide),fun r0 hr0=>⟨(by show 1<=sizeLine;decide),fun pr hpr=>?_⟩⟩
 have s1:=ai ht0 (.tup [.int 0,.int 1])
 have s2:=ai hpe (.lst [.ref t0])
 have s3:=ai hp0 (.lst [.int 0])
 have s4:=ai hp1 (.lst [.int 0])
 have s5:=ai hpt (.lst [.ref p0,.ref p1])
 have s6:=ai hr0 (.lst [.int 0,.int 1])
 have s7:=ai hpr (.lst [.ref r0])
 have s12:=s1.trans s2
 have s13:=s12.trans s3
 have s14:=s13.trans s4
 have s15:=s14.trans s5
 have s16:=s15.trans s6
 have s17:=s16.trans s7
 have s37:=((s3.trans s4).trans s5).trans (s6.trans s7)
 have s47:=(s4.trans s5).trans (s6.trans s7)
 have s57:=s5.trans (s6.trans s7)
 have s67:=s6.trans s7
 have l_t0:=(s2.trans s37) _ _ (ae (a:=t0) (o:=.tup [.int 0,.int 1]))
 have l_pe:=s37 _ _ (ae (a:=pe) (o:=.lst [.ref t0]))
 have l_p0:=s47 _ _ (ae (a:=p0) (o:=.lst [.int 0]))
 have l_p1:=s57 _ _ (ae (a:=p1) (o:=.lst [.int 0]))
 have l_pt:=s67 _ _ (ae (a:=pt) (o:=.lst [.ref p0,.ref p1]))
 have l_r0:=s7 _ _ (ae (a:=r0) (o:=.lst [.int 0,.int 1]))
 have n_pe:=bH s1 hpe
 have n_p0:=bH s12 hp0
 have n_p1:=bH s13 hp1
 have n_pt:=bH s14 hpt
 have n_r0:=bH s15 hr0
 have n_pr:=bH s16 hpr
 have d1:∀{x:Addr}{G G':Hp}{o:HO},G x=some o->Same G G'->∀{y},G' y=none->y≠x:=fun h s y z e=>by
  rw[e,s _ _ h]at z;cases z
 have e1:p0≠pe:=d1 ae (fun _ _ z=>z) hp0
 have e2:p1≠pe:=d1 ae s3 hp1
 have e3:pt≠pe:=d1 ae (s3.trans s4) hpt
 have e4:r0≠pe:=d1 ae ((s3.trans s4).trans s5) hr0
 have e5:pr≠pe:=d1 ae (((s3.trans s4).trans s5).trans s6) hpr
 have e6:p1≠p0:=d1 ae (fun _ _ z=>z) hp1
 have e7:pt≠p0:=d1 ae s4 hpt
 have e8:r0≠p0:=d1 ae (s4.trans s5) hr0
 have e9:pr≠p0:=d1 ae ((s4.trans s5).trans s6) hpr
 have e10:pt≠p1:=d1 ae (fun _ _ z=>z) hpt
 have e11:r0≠p1:=d1 ae s5 hr0
 have e12:pr≠p1:=d1 ae (s5.trans s6) hpr
 have e13:r0≠pt:=d1 ae (fun _ _ z=>z) hr0
 have e14:pr≠pt:=d1 ae s6 hpr
 have e15:pr≠r0:=d1 ae (fun _ _ z=>z) hpr
 have C0:GwC (fun p=>H p≠none) (upd (upd (upd (upd (upd (upd (upd H t0 (.tup [.int 0,.int 1])) pe (.lst [.ref t0])) p0 (.lst [.int 0])) p1 (.lst [.int 0])) pt (.lst [.ref p0,.ref p1])) r0 (.lst [.int 0,.int 1])) pr (.lst [.ref r0])) pe pt pr [.ref t0] [.ref p0,.ref p1] [.ref r0] [(0,1)] [[0],[0]] [[0,1]]:=by
  refine⟨l_pe,⟨rfl,fun i e z=>?_⟩,l_pt,⟨rfl,fun i l z=>?_⟩,fun i j p z1 z2=>?_,ae,⟨rfl,fun i l z=>?_⟩,⟨Ne.symm e3,Ne.symm e5,Ne.symm e14,fun z=>z n_pe,fun z=>z n_pt,fun z=>z n_pr⟩,fun p sp z=>sp (bH s17 z)⟩
  ·match i,z with
   |0,z=>cases z;exact⟨t0,rfl,l_t0⟩
   |i+1,z=>cases z
  ·match i,z with
   |0,z=>cases z;exact⟨p0,rfl,by rintro(y | y | y | y);exact e1 y;exact e7 y.symm;exact e9 y.symm;exact y n_p0,l_p0⟩
   |1,z=>cases z;exact⟨p1,rfl,by rintro(y | y | y | y);exact e2 y;exact e10 y.symm;exact e12 y.symm;exact y n_p1,l_p1⟩
   |i+2,z=>cases z
  ·match i,z1,j,z2 with
   |0,z1,0,z2=>rfl
   |1,z1,1,z2=>rfl
   |0,z1,1,z2=>cases z1;cases z2;exact absurd rfl e6
   |1,z1,0,z2=>cases z1;cases z2;exact absurd rfl e6
   |i+2,z1,_,_=>cases z1
   |0,_,j+2,z2=>cases z2
   |1,_,j+2,z2=>cases z2
  ·match i,z with
   |0,z =>
    cases z
    refine⟨r0,rfl,?_,l_r0⟩
    rintro((y | y | y) | y | y)
    ·exact e4 y
    ·exact e13 y
    ·exact e15 y.symm
    ·have:r0=p0∨r0=p1:=by simpa using y
     rcases this with y | y
     ·exact e8 y
     ·exact e11 y
    ·exact y n_r0
   |i+1,z=>cases z
 refine⟨_,rfl,a,rfl,⟨_,s17.seq hS⟩,fg (xs:=cs.map V.int) (fun i σ H5=>∃ v5 m es ts rg,σ = [some (.ref a),some (.int (P:Int)),some (.ref pe),some (.ref pt),some (.ref pr),v5]/\Same H H5/\GwA (fun p=>H p≠none) H5 pe pt pr m es ts rg/\0<es.length/\es.length<=i+1/\m<=P)
  ⟨_,2,[(0,1)],[[0],[0]],[[0,1]],rfl,s17,⟨⟨_,_,_,C0⟩,gr_two,Bu⟩,Nat.one_pos,Ea _,P2⟩ (fun i σ H5 _ ⟨_,_,_,_,_,_,z,_⟩=>z.seq hS) ?_ ?_⟩
 ·rintro i x σ H5 hx ⟨v5,m,es,ts,rg,rfl,s5,gw,e0,ei,mP⟩
  rw[D9]at hx
  obtain⟨c,hc,rfl⟩:=EO.mp hx
  have hil:i<cs.length:=(DZ.mp hc).1
  refine⟨_,rfl,_,rfl,_,rfl,_,rfl,_,rfl,_,c,pe,pt,pr,P,m,es,ts,rg,rfl,gw,e0,by omega +splitDisjunctions,mP,fun m' es' ts' rg' H' kp gw' l1 l2 mP'=>?_⟩
  exact⟨_,m',es',ts',rg',rfl,kp.same s5,gw',by omega +splitDisjunctions,by omega +splitDisjunctions,mP'⟩
 ·rintro σ H5 ⟨v5,m,es,ts,rg,rfl,s5,gw,e0,ei,mP⟩
  rw[hcl]at ei
  refine⟨_,rfl,_,rfl,_,rfl,(by show 3<=sizeLine;decide),fun t ht=>?_⟩
  have sn:=ai ht (.tup [.ref pe,.ref pt,.ref pr])
  obtain⟨⟨ys,xs,zs,C⟩,g,part⟩:=gw
  exact kk t pe pt pr m es ts rg _ (s5.trans sn) ae ⟨⟨ys,xs,zs,C.same sn⟩,g,part⟩ e0 ei mP
end
end K8
namespace K8
open PySem L2
local macro_rules | `(tactic| walk_at "cc") => `(tactic| first | exact ⟨by decide, by decide⟩ | (show (0 : Int) < _; decide) | (show (0 : Int) < _; omega) | (show (0 : Int) ≤ _; omega) | exact ⟨by decide, by decide, by decide⟩ | exact ⟨by omega, by omega, by decide⟩ | exact Or.inl ⟨by decide, by decide⟩ | exact Or.inl ⟨by omega, by omega⟩)
local macro_rules | `(tactic| walk_at "rd") => `(tactic| repeat (first | refine ⟨_, rfl, ?_⟩ | refine ⟨_, _, rfl, rfl, ?_⟩ | refine ⟨rfl, ?_⟩ | (refine ⟨?cc, ?_⟩; (case cc => walk_at "cc"))))
def cutp(c:Int)(p n:Nat):Nat:=(c%1009*((p:Int)+1)%(n:Int)).toNat
def rowN(c:Int)(o2:List Nat)(p:Nat)(l:List Nat):List Nat:=(l.drop (cutp c p (max 1 l.length))++l.take (cutp c p (max 1 l.length))).map (ofL o2)
def en2(o1 o2:List Nat)(es:En):En:=(Gu es.length).map fun j=>(ofL o1 ((es[o2.idxOf j]?).getD (0,0)).1,ofL o1 ((es[o2.idxOf j]?).getD (0,0)).2)
def ts2(c:Int)(o1 o2:List Nat)(ts:List (List Nat)):List (List Nat):=(Gu ts.length).map fun j=>rowN c o2 (o1.idxOf j) ((ts[o1.idxOf j]?).getD [])
theorem Ay{o:List Nat}(nd:o.Nodup){k:Nat}(h:k<o.length):o.idxOf (ofL o k)=k:=by
 have e:o[k]?=some (ofL o k):=by unfold ofL;rw[D1 h];rfl
 exact xn nd (qN (D4 e)) e
theorem ren_of{m:Nat}{es:En}{ts:List (List Nat)}{c:Int}{o1 o2:List Nat}(w:aZ m es ts)(l1:o1.length=m)(n1:o1.Nodup)(b1:∀ x∈o1,x<m)(l2:o2.length=es.length)(n2:o2.Nodup)(b2:∀ x∈o2,x<es.length) :
  Ren m es (en2 o1 o2 es) ts (ts2 c o1 o2 ts) (ofL o1) (ofL o2):=by
 have B1:=xJ l1 n1 b1
 have B2:=xJ l2 n2 b2
 refine⟨B1,B2,by simp[en2],by simp[ts2,w.len],fun k e h=>?_,fun p l h=>?_⟩
 ·have hk:=(DZ.mp h).1
  unfold en2
  rw[D9,Fp (B2.lt k hk)]
  show some (ofL o1 ((es[o2.idxOf (ofL o2 k)]?).getD (0,0)).1,ofL o1 ((es[o2.idxOf (ofL o2 k)]?).getD (0,0)).2)=_
  rw[Ay n2 (by omega),h]
  rfl
 ·have hp:p<m:=by rw[← w.len];exact(DZ.mp h).1
  refine⟨l.take (cutp c p (max 1 l.length)),l.drop (cutp c p (max 1 l.length)),(Es _ _).symm,?_⟩
  unfold ts2
  rw[D9,Fp (by rw[w.len];exact B1.lt p hp)]
  show some (rowN c o2 (o1.idxOf (ofL o1 p)) ((ts[o1.idxOf (ofL o1 p)]?).getD []))=_
  rw[Ay n1 (by omega),h]
  rfl
theorem cut_hi{xs:List V}{c:Nat}(h:c<=xs.length):cutV xs (some (c:Int)) none=xs.drop c:=by
 unfold cutV
 rw[HT.sIx_nat,Fc h]
 show(xs.drop c).take (xs.length-c)=_
 exact EM (by rw[Eu];exact Ea _)
theorem cut_lo{xs:List V}{c:Nat}(h:c<=xs.length):cutV xs none (some (c:Int))=xs.take c:=by
 unfold cutV
 rw[HT.sIx_nat,Fc h]
 show(xs.drop 0).take (c-0)=_
 rw[F0,Nat.sub_zero]
structure WebP(H:Hp)(pe pt:Addr)(m:Nat)(es:En)(ts:List (List Nat)):Prop where
 en:∃ ys,H pe=some (.lst ys)/\bJ H ys es
 tu:∃ xs,H pt=some (.lst xs)/\bq H xs ts
 w:aZ m es ts
theorem at30{u v x:V}:atI [u,v,x] 0=some u:=rfl
theorem at31{u v x:V}:atI [u,v,x] 1=some v:=rfl
theorem at32{u v x:V}:atI [u,v,x] 2=some x:=rfl
structure TxtM(mg:Str->Option Value):Prop extends Txt mg where
 n_max:mg "max" = none
def Bc(H:Hp)(pr:Addr)(rg:List (List Nat)):Prop:=∃ zs,H pr=some (.lst zs)/\bq H zs rg
theorem Br{m:Nat}{es es2:En}{ts ts2 rs:List (List Nat)}{π σ:Nat->Nat}(R:Ren m es es2 ts ts2 π σ)(w:aZ m es ts)(p:Part (fol es ts) (2*es.length) rs):Part (fol es2 ts2) (2*es2.length) (rs.map (FF (Phi σ))):=by
 have flt:∀ d∈rs.flatten,d<2*es.length:=fun d hd=>by
  obtain⟨r,h1,h2⟩:=EZ.mp hd
  exact(p.cr r h1).lt d h2
 have hfl:(rs.map (FF (Phi σ))).flatten=rs.flatten.map (Phi σ):=List.map_flatten.symm
 refine⟨fun q hq=>?_,?_,fun d hd=>?_⟩
 ·obtain⟨r,hr,rfl⟩:=EW.mp hq
  have c:=p.cr r hr
  obtain⟨x,l,rfl,ch⟩:=c.ch
  refine⟨⟨Phi σ x,l.map (Phi σ),rfl,nB ch fun t ht=>R.fol w (c.lt t ht)⟩,fun d hd=>?_,mL c.nd fun a ha b hb=>Bd R.si (c.lt a ha) (c.lt b hb)⟩
  obtain⟨t,ht,rfl⟩:=EW.mp hd
  have h1:=c.lt t ht
  have h2:=R.si.lt (t/2) (by omega)
  rw[R.l1]
  unfold Phi
  omega
 ·rw[hfl]
  exact mL p.nd fun a ha b hb=>Bd R.si (flt a ha) (flt b hb)
 ·rw[R.l1]at hd
  obtain⟨k,hk,e⟩:=R.si.sur (d/2) (by omega)
  rw[hfl]
  refine EW.mpr ⟨2*k+d%2,p.all _ (by omega),?_⟩
  unfold Phi
  rw[show(2*k+d%2)/2=k by omega,e]
  omega
def zy:Sp:=fun vs H Q _=>∃(t pe pt pr:Addr)(c:Int)(m:Nat)(es:En)(ts rg:List (List Nat)),vs = [.ref t,.int c]/\H t=some (.tup [.ref pe,.ref pt,.ref pr])/\WebP H pe pt m es ts/\Bc H pr rg/\rg.length<=200/\(∀ r∈rg,r.length<=200/\∀ d∈r,d<2*es.length)/\m<=80/\es.length<=70 /\
 ∀(t' pe' pt' pr':Addr)(es':En)(ts':List (List Nat))(π σ:Nat->Nat)(H':Hp),Same H H'->H' t'=some (.tup [.ref pe',.ref pt',.ref pr'])->WebP H' pe' pt' m es' ts'->Ren m es es' ts ts' π σ->Q (.ref t') H'
section
variable{P:Program}{w:World}{K:D5}{mg:Str->Option Value}{base:Heap}
theorem aD:aY ["grown","cell","places","ties","ends","k","turns","p","row","cut","rings","ring"] ["grown","cell"] (au bt):=⟨rfl,rfl,rfl,by decide +kernel,rfl,by decide +kernel,by decide +kernel⟩
theorem ok_ren{f fo:Addr}{fd fdo:FuncData} (F:Fun K "_law_renumbered" "_law_renumbered" bt f fd) (T:TxtM mg) (G_law_order:Cal P w K mg base 1 "_law_order" ["cell","many"] uy fo fdo):FnOk P w K mg base CX0 2 f fd ["grown","cell"] zy:=by
 refine F.ok aD (fun vs H Q E h=>?_) (fun cdv A outer s H vs Q E hr h=>?_)
 ·obtain⟨t,pe,pt,pr,c,m,es,ts,rg,rfl,_⟩:=h
  rfl
 obtain⟨t,pe,pt,pr,c,m,es,ts,rg,rfl,ht,⟨⟨ys,hpe,en⟩,⟨xs,hpt,tu⟩,g⟩,⟨us,hpr,ru⟩,rgl,ringp,mf,h31,kk⟩:=h
 have w':=g
 have hyl:ys.length=es.length:=en.1
 have hxl:xs.length=m:=by rw[tu.1,w'.len]
 refine⟨_,(af (aw (i:=2) aD.nd rfl (Or.inl rfl) (aI G_law_order.ok (hr.mono (by decide)) rfl G_law_order.mg G_law_order.kp G_law_order.bn .nil bz (aa (pv 1) (aa (av ak (by rfl) T.n_len aU (aa (aN bg (pv 0) ag (fun _ _=>rfl)) ah)) ah))))
   (af (aw (i:=3) aD.nd rfl (Or.inr rfl) (aI G_law_order.ok (hr.mono (by decide)) rfl G_law_order.mg G_law_order.kp G_law_order.bn .nil bz (aa (ao br (pv 1) ag) (aa (av ak (by rfl) T.n_len aU (aa (aN bg (pv 0) ag (fun _ _=>rfl)) ah)) ah))))
   (af (aw (i:=4) aD.nd rfl (Or.inl rfl) (gF fm (by rfl) T.n_list nP (aa (aN bg (pv 0) ag (fun _ _=>rfl)) ah)))
   (af (c7 PassesOwn.never rfl (cR rfl T.n_range (aa (av ak (by rfl) T.n_len aU (aa (pv 4) ah)) ah)) (a9 (i:=5) aD.nd rfl (Or.inl rfl)) (aj (gy (eX (aa (aN aE (pv 2) (aN bg (aN aE (aN bg (pv 0) ag (fun _ _=>rfl)) (pv 5) (fun _ _=>rfl)) ag (fun _ _=>rfl)) (fun _ _=>rfl)) (aa (aN aE (pv 2) (aN bg (aN aE (aN bg (pv 0) ag (fun _ _=>rfl)) (pv 5) (fun _ _=>rfl)) ag (fun _ _=>rfl)) (fun _ _=>rfl)) ah))) (jH (pv 4) (aN aE (pv 3) (pv 5) (fun _ _=>rfl)) dU))))
   (af (aw (i:=6) aD.nd rfl (Or.inl rfl) (gF fm (by rfl) T.n_list nP (aa (aN bg (pv 0) ag (fun _ _=>rfl)) ah)))
   (af (c7 PassesOwn.never rfl (cR rfl T.n_range (aa (av ak (by rfl) T.n_len aU (aa (pv 6) ah)) ah)) (a9 (i:=7) aD.nd rfl (Or.inl rfl)) (af (j8 (i:=8) rfl aD.nd rfl rfl (fr:=[("ties",3)]) (by exact c6.one (by rfl) (by decide +kernel) (by rfl) (by decide +kernel) (by rfl) (by decide +kernel) (by rfl) (by rfl) (by decide +kernel) (by rfl)) (cu (aN aE (aN bg (pv 0) ag (fun _ _=>rfl)) (pv 7) (fun _ _=>rfl))) (fun C ex s H=>(aN (xC (K:=K) rfl) (pv 1) (pv 0) (fun _ _=>rfl))))
   (af (aw (i:=9) aD.nd rfl (Or.inl rfl) (ao aT (ao bD (ao aT (pv 1) ag) (ao aO (pv 7) ag)) (av (A0 rfl) (by rfl) T.n_max bt_max (aa ag (aa (av ak (by rfl) T.n_len aU (aa (pv 8) ah)) ah)))))
   (aj (gy (ao op_cat (bw bP (pv 8) (bB (pv 9)) cQ) (bw bP (pv 8) cQ (bB (pv 9)))) (jH (pv 6) (aN aE (pv 2) (pv 7) (fun _ _=>rfl)) dU))))))
   (af (aw (i:=10) aD.nd rfl (Or.inl rfl) (bh ah))
   (af (c7 PassesOwn.never rfl (cu (aN bg (pv 0) ag (fun _ _=>rfl))) (a9 (i:=11) aD.nd rfl (Or.inl rfl)) (aj (aC (cv Eb Ej Ei aP (pv 10) (aa (kb rfl (fr:=[("ties",3)]) (by exact c6.one (by rfl) (by decide +kernel) (by rfl) (by decide +kernel) (by rfl) (by decide +kernel) (by rfl) (by rfl) (by decide +kernel) (by rfl)) (cu (pv 11)) (fun C ex s H=>(ao aO (ao bD ag (aN (xC (K:=K) rfl) (pv 1) (ao br (pv 0) ag) (fun _ _=>rfl))) (ao aT (pv 0) ag)))) ah)))))
   (aj (bQ (eX (aa (pv 4) (aa (pv 6) (aa (pv 10) ah)))))))))))))),?_⟩
 refine⟨_,rfl,_,rfl,t,_,1,_,rfl,rfl,SqT.of ht,at31,pt,xs,rfl,.inl (SqL.of hpt),c,m,(by rw[hxl];rfl),by omega +splitDisjunctions,fun q1 o1 H1 s1 _ h1 l1 n1 b1=>?_⟩
 refine⟨_,rfl,_,_,rfl,rfl,⟨by decide,by decide⟩,_,rfl,t,_,0,_,rfl,rfl,SqT.of (s1 _ _ ht),at30,pe,ys,rfl,.inl (SqL.of (s1 _ _ hpe)),_,es.length,(by rw[hyl];rfl),by omega +splitDisjunctions,fun q2 o2 H2 s2 _ h2' l2 n2 b2=>?_⟩
 have s12:=s1.trans s2
 have R:=ren_of (c:=c) w' l1 n1 b1 l2 n2 b2
 have h1':=s2 _ _ h1
 refine⟨_,rfl,t,_,0,_,rfl,rfl,SqT.of (s12 _ _ ht),at30,pe,ys,rfl,.inl (SqL.of (s12 _ _ hpe)),fun qe hqe=>?_⟩
 have s3:=ai hqe (.lst ys)
 have s13:=s12.trans s3
 have h23:=s3 _ _ h2'
 have h13:=s3 _ _ h1'
 have get1:∀ k,k<m->(o1.map iV)[k]?=some (iV (ofL o1 k)):=fun k hk=>by
  rw[D9];unfold ofL;rw[D1 (by omega +splitDisjunctions)];rfl
 have get2:∀ k,k<es.length->(o2.map iV)[k]?=some (iV (ofL o2 k)):=fun k hk=>by
  rw[D9];unfold ofL;rw[D1 (by omega +splitDisjunctions)];rfl
 have hqe0:H qe=none:=by
  cases y:H qe with
  |none=>rfl
  |some o=>rw[s12 _ _ y]at hqe;cases hqe
 refine⟨_,rfl,qe,ys,rfl,.inl (SqL.of ae),_,rfl,by omega +splitDisjunctions,by omega +splitDisjunctions,dz (n:=(ys.length:Int).toNat) (fun i σ H5=>∃ v5 v6 v7 v8 v9 v10 v11 zs,σ = [some (.ref t),some (.int c),some (.ref q1),some (.ref q2),some (.ref qe),v5,v6,v7,v8,v9,v10,v11]/\Same H2 H5/\H5 qe=some (.lst zs)/\zs.length=es.length/\∀(k:Nat)(e:Nat×Nat),k<i->es[k]?=some e->∃ p,zs[ofL o2 k]?=some (.ref p)/\H5 p=some (.tup [iV (ofL o1 e.1),iV (ofL o1 e.2)]))
  ⟨_,_,_,_,_,_,_,ys,rfl,s3,ae,hyl,fun k e z=>absurd z (FU _)⟩ ?_ ?_⟩
 ·rintro i σ H5 hi ⟨v5,v6,v7,v8,v9,v10,v11,zs,rfl,s5,hz,zl,inv⟩
  rw[EN,hyl]at hi
  have e0:(0:Int)+(i:Int)=(i:Int):=FR _
  rw[e0]
  have s15:=s12.trans s5
  obtain⟨e,he⟩:∃ e,es[i]?=some e:=⟨_,D1 hi⟩
  obtain⟨p,x1,x2⟩:=(en.mono s15).2 i e he
  obtain⟨a1,a2,_⟩:=w'.ends e (D4 he)
  have b2':=R.si.lt i hi
  refine⟨_,rfl,_,rfl,t,_,0,_,rfl,rfl,SqT.of (s15 _ _ ht),at30,_,rfl,pe,ys,_,_,rfl,rfl,SqL.of (s15 _ _ hpe),aJ x1,p,_,0,_,rfl,rfl,SqT.of x2,at0,q1,_,_,_,rfl,rfl,SqL.of (s5 _ _ h1'),aJ (get1 _ a1),_,rfl,_,rfl,t,_,0,_,rfl,rfl,SqT.of (s15 _ _ ht),at30,_,rfl,pe,ys,_,_,rfl,rfl,SqL.of (s15 _ _ hpe),aJ x1,p,_,1,_,rfl,rfl,SqT.of x2,at1,q1,_,_,_,rfl,rfl,SqL.of (s5 _ _ h1'),aJ (get1 _ a2),(by show 2<=sizeLine;decide),fun tt htt=>?_⟩
  have sn:=ai htt (.tup [iV (ofL o1 e.1),iV (ofL o1 e.2)])
  refine⟨_,rfl,_,rfl,_,rfl,q2,_,_,_,rfl,rfl,SqL.of (sn _ _ (s5 _ _ h2')),aJ (get2 _ hi),qe,zs,_,ofL o2 i,rfl,rfl,sn _ _ hz,eR (by omega +splitDisjunctions),?_⟩
  refine⟨_,_,_,_,_,_,_,_,rfl,bO (s5.trans sn) hqe _,ae,by rw[EF];exact zl,fun k e' hk hek=>?_⟩
  by_cases z:k=i
  ·subst z
   rw[he]at hek
   cases hek
   exact⟨tt,by rw[EG,if_pos rfl,if_pos (by omega +splitDisjunctions)],by rw[aq (fun z=>by rw[z,hz]at htt;cases htt)];exact ae⟩
  ·obtain⟨p',u1,u2⟩:=inv k e' (by omega +splitDisjunctions) hek
   have hkl:k<es.length:=(DZ.mp hek).1
   refine⟨p',by rw[EG,if_neg (fun y=>z (R.si.inj _ _ hkl hi y.symm))];exact u1,?_⟩
   rw[aq (fun z=>by rw[z,hz]at u2;cases u2)]
   exact sn _ _ u2
 rintro σ H5 ⟨v5,v6,v7,v8,v9,v10,v11,zs,rfl,s5,hz,zl,inv⟩
 rw[EN,hyl]at inv
 have s15:=s12.trans s5
 have enN:bJ H5 zs (en2 o1 o2 es):=⟨by rw[zl,R.l1],fun j x h=>by
  obtain⟨k,e,rfl,h4,rfl⟩:=R.es' h
  exact inv k e (DZ.mp h4).1 h4⟩
 refine⟨_,rfl,t,_,1,_,rfl,rfl,SqT.of (s15 _ _ ht),at31,pt,xs,rfl,.inl (SqL.of (s15 _ _ hpt)),fun qt hqt=>?_⟩
 have s6:=ai hqt (.lst xs)
 have s16:=s15.trans s6
 refine⟨_,rfl,qt,xs,rfl,.inl (SqL.of ae),_,rfl,by omega +splitDisjunctions,by omega +splitDisjunctions,dz (n:=(xs.length:Int).toNat) (fun i σ H7=>∃ v5 v7 v8 v9 v10 v11 ws,σ = [some (.ref t),some (.int c),some (.ref q1),some (.ref q2),some (.ref qe),v5,some (.ref qt),v7,v8,v9,v10,v11]/\Same H5 H7/\H7 qt=some (.lst ws)/\ws.length=m/\∀(p:Nat)(l:List Nat),p<i->ts[p]?=some l->∃ q,ws[ofL o1 p]?=some (.ref q)/\H7 q=some (.lst ((rowN c o2 p l).map iV))/\q≠qt)
  ⟨_,_,_,_,_,_,xs,rfl,s6,ae,hxl,fun k e z=>absurd z (FU _)⟩ ?_ ?_⟩
 ·rintro i σ H7 hi ⟨w5,w7,w8,w9,w10,w11,ws,rfl,s7,hw,wl,inv2⟩
  rw[EN,hxl]at hi
  have e0:(0:Int)+(i:Int)=(i:Int):=FR _
  rw[e0]
  have s17:=s15.trans s7
  have s27:=s5.trans s7
  obtain⟨l,hl⟩:∃ l,ts[i]?=some l:=⟨_,D1 (by rw[w'.len];exact hi)⟩
  obtain⟨p,x1,x2⟩:=(tu.mono s17).2 i l hl
  have llt:∀ k∈l,k<es.length:=fun k hk=>jI w' hl hk
  have lle:l.length<=es.length:=eP (w'.nd _ _ hl) llt
  have llen:(l.map iV).length=l.length:=D3 _
  refine⟨_,rfl,t,_,1,_,rfl,rfl,SqT.of (s17 _ _ ht),at31,_,rfl,pt,xs,_,_,rfl,rfl,SqL.of (s17 _ _ hpt),aJ x1,p,rfl,⟨_,SqL.of x2⟩,eU (K:=K) (xs:=l.map iV) (fun j zs H8=>H8=H7/\zs=((l.map (ofL o2)).map iV).take j) (by rw[llen];exact ER (ar (by omega +splitDisjunctions))) ⟨rfl,rfl⟩ (fun j zs H8 _ z=>z.1▸SqL.of x2) ?_ ?_⟩
  ·rintro j x zs H8 hx ⟨rfl,rfl⟩
   rw[D9]at hx
   obtain⟨k,hk,rfl⟩:=EO.mp hx
   refine⟨_,rfl,_,rfl,q2,_,_,_,rfl,rfl,SqL.of (s27 _ _ h2'),aJ (get2 _ (llt k (D4 hk))),rfl,?_⟩
   rw[EV,D9,D9,hk]
   rfl
  rintro zs H8 hzl ⟨rfl,rfl⟩ D hD
  rw[llen,EM (by rw[D3,D3];exact Ea _)]
  have sD:=ai hD (.lst ((l.map (ofL o2)).map iV))
  have dlen:((l.map (ofL o2)).map iV).length=l.length:=by rw[D3,D3]
  have dpos:(0:Int)<((max 1 l.length:Nat):Int):=by omega +splitDisjunctions
  have mx1:(if(((l.map (ofL o2)).map iV).length:Int) > 1 then(((l.map (ofL o2)).map iV).length:Int) else 1)=((max 1 l.length:Nat):Int):=by rw[dlen];split<;>omega +splitDisjunctions
  have c0:=Fd c (show(1009:Int)≠0 by decide)
  have c1:=Fe c (show(0:Int)<1009 by decide)
  refine⟨_,rfl,_,_,rfl,rfl,(by show(0:Int)<1009;decide),_,rfl,_,_,rfl,rfl,_,_,rfl,rfl,.inl ⟨by show -(2^64:Int)<c%1009;omega +splitDisjunctions,by show c%1009<(2^64:Int);omega +splitDisjunctions⟩,_,rfl,D,_,rfl,.inl (SqL.of ae),_,_,rfl,_,_,rfl,rfl,(by rw[mx1];exact dpos),?_⟩
  rw[mx1]
  have u0:=Fd (c%1009*((i:Int)+1)) (show((max 1 l.length:Nat):Int)≠0 by omega +splitDisjunctions)
  have u1:=Fe (c%1009*((i:Int)+1)) dpos
  have hcut:c%1009*((i:Int)+1)%((max 1 l.length:Nat):Int)=((cutp c i (max 1 l.length):Nat):Int):=by
   unfold cutp
   exact(FQ u0).symm
  have cle:cutp c i (max 1 l.length)<=((l.map (ofL o2)).map iV).length:=by omega +splitDisjunctions
  refine⟨_,rfl,_,rfl,_,rfl,D,_,rfl,SqL.of ae,fun b1' hb1=>?_⟩
  rw[hcut,cut_hi cle]
  have sB:=ai hb1 (.lst (((l.map (ofL o2)).map iV).drop (cutp c i (max 1 l.length))))
  refine⟨_,rfl,_,rfl,_,rfl,D,_,rfl,SqL.of (sB _ _ ae),fun b2' hb2=>?_⟩
  rw[hcut,cut_lo cle]
  have sC:=ai hb2 (.lst (((l.map (ofL o2)).map iV).take (cutp c i (max 1 l.length))))
  refine⟨b1',b2',_,_,rfl,rfl,sC _ _ ae,ae,by rw[Eu,Eg];exact ER (ar (by omega +splitDisjunctions)),fun b3 hb3=>?_⟩
  have hrow:((l.map (ofL o2)).map iV).drop (cutp c i (max 1 l.length))++((l.map (ofL o2)).map iV).take (cutp c i (max 1 l.length))=(rowN c o2 i l).map iV:=by
   unfold rowN
   rw[EX,EX,FD,FD,FC,FC]
  rw[hrow]
  have sE:=ai hb3 (.lst ((rowN c o2 i l).map iV))
  have sAll:=((sD.trans sB).trans sC).trans sE
  refine⟨_,rfl,_,rfl,_,rfl,q1,_,_,_,rfl,rfl,SqL.of (sAll _ _ (s27 _ _ h1')),aJ (get1 _ hi),qt,ws,_,ofL o1 i,rfl,rfl,sAll _ _ hw,eR (by rw[wl];exact R.pi.lt i hi),?_⟩
  have b3t:b3≠qt:=fun z=>by rw[z,((sD.trans sB).trans sC) _ _ hw]at hb3;cases hb3
  refine⟨_,_,_,_,_,_,_,rfl,bO (s7.trans sAll) hqt _,ae,by rw[EF];exact wl,fun p' l' hp' hl'=>?_⟩
  by_cases z:p'=i
  ·subst z
   rw[hl]at hl'
   cases hl'
   exact⟨b3,by rw[EG,if_pos rfl,if_pos (by rw[wl];exact R.pi.lt p' hi)],by rw[aq b3t];exact ae,b3t⟩
  ·obtain⟨q,u1,u2,u3⟩:=inv2 p' l' (by omega +splitDisjunctions) hl'
   have hpl:p'<m:=by rw[← w'.len];exact(DZ.mp hl').1
   exact⟨q,by rw[EG,if_neg (fun y=>z (R.pi.inj _ _ hpl hi y.symm))];exact u1,by rw[aq u3];exact sAll _ _ u2,u3⟩
 rintro σ H7 ⟨w5,w7,w8,w9,w10,w11,ws,rfl,s7,hw,wl,inv2⟩
 rw[EN,hxl]at inv2
 have tuN:bq H7 ws (ts2 c o1 o2 ts):=⟨by rw[wl,R.l2],fun j L h=>by
  have hj:j<m:=by rw[← R.l2];exact(DZ.mp h).1
  obtain⟨p,hp,rfl⟩:=R.pi.sur j hj
  obtain⟨l,hl⟩:∃ l,ts[p]?=some l:=⟨_,D1 (by rw[w'.len];exact hp)⟩
  obtain⟨q,z1,z2,_⟩:=inv2 p l hp hl
  refine⟨q,z1,?_⟩
  unfold ts2 at h
  rw[D9,Fp (by rw[w'.len];exact R.pi.lt p hp)]at h
  have h':some (rowN c o2 (o1.idxOf (ofL o1 p)) ((ts[o1.idxOf (ofL o1 p)]?).getD []))=some L:=h
  rw[Ay n1 (by omega +splitDisjunctions),hl]at h'
  cases h'
  exact z2⟩
 have s17:=s15.trans s7
 refine⟨(by show 0<=sizeLine;decide),fun qr hqr=>?_⟩
 have s8:=ai hqr (.lst [])
 have ru8:=ru.mono (s17.trans s8)
 have ul:us.length=rg.length:=ru.1
 have h2s:=s5.trans s7
 refine⟨_,rfl,t,_,2,_,rfl,rfl,SqT.of ((s17.trans s8) _ _ ht),at32,pr,rfl,⟨us,SqL.of ((s17.trans s8) _ _ hpr)⟩,fg (xs:=us) (fun i σ H9=>∃ v5 v7 v8 v9 v11 ws2,σ = [some (.ref t),some (.int c),some (.ref q1),some (.ref q2),some (.ref qe),v5,some (.ref qt),v7,v8,v9,some (.ref qr),v11]/\Same H7 H9/\H9 qr=some (.lst ws2)/\cD (fun p=>p=qr) H9 ws2 ((rg.map (FF (Phi (ofL o2)))).take i))
  ⟨_,_,_,_,_,[],rfl,s8,ae,⟨rfl,fun i l z=>by simp at z⟩⟩ (fun i σ H9 _ ⟨_,_,_,_,_,_,_,z,_⟩=>SqL.of ((s17.trans z) _ _ hpr)) ?_ ?_⟩
 ·rintro i x σ H9 hx ⟨w5',w7',w8',w9',w11',ws2,rfl,s9,hq9,rx9⟩
  have hi:i<rg.length:=by rw[← ul];exact(DZ.mp hx).1
  obtain⟨r,hr⟩:∃ r,rg[i]?=some r:=⟨_,D1 hi⟩
  obtain⟨p,x1,x2⟩:=(ru.mono (s17.trans s9)).2 i r hr
  rw[hx]at x1
  cases x1
  obtain⟨rl,rlt⟩:=ringp r (D4 hr)
  have rlen:(r.map iV).length=r.length:=D3 _
  have wsl:ws2.length=i:=by rw[rx9.1,Eg,D3];omega +splitDisjunctions
  refine⟨_,rfl,.inl ⟨rfl,_,SqL.of hq9⟩,_,rfl,p,rfl,⟨_,SqL.of x2⟩,eU (K:=K) (xs:=r.map iV) (fun j zs H8=>H8=H9/\zs=((r.map (Phi (ofL o2))).map iV).take j) (by rw[rlen];exact ER (ar (by omega +splitDisjunctions))) ⟨rfl,rfl⟩ (fun j zs H8 _ z=>z.1▸SqL.of x2) ?_ ?_⟩
  ·rintro j x zs H8 hx ⟨rfl,rfl⟩
   rw[D9]at hx
   obtain⟨d,hd,rfl⟩:=EO.mp hx
   have dl:=rlt d (D4 hd)
   have e2:(d:Int)/2=((d/2:Nat):Int):=by omega +splitDisjunctions
   refine⟨_,rfl,_,rfl,_,_,rfl,rfl,⟨by decide,by decide⟩,q2,_,_,_,rfl,rfl,SqL.of ((h2s.trans s9) _ _ h2'),(by rw[e2];exact aJ (get2 _ (by omega +splitDisjunctions))),_,_,rfl,rfl,.inl ⟨by decide,by decide⟩,_,rfl,_,_,rfl,rfl,(by show(0:Int)<2;decide),_,_,rfl,rfl,rfl,?_⟩
   rw[EV,D9,D9,hd]
   have:V.int (2*((ofL o2 (d/2):Nat):Int)+(d:Int)%2)=iV (Phi (ofL o2) d):=by
    unfold Phi iV
    congr 1
   simpa[iV] using this
  rintro zs H8 hzl ⟨rfl,rfl⟩ D hD
  rw[rlen,EM (by rw[D3,D3];exact Ea _)]
  have sD:=ai hD (.lst ((r.map (Phi (ofL o2))).map iV))
  have Dq:D≠qr:=fun z=>by rw[z,hq9]at hD;cases hD
  refine⟨qr,ws2,_,rfl,rfl,sD _ _ hq9,ar (by omega +splitDisjunctions),?_⟩
  have hqr7:H7 qr=none:=hqr
  refine⟨_,_,_,_,_,_,rfl,bO (s9.trans sD) hqr7 _,ae,?_⟩
  have tk:(rg.map (FF (Phi (ofL o2)))).take (i+1)=(rg.map (FF (Phi (ofL o2)))).take i++[r.map (Phi (ofL o2))]:=by
   rw[EV,D9,hr]
   rfl
  rw[tk]
  refine cD.mono (cD.snoc (cD.mono rx9 fun b u _ z=>sD _ _ z) Dq ae) fun b u n z=>?_
  rw[aq n]
  exact z
 rintro σ H9 ⟨w5',w7',w8',w9',w11',ws2,rfl,s9,hq9,rx9⟩
 rw[ul,EM (by rw[D3];exact Ea _)]at rx9
 have s19:=s17.trans s9
 refine⟨_,rfl,_,rfl,_,rfl,(by show 3<=sizeLine;decide),fun t' ht'=>?_⟩
 have sT:=ai ht' (.tup [.ref qe,.ref qt,.ref qr])
 have s79:=s9.trans sT
 exact kk t' qe qt qr (en2 o1 o2 es) (ts2 c o1 o2 ts) _ _ _ (s19.trans sT) ae ⟨⟨zs,s79 _ _ (s7 _ _ hz),(enN.mono s7).mono s79⟩,⟨ws,s79 _ _ hw,tuN.mono s79⟩,R.turn w'⟩ R
end
end K8
namespace K8
open PySem L2
local macro_rules | `(tactic| walk_at "cc") => `(tactic| first | exact ⟨by decide, by decide⟩ | (show (0 : Int) < _; decide) | (show (0 : Int) < _; omega) | (show (0 : Int) ≤ _; omega) | exact ⟨by decide, by decide, by decide⟩ | exact ⟨by omega, by omega, by decide⟩ | exact Or.inl ⟨by decide, by decide⟩ | exact Or.inl ⟨by omega, by omega⟩)
local macro_rules | `(tactic| walk_at "rd") => `(tactic| repeat (first | refine ⟨_, rfl, ?_⟩ | refine ⟨_, _, rfl, rfl, ?_⟩ | refine ⟨rfl, ?_⟩ | (refine ⟨?cc, ?_⟩; (case cc => walk_at "cc"))))
theorem andN(a b:Nat):Builtin.bitAnd (a:Int) (b:Int)=((a&&&b:Nat):Int):=by
 rw[PyProof.Rows.bitAnd_pp (Int.natCast_nonneg _) (Int.natCast_nonneg _),EN,EN]
theorem orN(a b:Nat):Builtin.bitOr (a:Int) (b:Int)=((a|||b:Nat):Int):=by
 rw[PyProof.Rows.bitOr_and,andN]
 have q:=PyProof.Rows.nat_or_add_and a b
 omega
theorem shlN(p:Nat):(1:Int)*2^((p:Nat):Int).toNat=((2^p:Nat):Int):=by
 rw[Int.one_mul,EN,Int.natCast_pow]
 rfl
theorem Bj{M p q:Nat}:(M&&&(2^p|||2^q)=0↔M.testBit p=false/\M.testBit q=false)/\(M|||(2^p|||2^q)=M->M.testBit p=true/\M.testBit q=true):=by
 have b1:∀ i,(2^p|||2^q).testBit i=(decide (p=i)||decide (q=i)):=fun i=>by rw[Gk,Gd,Gd]
 refine⟨⟨fun h=>?_,fun⟨h1,h2⟩=>?_⟩,fun h=>?_⟩
 ·have h1:=congrArg (fun z=>Hn z p) h
  have h2:=congrArg (fun z=>Hn z q) h
  simp only[Nat.testBit_and,b1,Nat.zero_testBit]at h1 h2
  constructor
  ·simpa using h1
  ·simpa using h2
 ·refine Nat.eq_of_testBit_eq fun i=>?_
  rw[Nat.testBit_and,b1,Nat.zero_testBit]
  by_cases z1:p=i
  ·subst z1;rw[h1];rfl
  ·by_cases z2:q=i
   ·subst z2;rw[h2];rfl
   ·simp[z1,z2]
 ·have h1:=congrArg (fun z=>Hn z p) h
  have h2:=congrArg (fun z=>Hn z q) h
  simp only[Gk (x:=M),b1]at h1 h2
  constructor
  ·simpa using h1.symm
  ·simpa using h2.symm
theorem AF{M m:Nat}(h:M<2^m)(k:∀ p,p<m->M.testBit p=true):M=2^m-1:=by
 refine Nat.eq_of_testBit_eq fun i=>?_
 rw[Hm]
 by_cases z:i<m
 ·rw[k i z,decide_eq_true z]
 ·rw[decide_eq_false z]
  exact Nat.testBit_lt_two_pow (EL h (Nat.pow_le_pow_right (by decide) (by omega)))
def Low(es:En)(M:Nat):Prop:=∀ S:Nat->Prop,(∀ e∈es,S e.1↔S e.2)->S 0->∀ x,M.testBit x=true->S x
theorem Dx{es:En}{M:Nat}{e:Nat×Nat}(h:Low es M)(he:e∈es)(n:¬ (M.testBit e.1=false/\M.testBit e.2=false)):Low es (M|||(2^e.1|||2^e.2)):=fun S cS s0 x hx=>by
 have old:=h S cS s0
 have both:S e.1/\S e.2:=by
  have k:=cS e he
  by_cases z:M.testBit e.1=true
  ·exact⟨old _ z,k.mp (old _ z)⟩
  ·by_cases y:M.testBit e.2=true
   ·exact⟨k.mpr (old _ y),old _ y⟩
   ·exact absurd ⟨Hc.mpr z,Hc.mpr y⟩ n
 rw[Gk,Gk,Gd,Gd]at hx
 rcases Bool.or_eq_true_iff.mp hx with z | z
 ·exact old x z
 ·rcases Bool.or_eq_true_iff.mp z with z | z
  ·rw[← of_decide_eq_true z];exact both.1
  ·rw[← of_decide_eq_true z];exact both.2
def uu(K:D5):Sp:=fun vs H Q _=>∃(a:Addr)(ys:List V)(m:Nat)(es:En),vs = [.int 0,.ref a]/\SqL K H a ys/\bJ H ys es/\(∀ e∈es,e.1<m/\e.2<m)/\1<=m/\m<=42/\∀ M:Nat,M<2^m->M.testBit 0=true->(∀ e∈es,M.testBit e.1=M.testBit e.2)->Low es M->Q (.int (M:Int)) H
section
variable{P:Program}{w:World}{K:D5}{mg:Str->Option Value}{base:Heap}
theorem cF:aY ["start","pairs","mask","ahead","one","two","ends"] ["start","pairs"] (au fF):=⟨rfl,rfl,rfl,by decide +kernel,rfl,by decide +kernel,by decide +kernel⟩
theorem yd{f:Addr}{fd:FuncData} (F:Fun K "reached" "reached" fF f fd):FnOk P w K mg base CX0 1 f fd ["start","pairs"] (uu K):=by
 refine F.ok cF (fun vs H Q E h=>?_) (fun cdv A outer s H vs Q E hr h=>?_)
 ·obtain⟨a,ys,m,es,rfl,_⟩:=h
  rfl
 obtain⟨a,ys,m,es,rfl,hS,hE,g,m2,m40,kk⟩:=h
 refine⟨_,(af (aw (i:=2) cF.nd rfl (Or.inl rfl) (ao xk ag (pv 0)))
   (af (aw (i:=3) cF.nd rfl (Or.inl rfl) ag)
   (af (xg PassesOwn.never (az se (pv 2) (pv 3) (aF _)) (af (aw (i:=3) cF.nd rfl (Or.inl rfl) (pv 2))
   (aj (c7 PassesOwn.never rfl (cu (pv 1)) (o3 rfl (bY (a9 (i:=4) cF.nd rfl (Or.inl rfl)) (bY (a9 (i:=5) cF.nd rfl (Or.inl rfl)) ka))) (af (aw (i:=6) cF.nd rfl (Or.inl rfl) (ao op_or (ao xk ag (pv 4)) (ao xk ag (pv 5))))
   (aj (bG (az se (ao op_and (pv 2) (pv 6)) ag (aF _)) (aj (aw (i:=2) cF.nd rfl (Or.inl rfl) (ao op_or (pv 2) (pv 6)))) bf)))))))
   (aj (bQ (pv 2)))))),?_⟩
 refine⟨_,rfl,_,_,rfl,rfl,⟨by decide,by decide,by decide⟩,?_⟩
 have p2:∀ p,p<m->2^p<2^m:=fun p hp=>Nat.pow_lt_pow_right (by decide) hp
 refine wW (fun σ H2=>∃(M Ah:Nat),∃ v4 v5 v6,H2=H/\σ = [some (.int 0),some (.ref a),some (.int (M:Int)),some (.int (Ah:Int)),v4,v5,v6]/\M.testBit 0=true/\M<2^m/\Low es M/\(M=Ah->∀ e∈es,M.testBit e.1=M.testBit e.2))
  (fun σ _=>match σ with | [_,_,some (.int M),some (.int Ah),_,_,_]=>2*((2^m:Nat)-M).toNat+(if M=Ah then 0 else 1) | _=>0) ⟨1,0,_,_,_,rfl,rfl,by decide,Nat.one_lt_two_pow (by omega),(fun S _ s0 x hx=>by
   have:x=0:=by
    cases x with
    |zero=>rfl
    |succ x=>rw[Nat.testBit_succ]at hx;simp at hx
   rw[this];exact s0),fun z=>absurd z (by decide)⟩ ?_ ?_
 ·rintro σ H2 ⟨M,Ah,v4,v5,v6,rfl,rfl,b0,hM,lw,cl⟩
  refine⟨_,rfl,_,rfl,rfl,_,rfl,?_⟩
  refine ite2 (fun c=>?_) (fun c=>?_)
  ·have c':M≠Ah:=fun z=>by
    rw[decide_eq_true (show V.int (M:Int)=V.int (Ah:Int) by rw[z])]at c
    cases c
   refine⟨_,rfl,?_⟩
   refine⟨_,rfl,a,rfl,⟨_,hS⟩,fg (K:=K) (xs:=ys) (fun i σ H3=>∃(M':Nat),∃ v4 v5 v6,H3=H2/\σ = [some (.int 0),some (.ref a),some (.int (M':Int)),some (.int (M:Int)),v4,v5,v6]/\M'.testBit 0=true/\M'<2^m/\Low es M'/\M<=M'/\(M'=M->∀(j:Nat)(e:Nat×Nat),j<i->es[j]?=some e->M.testBit e.1=M.testBit e.2)) ⟨M,_,_,_,rfl,rfl,b0,hM,lw,Ea _,fun _ j e z=>absurd z (FU _)⟩ (fun i σ H3 _ ⟨_,_,_,_,z,_⟩=>z▸hS) ?_ ?_⟩
   ·rintro i x σ H3 hx ⟨M',v4,v5,v6,rfl,rfl,b0',hM',lw',hle,cl'⟩
    have hi:i<es.length:=by rw[← hE.1];exact(DZ.mp hx).1
    obtain⟨e,he⟩:∃ e,es[i]?=some e:=⟨_,D1 hi⟩
    obtain⟨p,x1,x2⟩:=hE.2 i e he
    rw[hx]at x1
    cases x1
    obtain⟨e1,e2⟩:=g e (D4 he)
    obtain⟨t1,t2⟩:=Bj (M:=M') (p:=e.1) (q:=e.2)
    refine⟨p,_,rfl,SqT.of x2,rfl,_,_,rfl,_,_,rfl,rfl,?_⟩
    refine⟨_,rfl,_,_,rfl,rfl,⟨by omega,by omega,by decide⟩,_,rfl,_,_,rfl,rfl,⟨by omega,by omega,by decide⟩,_,_,rfl,rfl,?_⟩
    have eo:Builtin.bitOr (1*2^((e.1:Nat):Int).toNat) (1*2^((e.2:Nat):Int).toNat)=((2^e.1|||2^e.2:Nat):Int):=by rw[shlN,shlN,orN]
    refine⟨_,rfl,_,rfl,_,_,rfl,rfl,rfl,_,rfl,?_⟩
    have step:∀ M'':Nat,M'<=M''->(M''=M'->M'.testBit e.1=M'.testBit e.2)->M''=M->∀(j:Nat)(x:Nat×Nat),j<i+1->es[j]?=some x->M.testBit x.1=M.testBit x.2:=fun M'' h1 h2 h3 j x hj hx'=>by
     have e3:M'=M:=by omega
     by_cases z:j=i
     ·subst z
      rw[he]at hx'
      cases hx'
      have:=h2 (by omega)
      rwa[e3]at this
     ·exact cl' e3 j x (by omega) hx'
    refine ite2 (fun c=>?_) (fun c=>?_)
    ·refine⟨_,rfl,_,rfl,_,_,rfl,rfl,?_⟩
     refine⟨M'|||(2^e.1|||2^e.2),some (iV e.1),some (iV e.2),some (V.int (Builtin.bitOr (1*2^((e.1:Nat):Int).toNat) (1*2^((e.2:Nat):Int).toNat))),rfl,?_,?_,Nat.or_lt_two_pow hM' (Nat.or_lt_two_pow (p2 _ e1) (p2 _ e2)),?_,E7 hle Nat.left_le_or,step _ Nat.left_le_or fun z=>?_⟩
     ·show[some (V.int 0),some (V.ref a),some (V.int (Builtin.bitOr (M':Int) (Builtin.bitOr (1*2^((e.1:Nat):Int).toNat) (1*2^((e.2:Nat):Int).toNat)))),some (V.int (M:Int)),some (iV e.1),some (iV e.2),some (V.int (Builtin.bitOr (1*2^((e.1:Nat):Int).toNat) (1*2^((e.2:Nat):Int).toNat)))]=_
      rw[eo,orN]
     ·rw[Gk,b0'];rfl
     ·refine Dx lw' (D4 he) fun z=>?_
      have z2:=t1.mpr z
      have c2:(!decide (V.int (Builtin.bitAnd (M':Int) (Builtin.bitOr (1*2^((e.1:Nat):Int).toNat) (1*2^((e.2:Nat):Int).toNat)))=V.int 0))=true:=c
      rw[eo,andN,z2]at c2
      exact absurd c2 (by decide)
     ·obtain⟨u1,u2⟩:=t2 z
      rw[u1,u2]
    ·refine⟨M',_,_,_,rfl,rfl,b0',hM',lw',hle,step M' (Ea _) fun _=>?_⟩
     have c3:M'&&&(2^e.1|||2^e.2)=0:=by
      by_cases z:M'&&&(2^e.1|||2^e.2)=0
      ·exact z
      ·refine absurd ?_ c
       rw[decide_eq_false (fun y=>z ?_)]
       ·rfl
       ·have y':=V.int.inj y
        rw[eo,andN]at y'
        omega
     obtain⟨u1,u2⟩:=t1.mp c3
     rw[u1,u2]
   ·rintro σ H3 ⟨M',v4,v5,v6,rfl,rfl,b0',hM',lw',hle,cl'⟩
    rw[hE.1]at cl'
    refine⟨⟨M',M,_,_,_,rfl,rfl,b0',hM',lw',fun z e he=>?_⟩,?_⟩
    ·obtain⟨j,hj⟩:=EI.mp he
     have:=cl' z j e (DZ.mp hj).1 hj
     rw[z]
     exact this
    ·show 2*(((2^m:Nat):Int)-(M':Int)).toNat+(if(M':Int)=(M:Int) then 0 else 1)<2*(((2^m:Nat):Int)-(M:Int)).toNat+(if(M:Int)=(Ah:Int) then 0 else 1)
     rw[if_neg (show ¬ (M:Int)=(Ah:Int) from fun z=>c' (by omega))]
     have hMi:(M':Int)<((2^m:Nat):Int):=by exact_mod_cast hM'
     have hMj:(M:Int)<=(M':Int):=by omega
     generalize ((2^m:Nat):Int)=Z at hMi ⊢
     split<;>omega
  ·have c':M=Ah:=by
    by_cases z:M=Ah
    ·exact z
    ·exact absurd (by rw[decide_eq_false (fun y=>z (by have:=V.int.inj y;omega))];rfl) c
   exact⟨_,rfl,kk M hM b0 (cl c') lw⟩
 ·rintro σ H2 Q1 Q2 hi ⟨v',e,b',e2,z1,c',e3,q'⟩
  exact⟨v',e,b',e2,z1,c',e3,hi _ _ q'⟩
end
end K8
namespace K8
open PySem L2
local macro_rules | `(tactic| walk_at "cc") => `(tactic| first | exact ⟨by decide, by decide⟩ | (show (0 : Int) < _; decide) | (show (0 : Int) < _; omega) | (show (0 : Int) ≤ _; omega) | exact ⟨by decide, by decide, by decide⟩ | exact ⟨by omega, by omega, by decide⟩ | exact Or.inl ⟨by decide, by decide⟩ | exact Or.inl ⟨by omega, by omega⟩)
local macro_rules | `(tactic| walk_at "rd") => `(tactic| repeat (first | refine ⟨_, rfl, ?_⟩ | refine ⟨_, _, rfl, rfl, ?_⟩ | refine ⟨rfl, ?_⟩ | (refine ⟨?cc, ?_⟩; (case cc => walk_at "cc"))))
theorem oX:∀{a b:List Int},a.Perm b->a.Pairwise (·<=·)->b.Pairwise (·<=·)->a=b
 |[],b,h,_,_=>(List.nil_perm.mp h).symm▸rfl
 |x::a,[],h,_,_=>absurd h.length_eq (by simp)
 |x::a,y::b,h,pa,pb=>by
  obtain⟨a1,a2⟩:=G0.mp pa
  obtain⟨b1,b2⟩:=G0.mp pb
  have h1:x<=y:=by
   rcases Ec.mp (h.mem_iff.mpr (Eh ..):y∈x::a)with z | z
   ·rw[z];exact FA _
   ·exact a1 y z
  have h2:y<=x:=by
   rcases Ec.mp (h.mem_iff.mp (Eh ..):x∈y::b)with z | z
   ·rw[z];exact FA _
   ·exact b1 x z
  have e:x=y:=Int.le_antisymm h1 h2
  subst e
  rw[oX (List.Perm.cons_inv h) a2 b2]
def cI(l:List Nat):List Int:=l.map fun(p:Nat)=>((p:Nat):Int)
theorem cI_V(l:List Nat):(cI l).map V.int=l.map iV:=by unfold cI;rw[List.map_map];rfl
theorem CO{l r:List Nat}{out:List Int}(hp:out.Perm (cI l))(hs:out.Pairwise (·<=·))(nl:l.Nodup)(pr:r.Pairwise (· < ·))(hm:∀ t,t∈l↔t∈r):out=cI r:=by
 have nr:r.Nodup:=pr.imp fun h=>ES h
 have q:(cI l).Perm (cI r):=((Hs nl nr).mpr hm).map _
 refine oX (hp.trans q) hs ?_
 unfold cI
 exact List.Pairwise.map _ (fun a b h=>by omega) pr
theorem Av{l:List Nat}{n:Nat}:ins l l.length n=l++[n]:=by
 unfold ins
 rw[Fb,List.drop_length]
theorem AI{S:Addr->Prop}{H:Hp}{xs:List V}{ts:List (List Nat)}{q:Addr}(h:cD S H xs ts)(D:Dist xs)(hq:H q=none):Dist (xs++[.ref q]):=by
 have old:∀(j:Nat)(p:Addr),j<xs.length->(xs++[V.ref q])[j]?=some (.ref p)->xs[j]?=some (.ref p)/\p≠q:=fun j p hj e=>by
  rw[D8 hj]at e
  obtain⟨p',a1,_,a3⟩:=h.2 j _ (D1 (by rw[← h.1];exact hj))
  rw[e]at a1
  cases a1
  exact⟨e,ay a3 hq⟩
 have new:∀(j:Nat)(p:Addr),¬ j<xs.length->(xs++[V.ref q])[j]?=some (.ref p)->j=xs.length/\p=q:=fun j p hj e=>by
  have:=(DZ.mp e).1
  rw[D2,Ed]at this
  have hj2:j=xs.length:=by omega
  subst hj2
  rw[D6 (Ea _),EE]at e
  cases e
  exact⟨rfl,rfl⟩
 intro j k p e1 e2
 by_cases hj:j<xs.length
 ·obtain⟨u1,u2⟩:=old j p hj e1
  by_cases hk:k<xs.length
  ·exact D j k p u1 (old k p hk e2).1
  ·exact absurd (new k p hk e2).2 u2
 ·obtain⟨u1,u2⟩:=new j p hj e1
  by_cases hk:k<xs.length
  ·exact absurd u2 (old k p hk e2).2
  ·rw[u1,(new k p hk e2).1]
theorem wz{X:Cx}{K:D5}(h:X.K=K):og X (.builtin "sorted") (Cd K):=h▸yS
structure TxtG(mg:Str->Option Value)(BT BU BP NF:Addr):Prop extends Txt mg where
 g_BadTie:mg "BadTie" = some (.ref BT)
 g_BadTurns:mg "BadTurns" = some (.ref BU)
 g_Parted:mg "Parted" = some (.ref BP)
 g_NotFlat:mg "NotFlat" = some (.ref NF)
def eh(H:Hp)(zs:List V)(js:List (List Int)):Prop:=zs.length=js.length/\∀(i:Nat)(l:List Int),js[i]?=some l->∃ p,zs[i]?=some (.ref p)/\H p=some (.lst (l.map V.int))
theorem eh.mono{H H':Hp}{zs:List V}{js:List (List Int)}(h:eh H zs js)(s:Same H H'):eh H' zs js:=⟨h.1,fun i l e=>by
 obtain⟨p,a,b⟩:=h.2 i l e
 exact⟨p,a,s _ _ b⟩⟩
theorem eh.snoc{H:Hp}{zs:List V}{js:List (List Int)}{p:Addr}{l:List Int}(h:eh H zs js)(e:H p=some (.lst (l.map V.int))):eh H (zs++[.ref p]) (js++[l]):=by
 refine⟨by rw[D2,D2,h.1];rfl,fun j x hx=>?_⟩
 by_cases c:j<js.length
 ·rw[D8 c]at hx
  obtain⟨q,a,b⟩:=h.2 j x hx
  exact⟨q,by rw[D8 (by rw[h.1];exact c)];exact a,b⟩
 ·have e2:j=js.length:=by
   have:=(DZ.mp hx).1
   rw[D2,Ed]at this
   omega
  subst e2
  rw[D6 (Ea _),EE]at hx
  cases hx
  exact⟨p,by rw[← h.1,D6 (Ea _),EE];rfl,e⟩
def dI(js:List (List Int)):PyData:=.list (js.map fun l=>PyData.list (l.map PyData.int))
theorem eh.rd{K:D5}{H:Hp}{a:Addr}{zs:List V}{js:List (List Int)}(h:SqL K H a zs)(r:eh H zs js):RdD K H (.ref a) (dI js):=by
 refine RdD.lst h (by rw[D3];exact r.1) fun i x d e1 e2=>?_
 rw[D9]at e2
 obtain⟨l,hl,rfl⟩:=EO.mp e2
 obtain⟨p,a1,a2⟩:=r.2 i l hl
 rw[e1]at a1
 cases a1
 refine RdD.lst (SqL.of a2) (by rw[D3,D3]) fun j y e q1 q2=>?_
 rw[D9]at q1 q2
 cases z:l[j]? with
 |none=>rw[z]at q1;cases q1
 |some n=>rw[z]at q1 q2;cases q1;cases q2;exact .int _
theorem nz(js:List (List Int)):SeqAt.shaped (dI js)=true:=by
 refine mE fun d hd=>?_
 obtain⟨l,_,rfl⟩:=EW.mp hd
 have a:PyData.canLayAll0 (l.map PyData.int)=true:=gX fun d hd=>by
  obtain⟨p,_,rfl⟩:=EW.mp hd
  simp[PyData.canLay0]
 have b:PyData.depthAll (l.map PyData.int)<=2:=jt fun d hd=>by
  obtain⟨p,_,rfl⟩:=EW.mp hd
  simp[PyData.depth]
 constructor
 ·simp[PyData.canLay0,a]
 ·simp only[PyData.depth];omega
theorem eqv_dI:∀ a b:List (List Int),PyData.eqv (dI a) (dI b)=decide (a=b):=fun a b=>by
 have all:∀ a b:List (List Int),PyData.eqvAll (a.map fun l=>PyData.list (l.map PyData.int)) (b.map fun l=>PyData.list (l.map PyData.int))=decide (a=b):=fun a=>by
  induction a with
  |nil =>
   intro b
   cases b with
   |nil=>simp[PyData.eqvAll]
   |cons y b=>simp[PyData.eqvAll]
  |cons x a ih =>
   intro b
   cases b with
   |nil=>simp[PyData.eqvAll]
   |cons y b =>
    rw[EU,EU]
    simp only[PyData.eqvAll,xG,ih b]
    by_cases h:x=y
    ·by_cases h2:a=b
     ·simp[h,h2]
     ·simp[h,h2]
    ·simp[h]
 rw[← all]
 simp only[dI,PyData.eqv]
def Mt(m:Nat)(es:En)(js:List (List Int)):Prop:=∃ rows,aZ m es rows/\js.length=rows.length/\∀(i:Nat)(l:List Int)(r:List Nat),js[i]?=some l->rows[i]?=some r->l.Perm (cI r)
def ux(K:D5)(BT:Addr):Sp:=fun vs H Q E=>∃(a:Addr)(xs:List V)(m:Nat)(es:En),vs = [.int (m:Int),.ref a]/\SqL K H a xs/\bF K H xs es/\((∀ e∈es,e.1<m/\e.2<m)->Q .non H)/\((¬ ∀ e∈es,e.1<m/\e.2<m)->E (.ref BT) none H)
def pN(K:D5)(BU:Addr):Sp:=fun vs H Q E=>∃(a b:Addr)(xs zs:List V)(m:Nat)(es:En)(js:List (List Int)),vs = [.int (m:Int),.ref a,.ref b]/\SqL K H a xs/\bF K H xs es/\SqL K H b zs/\eh H zs js/\(∀ e∈es,e.1<m/\e.2<m/\e.1≠e.2)/\es.length<=70/\m<=80/\js.length<=90/\∀ H',Same H H'->(Mt m es js->Q .non H')/\(¬ Mt m es js->E (.ref BU) none H')
def uw(K:D5)(BP:Addr):Sp:=fun vs H Q E=>∃(a:Addr)(xs:List V)(m:Nat)(es:En),vs = [.int (m:Int),.ref a]/\SqL K H a xs/\bF K H xs es/\(∀ e∈es,e.1<m/\e.2<m)/\1<=m/\m<=42/\es.length<=70/\∀ M:Nat,M<2^m->M.testBit 0=true->(∀ e∈es,M.testBit e.1=M.testBit e.2)->Low es M->∀ H',Same H H'->(M=2^m-1->Q .non H')/\(M≠2^m-1->E (.ref BP) none H')
section
variable{P:Program}{w:World}{K:D5}{mg:Str->Option Value}{base:Heap}
theorem iO:aY ["many","ties","tie"] ["many","ties"] (au bV):=⟨rfl,rfl,rfl,by decide +kernel,rfl,by decide +kernel,by decide +kernel⟩
theorem Bz{f BT BU BP NF:Addr}{fd:FuncData} (F:Fun K "refuse_ends" "refuse_ends" bV f fd) (T:TxtG mg BT BU BP NF) (ecT:ExC K BT):FnOk P w K mg base (CXd P w) 1 f fd ["many","ties"] (ux K BT):=by
 refine F.okD iO (fun vs H Q E h=>?_) (fun cdv A outer s H vs Q E hr h=>?_)
 ·obtain⟨a,xs,m,es,rfl,_⟩:=h
  rfl
 obtain⟨a,xs,m,es,rfl,hS,hT,k,ke⟩:=h
 have one:(1:Nat)<=sizeLine:=by decide
 refine⟨_,(aj (c7 PassesOwn.leaving rfl (cu (pv 1)) (a9 (i:=2) iO.nd rfl (Or.inl rfl)) (aj (bG (PW.pt (zJ (az Df (iQ (pv 2) rfl) (pv 0) (aF _)) (rX (az Df (iQ (pv 2) rfl) (pv 0) (aF _))))) (aj (jG ecT T.g_BadTie rfl i4 rfl rfl (aa xh ah))) bf)))),?_⟩
 refine⟨_,rfl,a,rfl,⟨_,hS⟩,fg (K:=K) (xs:=xs) (fun i σ H2=>∃ v2,σ = [some (.int (m:Int)),some (.ref a),v2]/\H2=H/\∀ e∈es.take i,e.1<m/\e.2<m) ⟨_,rfl,rfl,fun e he=>by rw[Hx]at he;cases he⟩ (fun i σ H2 _ ⟨_,_,z,_⟩=>z▸hS) ?_ ?_⟩
 ·rintro i x σ H2 hx ⟨v2,rfl,rfl,al⟩
  have hi:i<es.length:=by rw[← hT.1];exact(DZ.mp hx).1
  obtain⟨e,he⟩:∃ e,es[i]?=some e:=⟨_,D1 hi⟩
  obtain⟨p,C,dx,st,x1,x2,x3⟩:=hT.2 i e he
  rw[hx]at x1
  cases x1
  refine⟨_,rfl,p,C,dx,_,_,rfl,x2,x3.cl,x3.n1,oV _ _ _,_,rfl,_,_,rfl,rfl,_,rfl,ite2 (fun c=>?_) (fun c=>?_)⟩
  ·have c':(e.1:Int) ≥ (m:Int):=of_decide_eq_true c
   exact iteT ⟨one,ke fun z=>by have:=(z e (D4 he)).1;omega⟩
  have c1:¬ (e.1:Int) ≥ (m:Int):=fun z=>c (decide_eq_true z)
  refine⟨_,rfl,p,C,dx,_,_,rfl,x2,x3.cl,x3.n2,wZ _ _ _,_,rfl,_,_,rfl,rfl,_,rfl,ite2 (fun c=>?_) (fun c=>?_)⟩
  ·have c':(e.2:Int) ≥ (m:Int):=of_decide_eq_true c
   exact⟨one,ke fun z=>by have:=(z e (D4 he)).2;omega⟩
  have c2:¬ (e.2:Int) ≥ (m:Int):=fun z=>c (decide_eq_true z)
  refine⟨_,rfl,rfl,fun x hx'=>?_⟩
  rw[EV,he]at hx'
  rcases Ee.mp hx' with z | z
  ·exact al x z
  ·rw[E6.mp z];exact⟨by omega,by omega⟩
 ·rintro σ H2 ⟨v2,rfl,rfl,al⟩
  rw[hT.1,Fb]at al
  exact k al
theorem cO:aY ["many","ties","turns","ending","number","tie"] ["many","ties","turns"] (au bK):=⟨rfl,rfl,rfl,by decide +kernel,rfl,by decide +kernel,by decide +kernel⟩
theorem z0{f BT BU BP NF:Addr}{fd:FuncData} (F:Fun K "refuse_turns" "refuse_turns" bK f fd) (T:TxtG mg BT BU BP NF) (ecU:ExC K BU):FnOk P w K mg base (CXd P w) 1 f fd ["many","ties","turns"] (pN K BU):=by
 refine F.okD cO (fun vs H Q E h=>?_) (fun cdv A outer s H vs Q E hr h=>?_)
 ·obtain⟨a,b,xs,zs,m,es,js,rfl,_⟩:=h
  rfl
 obtain⟨a,b,xs,zs,m,es,js,rfl,hS,hT,hB,hR,w',few,m40,jl,kk⟩:=h
 have hu64:=hr.units
 refine⟨_,(af (j8 (i:=3) rfl cO.nd rfl rfl (fr:=[]) (by exact c6.plain (by rfl) (by decide +kernel) (by rfl) (by decide +kernel) (by rfl) (by decide +kernel)) (cR rfl T.n_range (aa (pv 0) ah)) (fun C ex s H=>(bh ah)))
   (af (c7 PassesOwn.leaving rfl (zR rfl T.n_enumerate (aa (pv 1) ah)) (o3 rfl (bY (a9 (i:=4) cO.nd rfl (Or.inl rfl)) (bY (a9 (i:=5) cO.nd rfl (Or.inl rfl)) ka))) (af (aC (cv Eb Ej Ei aP (aN aE (pv 3) (iQ (pv 5) rfl) (fun _ _=>rfl)) (aa (pv 4) ah)))
   (aj (aC (cv Eb Ej Ei aP (aN aE (pv 3) (iQ (pv 5) rfl) (fun _ _=>rfl)) (aa (pv 4) ah))))))
   (aj (bG (az (op_neG hu64) (kb rfl (fr:=[]) (by exact c6.plain (by rfl) (by decide +kernel) (by rfl) (by decide +kernel) (by rfl) (by decide +kernel)) (cu (pv 2)) (fun C ex s H=>(av (wz (K:=K) rfl) (by rfl) T.n_sorted A4 (aa (pv 0) ah)))) (pv 3) (aF _)) (aj (jG ecU T.g_BadTurns rfl i4 rfl rfl (aa xh ah))) bf)))),?_⟩
 refine⟨_,rfl,_,rfl,by omega,by omega,pd (n:=(m:Int).toNat) (fun i ys H2=>Same H H2/\cD (fun p=>H p≠none) H2 ys (GW i [])/\Dist ys) (by rw[EN];exact ER (ar (by omega))) ⟨fun _ _ e=>e,⟨rfl,fun i l e=>by simp at e⟩,fun i j p e=>by simp at e⟩ ?_ ?_⟩
 ·rintro i ys H2 hi ⟨s2,rx,D⟩
  refine⟨(by show 0<=sizeLine;decide),fun l hl=>?_⟩
  have s3:=ai hl (.lst [])
  refine⟨s2.trans s3,?_,AI rx D hl⟩
  rw[List.replicate_succ']
  refine(rx.mono fun b u _ z=>s3 _ _ z).snoc (fun z=>z ?_) ae
  cases y:H l with
  |none=>rfl
  |some o=>rw[s2 _ _ y]at hl;cases hl
 rintro ys H2 hyl ⟨s2,rx,D⟩ pn hpn
 rw[EN]at rx
 have s3:=ai hpn (.lst ys)
 have hpn0:H pn=none:=by
  cases y:H pn with
  |none=>rfl
  |some o=>rw[s2 _ _ y]at hpn;cases hpn
 have rx3:cD (fun p=>p=pn∨H p≠none) (upd H2 pn (.lst ys)) ys (GW m []):=⟨rx.1,fun i l z=>by
  obtain⟨p,a1,a2,a3⟩:=rx.2 i l z
  have n2:p≠pn:=ay a3 hpn
  exact⟨p,a1,by rintro(y | y);exact n2 y;exact a2 y,s3 _ _ a3⟩⟩
 refine⟨_,rfl,a,rfl,⟨_,(s2.trans s3).seq hS⟩,xD (K:=K) (xs:=xs) (fun i σ H5=>∃ v4 v5 rows,σ = [some (.int (m:Int)),some (.ref a),some (.ref b),some (.ref pn),v4,v5]/\Same H H5/\H5 pn=some (.lst ys)/\cD (fun p=>p=pn∨H p≠none) H5 ys rows/\aZ m (es.take i) rows/\∀ r∈rows,r.Pairwise (· < ·))
  ⟨_,_,_,rfl,s2.trans s3,ae,rx3,Bk m,fun r hr=>by rw[(List.mem_replicate.mp hr).2];exact Hb⟩ (fun i σ H5 _ ⟨_,_,_,_,z,_⟩=>z.seq hS) ?_ ?_⟩
 ·rintro i x σ H5 T2 hx ⟨v4,v5,rows,rfl,s5,hpn5,rx5,w5,pw⟩ hT2
  have hi:i<es.length:=by rw[← hT.1];exact(DZ.mp hx).1
  obtain⟨e,he⟩:∃ e,es[i]?=some e:=⟨_,D1 hi⟩
  obtain⟨p,C,dx,st,x1,x2,x3⟩:=hT.2 i e he
  rw[hx]at x1
  cases x1
  have sT:=ai hT2 (.tup [.int (i:Int),.ref p])
  have s6:=s5.trans sT
  have x6:=s6 _ _ x2
  obtain⟨e1,e2,e3⟩:=w' e (D4 he)
  have til:(es.take i).length=i:=by rw[Eg];omega
  have rlen:=w5.len
  obtain⟨l,hl⟩:∃ l,rows[e.1]?=some l:=⟨_,D1 (by omega)⟩
  obtain⟨l',hl'⟩:∃ l,rows[e.2]?=some l:=⟨_,D1 (by omega)⟩
  have rx6:cD (fun p=>p=pn∨H p≠none) (upd H5 T2 (.tup [.int (i:Int),.ref p])) ys rows:=rx5.mono fun b u _ z=>sT _ _ z
  obtain⟨p1,y1,y2,y3⟩:=rx6.2 _ _ hl
  obtain⟨p2,z1,z2,z3⟩:=rx6.2 _ _ hl'
  have no_S:∀{p:Addr},¬ (p=pn∨H p≠none)->H p=none/\p≠pn:=fun{p} n=>by
   refine⟨?_,fun z=>n (.inl z)⟩
   cases y:H p with
   |none=>rfl
   |some o=>exact absurd (.inr (by rw[y];exact fun z=>nomatch z)) n
  obtain⟨hp1,np1⟩:=no_S y2
  obtain⟨hp2,np2⟩:=no_S z2
  have n12:p2≠p1:=fun y=>by rw[y]at z1;exact e3 (D _ _ p1 y1 z1)
  have ll:∀{q:Nat}{r:List Nat},rows[q]?=some r->∀ t∈r,t<i:=fun{q r} h t ht=>by
   have:=jI w5 h ht
   omega
  have lle:∀{q:Nat}{r:List Nat},rows[q]?=some r->r.length<=70:=fun{q r} h=>by
   have:=eP (w5.nd _ _ h) (ll h)
   omega
  have f1:=lle hl
  have f2:=lle hl'
  have hpn6:=sT _ _ hpn5
  refine⟨T2,_,rfl,SqT.of ae,rfl,_,_,rfl,_,_,rfl,rfl,?_⟩
  refine⟨_,rfl,_,rfl,p,C,dx,_,_,rfl,x6,x3.cl,x3.n1,oV _ _ _,pn,ys,_,_,rfl,rfl,SqL.of hpn6,aJ y1,.inl ⟨rfl,_,SqL.of y3⟩,_,rfl,p1,_,_,rfl,rfl,y3,ar (by rw[D3];omega),?_⟩
  have e1':(l.map iV)++[V.int (i:Int)]=(l++[i]).map iV:=by rw[EX];rfl
  rw[e1']
  have x7:(upd (upd H5 T2 (.tup [.int (i:Int),.ref p])) p1 (.lst ((l++[i]).map iV))) p=some (.ins C dx (tf (e.1:Int) (e.2:Int) st)):=by rw[aq (fun z=>by rw[z]at x2;rw[x2]at hp1;cases hp1)];exact x6
  have hpn7:(upd (upd H5 T2 (.tup [.int (i:Int),.ref p])) p1 (.lst ((l++[i]).map iV))) pn=some (.lst ys):=by rw[aq np1.symm];exact hpn6
  have z7:(upd (upd H5 T2 (.tup [.int (i:Int),.ref p])) p1 (.lst ((l++[i]).map iV))) p2=some (.lst (l'.map iV)):=by rw[aq n12];exact z3
  refine⟨_,rfl,_,rfl,p,C,dx,_,_,rfl,x7,x3.cl,x3.n2,wZ _ _ _,pn,ys,_,_,rfl,rfl,SqL.of hpn7,aJ z1,.inl ⟨rfl,_,SqL.of z7⟩,_,rfl,p2,_,_,rfl,rfl,z7,ar (by rw[D3];omega),?_⟩
  have e2':(l'.map iV)++[V.int (i:Int)]=(l'++[i]).map iV:=by rw[EX];rfl
  rw[e2']
  refine⟨_,_,(rows.set e.1 (l++[i])).set e.2 (l'++[i]),rfl,bO (bO s6 hp1 _) hp2 _,by rw[aq np2.symm];exact hpn7,(rx6.set D y1).set D z1,?_,fun r hr=>?_⟩
  ·have q:=w5.put (k:=l.length) (j:=l'.length) e1 e2 e3 hl hl'
   rw[Av,Av,til]at q
   rw[EV,he]
   exact q
  ·have app:∀{q:Nat}{r:List Nat},rows[q]?=some r->(r++[i]).Pairwise (· < ·):=fun{q r} h=>E2.mpr ⟨pw r (D4 h),GA _ _,fun x hx y hy=>by
    have:=ll h x hx
    have:y=i:=by simpa using hy
    omega⟩
   rcases Hz hr with z | z
   ·rcases Hz z with z | z
    ·exact pw r z
    ·rw[z];exact app hl
   ·rw[z];exact app hl'
 rintro σ H5 ⟨v4,v5,rows,rfl,s5,hpn5,rx5,w5,pw⟩
 rw[hT.1,Fb]at w5
 have hzl:zs.length=js.length:=hR.1
 refine⟨_,rfl,b,rfl,⟨_,s5.seq hB⟩,eU (K:=K) (xs:=zs) (fun i vs H6=>Same H5 H6/\∃ os:List (List Int),eh H6 vs os/\os.length=i/\∀(j:Nat)(l o:List Int),js[j]?=some l->os[j]?=some o->o.Perm l/\o.Pairwise (·<=·)) (ER (ar (by omega))) ⟨fun _ _ e=>e,[],⟨rfl,fun i l e=>by simp at e⟩,rfl,fun j l o _ e=>by simp at e⟩ (fun i vs H6 _ z=>(s5.trans z.1).seq hB) ?_ ?_⟩
 ·rintro i x vs H6 hx ⟨s6,os,rz,ol,pm⟩
  have hi:i<js.length:=by rw[← hR.1];exact(DZ.mp hx).1
  obtain⟨l,hl⟩:∃ l,js[i]?=some l:=⟨_,D1 hi⟩
  obtain⟨p,a1,a2⟩:=(hR.mono (s5.trans s6)).2 i l hl
  rw[hx]at a1
  cases a1
  refine⟨_,rfl,p,l,rfl,SqL.of a2,fun q out hq hp hs=>?_⟩
  have s7:=ai hq (.lst (out.map V.int))
  refine⟨s6.trans s7,os++[out],(rz.mono s7).snoc ae,by rw[D2,ol];rfl,fun j l' o h1 h2=>?_⟩
  by_cases c:j<os.length
  ·rw[D8 c]at h2
   exact pm j l' o h1 h2
  ·have e2:j=os.length:=by
    have:=(DZ.mp h2).1
    rw[D2,Ed]at this
    omega
   subst e2
   rw[D6 (Ea _),EE]at h2
   cases h2
   rw[ol,hl]at h1
   cases h1
   exact⟨hp,hs⟩
 rintro vs H6 _ ⟨s6,os,rz,ol,pm⟩ D' hD'
 rw[hzl]at ol
 have s7:=ai hD' (.lst vs)
 have s67:=s6.trans s7
 have rd2:eh (upd H6 D' (.lst vs)) ys (rows.map cI):=⟨by rw[D3];exact rx5.1,fun i l e=>by
  rw[D9]at e
  obtain⟨r,hr',rfl⟩:=EO.mp e
  obtain⟨p,a1,_,a2⟩:=rx5.2 i r hr'
  exact⟨p,a1,by rw[cI_V];exact s67 _ _ a2⟩⟩
 obtain⟨kq,ke⟩:=kk _ (s5.trans s67)
 refine⟨_,rfl,_,_,eh.rd (SqL.of ae) (rz.mono s7),eh.rd (SqL.of (s67 _ _ hpn5)) rd2,nz _,nz _,_,rfl,?_⟩
 rw[eqv_dI]
 have key:os=rows.map cI↔Mt m es js:=by
  constructor
  ·intro e
   refine⟨rows,w5,by rw[← ol,e,D3],fun i l r hl hr'=>?_⟩
   have:=pm i l (cI r) hl (by rw[e,D9,hr'];rfl)
   exact this.1.symm
  ·rintro⟨rows',wr,ln,pr⟩
   refine FY fun i=>?_
   by_cases c:i<js.length
   ·obtain⟨l,hl⟩:∃ l,js[i]?=some l:=⟨_,D1 c⟩
    obtain⟨o,ho⟩:∃ o,os[i]?=some o:=⟨_,D1 (by omega)⟩
    obtain⟨r',hr1⟩:∃ r,rows'[i]?=some r:=⟨_,D1 (by omega)⟩
    obtain⟨r,hr2⟩:∃ r,rows[i]?=some r:=⟨_,D1 (by rw[w5.len,← wr.len];omega)⟩
    obtain⟨q1,q2⟩:=pm i l o hl ho
    rw[ho,D9,hr2]
    exact congrArg some (CO (q1.trans (pr i l r' hl hr1)) q2 (wr.nd _ _ hr1) (pw r (D4 hr2)) fun t=>(wr.mem i r' hr1 t).trans (w5.mem i r hr2 t).symm)
   ·rw[Fj (by omega),Fj (by rw[D3,w5.len,← wr.len];omega)]
 by_cases z:os=rows.map cI
 ·rw[decide_eq_true z]
  exact iteF (kq (key.mp z))
 ·rw[decide_eq_false z]
  exact iteT ⟨(by decide:(1:Nat)<=sizeLine),ke fun y=>z (key.mpr y)⟩
theorem lQ:aY ["many","ties"] ["many","ties"] (au bA):=⟨rfl,rfl,rfl,by decide +kernel,rfl,by decide +kernel,by decide +kernel⟩
theorem By{f fr BT BU BP NF:Addr}{fd fdr:FuncData} (F:Fun K "refuse_parted" "refuse_parted" bA f fd) (T:TxtG mg BT BU BP NF) (ecP:ExC K BP) (G_reached:Cal P w K mg base 1 "reached" ["start","pairs"] (uu K) fr fdr):FnOk P w K mg base (CXd P w) 2 f fd ["many","ties"] (uw K BP):=by
 refine F.okD lQ (fun vs H Q E h=>?_) (fun cdv A outer s H vs Q E hr h=>?_)
 ·obtain⟨a,xs,m,es,rfl,_⟩:=h
  rfl
 obtain⟨a,xs,m,es,rfl,hS,hT,g,m2,m40,few,kk⟩:=h
 have hul:xs.length=es.length:=hT.1
 refine⟨_,(aj (bG (az se (aI G_reached.ok (hr.mono (by decide)) rfl G_reached.mg G_reached.kp G_reached.bn .nil bz (aa ag (aa (kb rfl (fr:=[]) (by exact c6.plain (by rfl) (by decide +kernel) (by rfl) (by decide +kernel) (by rfl) (by decide +kernel)) (cu (pv 1)) (fun C ex s H=>(eX (aa (zU (K:=K) rfl (pv 0) rfl) (aa (zU (K:=K) rfl (pv 0) rfl) ah))))) ah))) (ao lB (ao xk ag (pv 0)) ag) (aF _)) (aj (jG ecP T.g_Parted rfl i4 rfl rfl (aa xh ah))) bf)),?_⟩
 refine⟨_,rfl,a,rfl,⟨_,hS⟩,eU (K:=K) (xs:=xs) (fun i zs H11=>Same H H11/\bJ H11 zs (es.take i)) (ER (ar (by omega))) ⟨fun _ _ e=>e,rfl,fun i l e=>by simp at e⟩ (fun i zs H11 _ z=>z.1.seq hS) ?_ ?_⟩
 ·rintro i x zs H11 hx ⟨s11,ez⟩
  have hi:i<es.length:=by rw[← hT.1];exact(DZ.mp hx).1
  obtain⟨e,he⟩:∃ e,es[i]?=some e:=⟨_,D1 hi⟩
  obtain⟨p,C,dx,st,a1,a2,a3⟩:=(hT.mono s11).2 i e he
  rw[hx]at a1
  cases a1
  refine⟨_,rfl,p,C,dx,_,_,rfl,a2,a3.cl,a3.n1,oV _ _ _,_,rfl,p,C,dx,_,_,rfl,a2,a3.cl,a3.n2,wZ _ _ _,(by show 2<=sizeLine;decide),fun g hg=>?_⟩
  have s12:=ai hg (.tup [iV e.1,iV e.2])
  refine⟨s11.trans s12,?_⟩
  rw[show es.take (i+1)=es.take i++[e] by rw[EV,he];rfl]
  exact(ez.mono s12).snoc ae
 rintro zs H11 _ ⟨s11,ez⟩ D hD
 rw[hT.1,Fb]at ez
 have s12:=ai hD (.lst zs)
 refine⟨D,zs,m,es,rfl,SqL.of ae,ez.mono s12,g,m2,m40,fun M hM b0 cl lw=>?_⟩
 obtain⟨kq,ke⟩:=kk M hM b0 cl lw _ (s11.trans s12)
 refine⟨_,rfl,_,_,rfl,rfl,⟨by omega,by omega,by decide⟩,_,_,rfl,rfl,rfl,_,rfl,?_⟩
 have e2:(1:Int)*2^((m:Nat):Int).toNat-1=((2^m-1:Nat):Int):=by
  have:=Nat.two_pow_pos m
  rw[shlN]
  omega
 have dc:decide (V.int (M:Int)=V.int (1*2^((m:Nat):Int).toNat-1))=decide (M=2^m-1):=by
  rw[e2]
  by_cases z:M=2^m-1
  ·rw[decide_eq_true z,z,decide_eq_true rfl]
  ·rw[decide_eq_false z,decide_eq_false (fun y=>z (by have:=V.int.inj y;omega))]
 show(if(!decide (V.int (M:Int)=V.int (1*2^((m:Nat):Int).toNat-1)))=true then _ else _)
 rw[dc]
 by_cases z:M=2^m-1
 ·rw[decide_eq_true z]
  exact iteF (kq z)
 ·rw[decide_eq_false z]
  exact iteT ⟨(by decide:(1:Nat)<=sizeLine),ke z⟩
end
end K8
namespace K8
open PySem L2
local macro_rules | `(tactic| walk_at "cc") => `(tactic| first | exact ⟨by decide, by decide⟩ | (show (0 : Int) < _; decide) | (show (0 : Int) < _; omega) | (show (0 : Int) ≤ _; omega) | exact ⟨by decide, by decide, by decide⟩ | exact ⟨by omega, by omega, by decide⟩ | exact Or.inl ⟨by decide, by decide⟩ | exact Or.inl ⟨by omega, by omega⟩)
local macro_rules | `(tactic| walk_at "rd") => `(tactic| repeat (first | refine ⟨_, rfl, ?_⟩ | refine ⟨_, _, rfl, rfl, ?_⟩ | refine ⟨rfl, ?_⟩ | (refine ⟨?cc, ?_⟩; (case cc => walk_at "cc"))))
structure CW(K:D5)(C:Addr):Prop where
 cl:Cls K C
 n1:ft K C "many"
 n2:ft K C "ties"
 n3:ft K C "turns"
 n4:ft K C "rounds"
 n5:ft K C "sides"
theorem iu(k:Str)(v:V):∀ fs:List (Str×V),(putF k v fs).length<=fs.length+1
 |[]=>Ea _
 | (a,b)::r=>by
  show(if a=k then(a,v)::r else(a,b)::putF k v r).length<=_
  have:=iu k v r
  split<;>simp only[ET]<;>omega
theorem none_of{H H':Hp}{b:Addr}(s:Same H H')(z:H' b=none):H b=none:=by
 cases y:H b with
 |none=>rfl
 |some o=>rw[s _ _ y]at z;cases z
theorem bF.keep{K:D5}{H G:Hp}{xs:List V}{es:En}{p C dx:Addr}(t:bF K H xs es)(hp:H p=some (.ins C dx []))(k:∀ q u,q≠p->H q=some u->G q=some u):bF K G xs es:=⟨t.1,fun i e z=>by
 obtain⟨q,C',dx',s,a,b,d⟩:=t.2 i e z
 refine⟨q,C',dx',s,a,k _ _ (fun z=>?_) b,d⟩
 rw[z,hp]at b
 have e1:([]:List (Str×V))=tf (e.1:Int) (e.2:Int) s:=by
  injection b with b
  injection b
 have e2:=oV (e.1:Int) (e.2:Int) s
 rw[← e1]at e2
 cases e2⟩
def iX(m:Nat)(es:En):Prop:=∃ S:Nat->Prop,(∀ e∈es,S e.1↔S e.2)/\∃ p q,p<m/\q<m/\S p/\¬ S q
theorem ya{m M:Nat}{es:En}(h:iX m es)(lw:Low es M):M≠2^m-1:=fun e=>by
 obtain⟨S,cS,p,q,hp,hq,sp,nq⟩:=h
 have bit:∀ x,x<m->M.testBit x=true:=fun x hx=>by rw[e,Hm,decide_eq_true hx]
 by_cases s0:S 0
 ·exact nq (lw S cS s0 q (bit q hq))
 ·exact lw (fun x=>¬ S x) (fun e he=>not_congr (cS e he)) s0 p (bit p hp) sp
theorem mt_of{m:Nat}{es:En}{ts:List (List Nat)}(w:aZ m es ts):Mt m es (ts.map cI):=⟨ts,w,D3 _,fun i l r h1 h2=>by
 rw[D9,h2]at h1
 cases h1
 exact HA _⟩
inductive Asked(BT BU BP NF:Addr)(H:Hp)(p C dx:Addr)(m:Nat)(es:En)(js:List (List Int))(Q:Hp->Prop)(E:Value->Option Addr->Hp->Prop):Prop
 |ends (h:¬ ∀ e∈es,e.1<m/\e.2<m) (k:∀ H',Same H H'->E (.ref BT) none H')
 |turns (h:∀ e∈es,e.1<m/\e.2<m) (n:¬ Mt m es js) (k:∀ H',Same H H'->E (.ref BU) none H')
 |parted (ts:List (List Nat)) (j:js=ts.map cI) (w:aZ m es ts) (n:iX m es) (k:∀ H',Same H H'->E (.ref BP) none H')
 |web (ts rg:List (List Nat)) (j:js=ts.map cI) (g:Gr m es ts) (pt:Part (fol es ts) (2*es.length) rg) (n:m+rg.length≠es.length+2->∀ H',Same H H'->E (.ref NF) none H')
   (k:m+rg.length=es.length+2->∀(fs:List (Str×V))(q:Addr)(z:List V)(H':Hp),H' p=some (.ins C dx fs)->fs.lookup ("many" : Str)=some (.int (m:Int))->fs.lookup ("rounds" : Str)=some (.ref q)->H' q=some (.lst z)->z.length=rg.length->(∀ q o,H q=some o->q≠p->H' q=some o)->Q H')
def uq(K:D5)(BT BU BP NF:Addr):Sp:=fun vs H Q E=>∃(p C dx qt qh:Addr)(m:Nat)(xs zs:List V)(es:En)(js:List (List Int)),vs = [.ref p,.int (m:Int),.ref qt,.ref qh]/\H p=some (.ins C dx [])/\CW K C/\H qt=some (.lst xs)/\bF K H xs es/\H qh=some (.lst zs)/\eh H zs js/\(∀ e∈es,e.1≠e.2)/\1<=m/\m<=42/\es.length<=70/\js.length<=90/\Asked BT BU BP NF H p C dx m es js (Q .non) E
section
variable{P:Program}{w:World}{K:D5}{mg:Str->Option Value}{base:Heap}
theorem jF:aY ["self","many","ties","turns","rounds"] ["self","many","ties","turns"] (au cK):=⟨rfl,rfl,rfl,by decide +kernel,rfl,by decide +kernel,by decide +kernel⟩
theorem Bv{f f1 f2 f3 f4 f5 BT BU BP NF:Addr}{fd d1 d2 d3 d4 d5:FuncData} (F:Fun K "__init__" "Web.__init__" cK f fd) (T:TxtG mg BT BU BP NF) (ecN:ExC K NF) (G_refuse_ends:CalD P w K mg base 1 "refuse_ends" ["many","ties"] (ux K BT) f1 d1) (G_refuse_turns:CalD P w K mg base 1 "refuse_turns" ["many","ties","turns"] (pN K BU) f2 d2) (G_refuse_parted:CalD P w K mg base 2 "refuse_parted" ["many","ties"] (uw K BP) f3 d3) (G_rounds_of:Cal P w K mg base 4 "rounds_of" ["ties","turns"] (pM K) f4 d4) (G_sides_of:Cal P w K mg base 1 "sides_of" ["ties","rounds"] (ur K) f5 d5) :
  FnOk P w K mg base (CXd P w) 5 f fd ["self","many","ties","turns"] (uq K BT BU BP NF):=by
 refine F.okD jF (fun vs H Q E h=>?_) (fun cdv A outer s H vs Q E hr h=>?_)
 ·obtain⟨p,C,dx,qt,qh,m,xs,zs,es,js,rfl,_⟩:=h
  rfl
 obtain⟨p,C,dx,qt,qh,m,xs,zs,es,js,rfl,hp,cw,hqt,hT,hqh,hJ,ne,m1,m42,few,jl,cs⟩:=h
 have hul:xs.length=es.length:=hT.1
 have pl:∀{q:Addr}{ys:List V},H q=some (.lst ys)->q≠p:=fun{q ys} h z=>by rw[z,hp]at h;cases h
 refine⟨_,(af (aC (ql G_refuse_ends.ok (hr.mono (by decide)) rfl G_refuse_ends.mg G_refuse_ends.kp G_refuse_ends.bn .nil i4 rfl (aa (pv 1) (aa (pv 2) ah))))
   (af (aC (ql G_refuse_turns.ok (hr.mono (by decide)) rfl G_refuse_turns.mg G_refuse_turns.kp G_refuse_turns.bn .nil i4 rfl (aa (pv 1) (aa (pv 2) (aa (pv 3) ah)))))
   (af (aC (ql G_refuse_parted.ok (hr.mono (by decide)) rfl G_refuse_parted.mg G_refuse_parted.kp G_refuse_parted.bn .nil i4 rfl (aa (pv 1) (aa (pv 2) ah))))
   (af (aw (i:=4) jF.nd rfl (Or.inl rfl) (aI G_rounds_of.ok (hr.mono (by decide)) rfl G_rounds_of.mg G_rounds_of.kp G_rounds_of.bn .nil bz (aa (pv 2) (aa (pv 3) ah))))
   (af (bG (az se (ao aO (ao lB (pv 1) (av ak (by rfl) T.n_len aU (aa (pv 2) ah))) (av ak (by rfl) T.n_len aU (aa (pv 4) ah))) ag (aF _)) (aj (jG ecN T.g_NotFlat rfl i4 rfl rfl (aa xh ah))) bf)
   (af (lA (pv 0) (pv 1) rfl)
   (af (lA (pv 0) (gF fm (by rfl) T.n_list nP (aa (pv 2) ah)) rfl)
   (af (lA (pv 0) (kb rfl (fr:=[]) (by exact c6.plain (by rfl) (by decide +kernel) (by rfl) (by decide +kernel) (by rfl) (by decide +kernel)) (cu (pv 3)) (fun C ex s H=>(gF (pk (K:=K) rfl) (by rfl) T.n_list nP (aa (pv 0) ah)))) rfl)
   (af (lA (pv 0) (pv 4) rfl)
   (aj (lA (pv 0) (aI G_sides_of.ok (hr.mono (by decide)) rfl G_sides_of.mg G_sides_of.kp G_sides_of.bn .nil bz (aa (pv 2) (aa (pv 4) ah))) rfl))))))))))),?_⟩
 refine⟨_,rfl,_,rfl,qt,xs,m,es,rfl,SqL.of hqt,hT,fun ok=>?_,fun no=>?_⟩
 rotate_left
 ·cases cs with
  |ends h k=>exact k H fun _ _ e=>e
  |turns h n k=>exact absurd h no
  |parted ts j w' n k=>exact absurd (fun e he=>⟨(w'.ends e he).1,(w'.ends e he).2.1⟩) no
  |web ts rg j g pt n k=>exact absurd (fun e he=>⟨(g.w.ends e he).1,(g.w.ends e he).2.1⟩) no
 refine⟨_,rfl,_,rfl,_,rfl,qt,qh,xs,zs,m,es,js,rfl,SqL.of hqt,hT,SqL.of hqh,hJ,fun e he=>⟨(ok e he).1,(ok e he).2,ne e he⟩,few,by omega,jl,fun H1 s1=>⟨fun mt=>?_,fun nm=>?_⟩⟩
 rotate_left
 ·cases cs with
  |ends h k=>exact absurd ok h
  |turns h n k=>exact k H1 s1
  |parted ts j w' n k=>subst j;exact absurd (mt_of w') nm
  |web ts rg j g pt n k=>subst j;exact absurd (mt_of g.w) nm
 refine⟨_,rfl,_,rfl,qt,xs,m,es,rfl,SqL.of (s1 _ _ hqt),hT.mono s1,ok,m1,m42,few,fun M hM b0 cl lw H2 s2=>⟨fun full=>?_,fun nf=>?_⟩⟩
 rotate_left
 ·cases cs with
  |ends h k=>exact absurd ok h
  |turns h n k=>exact absurd mt n
  |parted ts j w' n k=>exact k H2 (s1.trans s2)
  |web ts rg j g pt n k =>
   refine absurd (AF hM fun x hx=>?_) nf
   exact g.conn (fun x=>M.testBit x=true) (fun e he=>by rw[cl e he]) 0 x (by omega) hx b0
 obtain⟨ts,rg,rfl,g,pt,kn,kk⟩:∃ ts rg,js=ts.map cI/\Gr m es ts/\Part (fol es ts) (2*es.length) rg/\(m+rg.length≠es.length+2->∀ H',Same H H'->E (.ref NF) none H')/\(m+rg.length=es.length+2->∀(fs:List (Str×V))(q:Addr)(z:List V)(H':Hp),H' p=some (.ins C dx fs)->fs.lookup ("many" : Str)=some (.int (m:Int))->fs.lookup ("rounds" : Str)=some (.ref q)->H' q=some (.lst z)->z.length=rg.length->(∀ q o,H q=some o->q≠p->H' q=some o)->Q .non H'):=by
  cases cs with
  |ends h k=>exact absurd ok h
  |turns h n k=>exact absurd mt n
  |parted ts j w' n k=>exact absurd full (ya n lw)
  |web ts rg j g pt n k=>exact⟨ts,rg,j,g,pt,n,k⟩
 have w':=g.w
 have hR:bq H zs ts:=⟨by rw[hJ.1,D3],fun i l e=>by
  obtain⟨q,a1,a2⟩:=hJ.2 i (cI l) (by rw[D9,e];rfl)
  exact⟨q,a1,by rw[← cI_V];exact a2⟩⟩
 have hzl:zs.length=m:=by rw[hR.1,w'.len]
 have s12:=s1.trans s2
 refine⟨_,rfl,_,rfl,qt,qh,m,es,ts,rfl,⟨⟨xs,SqL.of (s12 _ _ hqt),hT.mono s12⟩,⟨zs,SqL.of (s12 _ _ hqh),hR.mono s12⟩,w',by omega⟩,fun qr vs rs H3 s3 hqr hrs ro=>?_⟩
 have s13:=s12.trans s3
 have cnt:rs.length=rg.length:=ro.part.same pt
 have hvl:vs.length=rs.length:=hrs.1
 refine⟨_,rfl,_,rfl,qt,xs,rfl,.inl (SqL.of (s13 _ _ hqt)),_,_,rfl,rfl,_,rfl,qr,vs,rfl,.inl (SqL.of hqr),_,_,rfl,rfl,rfl,_,rfl,?_⟩
 by_cases fl:m+rg.length=es.length+2
 rotate_left
 ·refine ite2 (fun _=>⟨(by decide:(1:Nat)<=sizeLine),kn fl H3 s13⟩) fun z=>?_
  exact absurd (by show(!decide (V.int ((m:Int)-(xs.length:Int)+(vs.length:Int))=V.int 2))=true;rw[decide_eq_false (fun y=>fl (by have:=V.int.inj y;omega))];rfl) z
 refine iteNS (congrArg V.int (by omega)) ?_
 have hp3:=s13 _ _ hp
 refine⟨_,rfl,_,rfl,p,C,dx,[],rfl,hp3,cw.cl,cw.n1,(by show 0<1000;decide),?_⟩
 have keep:∀{G:Hp}{o:HO}{q:Addr}{u:HO},q≠p->G q=some u->(upd G p o) q=some u:=fun n z=>by rw[aq n];exact z
 refine⟨_,rfl,qt,xs,rfl,.inl (SqL.of (keep (pl hqt) (s13 _ _ hqt))),fun q1 hq1=>?_⟩
 have n1p:q1≠p:=fun z=>by rw[z,ae]at hq1;cases hq1
 have t4:=ai hq1 (.lst xs)
 refine⟨_,rfl,p,C,dx,_,rfl,t4 _ _ ae,cw.cl,cw.n2,?_,?_⟩
 ·have:=iu "many" (.int (m:Int)) ([]:List (Str×V));simp only[GO]at this;omega
 have t1:∀ q u,q≠p->H3 q=some u->(upd (upd (upd H3 p (.ins C dx (putF "many" (.int (m:Int)) []))) q1 (.lst xs)) p (.ins C dx (putF "ties" (.ref q1) (putF "many" (.int (m:Int)) [])))) q=some u:=fun q u n z=>keep n (t4 _ _ (keep n z))
 have q1a:(upd (upd (upd H3 p (.ins C dx (putF "many" (.int (m:Int)) []))) q1 (.lst xs)) p (.ins C dx (putF "ties" (.ref q1) (putF "many" (.int (m:Int)) [])))) q1=some (.lst xs):=keep n1p ae
 have pa:(upd (upd (upd H3 p (.ins C dx (putF "many" (.int (m:Int)) []))) q1 (.lst xs)) p (.ins C dx (putF "ties" (.ref q1) (putF "many" (.int (m:Int)) [])))) p=some (.ins C dx (putF "ties" (.ref q1) (putF "many" (.int (m:Int)) []))):=ae
 generalize upd (upd (upd H3 p (.ins C dx (putF "many" (.int (m:Int)) []))) q1 (.lst xs)) p (.ins C dx (putF "ties" (.ref q1) (putF "many" (.int (m:Int)) [])))=H4 at t1 q1a pa
 have lk:(putF "ties" (.ref q1) (putF "many" (.int (m:Int)) []):List (Str×V)).lookup ("ties" : Str)=some (.ref q1):=by rw[aQ,if_pos rfl]
 have ln:(putF "ties" (.ref q1) (putF "many" (.int (m:Int)) []):List (Str×V)).length<=2:=by
  have a1:=iu "many" (.int (m:Int)) ([]:List (Str×V))
  have a2:=iu "ties" (.ref q1) (putF "many" (.int (m:Int)) ([]:List (Str×V)))
  simp only[GO]at a1
  omega
 have lkm:(putF "ties" (.ref q1) (putF "many" (.int (m:Int)) []):List (Str×V)).lookup ("many" : Str)=some (.int (m:Int)):=by rw[aQ,if_neg (by decide +kernel),aQ,if_pos rfl]
 generalize (putF "ties" (.ref q1) (putF "many" (.int (m:Int)) []):List (Str×V))=fs at pa lk ln lkm
 have hqh4:=t1 _ _ (pl hqh) (s13 _ _ hqh)
 have new4:∀{b:Addr},H4 b=none->H b=none:=fun{b} z=>by
  cases y:H b with
  |none=>rfl
  |some o =>
   by_cases n:b=p
   ·rw[n,pa]at z;cases z
   ·rw[t1 _ _ n (s13 _ _ y)]at z;cases z
 have new1:H q1=none:=by
  cases y:H q1 with
  |none=>rfl
  |some o=>rw[keep n1p (s13 _ _ y)]at hq1;cases hq1
 refine⟨_,rfl,qh,rfl,⟨_,SqL.of hqh4⟩,eU (K:=K) (xs:=zs) (fun i ys H5=>Same H4 H5/\cD (fun a=>H a≠none) H5 ys (ts.take i)) (ER (ar (by omega))) ⟨fun _ _ e=>e,rfl,fun i l e=>by simp at e⟩ (fun i _ H5 _ z=>SqL.of (z.1 _ _ hqh4)) ?_ ?_⟩
 ·rintro i x ys H5 hx ⟨s5,rz⟩
  have hi:i<ts.length:=by rw[← hR.1];exact(DZ.mp hx).1
  obtain⟨l,hl⟩:∃ l,ts[i]?=some l:=⟨_,D1 hi⟩
  obtain⟨r,a1,a2⟩:=hR.2 i l hl
  rw[hx]at a1
  cases a1
  refine⟨_,rfl,r,_,rfl,.inl (SqL.of (s5 _ _ (t1 _ _ (pl a2) (s13 _ _ a2)))),fun g hg=>⟨s5.trans (ai hg _),?_⟩⟩
  rw[show ts.take (i+1)=ts.take i++[l] by rw[EV,hl];rfl]
  exact(rz.mono fun b u _ z=>ai hg _ _ _ z).snoc (fun z=>z (new4 (none_of s5 hg))) ae
 rintro ys H5 _ ⟨s5,rz⟩ D hD
 rw[hR.1,Fb]at rz
 have hDp:D≠p:=fun z=>by rw[z,s5 _ _ pa]at hD;cases hD
 have s6:=s5.trans (ai hD (.lst ys))
 refine⟨_,rfl,p,C,dx,fs,rfl,s6 _ _ pa,cw.cl,cw.n3,by omega,?_⟩
 have ln1:=iu "turns" (.ref D) fs
 have lk1:(putF "turns" (.ref D) fs).lookup ("ties" : Str)=some (.ref q1):=by rw[aQ,if_neg (by decide +kernel)];exact lk
 refine⟨_,rfl,_,rfl,p,C,dx,_,rfl,ae,cw.cl,cw.n4,by omega,?_⟩
 have ln2:=iu "rounds" (.ref qr) (putF "turns" (.ref D) fs)
 have lk2:(putF "rounds" (.ref qr) (putF "turns" (.ref D) fs)).lookup ("ties" : Str)=some (.ref q1):=by rw[aQ,if_neg (by decide +kernel)];exact lk1
 have t7:∀ q u,q≠p->H3 q=some u->(upd (upd (upd H5 D (.lst ys)) p (.ins C dx (putF "turns" (.ref D) fs))) p (.ins C dx (putF "rounds" (.ref qr) (putF "turns" (.ref D) fs)))) q=some u:=fun q u n z=>keep n (keep n (s6 _ _ (t1 q u n z)))
 have q17:(upd (upd (upd H5 D (.lst ys)) p (.ins C dx (putF "turns" (.ref D) fs))) p (.ins C dx (putF "rounds" (.ref qr) (putF "turns" (.ref D) fs)))) q1=some (.lst xs):=keep n1p (keep n1p (s6 _ _ q1a))
 have p7:(upd (upd (upd H5 D (.lst ys)) p (.ins C dx (putF "turns" (.ref D) fs))) p (.ins C dx (putF "rounds" (.ref qr) (putF "turns" (.ref D) fs)))) p=some (.ins C dx (putF "rounds" (.ref qr) (putF "turns" (.ref D) fs))):=ae
 have D7:(upd (upd (upd H5 D (.lst ys)) p (.ins C dx (putF "turns" (.ref D) fs))) p (.ins C dx (putF "rounds" (.ref qr) (putF "turns" (.ref D) fs)))) D=some (.lst ys):=keep hDp (keep hDp ae)
 have u7:∀ q u,q≠p->H5 q=some u->(upd (upd (upd H5 D (.lst ys)) p (.ins C dx (putF "turns" (.ref D) fs))) p (.ins C dx (putF "rounds" (.ref qr) (putF "turns" (.ref D) fs)))) q=some u:=fun q u n z=>keep n (keep n (ai hD _ _ _ z))
 generalize upd (upd (upd H5 D (.lst ys)) p (.ins C dx (putF "turns" (.ref D) fs))) p (.ins C dx (putF "rounds" (.ref qr) (putF "turns" (.ref D) fs)))=H7 at t7 q17 p7 D7 u7
 have pl3:∀{q:Addr}{ys:List V},H3 q=some (.lst ys)->q≠p:=fun{q ys} h z=>by rw[z,hp3]at h;cases h
 have rs7:bq H7 vs rs:=⟨hrs.1,fun i l z=>by
  obtain⟨r,a1,a2⟩:=hrs.2 i l z
  exact⟨r,a1,t7 _ _ (pl3 a2) a2⟩⟩
 have T7:bF K H7 xs es:=(hT.mono s13).keep hp3 t7
 refine⟨_,rfl,_,rfl,qt,qr,xs,vs,es,_,rs,rfl,SqL.of (t7 _ _ (pl hqt) (s13 _ _ hqt)),T7,by omega,SqL.of (t7 _ _ (pl3 hqr) hqr),rs7,ro,fun q5 z5 H8 s8 hq5 hs5=>?_⟩
 refine⟨_,rfl,p,C,dx,_,rfl,s8 _ _ p7,cw.cl,cw.n5,by omega,?_⟩
 have n5p:q5≠p:=fun z=>by rw[z,s8 _ _ p7]at hq5;cases hq5
 have hqr7:=t7 _ _ (pl3 hqr) hqr
 refine kk fl _ qr vs _ ae ?_ ?_ (keep (pl3 hqr) (s8 _ _ hqr7)) (by omega) fun q o z n=>keep n (s8 _ _ (t7 q o n (s13 _ _ z)))
 ·rw[aQ,if_neg (by decide +kernel),aQ,if_neg (by decide +kernel),aQ,if_neg (by decide +kernel)]
  exact lkm
 ·rw[aQ,if_neg (by decide +kernel),aQ,if_pos rfl]
end
end K8
namespace K8
open PySem L2
local macro_rules | `(tactic| walk_at "cc") => `(tactic| first | exact ⟨by decide, by decide⟩ | (show (0 : Int) < _; decide) | (show (0 : Int) < _; omega) | (show (0 : Int) ≤ _; omega) | exact ⟨by decide, by decide, by decide⟩ | exact ⟨by omega, by omega, by decide⟩ | exact Or.inl ⟨by decide, by decide⟩ | exact Or.inl ⟨by omega, by omega⟩)
local macro_rules | `(tactic| walk_at "rd") => `(tactic| repeat (first | refine ⟨_, rfl, ?_⟩ | refine ⟨_, _, rfl, rfl, ?_⟩ | refine ⟨rfl, ?_⟩ | (refine ⟨?cc, ?_⟩; (case cc => walk_at "cc"))))
theorem BN{m:Nat}{es:En}{ts:List (List Nat)}(w:aZ m es ts){left right one two:Nat}{e:Nat×Nat}{l l':List Nat}(hl:left<2*es.length)(hrt:right<2*es.length)(h1:hd es left=one)(h2:hd es right=two)(hne:one≠two)(he:e=(one,two)∨e=(two,one))(e1:ts[one]?=some l)(e2:ts[two]?=some l'){ts':List (List Nat)}(ht:ts'=(ts.set one (ins l (l.idxOf (left/2)+1) es.length)).set two (ins l' (l'.idxOf (right/2)+1) es.length)) :
  aZ m (es++[e]) ts'/\fol (es++[e]) ts' left=bp es.length e one/\fol (es++[e]) ts' right=bp es.length e two/\fol (es++[e]) ts' (bp es.length e one)=fol es ts right/\fol (es++[e]) ts' (bp es.length e two)=fol es ts left/\∀ d,d<2*es.length->d≠left->d≠right->fol (es++[e]) ts' d=fol es ts d:=by
 have hlen:=w.len
 have o1:one<m:=by rw[← hlen];exact(DZ.mp e1).1
 have o2:two<m:=by rw[← hlen];exact(DZ.mp e2).1
 have W:aZ m (es++[e]) ((ts.set one (ins l (l.idxOf (left/2)+1) es.length)).set two (ins l' (l'.idxOf (right/2)+1) es.length)):=by
  rcases he with rfl | rfl
  ·exact w.put o1 o2 hne e1 e2
  ·exact(w.put o1 o2 hne e1 e2).flip
 have r1:((ts.set one (ins l (l.idxOf (left/2)+1) es.length)).set two (ins l' (l'.idxOf (right/2)+1) es.length))[one]?=some (ins l (l.idxOf (left/2)+1) es.length):=by
  rw[EG,if_neg (fun z=>hne z.symm),EG,if_pos rfl,if_pos (by rw[hlen];exact o1)]
 have r2:((ts.set one (ins l (l.idxOf (left/2)+1) es.length)).set two (ins l' (l'.idxOf (right/2)+1) es.length))[two]?=some (ins l' (l'.idxOf (right/2)+1) es.length):=by
  rw[EG,if_pos rfl,if_pos (by rw[EF,hlen];exact o2)]
 have r3:∀ p,p≠one->p≠two->((ts.set one (ins l (l.idxOf (left/2)+1) es.length)).set two (ins l' (l'.idxOf (right/2)+1) es.length))[p]?=ts[p]?:=fun p n1 n2=>by
  rw[EG,if_neg (fun z=>n2 z.symm),EG,if_neg (fun z=>n1 z.symm)]
 rw[← ht]at W r1 r2 r3
 obtain⟨a1,a2,a3⟩:=nh (e:=e) w e1 hl h1 r1
 obtain⟨b1,b2,b3⟩:=nh (e:=e) w e2 hrt h2 r2
 obtain⟨d1,d2,_,_⟩:=me (es:=es) hne he
 refine⟨W,a1,b1,b2 _ (bu _ _ _) d1,a2 _ (bu _ _ _) d2,fun d hd' n1 n2=>?_⟩
 by_cases z1:hd es d=one
 ·exact a3 d hd' n1 z1
 ·by_cases z2:hd es d=two
  ·exact b3 d hd' n2 z2
  ·exact qO w hd' (r3 _ z1 z2)
theorem yb{f g:Nat->Nat}{N N' a b α β:Nat}{xs ys:List Nat}{rest:List (List Nat)}(p:Part f N ((a::xs)::(b::ys)::rest))(ca:fJ f a xs a)(cb:fJ f b ys b)(ga:g a=α)(gb:g b=β)(gα:g α=f b)(gβ:g β=f a)(els:∀ d,d<N->d≠a->d≠b->g d=f d)(hα:N<=α)(hβ:N<=β)(ne:α≠β)(NN:N<=N')(αN:α<N')(βN:β<N')(all:∀ d,d<N'->d<N∨d=α∨d=β) :
  Part g N' ((a::α::(ys++b::β::xs))::rest):=by
 have pm:((a::α::(ys++b::β::xs))::rest).flatten.Perm (α::β::((a::xs)::(b::ys)::rest).flatten):=by
  rw[EC,EC,EC]
  have e1:(a::α::(ys++b::β::xs)).Perm (α::β::((a::xs)++(b::ys))):=by
   refine(Fs α a _).trans (FL α ?_)
   have e2:(ys++b::β::xs).Perm (β::(xs++b::ys)):=by
    have e3:(ys++b::β::xs).Perm ((b::β::xs)++ys):=EA
    refine e3.trans ?_
    refine(Fs β b (xs++ys)).trans (FL β ?_)
    exact(Hh).symm
   exact((FL a e2).trans (Fs β a _))
  have:=e1.append_right rest.flatten
  simpa[ED] using this
 have lt:∀ d∈((a::xs)::(b::ys)::rest).flatten,d<N:=fun d hd=>by
  obtain⟨r,h1,h2⟩:=EZ.mp hd
  exact(p.cr r h1).lt d h2
 have nd:((a::α::(ys++b::β::xs))::rest).flatten.Nodup:=by
  refine pm.nodup_iff.mpr (Ek.mpr ⟨fun z=>?_,Ek.mpr ⟨fun z=>?_,p.nd⟩⟩)
  ·rcases Ec.mp z with z | z
   ·exact ne z
   ·have:=lt α z;omega
  ·have:=lt β z;omega
 have pn:=p.nd
 rw[EC,EC]at pn
 obtain⟨n1,n2,n3⟩:=EB.mp pn
 obtain⟨n4,n5,n6⟩:=EB.mp n2
 have ltx:∀ t∈xs,g t=f t:=fun t ht=>els t (lt t (by simp[ht])) (fun z=>(Ek.mp n1).1 (z▸ht)) fun z=>n3 t (by simp[ht]) b (by simp) z
 have lty:∀ t∈ys,g t=f t:=fun t ht=>els t (lt t (by simp[ht])) (fun z=>n3 a (by simp) t (by simp[ht]) z.symm) fun z=>(Ek.mp n4).1 (z▸ht)
 have ltr:∀ q∈rest,∀ t∈q,g t=f t:=fun q hq t ht=>by
  have hf:t∈rest.flatten:=EZ.mpr ⟨q,hq,ht⟩
  exact els t (lt t (by rw[EC,EC];simp[hf])) (fun z=>n3 a (by simp) t (by simp[hf]) z.symm) fun z=>n6 b (by simp) t hf z.symm
 refine⟨fun q hq=>?_,nd,fun d hd=>?_⟩
 ·rcases Ec.mp hq with z | z
  ·subst z
   refine⟨⟨a,_,rfl,ga,cC.mpr ⟨gj cb gα lty,gb,gj ca gβ ltx⟩⟩,fun d hd=>?_,?_⟩
   ·have:d∈((a::α::(ys++b::β::xs))::rest).flatten:=by rw[EC];exact E1 _ hd
    rcases Ec.mp (pm.mem_iff.mp this)with y | y
    ·omega
    ·rcases Ec.mp y with y | y
     ·omega
     ·have:=lt d y;omega
   ·rw[EC]at nd
    exact(EB.mp nd).1
  ·exact(p.cr q (Ef _ (Ef _ z))).mono NN (ltr q z)
 ·refine pm.mem_iff.mpr ?_
  rcases all d hd with z | z | z
  ·exact Ef _ (Ef _ (p.all d z))
  ·rw[z];exact Eh ..
  ·rw[z];exact Ef _ (Eh ..)
theorem AH{rs:List (List Nat)}{i j:Nat}{r q:List Nat}(hi:rs[i]?=some r)(hj:rs[j]?=some q)(ne:i≠j)(x:List Nat):∃ rest,rs.Perm (r::q::rest)/\((rs.set i x).eraseIdx j).Perm (x::rest):=by
 have il:=(DZ.mp hi).1
 have p1:=i8 hj
 have p2:(rs.set i x).Perm (q::(rs.set i x).eraseIdx j):=i8 (by rw[EG,if_neg ne];exact hj)
 have p3:=i8 hi
 have p4:=ma il x
 have hm:q∈rs.eraseIdx i:=by
  obtain⟨jl,ej⟩:=DZ.mp hj
  refine List.mem_eraseIdx_iff_getElem?.mpr ⟨j,fun z=>ne z.symm,hj⟩
 obtain⟨A,B,e⟩:=G4 hm
 refine⟨A++B,?_,?_⟩
 ·refine p3.trans (FL r ?_)
  rw[e]
  exact Hh
 ·have p5:(q::(rs.set i x).eraseIdx j).Perm (q::(x::(A++B))):=by
   refine p2.symm.trans (p4.symm.trans ?_)
   rw[e]
   exact(FL x Hh).trans (Fs q x _)
  exact List.Perm.cons_inv p5
theorem xN{m:Nat}{es:En}{ts rings:List (List Nat)}(g:Gr m es ts)(pt:Part (fol es ts) (2*es.length) rings){u v left right one two:Nat}{A B C D:List Nat}(hu:rings[u]?=some (A++left::B))(hv:rings[v]?=some (C++right::D))(uv:u≠v){e:Nat×Nat}{l l':List Nat}(h1:hd es left=one)(h2:hd es right=two)(hne:one≠two)(he:e=(one,two)∨e=(two,one))(e1:ts[one]?=some l)(e2:ts[two]?=some l') :
  Gr m (es++[e]) ((ts.set one (ins l (l.idxOf (left/2)+1) es.length)).set two (ins l' (l'.idxOf (right/2)+1) es.length)) /\
  Part (fol (es++[e]) ((ts.set one (ins l (l.idxOf (left/2)+1) es.length)).set two (ins l' (l'.idxOf (right/2)+1) es.length))) (2*(es++[e]).length) ((rings.set u (A++left::bp es.length e one::(D++C++right::bp es.length e two::B))).eraseIdx v):=by
 obtain⟨rest,q1,q2⟩:=AH hu hv uv (A++left::bp es.length e one::(D++C++right::bp es.length e two::B))
 have p1:=pt.perm q1
 have cA:=p1.cr _ (Eh ..)
 have cB:=p1.cr (C++right::D) (by simp)
 have hl:=cA.lt left (by simp)
 have hr:=cB.lt right (by simp)
 obtain⟨W,f1,f2,f3,f4,f5⟩:=BN g.w hl hr h1 h2 hne he e1 e2 rfl
 obtain⟨_,_,d3,d4⟩:=me (es:=es) hne he
 refine⟨⟨W,xH g.conn,by have:=g.mb;rw[D2];exact G8 this⟩,?_⟩
 have cA':CR (fol es ts) (2*es.length) (left::(B++A)):=cA.turn (GD _ _)
 have cB':CR (fol es ts) (2*es.length) (right::(D++C)):=cB.turn (GD _ _)
 have p2:=p1.swap cA' (EA:((left::B)++A).Perm (A++left::B))
 have p3:=((p2.perm (Fs _ _ _)).swap cB' (EA:((right::D)++C).Perm (C++right::D))).perm (Fs _ _ _)
 obtain⟨x,tl,ex,ch⟩:=cA'.ch
 cases ex
 obtain⟨x,tl,ex,ch'⟩:=cB'.ch
 cases ex
 have hα:=bu es.length e one
 have hβ:=bu es.length e two
 have len2:(es++[e]).length=es.length+1:=by rw[D2];rfl
 have pm:=yb p3 ch ch' f1 f2 f3 f4 f5 (by omega) (by omega) d3 (N':=2*(es++[e]).length) (by omega) (by omega) (by omega) (fun d hd=>d4 d (by omega))
 refine Part.perm ?_ q2.symm
 generalize bp es.length e one=α at pm ⊢
 generalize bp es.length e two=β at pm ⊢
 have c:=pm.cr _ (Eh ..)
 have e5:left::α::(D++C++right::β::(B++A))=(left::α::(D++C++right::β::B))++A:=by simp[ED]
 rw[e5]at c pm
 have c2:CR (fol (es++[e]) ((ts.set one (ins l (l.idxOf (left/2)+1) es.length)).set two (ins l' (l'.idxOf (right/2)+1) es.length))) (2*(es++[e]).length) (A++left::α::(D++C++right::β::B)):=by
  by_cases na:A = []
  ·subst na
   rw[Fl]at c
   exact c
  ·exact c.turn na
 exact pm.swap c2 EA
end K8
namespace K8
open PySem L2
local macro_rules | `(tactic| walk_at "cc") => `(tactic| first | exact ⟨by decide, by decide⟩ | (show (0 : Int) < _; decide) | (show (0 : Int) < _; omega) | (show (0 : Int) ≤ _; omega) | exact ⟨by decide, by decide, by decide⟩ | exact ⟨by omega, by omega, by decide⟩ | exact Or.inl ⟨by decide, by decide⟩ | exact Or.inl ⟨by omega, by omega⟩)
local macro_rules | `(tactic| walk_at "rd") => `(tactic| repeat (first | refine ⟨_, rfl, ?_⟩ | refine ⟨_, _, rfl, rfl, ?_⟩ | refine ⟨rfl, ?_⟩ | (refine ⟨?cc, ?_⟩; (case cc => walk_at "cc"))))
def flE(es:En):En:=(Gu es.length).map fun t=>if t%2=1 then(((es[t]?).getD (0,0)).2,((es[t]?).getD (0,0)).1) else(es[t]?).getD (0,0)
theorem dP(es:En):(flE es).length=es.length:=by unfold flE;rw[D3,FG]
theorem iS{es:En}{t:Nat}{e:Nat×Nat}(h:es[t]?=some e):(flE es)[t]?=some (if t%2=1 then(e.2,e.1) else e):=by
 have hl:=(DZ.mp h).1
 unfold flE
 rw[D9,Fp hl]
 show some (if t%2=1 then(((es[t]?).getD (0,0)).2,((es[t]?).getD (0,0)).1) else(es[t]?).getD (0,0))=_
 rw[h]
 rfl
theorem qR{es:En}{x:Nat×Nat}(h:x∈flE es):∃ e∈es,x=e∨x=(e.2,e.1):=by
 obtain⟨t,ht⟩:=EI.mp h
 have tl:=(DZ.mp ht).1
 rw[dP]at tl
 have e1:es[t]?=some es[t]:=D1 tl
 rw[iS e1]at ht
 refine⟨es[t],E8 tl,?_⟩
 by_cases z:t%2=1
 ·rw[if_pos z]at ht;exact .inr (Er ht).symm
 ·rw[if_neg z]at ht;exact .inl (Er ht).symm
theorem qQ{m:Nat}{es:En}{ts:List (List Nat)}(w:aZ m es ts):aZ m (flE es) ts:=by
 refine⟨w.len,fun x hx=>?_,w.nd,fun p l hp t=>(w.mem p l hp t).trans ⟨?_,?_⟩⟩
 ·obtain⟨e,he,z | z⟩:=qR hx
  ·rw[z];exact w.ends e he
  ·obtain⟨a,b,c⟩:=w.ends e he
   rw[z];exact⟨b,a,Ne.symm c⟩
 ·rintro⟨e,h1,h2⟩
  refine⟨_,iS h1,?_⟩
  by_cases z:t%2=1
  ·rw[if_pos z];exact h2.symm
  ·rw[if_neg z];exact h2
 ·rintro⟨x,h1,h2⟩
  have tl:=(DZ.mp h1).1
  rw[dP]at tl
  have e1:es[t]?=some es[t]:=D1 tl
  rw[iS e1]at h1
  refine⟨es[t],e1,?_⟩
  by_cases z:t%2=1
  ·rw[if_pos z]at h1
   have:=(Er h1).symm
   subst this
   exact h2.symm
  ·rw[if_neg z]at h1
   have:=(Er h1).symm
   subst this
   exact h2
theorem BW{es:En}{S:Nat->Prop}(h:∀ e∈flE es,S e.1↔S e.2):∀ e∈es,S e.1↔S e.2:=fun e he=>by
 obtain⟨t,ht⟩:=EI.mp he
 have:=h _ (D4 (iS ht))
 by_cases z:t%2=1
 ·rw[if_pos z]at this;exact this.symm
 ·rw[if_neg z]at this;exact this
theorem flE_gr{m:Nat}{es:En}{ts:List (List Nat)}(g:Gr m es ts):Gr m (flE es) ts:=⟨qQ g.w,fun S h=>g.conn S (BW h),by rw[dP];exact g.mb⟩
theorem yK{m:Nat}{es:En}(h:iX m es):iX m (flE es):=by
 obtain⟨S,cS,k⟩:=h
 refine⟨S,fun x hx=>?_,k⟩
 obtain⟨e,he,z | z⟩:=qR hx
 ·rw[z];exact cS e he
 ·rw[z];exact(cS e he).symm
def fD(d:Nat):Nat:=if d/2%2=1 then 2*(d/2)+(1-d%2) else d
theorem nj(d:Nat):fD d/2=d/2:=by unfold fD;split<;>omega
theorem DN(d:Nat):fD (fD d)=d:=by
 have h:=nj d
 unfold fD at h ⊢
 by_cases z:d/2%2=1
 ·rw[if_pos z]at h ⊢
  rw[h,if_pos z]
  omega
 ·rw[if_neg z,if_neg z]
theorem Cq{es:En}{d:Nat}(hl:d<2*es.length):hd (flE es) (fD d)=hd es d:=by
 have e1:es[d/2]?=some es[d/2]:=D1 (by omega)
 unfold hd
 rw[nj,iS e1,e1]
 show(if fD d%2=0 then(if d/2%2=1 then(es[d/2].2,es[d/2].1) else es[d/2]).2 else(if d/2%2=1 then(es[d/2].2,es[d/2].1) else es[d/2]).1)=(if d%2=0 then es[d/2].2 else es[d/2].1)
 unfold fD
 by_cases z:d/2%2=1
 ·rw[if_pos z,if_pos z]
  by_cases y:d%2=0
  ·rw[if_neg (by omega),if_pos y]
  ·rw[if_pos (by omega),if_neg y]
 ·rw[if_neg z,if_neg z]
theorem DF{m:Nat}{es:En}{ts:List (List Nat)}(w:aZ m es ts){d:Nat}(hl:d<2*es.length):fol (flE es) ts (fD d)=fD (fol es ts d):=by
 obtain⟨_,l,_,_,_,k4,k5,k6⟩:=w.at hl
 rw[dO (l:=l) (by rw[Cq hl];exact k5),dO k5,nj,Cq hl]
 have hn:=D4 (gG k6)
 generalize nxt l (d/2)=t at hn
 obtain⟨e,he,hp⟩:=(w.mem _ l k5 t).mp hn
 have ne:=(w.ends e (D4 he)).2.2
 unfold leave
 rw[iS he,he]
 show(if(if t%2=1 then(e.2,e.1) else e).1=hd es d then 2*t else 2*t+1)=fD (if e.1=hd es d then 2*t else 2*t+1)
 generalize hd es d=p at hp
 unfold fD
 by_cases y:e.1=p
 ·rw[if_pos y,show 2*t/2=t by omega]
  by_cases z:t%2=1
  ·rw[if_pos z,if_pos z,if_neg (fun q=>ne (y.trans q.symm))]
   omega
  ·rw[if_neg z,if_neg z,if_pos y]
 ·have y2:e.2=p:=hp.resolve_left y
  rw[if_neg y,show(2*t+1)/2=t by omega]
  by_cases z:t%2=1
  ·rw[if_pos z,if_pos z,if_pos y2]
   omega
  ·rw[if_neg z,if_neg z,if_neg y]
theorem BS{m:Nat}{es:En}{ts rs:List (List Nat)}(w:aZ m es ts)(p:Part (fol es ts) (2*es.length) rs):Part (fol (flE es) ts) (2*(flE es).length) (rs.map (FF fD)):=by
 have inj:∀ a b,fD a=fD b->a=b:=fun a b h=>by rw[← DN a,h,DN]
 have lt:∀ d,d<2*es.length->fD d<2*(flE es).length:=fun d hd=>by
  have:=nj d
  rw[dP]
  omega
 have hfl:(rs.map (FF fD)).flatten=rs.flatten.map fD:=List.map_flatten.symm
 refine⟨fun q hq=>?_,?_,fun d hd=>?_⟩
 ·obtain⟨r,hr,rfl⟩:=EW.mp hq
  have c:=p.cr r hr
  obtain⟨x,l,rfl,ch⟩:=c.ch
  refine⟨⟨fD x,l.map fD,rfl,nB ch fun t ht=>DF w (c.lt t ht)⟩,fun d hd=>?_,mL c.nd fun a _ b _=>inj a b⟩
  obtain⟨t,ht,rfl⟩:=EW.mp hd
  exact lt t (c.lt t ht)
 ·rw[hfl]
  exact mL p.nd fun a _ b _=>inj a b
 ·rw[dP]at hd
  rw[hfl]
  refine EW.mpr ⟨fD d,p.all _ ?_,DN d⟩
  have:=nj d
  omega
def shE(m:Nat)(es:En):En:=es.map fun e=>(e.1+m,e.2+m)
theorem wA{m m2:Nat}{es es2:En}{ts ts2:List (List Nat)}(w:aZ m es ts)(w2:aZ m2 es2 ts2):aZ (m+m2) (es++shE m es2) (ts++ts2.map (FF fun t=>t+es.length)):=by
 have l1:=w.len
 have l2:=w2.len
 refine⟨by rw[D2,D3,l1,l2],fun e he=>?_,fun p l h=>?_,fun p l h t=>?_⟩
 ·rcases Ee.mp he with z | z
  ·obtain⟨a,b,c⟩:=w.ends e z;exact⟨by omega,by omega,c⟩
  ·obtain⟨x,hx,rfl⟩:=EW.mp z
   obtain⟨a,b,c⟩:=w2.ends x hx
   exact⟨by show x.1+m<_;omega,by show x.2+m<_;omega,by show x.1+m≠x.2+m;omega⟩
 ·by_cases c:p<ts.length
  ·rw[D8 c]at h;exact w.nd p l h
  ·rw[D6 (by omega),D9]at h
   obtain⟨r,hr,rfl⟩:=EO.mp h
   exact mL (w2.nd _ r hr) fun a _ b _=>fun h=>by have h:a+es.length=b+es.length:=h;omega
 ·by_cases c:p<ts.length
  ·rw[D8 c]at h
   refine(w.mem p l h t).trans ⟨fun⟨e,h1,h2⟩=>⟨e,by rw[D8 (DZ.mp h1).1];exact h1,h2⟩,fun⟨e,h1,h2⟩=>?_⟩
   by_cases ct:t<es.length
   ·rw[D8 ct]at h1;exact⟨e,h1,h2⟩
   ·exfalso
    rw[D6 (by omega)]at h1
    obtain⟨x,_,rfl⟩:=EW.mp (D4 h1)
    have h2':x.1+m=p∨x.2+m=p:=h2
    omega
  ·rw[D6 (by omega),D9]at h
   obtain⟨r,hr,rfl⟩:=EO.mp h
   constructor
   ·intro ht
    obtain⟨u,hu,rfl⟩:=EW.mp ht
    obtain⟨e,h1,h2⟩:=(w2.mem _ r hr u).mp hu
    refine⟨(e.1+m,e.2+m),?_,?_⟩
    ·show(es++shE m es2)[u+es.length]?=_
     rw[D6 (by omega),show u+es.length-es.length=u by omega]
     unfold shE
     rw[D9,h1]
     rfl
    ·show e.1+m=p∨e.2+m=p
     omega
   ·rintro⟨e,h1,h2⟩
    have ct:¬ t<es.length:=fun ct=>by
     rw[D8 ct]at h1
     have:=w.ends e (D4 h1)
     omega
    rw[D6 (by omega)]at h1
    unfold shE at h1
    rw[D9]at h1
    obtain⟨x,hx,rfl⟩:=EO.mp h1
    have h2':x.1+m=p∨x.2+m=p:=h2
    refine EW.mpr ⟨t-es.length,(w2.mem _ r hr _).mpr ⟨x,hx,by omega⟩,by omega⟩
theorem rm{m m2:Nat}{es es2:En}{ts:List (List Nat)}(w:aZ m es ts)(h1:1<=m)(h2:1<=m2):iX (m+m2) (es++shE m es2):=by
 refine⟨fun p=>p<m,fun e he=>?_,0,m,by omega,by omega,h1,Fh m⟩
 rcases Ee.mp he with z | z
 ·obtain⟨a,b,_⟩:=w.ends e z
  exact⟨fun _=>b,fun _=>a⟩
 ·obtain⟨x,_,rfl⟩:=EW.mp z
  show x.1+m<m↔x.2+m<m
  omega
theorem uM{m:Nat}{es:En}{ts:List (List Nat)}(w:aZ m es ts)(h1:1<=m):iX (m+1) es :=
 ⟨fun p=>p<m,fun e he=>by obtain⟨a,b,_⟩:=w.ends e he;exact⟨fun _=>b,fun _=>a⟩,0,m,by omega,by omega,h1,Fh m⟩
theorem Ren.parted{m:Nat}{es es2:En}{ts ts2:List (List Nat)}{π σ:Nat->Nat}(R:Ren m es es2 ts ts2 π σ)(w:aZ m es ts)(h:iX m es):iX m es2:=by
 obtain⟨S,cS,p,q,hp,hq,sp,nq⟩:=h
 refine⟨fun y=>∃ x,x<m/\π x=y/\S x,fun e he=>?_,π p,π q,R.pi.lt p hp,R.pi.lt q hq,⟨p,hp,rfl,sp⟩,fun⟨x,hx,e,sx⟩=>nq (R.pi.inj x q hx hq e▸sx)⟩
 obtain⟨j,hj⟩:=EI.mp he
 obtain⟨k,x,_,hx,rfl⟩:=R.es' hj
 obtain⟨a,b,_⟩:=w.ends x (D4 hx)
 have:=cS x (D4 hx)
 constructor
 ·rintro⟨y,hy,e,sy⟩
  have:=R.pi.inj y _ hy a e
  subst this
  exact⟨x.2,b,rfl,(cS x (D4 hx)).mp sy⟩
 ·rintro⟨y,hy,e,sy⟩
  have:=R.pi.inj y _ hy b e
  subst this
  exact⟨x.1,a,rfl,(cS x (D4 hx)).mpr sy⟩
theorem Mt.at{m:Nat}{es:En}{ts:List (List Nat)}{js:List (List Int)}(h:Mt m es js)(w:aZ m es ts):js.length=m/\∀(i:Nat)(l:List Int)(r:List Nat),js[i]?=some l->ts[i]?=some r->l.Perm (cI r):=by
 obtain⟨rows,w2,ln,pm⟩:=h
 refine⟨by rw[ln,w2.len],fun i l r h1 h2=>?_⟩
 have il:=(DZ.mp h1).1
 obtain⟨q,hq⟩:∃ q,rows[i]?=some q:=⟨_,D1 (by omega)⟩
 refine(pm i l q h1 hq).trans ?_
 have:q.Perm r:=(Hs (w2.nd _ _ hq) (w.nd _ _ h2)).mpr fun t=>(w2.mem _ _ hq t).trans (w.mem _ _ h2 t).symm
 exact this.map _
theorem o7{m:Nat}{es:En}{ts:List (List Nat)}{js:List (List Int)}(w:aZ m es ts)(n:js.length≠m):¬ Mt m es js:=fun h=>n (h.at w).1
theorem yo{m:Nat}{es:En}{ts:List (List Nat)}{js:List (List Int)}(w:aZ m es ts){i:Nat}{l:List Int}{r:List Nat}(h1:js[i]?=some l)(h2:ts[i]?=some r)(n:l.length≠r.length):¬ Mt m es js:=fun h=>by
 have:=((h.at w).2 i l r h1 h2).length_eq
 unfold cI at this
 rw[D3]at this
 exact n this
theorem yn{m:Nat}{es:En}{ts:List (List Nat)}{js:List (List Int)}(w:aZ m es ts){i k:Nat}{r:List Nat}{x y:Int}(h1:js[i]?=some ((cI r).set k y))(h2:ts[i]?=some r)(hk:(cI r)[k]?=some x)(n:x≠y):¬ Mt m es js:=fun h=>by
 have p:=(h.at w).2 i _ r h1 h2
 have kl:=(DZ.mp hk).1
 have e1:cI r=(cI r).take k++x::(cI r).drop (k+1):=by
  have:=(Es k (cI r)).symm
  rw[Fi kl]at this
  obtain⟨_,ex⟩:=DZ.mp hk
  rw[ex]at this
  exact this
 have e2:(cI r).set k y=(cI r).take k++y::(cI r).drop (k+1):=List.set_eq_take_append_cons_drop.trans (if_pos kl)
 rw[e2]at p
 have p2:((cI r).take k++y::(cI r).drop (k+1)).Perm ((cI r).take k++x::(cI r).drop (k+1)):=by rw[← e1];exact p
 have p3:=(List.perm_append_left_iff _).mp p2
 have c:=p3.count_eq x
 rw[List.count_cons,List.count_cons]at c
 simp[Ne.symm n]at c
end K8
namespace K8
open PySem L2
local macro_rules | `(tactic| walk_at "cc") => `(tactic| first | exact ⟨by decide, by decide⟩ | (show (0 : Int) < _; decide) | (show (0 : Int) < _; omega) | (show (0 : Int) ≤ _; omega) | exact ⟨by decide, by decide, by decide⟩ | exact ⟨by omega, by omega, by decide⟩ | exact Or.inl ⟨by decide, by decide⟩ | exact Or.inl ⟨by omega, by omega⟩)
local macro_rules | `(tactic| walk_at "rd") => `(tactic| repeat (first | refine ⟨_, rfl, ?_⟩ | refine ⟨_, _, rfl, rfl, ?_⟩ | refine ⟨rfl, ?_⟩ | (refine ⟨?cc, ?_⟩; (case cc => walk_at "cc"))))
theorem Aw(d:Nat)(r:List Nat):inV (iV d) (r.map iV)=decide (d∈r):=by
 unfold inV
 induction r with
 |nil=>rfl
 |cons x r ih =>
  rw[EU,F9,ih]
  have e:eqV (iV x) (iV d)=decide (x=d):=by
   show decide ((x:Int)=(d:Int))=_
   by_cases z:x=d
   ·rw[z,decide_eq_true rfl,decide_eq_true rfl]
   ·rw[decide_eq_false z,decide_eq_false (by omega)]
  rw[e]
  by_cases z:x=d
  ·subst z
   rw[decide_eq_true rfl,Bool.true_or]
   exact(decide_eq_true (Eh ..)).symm
  ·rw[decide_eq_false z,Bool.false_or]
   by_cases y:d∈r
   ·rw[decide_eq_true y,decide_eq_true (Ef _ y)]
   ·rw[decide_eq_false y,decide_eq_false (fun h=>by rcases Ec.mp h with h | h;exact z h.symm;exact y h)]
def zx:Sp:=fun vs H Q _=>∃(pr:Addr)(zs:List V)(rg:List (List Nat))(d:Nat),vs = [.ref pr,.int (d:Int)]/\H pr=some (.lst zs)/\bq H zs rg/\rg.length<=200/\(∀ r∈rg,r.length<=200/\∀ x∈r,x<1000)/\d∈rg.flatten/\∀(t:Addr)(k i:Nat)(r:List Nat)(H':Hp),Same H H'->rg[k]?=some r->r[i]?=some d->H' t=some (.tup [.int (k:Int),.int (i:Int)])->Q (.ref t) H'
section
variable{P:Program}{w:World}{K:D5}{mg:Str->Option Value}{base:Heap}
theorem mF:aY ["rings","dart","k"] ["rings","dart"] (au eE):=⟨rfl,rfl,rfl,by decide +kernel,rfl,by decide +kernel,by decide +kernel⟩
theorem Dh{f:Addr}{fd:FuncData} (F:Fun K "_law_spot" "_law_spot" eE f fd) (T:Txt mg):FnOk P w K mg base CX0 1 f fd ["rings","dart"] zx:=by
 refine F.ok mF (fun vs H Q E h=>?_) (fun cdv A outer s H vs Q E hr h=>?_)
 ·obtain⟨pr,zs,rg,d,rfl,_⟩:=h
  rfl
 obtain⟨pr,zs,rg,d,rfl,hp,hR,rl,rb,hm,kk⟩:=h
 have zl:=hR.1
 refine⟨_,(af (c7 PassesOwn.never rfl (cR rfl T.n_range (aa (av ak (by rfl) T.n_len aU (aa (pv 0) ah)) ah)) (a9 (i:=2) mF.nd rfl (Or.inl rfl)) (aj (bG (az zZ (pv 1) (aN aE (pv 0) (pv 2) (fun _ _=>rfl)) (by with_unfolding_all rfl)) (aj (bQ (eX (aa (pv 2) (aa (cv Eb Gz Gy qB (aN aE (pv 0) (pv 2) (fun _ _=>rfl)) (aa (pv 1) ah)) ah))))) bf)))
   (aj (bQ (eX (aa ag (aa ag ah)))))),?_⟩
 refine⟨_,rfl,pr,zs,rfl,.inl (SqL.of hp),_,rfl,by omega,by omega,dz (n:=(zs.length:Int).toNat) (fun k σ H2=>∃ v2,σ = [some (.ref pr),some (.int (d:Int)),v2]/\H2=H/\∀(j:Nat)(r:List Nat),j<k->rg[j]?=some r->d∉r) ⟨_,rfl,rfl,fun j r h=>absurd h (FU _)⟩ ?_ ?_⟩
 ·rintro k σ H2 hk ⟨v2,rfl,rfl,no⟩
  rw[EN,zl]at hk
  have e0:(0:Int)+(k:Int)=(k:Int):=FR _
  rw[e0]
  obtain⟨r,hr'⟩:∃ r,rg[k]?=some r:=⟨_,D1 hk⟩
  obtain⟨q,x1,x2⟩:=hR.2 k r hr'
  obtain⟨b1,b2⟩:=rb r (D4 hr')
  refine⟨_,rfl,_,rfl,_,rfl,pr,zs,_,_,rfl,rfl,SqL.of hp,aJ x1,q,_,rfl,.inl (SqL.of x2),rfl,?_,_,rfl,ite2 (fun c=>?_) (fun c=>?_)⟩
  ·exact List.all_eq_true.mpr fun v hv=>by
    obtain⟨n,_,rfl⟩:=EW.mp hv
    rfl
  ·have c':d∈r:=by
    have:inV (iV d) (r.map iV)=true:=c
    rw[Aw]at this
    exact of_decide_eq_true this
   refine⟨_,rfl,_,rfl,_,rfl,pr,zs,_,_,rfl,rfl,SqL.of hp,aJ x1,.inl ⟨rfl,_,SqL.of x2⟩,_,rfl,q,r,d,rfl,rfl,SqL.of x2,b2,by omega,c',(by show 2<=sizeLine;decide),fun t ht=>?_⟩
   exact kk t k _ r _ (ai ht _) hr' (qN c') ae
  ·have c':d∉r:=fun z=>c (by show inV (iV d) (r.map iV)=true;rw[Aw];exact decide_eq_true z)
   refine⟨_,rfl,rfl,fun j r' hj h'=>?_⟩
   by_cases z:j=k
   ·subst z
    rw[hr']at h'
    cases h'
    exact c'
   ·exact no j r' (by omega) h'
 ·rintro σ H2 ⟨v2,rfl,rfl,no⟩
  rw[EN,zl]at no
  obtain⟨r,h1,h2⟩:=EZ.mp hm
  obtain⟨j,hj⟩:=EI.mp h1
  exact absurd h2 (no j r (DZ.mp hj).1 hj)
end
end K8
namespace K8
open PySem L2
local macro_rules | `(tactic| walk_at "cc") => `(tactic| first | exact ⟨by decide, by decide⟩ | (show (0 : Int) < _; decide) | (show (0 : Int) < _; omega) | (show (0 : Int) ≤ _; omega) | exact ⟨by decide, by decide, by decide⟩ | exact ⟨by omega, by omega, by decide⟩ | exact Or.inl ⟨by decide, by decide⟩ | exact Or.inl ⟨by omega, by omega⟩)
local macro_rules | `(tactic| walk_at "rd") => `(tactic| repeat (first | refine ⟨_, rfl, ?_⟩ | refine ⟨_, _, rfl, rfl, ?_⟩ | refine ⟨rfl, ?_⟩ | (refine ⟨?cc, ?_⟩; (case cc => walk_at "cc"))))
theorem GwC.addS{S:Addr->Prop}{H:Hp}{pe pt pr t:Addr}{ys xs zs vs:List V}{es:En}{ts rg:List (List Nat)}(c:GwC S H pe pt pr ys xs zs es ts rg)(ht:H t=some (.tup vs)):GwC (fun p=>S p∨p=t) H pe pt pr ys xs zs es ts rg:=by
 have nl:∀{p:Addr}{us:List V},H p=some (.lst us)->p≠t:=fun h z=>by rw[z,ht]at h;cases h
 obtain⟨n1,n2,n3,n4,n5,n6⟩:=c.ne
 refine⟨c.he,c.en,c.ht,⟨c.rx.1,fun i l h=>?_⟩,c.di,c.hr,⟨c.rz.1,fun i l h=>?_⟩,⟨n1,n2,n3,?_,?_,?_⟩,fun p h z=>?_⟩
 ·obtain⟨p,a1,a2,a3⟩:=c.rx.2 i l h
  refine⟨p,a1,?_,a3⟩
  rintro(z | z | z | z | z)
  ·exact a2 (.inl z)
  ·exact a2 (.inr (.inl z))
  ·exact a2 (.inr (.inr (.inl z)))
  ·exact a2 (.inr (.inr (.inr z)))
  ·exact nl a3 z
 ·obtain⟨p,a1,a2,a3⟩:=c.rz.2 i l h
  refine⟨p,a1,?_,a3⟩
  rintro(z | z | z | z)
  ·exact a2 (.inl z)
  ·exact a2 (.inr (.inl z))
  ·exact a2 (.inr (.inr z))
  ·exact nl a3 z
 ·rintro(z | z);exact n4 z;exact nl c.he z
 ·rintro(z | z);exact n5 z;exact nl c.ht z
 ·rintro(z | z);exact n6 z;exact nl c.hr z
 ·rcases h with y | y
  ·exact c.sl p y z
  ·rw[y,ht]at z;cases z
section
variable{S:Addr->Prop}{H:Hp}{pe pt pr:Addr}{ys xs zs:List V}{es:En}{ts rg:List (List Nat)}
theorem GwC.setR(c:GwC S H pe pt pr ys xs zs es ts rg){b:Addr}{r:List Nat}(hb:b≠pe/\b≠pt/\b≠pr/\¬ S b/\V.ref b∉xs/\V.ref b∉zs)(e:H b=some (.lst (r.map iV)))(W:Nat):GwC S (upd H pr (.lst (zs.set W (.ref b)))) pe pt pr ys xs (zs.set W (.ref b)) es ts (rg.set W r):=by
 obtain⟨w1,w2,w3,w4,w5,w6⟩:=hb
 exact c.updR (mG c.rz (by rintro((z | z | z) | z | z);exact w1 z;exact w2 z;exact w3 z;exact w5 z;exact w4 z) e)
theorem GwC.addR(c:GwC S H pe pt pr ys xs zs es ts rg){b:Addr}{r:List Nat}(hb:b≠pe/\b≠pt/\b≠pr/\¬ S b/\V.ref b∉xs/\V.ref b∉zs)(e:H b=some (.lst (r.map iV))):GwC S (upd H pr (.lst (zs++[.ref b]))) pe pt pr ys xs (zs++[.ref b]) es ts (rg++[r]):=by
 obtain⟨w1,w2,w3,w4,w5,w6⟩:=hb
 exact c.updR (c.rz.snoc (by rintro((z | z | z) | z | z);exact w1 z;exact w2 z;exact w3 z;exact w5 z;exact w4 z) e)
theorem GwC.popR(c:GwC S H pe pt pr ys xs zs es ts rg)(k:Nat):GwC S (upd H pr (.lst (zs.eraseIdx k))) pe pt pr ys xs (zs.eraseIdx k) es ts (rg.eraseIdx k):=by
 refine c.updR ⟨by rw[GV,GV,c.rz.1],fun i l h=>?_⟩
 rw[List.getElem?_eraseIdx]at h ⊢
 by_cases z:i<k
 ·rw[if_pos z]at h ⊢;exact c.rz.2 i l h
 ·rw[if_neg z]at h ⊢;exact c.rz.2 (i+1) l h
end
def pQ:Sp:=fun vs H Q _=>∃(S:Addr->Prop)(t pe pt pr:Addr)(c:Int)(m:Nat)(es:En)(ts rg:List (List Nat)),vs = [.ref t,.int c]/\H t=some (.tup [.ref pe,.ref pt,.ref pr])/\S t/\GwA S H pe pt pr m es ts rg/\0<es.length/\es.length<=66/\∀(es':En)(ts' rg':List (List Nat))(H':Hp),Keep S H H'->GwA S H' pe pt pr m es' ts' rg'->es.length<=es'.length->es'.length<=es.length+1->Q .non H'
theorem cutA{ring:List Nat}{a L:Nat}(hL:ring[a]?=some L):cutV (ring.map iV) none (some ((a:Int)+1))=((ring.take a++[L]).map iV):=by
 have:=(DZ.mp hL).1
 rw[show(a:Int)+1=((a+1:Nat):Int) by omega,AU (by rw[D3];omega),← pJ hL,FC]
theorem cutB{ring:List Nat}{x:Nat}(hx:x<ring.length):cutV (ring.map iV) (some ((x:Int)+1)) none=((ring.drop (x+1)).map iV):=by
 rw[show(x:Int)+1=((x+1:Nat):Int) by omega,AV (by rw[D3];omega),FD]
theorem cutM{ring:List Nat}{a b R:Nat}(hR:ring[b]?=some R)(alt:a<b):cutV (ring.map iV) (some ((a:Int)+1)) (some ((b:Int)+1))=(((ring.drop (a+1)).take (b-a-1)++[R]).map iV):=by
 have:=(DZ.mp hR).1
 rw[show(a:Int)+1=((a+1:Nat):Int) by omega,show(b:Int)+1=((b+1:Nat):Int) by omega,AS (by rw[D3];omega) (by rw[D3];omega),← Cm hR alt,FC,FD,show b+1-(a+1)=b-a by omega]
def rHf:TS:=fun D σ H=>∃(S:Addr->Prop)(t pe pt pr:Addr)(c:Int)(v5:Option V)(a b m:Nat)(es:En)(ts rg:List (List Nat))(ys xs zs:List V)(l l':List Nat),σ = [some (.ref t),some (.int c),some (.ref pe),some (.ref pt),some (.ref pr),v5,some (.int (a:Int)),some (.int (b:Int)),some (.int ((hd es a:Nat):Int)),some (.int ((hd es b:Nat):Int)),some (.int (es.length:Int)),none,none,none,none,none,none,none]/\GwC S H pe pt pr ys xs zs (es++[(hd es a,hd es b)]) ((ts.set (hd es a) (ins l (l.idxOf (a/2)+1) es.length)).set (hd es b) (ins l' (l'.idxOf (b/2)+1) es.length)) rg/\Gr m es ts/\Part (fol es ts) (2*es.length) rg/\es.length<=66/\a<2*es.length/\b<2*es.length/\hd es a≠hd es b/\ts[hd es a]?=some l/\ts[hd es b]?=some l' /\
 ∀(es':En)(ts' rg':List (List Nat))(H':Hp)(σ':St),Keep S H H'->GwA S H' pe pt pr m es' ts' rg'->es'.length=es.length+1->D.nx σ' H'
def rHg:TS:=fun D σ H=>∃(S:Addr->Prop)(pe pt pr lq rq:Addr)(v0 v1 v5 v6 v7 v8 v9:Option V)(a b u i v j m:Nat)(es:En)(ts rg:List (List Nat))(ys xs zs:List V)(l l' rA rB:List Nat),σ = [v0,v1,some (.ref pe),some (.ref pt),some (.ref pr),v5,v6,v7,v8,v9,some (.int (es.length:Int)),some (.int (u:Int)),some (.int (i:Int)),some (.int (v:Int)),some (.int (j:Int)),some (.ref lq),some (.ref rq),none]/\GwC S H pe pt pr ys xs zs (es++[(hd es a,hd es b)]) ((ts.set (hd es a) (ins l (l.idxOf (a/2)+1) es.length)).set (hd es b) (ins l' (l'.idxOf (b/2)+1) es.length)) rg/\Gr m es ts/\Part (fol es ts) (2*es.length) rg/\es.length<=66/\hd es a≠hd es b/\ts[hd es a]?=some l/\ts[hd es b]?=some l'/\rg[u]?=some rA/\rA[i]?=some a/\rg[v]?=some rB/\rB[j]?=some b/\H lq=some (.lst (rA.map iV))/\H rq=some (.lst (rB.map iV))/\rA.length<=200/\rB.length<=200 /\
 ∀(es':En)(ts' rg':List (List Nat))(H':Hp)(σ':St),Keep S H H'->GwA S H' pe pt pr m es' ts' rg'->es'.length=es.length+1->D.nx σ' H'
theorem zF{n k:Nat}(h:k<n):seqIndex? (k:Int) n=some k:=(vP (eR h)).1
theorem Bn{rs:List (List Nat)}{u:Nat}(hu:u<rs.length)(x y:List Nat):(rs.set u x++[y]).Perm (rs.set u y++[x]):=by
 have a:∀ x y:List Nat,(rs.set u x++[y]).Perm (x::y::rs.eraseIdx u):=fun x y=>by
  have p:=(ma hu x).symm.append_right [y]
  refine p.trans ?_
  refine FL x ?_
  exact(EA:(rs.eraseIdx u++[y]).Perm ([y]++rs.eraseIdx u))
 exact(a x y).trans ((Fs y x _).trans (a y x).symm)
theorem AR{n x y:Nat}:bp n (x,y) x=2*n:=by unfold bp;rw[if_pos rfl]
theorem AQ{n x y:Nat}(h:x≠y):bp n (x,y) y=2*n+1:=by unfold bp;rw[if_neg h]
section
variable{P:Program}{w:World}{K:D5}{mg:Str->Option Value}{base:Heap}
theorem aA:aY ["grown","cell","ends","turns","rings","mixed","a","b","one","two","fresh","first","i","second","j","left","right","made"] ["grown","cell"] (au cH):=⟨rfl,rfl,rfl,by decide +kernel,rfl,by decide +kernel,by decide +kernel⟩
theorem z8{f f1 f2 f3:Addr}{fd d1 d2 d3:FuncData} (F:Fun K "_law_handle" "_law_handle" cH f fd) (T:Txt mg) (G_law_head:Cal P w K mg base 1 "_law_head" ["ends","dart"] (pP K) f1 d1) (G_law_put:Cal P w K mg base 1 "_law_put" ["turns","place","behind","fresh"] (xb K) f2 d2) (G_law_spot:Cal P w K mg base 1 "_law_spot" ["rings","dart"] zx f3 d3):FnOk P w K mg base CX0 2 f fd ["grown","cell"] pQ:=by
 refine F.ok aA (fun vs H Q E h=>?_) (fun cdv A outer s H vs Q E hr h=>?_)
 ·obtain⟨S,t,pe,pt,pr,c,m,es,ts,rg,rfl,_⟩:=h
  rfl
 obtain⟨S,t,pe,pt,pr,c,m,es,ts,rg,rfl,ht,st,⟨⟨ys,xs,zs,C⟩,g,part⟩,e0,few,kk⟩:=h
 have wf:=g.w
 have yl:ys.length=es.length:=C.en.1
 have zl:zs.length=rg.length:=C.rz.1
 have rgl:=iw part
 refine⟨_,(af (gy (pv 0) (o3 rfl (bY (a9 (i:=2) aA.nd rfl (Or.inl rfl)) (bY (a9 (i:=3) aA.nd rfl (Or.inl rfl)) (bY (a9 (i:=4) aA.nd rfl (Or.inl rfl)) ka)))))
   (af (aw (i:=5) aA.nd rfl (Or.inl rfl) (ao aT (ao bD (ao aT (pv 1) ag) ag) ag))
   (af (aw (i:=6) aA.nd rfl (Or.inl rfl) (ao aT (pv 5) (ao bD ag (av ak (by rfl) T.n_len aU (aa (pv 2) ah)))))
   (af (aw (i:=7) aA.nd rfl (Or.inl rfl) (ao aT (ao br (pv 5) (ao bD ag (av ak (by rfl) T.n_len aU (aa (pv 2) ah)))) (ao bD ag (av ak (by rfl) T.n_len aU (aa (pv 2) ah)))))
   (af (aw (i:=8) aA.nd rfl (Or.inl rfl) (aI G_law_head.ok (hr.mono (by decide)) rfl G_law_head.mg G_law_head.kp G_law_head.bn .nil bz (aa (pv 2) (aa (pv 6) ah))))
   (af (aw (i:=9) aA.nd rfl (Or.inl rfl) (aI G_law_head.ok (hr.mono (by decide)) rfl G_law_head.mg G_law_head.kp G_law_head.bn .nil bz (aa (pv 2) (aa (pv 7) ah))))
   (af (bG (az cx (pv 8) (pv 9) (aF _)) (aj zM) bf)
   (af (aw (i:=10) aA.nd rfl (Or.inl rfl) (av ak (by rfl) T.n_len aU (aa (pv 2) ah)))
   (af (aC (aI G_law_put.ok (hr.mono (by decide)) rfl G_law_put.mg G_law_put.kp G_law_put.bn .nil bz (aa (pv 3) (aa (pv 8) (aa (pv 6) (aa (pv 10) ah))))))
   (af (aC (aI G_law_put.ok (hr.mono (by decide)) rfl G_law_put.mg G_law_put.kp G_law_put.bn .nil bz (aa (pv 3) (aa (pv 9) (aa (pv 7) (aa (pv 10) ah))))))
   (af (aC (cv Eb Ej Ei aP (pv 2) (aa (eX (aa (pv 8) (aa (pv 9) ah))) ah)))
   (dB (t2:=rHf) (af (gy (aI G_law_spot.ok (hr.mono (by decide)) rfl G_law_spot.mg G_law_spot.kp G_law_spot.bn .nil bz (aa (pv 4) (aa (pv 6) ah))) (o3 rfl (bY (a9 (i:=11) aA.nd rfl (Or.inl rfl)) (bY (a9 (i:=12) aA.nd rfl (Or.inl rfl)) ka))))
   (af (gy (aI G_law_spot.ok (hr.mono (by decide)) rfl G_law_spot.mg G_law_spot.kp G_law_spot.bn .nil bz (aa (pv 4) (aa (pv 7) ah))) (o3 rfl (bY (a9 (i:=13) aA.nd rfl (Or.inl rfl)) (bY (a9 (i:=14) aA.nd rfl (Or.inl rfl)) ka))))
   (af (aw (i:=15) aA.nd rfl (Or.inl rfl) (aN aE (pv 4) (pv 11) (fun _ _=>rfl)))
   (af (aw (i:=16) aA.nd rfl (Or.inl rfl) (aN aE (pv 4) (pv 13) (fun _ _=>rfl)))
   (dB (t2:=rHg) (aj (bG (az se (pv 11) (pv 13) (aF _)) (af (aw (i:=17) aA.nd rfl (Or.inl rfl) (ao bL (bw bP (pv 15) cQ (bB (ao aO (pv 12) ag))) (bh (aa (ao bD ag (pv 10)) ah))))
   (af (aw (i:=17) aA.nd rfl (Or.inl rfl) (ao bL (ao bL (pv 17) (bw bP (pv 16) (bB (ao aO (pv 14) ag)) cQ)) (bw bP (pv 16) cQ (bB (ao aO (pv 14) ag)))))
   (af (gy (ao bL (ao bL (pv 17) (bh (aa (ao aO (ao bD ag (pv 10)) ag) ah))) (bw bP (pv 15) (bB (ao aO (pv 12) ag)) cQ)) (jH (pv 4) (pv 11) dU))
   (aj (aC (cv Eb GJ GH xp (pv 4) (aa (pv 13) ah))))))) (aj (bG (az yc (pv 12) (pv 14) (aF _)) (af (gy (ao bL (ao bL (bw bP (pv 15) cQ (bB (ao aO (pv 12) ag))) (bh (aa (ao bD ag (pv 10)) ah))) (bw bP (pv 15) (bB (ao aO (pv 14) ag)) cQ)) (jH (pv 4) (pv 11) dU))
   (aj (aC (cv Eb Ej Ei aP (pv 4) (aa (ao bL (bw bP (pv 15) (bB (ao aO (pv 12) ag)) (bB (ao aO (pv 14) ag))) (bh (aa (ao aO (ao bD ag (pv 10)) ag) ah))) ah))))) (af (gy (ao bL (bw bP (pv 15) (bB (ao aO (pv 14) ag)) (bB (ao aO (pv 12) ag))) (bh (aa (ao bD ag (pv 10)) ah))) (jH (pv 4) (pv 11) dU))
   (aj (aC (cv Eb Ej Ei aP (pv 4) (aa (ao bL (ao bL (bw bP (pv 15) cQ (bB (ao aO (pv 14) ag))) (bh (aa (ao aO (ao bD ag (pv 10)) ag) ah))) (bw bP (pv 15) (bB (ao aO (pv 12) ag)) cQ)) ah))))))))) (fun D0 S0 H0 h0=>?restg)))))) (fun D0 S0 H0 h0=>?restf))))))))))))),?_⟩
 case restg =>
  clear C g part kk few e0 wf yl zl rgl ht st
  obtain⟨S,pe,pt,pr,lq,rq,v0,v1,v5,v6,v7,v8,v9,a,b,u,i,v,j,m,es,ts,rg,ys,xs,zs,l,l',rA,rB,rfl,C5,g,part,few,hne,k5,k5',hu,hi,hv,hj,a3,b3,rAl,rBl,kk⟩:=h0
  have il:=(DZ.mp hi).1
  have jl:=(DZ.mp hj).1
  have ul:=(DZ.mp hu).1
  have vl:=(DZ.mp hv).1
  have zl:zs.length=rg.length:=C5.rz.1
  have rgl:=iw part
  have lenE:(es++[(hd es a,hd es b)]).length=es.length+1:=by rw[D2];rfl
  have n6:=C5.ne.2.2.2.2.2
  have i0:V.int (2*(es.length:Int))=iV (2*es.length):=congrArg V.int (by omega)
  have i1:V.int (2*(es.length:Int)+1)=iV (2*es.length+1):=congrArg V.int (by omega)
  have one:1<=sizeLine:=by decide
  have lqr:lq≠pr:=fun z=>by
   rw[z,C5.hr]at a3
   have e:zs=rA.map iV:=by injection a3 with e;injection e
   obtain⟨p,e1,_,_⟩:=C5.rz.2 u rA hu
   rw[e,D9]at e1
   cases y:rA[u]? with
   |none=>rw[y]at e1;cases e1
   |some n=>rw[y]at e1;cases e1
  refine⟨_,rfl,_,rfl,rfl,_,rfl,ite2 (fun cc=>?_) (fun cc=>?_)⟩
  ·have uv:u≠v:=fun z=>by
    rw[z]at cc
    have cc:(!decide (V.int (v:Int)=V.int (v:Int)))=true:=cc
    rw[decide_eq_true rfl]at cc
    cases cc
   refine⟨_,rfl,_,rfl,_,_,rfl,rfl,_,rfl,lq,_,rfl,SqL.of a3,fun x1 hx1=>?_⟩
   have t1:=ai hx1 (.lst (cutV (rA.map iV) none (some ((i:Int)+1))))
   refine⟨_,rfl,_,_,rfl,rfl,.inl ⟨by decide,by decide⟩,one,fun x2 hx2=>?_⟩
   have t2:=ai hx2 (.lst [V.int (2*(es.length:Int))])
   refine⟨x1,x2,_,[V.int (2*(es.length:Int))],rfl,rfl,SqL.of (t2 _ _ ae),SqL.of ae,(by rw[cutA hi,D3,D2,Eg];exact ER (ar (by simp;omega))),fun x3 hx3=>?_⟩
   have t3:=ai hx3 (.lst (cutV (rA.map iV) none (some ((i:Int)+1))++[V.int (2*(es.length:Int))]))
   have m1:cutV (rA.map iV) none (some ((i:Int)+1))++[V.int (2*(es.length:Int))]=(rA.take i++[a,2*es.length]).map iV:=by rw[cutA hi,i0];simp
   have s3:=t1.trans (t2.trans t3)
   have h3:(upd (upd (upd H0 x1 (.lst (cutV (rA.map iV) none (some ((i:Int)+1))))) x2 (.lst [V.int (2*(es.length:Int))])) x3 (.lst (cutV (rA.map iV) none (some ((i:Int)+1))++[V.int (2*(es.length:Int))]))) x3=some (.lst ((rA.take i++[a,2*es.length]).map iV)):=by rw[ae,m1]
   generalize upd (upd (upd H0 x1 (.lst (cutV (rA.map iV) none (some ((i:Int)+1))))) x2 (.lst [V.int (2*(es.length:Int))])) x3 (.lst (cutV (rA.map iV) none (some ((i:Int)+1))++[V.int (2*(es.length:Int))]))=H6 at s3 h3
   clear t1 t2 t3 hx1 hx2 hx3
   refine⟨_,rfl,_,rfl,_,rfl,_,_,rfl,rfl,_,rfl,rq,_,rfl,SqL.of (s3 _ _ b3),fun x4 hx4=>?_⟩
   rw[cutB jl]
   have t4:=ai hx4 (.lst ((rB.drop (j+1)).map iV))
   refine⟨x3,x4,_,_,rfl,rfl,SqL.of (t4 _ _ h3),SqL.of ae,(by rw[D3,D3,D2,Eg,Eu];exact ER (ar (by simp;omega))),fun x5 hx5=>?_⟩
   rw[← EX]
   have t5:=ai hx5 (.lst ((rA.take i++[a,2*es.length]++rB.drop (j+1)).map iV))
   have s5:=s3.trans (t4.trans t5)
   have h5:(upd (upd H6 x4 (.lst ((rB.drop (j+1)).map iV))) x5 (.lst ((rA.take i++[a,2*es.length]++rB.drop (j+1)).map iV))) x5=some (.lst ((rA.take i++[a,2*es.length]++rB.drop (j+1)).map iV)):=ae
   generalize upd (upd H6 x4 (.lst ((rB.drop (j+1)).map iV))) x5 (.lst ((rA.take i++[a,2*es.length]++rB.drop (j+1)).map iV))=H7 at s5 h5
   refine⟨_,rfl,_,rfl,_,_,rfl,rfl,_,rfl,rq,_,rfl,SqL.of (s5 _ _ b3),fun x6 hx6=>?_⟩
   rw[cutA hj]
   have t6:=ai hx6 (.lst ((rB.take j++[b]).map iV))
   refine⟨x5,x6,_,_,rfl,rfl,SqL.of (t6 _ _ h5),SqL.of ae,(by rw[D3,D3,D2,D2,D2,Eg,Eu,Eg];exact ER (ar (by simp;omega))),fun x7 hx7=>?_⟩
   rw[← EX]
   have t7:=ai hx7 (.lst ((rA.take i++[a,2*es.length]++rB.drop (j+1)++(rB.take j++[b])).map iV))
   have s7:=s5.trans (t6.trans t7)
   have h7:(upd (upd H7 x6 (.lst ((rB.take j++[b]).map iV))) x7 (.lst ((rA.take i++[a,2*es.length]++rB.drop (j+1)++(rB.take j++[b])).map iV))) x7=some (.lst ((rA.take i++[a,2*es.length]++rB.drop (j+1)++(rB.take j++[b])).map iV)):=ae
   generalize upd (upd H7 x6 (.lst ((rB.take j++[b]).map iV))) x7 (.lst ((rA.take i++[a,2*es.length]++rB.drop (j+1)++(rB.take j++[b])).map iV))=H8 at s7 h7
   generalize hm:rA.take i++[a,2*es.length]++rB.drop (j+1)++(rB.take j++[b])=made at h7
   have ml:made.length<=410:=by rw[← hm];simp;omega
   refine⟨_,rfl,_,rfl,_,_,rfl,rfl,.inl ⟨by decide,by decide⟩,_,_,rfl,rfl,one,fun x8 hx8=>?_⟩
   have t8:=ai hx8 (.lst [V.int (2*(es.length:Int)+1)])
   refine⟨x7,x8,_,[V.int (2*(es.length:Int)+1)],rfl,rfl,SqL.of (t8 _ _ h7),SqL.of ae,(by rw[D3];exact ER (ar (by show _+1<=1000;omega))),fun x9 hx9=>?_⟩
   have t9:=ai hx9 (.lst (made.map iV++[V.int (2*(es.length:Int)+1)]))
   have s9:=s7.trans (t8.trans t9)
   have h9:(upd (upd H8 x8 (.lst [V.int (2*(es.length:Int)+1)])) x9 (.lst (made.map iV++[V.int (2*(es.length:Int)+1)]))) x9=some (.lst ((made++[2*es.length+1]).map iV)):=by rw[ae,i1,EX];rfl
   generalize upd (upd H8 x8 (.lst [V.int (2*(es.length:Int)+1)])) x9 (.lst (made.map iV++[V.int (2*(es.length:Int)+1)]))=H9 at s9 h9
   refine⟨_,rfl,_,rfl,_,_,rfl,rfl,_,rfl,lq,_,rfl,SqL.of (s9 _ _ a3),fun y1 hy1=>?_⟩
   rw[cutB il]
   have t10:=ai hy1 (.lst ((rA.drop (i+1)).map iV))
   refine⟨x9,y1,_,_,rfl,rfl,SqL.of (t10 _ _ h9),SqL.of ae,(by rw[D3,D3,D2,Eu];exact ER (ar (by simp;omega))),fun y2 hy2=>?_⟩
   rw[← EX]
   have t11:=ai hy2 (.lst ((made++[2*es.length+1]++rA.drop (i+1)).map iV))
   have s10:=s9.trans t10
   have s11:=s10.trans t11
   have C6:=C5.same s11
   have C7:=C6.setR (C5.new (bH s10 hy2) |> fun⟨w1,w2,w3,w4,w5,w6⟩=>⟨w1,w2,w3,w4,w5,w6⟩) (r:=made++[2*es.length+1]++rA.drop (i+1)) ae u
   refine⟨_,rfl,_,rfl,pr,zs,_,u,rfl,rfl,C6.hr,eR (by omega),?_⟩
   have kp:=(Keep.of (S:=S) s11).trans (Keep.upd (q:=pr) (o:=.lst (zs.set u (.ref y2))) n6)
   generalize upd (upd (upd H9 y1 (.lst ((rA.drop (i+1)).map iV))) y2 (.lst ((made++[2*es.length+1]++rA.drop (i+1)).map iV))) pr (.lst (zs.set u (.ref y2)))=G at C7 kp
   obtain⟨yv,hyv⟩:∃ y,(zs.set u (.ref y2))[v]?=some y:=⟨_,D1 (by rw[EF];omega)⟩
   refine⟨_,rfl,.inl ⟨rfl,_,SqL.of C7.hr⟩,_,rfl,pr,_,(v:Int),v,yv,rfl,rfl,C7.hr,by omega,by omega,zF (by rw[EF];omega),hyv,?_⟩
   have C8:=C7.popR v
   have hS:=xN (e:=(hd es a,hd es b)) g part (hu.trans (congrArg some (jE hi))) (hv.trans (congrArg some (jE hj))) uv rfl rfl hne (.inl rfl) k5 k5'
   rw[AR,AQ hne]at hS
   have er:made++[2*es.length+1]++rA.drop (i+1)=rA.take i++a::2*es.length::(rB.drop (j+1)++rB.take j++b::(2*es.length+1)::rA.drop (i+1)):=by rw[← hm];simp
   rw[er]at C8
   exact kk _ _ _ _ _ (kp.trans (Keep.upd n6)) ⟨⟨_,_,_,C8⟩,hS.1,hS.2⟩ lenE
  have uv:u=v:=by
   by_cases z:u=v
   ·exact z
   ·exact absurd (by show(!decide (V.int (u:Int)=V.int (v:Int)))=true;rw[decide_eq_false (fun y=>z (by have:=V.int.inj y;omega))];rfl) cc
  subst uv
  rw[hu]at hv
  cases hv
  have ij:i≠j:=fun z=>by
   subst z
   rw[hi]at hj
   cases hj
   exact hne rfl
  refine⟨_,rfl,_,rfl,_,_,rfl,rfl,_,rfl,ite2 (fun lt=>?_) (fun lt=>?_)⟩
  ·have alt:i<j:=by have:=of_decide_eq_true lt;omega
   refine⟨_,rfl,_,rfl,_,_,rfl,rfl,_,rfl,lq,_,rfl,SqL.of a3,fun x1 hx1=>?_⟩
   have t1:=ai hx1 (.lst (cutV (rA.map iV) none (some ((i:Int)+1))))
   refine⟨_,rfl,_,_,rfl,rfl,.inl ⟨by decide,by decide⟩,one,fun x2 hx2=>?_⟩
   have t2:=ai hx2 (.lst [V.int (2*(es.length:Int))])
   refine⟨x1,x2,_,[V.int (2*(es.length:Int))],rfl,rfl,SqL.of (t2 _ _ ae),SqL.of ae,(by rw[cutA hi,D3,D2,Eg];exact ER (ar (by simp;omega))),fun x3 hx3=>?_⟩
   have t3:=ai hx3 (.lst (cutV (rA.map iV) none (some ((i:Int)+1))++[V.int (2*(es.length:Int))]))
   have m1:cutV (rA.map iV) none (some ((i:Int)+1))++[V.int (2*(es.length:Int))]=(rA.take i++[a,2*es.length]).map iV:=by rw[cutA hi,i0];simp
   have s3:=t1.trans (t2.trans t3)
   have h3:(upd (upd (upd H0 x1 (.lst (cutV (rA.map iV) none (some ((i:Int)+1))))) x2 (.lst [V.int (2*(es.length:Int))])) x3 (.lst (cutV (rA.map iV) none (some ((i:Int)+1))++[V.int (2*(es.length:Int))]))) x3=some (.lst ((rA.take i++[a,2*es.length]).map iV)):=by rw[ae,m1]
   generalize upd (upd (upd H0 x1 (.lst (cutV (rA.map iV) none (some ((i:Int)+1))))) x2 (.lst [V.int (2*(es.length:Int))])) x3 (.lst (cutV (rA.map iV) none (some ((i:Int)+1))++[V.int (2*(es.length:Int))]))=H6 at s3 h3
   refine⟨_,rfl,_,rfl,_,_,rfl,rfl,_,rfl,lq,_,rfl,SqL.of (s3 _ _ a3),fun x4 hx4=>?_⟩
   rw[cutB jl]
   have t4:=ai hx4 (.lst ((rA.drop (j+1)).map iV))
   refine⟨x3,x4,_,_,rfl,rfl,SqL.of (t4 _ _ h3),SqL.of ae,(by rw[D3,D3,D2,Eg,Eu];exact ER (ar (by simp;omega))),fun x5 hx5=>?_⟩
   rw[← EX]
   have t5:=ai hx5 (.lst ((rA.take i++[a,2*es.length]++rA.drop (j+1)).map iV))
   have s4:=s3.trans t4
   have s5:=s4.trans t5
   have C6:=C5.same s5
   have C7:=C6.setR (C5.new (bH s4 hx5) |> fun⟨w1,w2,w3,w4,w5,w6⟩=>⟨w1,w2,w3,w4,w5,w6⟩) (r:=rA.take i++[a,2*es.length]++rA.drop (j+1)) ae u
   refine⟨_,rfl,_,rfl,pr,zs,_,u,rfl,rfl,C6.hr,eR (by omega),?_⟩
   have kp:=(Keep.of (S:=S) s5).trans (Keep.upd (q:=pr) (o:=.lst (zs.set u (.ref x5))) n6)
   have a6:(upd (upd (upd H6 x4 (.lst ((rA.drop (j+1)).map iV))) x5 (.lst ((rA.take i++[a,2*es.length]++rA.drop (j+1)).map iV))) pr (.lst (zs.set u (.ref x5)))) lq=some (.lst (rA.map iV)):=by rw[aq lqr];exact s5 _ _ a3
   generalize upd (upd (upd H6 x4 (.lst ((rA.drop (j+1)).map iV))) x5 (.lst ((rA.take i++[a,2*es.length]++rA.drop (j+1)).map iV))) pr (.lst (zs.set u (.ref x5)))=G at C7 kp a6
   refine⟨_,rfl,.inl ⟨rfl,_,SqL.of C7.hr⟩,_,rfl,_,rfl,_,_,rfl,rfl,_,rfl,_,rfl,_,_,rfl,rfl,_,rfl,lq,_,rfl,SqL.of a6,fun y1 hy1=>?_⟩
   rw[cutM hj alt]
   have q1:=ai hy1 (.lst (((rA.drop (i+1)).take (j-i-1)++[b]).map iV))
   refine⟨_,rfl,_,_,rfl,rfl,.inl ⟨by decide,by decide⟩,_,_,rfl,rfl,one,fun y2 hy2=>?_⟩
   have q2:=ai hy2 (.lst [V.int (2*(es.length:Int)+1)])
   refine⟨y1,y2,((rA.drop (i+1)).take (j-i-1)++[b]).map iV,[V.int (2*(es.length:Int)+1)],rfl,rfl,SqL.of (q2 _ _ ae),SqL.of ae,(by rw[D3,D2,Eg,Eu];exact ER (ar (by simp;omega))),fun y3 hy3=>?_⟩
   have q3:=ai hy3 (.lst (((rA.drop (i+1)).take (j-i-1)++[b]).map iV++[V.int (2*(es.length:Int)+1)]))
   have q12:=q1.trans q2
   have q13:=q12.trans q3
   have m2:((rA.drop (i+1)).take (j-i-1)++[b]).map iV++[V.int (2*(es.length:Int)+1)]=((rA.drop (i+1)).take (j-i-1)++[b,2*es.length+1]).map iV:=by rw[i1];simp
   have C8:=C7.same q13
   have C9:=C8.addR (C7.new (bH q12 hy3) |> fun⟨w1,w2,w3,w4,w5,w6⟩=>⟨w1,w2,w3,w4,w5,w6⟩) (r:=(rA.drop (i+1)).take (j-i-1)++[b,2*es.length+1]) (by rw[ae,m2])
   refine⟨pr,zs.set u (.ref x5),_,rfl,rfl,C8.hr,ar (by rw[EF];omega),?_⟩
   have hS:=mz (e:=(hd es a,hd es b)) (w:=u) g part (hu.trans (congrArg some (mB hi hj alt))) rfl rfl hne (.inl rfl) k5 k5'
   rw[AR,AQ hne]at hS
   have er:rA.take i++[a,2*es.length]++rA.drop (j+1)=rA.take i++a::2*es.length::rA.drop (j+1):=by simp
   rw[er]at C9
   exact kk _ _ _ _ _ (kp.trans ((Keep.of q13).trans (Keep.upd n6))) ⟨⟨_,_,_,C9⟩,hS.1,hS.2⟩ lenE
  ·have alt:j<i:=by
    rcases Nat.lt_or_gt_of_ne ij with z | z
    ·exact absurd (decide_eq_true (by omega)) lt
    ·exact z
   refine⟨_,rfl,_,rfl,_,_,rfl,rfl,_,rfl,_,rfl,_,_,rfl,rfl,_,rfl,lq,_,rfl,SqL.of a3,fun x1 hx1=>?_⟩
   rw[cutM hi alt]
   have t1:=ai hx1 (.lst (((rA.drop (j+1)).take (i-j-1)++[a]).map iV))
   refine⟨_,rfl,_,_,rfl,rfl,.inl ⟨by decide,by decide⟩,one,fun x2 hx2=>?_⟩
   have t2:=ai hx2 (.lst [V.int (2*(es.length:Int))])
   refine⟨x1,x2,((rA.drop (j+1)).take (i-j-1)++[a]).map iV,[V.int (2*(es.length:Int))],rfl,rfl,SqL.of (t2 _ _ ae),SqL.of ae,(by rw[D3,D2,Eg,Eu];exact ER (ar (by simp;omega))),fun x3 hx3=>?_⟩
   have t3:=ai hx3 (.lst (((rA.drop (j+1)).take (i-j-1)++[a]).map iV++[V.int (2*(es.length:Int))]))
   have m1:((rA.drop (j+1)).take (i-j-1)++[a]).map iV++[V.int (2*(es.length:Int))]=((rA.drop (j+1)).take (i-j-1)++[a,2*es.length]).map iV:=by rw[i0];simp
   have s2:=t1.trans t2
   have s3:=s2.trans t3
   have C6:=C5.same s3
   have C7:=C6.setR (C5.new (bH s2 hx3) |> fun⟨w1,w2,w3,w4,w5,w6⟩=>⟨w1,w2,w3,w4,w5,w6⟩) (r:=(rA.drop (j+1)).take (i-j-1)++[a,2*es.length]) (by rw[ae,m1]) u
   refine⟨_,rfl,_,rfl,pr,zs,_,u,rfl,rfl,C6.hr,eR (by omega),?_⟩
   have kp:=(Keep.of (S:=S) s3).trans (Keep.upd (q:=pr) (o:=.lst (zs.set u (.ref x3))) n6)
   have a6:(upd (upd (upd (upd H0 x1 (.lst (((rA.drop (j+1)).take (i-j-1)++[a]).map iV))) x2 (.lst [V.int (2*(es.length:Int))])) x3 (.lst (((rA.drop (j+1)).take (i-j-1)++[a]).map iV++[V.int (2*(es.length:Int))]))) pr (.lst (zs.set u (.ref x3)))) lq=some (.lst (rA.map iV)):=by rw[aq lqr];exact s3 _ _ a3
   generalize upd (upd (upd (upd H0 x1 (.lst (((rA.drop (j+1)).take (i-j-1)++[a]).map iV))) x2 (.lst [V.int (2*(es.length:Int))])) x3 (.lst (((rA.drop (j+1)).take (i-j-1)++[a]).map iV++[V.int (2*(es.length:Int))]))) pr (.lst (zs.set u (.ref x3)))=G at C7 kp a6
   refine⟨_,rfl,.inl ⟨rfl,_,SqL.of C7.hr⟩,_,rfl,_,rfl,_,_,rfl,rfl,_,rfl,lq,_,rfl,SqL.of a6,fun y1 hy1=>?_⟩
   have q1:=ai hy1 (.lst (cutV (rA.map iV) none (some ((j:Int)+1))))
   refine⟨_,rfl,_,_,rfl,rfl,.inl ⟨by decide,by decide⟩,_,_,rfl,rfl,one,fun y2 hy2=>?_⟩
   have q2:=ai hy2 (.lst [V.int (2*(es.length:Int)+1)])
   refine⟨y1,y2,_,[V.int (2*(es.length:Int)+1)],rfl,rfl,SqL.of (q2 _ _ ae),SqL.of ae,(by rw[cutA hj,D3,D2,Eg];exact ER (ar (by simp;omega))),fun y3 hy3=>?_⟩
   have q3:=ai hy3 (.lst (cutV (rA.map iV) none (some ((j:Int)+1))++[V.int (2*(es.length:Int)+1)]))
   have m2:cutV (rA.map iV) none (some ((j:Int)+1))++[V.int (2*(es.length:Int)+1)]=(rA.take j++[b,2*es.length+1]).map iV:=by rw[cutA hj,i1];simp
   have q13:=q1.trans (q2.trans q3)
   have g3:(upd (upd (upd G y1 (.lst (cutV (rA.map iV) none (some ((j:Int)+1))))) y2 (.lst [V.int (2*(es.length:Int)+1)])) y3 (.lst (cutV (rA.map iV) none (some ((j:Int)+1))++[V.int (2*(es.length:Int)+1)]))) y3=some (.lst ((rA.take j++[b,2*es.length+1]).map iV)):=by rw[ae,m2]
   generalize upd (upd (upd G y1 (.lst (cutV (rA.map iV) none (some ((j:Int)+1))))) y2 (.lst [V.int (2*(es.length:Int)+1)])) y3 (.lst (cutV (rA.map iV) none (some ((j:Int)+1))++[V.int (2*(es.length:Int)+1)]))=G3 at q13 g3
   refine⟨_,rfl,_,rfl,_,_,rfl,rfl,_,rfl,lq,_,rfl,SqL.of (q13 _ _ a6),fun y4 hy4=>?_⟩
   rw[cutB il]
   have q4:=ai hy4 (.lst ((rA.drop (i+1)).map iV))
   refine⟨y3,y4,_,_,rfl,rfl,SqL.of (q4 _ _ g3),SqL.of ae,(by rw[D3,D3,D2,Eg,Eu];exact ER (ar (by simp;omega))),fun y5 hy5=>?_⟩
   rw[← EX]
   have q5:=ai hy5 (.lst ((rA.take j++[b,2*es.length+1]++rA.drop (i+1)).map iV))
   have q14:=q13.trans q4
   have q15:=q14.trans q5
   have C8:=C7.same q15
   have C9:=C8.addR (C7.new (bH q14 hy5) |> fun⟨w1,w2,w3,w4,w5,w6⟩=>⟨w1,w2,w3,w4,w5,w6⟩) (r:=rA.take j++[b,2*es.length+1]++rA.drop (i+1)) ae
   refine⟨pr,zs.set u (.ref x3),_,rfl,rfl,C8.hr,ar (by rw[EF];omega),?_⟩
   have hS:=mz (e:=(hd es a,hd es b)) (w:=u) g part (hu.trans (congrArg some (mB hj hi alt))) rfl rfl (Ne.symm hne) (.inr rfl) k5' k5
   rw[AR,AQ hne,List.set_comm _ _ (Ne.symm hne)]at hS
   have er:rA.take j++[b,2*es.length+1]++rA.drop (i+1)=rA.take j++b::(2*es.length+1)::rA.drop (i+1):=by simp
   rw[← er]at hS
   exact kk _ _ _ _ _ (kp.trans ((Keep.of q15).trans (Keep.upd n6))) ⟨⟨_,_,_,C9⟩,hS.1,hS.2.perm (Bn ul _ _)⟩ lenE
 case restf =>
  clear C g part kk few e0 wf yl zl rgl ht st
  obtain⟨S,t,pe,pt,pr,c,v5,a,b,m,es,ts,rg,ys,xs,zs,l,l',rfl,C3,g,part,few,al,bl,hne,k5,k5',kk⟩:=h0
  have rgl:=iw part
  have rb:∀ r∈rg,r.length<=200/\∀ x∈r,x<1000:=fun r hr=>⟨by have:=eP (part.cr r hr).nd (part.cr r hr).lt;omega,fun x hx=>by have:=(part.cr r hr).lt x hx;omega⟩
  refine⟨_,rfl,_,rfl,pr,zs,rg,a,rfl,C3.hr,C3.rz.off,by omega,rb,part.all a al,fun ta u i rA H4 s4 hu hi hta=>?_⟩
  refine⟨ta,_,rfl,SqT.of hta,rfl,_,_,rfl,_,_,rfl,rfl,?_⟩
  refine⟨_,rfl,_,rfl,pr,zs,rg,b,rfl,s4 _ _ C3.hr,C3.rz.off.mono s4,by omega,rb,part.all b bl,fun tb v j rB H5 s5 hv hj htb=>?_⟩
  refine⟨tb,_,rfl,SqT.of htb,rfl,_,_,rfl,_,_,rfl,rfl,?_⟩
  have C5:=(C3.same s4).same s5
  obtain⟨lq,a1,a2,a3⟩:=C5.rz.2 u rA hu
  obtain⟨rq,b1,b2,b3⟩:=C5.rz.2 v rB hv
  refine⟨_,rfl,_,rfl,pr,zs,_,_,rfl,rfl,SqL.of C5.hr,aJ a1,?_⟩
  refine⟨_,rfl,_,rfl,pr,zs,_,_,rfl,rfl,SqL.of C5.hr,aJ b1,?_⟩
  exact⟨S,pe,pt,pr,lq,rq,_,_,_,_,_,_,_,a,b,u,i,v,j,m,es,ts,rg,ys,xs,zs,l,l',rA,rB,rfl,C5,g,part,few,hne,k5,k5',hu,hi,hv,hj,a3,b3,(rb rA (D4 hu)).1,(rb rB (D4 hv)).1,fun es' ts' rg' H' σ' k1=>kk es' ts' rg' H' σ' ((Keep.of (s4.trans s5)).trans k1)⟩
 refine⟨_,rfl,t,_,rfl,SqT.of ht,rfl,_,_,rfl,_,_,rfl,_,_,rfl,rfl,?_⟩
 refine⟨_,rfl,_,_,rfl,rfl,(by show(0:Int)<1000000007;decide),_,_,rfl,rfl,.inr ⟨by decide,by decide⟩,_,_,rfl,rfl,(by show(0:Int)<2147483647;decide),?_⟩
 have o0:(0:Int)<=c%1000000007*48271%2147483647:=Fd _ (by decide)
 obtain⟨X,hX⟩:∃ X:Nat,c%1000000007*48271%2147483647=(X:Int):=⟨(c%1000000007*48271%2147483647).toNat,by omega⟩
 show oG 5 (V.int (c%1000000007*48271%2147483647)) _ _ _
 rw[hX]
 have n2:(2:Int)*(ys.length:Int)=((2*es.length:Nat):Int):=by omega
 refine⟨_,rfl,_,rfl,pe,ys,rfl,.inl (SqL.of C.he),_,_,rfl,rfl,.inl ⟨by decide,by decide⟩,_,_,rfl,rfl,(by show(0:Int)<2*(ys.length:Int);omega),?_⟩
 show oG 6 (V.int ((X:Int)%(2*(ys.length:Int)))) _ _ _
 rw[n2,← F4]
 have al:X%(2*es.length)<2*es.length:=GQ _ (by omega)
 generalize X%(2*es.length)=a at al
 refine⟨_,rfl,_,rfl,pe,ys,rfl,.inl (SqL.of C.he),_,_,rfl,rfl,.inl ⟨by decide,by decide⟩,_,_,rfl,rfl,⟨by show(0:Int)<2*(ys.length:Int);omega,by show 2*(ys.length:Int)<_;omega +splitDisjunctions⟩,_,rfl,pe,ys,rfl,.inl (SqL.of C.he),_,_,rfl,rfl,.inl ⟨by decide,by decide⟩,_,_,rfl,rfl,(by show(0:Int)<2*(ys.length:Int);omega),?_⟩
 show oG 7 (V.int ((X:Int)/(2*(ys.length:Int))%(2*(ys.length:Int)))) _ _ _
 rw[n2,← Hj,← F4]
 have bl:X/(2*es.length)%(2*es.length)<2*es.length:=GQ _ (by omega)
 generalize X/(2*es.length)%(2*es.length)=b at bl
 refine⟨_,rfl,_,rfl,pe,ys,es,a,rfl,SqL.of C.he,C.en,al,?_⟩
 refine⟨_,rfl,_,rfl,pe,ys,es,b,rfl,SqL.of C.he,C.en,bl,?_⟩
 refine⟨_,rfl,_,rfl,rfl,_,rfl,ite2 (fun z=>?_) (fun z=>?_)⟩
 ·exact kk es ts rg H (Keep.of fun _ _ e=>e) ⟨⟨ys,xs,zs,C⟩,g,part⟩ (Ea _) (Fv _)
 have hne:hd es a≠hd es b:=fun y=>z (decide_eq_true (by rw[y]))
 refine⟨_,rfl,pe,ys,rfl,.inl (SqL.of C.he),?_⟩
 show oG 10 (V.int (ys.length:Int)) _ _ _
 rw[yl]
 obtain⟨_,l,_,_,_,k4,k5,k6⟩:=wf.at al
 obtain⟨_,l',_,_,_,k4',k5',k6'⟩:=wf.at bl
 obtain⟨sm1,g1⟩:=et wf (by omega) k5
 obtain⟨sm2,g2⟩:=et wf (by omega) k5'
 obtain⟨p1,y1,y2,y3⟩:=C.rx.2 _ _ k5
 refine⟨_,rfl,_,rfl,_,rfl,_,rfl,pt,p1,xs,hd es a,a,es.length,l,rfl,SqL.of C.ht,y1,y3,k6,g1,fun x hx=>by have:=sm1 x hx;omega,?_⟩
 obtain⟨C1,np1⟩:=C.put y1 (ins l (l.idxOf (a/2)+1) es.length)
 have kp1:Keep S H (upd H p1 (.lst ((ins l (l.idxOf (a/2)+1) es.length).map iV))):=Keep.upd np1
 generalize upd H p1 (.lst ((ins l (l.idxOf (a/2)+1) es.length).map iV))=H1 at C1 kp1
 have k5s:(ts.set (hd es a) (ins l (l.idxOf (a/2)+1) es.length))[hd es b]?=some l':=by rw[EG,if_neg hne];exact k5'
 obtain⟨p2,z1,z2,z3⟩:=C1.rx.2 _ _ k5s
 refine⟨_,rfl,_,rfl,_,rfl,_,rfl,pt,p2,xs,hd es b,b,es.length,l',rfl,SqL.of C1.ht,z1,z3,k6',g2,fun x hx=>by have:=sm2 x hx;omega,?_⟩
 have hpe2:(upd H1 p2 (.lst ((ins l' (l'.idxOf (b/2)+1) es.length).map iV))) pe=some (.lst ys):=(C1.put z1 (ins l' (l'.idxOf (b/2)+1) es.length)).1.he
 refine⟨_,rfl,.inl ⟨rfl,_,SqL.of hpe2⟩,_,rfl,_,rfl,(by show 2<=sizeLine;decide),fun t2 ht2=>⟨pe,ys,_,rfl,rfl,ai ht2 _ _ _ hpe2,ar (by omega),?_⟩⟩
 obtain⟨C3,kp3⟩:=C1.fin z1 (ins l' (l'.idxOf (b/2)+1) es.length) ht2 (hd es a,hd es b)
 have kp:=kp1.trans kp3
 show rHf _ _ (upd (upd (upd H1 p2 (.lst ((ins l' (l'.idxOf (b/2)+1) es.length).map iV))) t2 (.tup [iV (hd es a),iV (hd es b)])) pe (.lst (ys++[.ref t2])))
 exact⟨S,t,pe,pt,pr,c,_,a,b,m,es,ts,rg,ys++[.ref t2],xs,zs,l,l',rfl,C3,g,part,few,al,bl,hne,k5,k5',fun es' ts' rg' H' σ' k1 k2 k3=>kk es' ts' rg' H' (kp.trans k1) k2 (by omega) (by omega)⟩
end
end K8
namespace K8
open PySem L2
local macro_rules | `(tactic| walk_at "cc") => `(tactic| first | exact ⟨by decide, by decide⟩ | (show (0 : Int) < _; decide) | (show (0 : Int) < _; omega) | (show (0 : Int) ≤ _; omega) | exact ⟨by decide, by decide, by decide⟩ | exact ⟨by omega, by omega, by decide⟩ | exact Or.inl ⟨by decide, by decide⟩ | exact Or.inl ⟨by omega, by omega⟩)
local macro_rules | `(tactic| walk_at "rd") => `(tactic| repeat (first | refine ⟨_, rfl, ?_⟩ | refine ⟨_, _, rfl, rfl, ?_⟩ | refine ⟨rfl, ?_⟩ | (refine ⟨?cc, ?_⟩; (case cc => walk_at "cc"))))
def mC:Sp:=fun vs H Q _=>∃(S:Addr->Prop)(t pe pt pr:Addr)(c:Int)(m:Nat)(es:En)(ts rg:List (List Nat)),vs = [.ref t,.int c]/\H t=some (.tup [.ref pe,.ref pt,.ref pr])/\S t/\GwA S H pe pt pr m es ts rg/\0<es.length/\es.length<=63/\∀(es':En)(ts' rg':List (List Nat))(H':Hp),Keep S H H'->GwA S H' pe pt pr m es' ts' rg'->es.length<=es'.length->es'.length<=es.length+3->Q .non H'
theorem i6{H:Hp}{p q:Addr}{ys:List V}{l:List Nat}{i:Nat}{r:Addr}(hp:H p=some (.lst ys))(hy:ys[i]?=some (.ref r))(hq:H q=some (.lst (l.map iV))):q≠p:=fun z=>by
 rw[z,hp]at hq
 have e:ys=l.map iV:=by injection hq with e;injection e
 rw[e,D9]at hy
 cases y:l[i]? with
 |none=>rw[y]at hy;cases hy
 |some n=>rw[y]at hy;cases hy
theorem bJ.ref{H:Hp}{ys:List V}{es:En}(h:bJ H ys es)(e0:0<es.length):∃ r,ys[0]?=some (.ref r):=by
 obtain⟨p,a,_⟩:=h.2 0 _ (D1 e0)
 exact⟨p,a⟩
theorem bq.ref{H:Hp}{xs:List V}{ts:List (List Nat)}(h:bq H xs ts)(e0:0<ts.length):∃ r,xs[0]?=some (.ref r):=by
 obtain⟨p,a,_⟩:=h.2 0 _ (D1 e0)
 exact⟨p,a⟩
theorem bq.put{H:Hp}{xs zs:List V}{ts:List (List Nat)}{p:Addr}{i:Nat}{r:Addr}{o:HO}(h:bq H xs ts)(hp:H p=some (.lst zs))(hz:zs[i]?=some (.ref r)):bq (upd H p o) xs ts:=⟨h.1,fun j l e=>by
 obtain⟨q,a,b⟩:=h.2 j l e
 exact⟨q,a,by rw[aq (i6 hp hz b)];exact b⟩⟩
def pS:Sp:=fun vs H Q _=>∃(t pe pt pr t2 pe2 pt2 pr2:Addr)(m m2:Nat)(es es2:En)(ts ts2:List (List Nat))(ys xs ys2 xs2:List V),vs = [.ref t,.ref t2]/\H t=some (.tup [.ref pe,.ref pt,.ref pr])/\H t2=some (.tup [.ref pe2,.ref pt2,.ref pr2])/\H pe=some (.lst ys)/\bJ H ys es/\H pt=some (.lst xs)/\bq H xs ts/\H pe2=some (.lst ys2)/\bJ H ys2 es2/\H pt2=some (.lst xs2)/\bq H xs2 ts2/\pe≠pt/\pe2≠pe/\pe2≠pt/\pt2≠pe/\pt2≠pt/\0<es.length/\0<ts.length/\ts.length=m/\es.length<=100/\ts.length<=100/\es2.length<=100/\ts2.length<=100/\(∀ r∈ts2,r.length<=200) /\
 ∀(ys' xs':List V)(H':Hp),(∀ q o,H q=some o->q≠pe->q≠pt->H' q=some o)->H' pe=some (.lst ys')->bJ H' ys' (es++shE m es2)->H' pt=some (.lst xs')->bq H' xs' (ts++ts2.map (FF fun x=>x+es.length))->Q .non H'
section
variable{P:Program}{w:World}{K:D5}{mg:Str->Option Value}{base:Heap}
theorem iP:aY ["grown","cell","k"] ["grown","cell"] (au bX):=⟨rfl,rfl,rfl,by decide +kernel,rfl,by decide +kernel,by decide +kernel⟩
theorem yf{f f1:Addr}{fd d1:FuncData} (F:Fun K "_law_handles" "_law_handles" bX f fd) (T:Txt mg) (G_law_handle:Cal P w K mg base 2 "_law_handle" ["grown","cell"] pQ f1 d1):FnOk P w K mg base CX0 3 f fd ["grown","cell"] mC:=by
 refine F.ok iP (fun vs H Q E h=>?_) (fun cdv A outer s H vs Q E hr h=>?_)
 ·obtain⟨S,t,pe,pt,pr,c,m,es,ts,rg,rfl,_⟩:=h
  rfl
 obtain⟨S,t,pe,pt,pr,c,m,es,ts,rg,rfl,ht,st,gw,e0,few,kk⟩:=h
 refine⟨_,(aj (c7 PassesOwn.never rfl (cR rfl T.n_range (aa (ao aO ag (ao aT (pv 1) ag)) ah)) (a9 (i:=2) iP.nd rfl (Or.inl rfl)) (aj (aC (aI G_law_handle.ok (hr.mono (by decide)) rfl G_law_handle.mg G_law_handle.kp G_law_handle.bn .nil bz (aa (pv 0) (aa (ao aO (ao br (pv 1) ag) (ao bD (ao bD ag (pv 2)) (ao aO (pv 2) (ao aT (pv 1) ag)))) ah))))))),?_⟩
 obtain⟨n,en,n3⟩:∃ n:Nat,1+c%3=(n:Int)/\n<=3:=⟨(1+c%3).toNat,by omega,by omega⟩
 have c1:=Fd c (show(101:Int)≠0 by decide)
 have c2:=Fe c (show(0:Int)<101 by decide)
 refine⟨_,rfl,_,_,rfl,rfl,(by decide:(0:Int)<3),_,_,rfl,rfl,_,(by show[V.int (1+c%3)]=_;rw[en]),by omega,by omega +splitDisjunctions,dz (n:=(n:Int).toNat) (fun k σ H2=>∃ v2 es' ts' rg',σ = [some (.ref t),some (.int c),v2]/\Keep S H H2/\GwA S H2 pe pt pr m es' ts' rg'/\es.length<=es'.length/\es'.length<=es.length+k) ⟨_,es,ts,rg,rfl,Keep.of fun _ _ e=>e,gw,Ea _,Ea _⟩ ?_ ?_⟩
 ·rintro k σ H2 hk ⟨v2,es',ts',rg',rfl,kp,gw',l1,l2⟩
  rw[EN]at hk
  have e1:(0:Int)+(k:Int)=(k:Int):=FR _
  rw[e1]
  refine⟨_,rfl,_,rfl,_,_,rfl,rfl,⟨by decide,by decide⟩,_,rfl,_,_,rfl,rfl,.inl ⟨by decide,by decide⟩,_,rfl,_,rfl,_,_,rfl,rfl,(by decide:(0:Int)<101),_,_,rfl,rfl,_,_,rfl,rfl,.inl ⟨by show -(2^64:Int)<7919*(k:Int);omega,by show 7919*(k:Int)<(2^64:Int);omega +splitDisjunctions⟩,_,_,rfl,rfl,S,t,pe,pt,pr,_,m,es',ts',rg',rfl,kp _ _ st ht,st,gw',by omega,by omega,fun es2 ts2 rg2 H3 k3 gw3 l3 l4=>?_⟩
  exact⟨_,es2,ts2,rg2,rfl,kp.trans k3,gw3,by omega,by omega⟩
 ·rintro σ H2 ⟨v2,es',ts',rg',rfl,kp,gw',l1,l2⟩
  rw[EN]at l2
  exact kk es' ts' rg' H2 kp gw' l1 (by omega)
theorem cP:aY ["left","right","places","many","end","row"] ["left","right"] (au cJ):=⟨rfl,rfl,rfl,by decide +kernel,rfl,by decide +kernel,by decide +kernel⟩
theorem z9{f:Addr}{fd:FuncData} (F:Fun K "_law_beside" "_law_beside" cJ f fd) (T:Txt mg):FnOk P w K mg base CX0 1 f fd ["left","right"] pS:=by
 refine F.ok cP (fun vs H Q E h=>?_) (fun cdv A outer s H vs Q E hr h=>?_)
 ·obtain⟨t,pe,pt,pr,t2,pe2,pt2,pr2,m,m2,es,es2,ts,ts2,ys,xs,ys2,xs2,rfl,_⟩:=h
  rfl
 obtain⟨t,pe,pt,pr,t2,pe2,pt2,pr2,m,m2,es,es2,ts,ts2,ys,xs,ys2,xs2,rfl,ht,ht2,he,hE,hp,hR,he2,hE2,hp2,hR2,n1,n2,n3,n4,n5,e0,t0,tm,le,lt,le2,lt2,lr,kk⟩:=h
 have yl:ys.length=es.length:=hE.1
 have xl:xs.length=ts.length:=hR.1
 have yl2:ys2.length=es2.length:=hE2.1
 have xl2:xs2.length=ts2.length:=hR2.1
 have tpe:t≠pe:=fun z=>by rw[z,he]at ht;cases ht
 have tpt:t≠pt:=fun z=>by rw[z,hp]at ht;cases ht
 have t2pe:t2≠pe:=fun z=>by rw[z,he]at ht2;cases ht2
 have t2pt:t2≠pt:=fun z=>by rw[z,hp]at ht2;cases ht2
 refine⟨_,(af (aw (i:=2) cP.nd rfl (Or.inl rfl) (av ak (by rfl) T.n_len aU (aa (aN bg (pv 0) ag (fun _ _=>rfl)) ah)))
   (af (aw (i:=3) cP.nd rfl (Or.inr rfl) (av ak (by rfl) T.n_len aU (aa (aN bg (pv 0) ag (fun _ _=>rfl)) ah)))
   (af (c7 PassesOwn.never rfl (cu (aN bg (pv 1) ag (fun _ _=>rfl))) (a9 (i:=4) cP.nd rfl (Or.inl rfl)) (aj (aC (cv Eb Ej Ei aP (aN bg (pv 0) ag (fun _ _=>rfl)) (aa (eX (aa (ao aO (aN bg (pv 4) ag (fun _ _=>rfl)) (pv 2)) (aa (ao aO (aN bg (pv 4) ag (fun _ _=>rfl)) (pv 2)) ah))) ah)))))
   (aj (c7 PassesOwn.never rfl (cu (aN bg (pv 1) ag (fun _ _=>rfl))) (a9 (i:=5) cP.nd rfl (Or.inl rfl)) (aj (aC (cv Eb Ej Ei aP (aN bg (pv 0) ag (fun _ _=>rfl)) (aa (kb rfl (fr:=[("many",3)]) (by exact c6.one (by rfl) (by decide +kernel) (by rfl) (by decide +kernel) (by rfl) (by decide +kernel) (by rfl) (by rfl) (by decide +kernel) (by rfl)) (cu (pv 5)) (fun C ex s H=>(ao aO (pv 0) (pv 1)))) ah))))))))),?_⟩
 refine⟨_,rfl,t,_,1,_,rfl,rfl,SqT.of ht,at31,pt,xs,rfl,.inl (SqL.of hp),?_⟩
 refine⟨_,rfl,t,_,0,_,rfl,rfl,SqT.of ht,at30,pe,ys,rfl,.inl (SqL.of he),?_⟩
 refine⟨_,rfl,t2,_,0,_,rfl,rfl,SqT.of ht2,at30,pe2,rfl,⟨_,SqL.of he2⟩,fg (K:=K) (xs:=ys2) (fun i σ H2=>∃ v4 v5 zs,σ = [some (.ref t),some (.ref t2),some (.int (xs.length:Int)),some (.int (ys.length:Int)),v4,v5]/\(∀ q o,H q=some o->q≠pe->H2 q=some o)/\H2 pe=some (.lst zs)/\bJ H2 zs (es++shE m (es2.take i))) ⟨_,_,ys,rfl,fun q o h _=>h,he,(by show bJ H ys (es++[]);rw[Fl];exact hE)⟩ (fun i σ H2 _ z=>by obtain⟨_,_,_,_,k,_⟩:=z;exact SqL.of (k _ _ he2 n2)) ?_ ?_⟩
 ·rintro i x σ H2 hx ⟨v4,v5,zs,rfl,kp,hz,hZ⟩
  have hi:i<es2.length:=by rw[← yl2];exact(DZ.mp hx).1
  obtain⟨e,h1⟩:∃ e,es2[i]?=some e:=⟨_,D1 hi⟩
  obtain⟨q,a1,a2⟩:=hE2.2 i e h1
  rw[hx]at a1
  cases a1
  have hq:=kp _ _ a2 (fun z=>by rw[z,he]at a2;cases a2)
  have zl:zs.length<=200:=by rw[hZ.1,D2];unfold shE;rw[D3,Eg];omega
  refine⟨_,rfl,t,_,0,_,rfl,rfl,SqT.of (kp _ _ ht tpe),at30,.inl ⟨rfl,_,SqL.of hz⟩,_,rfl,q,_,0,_,rfl,rfl,SqT.of hq,at0,_,rfl,_,_,rfl,rfl,_,rfl,q,_,1,_,rfl,rfl,SqT.of hq,at1,_,rfl,_,_,rfl,rfl,(by show 2<=sizeLine;decide),fun tt htt=>?_⟩
  have st:=ai htt (.tup [.int ((e.1:Int)+(xs.length:Int)),.int ((e.2:Int)+(xs.length:Int))])
  refine⟨pe,zs,_,rfl,rfl,st _ _ hz,ar (by omega),_,_,zs++[.ref tt],rfl,fun q o h n=>by rw[aq n];exact st _ _ (kp q o h n),ae,?_⟩
  have g:(upd H2 tt (.tup [.int ((e.1:Int)+(xs.length:Int)),.int ((e.2:Int)+(xs.length:Int))])) tt=some (.tup [iV ((e.1+m,e.2+m):Nat×Nat).1,iV ((e.1+m,e.2+m):Nat×Nat).2]):=by
   rw[ae,xl,tm]
   rfl
  have:=((hZ.mono st).snoc (e:=(e.1+m,e.2+m)) g).put (st _ _ hz) (o:=.lst (zs++[.ref tt]))
  rw[EV,h1]
  have es':es++shE m (es2.take i++(some e).toList)=es++shE m (es2.take i)++[(e.1+m,e.2+m)]:=by unfold shE;simp
  rw[es']
  exact this
 rintro σ H2 ⟨v4,v5,zs,rfl,kp,hz,hZ⟩
 rw[yl2,Fb]at hZ
 have hp2':=kp _ _ hp2 n4
 have row2:∀(j:Nat)(l:List Nat),ts2[j]?=some l->∃ q,xs2[j]?=some (.ref q)/\H q=some (.lst (l.map iV))/\q≠pe/\q≠pt:=fun j l e=>by
  obtain⟨q,a,b⟩:=hR2.2 j l e
  obtain⟨_,r1⟩:=hE.ref e0
  obtain⟨_,r2⟩:=hR.ref t0
  exact⟨q,a,b,i6 he r1 b,i6 hp r2 b⟩
 have hR':bq H2 xs ts:=⟨hR.1,fun j l e=>by
  obtain⟨q,a,b⟩:=hR.2 j l e
  obtain⟨_,r1⟩:=hE.ref e0
  exact⟨q,a,kp _ _ b (i6 he r1 b)⟩⟩
 refine⟨_,rfl,t2,_,1,_,rfl,rfl,SqT.of (kp _ _ ht2 t2pe),at31,pt2,rfl,⟨_,SqL.of hp2'⟩,fg (K:=K) (xs:=xs2) (fun i σ H3=>∃ v4 v5 us,σ = [some (.ref t),some (.ref t2),some (.int (xs.length:Int)),some (.int (ys.length:Int)),v4,v5]/\(∀ q o,H2 q=some o->q≠pt->H3 q=some o)/\H3 pt=some (.lst us)/\bq H3 us (ts++(ts2.take i).map (FF fun x=>x+es.length))) ⟨_,_,xs,rfl,fun q o h _=>h,kp _ _ hp (Ne.symm n1),(by rw[Hx,List.map_nil,Fl];exact hR')⟩ (fun i σ H3 _ z=>by obtain⟨_,_,_,_,k,_⟩:=z;exact SqL.of (k _ _ hp2' n5)) ?_ ?_⟩
 ·rintro i x σ H3 hx ⟨w4,w5,us,rfl,k3,hu,hU⟩
  have hi:i<ts2.length:=by rw[← xl2];exact(DZ.mp hx).1
  obtain⟨l,h1⟩:∃ l,ts2[i]?=some l:=⟨_,D1 hi⟩
  obtain⟨q,a1,a2,a3,a4⟩:=row2 i l h1
  rw[hx]at a1
  cases a1
  have hq:=k3 _ _ (kp _ _ a2 a3) a4
  have ul:us.length<=300:=by rw[hU.1,D2,D3,Eg];omega
  have ll:=lr l (D4 h1)
  refine⟨_,rfl,t,_,1,_,rfl,rfl,SqT.of (k3 _ _ (kp _ _ ht tpe) tpt),at31,.inl ⟨rfl,_,SqL.of hu⟩,_,rfl,q,rfl,⟨_,SqL.of hq⟩,eU (K:=K) (xs:=l.map iV) (fun j vs H4=>H4=H3/\vs=((l.map fun x=>x+es.length).map iV).take j) (by rw[D3];exact ER (ar (by omega))) ⟨rfl,rfl⟩ (fun j vs H4 _ z=>z.1▸SqL.of hq) ?_ ?_⟩
  ·rintro j y vs H4 hy ⟨rfl,rfl⟩
   rw[D9]at hy
   obtain⟨d,hd,rfl⟩:=EO.mp hy
   refine⟨_,rfl,_,rfl,_,_,rfl,rfl,rfl,?_⟩
   rw[EV,D9,D9,hd,yl]
   rfl
  rintro vs H4 _ ⟨rfl,rfl⟩ D hD
  rw[EM (by rw[D3,D3,D3];exact Ea _)]
  have sD:=ai hD (.lst ((l.map fun x=>x+es.length).map iV))
  refine⟨pt,us,_,rfl,rfl,sD _ _ hu,ar (by omega),_,_,us++[.ref D],rfl,fun q o h n=>by rw[aq n];exact sD _ _ (k3 q o h n),ae,?_⟩
  have nD:D≠pt:=fun z=>by rw[z,hu]at hD;cases hD
  obtain⟨_,r2⟩:=hU.ref (by rw[D2];omega)
  have:=((hU.mono sD).put (o:=.lst (us++[.ref D])) (sD _ _ hu) r2).snoc (q:=D) (l:=l.map fun x=>x+es.length) (by rw[aq nD];exact ae)
  rw[EV,h1]
  have e2:ts++(ts2.take i++(some l).toList).map (FF fun x=>x+es.length)=ts++(ts2.take i).map (FF fun x=>x+es.length)++[l.map fun x=>x+es.length]:=by simp
  rw[e2]
  exact this
 ·rintro σ H3 ⟨w4,w5,us,rfl,k3,hu,hU⟩
  rw[xl2,Fb]at hU
  refine kk zs us H3 (fun q o h a b=>k3 q o (kp q o h a) b) (k3 _ _ hz n1) ⟨hZ.1,fun j e h=>?_⟩ hu hU
  obtain⟨p,a,b⟩:=hZ.2 j e h
  exact⟨p,a,k3 _ _ b (fun z=>by
   have h2:=kp _ _ hp (Ne.symm n1)
   rw[z,h2]at b;cases b)⟩
end
end K8
namespace K8
open PySem L2
local macro_rules | `(tactic| walk_at "cc") => `(tactic| first | exact ⟨by decide, by decide⟩ | (show (0 : Int) < _; decide) | (show (0 : Int) < _; omega) | (show (0 : Int) ≤ _; omega) | exact ⟨by decide, by decide, by decide⟩ | exact ⟨by omega, by omega, by decide⟩ | exact Or.inl ⟨by decide, by decide⟩ | exact Or.inl ⟨by omega, by omega⟩)
local macro_rules | `(tactic| walk_at "rd") => `(tactic| repeat (first | refine ⟨_, rfl, ?_⟩ | refine ⟨_, _, rfl, rfl, ?_⟩ | refine ⟨rfl, ?_⟩ | (refine ⟨?cc, ?_⟩; (case cc => walk_at "cc"))))
def Out(m:Nat)(es:En)(ts rg:List (List Nat))(due:Int):Prop:=(due=3/\iX m es)∨(Gr m es ts/\Part (fol es ts) (2*es.length) rg/\due=if m+rg.length=es.length+2 then 0 else 4)
def zE(K:D5):Sp:=fun vs H Q _=>∃(a:Addr)(ns:List Int)(wy:Int),vs = [.ref a,.int wy]/\SqL K H a (ns.map V.int)/\ns.length<=63 /\
 ∀(tt t pe pt pr:Addr)(m:Nat)(es:En)(ts rg:List (List Nat))(due:Int)(H':Hp),Same H H'->H' tt=some (.tup [.ref t,.int due])->H' t=some (.tup [.ref pe,.ref pt,.ref pr])->WebP H' pe pt m es ts->Bc H' pr rg->rg.length<=200->(∀ r∈rg,r.length<=200/\∀ d∈r,d<2*es.length)->0<es.length->es.length<=70->1<=m->m<=42->Out m es ts rg due->Q (.ref tt) H'
def BEnd(H:Hp)(Q:VK):Prop:=∀(tt t pe pt pr:Addr)(m:Nat)(es:En)(ts rg:List (List Nat))(due:Int)(H':Hp),Same H H'->H' tt=some (.tup [.ref t,.int due])->H' t=some (.tup [.ref pe,.ref pt,.ref pr])->WebP H' pe pt m es ts->Bc H' pr rg->rg.length<=200->(∀ r∈rg,r.length<=200/\∀ d∈r,d<2*es.length)->0<es.length->es.length<=70->1<=m->m<=42->Out m es ts rg due->Q (.ref tt) H'
def rB1(H:Hp):TS:=fun D σ H2=>∃(S:Addr->Prop)(t pe pt pr:Addr)(v0 v1 v2 v3:Option V)(m:Nat)(es:En)(ts rg:List (List Nat)),σ = [v0,v1,v2,v3,some (.ref t),some (.int 0)]/\Same H H2/\H2 t=some (.tup [.ref pe,.ref pt,.ref pr])/\GwA S H2 pe pt pr m es ts rg/\0<es.length/\es.length<=66/\m<=40/\BEnd H D.rt
def rB2(H:Hp):TS:=fun D σ H2=>∃(S:Addr->Prop)(wy:Int)(t pe pt pr q c0 c1:Addr)(v0 v3 v5:Option V)(B:List Int)(m:Nat)(es:En)(ts rg:List (List Nat)),σ = [v0,some (.int wy),some (.ref q),v3,some (.ref t),v5]/\Same H H2/\H2 t=some (.tup [.ref pe,.ref pt,.ref pr])/\GwA S H2 pe pt pr m es ts rg/\0<es.length/\es.length<=35/\m<=20/\H pe=none/\H pt=none/\H2 q=some (.lst [.ref c0,.ref c1])/\H2 c1=some (.lst (B.map V.int))/\B.length<=31/\BEnd H D.rt
theorem zX{f:Nat->Nat}{N:Nat}{rg:List (List Nat)}(p:Part f N rg)(h:N<=200):rg.length<=200/\∀ r∈rg,r.length<=200/\∀ d∈r,d<N:=⟨by have:=iw p;omega,fun r hr=>⟨by have:=eP (p.cr r hr).nd (p.cr r hr).lt;omega,(p.cr r hr).lt⟩⟩
theorem gr_m{m:Nat}{es:En}{ts:List (List Nat)}(w:aZ m es ts)(e0:0<es.length):1<=m:=by
 have:=(w.ends _ (E8 e0)).1
 omega
section
variable{P:Program}{w:World}{K:D5}{mg:Str->Option Value}{base:Heap}
theorem cq:aY ["script","way","cells","k","grown","due"] ["script","way"] (au eI):=⟨rfl,rfl,rfl,by decide +kernel,rfl,by decide +kernel,by decide +kernel⟩
theorem Dn{f f1 f2 f3 f4:Addr}{fd d1 d2 d3 d4:FuncData} (F:Fun K "_law_base" "_law_base" eI f fd) (T:Txt mg) (G_law_grown:Cal P w K mg base 3 "_law_grown" ["cells","places"] (pR K) f1 d1) (G_law_handles:Cal P w K mg base 3 "_law_handles" ["grown","cell"] mC f2 d2) (G_law_cell:Cal P w K mg base 1 "_law_cell" ["script","k"] (xc K) f3 d3) (G_law_beside:Cal P w K mg base 1 "_law_beside" ["left","right"] pS f4 d4):FnOk P w K mg base CX0 4 f fd ["script","way"] (zE K):=by
 refine F.ok cq (fun vs H Q E h=>?_) (fun cdv A outer s H vs Q E hr h=>?_)
 ·obtain⟨a,ns,wy,rfl,_⟩:=h
  rfl
 obtain⟨a,ns,wy,rfl,hS,h63,kk⟩:=h
 have kk:BEnd H Q:=kk
 refine⟨_,(af (aw (i:=2) cq.nd rfl (Or.inl rfl) (bh (aa (bh ah) (aa (bh ah) ah))))
   (af (c7 PassesOwn.never rfl (zQ rfl T.n_range (aa ag (aa (av (AZ rfl) (by rfl) T.n_min bt_min (aa (av ak (by rfl) T.n_len aU (aa (pv 0) ah)) (aa ag ah))) ah))) (a9 (i:=3) cq.nd rfl (Or.inl rfl)) (aj (aC (cv Eb Ej Ei aP (aN aE (pv 2) (ao aT (pv 3) ag) (fun _ _=>rfl)) (aa (aN aE (pv 0) (pv 3) (fun _ _=>rfl)) ah)))))
   (af (bG (az yc (ao aT (pv 1) ag) ag (aF _)) (af (aw (i:=4) cq.nd rfl (Or.inl rfl) (aI G_law_grown.ok (hr.mono (by decide)) rfl G_law_grown.mg G_law_grown.kp G_law_grown.bn .nil bz (aa (ao bL (aN aE (pv 2) ag (fun _ _=>rfl)) (aN aE (pv 2) ag (fun _ _=>rfl))) (aa ag ah))))
   (af (aw (i:=5) cq.nd rfl (Or.inl rfl) ag)
   (af (bG (az cx (ao aT (pv 1) ag) ag (aF _)) (aj (aC (aI G_law_handles.ok (hr.mono (by decide)) rfl G_law_handles.mg G_law_handles.kp G_law_handles.bn .nil bz (aa (pv 4) (aa (aI G_law_cell.ok (hr.mono (by decide)) rfl G_law_cell.mg G_law_cell.kp G_law_cell.bn .nil bz (aa (pv 0) (aa ag ah))) ah))))) bf)
   (dB (t2:=rB1 H) (af (bG (az se (ao aO (ao lB (av ak (by rfl) T.n_len aU (aa (aN bg (pv 4) ag (fun _ _=>rfl)) ah)) (av ak (by rfl) T.n_len aU (aa (aN bg (pv 4) ag (fun _ _=>rfl)) ah))) (av ak (by rfl) T.n_len aU (aa (aN bg (pv 4) ag (fun _ _=>rfl)) ah))) ag (aF _)) (aj (aw (i:=5) cq.nd rfl (Or.inl rfl) ag)) bf)
   (aj (bQ (eX (aa (pv 4) (aa (pv 5) ah)))))) (fun D0 S0 H0 h0=>?rest1))))) bf)
   (af (aw (i:=4) cq.nd rfl (Or.inl rfl) (aI G_law_grown.ok (hr.mono (by decide)) rfl G_law_grown.mg G_law_grown.kp G_law_grown.bn .nil bz (aa (aN aE (pv 2) ag (fun _ _=>rfl)) (aa ag ah))))
   (af (bG (az cx (ao aT (pv 1) ag) ag (aF _)) (aj (aC (aI G_law_handles.ok (hr.mono (by decide)) rfl G_law_handles.mg G_law_handles.kp G_law_handles.bn .nil bz (aa (pv 4) (aa (aI G_law_cell.ok (hr.mono (by decide)) rfl G_law_cell.mg G_law_cell.kp G_law_cell.bn .nil bz (aa (pv 0) (aa ag ah))) ah))))) bf)
   (dB (t2:=rB2 H) (af (bG (az cx (ao aT (ao br (pv 1) ag) ag) ag (aF _)) (aj (aC (cv Eb Ej Ei aP (aN bg (pv 4) ag (fun _ _=>rfl)) (aa (bh ah) ah)))) (aj (aC (aI G_law_beside.ok (hr.mono (by decide)) rfl G_law_beside.mg G_law_beside.kp G_law_beside.bn .nil bz (aa (pv 4) (aa (aI G_law_grown.ok (hr.mono (by decide)) rfl G_law_grown.mg G_law_grown.kp G_law_grown.bn .nil bz (aa (aN aE (pv 2) ag (fun _ _=>rfl)) (aa ag ah))) ah))))))
   (aj (bQ (eX (aa (pv 4) (aa ag ah)))))) (fun D0 S0 H0 h0=>?rest2))))))),?_⟩
 case rest1 =>
  obtain⟨S,t,pe,pt,pr,v0,v1,v2,v3,m,es,ts,rg,rfl,sH,ht,⟨⟨ys,xs,zs,C⟩,g,part⟩,e0,few,m40,kk⟩:=h0
  have yl:ys.length=es.length:=C.en.1
  have xl:xs.length=m:=by rw[C.rx.1,g.w.len]
  have zl:zs.length=rg.length:=C.rz.1
  obtain⟨b1,b2⟩:=zX part (by omega)
  have m1:=gr_m g.w e0
  have fin:∀(due:Int)(H3:Hp)(tt:Addr),Same H0 H3->H3 tt=some (.tup [.ref t,.int due])->(due=if m+rg.length=es.length+2 then 0 else 4)->D0.rt (.ref tt) H3:=fun due H3 tt s3 htt hd=>by
   have C3:=C.same s3
   exact kk tt t pe pt pr m es ts rg due H3 (sH.trans s3) htt (s3 _ _ ht) ⟨⟨ys,C3.he,C3.en⟩,⟨xs,C3.ht,C3.rx.off⟩,g.w⟩ ⟨zs,C3.hr,C3.rz.off⟩ b1 b2 e0 (by omega) m1 (by omega) (.inr ⟨g,part,hd⟩)
  refine⟨_,rfl,t,_,1,_,rfl,rfl,SqT.of ht,at31,pt,xs,rfl,.inl (SqL.of C.ht),_,rfl,t,_,0,_,rfl,rfl,SqT.of ht,at30,pe,ys,rfl,.inl (SqL.of C.he),_,_,rfl,rfl,_,rfl,t,_,2,_,rfl,rfl,SqT.of ht,at32,pr,zs,rfl,.inl (SqL.of C.hr),_,_,rfl,rfl,rfl,_,rfl,ite2 (fun z=>?_) (fun z=>?_)⟩
  ·have z':¬ m+rg.length=es.length+2:=fun e=>by
    have z:(!decide (V.int ((xs.length:Int)-(ys.length:Int)+(zs.length:Int))=V.int 2))=true:=z
    rw[decide_eq_true (congrArg V.int (by omega))]at z
    cases z
   refine⟨_,rfl,_,rfl,(by show 2<=sizeLine;decide),fun tt htt=>?_⟩
   exact fin 4 _ tt (ai htt _) ae (by rw[if_neg z'])
  ·have z':m+rg.length=es.length+2:=by
    by_cases e:m+rg.length=es.length+2
    ·exact e
    ·exact absurd (by show(!decide (V.int ((xs.length:Int)-(ys.length:Int)+(zs.length:Int))=V.int 2))=true;rw[decide_eq_false (fun y=>e (by have:=V.int.inj y;omega))];rfl) z
   refine⟨_,rfl,_,rfl,(by show 2<=sizeLine;decide),fun tt htt=>?_⟩
   exact fin 0 _ tt (ai htt _) ae (by rw[if_pos z'])
 case rest2 =>
  obtain⟨S,wy,t,pe,pt,pr,q,c0,c1,v0,v3,v5,B,m,es,ts,rg,rfl,sH,ht,⟨⟨ys,xs,zs,C⟩,g,part⟩,e0,few,m20,npe,npt,hq,hc1,bl,kk⟩:=h0
  obtain⟨n1,n2,n3,n4,n5,n6⟩:=C.ne
  have m1:=gr_m g.w e0
  have xl:xs.length=m:=by rw[C.rx.1,g.w.len]
  have zl:zs.length=rg.length:=C.rz.1
  obtain⟨b1,b2⟩:=zX part (by omega)
  have tpe:t≠pe:=fun z=>by rw[z,C.he]at ht;cases ht
  have tpt:t≠pt:=fun z=>by rw[z,C.ht]at ht;cases ht
  obtain⟨re,he0⟩:=C.en.ref e0
  obtain⟨rt,ht0⟩:=C.rx.off.ref (by rw[g.w.len];exact m1)
  refine⟨_,rfl,_,_,rfl,rfl,⟨by decide,by decide⟩,_,_,rfl,rfl,(by decide:(0:Int)<3),rfl,_,rfl,ite2 (fun z=>?_) (fun z=>?_)⟩
  ·refine⟨_,rfl,t,_,1,_,rfl,rfl,SqT.of ht,at31,.inl ⟨rfl,_,SqL.of C.ht⟩,(by show 0<=sizeLine;decide),fun pn hpn=>⟨pt,xs,_,rfl,rfl,ai hpn _ _ _ C.ht,ar (by omega),?_⟩⟩
   have C1:=(C.same (ai hpn (.lst []))).leaf (C.new hpn) (l:=[]) ae
   have sA:Same H (upd (upd H0 pn (.lst [])) pt (.lst (xs++[.ref pn]))):=bO (sH.trans (ai hpn _)) npt _
   have ht1:(upd (upd H0 pn (.lst [])) pt (.lst (xs++[.ref pn]))) t=some (.tup [.ref pe,.ref pt,.ref pr]):=by rw[aq tpt];exact ai hpn _ _ _ ht
   generalize upd (upd H0 pn (.lst [])) pt (.lst (xs++[.ref pn]))=G at C1 sA ht1
   refine⟨_,rfl,(by show 2<=sizeLine;decide),fun tt htt=>?_⟩
   have st:=ai htt (.tup [.ref t,.int 3])
   have C2:=C1.same st
   exact kk tt t pe pt pr (m+1) es (ts++[[]]) rg 3 _ (sA.trans st) ae (st _ _ ht1) ⟨⟨ys,C2.he,C2.en⟩,⟨_,C2.ht,C2.rx.off⟩,g.w.room⟩ ⟨zs,C2.hr,C2.rz.off⟩ b1 b2 e0 (by omega) (by omega) (by omega) (.inl ⟨rfl,uM g.w m1⟩)
  ·refine⟨_,rfl,_,rfl,q,_,1,_,rfl,rfl,SqL.of hq,rfl,c1,20,B,rfl,SqL.of hc1,by omega,by decide,fun t2 pe2 pt2 pr2 m2 es2 ts2 rg2 H3 s3 ht2 ⟨⟨ys2,xs2,zs2,C2⟩,g2,part2⟩ e02 el2 mP2=>?_⟩
   obtain⟨_,_,_,o4,o5,o6⟩:=C2.ne
   have non:∀{p:Addr},¬ (H0 p≠none)->H0 p=none:=fun{p} z=>by
    cases y:H0 p with
    |none=>rfl
    |some o=>exact absurd (by rw[y];exact fun z=>nomatch z) z
   have nee:∀{p q:Addr}{o:HO},H0 p=none->H0 q=some o->p≠q:=fun a b z=>by rw[z,b]at a;cases a
   have C3:=C.same s3
   have w2:=g2.w
   have few2:es2.length<=32:=by omega
   have mm2:=gr_m w2 e02
   refine⟨t,pe,pt,pr,t2,pe2,pt2,pr2,m,m2,es,es2,ts,ts2,ys,xs,ys2,xs2,rfl,s3 _ _ ht,ht2,C3.he,C3.en,C3.ht,C3.rx.off,C2.he,C2.en,C2.ht,C2.rx.off,n1,nee (non o4) C.he,nee (non o4) C.ht,nee (non o5) C.he,nee (non o5) C.ht,e0,by rw[g.w.len];exact m1,g.w.len,by omega,by rw[g.w.len];omega,by omega,by rw[w2.len];omega,fun r hr'=>?_,fun ys' xs' H4 kp4 hpe4 hE4 hpt4 hR4=>?_⟩
   ·obtain⟨j,hj⟩:=EI.mp hr'
    have:=eP (w2.nd _ _ hj) fun t ht=>jI w2 hj ht
    omega
   have sA:Same H H4:=fun p o h=>kp4 p o (s3 _ _ (sH _ _ h)) (ay h npe) (ay h npt)
   have ht4:=kp4 _ _ (s3 _ _ ht) tpe tpt
   have hr4:=kp4 _ _ C3.hr (Ne.symm n2) (Ne.symm n3)
   have rz4:bq H4 zs rg:=⟨C3.rz.1,fun j l e=>by
    obtain⟨p,a1,a2,a3⟩:=C3.rz.2 j l e
    exact⟨p,a1,kp4 _ _ a3 (fun z=>a2 (.inl (.inl z))) (fun z=>a2 (.inl (.inr (.inl z))))⟩⟩
   refine⟨_,rfl,(by show 2<=sizeLine;decide),fun tt htt=>?_⟩
   have st:=ai htt (.tup [.ref t,.int 3])
   have lE:(es++shE m es2).length=es.length+es2.length:=by rw[D2];unfold shE;rw[D3]
   exact kk tt t pe pt pr (m+m2) _ _ rg 3 _ (sA.trans st) ae (st _ _ ht4) ⟨⟨ys',st _ _ hpe4,hE4.mono st⟩,⟨xs',st _ _ hpt4,hR4.mono st⟩,wA g.w w2⟩ ⟨zs,st _ _ hr4,rz4.mono st⟩ b1 (fun r hr'=>⟨(b2 r hr').1,fun d hd=>by have:=(b2 r hr').2 d hd;omega⟩) (by omega) (by omega) (by omega) (by omega) (.inl ⟨rfl,rm g.w m1 mm2⟩)
 have two:2<=sizeLine:=by decide
 refine⟨(by show 0<=sizeLine;decide),fun c0 hc0=>⟨(by show 0<=sizeLine;decide),fun c1 hc1=>⟨two,fun q hq=>?_⟩⟩⟩
 have s1:=ai hc0 (.lst [])
 have s2:=ai hc1 (.lst [])
 have s3:=ai hq (.lst [.ref c0,.ref c1])
 have n10:c1≠c0:=fun z=>by rw[z,ae]at hc1;cases hc1
 have nq0:q≠c0:=fun z=>by rw[z,s2 _ _ ae]at hq;cases hq
 have nq1:q≠c1:=fun z=>by rw[z,ae]at hq;cases hq
 have e1:H c1=none:=none_of s1 hc1
 have eq':H q=none:=none_of (s1.trans s2) hq
 have i0:(upd (upd (upd H c0 (.lst [])) c1 (.lst [])) q (.lst [.ref c0,.ref c1])) c0=some (.lst (([]:List Int).map V.int)):=s3 _ _ (s2 _ _ ae)
 have i1:(upd (upd (upd H c0 (.lst [])) c1 (.lst [])) q (.lst [.ref c0,.ref c1])) c1=some (.lst (([]:List Int).map V.int)):=s3 _ _ ae
 have iq:(upd (upd (upd H c0 (.lst [])) c1 (.lst [])) q (.lst [.ref c0,.ref c1])) q=some (.lst [.ref c0,.ref c1]):=ae
 have sB:=s1.trans (s2.trans s3)
 generalize upd (upd (upd H c0 (.lst [])) c1 (.lst [])) q (.lst [.ref c0,.ref c1])=H1 at i0 i1 iq sB
 have nl:(ns.map V.int).length=ns.length:=D3 _
 obtain⟨n,hn,n63⟩:∃ n:Nat,(if(76:Int)<((ns.map V.int).length:Int) then(76:Int) else((ns.map V.int).length:Int))=(n:Int)/\n=ns.length:=⟨ns.length,by rw[nl,if_neg (by omega)],rfl⟩
 refine⟨_,rfl,a,_,rfl,.inl (sB.seq hS),_,_,rfl,2,(n:Int),(by show[V.int 2,V.int (if(76:Int)<((ns.map V.int).length:Int) then(76:Int) else((ns.map V.int).length:Int))]=_;rw[hn]),⟨by decide,by decide,by omega,by omega⟩,dz (n:=((n:Int)-2).toNat) (fun i σ H2=>∃ v3 A B,σ = [some (.ref a),some (.int wy),some (.ref q),v3,none,none]/\Same H H2/\H2 q=some (.lst [.ref c0,.ref c1])/\H2 c0=some (.lst (A.map V.int))/\H2 c1=some (.lst (B.map V.int))/\A.length=(i+1)/2/\B.length=i/2) ⟨_,[],[],rfl,sB,iq,i0,i1,rfl,rfl⟩ ?_ ?_⟩
 ·rintro i σ H2 hi ⟨v3,A,B,rfl,sH,hq2,h0,h1,la,lb⟩
  have hi':2+i<ns.length:=by omega
  have ki:(2:Int)+(i:Int)=((2+i:Nat):Int):=by omega
  rw[ki]
  obtain⟨x,hx⟩:∃ x,ns[2+i]?=some x:=⟨_,D1 hi'⟩
  have hxV:(ns.map V.int)[2+i]?=some (.int x):=by rw[D9,hx];rfl
  by_cases ev:i%2=0
  ·have km:((2+i:Nat):Int)%2=((0:Nat):Int):=by omega
   refine⟨_,rfl,_,rfl,_,_,rfl,rfl,(by decide:(0:Int)<2),q,_,_,.ref c0,rfl,rfl,SqL.of hq2,(by rw[km];rfl),.inl ⟨rfl,_,SqL.of h0⟩,_,rfl,_,rfl,a,_,_,_,rfl,rfl,sH.seq hS,aJ hxV,c0,_,_,rfl,rfl,h0,ar (by rw[D3];omega),?_⟩
   refine⟨_,A++[x],B,rfl,bO sH (none_of (fun _ _ e=>e) (by
    cases y:H c0 with
    |none=>rfl
    |some o=>rw[y]at hc0;cases hc0)) _,by rw[aq nq0];exact hq2,by rw[ae,EX];rfl,by rw[aq n10];exact h1,by rw[D2,Ed];omega,by omega⟩
  ·have km:((2+i:Nat):Int)%2=((1:Nat):Int):=by omega
   refine⟨_,rfl,_,rfl,_,_,rfl,rfl,(by decide:(0:Int)<2),q,_,_,.ref c1,rfl,rfl,SqL.of hq2,(by rw[km];rfl),.inl ⟨rfl,_,SqL.of h1⟩,_,rfl,_,rfl,a,_,_,_,rfl,rfl,sH.seq hS,aJ hxV,c1,_,_,rfl,rfl,h1,ar (by rw[D3];omega),?_⟩
   refine⟨_,A,B++[x],rfl,bO sH e1 _,by rw[aq nq1];exact hq2,by rw[aq (Ne.symm n10)];exact h0,by rw[ae,EX];rfl,by omega,by rw[D2,Ed];omega⟩
 rintro σ H2 ⟨v3,A,B,rfl,sH,hq2,h0,h1,la,lb⟩
 have al:A.length<=31:=by omega
 have bl:B.length<=31:=by omega
 refine⟨_,rfl,_,_,rfl,rfl,(by decide:(0:Int)<4),_,_,rfl,rfl,_,rfl,ite2 (fun z=>?_) (fun z=>?_)⟩
 ·refine⟨_,rfl,q,_,0,_,rfl,rfl,SqL.of hq2,rfl,_,rfl,q,_,1,_,rfl,rfl,SqL.of hq2,rfl,c0,c1,_,_,rfl,rfl,SqL.of h0,SqL.of h1,ER (ar (by rw[D3,D3];omega)),fun c2 hc2=>?_⟩
  rw[← EX]
  have s4:=ai hc2 (.lst ((A++B).map V.int))
  refine⟨c2,40,A++B,rfl,SqL.of ae,by rw[D2];omega,by decide,fun t pe pt pr m es ts rg H3 s5 ht ⟨⟨ys,xs,zs,C⟩,g,part⟩ e0 el mP=>?_⟩
  have el':es.length<=63:=by rw[D2]at el;omega
  have sA:=sH.trans (s4.trans s5)
  refine⟨_,rfl,_,_,rfl,rfl,(by decide:(0:Int)<4),rfl,_,rfl,ite2 (fun z=>?_) (fun z=>?_)⟩
  ·have C2:=C.addS ht
   refine⟨_,rfl,_,rfl,a,1,ns,rfl,sA.seq hS,_,t,pe,pt,pr,_,m,es,ts,rg,rfl,ht,.inr rfl,⟨⟨ys,xs,zs,C2⟩,g,part⟩,e0,el',fun es' ts' rg' H4 kp gw l1 l2=>?_⟩
   have sK:Same H H4:=fun p o h=>kp p o (.inl (by
    have:=s4 _ _ (sH _ _ h)
    rw[this]
    exact fun z=>nomatch z)) (sA _ _ h)
   exact⟨_,t,pe,pt,pr,_,_,_,_,m,es',ts',rg',rfl,sK,kp _ _ (.inr rfl) ht,gw,by omega,by omega,mP,kk⟩
  ·exact⟨_,t,pe,pt,pr,_,_,_,_,m,es,ts,rg,rfl,sA,ht,⟨⟨ys,xs,zs,C⟩,g,part⟩,e0,by omega,mP,kk⟩
 ·refine⟨_,rfl,q,_,0,_,rfl,rfl,SqL.of hq2,rfl,c0,20,A,rfl,SqL.of h0,by omega,by decide,fun t pe pt pr m es ts rg H3 s5 ht ⟨⟨ys,xs,zs,C⟩,g,part⟩ e0 el mP=>?_⟩
  have sA:=sH.trans s5
  obtain⟨_,_,_,o4,o5,o6⟩:=C.ne
  have non:∀{p:Addr},¬ (H2 p≠none)->H p=none:=fun{p} z=>by
   cases y:H p with
   |none=>rfl
   |some o=>exact absurd (by rw[sH _ _ y];exact fun z=>nomatch z) z
  refine⟨_,rfl,_,_,rfl,rfl,(by decide:(0:Int)<4),rfl,_,rfl,ite2 (fun z=>?_) (fun z=>?_)⟩
  ·have C2:=C.addS ht
   refine⟨_,rfl,_,rfl,a,1,ns,rfl,sA.seq hS,_,t,pe,pt,pr,_,m,es,ts,rg,rfl,ht,.inr rfl,⟨⟨ys,xs,zs,C2⟩,g,part⟩,e0,by omega,fun es' ts' rg' H4 kp gw l1 l2=>?_⟩
   have live:∀ p o,H2 p=some o->H4 p=some o:=fun p o h=>kp p o (.inl (by rw[h];exact fun z=>nomatch z)) (s5 _ _ h)
   exact⟨_,wy,t,pe,pt,pr,q,c0,c1,_,_,_,B,m,es',ts',rg',rfl,fun p o h=>live p o (sH _ _ h),kp _ _ (.inr rfl) ht,gw,by omega,by omega,mP,non o4,non o5,live _ _ hq2,live _ _ h1,bl,kk⟩
  ·exact⟨_,wy,t,pe,pt,pr,q,c0,c1,_,_,_,B,m,es,ts,rg,rfl,sA,ht,⟨⟨ys,xs,zs,C⟩,g,part⟩,e0,by omega,mP,non o4,non o5,s5 _ _ hq2,s5 _ _ h1,bl,kk⟩
end
end K8
namespace K8
open PySem L2
local macro_rules | `(tactic| walk_at "cc") => `(tactic| first | exact ⟨by decide, by decide⟩ | (show (0 : Int) < _; decide) | (show (0 : Int) < _; omega) | (show (0 : Int) ≤ _; omega) | exact ⟨by decide, by decide, by decide⟩ | exact ⟨by omega, by omega, by decide⟩ | exact Or.inl ⟨by decide, by decide⟩ | exact Or.inl ⟨by omega, by omega⟩)
local macro_rules | `(tactic| walk_at "rd") => `(tactic| repeat (first | refine ⟨_, rfl, ?_⟩ | refine ⟨_, _, rfl, rfl, ?_⟩ | refine ⟨rfl, ?_⟩ | (refine ⟨?cc, ?_⟩; (case cc => walk_at "cc"))))
def wrE(es:En)(wr:Int)(n:Nat):En:=(Gu es.length).map fun(k:Nat)=>(((es[k]?).getD (0,0)).1,if(k:Int)=wr then n else((es[k]?).getD (0,0)).2)
theorem mv(es:En)(wr:Int)(n:Nat):(wrE es wr n).length=es.length:=by unfold wrE;rw[D3,FG]
theorem rL{es:En}{wr:Int}{n k:Nat}{e:Nat×Nat}(h:es[k]?=some e):(wrE es wr n)[k]?=some (e.1,if(k:Int)=wr then n else e.2):=by
 have hl:=(DZ.mp h).1
 unfold wrE
 rw[D9,Fp hl]
 show some (((es[k]?).getD (0,0)).1,if(k:Int)=wr then n else((es[k]?).getD (0,0)).2)=_
 rw[h]
 rfl
theorem bF.snocF{K:D5}{H H':Hp}{us:List V}{es:En}{i:Nat}{e:Nat×Nat}{x C dx:Addr}{s:Int}(h:bF K H us (es.take i))(sm:Same H H')(he:es[i]?=some e)(hx:H' x=some (.ins C dx (tf (e.1:Int) (e.2:Int) s)))(ct:CT K C):bF K H' (us++[.ref x]) (es.take (i+1)):=by
 have il:=(DZ.mp he).1
 have ul:us.length=i:=by rw[h.1,Eg];omega
 rw[EV,he]
 refine⟨by rw[D2,D2,h.1];rfl,fun j e' hj=>?_⟩
 by_cases c:j<(es.take i).length
 ·rw[D8 c]at hj
  obtain⟨p,C',dx',s',a,b,d⟩:=h.2 j e' hj
  exact⟨p,C',dx',s',by rw[D8 (by rw[h.1];exact c)];exact a,sm _ _ b,d⟩
 ·have e2:j=(es.take i).length:=by
   have:=(DZ.mp hj).1
   rw[D2]at this
   have:j<(es.take i).length+1:=this
   omega
  subst e2
  rw[D6 (Ea _),EE]at hj
  cases hj
  exact⟨x,C,dx,s,by rw[← h.1,D6 (Ea _),EE];rfl,hx,ct⟩
theorem bF.putL{K:D5}{H:Hp}{us zs:List V}{es:En}{q:Addr}{o:HO}(h:bF K H us es)(hq:H q=some (.lst zs)):bF K (upd H q o) us es:=⟨h.1,fun i e z=>by
 obtain⟨p,C,dx,s,a,b,d⟩:=h.2 i e z
 exact⟨p,C,dx,s,a,by rw[aq (fun y=>by rw[y,hq]at b;cases b)];exact b,d⟩⟩
def uz(K:D5):Sp:=fun vs H Q _=>∃(pe:Addr)(ys:List V)(es:En)(wr:Int)(n:Nat),vs = [.ref pe,.int wr,.int (n:Int)]/\H pe=some (.lst ys)/\bJ H ys es/\es.length<=70/\(∀ e∈wrE es wr n,e.1≠e.2)/\∀(q:Addr)(us:List V)(H':Hp),Same H H'->H' q=some (.lst us)->bF K H' us (flE (wrE es wr n))->Q (.ref q) H'
def rLT(K:D5)(H:Hp)(es:En)(wr:Int)(n:Nat)(pe:Addr):TS:=fun D σ H2=>∃(q:Addr)(ys us:List V)(k b:Nat)(e:Nat×Nat),σ = [some (.ref pe),some (.int wr),some (.int (n:Int)),some (.ref q),some (.int (k:Int)),some (.int (b:Int))]/\es[k]?=some e/\b=(if(k:Int)=wr then n else e.2)/\e.1≠b/\k<=70/\H2 pe=some (.lst ys)/\bJ H2 ys es/\Same H H2/\H q=none/\H2 q=some (.lst us)/\bF K H2 us ((flE (wrE es wr n)).take k) /\
 ∀(us':List V)(H':Hp)(σ':St),σ'=σ->Same H H'->H' q=some (.lst us')->bF K H' us' ((flE (wrE es wr n)).take (k+1))->D.nx σ' H'
structure KdF(K:D5)(c FE BT BU BP NF:Addr)(due:Nat):Prop where
 er:ErC K c
 k0:Ex K (.ref c) (.ref FE)=some true
 kv:Ex K (.ref c) (.type "ValueError")=some true
 k1:Ex K (.ref c) (.ref BT)=some (decide (due=1))
 k2:Ex K (.ref c) (.ref BU)=some (decide (due=2))
 k3:Ex K (.ref c) (.ref BP)=some (decide (due=3))
 k4:Ex K (.ref c) (.ref NF)=some (decide (due=4))
structure TxtH(mg:Str->Option Value)(BT BU BP NF FE:Addr):Prop extends TxtG mg BT BU BP NF where
 n_ValueError:mg "ValueError" = none
 g_FloorError:mg "FloorError" = some (.ref FE)
theorem rk:bootBuiltins "ValueError" = some (.type "ValueError"):=by decide +kernel
theorem Cw{K:D5}{H:Hp}{a:Addr}{x y z u:Bool}(h:H a=some (.lst [.bl x,.bl y,.bl z,.bl u])):RdD K H (.ref a) (.list [.bool x,.bool y,.bool z,.bool u]):=by
 refine RdD.lst (SqL.of h) rfl fun j v d q1 q2=>?_
 match j with
 |0=>cases q1;cases q2;exact .bl _
 |1=>cases q1;cases q2;exact .bl _
 |2=>cases q1;cases q2;exact .bl _
 |3=>cases q1;cases q2;exact .bl _
 |j+4=>cases q1
theorem yU(x y z u:Bool):SeqAt.shaped (.list [.bool x,.bool y,.bool z,.bool u])=true:=by
 simp[SeqAt.shaped,PyData.canLay0,PyData.canLayAll0,PyData.depth,PyData.depthAll]
def zA(K:D5)(FE BT BU BP NF:Addr):Sp:=fun vs H Q _=>∃(x c:Addr)(dx:Option Addr)(due:Nat),vs = [.ref x,.int (due:Int)]/\H x=some (excD x c dx)/\KdF K c FE BT BU BP NF due/\∀ H',Q (.bl true) H'
section
variable{P:Program}{w:World}{K:D5}{mg:Str->Option Value}{base:Heap}
theorem eM:aY ["ends","wrong","end","ties","k","two"] ["ends","wrong","end"] (au eA):=⟨rfl,rfl,rfl,by decide +kernel,rfl,by decide +kernel,by decide +kernel⟩
theorem BB{f fI PL PS:Addr}{fd fdI:FuncData} (F:Fun K "_law_ties" "_law_ties" eA f fd) (T:Txt mg) (M_Pull:Mak P w K mg base 1 "Pull" ["self","one","two","strength"] (oW K) PL fI fdI) (M_Push:Mak P w K mg base 1 "Push" ["self","one","two","strength"] (oW K) PS fI fdI) (TL:CT K PL) (TS:CT K PS):FnOk P w K mg base CX0 3 f fd ["ends","wrong","end"] (uz K):=by
 refine F.ok eM (fun vs H Q E h=>?_) (fun cdv A outer s H vs Q E hr h=>?_)
 ·obtain⟨pe,ys,es,wr,n,rfl,_⟩:=h
  rfl
 obtain⟨pe,ys,es,wr,n,rfl,he,hE,few,ne,kk⟩:=h
 have yl:ys.length=es.length:=hE.1
 refine⟨_,(af (aw (i:=3) eM.nd rfl (Or.inl rfl) (bh ah))
   (af (c7 PassesOwn.never rfl (cR rfl T.n_range (aa (av ak (by rfl) T.n_len aU (aa (pv 0) ah)) ah)) (a9 (i:=4) eM.nd rfl (Or.inl rfl)) (af (aw (i:=5) eM.nd rfl (Or.inl rfl) (aN bg (aN aE (pv 0) (pv 4) (fun _ _=>rfl)) ag (fun _ _=>rfl)))
   (af (bG (az cx (pv 4) (pv 1) (aF _)) (aj (aw (i:=5) eM.nd rfl (Or.inl rfl) (pv 2))) bf)
   (dB (t2:=rLT K H es wr n pe) (aj (bG (az cx (ao aT (pv 4) ag) ag (aF _)) (aj (aC (cv Eb Ej Ei aP (pv 3) (aa (qk M_Push.mkc M_Push.ok (hr.mono (by decide)) rfl M_Push.mg M_Push.bn .nil bz (aa (pv 5) (aa (aN bg (aN aE (pv 0) (pv 4) (fun _ _=>rfl)) ag (fun _ _=>rfl)) (aa (pv 4) ah)))) ah)))) (aj (bG (az cx (ao aT (pv 4) ag) ag (aF _)) (aj (aC (cv Eb Ej Ei aP (pv 3) (aa (qk M_Push.mkc M_Push.ok (hr.mono (by decide)) rfl M_Push.mg M_Push.bn .nil bz (aa (aN bg (aN aE (pv 0) (pv 4) (fun _ _=>rfl)) ag (fun _ _=>rfl)) (aa (pv 5) (aa (pv 4) ah)))) ah)))) (aj (bG (az cx (ao aT (pv 4) ag) ag (aF _)) (aj (aC (cv Eb Ej Ei aP (pv 3) (aa (qk M_Pull.mkc M_Pull.ok (hr.mono (by decide)) rfl M_Pull.mg M_Pull.bn .nil bz (aa (pv 5) (aa (aN bg (aN aE (pv 0) (pv 4) (fun _ _=>rfl)) ag (fun _ _=>rfl)) (aa (pv 4) ah)))) ah)))) (aj (aC (cv Eb Ej Ei aP (pv 3) (aa (qk M_Pull.mkc M_Pull.ok (hr.mono (by decide)) rfl M_Pull.mg M_Pull.bn .nil bz (aa (aN bg (aN aE (pv 0) (pv 4) (fun _ _=>rfl)) ag (fun _ _=>rfl)) (aa (pv 5) (aa (pv 4) ah)))) ah)))))))))) (fun D0 S0 H0 h0=>?rest1)))))
   (aj (bQ (pv 3))))),?_⟩
 case rest1 =>
  obtain⟨q,ys,us,k,b,e,rfl,hk,hb,neb,k70,hpe,hE2,s2,nq,hq,ht,kr⟩:=h0
  obtain⟨p,y1,hp⟩:=hE2.2 k e hk
  have at':(flE (wrE es wr n))[k]?=some (if k%2=1 then(b,e.1) else(e.1,b)):=by rw[iS (rL hk),← hb]
  have ul:us.length<=k:=by rw[ht.1,Eg];omega
  have fin:∀(x dx C:Addr)(H':Hp)(xo xt:Nat),(xo,xt)=(if k%2=1 then(b,e.1) else(e.1,b))->CT K C->Same H0 H'->H' x=some (.ins C dx (tf (xo:Int) (xt:Int) (k:Int)))->D0.nx [some (.ref pe),some (.int wr),some (.int (n:Int)),some (.ref q),some (.int (k:Int)),some (.int (b:Int))] (upd H' q (.lst (us++[.ref x]))):=fun x dx C H' xo xt ex ct s4 hx=>by
   refine kr (us++[.ref x]) _ _ rfl (bO (s2.trans s4) nq _) ae ?_
   exact(ht.snocF s4 (e:=(xo,xt)) (by rw[ex];exact at') hx ct).putL (s4 _ _ hq)
  have k4:∀ r:Int,(k:Int)%4=r->(k:Int)%4=r:=fun _ h=>h
  have four:(0:Int)<4:=by decide
  refine⟨_,rfl,_,_,rfl,rfl,four,rfl,_,rfl,ite2 (fun c=>?_) (fun c=>?_)⟩
  ·have c':(k:Int)%4=1:=V.int.inj (of_decide_eq_true c)
   refine⟨_,rfl,.inl ⟨rfl,_,SqL.of hq⟩,_,rfl,_,rfl,_,rfl,pe,ys,_,_,rfl,rfl,SqL.of hpe,aJ y1,p,_,0,_,rfl,rfl,SqT.of hp,at0,_,rfl,?_⟩
   intro x dx nx ndx nex
   refine⟨x,PS,dx,_,_,_,rfl,ae,TS,by omega,by omega,by omega,by omega,fun H' h1 h2=>?_⟩
   have s4:Same H0 H':=fun b o z=>h2 b o (by rw[aq (ay z nx),aq (ay z ndx)];exact z) (ay z nx)
   exact⟨rfl,q,us,_,rfl,rfl,s4 _ _ hq,ar (by omega),fin x dx PS H' b e.1 (by rw[if_pos (by omega)]) TS s4 h1⟩
  have c1:¬ (k:Int)%4=1:=fun z=>c (decide_eq_true (congrArg V.int z))
  refine⟨_,rfl,_,_,rfl,rfl,four,rfl,_,rfl,ite2 (fun c=>?_) (fun c=>?_)⟩
  ·have c':(k:Int)%4=2:=V.int.inj (of_decide_eq_true c)
   refine⟨_,rfl,.inl ⟨rfl,_,SqL.of hq⟩,_,rfl,_,rfl,pe,ys,_,_,rfl,rfl,SqL.of hpe,aJ y1,p,_,0,_,rfl,rfl,SqT.of hp,at0,_,rfl,_,rfl,?_⟩
   intro x dx nx ndx nex
   refine⟨x,PS,dx,_,_,_,rfl,ae,TS,by omega,by omega,by omega,by omega,fun H' h1 h2=>?_⟩
   have s4:Same H0 H':=fun b o z=>h2 b o (by rw[aq (ay z nx),aq (ay z ndx)];exact z) (ay z nx)
   exact⟨rfl,q,us,_,rfl,rfl,s4 _ _ hq,ar (by omega),fin x dx PS H' e.1 b (by rw[if_neg (by omega)]) TS s4 h1⟩
  have c2:¬ (k:Int)%4=2:=fun z=>c (decide_eq_true (congrArg V.int z))
  refine⟨_,rfl,_,_,rfl,rfl,four,rfl,_,rfl,ite2 (fun c=>?_) (fun c=>?_)⟩
  ·have c':(k:Int)%4=3:=V.int.inj (of_decide_eq_true c)
   refine⟨_,rfl,.inl ⟨rfl,_,SqL.of hq⟩,_,rfl,_,rfl,_,rfl,pe,ys,_,_,rfl,rfl,SqL.of hpe,aJ y1,p,_,0,_,rfl,rfl,SqT.of hp,at0,_,rfl,?_⟩
   intro x dx nx ndx nex
   refine⟨x,PL,dx,_,_,_,rfl,ae,TL,by omega,by omega,by omega,by omega,fun H' h1 h2=>?_⟩
   have s4:Same H0 H':=fun b o z=>h2 b o (by rw[aq (ay z nx),aq (ay z ndx)];exact z) (ay z nx)
   exact⟨rfl,q,us,_,rfl,rfl,s4 _ _ hq,ar (by omega),fin x dx PL H' b e.1 (by rw[if_pos (by omega)]) TL s4 h1⟩
  ·have c3:¬ (k:Int)%4=3:=fun z=>c (decide_eq_true (congrArg V.int z))
   refine⟨_,rfl,.inl ⟨rfl,_,SqL.of hq⟩,_,rfl,_,rfl,pe,ys,_,_,rfl,rfl,SqL.of hpe,aJ y1,p,_,0,_,rfl,rfl,SqT.of hp,at0,_,rfl,_,rfl,?_⟩
   intro x dx nx ndx nex
   refine⟨x,PL,dx,_,_,_,rfl,ae,TL,by omega,by omega,by omega,by omega,fun H' h1 h2=>?_⟩
   have s4:Same H0 H':=fun b o z=>h2 b o (by rw[aq (ay z nx),aq (ay z ndx)];exact z) (ay z nx)
   exact⟨rfl,q,us,_,rfl,rfl,s4 _ _ hq,ar (by omega),fin x dx PL H' e.1 b (by rw[if_neg (by omega)]) TL s4 h1⟩
 refine⟨(by show 0<=sizeLine;decide),fun q hq=>?_⟩
 have s1:=ai hq (.lst [])
 refine⟨_,rfl,pe,ys,rfl,.inl (SqL.of (s1 _ _ he)),_,rfl,by omega,by omega,dz (n:=(ys.length:Int).toNat) (fun k σ H2=>∃ v4 v5 us,σ = [some (.ref pe),some (.int wr),some (.int (n:Int)),some (.ref q),v4,v5]/\Same H H2/\H2 q=some (.lst us)/\bF K H2 us ((flE (wrE es wr n)).take k)) ⟨_,_,[],rfl,s1,ae,rfl,fun i e z=>by simp at z⟩ ?_ ?_⟩
 ·rintro k σ H2 hk ⟨v4,v5,us,rfl,s2,hq2,ht⟩
  rw[EN,yl]at hk
  have e0:(0:Int)+(k:Int)=(k:Int):=FR _
  rw[e0]
  obtain⟨e,h1⟩:∃ e,es[k]?=some e:=⟨_,D1 hk⟩
  have hE2:=hE.mono s2
  obtain⟨p,y1,hp⟩:=hE2.2 k e h1
  have nb:=ne _ (D4 (rL (wr:=wr) (n:=n) h1))
  refine⟨_,rfl,_,rfl,pe,ys,_,_,rfl,rfl,SqL.of (s2 _ _ he),aJ y1,p,_,1,_,rfl,rfl,SqT.of hp,at1,?_⟩
  refine⟨_,rfl,_,rfl,rfl,_,rfl,ite2 (fun c=>?_) (fun c=>?_)⟩
  ·have c':(k:Int)=wr:=V.int.inj (of_decide_eq_true c)
   rw[if_pos c']at nb
   refine⟨_,rfl,?_⟩
   exact⟨q,ys,us,k,n,e,rfl,h1,by rw[if_pos c'],nb,by omega,s2 _ _ he,hE2,s2,hq,hq2,ht,fun us' H' σ' eσ s' h' t'=>by subst eσ;exact⟨_,_,us',rfl,s',h',t'⟩⟩
  ·have c':¬ (k:Int)=wr:=fun z=>c (decide_eq_true (congrArg V.int z))
   rw[if_neg c']at nb
   exact⟨q,ys,us,k,e.2,e,rfl,h1,by rw[if_neg c'],nb,by omega,s2 _ _ he,hE2,s2,hq,hq2,ht,fun us' H' σ' eσ s' h' t'=>by subst eσ;exact⟨_,_,us',rfl,s',h',t'⟩⟩
 ·rintro σ H2 ⟨v4,v5,us,rfl,s2,hq2,ht⟩
  rw[EN,yl,← mv es wr n,← dP,Fb]at ht
  exact⟨_,rfl,kk q us H2 s2 hq2 ht⟩
theorem fu:aY ["error","due","kinds"] ["error","due"] (au bW):=⟨rfl,rfl,rfl,by decide +kernel,rfl,by decide +kernel,by decide +kernel⟩
theorem Di{f BT BU BP NF FE:Addr}{fd:FuncData} (F:Fun K "_law_refused" "_law_refused" bW f fd) (T:TxtH mg BT BU BP NF FE):FnOk P w K mg base CX0 1 f fd ["error","due"] (zA K FE BT BU BP NF):=by
 refine F.ok fu (fun vs H Q E h=>?_) (fun cdv A outer s H vs Q E hr h=>?_)
 ·obtain⟨x,c,dx,due,rfl,_⟩:=h
  rfl
 obtain⟨x,c,dx,due,rfl,hx,kd,kk⟩:=h
 have hu64:=hr.units
 have two:2<=sizeLine:=by decide
 refine⟨_,(af (bG (PW.pt (zJ (Cg (Cf (av gY (by rfl) T.n_isinstance bZ (aa (pv 0) (aa (mI (v:=.ref _) rfl T.g_FloorError rfl) ah))))) (rX (Cg (Cf (av yT (by rfl) T.n_isinstance bZ (aa (pv 0) (aa (Dd (v:=.ty "ValueError") rfl T.n_ValueError rk rfl) ah)))))))) (aj (bQ De)) bf)
   (af (aw (i:=2) fu.nd rfl (Or.inl rfl) (bh (aa (av gY (by rfl) T.n_isinstance bZ (aa (pv 0) (aa (mI (v:=.ref _) rfl T.g_BadTie rfl) ah))) (aa (av gY (by rfl) T.n_isinstance bZ (aa (pv 0) (aa (mI (v:=.ref _) rfl T.g_BadTurns rfl) ah))) ah))))
   (af (aw (i:=2) fu.nd rfl (Or.inl rfl) (ao bL (pv 2) (bh (aa (av gY (by rfl) T.n_isinstance bZ (aa (pv 0) (aa (mI (v:=.ref _) rfl T.g_Parted rfl) ah))) (aa (av gY (by rfl) T.n_isinstance bZ (aa (pv 0) (aa (mI (v:=.ref _) rfl T.g_NotFlat rfl) ah))) ah)))))
   (aj (bQ (gE (op_eqD hu64) (pv 2) (bh (aa (gE cx (pv 1) ag (aF _)) (aa (gE cx (pv 1) ag (aF _)) (aa (gE cx (pv 1) ag (aF _)) (aa (gE cx (pv 1) ag (aF _)) ah))))) (aF _))))))),?_⟩
 refine⟨_,rfl,x,c,dx,FE,_,rfl,hx,kd.er,kd.k0,_,rfl,iteF ?_⟩
 refine⟨_,rfl,x,c,dx,"ValueError",_,rfl,hx,kd.er,kd.kv,_,rfl,iteF ?_⟩
 refine⟨_,rfl,x,c,dx,BT,_,rfl,hx,kd.er,kd.k1,_,rfl,x,c,dx,BU,_,rfl,hx,kd.er,kd.k2,two,fun l1 h1=>?_⟩
 have s1:=ai h1 (.lst [.bl (decide (due=1)),.bl (decide (due=2))])
 refine⟨_,rfl,_,rfl,x,c,dx,BP,_,rfl,s1 _ _ hx,kd.er,kd.k3,_,rfl,x,c,dx,NF,_,rfl,s1 _ _ hx,kd.er,kd.k4,two,fun l2 h2=>?_⟩
 have s2:=ai h2 (.lst [.bl (decide (due=3)),.bl (decide (due=4))])
 refine⟨l1,l2,_,_,rfl,rfl,SqL.of (s2 _ _ ae),SqL.of ae,(by show 4<=sizeLine;decide),fun l3 h3=>?_⟩
 refine⟨_,rfl,_,rfl,rfl,_,rfl,rfl,_,rfl,rfl,_,rfl,rfl,(by show 4<=sizeLine;decide),fun l4 h4=>?_⟩
 have s4:=ai h4 (.lst [.bl (decide (V.int (due:Int)=V.int 1)),.bl (decide (V.int (due:Int)=V.int 2)),.bl (decide (V.int (due:Int)=V.int 3)),.bl (decide (V.int (due:Int)=V.int 4))])
 have dd:∀ k:Nat,decide (V.int (due:Int)=V.int (k:Int))=decide (due=k):=fun k=>by
  by_cases z:due=k
  ·rw[decide_eq_true z,z,decide_eq_true rfl]
  ·rw[decide_eq_false z,decide_eq_false (fun y=>z (by have:=V.int.inj y;omega))]
 refine⟨_,Cw (s4 _ _ ae),?_,yU _ _ _ _,kk _⟩
 refine Cw ?_
 rw[ae]
 have d1:=dd 1
 have d2:=dd 2
 have d3:=dd 3
 have d4:=dd 4
 show some (HO.lst [.bl (decide (V.int (due:Int)=V.int ((1:Nat):Int))),.bl (decide (V.int (due:Int)=V.int ((2:Nat):Int))),.bl (decide (V.int (due:Int)=V.int ((3:Nat):Int))),.bl (decide (V.int (due:Int)=V.int ((4:Nat):Int)))])=_
 rw[d1,d2,d3,d4]
end
end K8
namespace K8
open PySem L2
local macro_rules | `(tactic| walk_at "cc") => `(tactic| first | exact ⟨by decide, by decide⟩ | (show (0 : Int) < _; decide) | (show (0 : Int) < _; omega) | (show (0 : Int) ≤ _; omega) | exact ⟨by decide, by decide, by decide⟩ | exact ⟨by omega, by omega, by decide⟩ | exact Or.inl ⟨by decide, by decide⟩ | exact Or.inl ⟨by omega, by omega⟩)
local macro_rules | `(tactic| walk_at "rd") => `(tactic| repeat (first | refine ⟨_, rfl, ?_⟩ | refine ⟨_, _, rfl, rfl, ?_⟩ | refine ⟨rfl, ?_⟩ | (refine ⟨?cc, ?_⟩; (case cc => walk_at "cc"))))
theorem Aq{K:D5}{H:Hp}{a:Addr}{ns:List Int}(h:H a=some (.lst (ns.map V.int))):RdD K H (.ref a) (.list (ns.map PyData.int)):=by
 refine RdD.lst (SqL.of h) (by rw[D3,D3]) fun i x d e1 e2=>?_
 rw[D9]at e1 e2
 cases q:ns[i]? with
 |none=>rw[q]at e1;cases e1
 |some z=>rw[q]at e1 e2;cases e1;cases e2;exact .int _
theorem lC(ns:List Int):SeqAt.shaped (.list (ns.map PyData.int))=true:=by
 refine mE fun d hd=>?_
 obtain⟨p,_,rfl⟩:=EW.mp hd
 constructor
 ·simp[PyData.canLay0]
 ·simp[PyData.depth]
theorem xO{H H':Hp}{xs:List V}{ts:List (List Nat)}{r:Addr}{L:List Int}(h:bq H xs ts)(k:∀ q o,H q=some o->q≠r->H' q=some o)(hr:H' r=some (.lst (L.map V.int))):∃ js,eh H' xs js/\js.length=ts.length/\∀ p,p<ts.length->xs[p]?=some (.ref r)->js[p]?=some L:=by
 refine⟨(Gu ts.length).map fun j=>if xs[j]?=some (.ref r) then L else cI ((ts[j]?).getD []),⟨by rw[D3,FG];exact h.1,fun i l e=>?_⟩,by rw[D3,FG],fun p hp e=>?_⟩
 ·have il:i<ts.length:=by
   have:=(DZ.mp e).1
   rw[D3,FG]at this
   exact this
  rw[D9,Fp il]at e
  obtain⟨q,a,b⟩:=h.2 i ts[i] (D1 il)
  have e':(if xs[i]?=some (.ref r) then L else cI ((ts[i]?).getD []))=l:=Er e
  by_cases z:q=r
  ·subst z
   rw[if_pos a]at e'
   subst e'
   exact⟨q,a,hr⟩
  ·rw[if_neg (fun y=>z (by rw[a]at y;cases y;rfl)),D1 il]at e'
   have e':cI ts[i]=l:=e'
   subst e'
   exact⟨q,a,by rw[cI_V];exact k _ _ b z⟩
 ·rw[D9,Fp hp]
  show some (if xs[p]?=some (.ref r) then L else cI ((ts[p]?).getD []))=some L
  rw[if_pos e]
def SpE(H:Hp)(pt:Addr)(m:Nat)(es:En)(N:Hp->Prop):Prop:=∀(xs':List V)(js:List (List Int))(H':Hp),(∀ q o,H q=some o->(∀ l:List Nat,o≠.lst (l.map iV))->q≠pt->H' q=some o)->H' pt=some (.lst xs')->eh H' xs' js->¬ Mt m es js->js.length<=50->N H'
def pL:Sp:=fun vs H Q _=>∃(pt:Addr)(xs:List V)(c:Int)(m:Nat)(es:En)(ts:List (List Nat)),vs = [.ref pt,.int (es.length:Int),.int c]/\H pt=some (.lst xs)/\bq H xs ts/\aZ m es ts/\es.length<=70/\1<=m/\m<=42/\SpE H pt m es (Q .non)
def rS0(H:Hp)(pt:Addr)(xs:List V)(m:Nat)(es:En)(ts:List (List Nat)):TS:=fun D σ H2=>∃(r:Addr)(p y:Nat)(wy nu:Int)(l:List Nat)(v2 v3:Option V),σ = [some (.ref pt),some (.int (es.length:Int)),v2,v3,some (.int wy),some (.ref r),some (.int (y:Int)),some (.int nu),none]/\H2=H/\xs[p]?=some (.ref r)/\ts[p]?=some l/\H r=some (.lst (l.map iV))/\∀ σ',SpE H pt m es (D.nx σ')
theorem Bq{H H':Hp}{pt r:Addr}{xs:List V}{m p:Nat}{es:En}{ts:List (List Nat)}{l:List Nat}{L:List Int}{N:Hp->Prop}(hp:H pt=some (.lst xs))(hR:bq H xs ts)(w:aZ m es ts)(m42:m<=42)(a1:xs[p]?=some (.ref r))(hl:ts[p]?=some l)(a2:H r=some (.lst (l.map iV)))(kk:SpE H pt m es N)(k:∀ q o,H q=some o->q≠r->H' q=some o)(hr:H' r=some (.lst (L.map V.int)))(bad:L.length≠l.length∨∃ (k:Nat) (x z:Int),L=(cI l).set k z/\(cI l)[k]?=some x/\x≠z):N H':=by
 obtain⟨js,jr,jl,ja⟩:=xO hR k hr
 have pl:=(DZ.mp hl).1
 have rpt:r≠pt:=i6 hp a1 a2
 refine kk xs js H' (fun q o h n _=>k q o h (fun z=>n l (by rw[z,a2]at h;exact(Er h).symm))) (k _ _ hp (Ne.symm rpt)) jr ?_ (by rw[jl,w.len];omega)
 rcases bad with b | ⟨k,x,z,e,hk,n⟩
 ·exact yo w (ja p pl a1) hl b
 ·subst e
  exact yn w (ja p pl a1) hl hk n
theorem sF{α β:Type}(g:α->β):∀(l:List α)(k:Nat),(l.map g).eraseIdx k=(l.eraseIdx k).map g
 |[],_=>rfl
 |x::l,0=>rfl
 |x::l,k+1=>by
  show g x::(l.map g).eraseIdx k=g x::(l.eraseIdx k).map g
  rw[sF g l k]
theorem DU{l:List Nat}{k:Nat}{x:Nat}(h:l[k]?=some x):(cI l)[k]?=some (x:Int):=by unfold cI;rw[D9,h];rfl
theorem cI_len(l:List Nat):(cI l).length=l.length:=by unfold cI;rw[D3]
section
variable{P:Program}{w:World}{K:D5}{mg:Str->Option Value}{base:Heap}
theorem bC:aY ["turns","many","cell","mixed","way","row","rest","number","at"] ["turns","many","cell"] (au c9):=⟨rfl,rfl,rfl,by decide +kernel,rfl,by decide +kernel,by decide +kernel⟩
theorem Bw{f:Addr}{fd:FuncData} (F:Fun K "_law_spoil" "_law_spoil" c9 f fd) (T:Txt mg):FnOk P w K mg base CX0 1 f fd ["turns","many","cell"] pL:=by
 refine F.ok bC (fun vs H Q E h=>?_) (fun cdv A outer s H vs Q E hr h=>?_)
 ·obtain⟨pt,xs,c,m,es,ts,rfl,_⟩:=h
  rfl
 obtain⟨pt,xs,c,m,es,ts,rfl,hp,hR,w',few,m1,m42,kk⟩:=h
 have hu64:=hr.units
 have tl:ts.length=m:=w'.len
 have xl:xs.length=m:=by rw[hR.1,tl]
 refine⟨_,(af (aw (i:=3) bC.nd rfl (Or.inl rfl) (ao aT (ao bD (ao aT (pv 2) ag) ag) ag))
   (af (aw (i:=4) bC.nd rfl (Or.inl rfl) (ao aT (pv 3) ag))
   (af (aw (i:=5) bC.nd rfl (Or.inl rfl) (aN aE (pv 0) (ao aT (ao br (pv 3) ag) (av ak (by rfl) T.n_len aU (aa (pv 0) ah))) (fun _ _=>rfl)))
   (af (aw (i:=6) bC.nd rfl (Or.inl rfl) (ao br (ao br (pv 3) ag) (av ak (by rfl) T.n_len aU (aa (pv 0) ah))))
   (af (aw (i:=7) bC.nd rfl (Or.inl rfl) (ao lB (ao aT (pv 6) (ao aO (pv 1) ag)) ag))
   (dB (t2:=rS0 H pt xs m es ts) (aj (bG (az cx (pv 4) ag (aF _)) (aj (aC (pe_bm0 Eb GJ GH mt_pop (pv 0)))) (aj (bG (az cx (pv 4) ag (aF _)) (aj (aC (cv Eb Ej Ei aP (pv 0) (aa (bh ah) ah)))) (aj (bG (az (op_eqG hu64) (pv 5) (bh ah) (aF _)) (aj (aC (cv Eb Ej Ei aP (pv 5) (aa ag ah)))) (aj (bG (az cx (pv 4) ag (aF _)) (aj (aC (cv Eb GJ GH xp (pv 5) (aa (ao aT (pv 6) (av ak (by rfl) T.n_len aU (aa (pv 5) ah))) ah)))) (aj (bG (az cx (pv 4) ag (aF _)) (aj (aC (cv Eb Gq Gp mM (pv 5) (aa (ao aT (ao br (pv 6) (ao aO (pv 1) ag)) (ao aO (av ak (by rfl) T.n_len aU (aa (pv 5) ah)) ag)) (aa (pv 7) ah))))) (aj (bG (az cx (pv 4) ag (aF _)) (af (aw (i:=8) bC.nd rfl (Or.inl rfl) (ao aT (ao br (pv 6) (ao aO (pv 1) ag)) (av ak (by rfl) T.n_len aU (aa (pv 5) ah))))
   (af (bG (az cx (aN aE (pv 5) (pv 8) (fun _ _=>rfl)) (pv 7) (aF _)) (aj (aw (i:=7) bC.nd rfl (Or.inl rfl) (pv 1))) bf)
   (aj (gy (pv 7) (jH (pv 5) (pv 8) dU))))) (af (gy (aN aE (pv 5) (ao aT (ao aO (pv 6) ag) (av ak (by rfl) T.n_len aU (aa (pv 5) ah))) (fun _ _=>rfl)) (jH (pv 5) (ao aT (pv 6) (av ak (by rfl) T.n_len aU (aa (pv 5) ah))) dU))
   (aj (aC (cv Eb Ej Ei aP (pv 5) (aa (aN aE (pv 5) ag (fun _ _=>rfl)) ah))))))))))))))))) (fun D0 S0 H0 h0=>?rest0))))))),?_⟩
 case rest0 =>
  clear kk
  obtain⟨r,p,y,wy,nu,l,v2,v3,rfl,rfl,a1,hl,a2,kk⟩:=h0
  obtain⟨_,l70⟩:=et w' few hl
  have rpt:r≠pt:=i6 hp a1 a2
  have done':∀{N:Hp->Prop}{L:List Int}{H':Hp},SpE H0 pt m es N->(∀ q o,H0 q=some o->q≠r->H' q=some o)->H' r=some (.lst (L.map V.int))->(L.length≠l.length∨∃(k:Nat)(x z:Int),L=(cI l).set k z/\(cI l)[k]?=some x/\x≠z)->N H':=fun kk k hr bad=>Bq hp hR w' m42 a1 hl a2 kk k hr bad
  have rowne:∀(j:Nat)(t:List Nat),ts[j]?=some t->∃ q,xs[j]?=some (.ref q)/\H0 q=some (.lst (t.map iV))/\q≠pt:=fun j t e=>by
   obtain⟨q,b1,b2⟩:=hR.2 j t e
   exact⟨q,b1,b2,i6 hp a1 b2⟩
  refine⟨_,rfl,rfl,_,rfl,ite2 (fun z=>?_) (fun z=>?_)⟩
  ·obtain⟨yl,hyl⟩:∃ y,xs[xs.length-1]?=some y:=⟨_,D1 (by omega)⟩
   refine⟨_,rfl,.inl ⟨rfl,_,SqL.of hp⟩,pt,xs,yl,rfl,rfl,hp,hyl,?_⟩
   refine kk _ xs.dropLast ((ts.map cI).dropLast) _ (fun q o h _ n=>by rw[aq n];exact h) ae ⟨by rw[FI,FI,D3,hR.1],fun j t e=>?_⟩ (o7 w' (by rw[FI,D3];omega)) (by rw[FI,D3];omega)
   rw[List.getElem?_dropLast]at e ⊢
   rw[D3]at e
   rw[hR.1]
   split at e
   ·rename_i c
    rw[if_pos c]
    rw[D9]at e
    obtain⟨t0,h1,rfl⟩:=EO.mp e
    obtain⟨q,b1,b2,b3⟩:=rowne j t0 h1
    exact⟨q,b1,by rw[aq b3,cI_V];exact b2⟩
   ·cases e
  refine⟨_,rfl,rfl,_,rfl,ite2 (fun z=>?_) (fun z=>?_)⟩
  ·refine⟨_,rfl,.inl ⟨rfl,_,SqL.of hp⟩,(by show 0<=sizeLine;decide),fun pn hpn=>⟨pt,xs,_,rfl,rfl,ai hpn _ _ _ hp,ar (by omega),?_⟩⟩
   have sn:=ai hpn (.lst [])
   have npn:pn≠pt:=fun z=>by rw[z,hp]at hpn;cases hpn
   refine kk _ (xs++[.ref pn]) (ts.map cI++[[]]) _ (fun q o h _ n=>by rw[aq n];exact sn _ _ h) ae (eh.snoc ⟨by rw[D3,hR.1],fun j t e=>?_⟩ (by rw[aq npn];exact ae)) (o7 w' (by rw[D2,D3,Ed];omega)) (by rw[D2,D3,Ed];omega)
   rw[D9]at e
   obtain⟨t0,h1,rfl⟩:=EO.mp e
   obtain⟨q,b1,b2,b3⟩:=rowne j t0 h1
   exact⟨q,b1,by rw[aq b3,cI_V];exact sn _ _ b2⟩
  refine⟨_,rfl,(by show 0<=sizeLine;decide),fun bb hbb=>?_⟩
  have sb:=ai hbb (.lst [])
  have a3:(upd H0 bb (.lst [])) r=some (.lst ((cI l).map V.int)):=by rw[cI_V];exact sb _ _ a2
  refine⟨_,_,Aq a3,Aq (ns:=[]) ae,lC _,lC _,_,rfl,?_⟩
  rw[xG]
  have kp:∀{o:HO} q u,H0 q=some u->q≠r->(upd (upd H0 bb (.lst [])) r o) q=some u:=fun q u h n=>by rw[aq n];exact sb _ _ h
  rw[← cI_V]at a2
  generalize upd H0 bb (.lst [])=H1 at sb a3 kp
  have cl:=cI_len l
  have vl:((cI l).map V.int).length=l.length:=by rw[D3,cl]
  by_cases em:cI l = []
  ·rw[decide_eq_true em]
   refine iteT ⟨_,rfl,.inl ⟨rfl,_,SqL.of a3⟩,r,_,_,rfl,rfl,a3,ar (by omega),?_⟩
   refine done' (kk _) kp (L:=cI l++[0]) (by rw[ae,EX];rfl) (.inl (by rw[D2,cl,Ed];omega))
  rw[decide_eq_false em]
  refine iteF ?_
  have l0:0<l.length:=by
   rcases Nat.eq_zero_or_pos l.length with z | z
   ·exact absurd (by rw[GB.mp z];rfl) em
   ·exact z
  have modl:∀ n:Nat,∃ k:Nat,(n:Int)%(l.length:Int)=(k:Int)/\k<l.length:=fun n=>⟨n%l.length,(F4 _ _).symm,GQ _ l0⟩
  refine⟨_,rfl,rfl,_,rfl,ite2 (fun z=>?_) (fun z=>?_)⟩
  ·obtain⟨k,ek,kl⟩:=modl y
   obtain⟨yv,hyv⟩:∃ v,((cI l).map V.int)[k]?=some v:=⟨_,D1 (by omega)⟩
   refine⟨_,rfl,.inl ⟨rfl,_,SqL.of a3⟩,_,rfl,_,rfl,r,_,rfl,.inl (SqL.of a3),_,_,rfl,rfl,(by rw[vl];omega),r,_,_,k,yv,rfl,(by rw[vl];exact congrArg (fun i=>[V.int i]) ek),a3,by omega,by omega,zF (by omega),hyv,?_⟩
   exact done' (kk _) kp (L:=(cI l).eraseIdx k) (by rw[ae,sF]) (.inl (by rw[GV,cl,if_pos kl];omega))
  have quo:(y:Int)/((es.length:Int)+2)=((y/(es.length+2):Nat):Int):=by rw[show(es.length:Int)+2=((es.length+2:Nat):Int) by omega,← Hj]
  have cd:CDiv (y:Int) ((es.length:Int)+2):=⟨by omega,by omega⟩
  refine⟨_,rfl,rfl,_,rfl,ite2 (fun z=>?_) (fun z=>?_)⟩
  ·obtain⟨k,ek,kl⟩:∃ k:Nat,(y:Int)/((es.length:Int)+2)%(((cI l).map V.int).length+1:Int)=(k:Int)/\k<=l.length:=⟨y/(es.length+2)%(l.length+1),by rw[quo,vl,show(l.length:Int)+1=((l.length+1:Nat):Int) by omega,← F4],Nat.le_of_lt_succ (GQ _ (Nat.succ_pos l.length))⟩
   refine⟨_,rfl,.inl ⟨rfl,_,SqL.of a3⟩,_,rfl,_,rfl,_,_,rfl,rfl,_,_,rfl,rfl,cd,_,rfl,r,_,rfl,.inl (SqL.of a3),_,_,rfl,rfl,_,_,rfl,rfl,(by show(0:Int)<(((cI l).map V.int).length:Int)+1;omega),_,rfl,r,_,_,_,rfl,rfl,a3,(by show(0:Int)<=(y:Int)/((es.length:Int)+2)%(((cI l).map V.int).length+1:Int);omega),(by show(y:Int)/((es.length:Int)+2)%(((cI l).map V.int).length+1:Int)<=_;omega),ar (by omega),?_⟩
   refine done' (kk _) kp (L:=(cI l).take ((y:Int)/((es.length:Int)+2)%(((cI l).map V.int).length+1:Int)).toNat++nu::(cI l).drop ((y:Int)/((es.length:Int)+2)%(((cI l).map V.int).length+1:Int)).toNat) (by rw[ae,EX,EU,FC,FD]) (.inl ?_)
   rw[D2,ET,Eg,Eu,cl]
   omega
  refine⟨_,rfl,rfl,_,rfl,ite2 (fun z=>?_) (fun z=>?_)⟩
  ·obtain⟨k,ek,kl⟩:∃ k:Nat,(y:Int)/((es.length:Int)+2)%(((cI l).map V.int).length:Int)=(k:Int)/\k<l.length:=by
    obtain⟨k,h1,h2⟩:=modl (y/(es.length+2))
    exact⟨k,by rw[quo,vl];exact h1,h2⟩
   refine⟨_,rfl,_,rfl,_,_,rfl,rfl,_,_,rfl,rfl,cd,_,rfl,r,_,rfl,.inl (SqL.of a3),_,_,rfl,rfl,(by show(0:Int)<(((cI l).map V.int).length:Int);omega),?_⟩
   show oG 8 (V.int ((y:Int)/((es.length:Int)+2)%(((cI l).map V.int).length:Int))) _ _ _
   rw[ek]
   obtain⟨x,hx⟩:∃ x,l[k]?=some x:=⟨_,D1 kl⟩
   have xlt:=jI w' hl (D4 hx)
   have hxV:((cI l).map V.int)[k]?=some (.int (x:Int)):=by rw[D9,DU hx];rfl
   have fin:∀(σ':St)(zz:Int),(x:Int)≠zz->D0.nx σ' (upd H1 r (.lst (((cI l).map V.int).set k (.int zz)))):=fun σ' zz ne=>done' (kk σ') kp (L:=(cI l).set k zz) (by rw[ae,List.map_set]) (.inr ⟨k,x,zz,rfl,DU hx,ne⟩)
   refine⟨_,rfl,_,rfl,r,_,_,_,rfl,rfl,SqL.of a3,aJ hxV,_,rfl,rfl,_,rfl,ite2 (fun c=>?_) (fun c=>?_)⟩
   ·exact⟨_,rfl,_,rfl,_,rfl,_,rfl,r,_,_,k,rfl,rfl,a3,eR (by omega),fin _ _ (by omega)⟩
   ·exact⟨_,rfl,_,rfl,_,rfl,r,_,_,k,rfl,rfl,a3,eR (by omega),fin _ _ (fun e=>c (decide_eq_true (congrArg V.int e)))⟩
  ·obtain⟨k1,e1,l1⟩:∃ k:Nat,((y:Int)+1)%(((cI l).map V.int).length:Int)=(k:Int)/\k<l.length:=by
    obtain⟨k,h1,h2⟩:=modl (y+1)
    exact⟨k,by rw[vl,show(y:Int)+1=((y+1:Nat):Int) by omega];exact h1,h2⟩
   obtain⟨k2,e2,l2⟩:∃ k:Nat,(y:Int)%(((cI l).map V.int).length:Int)=(k:Int)/\k<l.length:=by
    obtain⟨k,h1,h2⟩:=modl y
    exact⟨k,by rw[vl];exact h1,h2⟩
   obtain⟨x,hx⟩:∃ x,l[k1]?=some x:=⟨_,D1 l1⟩
   have hxV:((cI l).map V.int)[k1]?=some (.int (x:Int)):=by rw[D9,DU hx];rfl
   have pos:(0:Int)<(((cI l).map V.int).length:Int):=by omega
   refine⟨_,rfl,_,rfl,_,_,rfl,rfl,_,rfl,r,_,rfl,.inl (SqL.of a3),_,_,rfl,rfl,pos,r,_,_,_,rfl,rfl,SqL.of a3,(by show atI _ (((y:Int)+1)%(((cI l).map V.int).length:Int))=_;rw[e1];exact aJ hxV),_,rfl,_,rfl,_,rfl,r,_,rfl,.inl (SqL.of a3),_,_,rfl,rfl,pos,r,_,_,k2,rfl,rfl,a3,(by show ixN _ ((y:Int)%(((cI l).map V.int).length:Int))=_;rw[e2];exact eR (by omega)),?_⟩
   have a4:(upd H1 r (.lst (((cI l).map V.int).set k2 (.int (x:Int))))) r=some (.lst (((cI l).set k2 (x:Int)).map V.int)):=by rw[ae,List.map_set]
   have kp4:∀{o:HO} q u,H0 q=some u->q≠r->(upd (upd H1 r (.lst (((cI l).map V.int).set k2 (.int (x:Int))))) r o) q=some u:=fun q u h n=>by rw[aq n];exact kp q u h n
   generalize upd H1 r (.lst (((cI l).map V.int).set k2 (.int (x:Int))))=H4 at a4 kp4
   have sl:(((cI l).set k2 (x:Int)).map V.int).length=l.length:=by rw[D3,EF,cl]
   obtain⟨v0,hv0⟩:∃ v,((cI l).set k2 (x:Int))[0]?=some v:=⟨_,D1 (by rw[EF];omega)⟩
   have hv0V:(((cI l).set k2 (x:Int)).map V.int)[0]?=some (.int v0):=by rw[D9,hv0];rfl
   refine⟨_,rfl,.inl ⟨rfl,_,SqL.of a4⟩,_,rfl,r,_,_,_,rfl,rfl,SqL.of a4,aJ (j:=0) hv0V,r,_,_,rfl,rfl,a4,ar (by omega),?_⟩
   exact done' (kk _) kp4 (L:=(cI l).set k2 (x:Int)++[v0]) (by rw[ae,EX];rfl) (.inl (by rw[D2,EF,cl,Ed];omega))
 refine⟨_,rfl,_,_,rfl,rfl,(by show(0:Int)<1000000007;decide),_,_,rfl,rfl,.inr ⟨by decide,by decide⟩,_,_,rfl,rfl,(by show(0:Int)<2147483629;decide),?_⟩
 have o0:(0:Int)<=c%1000000007*16807%2147483629:=Fd _ (by decide)
 obtain⟨X,hX⟩:∃ X:Nat,c%1000000007*16807%2147483629=(X:Int):=⟨(c%1000000007*16807%2147483629).toNat,by omega⟩
 show oG 3 (V.int (c%1000000007*16807%2147483629)) _ _ _
 rw[hX]
 refine⟨_,rfl,_,_,rfl,rfl,(by decide:(0:Int)<6),?_⟩
 obtain⟨p,hpl,ep⟩:∃ p:Nat,p<m/\(X:Int)/6%(xs.length:Int)=(p:Int):=⟨X/6%m,GQ _ (by omega),by rw[xl,show(X:Int)/6=((X/6:Nat):Int) by omega,← F4]⟩
 obtain⟨l,hl⟩:∃ l,ts[p]?=some l:=⟨_,D1 (by omega)⟩
 obtain⟨r,a1,a2⟩:=hR.2 p l hl
 refine⟨_,rfl,_,rfl,_,_,rfl,rfl,⟨by decide,by decide⟩,_,rfl,pt,xs,rfl,.inl (SqL.of hp),_,_,rfl,rfl,(by show(0:Int)<(xs.length:Int);omega),pt,xs,_,_,rfl,rfl,SqL.of hp,(by show atI xs ((X:Int)/6%(xs.length:Int))=_;rw[ep];exact aJ a1),?_⟩
 refine⟨_,rfl,_,_,rfl,rfl,⟨by decide,by decide⟩,_,rfl,pt,xs,rfl,.inl (SqL.of hp),_,_,rfl,rfl,⟨by show(0:Int)<(xs.length:Int);omega,by show(xs.length:Int)<_;omega +splitDisjunctions⟩,?_⟩
 obtain⟨y,hy⟩:∃ y:Nat,(X:Int)/6/(xs.length:Int)=(y:Int):=⟨X/6/m,by rw[xl,show(X:Int)/6=((X/6:Nat):Int) by omega,← Hj]⟩
 show oG 6 (V.int ((X:Int)/6/(xs.length:Int))) _ _ _
 rw[hy]
 refine⟨_,rfl,_,rfl,_,_,rfl,rfl,_,_,rfl,rfl,(by show(0:Int)<(es.length:Int)+2;omega),_,_,rfl,rfl,?_⟩
 exact⟨r,p,y,_,_,l,_,_,rfl,rfl,a1,hl,a2,fun _=>kk⟩
end
end K8
namespace K8
open PySem L2
local macro_rules | `(tactic| walk_at "cc") => `(tactic| first | exact ⟨by decide, by decide⟩ | (show (0 : Int) < _; decide) | (show (0 : Int) < _; omega) | (show (0 : Int) ≤ _; omega) | exact ⟨by decide, by decide, by decide⟩ | exact ⟨by omega, by omega, by decide⟩ | exact Or.inl ⟨by decide, by decide⟩ | exact Or.inl ⟨by omega, by omega⟩)
local macro_rules | `(tactic| walk_at "rd") => `(tactic| repeat (first | refine ⟨_, rfl, ?_⟩ | refine ⟨_, _, rfl, rfl, ?_⟩ | refine ⟨rfl, ?_⟩ | (refine ⟨?cc, ?_⟩; (case cc => walk_at "cc"))))
structure MakD(P:Program)(w:World)(K:D5)(mg:Str->Option Value)(base:Heap)(k:Nat)(x:Str)(ps:List Str)(sp:Sp)(C f:Addr)(fd:FuncData):Prop where
 mkc:Mk K C f
 ok:FnOk P w K mg base (CXd P w) k f fd ps sp
 bn:jY K fd ps []
 mg:mg x=some (.ref C)
theorem DG(es:En):flE (flE es)=es:=by
 refine FY fun t=>?_
 by_cases c:t<es.length
 ·have e1:es[t]?=some es[t]:=D1 c
  rw[iS (iS e1),e1]
  by_cases z:t%2=1
  ·rw[if_pos z,if_pos z]
  ·rw[if_neg z,if_neg z]
 ·rw[Fj (by rw[dP,dP];omega),Fj (by omega)]
theorem flE_mt{m:Nat}{es:En}{js:List (List Int)}(h:Mt m (flE es) js):Mt m es js:=by
 obtain⟨rows,w,k⟩:=h
 have:=qQ w
 rw[DG]at this
 exact⟨rows,this,k⟩
theorem BV{m:Nat}{es:En}(h:∀ e∈es,e.1<m/\e.2<m/\e.1≠e.2):∀ e∈flE es,e.1<m/\e.2<m:=fun x hx=>by
 obtain⟨e,he,z | z⟩:=qR hx
 ·rw[z];exact⟨(h e he).1,(h e he).2.1⟩
 ·rw[z];exact⟨(h e he).2.1,(h e he).1⟩
theorem Bf(es:En)(n:Nat):wrE es (-1) n=es:=by
 refine FY fun t=>?_
 by_cases c:t<es.length
 ·have e1:es[t]?=some es[t]:=D1 c
  rw[rL e1,e1,if_neg (by omega)]
 ·rw[Fj (by rw[mv];omega),Fj (by omega)]
theorem zj{m:Nat}{es:En}{wr:Int}{n:Nat}(h:∀ e∈es,e.1<m/\e.2<m/\e.1≠e.2)(mn:m<=n):∀ e∈wrE es wr n,e.1≠e.2:=fun x hx=>by
 obtain⟨t,ht⟩:=EI.mp hx
 have tl:=(DZ.mp ht).1
 rw[mv]at tl
 have e1:es[t]?=some es[t]:=D1 tl
 rw[rL e1]at ht
 have:=h _ (E8 tl)
 cases ht
 show es[t].1≠if(t:Int)=wr then n else es[t].2
 split
 ·omega
 ·exact this.2.2
theorem CG{m:Nat}{es:En}{k n:Nat}(hk:k<es.length)(mn:m<=n):¬ ∀ e∈flE (wrE es (k:Int) n),e.1<m/\e.2<m:=fun h=>by
 have e1:es[k]?=some es[k]:=D1 hk
 have:=h _ (D4 (iS (rL (wr:=(k:Int)) (n:=n) e1)))
 rw[if_pos rfl]at this
 by_cases z:k%2=1
 ·rw[if_pos z]at this
  have:=this.1
  have:n<m:=this
  omega
 ·rw[if_neg z]at this
  have:=this.2
  have:n<m:=this
  omega
structure LS(H:Hp)(pe pt:Addr)(m:Nat)(es:En)(js:List (List Int)):Prop where
 en:∃ ys,H pe=some (.lst ys)/\bJ H ys es
 tu:∃ xs,H pt=some (.lst xs)/\eh H xs js
 ok:∀ e∈es,e.1<m/\e.2<m/\e.1≠e.2
 e0:0<es.length
 few:es.length<=70
 m1:1<=m
 m42:m<=42
 jl:js.length<=50
theorem LS.mono{H H':Hp}{pe pt:Addr}{m:Nat}{es:En}{js:List (List Int)}(h:LS H pe pt m es js)(s:Same H H'):LS H' pe pt m es js:=by
 obtain⟨⟨ys,a,b⟩,⟨xs,c,d⟩,e,f,g,i,j,k⟩:=h
 exact⟨⟨ys,s _ _ a,b.mono s⟩,⟨xs,s _ _ c,d.mono s⟩,e,f,g,i,j,k⟩
inductive Src(m:Nat)(es:En)(js:List (List Int))(due:Nat):Prop
 |bad (n:¬ Mt m es js) (d:due=2)
 |parted (ts:List (List Nat)) (j:js=ts.map cI) (w:aZ m es ts) (p:iX m es) (d:due=3)
 |web (ts rg:List (List Nat)) (j:js=ts.map cI) (g:Gr m es ts) (pt:Part (fol es ts) (2*es.length) rg) (d:due=if m+rg.length=es.length+2 then 0 else 4)
def Cse(m:Nat)(es:En)(js:List (List Int))(due:Nat)(wr:Int):Prop:=(wr = -1/\Src m es js due)∨∃ k:Nat,wr=(k:Int)/\k<es.length/\due=1
def rLA:TS:=fun D σ H=>∃(pe pt:Addr)(m:Nat)(es:En)(js:List (List Int))(due:Nat)(sp c:Int)(v0 v1 v2 v3:Option V),σ = [v0,v1,v2,v3,some (.ref pe),some (.ref pt),some (.int (m:Int)),some (.int (due:Int)),some (.int sp),some (.int c),none,none,none,none,none,none]/\LS H pe pt m es js/\Src m es js due/\∀ H',D.rt (.bl true) H'
def rLB:TS:=fun D σ H=>∃(pe pt:Addr)(m:Nat)(es:En)(js:List (List Int))(due:Nat)(sp c wr:Int)(v0 v1 v2 v3:Option V),σ = [v0,v1,v2,v3,some (.ref pe),some (.ref pt),some (.int (m:Int)),some (.int (due:Int)),some (.int sp),some (.int c),some (.int wr),none,none,none,none,none]/\LS H pe pt m es js/\Cse m es js due wr/\∀ H',D.rt (.bl true) H'
def rLF(K:D5):TS:=fun D σ H=>∃(pe pt tq hq:Addr)(m n:Nat)(es:En)(js:List (List Int))(us hs:List V)(due:Nat)(wr:Int)(v0 v1 v2 v3 v8 v9 v10:Option V),σ = [v0,v1,v2,v3,some (.ref pe),some (.ref pt),some (.int (m:Int)),some (.int (due:Int)),v8,v9,v10,some (.ref tq),some (.ref hq),none,none,none]/\LS H pe pt m es js/\Cse m es js due wr/\m<=n/\H tq=some (.lst us)/\bF K H us (flE (wrE es wr n))/\H hq=some (.lst hs)/\eh H hs js/\∀ H',D.rt (.bl true) H'
def rLC(K:D5)(FE BT BU BP NF WC:Addr):TS:=fun D σ H=>∃(pe pt tq hq:Addr)(m:Nat)(es:En)(js:List (List Int))(us hs:List V)(due:Nat)(fo we v0 v1 v2 v3 v8 v9 v10:Option V),σ = [v0,v1,v2,v3,some (.ref pe),some (.ref pt),some (.int (m:Int)),some (.int (due:Int)),v8,v9,v10,some (.ref tq),some (.ref hq),fo,we,none]/\LS H pe pt m es js/\H tq=some (.lst us)/\us.length=es.length/\H hq=some (.lst hs)/\eh H hs js/\((∃ x c,fo=some (.ref x)/\H x=some (excD x c none)/\KdF K c FE BT BU BP NF due/\0<due)∨(fo=some .non/\due=0/\∃ p dx fs q z,we=some (.ref p)/\H p=some (.ins WC dx fs)/\fs.lookup ("many" : Str)=some (.int (m:Int))/\fs.lookup ("rounds" : Str)=some (.ref q)/\H q=some (.lst z)/\m+z.length=es.length+2))/\∀ H',D.rt (.bl true) H'
def pO(K:D5):Sp:=fun vs H Q _=>∃(a:Addr)(ns:List Int),vs = [.ref a]/\SqL K H a (ns.map V.int)/\ns.length<=63/\∀ H',Q (.bl true) H'
section
variable{P:Program}{w:World}{K:D5}{mg:Str->Option Value}{base:Heap}
theorem cm:aY ["script","way","based","built","ends","turns","many","due","spoil","cell","wrong","ties","handed","found","web","e"] ["script"] (au qa):=⟨rfl,rfl,rfl,by decide +kernel,rfl,by decide +kernel,by decide +kernel⟩
theorem ok_law{f f1 f2 f3 f4 f5 f6 fW BT BU BP NF FE WC:Addr}{fd d1 d2 d3 d4 d5 d6 dW:FuncData} (F:Fun K "law" "law" qa f fd) (T:TxtH mg BT BU BP NF FE) (ecF:ExC K FE) (uT:EY K BT (.ref FE)=some true) (uU:EY K BU (.ref FE)=some true) (uP:EY K BP (.ref FE)=some true) (uN:EY K NF (.ref FE)=some true) (kT:KdF K BT FE BT BU BP NF 1) (kU:KdF K BU FE BT BU BP NF 2) (kP:KdF K BP FE BT BU BP NF 3) (kN:KdF K NF FE BT BU BP NF 4) (cw:CW K WC) (G_law_cell:Cal P w K mg base 1 "_law_cell" ["script","k"] (xc K) f1 d1) (G_law_base:Cal P w K mg base 4 "_law_base" ["script","way"] (zE K) f2 d2) (G_law_renumbered:Cal P w K mg base 2 "_law_renumbered" ["grown","cell"] zy f3 d3) (G_law_spoil:Cal P w K mg base 1 "_law_spoil" ["turns","many","cell"] pL f4 d4) (G_law_ties:Cal P w K mg base 3 "_law_ties" ["ends","wrong","end"] (uz K) f5 d5) (G_law_refused:Cal P w K mg base 1 "_law_refused" ["error","due"] (zA K FE BT BU BP NF) f6 d6) (M_Web:MakD P w K mg base 5 "Web" ["self","many","ties","turns"] (uq K BT BU BP NF) WC fW dW):FnOk P w K mg base CX0 8 f fd ["script"] (pO K):=by
 have hCs:∀ x,(x=BT∨x=BU∨x=BP∨x=NF)->EY K x (.ref FE)=some true:=fun x e=>by
  rcases e with e | e | e | e<;>subst e<;>assumption
 refine F.ok cm (fun vs H Q E h=>?_) (fun cdv A outer s H vs Q E hr h=>?_)
 ·obtain⟨a,ns,rfl,_⟩:=h
  rfl
 obtain⟨a,ns,rfl,hS,h63,kq⟩:=h
 have hu64:=hr.units
 refine⟨_,(af (aw (i:=1) cm.nd rfl (Or.inl rfl) (ao aT (aI G_law_cell.ok (hr.mono (by decide)) rfl G_law_cell.mg G_law_cell.kp G_law_cell.bn .nil bz (aa (pv 0) (aa ag ah))) ag))
   (af (aw (i:=2) cm.nd rfl (Or.inl rfl) (aI G_law_base.ok (hr.mono (by decide)) rfl G_law_base.mg G_law_base.kp G_law_base.bn .nil bz (aa (pv 0) (aa (pv 1) ah))))
   (af (aw (i:=3) cm.nd rfl (Or.inl rfl) (aI G_law_renumbered.ok (hr.mono (by decide)) rfl G_law_renumbered.mg G_law_renumbered.kp G_law_renumbered.bn .nil bz (aa (aN bg (pv 2) ag (fun _ _=>rfl)) (aa (aI G_law_cell.ok (hr.mono (by decide)) rfl G_law_cell.mg G_law_cell.kp G_law_cell.bn .nil bz (aa (pv 0) (aa ag ah))) ah))))
   (af (aw (i:=4) cm.nd rfl (Or.inl rfl) (aN bg (pv 3) ag (fun _ _=>rfl)))
   (af (aw (i:=5) cm.nd rfl (Or.inl rfl) (aN bg (pv 3) ag (fun _ _=>rfl)))
   (af (aw (i:=6) cm.nd rfl (Or.inl rfl) (av ak (by rfl) T.n_len aU (aa (pv 5) ah)))
   (af (aw (i:=7) cm.nd rfl (Or.inl rfl) (aN bg (pv 2) ag (fun _ _=>rfl)))
   (af (aw (i:=8) cm.nd rfl (Or.inl rfl) (ao br (pv 1) ag))
   (af (aw (i:=9) cm.nd rfl (Or.inl rfl) (aI G_law_cell.ok (hr.mono (by decide)) rfl G_law_cell.mg G_law_cell.kp G_law_cell.bn .nil bz (aa (pv 0) (aa ag ah))))
   (af (bG (PW.pt (zJ (az cx (pv 8) ag (aF _)) (rX (PW.pt (Ce (az cx (pv 8) ag (aF _)) (zK (az cx (ao aT (pv 9) ag) ag (aF _)))))))) (af (aC (aI G_law_spoil.ok (hr.mono (by decide)) rfl G_law_spoil.mg G_law_spoil.kp G_law_spoil.bn .nil bz (aa (pv 5) (aa (av ak (by rfl) T.n_len aU (aa (pv 4) ah)) (aa (pv 9) ah)))))
   (aj (aw (i:=7) cm.nd rfl (Or.inl rfl) ag))) bf)
   (dB (t2:=rLA) (af (aw (i:=10) cm.nd rfl (Or.inl rfl) (pe_un un_neg ag))
   (af (bG (az cx (pv 8) ag (aF _)) (af (aw (i:=10) cm.nd rfl (Or.inl rfl) (ao aT (ao br (pv 9) ag) (av ak (by rfl) T.n_len aU (aa (pv 4) ah))))
   (aj (aw (i:=7) cm.nd rfl (Or.inl rfl) ag))) bf)
   (dB (t2:=rLB) (af (aw (i:=11) cm.nd rfl (Or.inl rfl) (aI G_law_ties.ok (hr.mono (by decide)) rfl G_law_ties.mg G_law_ties.kp G_law_ties.bn .nil bz (aa (pv 4) (aa (pv 10) (aa (ao aO (pv 6) (ao bD (ao aT (ao br (pv 9) ag) ag) (ao aT (pv 9) ag))) ah)))))
   (af (j8 (i:=12) rfl cm.nd rfl rfl (fr:=[]) (by exact c6.plain (by rfl) (by decide +kernel) (by rfl) (by decide +kernel) (by rfl) (by decide +kernel)) (cu (pv 5)) (fun C ex s H=>(gF (pk (K:=K) rfl) (by rfl) T.n_list nP (aa (pv 0) ah))))
   (dB (t2:=rLF K) (af (aw (i:=13) cm.nd rfl (Or.inl rfl) zT)
   (af (aw (i:=14) cm.nd rfl (Or.inl rfl) zT)
   (af (zL (ie:=15) (Cs:=(fun c=>c=BT∨c=BU∨c=BP∨c=NF)) rfl rfl rfl cm.nd rfl rfl rfl T.g_FloorError ecF hCs (fun pins XE W ws=>(aj (aw (i:=14) cm.nd rfl (Or.inl rfl) (Bs M_Web.mkc M_Web.ok (hr.mono (by decide)) rfl M_Web.mg M_Web.bn .nil ws (C4 rfl) (aa (pv 6) (aa (pv 11) (aa (pv 12) ah))))))) (fun v=>(aj (aw (i:=13) cm.nd rfl (Or.inl rfl) (pv 15)))))
   (dB (t2:=rLC K FE BT BU BP NF WC) (af (bG (PW.pt (zJ (az (op_neD hu64) (pv 12) (pv 5) (aF _)) (rX (az se (av ak (by rfl) T.n_len aU (aa (pv 11) ah)) (av ak (by rfl) T.n_len aU (aa (pv 4) ah)) (aF _))))) (aj (bQ De)) bf)
   (af (bG (az op_gt (pv 7) ag (aF _)) (aj (bQ (aI G_law_refused.ok (hr.mono (by decide)) rfl G_law_refused.mg G_law_refused.kp G_law_refused.bn .nil bz (aa (pv 13) (aa (pv 7) ah))))) bf)
   (aj (bQ (Cj (gE op_isN (pv 13) zT (aF _)) (Cj (gE cx (iQ (pv 14) rfl) (pv 6) (aF _)) (pe_one (gE cx (av ak (by rfl) T.n_len aU (aa (iQ (pv 14) rfl) ah)) (ao aO (ao lB ag (pv 6)) (av ak (by rfl) T.n_len aU (aa (pv 4) ah))) (aF _))))))))) (fun D0 S0 H0 h0=>?restC))))) (fun D0 S0 H0 h0=>?restF)))) (fun D0 S0 H0 h0=>?restB)))) (fun D0 S0 H0 h0=>?restA)))))))))))),?_⟩
 case restA =>
  obtain⟨pe,pt,m,es,js,due,sp,c,v0,v1,v2,v3,rfl,ls,src,kq⟩:=h0
  obtain⟨ys,hpe,hE⟩:=ls.en
  have yl:ys.length=es.length:=hE.1
  have e0:=ls.e0
  refine⟨_,rfl,?_⟩
  refine⟨_,rfl,rfl,_,rfl,ite2 (fun z=>?_) (fun z=>?_)⟩
  ·obtain⟨k,ek,kl⟩:∃ k:Nat,c/2%(ys.length:Int)=(k:Int)/\k<es.length:=by
    have h1:=Fd (c/2) (show(ys.length:Int)≠0 by omega +splitDisjunctions)
    have h2:=Fe (c/2) (show(0:Int)<(ys.length:Int) by omega +splitDisjunctions)
    exact⟨(c/2%(ys.length:Int)).toNat,by omega +splitDisjunctions,by omega +splitDisjunctions⟩
   refine⟨_,rfl,_,_,rfl,rfl,⟨by decide,by decide⟩,_,rfl,pe,ys,rfl,.inl (SqL.of hpe),_,_,rfl,rfl,(by show(0:Int)<(ys.length:Int);omega +splitDisjunctions),?_⟩
   exact⟨pe,pt,m,es,js,1,sp,c,_,_,_,_,_,rfl,ls,.inr ⟨k,ek,kl,rfl⟩,kq⟩
  ·exact⟨pe,pt,m,es,js,due,sp,c,-1,_,_,_,_,rfl,ls,.inl ⟨rfl,src⟩,kq⟩
 case restB =>
  obtain⟨pe,pt,m,es,js,due,sp,c,wr,v0,v1,v2,v3,rfl,ls,cs,kq⟩:=h0
  obtain⟨ys,hpe,hE⟩:=ls.en
  obtain⟨xs,hpt,hX⟩:=ls.tu
  have jl:=ls.jl
  have xl:xs.length=js.length:=hX.1
  obtain⟨a7,h7⟩:∃ x:Nat,c/7%100=(x:Int):=⟨(c/7%100).toNat,by omega +splitDisjunctions⟩
  obtain⟨a3,h3⟩:∃ x:Nat,c%3=(x:Int):=⟨(c%3).toNat,by omega +splitDisjunctions⟩
  have en:(m:Int)+c/7%100*(c%3)=((m+a7*a3:Nat):Int):=by rw[h7,h3,Int.natCast_add,Int.natCast_mul]
  refine⟨_,rfl,_,rfl,_,rfl,_,rfl,_,_,rfl,rfl,⟨by decide,by decide⟩,_,_,rfl,rfl,(by decide:(0:Int)<100),_,rfl,_,_,rfl,rfl,(by decide:(0:Int)<3),_,_,rfl,rfl,.inl ⟨by show -(2^64:Int)<c/7%100;omega +splitDisjunctions,by show c/7%100<(2^64:Int);omega +splitDisjunctions⟩,_,_,rfl,rfl,pe,ys,es,wr,m+a7*a3,(by show[V.ref pe,V.int wr,V.int ((m:Int)+c/7%100*(c%3))]=_;rw[en]),hpe,hE,ls.few,zj ls.ok (Nat.le_add_right _ _),fun q us H1 s1 hq tt=>?_⟩
  have hX1:=hX.mono s1
  refine⟨_,rfl,pt,rfl,⟨_,SqL.of (s1 _ _ hpt)⟩,eU (K:=K) (xs:=xs) (fun i hs H2=>Same H1 H2/\eh H2 hs (js.take i)) (ER (ar (by omega +splitDisjunctions))) ⟨fun _ _ e=>e,rfl,fun i l e=>by simp at e⟩ (fun i hs H2 _ z=>SqL.of (z.1 _ _ (s1 _ _ hpt))) ?_ ?_⟩
  ·rintro i x hs H2 hx ⟨s2,hI⟩
   have hi:i<js.length:=by rw[← xl];exact(DZ.mp hx).1
   obtain⟨l,hl⟩:∃ l,js[i]?=some l:=⟨_,D1 hi⟩
   obtain⟨p,b1,b2⟩:=(hX1.mono s2).2 i l hl
   rw[hx]at b1
   cases b1
   refine⟨_,rfl,p,_,rfl,.inl (SqL.of b2),fun g hg=>?_⟩
   have s3:=ai hg (.lst (l.map V.int))
   refine⟨s2.trans s3,?_⟩
   rw[EV,hl]
   exact(hI.mono s3).snoc ae
  rintro hs H2 _ ⟨s2,hI⟩ D hD
  rw[xl,Fb]at hI
  have sD:=ai hD (.lst hs)
  have s12:=s2.trans sD
  exact⟨pe,pt,q,D,m,m+a7*a3,es,js,us,hs,due,wr,_,_,_,_,_,_,_,rfl,ls.mono (s1.trans s12),cs,Nat.le_add_right _ _,s12 _ _ hq,tt.mono s12,ae,hI.mono sD,kq⟩
 case restF =>
  obtain⟨pe,pt,tq,hq,m,n,es,js,us,hs,due,wr,v0,v1,v2,v3,v8,v9,v10,rfl,ls,cs,mn,htq,tt,hhq,hJ,kq⟩:=h0
  have ul:us.length=es.length:=by rw[tt.1,dP,mv]
  refine⟨_,rfl,_,rfl,_,rfl,?_⟩
  intro x dx nx ndx nex
  have up:Same H0 (upd (upd H0 dx (.own x)) x (.ins WC dx [])):=fun b o z=>by rw[aq (ay z nx),aq (ay z ndx)];exact z
  have flen:(flE (wrE es wr n)).length=es.length:=by rw[dP,mv]
  have few:=ls.few
  have jl:=ls.jl
  refine⟨x,WC,dx,tq,hq,m,us,hs,flE (wrE es wr n),js,rfl,ae,cw,up _ _ htq,tt.mono up,up _ _ hhq,hJ.mono up,fun e he=>?_,ls.m1,ls.m42,by omega +splitDisjunctions,by omega +splitDisjunctions,?_⟩
  ·obtain⟨e',he',z | z⟩:=qR he
   ·rw[z];exact zj ls.ok mn e' he'
   ·rw[z];exact Ne.symm (zj ls.ok mn e' he')
  have err:∀(c:Addr),KdF K c FE BT BU BP NF due->0<due->∀(H1:Hp),Same (upd (upd H0 dx (.own x)) x (.ins WC dx [])) H1->∀(y:Addr),H1 y=none->rLC K FE BT BU BP NF WC D0 [v0,v1,v2,v3,some (.ref pe),some (.ref pt),some (.int (m:Int)),some (.int (due:Int)),v8,v9,v10,some (.ref tq),some (.ref hq),some (.ref y),some .non,none] (upd H1 y (excD y c none)):=fun c kd pos H1 s1 y hy=>by
   have s2:=up.trans (s1.trans (ai hy (excD y c none)))
   exact⟨pe,pt,tq,hq,m,es,js,us,hs,due,_,_,_,_,_,_,_,_,_,rfl,ls.mono s2,s2 _ _ htq,ul,s2 _ _ hhq,hJ.mono s2,.inl ⟨y,c,rfl,ae,kd,pos⟩,kq⟩
  rcases cs with⟨rfl,src⟩ | ⟨k,rfl,kl,d1⟩
  rotate_left
  ·subst d1
   exact .ends (CG kl mn) fun H1 s1=>⟨BT,rfl,.inl rfl,fun y hy=>⟨_,rfl,err BT kT (by decide) H1 s1 y hy⟩⟩
  rw[Bf]
  cases src with
  |bad nm d =>
   subst d
   exact .turns (BV ls.ok) (fun z=>nm (flE_mt z)) fun H1 s1=>⟨BU,rfl,.inr (.inl rfl),fun y hy=>⟨_,rfl,err BU kU (by decide) H1 s1 y hy⟩⟩
  |parted ts j w' pr d =>
   subst d
   exact .parted ts j (qQ w') (yK pr) fun H1 s1=>⟨BP,rfl,.inr (.inr (.inl rfl)),fun y hy=>⟨_,rfl,err BP kP (by decide) H1 s1 y hy⟩⟩
  |web ts rg j g pt' d =>
   refine .web ts (rg.map (FF fD)) j (flE_gr g) (BS g.w pt') (fun nf H1 s1=>?_) fun fl fs q z H1 hp lm lr hq' zl kp=>⟨rfl,?_⟩
   ·rw[D3,dP]at nf
    rw[if_neg nf]at d
    subst d
    exact⟨NF,rfl,.inr (.inr (.inr rfl)),fun y hy=>⟨_,rfl,err NF kN (by decide) H1 s1 y hy⟩⟩
   ·rw[D3]at zl
    rw[D3,dP]at fl
    rw[if_pos fl]at d
    subst d
    have s2:Same H0 H1:=fun b o y=>kp b o (up _ _ y) (ay y nx)
    exact⟨pe,pt,tq,hq,m,es,js,us,hs,0,_,_,_,_,_,_,_,_,_,rfl,ls.mono s2,s2 _ _ htq,ul,s2 _ _ hhq,hJ.mono s2,.inr ⟨rfl,rfl,x,dx,fs,q,z,rfl,hp,lm,lr,hq',by omega +splitDisjunctions⟩,kq⟩
 case restC =>
  obtain⟨pe,pt,tq,hq,m,es,js,us,hs,due,fo,we,v0,v1,v2,v3,v8,v9,v10,rfl,ls,htq,ul,hhq,hJ,cs,kq⟩:=h0
  obtain⟨ys,hpe,hE⟩:=ls.en
  obtain⟨xs,hpt,hX⟩:=ls.tu
  have yl:ys.length=es.length:=hE.1
  refine⟨_,rfl,_,rfl,dI js,eh.rd (SqL.of hhq) hJ,eh.rd (SqL.of hpt) hX,nz _,_,rfl,iteF ?_⟩
  refine⟨_,rfl,tq,us,rfl,.inl (SqL.of htq),_,rfl,pe,ys,rfl,.inl (SqL.of hpe),rfl,_,rfl,iteNS (congrArg V.int (by omega +splitDisjunctions)) ?_⟩
  refine⟨_,rfl,_,_,rfl,rfl,_,rfl,ite2 (fun z=>?_) (fun z=>?_)⟩
  ·rcases cs with⟨x,c,rfl,hx,kd,_⟩ | ⟨_,d0,_⟩
   ·exact⟨_,rfl,_,rfl,x,c,none,due,rfl,hx,kd,fun H'=>kq H'⟩
   ·have:=of_decide_eq_true z
    omega +splitDisjunctions
  ·rcases cs with⟨x,c,rfl,hx,kd,pos⟩ | ⟨rfl,d0,p,dx,fs,q,z',rfl,hp,lm,lr,hq',cnt⟩
   ·exact absurd (decide_eq_true (by omega +splitDisjunctions)) z
   ·refine⟨_,rfl,rfl,_,rfl,ite2 (fun _=>?_) (fun z=>absurd (decide_eq_true rfl) z)⟩
    refine⟨_,rfl,p,WC,dx,fs,_,rfl,hp,cw.cl,cw.n1,lm,_,rfl,rfl,_,rfl,ite2 (fun _=>?_) (fun z=>absurd (decide_eq_true rfl) z)⟩
    refine⟨_,rfl,p,WC,dx,fs,_,rfl,hp,cw.cl,cw.n4,lr,q,z',rfl,.inl (SqL.of hq'),_,rfl,_,_,rfl,rfl,_,rfl,pe,ys,rfl,.inl (SqL.of hpe),_,_,rfl,rfl,rfl,?_⟩
    show D0.rt (.bl (decide (V.int (z'.length:Int)=V.int (2-(m:Int)+(ys.length:Int))))) _
    rw[decide_eq_true (congrArg V.int (by omega +splitDisjunctions))]
    exact kq _
 refine⟨_,rfl,a,0,ns,rfl,hS,_,_,rfl,rfl,(by decide:(0:Int)<48),?_⟩
 refine⟨_,rfl,_,rfl,a,ns,_,rfl,hS,h63,fun tt t pe pt pr m es ts rg due H1 s1 htt ht wp rp b1 b2 e0 few m1 m42 out=>?_⟩
 refine⟨_,rfl,tt,_,0,_,rfl,rfl,SqT.of htt,at0,_,rfl,a,2,ns,rfl,s1.seq hS,t,pe,pt,pr,_,m,es,ts,rg,rfl,ht,wp,rp,b1,b2,by omega +splitDisjunctions,few,fun t' pe' pt' pr' es' ts' π σ' H2 s2 ht' wp' R=>?_⟩
 obtain⟨⟨ys',hpe',hE'⟩,⟨xs',hpt',hR'⟩,w'⟩:=wp'
 have wo:=wp.w
 have l1:=R.l1
 have yl':ys'.length=es'.length:=hE'.1
 have xl':xs'.length=m:=by rw[hR'.1,w'.len]
 have e0':0<es'.length:=by omega +splitDisjunctions
 have ls:LS H2 pe' pt' m es' (ts'.map cI):=⟨⟨ys',hpe',hE'⟩,⟨xs',hpt',by rw[D3];exact hR'.1,fun i l e=>by
  rw[D9]at e
  obtain⟨r,hr',rfl⟩:=EO.mp e
  obtain⟨q,b1,b2⟩:=hR'.2 i r hr'
  exact⟨q,b1,by rw[cI_V];exact b2⟩⟩,fun e he=>w'.ends e he,e0',by omega +splitDisjunctions,m1,m42,by rw[D3,w'.len];omega +splitDisjunctions⟩
 obtain⟨dn,rfl,src⟩:∃ dn:Nat,due=(dn:Int)/\Src m es' (ts'.map cI) dn:=by
  rcases out with⟨d,pr'⟩ | ⟨g,part,d⟩
  ·exact⟨3,d,.parted ts' rfl w' (R.parted wo pr') rfl⟩
  ·refine⟨if m+rg.length=es.length+2 then 0 else 4,by rw[d];split<;>rfl,.web ts' (rg.map (FF (Phi σ'))) rfl (R.gr g) (Br R wo part) (by rw[D3,l1])⟩
 refine⟨_,rfl,t',_,0,_,rfl,rfl,SqT.of ht',at30,?_⟩
 refine⟨_,rfl,t',_,1,_,rfl,rfl,SqT.of ht',at31,?_⟩
 refine⟨_,rfl,pt',xs',rfl,.inl (SqL.of hpt'),?_⟩
 show oG 6 (V.int (xs'.length:Int)) _ _ _
 rw[xl']
 refine⟨_,rfl,tt,_,1,_,rfl,rfl,SqT.of (s2 _ _ htt),at1,?_⟩
 refine⟨_,rfl,_,_,rfl,rfl,⟨by decide,by decide⟩,?_⟩
 refine⟨_,rfl,a,1,ns,rfl,(s1.trans s2).seq hS,?_⟩
 obtain⟨re,hre⟩:=hE'.ref e0'
 obtain⟨rt,hrt⟩:=hR'.ref (by rw[w'.len];exact m1)
 have npp:pe'≠pt':=fun z=>by
  rw[z,hpt']at hpe'
  have e:xs'=ys':=by injection hpe' with e;injection e
  obtain⟨p1,c1,c2⟩:=hE'.2 0 _ (D1 e0')
  obtain⟨p2,c3,c4⟩:=hR'.2 0 _ (D1 (by rw[w'.len];exact m1))
  rw[e,c1]at c3
  cases c3
  rw[c2]at c4
  cases c4
 have ls3:∀(xs2:List V)(js:List (List Int))(H3:Hp),(∀ q o,H2 q=some o->(∀ l:List Nat,o≠.lst (l.map iV))->q≠pt'->H3 q=some o)->H3 pt'=some (.lst xs2)->eh H3 xs2 js->js.length<=50->LS H3 pe' pt' m es' js:=fun xs2 js H3 kp h3 hI jl=>by
  refine⟨⟨ys',kp _ _ hpe' (fun l z=>?_) npp,hE'.1,fun i e he=>?_⟩,⟨xs2,h3,hI⟩,ls.ok,e0',ls.few,m1,m42,jl⟩
  ·have e:ys'=l.map iV:=by injection z
   rw[e,D9]at hre
   cases y:l[0]? with
   |none=>rw[y]at hre;cases hre
   |some n=>rw[y]at hre;cases hre
  ·obtain⟨p,c1,c2⟩:=hE'.2 i e he
   exact⟨p,c1,kp _ _ c2 (fun l z=>by cases z) (fun z=>by rw[z,hpt']at c2;cases c2)⟩
 have kq':∀ H',Q (.bl true) H':=kq
 refine⟨_,rfl,rfl,_,rfl,ite2 (fun z=>?_) (fun z=>?_)⟩
 ·refine iteT ⟨_,rfl,_,rfl,pe',ys',rfl,.inl (SqL.of hpe'),_,rfl,pt',xs',_,m,es',ts',(by rw[yl'];rfl),hpt',hR',w',by omega +splitDisjunctions,m1,m42,fun xs2 js H3 kp h3 hI nm jl=>?_⟩
  exact⟨pe',pt',m,es',js,2,_,_,_,_,_,_,rfl,ls3 xs2 js H3 kp h3 hI jl,.bad nm rfl,kq'⟩
 refine⟨_,rfl,rfl,_,rfl,ite2 (fun z=>?_) (fun z=>?_)⟩
 ·refine⟨_,rfl,_,_,rfl,rfl,(by decide:(0:Int)<2),rfl,_,rfl,ite2 (fun z=>?_) (fun z=>?_)⟩
  ·refine⟨_,rfl,_,rfl,pe',ys',rfl,.inl (SqL.of hpe'),_,rfl,pt',xs',_,m,es',ts',(by rw[yl'];rfl),hpt',hR',w',by omega +splitDisjunctions,m1,m42,fun xs2 js H3 kp h3 hI nm jl=>?_⟩
   exact⟨pe',pt',m,es',js,2,_,_,_,_,_,_,rfl,ls3 xs2 js H3 kp h3 hI jl,.bad nm rfl,kq'⟩
  ·exact⟨pe',pt',m,es',_,dn,_,_,_,_,_,_,rfl,ls,src,kq'⟩
 ·exact iteF ⟨pe',pt',m,es',_,dn,_,_,_,_,_,_,rfl,ls,src,kq'⟩
end
end K8
namespace K8
open PySem L2
theorem all_mk{l:Hl}{w:World}{K:D5}{h:Heap}{mg:Str->Option Value}{fa aM aL ax aK aB fN fM jD xF jO iN fi gc iG jN d8 dv cZ dA bE iK jP iI gg gf cp iL iJ fj eg gd fk iM iH d9 DH:Addr}(X:K.In h)(G:h.Ns mainGlobals mg) (hfa:mg "law" = some (.ref fa))
  {Dr DW yh zc vj wO qm rF sf tU vc wH yg y9 ot oR mJ nS lS lZ qq rJ qu rK vg wL yi ze ve wJ sk tZ sj tW kc k8 vh wM vf wK qo rG ow oU sh tV qp rH vi wN vd wI ou oS od_law Cy:Option Addr} {CP xR uH pU rR uA xQ oh mD lP pX pY uE xS uC rV rT j7 uF uD pV oj rS pW uG uB oi sl_law:Array (Option Value)} {Dt DB DQ Dc AY DS yk yH yN xY ph yQ vv vO wc u4 nL wx qv qH qV qd jQ q8 so sP sZ rY lF tE vk vH vV uR nE wg yj yG yM xX pf yP ox oB oJ om iT oN mK mW nv mH gW nA lT lV lW lR gz lX qy qK qY qi jT rh qz qL qZ qj jU rj vp vL vZ uX nI wq ym yI yO xZ pj yR vn vJ vX uV nG wk sv sS tD r8 lI tH su sR tw r6 lH tG kg kE kK j9 fK kL vq vM wa uY nJ wt vo vK vY uW nH wm qw qI qW qf jR ra oz oF oM oq iW oP sq sQ tj rZ lG tF qx qJ qX qg jS rf vt vN wb uZ nK wu vm vI vW uS nF wj oy oE oK oo iU oO oc_law Cn Cu Ci AX Cv:Value}
  (gu:Eo K mainGlobals "FloorError" = some (some (.ref aM)))
  (nY:Eo K mainGlobals "BadTie" = some (some (.ref aL)))
  (jC:Eo K mainGlobals "BadTurns" = some (some (.ref ax)))
  (nX:Eo K mainGlobals "Parted" = some (some (.ref aK)))
  (lz:Eo K mainGlobals "NotFlat" = some (some (.ref aB)))
  (wR:Eo K mainGlobals "Pull" = some (some (.ref fN)))
  (wQ:Eo K mainGlobals "Push" = some (some (.ref fM)))
  (Ba:Eo K mainGlobals "Web" = some (some (.ref jD)))
  (gK:Em K (.ref fN) "__init__" = some (some (.ref bE)))
  (gJ:Em K (.ref fM) "__init__" = some (some (.ref bE)))
  (jg:Em K (.ref jD) "__init__" = some (some (.ref dA)))
  (A9:Eo K mainGlobals "head" = some (some (.ref xF)))
  (Al:K.lookup xF=some ⟨Dt,Dr,.func (EH "head" "head" (aV oZ) (aR oZ) (au oZ) .none DB DQ Dc DW AY DS),CP⟩)
  (A3:Ez K AY "head" = true)
  (k_head:Ep K (.ref xF)=true)
  (nV:Eo K mainGlobals "leaving" = some (some (.ref jO)))
  (mT:K.lookup jO=some ⟨yk,yh,.func (EH "leaving" "leaving" (aV fG) (aR fG) (au fG) .none yH yN xY zc ph yQ),xR⟩)
  (nN:Ez K ph "leaving" = true)
  (jK:Ep K (.ref jO)=true)
  (ly:Eo K mainGlobals "follower" = some (some (.ref iN)))
  (kD:K.lookup iN=some ⟨vv,vj,.func (EH "follower" "follower" (aV eJ) (aR eJ) (au eJ) .none vO wc u4 wO nL wx),uH⟩)
  (kZ:Ez K nL "follower" = true)
  (iF:Ep K (.ref iN)=true)
  (hV:Eo K mainGlobals "round_from" = some (some (.ref fi)))
  (gL:K.lookup fi=some ⟨qv,qm,.func (EH "round_from" "round_from" (aV cG) (aR cG) (au cG) .none qH qV qd rF jQ q8),pU⟩)
  (gZ:Ez K jQ "round_from" = true)
  (eY:Ep K (.ref fi)=true)
  (jy:Eo K mainGlobals "rounds_of" = some (some (.ref gc)))
  (jh:K.lookup gc=some ⟨so,sf,.func (EH "rounds_of" "rounds_of" (aV c8) (aR c8) (au c8) .none sP sZ rY tU lF tE),rR⟩)
  (ju:Ez K lF "rounds_of" = true)
  (fY:Ep K (.ref gc)=true)
  (k9:Eo K mainGlobals "sides_of" = some (some (.ref iG)))
  (ko:K.lookup iG=some ⟨vk,vc,.func (EH "sides_of" "sides_of" (aV eu) (aR eu) (au eu) .none vH vV uR wH nE wg),uA⟩)
  (kM:Ez K nE "sides_of" = true)
  (iy:Ep K (.ref iG)=true)
  (nU:Eo K mainGlobals "reached" = some (some (.ref jN)))
  (mS:K.lookup jN=some ⟨yj,yg,.func (EH "reached" "reached" (aV fF) (aR fF) (au fF) .none yG yM xX y9 pf yP),xQ⟩)
  (nM:Ez K pf "reached" = true)
  (jJ:Ep K (.ref jN)=true)
  (gp:Eo K mainGlobals "refuse_ends" = some (some (.ref d8)))
  (fU:K.lookup d8=some ⟨ox,ot,.func (EH "refuse_ends" "refuse_ends" (aV bV) (aR bV) (au bV) .none oB oJ om oR iT oN),oh⟩)
  (gk:Ez K iT "refuse_ends" = true)
  (dY:Ep K (.ref d8)=true)
  (fB:Eo K mainGlobals "refuse_turns" = some (some (.ref dv)))
  (fw:K.lookup dv=some ⟨mK,mJ,.func (EH "refuse_turns" "refuse_turns" (aV bK) (aR bK) (au bK) .none mW nv mH nS gW nA),mD⟩)
  (fA:Ez K gW "refuse_turns" = true)
  (du:Ep K (.ref dv)=true)
  (eW:Eo K mainGlobals "refuse_parted" = some (some (.ref cZ)))
  (eQ:K.lookup cZ=some ⟨lT,lS,.func (EH "refuse_parted" "refuse_parted" (aV bA) (aR bA) (au bA) .none lV lW lR lZ gz lX),lP⟩)
  (eV:Ez K gz "refuse_parted" = true)
  (cY:Ep K (.ref cZ)=true)
  (gO:K.lookup dA=some ⟨qy,qq,.func (EH "__init__" "Web.__init__" (aV cK) (aR cK) (au cK) .none qK qY qi rJ jT rh),pX⟩)
  (g9:Ez K jT "Web.__init__" = true)
  (gQ:Ep K (.ref dA)=true)
  (gS:PySem.W.isFn K (.ref dA)=true)
  (gP:K.lookup bE=some ⟨qz,qu,.func (EH "__init__" "Tie.__init__" (aV cL) (aR cL) (au cL) .none qL qZ qj rK jU rj),pY⟩)
  (hG:Ez K jU "Tie.__init__" = true)
  (gR:Ep K (.ref bE)=true)
  (fe:PySem.W.isFn K (.ref bE)=true)
  (lp:Eo K mainGlobals "_law_head" = some (some (.ref iK)))
  (kA:K.lookup iK=some ⟨vp,vg,.func (EH "_law_head" "_law_head" (aV eF) (aR eF) (au eF) .none vL vZ uX wL nI wq),uE⟩)
  (kW:Ez K nI "_law_head" = true)
  (iC:Ep K (.ref iK)=true)
  (nW:Eo K mainGlobals "_law_put" = some (some (.ref jP)))
  (mU:K.lookup jP=some ⟨ym,yi,.func (EH "_law_put" "_law_put" (aV fH) (aR fH) (au fH) .none yI yO xZ ze pj yR),xS⟩)
  (nO:Ez K pj "_law_put" = true)
  (jL:Ep K (.ref jP)=true)
  (lh:Eo K mainGlobals "_law_step" = some (some (.ref iI)))
  (kx:K.lookup iI=some ⟨vn,ve,.func (EH "_law_step" "_law_step" (aV eB) (aR eB) (au eB) .none vJ vX uV wJ nG wk),uC⟩)
  (kQ:Ez K nG "_law_step" = true)
  (iA:Ep K (.ref iI)=true)
  (jB:Eo K mainGlobals "_law_grown" = some (some (.ref gg)))
  (jk:K.lookup gg=some ⟨sv,sk,.func (EH "_law_grown" "_law_grown" (aV de) (aR de) (au de) .none sS tD r8 tZ lI tH),rV⟩)
  (jx:Ez K lI "_law_grown" = true)
  (f9:Ep K (.ref gg)=true)
  (jA:Eo K mainGlobals "_law_order" = some (some (.ref gf)))
  (jj:K.lookup gf=some ⟨su,sj,.func (EH "_law_order" "_law_order" (aV da) (aR da) (au da) .none sR tw r6 tW lH tG),rT⟩)
  (jw:Ez K lH "_law_order" = true)
  (f7:Ep K (.ref gf)=true)
  (dR:Eo K mainGlobals "_law_renumbered" = some (some (.ref cp)))
  (dG:K.lookup cp=some ⟨kg,kc,.func (EH "_law_renumbered" "_law_renumbered" (aV bt) (aR bt) (au bt) .none kE kK j9 k8 fK kL),j7⟩)
  (dQ:Ez K fK "_law_renumbered" = true)
  (cn:Ep K (.ref cp)=true)
  (lu:Eo K mainGlobals "_law_cell" = some (some (.ref iL)))
  (kB:K.lookup iL=some ⟨vq,vh,.func (EH "_law_cell" "_law_cell" (aV eG) (aR eG) (au eG) .none vM wa uY wM nJ wt),uF⟩)
  (kX:Ez K nJ "_law_cell" = true)
  (iD:Ep K (.ref iL)=true)
  (lj:Eo K mainGlobals "_law_spot" = some (some (.ref iJ)))
  (kz:K.lookup iJ=some ⟨vo,vf,.func (EH "_law_spot" "_law_spot" (aV eE) (aR eE) (au eE) .none vK vY uW wK nH wm),uD⟩)
  (kS:Ez K nH "_law_spot" = true)
  (iB:Ep K (.ref iJ)=true)
  (ic:Eo K mainGlobals "_law_handle" = some (some (.ref fj)))
  (gM:K.lookup fj=some ⟨qw,qo,.func (EH "_law_handle" "_law_handle" (aV cH) (aR cH) (au cH) .none qI qW qf rG jR ra),pV⟩)
  (g7:Ez K jR "_law_handle" = true)
  (eZ:Ep K (.ref fj)=true)
  (gs:Eo K mainGlobals "_law_handles" = some (some (.ref eg)))
  (fX:K.lookup eg=some ⟨oz,ow,.func (EH "_law_handles" "_law_handles" (aV bX) (aR bX) (au bX) .none oF oM oq oU iW oP),oj⟩)
  (gn:Ez K iW "_law_handles" = true)
  (d7:Ep K (.ref eg)=true)
  (jz:Eo K mainGlobals "_law_spoil" = some (some (.ref gd)))
  (ji:K.lookup gd=some ⟨sq,sh,.func (EH "_law_spoil" "_law_spoil" (aV c9) (aR c9) (au c9) .none sQ tj rZ tV lG tF),rS⟩)
  (jv:Ez K lG "_law_spoil" = true)
  (fZ:Ep K (.ref gd)=true)
  (ig:Eo K mainGlobals "_law_beside" = some (some (.ref fk)))
  (gN:K.lookup fk=some ⟨qx,qp,.func (EH "_law_beside" "_law_beside" (aV cJ) (aR cJ) (au cJ) .none qJ qX qg rH jS rf),pW⟩)
  (g8:Ez K jS "_law_beside" = true)
  (fc:Ep K (.ref fk)=true)
  (lx:Eo K mainGlobals "_law_base" = some (some (.ref iM)))
  (kC:K.lookup iM=some ⟨vt,vi,.func (EH "_law_base" "_law_base" (aV eI) (aR eI) (au eI) .none vN wb uZ wN nK wu),uG⟩)
  (kY:Ez K nK "_law_base" = true)
  (iE:Ep K (.ref iM)=true)
  (lg:Eo K mainGlobals "_law_ties" = some (some (.ref iH)))
  (ku:K.lookup iH=some ⟨vm,vd,.func (EH "_law_ties" "_law_ties" (aV eA) (aR eA) (au eA) .none vI vW uS wI nF wj),uB⟩)
  (kO:Ez K nF "_law_ties" = true)
  (iz:Ep K (.ref iH)=true)
  (gq:Eo K mainGlobals "_law_refused" = some (some (.ref d9)))
  (fV:K.lookup d9=some ⟨oy,ou,.func (EH "_law_refused" "_law_refused" (aV bW) (aR bW) (au bW) .none oE oK oo oS iU oO),oi⟩)
  (gm:Ez K iU "_law_refused" = true)
  (dZ:Ep K (.ref d9)=true)
  (B5:Eo K mainGlobals "law" = some (some (.ref DH)))
  (Dy:K.lookup DH=some ⟨oc_law,od_law,.func (EH "law" "law" (aV qa) (aR qa) (au qa) .none Cn Cu Ci Cy AX Cv),sl_law⟩)
  (DT:Ez K AX "law" = true)
  (DA:Ep K (.ref DH)=true)
  (fO:FT K aM veM "ValueError.__new__" = true)
  (mq:FT K aL veM "ValueError.__new__" = true)
  (cf:EY K aL (.ref aM)=some true)
  (ga_BadTie:Em K (.ref aL) "__getattribute__" = some (some (.builtin "BaseException.__getattribute__")))
  (gt_BadTie:Em K (.ref aL) "__getattr__" = some none)
  (hb_BadTie:EY K aL (.type "BaseException")=some true)
  (m8:E9 K aL=true)
  (ng:Em K (.ref aL) "__class__" = some (some (.builtin "object.__class__")))
  (mZ:EY K aL (.type "object")=some true)
  (ck:Ex K (.ref aL) (.ref aM)=some true)
  (dN:Ex K (.ref aL) (.ref aL)=some true)
  (cX:Ex K (.ref aL) (.ref ax)=some false)
  (dM:Ex K (.ref aL) (.ref aK)=some false)
  (dq:Ex K (.ref aL) (.ref aB)=some false)
  (i3:FT K ax veM "ValueError.__new__" = true)
  (bM:EY K ax (.ref aM)=some true)
  (ga_BadTurns:Em K (.ref ax) "__getattribute__" = some (some (.builtin "BaseException.__getattribute__")))
  (gt_BadTurns:Em K (.ref ax) "__getattr__" = some none)
  (hb_BadTurns:EY K ax (.type "BaseException")=some true)
  (jn:E9 K ax=true)
  (jo:Em K (.ref ax) "__class__" = some (some (.builtin "object.__class__")))
  (jm:EY K ax (.type "object")=some true)
  (bN:Ex K (.ref ax) (.ref aM)=some true)
  (cW:Ex K (.ref ax) (.ref aL)=some false)
  (cj:Ex K (.ref ax) (.ref ax)=some true)
  (cV:Ex K (.ref ax) (.ref aK)=some false)
  (cz:Ex K (.ref ax) (.ref aB)=some false)
  (mm:FT K aK veM "ValueError.__new__" = true)
  (b9:EY K aK (.ref aM)=some true)
  (ga_Parted:Em K (.ref aK) "__getattribute__" = some (some (.builtin "BaseException.__getattribute__")))
  (gt_Parted:Em K (.ref aK) "__getattr__" = some none)
  (hb_Parted:EY K aK (.type "BaseException")=some true)
  (m7:E9 K aK=true)
  (m9:Em K (.ref aK) "__class__" = some (some (.builtin "object.__class__")))
  (mY:EY K aK (.type "object")=some true)
  (cg:Ex K (.ref aK) (.ref aM)=some true)
  (dJ:Ex K (.ref aK) (.ref aL)=some false)
  (cT:Ex K (.ref aK) (.ref ax)=some false)
  (dH:Ex K (.ref aK) (.ref aK)=some true)
  (dg:Ex K (.ref aK) (.ref aB)=some false)
  (jZ:FT K aB veM "ValueError.__new__" = true)
  (bR:EY K aB (.ref aM)=some true)
  (ga_NotFlat:Em K (.ref aB) "__getattribute__" = some (some (.builtin "BaseException.__getattribute__")))
  (gt_NotFlat:Em K (.ref aB) "__getattr__" = some none)
  (hb_NotFlat:EY K aB (.type "BaseException")=some true)
  (kH:E9 K aB=true)
  (kI:Em K (.ref aB) "__class__" = some (some (.builtin "object.__class__")))
  (kG:EY K aB (.type "object")=some true)
  (bT:Ex K (.ref aB) (.ref aM)=some true)
  (dm:Ex K (.ref aB) (.ref aL)=some false)
  (cy:Ex K (.ref aB) (.ref ax)=some false)
  (dj:Ex K (.ref aB) (.ref aK)=some false)
  (cU:Ex K (.ref aB) (.ref aB)=some true)
  (u6:FN K fN Str.empty=true)
  (vS:E9 K fN=true)
  (uQ:FX K fN=true)
  (uL:Em K (.ref fN) "__setattr__" = some (some (.builtin "object.__setattr__")))
  (vx:Gb K fN=true)
  (vG:Ep K (.ref fN)=true)
  (jf:Em K (.ref fN) "one" = some none)
  (je:Em K (.ref fN) "two" = some none)
  (dE:Em K (.ref fN) "strength" = some none)
  (u5:FN K fM Str.empty=true)
  (vR:E9 K fM=true)
  (uO:FX K fM=true)
  (uK:Em K (.ref fM) "__setattr__" = some (some (.builtin "object.__setattr__")))
  (vw:Gb K fM=true)
  (vF:Ep K (.ref fM)=true)
  (jd:Em K (.ref fM) "one" = some none)
  (jc:Em K (.ref fM) "two" = some none)
  (dD:Em K (.ref fM) "strength" = some none)
  (zS:FN K jD Str.empty=true)
  (AB:E9 K jD=true)
  (zP:FX K jD=true)
  (zI:Em K (.ref jD) "__setattr__" = some (some (.builtin "object.__setattr__")))
  (Ab:Gb K jD=true)
  (Ao:Ep K (.ref jD)=true)
  (jb:Em K (.ref jD) "many" = some none)
  (i9:Em K (.ref jD) "ties" = some none)
  (gH:Em K (.ref jD) "turns" = some none)
  (fS:Em K (.ref jD) "rounds" = some none)
  (gI:Em K (.ref jD) "sides" = some none)
  (hn_:PySem.W.specialIn K (.builtin "object.__class__") "__get__" = some (some (.builtin "getset_descriptor.__get__")))
  (htk_:PySem.W.takesIn K (.builtin "object.__class__")=some true)
  (kv0_:Ex K (.ref aL) (.type "ValueError")=some true)
  (kv1_:Ex K (.ref ax) (.type "ValueError")=some true)
  (kv2_:Ex K (.ref aK) (.type "ValueError")=some true)
  (kv3_:Ex K (.ref aB) (.type "ValueError")=some true)
  (CD:Eo K mainGlobals "len" = some none)
  (CF:Eo K mainGlobals "int" = some none)
  (zg:Eo K mainGlobals "bool" = some none)
  (zf:Eo K mainGlobals "list" = some none)
  (ug:Eo K mainGlobals "tuple" = some none)
  (uh:Eo K mainGlobals "range" = some none)
  (iZ:Eo K mainGlobals "enumerate" = some none)
  (gC:Eo K mainGlobals "isinstance" = some none)
  (CB:Eo K mainGlobals "min" = some none)
  (CA:Eo K mainGlobals "sum" = some none)
  (pG:Eo K mainGlobals "sorted" = some none)
  (CC:Eo K mainGlobals "max" = some none)
  (gD:Eo K mainGlobals "ValueError" = some none)
  : ∃ fd:FuncData,(∀(s:Shared)(v:Value),BindsTo s fd ⟨[v],[]⟩ [("script",v)])/\∀ base:Heap,K.In base->base.Ns mainGlobals mg->FnOk l.prog w K mg base CX0 8 fa fd ["script"] (pO K):=by
 have e:=hfa.symm.trans (Ey X G B5)
 cases e
 have Cz:=bx (st:=oZ) Al A3 k_head
 have b_head:=Cz.binds (ps:=["ties","dart"]) fun _ _ _ _ _ _ us hl=>by obtain⟨x0,x1,rfl⟩:=gB hl;rfl
 have ue:=bx (st:=fG) mT nN jK
 have A6:=ue.binds (ps:=["ties","number","place"]) fun _ _ _ _ _ _ us hl=>by obtain⟨x0,x1,x2,rfl⟩:=vE hl;rfl
 have pF:=bx (st:=eJ) kD kZ iF
 have y8:=pF.binds (ps:=["ties","turns","dart"]) fun _ _ _ _ _ _ us hl=>by obtain⟨x0,x1,x2,rfl⟩:=vE hl;rfl
 have lK:=bx (st:=cG) gL gZ eY
 have tP:=lK.binds (ps:=["ties","turns","first"]) fun _ _ _ _ _ _ us hl=>by obtain⟨x0,x1,x2,rfl⟩:=vE hl;rfl
 have n0:=bx (st:=c8) jh ju fY
 have wB:=n0.binds (ps:=["ties","turns"]) fun _ _ _ _ _ _ us hl=>by obtain⟨x0,x1,rfl⟩:=gB hl;rfl
 have pq:=bx (st:=eu) ko kM iy
 have yV:=pq.binds (ps:=["ties","rounds"]) fun _ _ _ _ _ _ us hl=>by obtain⟨x0,x1,rfl⟩:=gB hl;rfl
 have ud:=bx (st:=fF) mS nM jJ
 have A5:=ud.binds (ps:=["start","pairs"]) fun _ _ _ _ _ _ us hl=>by obtain⟨x0,x1,rfl⟩:=gB hl;rfl
 have jV:=bx (st:=bV) fU gk dY
 have rC:=jV.binds (ps:=["many","ties"]) fun _ _ _ _ _ _ us hl=>by obtain⟨x0,x1,rfl⟩:=gB hl;rfl
 have iY:=bx (st:=bK) fw fA du
 have oQ:=iY.binds (ps:=["many","ties","turns"]) fun _ _ _ _ _ _ us hl=>by obtain⟨x0,x1,x2,rfl⟩:=vE hl;rfl
 have ik:=bx (st:=bA) eQ eV cY
 have nR:=ik.binds (ps:=["many","ties"]) fun _ _ _ _ _ _ us hl=>by obtain⟨x0,x1,rfl⟩:=gB hl;rfl
 have lN:=bx (st:=cK) gO g9 gQ
 have tS:=lN.binds (ps:=["self","many","ties","turns"]) fun _ _ _ _ _ _ us hl=>by obtain⟨x0,x1,x2,x3,rfl⟩:=BG hl;rfl
 have lO:=bx (st:=cL) gP hG gR
 have lJ:=lO.binds (ps:=["self","one","two","strength"]) fun _ _ _ _ _ _ us hl=>by obtain⟨x0,x1,x2,x3,rfl⟩:=BG hl;rfl
 have pC:=bx (st:=eF) kA kW iC
 have yZ:=pC.binds (ps:=["ends","dart"]) fun _ _ _ _ _ _ us hl=>by obtain⟨x0,x1,rfl⟩:=gB hl;rfl
 have uf:=bx (st:=fH) mU nO jL
 have A7:=uf.binds (ps:=["turns","place","behind","fresh"]) fun _ _ _ _ _ _ us hl=>by obtain⟨x0,x1,x2,x3,rfl⟩:=BG hl;rfl
 have pA:=bx (st:=eB) kx kQ iA
 have yX:=pA.binds (ps:=["cell","ends","turns","rings","places"]) fun _ _ _ _ _ _ us hl=>by obtain⟨x0,x1,x2,x3,x4,rfl⟩:=len_5 hl;rfl
 have oa:=bx (st:=de) jk jx f9
 have wF:=oa.binds (ps:=["cells","places"]) fun _ _ _ _ _ _ us hl=>by obtain⟨x0,x1,rfl⟩:=gB hl;rfl
 have n9:=bx (st:=da) jj jw f7
 have wD:=n9.binds (ps:=["cell","many"]) fun _ _ _ _ _ _ us hl=>by obtain⟨x0,x1,rfl⟩:=gB hl;rfl
 have gA:=bx (st:=bt) dG dQ cn
 have lY:=gA.binds (ps:=["grown","cell"]) fun _ _ _ _ _ _ us hl=>by obtain⟨x0,x1,rfl⟩:=gB hl;rfl
 have pD:=bx (st:=eG) kB kX iD
 have y6:=pD.binds (ps:=["script","k"]) fun _ _ _ _ _ _ us hl=>by obtain⟨x0,x1,rfl⟩:=gB hl;rfl
 have pB:=bx (st:=eE) kz kS iB
 have yY:=pB.binds (ps:=["rings","dart"]) fun _ _ _ _ _ _ us hl=>by obtain⟨x0,x1,rfl⟩:=gB hl;rfl
 have lL:=bx (st:=cH) gM g7 eZ
 have tQ:=lL.binds (ps:=["grown","cell"]) fun _ _ _ _ _ _ us hl=>by obtain⟨x0,x1,rfl⟩:=gB hl;rfl
 have jX:=bx (st:=bX) fX gn d7
 have rE:=jX.binds (ps:=["grown","cell"]) fun _ _ _ _ _ _ us hl=>by obtain⟨x0,x1,rfl⟩:=gB hl;rfl
 have n8:=bx (st:=c9) ji jv fZ
 have wC:=n8.binds (ps:=["turns","many","cell"]) fun _ _ _ _ _ _ us hl=>by obtain⟨x0,x1,x2,rfl⟩:=vE hl;rfl
 have lM:=bx (st:=cJ) gN g8 fc
 have tR:=lM.binds (ps:=["left","right"]) fun _ _ _ _ _ _ us hl=>by obtain⟨x0,x1,rfl⟩:=gB hl;rfl
 have pE:=bx (st:=eI) kC kY iE
 have y7:=pE.binds (ps:=["script","way"]) fun _ _ _ _ _ _ us hl=>by obtain⟨x0,x1,rfl⟩:=gB hl;rfl
 have pz:=bx (st:=eA) ku kO iz
 have yW:=pz.binds (ps:=["ends","wrong","end"]) fun _ _ _ _ _ _ us hl=>by obtain⟨x0,x1,x2,rfl⟩:=vE hl;rfl
 have jW:=bx (st:=bW) fV gm dZ
 have rD:=jW.binds (ps:=["error","due"]) fun _ _ _ _ _ _ us hl=>by obtain⟨x0,x1,rfl⟩:=gB hl;rfl
 have F_law:=bx (st:=qa) Dy DT DA
 refine⟨EH "law" "law" (aV qa) (aR qa) (au qa) .none Cn Cu Ci Cy AX Cv,fun s v=>.of_eq rfl,fun base _ _=>?_⟩
 have m_head:=Ey X G A9
 have Ag:=Ey X G nV
 have yC:=Ey X G ly
 have sG:=Ey X G hV
 have vA:=Ey X G jy
 have yt:=Ey X G k9
 have Af:=Ey X G nU
 have qD:=Ey X G gp
 have oA:=Ey X G fB
 have mO:=Ey X G eW
 have yz:=Ey X G lp
 have Ai:=Ey X G nW
 have yw:=Ey X G lh
 have vD:=Ey X G jB
 have vC:=Ey X G jA
 have lU:=Ey X G dR
 have yA:=Ey X G lu
 have yx:=Ey X G lj
 have sI:=Ey X G ic
 have qF:=Ey X G gs
 have vB:=Ey X G jz
 have sJ:=Ey X G ig
 have yB:=Ey X G lx
 have yu:=Ey X G lg
 have qE:=Ey X G gq
 have m_law:=Ey X G B5
 have sL:=Ey X G gu
 have BF:=Ey X G nY
 have yD:=Ey X G jC
 have BE:=Ey X G nX
 have Aj:=Ey X G lz
 have m_Pull:=Ey X G wR
 have m_Push:=Ey X G wQ
 have m_Web:=Ey X G Ba
 have n_len:=E3 X G CD
 have n_int:=E3 X G CF
 have n_bool:=E3 X G zg
 have n_list:=E3 X G zf
 have n_tuple:=E3 X G ug
 have n_range:=E3 X G uh
 have n_enumerate:=E3 X G iZ
 have n_isinstance:=E3 X G gC
 have n_min:=E3 X G CB
 have n_sum:=E3 X G CA
 have n_sorted:=E3 X G pG
 have n_max:=E3 X G CC
 have n_ValueError:=E3 X G gD
 have TL:CT K fN:=⟨⟨u6,vS,uQ,uL⟩,jf,je,dE⟩
 have TS:CT K fM:=⟨⟨u5,vR,uO,uK⟩,jd,jc,dD⟩
 have cw:CW K jD:=⟨⟨zS,AB,zP,zI⟩,jb,i9,gH,fS,gI⟩
 have T:Txt mg:=⟨n_len,n_int,n_bool,n_list,n_tuple,n_range,n_enumerate,n_isinstance,n_min,n_sum,n_sorted⟩
 have GI:FnOk l.prog w K mg base CX0 1 bE _ _ (oW K):=Dj lO
 have ML:Mak l.prog w K mg base 1 "Pull" _ (oW K) fN bE _:=⟨⟨vx,gK,fe,vG⟩,GI,lJ,m_Pull⟩
 have MS:Mak l.prog w K mg base 1 "Push" _ (oW K) fM bE _:=⟨⟨vw,gJ,fe,vF⟩,GI,lJ,m_Push⟩
 have Gh:Cal l.prog w K mg base 1 "head" _ (zC K) xF _:=⟨Dk Cz,b_head,m_head,k_head⟩
 have Gl:Cal l.prog w K mg base 1 "leaving" _ (zB K) jO _:=⟨ye ue,A6,Ag,jK⟩
 have Gf:Cal l.prog w K mg base 2 "follower" _ (CN K) iN _:=⟨u9 pF T Gh Gl,y8,yC,iF⟩
 have Gr:Cal l.prog w K mg base 3 "round_from" _ (zD K) fi _:=⟨Dl lK Gf,tP,sG,eY⟩
 have GR:Cal l.prog w K mg base 4 "rounds_of" _ (pM K) gc _:=⟨z4 n0 T Gr,wB,vA,fY⟩
 have GS:Cal l.prog w K mg base 1 "sides_of" _ (ur K) iG _:=⟨Bx pq T,yV,yt,iy⟩
 have Ga:Cal l.prog w K mg base 1 "reached" _ (uu K) jN _:=⟨yd ud,A5,Af,jJ⟩
 have Gc:Cal l.prog w K mg base 1 "_law_cell" _ (xc K) iL _:=⟨Dm pD T,y6,yA,iD⟩
 have L1:Cal l.prog w K mg base 1 "_law_head" _ (pP K) iK _:=⟨BC pC,yZ,yz,iC⟩
 have L5:Cal l.prog w K mg base 1 "_law_order" _ uy gf _:=⟨BA n9 T,wD,vC,f7⟩
 have TM:TxtM mg:={ T with n_max:=n_max }
 have N1:Cal l.prog w K mg base 1 "_law_put" _ (xb K) jP _:=⟨ok_put uf,A7,Ai,jL⟩
 have N2:Cal l.prog w K mg base 2 "_law_step" _ zw iI _:=⟨Dg pA T L1 N1,yX,yw,iA⟩
 have N3:Cal l.prog w K mg base 3 "_law_grown" _ (pR K) gg _:=⟨BD oa N2,wF,vD,f9⟩
 have N4:Cal l.prog w K mg base 2 "_law_renumbered" _ zy cp _:=⟨ok_ren gA TM L5,lY,lU,cn⟩
 have TG:TxtG mg aL ax aK aB:={ T with g_BadTie:=BF,g_BadTurns:=yD,g_Parted:=BE,g_NotFlat:=Aj }
 have TH:TxtH mg aL ax aK aB aM:={ TG with n_ValueError:=n_ValueError,g_FloorError:=sL }
 have eBadTie:ErC K aL:=⟨ga_BadTie,gt_BadTie,hb_BadTie,m8,ng,hn_,htk_,mZ⟩
 have kBadTie:KdF K aL aM aL ax aK aB 1:=⟨eBadTie,ck,kv0_,dN,cX,dM,dq⟩
 have eBadTurns:ErC K ax:=⟨ga_BadTurns,gt_BadTurns,hb_BadTurns,jn,jo,hn_,htk_,jm⟩
 have kBadTurns:KdF K ax aM aL ax aK aB 2:=⟨eBadTurns,bN,kv1_,cW,cj,cV,cz⟩
 have eParted:ErC K aK:=⟨ga_Parted,gt_Parted,hb_Parted,m7,m9,hn_,htk_,mY⟩
 have kParted:KdF K aK aM aL ax aK aB 3:=⟨eParted,cg,kv2_,dJ,cT,dH,dg⟩
 have eNotFlat:ErC K aB:=⟨ga_NotFlat,gt_NotFlat,hb_NotFlat,kH,kI,hn_,htk_,kG⟩
 have kNotFlat:KdF K aB aM aL ax aK aB 4:=⟨eNotFlat,bT,kv3_,dm,cy,dj,cU⟩
 have R1:CalD l.prog w K mg base 1 "refuse_ends" _ (ux K aL) d8 _:=⟨Bz jV TG mq,rC,qD,dY⟩
 have R2:CalD l.prog w K mg base 1 "refuse_turns" _ (pN K ax) dv _:=⟨z0 iY TG i3,oQ,oA,du⟩
 have R3:CalD l.prog w K mg base 2 "refuse_parted" _ (uw K aK) cZ _:=⟨By ik TG mm Ga,nR,mO,cY⟩
 have MW:MakD l.prog w K mg base 5 "Web" _ (uq K aL ax aK aB) jD dA _:=⟨⟨Ab,jg,gS,Ao⟩,Bv lN TG jZ R1 R2 R3 GR GS,tS,m_Web⟩
 have Q1:Cal l.prog w K mg base 1 "_law_spot" _ zx iJ _:=⟨Dh pB T,yY,yx,iB⟩
 have Q2:Cal l.prog w K mg base 2 "_law_handle" _ pQ fj _:=⟨z8 lL T L1 N1 Q1,tQ,sI,eZ⟩
 have Q3:Cal l.prog w K mg base 3 "_law_handles" _ mC eg _:=⟨yf jX T Q2,rE,qF,d7⟩
 have Q4:Cal l.prog w K mg base 1 "_law_beside" _ pS fk _:=⟨z9 lM T,tR,sJ,fc⟩
 have Q5:Cal l.prog w K mg base 4 "_law_base" _ (zE K) iM _:=⟨Dn pE T N3 Q3 Gc Q4,y7,yB,iE⟩
 have Q6:Cal l.prog w K mg base 1 "_law_spoil" _ pL gd _:=⟨Bw n8 T,wC,vB,fZ⟩
 have Q7:Cal l.prog w K mg base 3 "_law_ties" _ (uz K) iH _:=⟨BB pz T ML MS TL TS,yW,yu,iz⟩
 have Q8:Cal l.prog w K mg base 1 "_law_refused" _ (zA K aM aL ax aK aB) d9 _:=⟨Di jW TH,rD,qE,dZ⟩
 exact ok_law F_law TH fO cf bM b9 bR kBadTie kBadTurns kParted kNotFlat cw Gc Q5 N4 Q6 Q7 Q8 MW
theorem walk{l:Hl}{q:Program}{loose:List Str}{XP:(Str->Option Value)->Heap->Prop}{YP:World->Heap->Prop}{d:DefRec}{K:Params->D5}(hn:l.most=some 63)(hdf:d.params.defaults = [])
  (hY:∀(w:World)(h:Heap),YP w h->(K w.params).In h)
  (F:∀(w:World)(mg:Str->Option Value)(fa:Addr)(h:Heap),(K w.params).In h->h.Ns mainGlobals mg->mg d.name=some (.ref fa) ->
   ∃ fd:FuncData,(∀(s:Shared)(u:Value),BindsTo s fd ⟨[u],[]⟩ [("script",u)])/\∀ base:Heap,(K w.params).In base->base.Ns mainGlobals mg->FnOk l.prog w (K w.params) mg base CX0 8 fa fd ["script"] (pO (K w.params))) :
  PySem.W.WalkO q loose XP YP l.row.toRowW d [] (fun f vs=>PySem.call f vs) :=
 L2.walk_of (n:=63) (k:=8) (x:="script") (CX:=fun _=>CX0) (sp:=fun w=>pO (K w.params)) hn (by decide) hdf ⟨rfl,by decide,by decide⟩ hY F (fun _ _ a ns hl _ hS=>⟨a,ns,rfl,hS,hl,fun _=>rfl⟩) fun _ _ _ _ _ z=>z
end K8
def PySem.W.Fast.tw4681495212438519842:Nat:=0
def PySem.W.Fast.tw9858347584317334950:Nat:=0
def PySem.W.Fast.tw17814072508959850214:Nat:=0
def PySem.W.Fast.tw9220356302777316296:Nat:=0
def PySem.W.Fast.tw3248727410415411981:Nat:=0
def PySem.W.Fast.tw8033198506528991470:Nat:=0
def PySem.W.Fast.tw6850513432147693294:Nat:=0
def PySem.W.Fast.tw5050100435080518414:Nat:=0
def PySem.W.Fast.tw3568945432135218287:Nat:=0
def PySem.W.Fast.tw7158316961131605679:Nat:=0
def PySem.W.Fast.tw7345954717410448786:Nat:=0
def PySem.W.Fast.tw5485519989315264407:Nat:=0
def PySem.W.Fast.tw8234255043360192441:Nat:=0
def PySem.W.Fast.tw10552658962626851483:Nat:=0
namespace PySem.W.Fast
def tw4197749122366893088:=0
def tw8055463080860454016:=0
def tw7604262192843408512:=0
def tw13686206210109511840:=0
def tw10547890915454990592:=0
def tw2715000566210484704:=0
def tw6146095948050896384:=0
def tw16587958518114569760:=0
def tw3995350426642097728:=0
def tw1444342937488612960:=0
def tw15803755695370752704:=0
def tw6951883830682942144:=0
def tw16765700241079269248:=0
def tw8892542091083026400:=0
def tw10233535492618702816:=0
def tw4573970112186185921:=0
def tw6245545555808322913:=0
def tw15415992147658455425:=0
def tw16641760189383799233:=0
def tw14744489083242381761:=0
def tw12776956253260489249:=0
def tw12084295705951875649:=0
def tw9817950585407459969:=0
def tw3217004337060140737:=0
def tw35807732391491297:=0
def tw6372431723869575905:=0
def tw8221324748146963265:=0
def tw5104262401087555425:=0
def tw11977563761106477953:=0
def tw16568814193431107521:=0
def tw11722354578367961057:=0
def tw6623396520435672226:=0
def tw10021827351714678050:=0
def tw2743253842377600450:=0
def tw15041154337634631106:=0
def tw1996103636540622306:=0
def tw6627870101328491394:=0
def tw10239015037697388418:=0
def tw12847021796357188611:=0
def tw2297189240984799235:=0
def tw4748496773425928227:=0
def tw15713718950964152355:=0
def tw12746122647621857347:=0
def tw7991750887447922883:=0
def tw17905001076293912803:=0
def tw10377024435130968419:=0
def tw13033746267437379299:=0
def tw3609673379380096803:=0
def tw13759778787575860131:=0
def tw10231323265889042468:=0
def tw6696557920273382564:=0
def tw10574777980019661124:=0
def tw12304582690765878820:=0
def tw8331279369081490404:=0
def tw6365870096413631525:=0
def tw11394089884523407397:=0
def tw1896963916404183109:=0
def tw2958704918957237381:=0
def tw5449664890658226341:=0
def tw3583092757588360453:=0
def tw4395199121040354981:=0
def tw10836662661289604805:=0
def tw16028122963552961285:=0
def tw3432308527030969093:=0
def tw17463947510693427013:=0
def tw2850818966850169701:=0
def tw13341224389878012869:=0
def tw5409233169244963846:=0
def tw14244791393463355430:=0
def tw634172119661299750:=0
def tw1622242839771676774:=0
def tw12285522073418427558:=0
def tw1469862753311144102:=0
def tw10984658521258037478:=0
def tw12874106854031294694:=0
def tw10625925967881954566:=0
def tw9213780905041107238:=0
def tw11814690116582176102:=0
def tw1318823165192972710:=0
def tw16731207751082272230:=0
def tw16020356176208276070:=0
def tw1756086512776977030:=0
def tw10827415754606157478:=0
def tw15776476055422788326:=0
def tw17262491486903618342:=0
def tw9613694580955993958:=0
def tw17906927972710230918:=0
def tw8902627300027004967:=0
def tw5165721501760109671:=0
def tw11462752409857032423:=0
def tw1004735646787813703:=0
def tw2935342519962222951:=0
def tw1411726432613834119:=0
def tw18444363761533672871:=0
def tw14527240983710500359:=0
def tw1081101004886242823:=0
def tw7939966418183076423:=0
def tw18301882589084115527:=0
def tw4040906743509295847:=0
def tw14943716526145860391:=0
def tw14326407548748951592:=0
def tw14075581420284435592:=0
def tw8500669917953392840:=0
def tw4806186095451256040:=0
def tw14090317451396280616:=0
def tw13132807396982277512:=0
def tw8342367953936512424:=0
def tw5111206917937144264:=0
def tw8863437704949077960:=0
def tw175475946060744713:=0
def tw8386563394014594185:=0
def tw1716091027118122249:=0
def tw10120141439815313705:=0
def tw3638750076500094313:=0
def tw14861699265197573513:=0
def tw5408392439961439625:=0
def tw6239678606260828585:=0
def tw18307453649169061289:=0
def tw1374427262468709833:=0
def tw7335189048116096745:=0
def tw8253271314732095241:=0
def tw3815078435863090057:=0
def tw2282551970764222345:=0
def tw497468122878026729:=0
def tw7142473182223163530:=0
def tw4897241065587752202:=0
def tw7707022513268743498:=0
def tw7145771776787070314:=0
def tw8503107450510671338:=0
def tw1456621896297599530:=0
def tw8788571422401960554:=0
def tw17987174734062608010:=0
def tw5510587300879082186:=0
def tw5773937296619294410:=0
def tw4951156470379619050:=0
def tw7801404988281639658:=0
def tw5787605240205888266:=0
def tw12217639242020050698:=0
def tw7093990356440188842:=0
def tw13406745724557333547:=0
def tw10644588913405134987:=0
def tw16241944241339216075:=0
def tw17517618031300402411:=0
def tw6046122329693230347:=0
def tw8374911013906264331:=0
def tw11731798380855903563:=0
def tw10705687665376460107:=0
def tw9868684380146640235:=0
def tw17898526638163445195:=0
def tw13651800747369727499:=0
def tw11909869839231553163:=0
def tw16215382425435440811:=0
def tw11312630262553583339:=0
def tw11769668832500838219:=0
def tw15051205069487308651:=0
def tw9287369700051824555:=0
def tw5395504482824608715:=0
def tw2959666940349030412:=0
def tw15992380331864289324:=0
def tw10071826125784360204:=0
def tw10093614513293181292:=0
def tw9615627601115680268:=0
def tw2897818894381531660:=0
def tw10684470758393959948:=0
def tw13146013557428780588:=0
def tw8984748377842671308:=0
def tw18410537869394581196:=0
def tw12447880842360435500:=0
def tw16394053621916989260:=0
def tw14551157520240790380:=0
def tw5677870074508236652:=0
def tw7492750494128448396:=0
def tw12549897065336328076:=0
def tw4193690483720028044:=0
def tw16859339869441217452:=0
def tw6558944948839683181:=0
def tw15653153618069243021:=0
def tw10020464488106452173:=0
def tw9879236206534721805:=0
def tw5557934891159946573:=0
def tw5198804849304342957:=0
def tw13834531669575056845:=0
def tw13484374778927776333:=0
def tw15657884572755579533:=0
def tw11256060109993579181:=0
def tw35146719679182573:=0
def tw17936907483025183533:=0
def tw12744352685557964685:=0
def tw9569383169230723021:=0
def tw10096727283684599886:=0
def tw492034915005407374:=0
def tw16359772933388535982:=0
def tw74977616535199022:=0
def tw17945018760501264782:=0
def tw18277093588110843406:=0
def tw7019470411877454702:=0
def tw18407314555181201519:=0
def tw13952328501001814383:=0
def tw15310886284024660335:=0
def tw2161573968828187087:=0
def tw16994545705492200943:=0
def tw2579594674599266159:=0
def tw8696207322693638063:=0
def tw17379123364539023311:=0
def tw17661543257689361456:=0
def tw10871197340979122320:=0
def tw6315348875749130384:=0
def tw8279181501088200880:=0
def tw18300760714540400912:=0
def tw17454159268465697104:=0
def tw15761505887237905744:=0
def tw12553134270033411696:=0
def tw17047638607399878416:=0
def tw8666806718006775600:=0
def tw461626089024635824:=0
def tw11504980460804644816:=0
def tw17675509052092778545:=0
def tw12398501217011459153:=0
def tw15312988562437246097:=0
def tw12597512405330161841:=0
def tw17513740749036404977:=0
def tw1273985018474889489:=0
def tw13603036484023093585:=0
def tw9260294704268993073:=0
def tw9343628653316407953:=0
def tw16603947738094609105:=0
def tw5283968744598589297:=0
def tw3798241376176070545:=0
def tw2976257102192208785:=0
def tw5139040915756454930:=0
def tw18116616509667820626:=0
def tw8918714182238816434:=0
def tw6298884260876569874:=0
def tw12427082502362651922:=0
def tw9472720113052979602:=0
def tw14879999966076925362:=0
def tw9863614628428654194:=0
def tw12996251724359219986:=0
def tw9542807223913250610:=0
def tw7795961614945821554:=0
def tw12086863816630052850:=0
def tw17263576689990360115:=0
def tw12755490731002183891:=0
def tw435854798777926899:=0
def tw7914400215411330707:=0
def tw2944654280943952595:=0
def tw5809404892878921491:=0
def tw4342782522709067635:=0
def tw9755693864957195284:=0
def tw154112322452666516:=0
def tw8697513223409242260:=0
def tw8247274797460393204:=0
def tw16587440425559211476:=0
def tw18286698170540813780:=0
def tw10271927994865723124:=0
def tw4985472776195048276:=0
def tw10216794014387595124:=0
def tw10641995584845647925:=0
def tw2418400308302518325:=0
def tw6742767159467104469:=0
def tw17713508277290064117:=0
def tw15997907047609994645:=0
def tw7965790816316646037:=0
def tw10287592127108403925:=0
def tw658435438702575413:=0
def tw2829259785519692918:=0
def tw7100120253080236246:=0
def tw18369647428766423350:=0
def tw1139143460865000822:=0
def tw6421434883313636854:=0
def tw15410273551487996566:=0
def tw4017916003505065622:=0
def tw14714088809275862774:=0
def tw16023574651851398934:=0
def tw14581619738775930678:=0
def tw14813838549888521110:=0
def tw15876303686005621718:=0
def tw10502806257573884247:=0
def tw7674339741747759479:=0
def tw15998952610930307671:=0
def tw6646506744836693623:=0
def tw11875817509870948087:=0
def tw16314360743788927991:=0
def tw5323582489542201464:=0
def tw8124515360326035576:=0
def tw12527360591249647896:=0
def tw3888711606546196824:=0
def tw16623841144327235992:=0
def tw13572921708898276888:=0
def tw10356667978445059608:=0
def tw1065764680592055896:=0
def tw7641182244538727032:=0
def tw14302098388105099992:=0
def tw8607744321974498040:=0
def tw2954694193203742456:=0
def tw3044088299549907768:=0
def tw14199317250596114232:=0
def tw14514627534536707928:=0
def tw12578406378503218008:=0
def tw6582184297154729816:=0
def tw262073173691747192:=0
def tw13815032705683855224:=0
def tw1326005244389518232:=0
def tw5674215037417615256:=0
def tw10150607330187953080:=0
def tw7601901388558067769:=0
def tw9907149391552703609:=0
def tw8580197721921922265:=0
def tw9854268686244361465:=0
def tw12563874450903879929:=0
def tw8207472131372046617:=0
def tw9364004935624543577:=0
def tw8959649750057544057:=0
def tw2001891339261686201:=0
def tw3695259592961124889:=0
def tw4048643029562193529:=0
def tw10554152133773596345:=0
def tw12454071107164068537:=0
def tw12777590049167635257:=0
def tw16232227088336429945:=0
def tw12945896177039350745:=0
def tw8912280353828716666:=0
def tw4283958125185909978:=0
def tw13441054633648729818:=0
def tw11736000932803030778:=0
def tw7552101060357133050:=0
def tw15405279278563860218:=0
def tw6739886429770552154:=0
def tw9665519971200274266:=0
def tw6650391593700338586:=0
def tw4859268607909025786:=0
def tw12041569709265220699:=0
def tw15882398858235277563:=0
def tw9569190828936897915:=0
def tw12536704031480608155:=0
def tw12211401980385791419:=0
def tw12532820240734472859:=0
def tw14188365018364369659:=0
def tw13526833708878842875:=0
def tw8754072655322170492:=0
def tw14852194786364935292:=0
def tw4697480161361168572:=0
def tw9623294860178298652:=0
def tw11646132611404019580:=0
def tw3310727290681839580:=0
def tw16089614082525577212:=0
def tw16220718804100633757:=0
def tw4971464172843633917:=0
def tw14658179403221384669:=0
def tw2969777961971715549:=0
def tw7708449601654950365:=0
def tw8112815515805415933:=0
def tw466950359868866077:=0
def tw3182828237137589821:=0
def tw906684477016610493:=0
def tw17822271828015237949:=0
def tw17881316680832472925:=0
def tw664289610696606685:=0
def tw16523874673432887326:=0
def tw6558240759387302974:=0
def tw14411844842832688254:=0
def tw4495309461406589182:=0
def tw7420289532057932030:=0
def tw14352573220443316510:=0
def tw3779916931824044606:=0
def tw5415719792113704510:=0
def tw16474743689641996926:=0
def tw17122419183782849182:=0
def tw5634234374478443230:=0
def tw2219232746562324222:=0
def tw11588522640784446238:=0
def tw6045522278667395295:=0
def tw264173263419827551:=0
def tw2651670561465324959:=0
def tw9722332801256662495:=0
def tw3743641590519150079:=0
def tw1284015755542340255:=0
def tw13846508102224036543:=0
def tw17905915650426899327:=0
def tw4394675704998030239:=0
def tw16175637147372212127:=0
def tw8912379229327410143:=0
def tw14272137989518168031:=0
def tw1829952886273380194:=0
end PySem.W.Fast
open PySem PySem.W PyProof.Rows
set_option maxRecDepth 100000 in
set_option maxHeartbeats 0 in
theorem PySem.Challenge.cw_spinfloor_k10_webs_refused_holds : PySem.Challenge.rw_spinfloor_k10_webs_refused.Holds := by
 w_on;o_law;k_head;(case hw=>w_witness2)
 k_fill
 refine K8.walk (l:=PySem.Challenge.rw_spinfloor_k10_webs_refused) rfl rfl (fun w h Y=>PySem.W.kIn_of Y) ?F
 case F =>
  intro w mg fa h KX G hmg
  refine' K8.all_mk KX G hmg ?gu ?nY ?jC ?nX ?lz ?wR ?wQ ?Ba ?gK ?gJ ?jg ?A9 ?Al ?A3 ?k_head ?nV ?mT ?nN ?jK ?ly ?kD ?kZ ?iF ?hV ?gL ?gZ ?eY ?jy ?jh ?ju ?fY ?k9 ?ko ?kM ?iy ?nU ?mS ?nM ?jJ ?gp ?fU ?gk ?dY ?fB ?fw ?fA ?du ?eW ?eQ ?eV ?cY ?gO ?g9 ?gQ ?gS ?gP ?hG ?gR ?fe ?lp ?kA ?kW ?iC ?nW ?mU ?nO ?jL ?lh ?kx ?kQ ?iA ?jB ?jk ?jx ?f9 ?jA ?jj ?jw ?f7 ?dR ?dG ?dQ ?cn ?lu ?kB ?kX ?iD ?lj ?kz ?kS ?iB ?ic ?gM ?g7 ?eZ ?gs ?fX ?gn ?d7 ?jz ?ji ?jv ?fZ ?ig ?gN ?g8 ?fc ?lx ?kC ?kY ?iE ?lg ?ku ?kO ?iz ?gq ?fV ?gm ?dZ ?B5 ?Dy ?DT ?DA ?fO ?mq ?cf ?ga_BadTie ?gt_BadTie ?hb_BadTie ?m8 ?ng ?mZ ?ck ?dN ?cX ?dM ?dq ?i3 ?bM ?ga_BadTurns ?gt_BadTurns ?hb_BadTurns ?jn ?jo ?jm ?bN ?cW ?cj ?cV ?cz ?mm ?b9 ?ga_Parted ?gt_Parted ?hb_Parted ?m7 ?m9 ?mY ?cg ?dJ ?cT ?dH ?dg ?jZ ?bR ?ga_NotFlat ?gt_NotFlat ?hb_NotFlat ?kH ?kI ?kG ?bT ?dm ?cy ?dj ?cU ?u6 ?vS ?uQ ?uL ?vx ?vG ?jf ?je ?dE ?u5 ?vR ?uO ?uK ?vw ?vF ?jd ?jc ?dD ?zS ?AB ?zP ?zI ?Ab ?Ao ?jb ?i9 ?gH ?fS ?gI ?hn_ ?htk_ ?kv0_ ?kv1_ ?kv2_ ?kv3_ ?CD ?CF ?zg ?zf ?ug ?uh ?iZ ?gC ?CB ?CA ?pG ?CC ?gD
  (case gu=>k_is)
  (case nY=>k_is)
  (case jC=>k_is)
  (case nX=>k_is)
  (case lz=>k_is)
  (case wR=>k_is)
  (case wQ=>k_is)
  (case Ba=>k_is)
  (case gK=>k_is)
  (case gJ=>k_is)
  (case jg=>k_is)
  (case A9=>k_is)
  (case Al=>k_is)
  (case A3=>k_is)
  (case k_head=>k_is)
  (case nV=>k_is)
  (case mT=>k_is)
  (case nN=>k_is)
  (case jK=>k_is)
  (case ly=>k_is)
  (case kD=>k_is)
  (case kZ=>k_is)
  (case iF=>k_is)
  (case hV=>k_is)
  (case gL=>k_is)
  (case gZ=>k_is)
  (case eY=>k_is)
  (case jy=>k_is)
  (case jh=>k_is)
  (case ju=>k_is)
  (case fY=>k_is)
  (case k9=>k_is)
  (case ko=>k_is)
  (case kM=>k_is)
  (case iy=>k_is)
  (case nU=>k_is)
  (case mS=>k_is)
  (case nM=>k_is)
  (case jJ=>k_is)
  (case gp=>k_is)
  (case fU=>k_is)
  (case gk=>k_is)
  (case dY=>k_is)
  (case fB=>k_is)
  (case fw=>k_is)
  (case fA=>k_is)
  (case du=>k_is)
  (case eW=>k_is)
  (case eQ=>k_is)
  (case eV=>k_is)
  (case cY=>k_is)
  (case gO=>k_is)
  (case g9=>k_is)
  (case gQ=>k_is)
  (case gS=>k_is)
  (case gP=>k_is)
  (case hG=>k_is)
  (case gR=>k_is)
  (case fe=>k_is)
  (case lp=>k_is)
  (case kA=>k_is)
  (case kW=>k_is)
  (case iC=>k_is)
  (case nW=>k_is)
  (case mU=>k_is)
  (case nO=>k_is)
  (case jL=>k_is)
  (case lh=>k_is)
  (case kx=>k_is)
  (case kQ=>k_is)
  (case iA=>k_is)
  (case jB=>k_is)
  (case jk=>k_is)
  (case jx=>k_is)
  (case f9=>k_is)
  (case jA=>k_is)
  (case jj=>k_is)
  (case jw=>k_is)
  (case f7=>k_is)
  (case dR=>k_is)
  (case dG=>k_is)
  (case dQ=>k_is)
  (case cn=>k_is)
  (case lu=>k_is)
  (case kB=>k_is)
  (case kX=>k_is)
  (case iD=>k_is)
  (case lj=>k_is)
  (case kz=>k_is)
  (case kS=>k_is)
  (case iB=>k_is)
  (case ic=>k_is)
  (case gM=>k_is)
  (case g7=>k_is)
  (case eZ=>k_is)
  (case gs=>k_is)
  (case fX=>k_is)
  (case gn=>k_is)
  (case d7=>k_is)
  (case jz=>k_is)
  (case ji=>k_is)
  (case jv=>k_is)
  (case fZ=>k_is)
  (case ig=>k_is)
  (case gN=>k_is)
  (case g8=>k_is)
  (case fc=>k_is)
  (case lx=>k_is)
  (case kC=>k_is)
  (case kY=>k_is)
  (case iE=>k_is)
  (case lg=>k_is)
  (case ku=>k_is)
  (case kO=>k_is)
  (case iz=>k_is)
  (case gq=>k_is)
  (case fV=>k_is)
  (case gm=>k_is)
  (case dZ=>k_is)
  (case B5=>k_is)
  (case Dy=>k_is)
  (case DT=>k_is)
  (case DA=>k_is)
  (case fO=>k_exc)
  (case mq=>k_exc)
  (case cf=>k_is)
  (case ga_BadTie=>k_is)
  (case gt_BadTie=>k_is)
  (case hb_BadTie=>k_is)
  (case m8=>k_is)
  (case ng=>k_is)
  (case mZ=>k_is)
  (case ck=>kit_is)
  (case dN=>kit_is)
  (case cX=>kit_is)
  (case dM=>kit_is)
  (case dq=>kit_is)
  (case i3=>k_exc)
  (case bM=>k_is)
  (case ga_BadTurns=>k_is)
  (case gt_BadTurns=>k_is)
  (case hb_BadTurns=>k_is)
  (case jn=>k_is)
  (case jo=>k_is)
  (case jm=>k_is)
  (case bN=>kit_is)
  (case cW=>kit_is)
  (case cj=>kit_is)
  (case cV=>kit_is)
  (case cz=>kit_is)
  (case mm=>k_exc)
  (case b9=>k_is)
  (case ga_Parted=>k_is)
  (case gt_Parted=>k_is)
  (case hb_Parted=>k_is)
  (case m7=>k_is)
  (case m9=>k_is)
  (case mY=>k_is)
  (case cg=>kit_is)
  (case dJ=>kit_is)
  (case cT=>kit_is)
  (case dH=>kit_is)
  (case dg=>kit_is)
  (case jZ=>k_exc)
  (case bR=>k_is)
  (case ga_NotFlat=>k_is)
  (case gt_NotFlat=>k_is)
  (case hb_NotFlat=>k_is)
  (case kH=>k_is)
  (case kI=>k_is)
  (case kG=>k_is)
  (case bT=>kit_is)
  (case dm=>kit_is)
  (case cy=>kit_is)
  (case dj=>kit_is)
  (case cU=>kit_is)
  (case u6=>k_is)
  (case vS=>k_is)
  (case uQ=>k_is)
  (case uL=>k_is)
  (case vx=>k_is)
  (case vG=>k_is)
  (case jf=>k_is)
  (case je=>k_is)
  (case dE=>k_is)
  (case u5=>k_is)
  (case vR=>k_is)
  (case uO=>k_is)
  (case uK=>k_is)
  (case vw=>k_is)
  (case vF=>k_is)
  (case jd=>k_is)
  (case jc=>k_is)
  (case dD=>k_is)
  (case zS=>k_is)
  (case AB=>k_is)
  (case zP=>k_is)
  (case zI=>k_is)
  (case Ab=>k_is)
  (case Ao=>k_is)
  (case jb=>k_is)
  (case i9=>k_is)
  (case gH=>k_is)
  (case fS=>k_is)
  (case gI=>k_is)
  (case hn_=>k_is)
  (case htk_=>k_is)
  (case kv0_=>kernel_rfl)
  (case kv1_=>kernel_rfl)
  (case kv2_=>kernel_rfl)
  (case kv3_=>kernel_rfl)
  (case CD=>k_is)
  (case CF=>k_is)
  (case zg=>k_is)
  (case zf=>k_is)
  (case ug=>k_is)
  (case uh=>k_is)
  (case iZ=>k_is)
  (case gC=>k_is)
  (case CB=>k_is)
  (case CA=>k_is)
  (case pG=>k_is)
  (case CC=>k_is)
  (case gD=>k_is)
