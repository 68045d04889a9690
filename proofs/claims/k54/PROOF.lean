import PyProof.Rows.All
import Wide.All
import OpenK.AllK
import Wide.FinOn
import Lean
import PyProof.EqAt
import PyProof.EqKinds
import PyProof.TupleCall
import PySem.Challenge.RW_spinfloor_k54_what_a_laying_falls_to
open Array renaming toList_append → FL, length_toList → Gu, toList_push → G5, toList_reverse → G8, toList_extract → Hk, perm_iff_toList_perm → Hv, getElem?_toList → HQ, toList_setIfInBounds → Iw, size_setIfInBounds → ID
open Bool renaming false_ne_true → FO, false_eq_true → Gb, not_eq_true' → HF, eq_iff_iff → HP, false_and → HZ, xor_assoc → Iz, xor_comm → IH
open Int renaming toNat_natCast → Fn, emod_lt_of_pos → F8, emod_nonneg → Gn, toNat_of_nonneg → Gs, zero_add → Gy, le_of_lt → GB, le_refl → GO, natCast_nonneg → Ie, fdiv_eq_ediv_of_nonneg → Iv
open List renaming getElem?_eq_some_iff → E3, getElem?_eq_getElem → E4, length_append → E5, mem_of_getElem? → E7, getElem?_append_left → E8, getElem?_append_right → E9, mem_cons → Fb, length_map → Fc, nodup_cons → Fd, mem_append → Fe, getElem?_map → Fg, mem_cons_of_mem → Fh, mem_cons_self → Fi, nodup_append → Fj, length_singleton → Fl, mem_append_right → Fm, mem_singleton → Fp, length_take → Fw, flatten_cons → Fx, take_append_drop → Fy, mem_append_left → FD, size_toArray → FE, map_append → FH, getElem?_set → FI, append_assoc → FJ, length_set → FK, take_of_length_le → FN, length_drop → FQ, mem_iff_getElem? → FU, length_cons → FV, mem_map → FW, map_cons → FX, perm_append_comm → FY, mem_flatten → FZ, pairwise_append → F1, take_add_one → F2, mem_of_mem_take → F6, mem_of_mem_drop → F7, flatten_append → Gg, take_length → Gp, drop_eq_getElem_cons → Gv, getElem_mem → Gz, replicate → GA, range → GC, not_mem_nil → GF, cons_append → GG, getElem?_drop → GH, nodup_nil → GJ, getElem?_replicate → GN, drop_drop → GV, length_pos_of_mem → GW, getElem?_take → GX, map_map → G0, perm_ext_iff_of_nodup → G7, extract_eq_drop_take → G9, find?_cons → Hb, append_nil → Hc, getElem?_set_self → Hd, drop_zero → Hg, drop_take → Hh, take_add → Hl, map_take → Hm, map_drop → Hn, lookup → Hq, length_nil → Hr, getElem?_range → Hs, filterMap_cons → Ht, getD_eq_getElem?_getD → Hu, append_of_mem → Hx, take_take → Hz, pairwise_iff_getElem → HA, mem_or_eq_of_mem_set → HB, length_range → HC, idxOf_lt_length_iff → HD, getElem_take → HE, pairwise_singleton → HG, drop_eq_nil_of_le → HH, set_append_right → HL, range_succ → HM, nil_append → HN, map → HR, set_append_left → HS, idxOf_cons_self → HU, getElem?_set_ne → HV, mem_range → HY, pairwise_cons → Ib, any_cons → Ic, getElem_drop → Ih, take_append_of_le_length → Il, drop_append → Im, of_mem_zip → Ir, length → Iu, length_eq_zero_iff → IG
open List.Nodup renaming length_le_of_subset → Hi
open List.Pairwise renaming nil → Ii
open List.Perm renaming append_left → Gx
open Nat renaming le_refl → Ff, sub_self → FA, ne_of_lt → FG, lt_of_lt_of_le → FP, le_of_lt → F0, le_trans → F4, lt_irrefl → F9, zero_le → Ge, min_eq_left → Gk, lt_of_le_of_lt → Gm, mod_eq_of_lt → GD, not_lt_zero → GL, lt_succ_self → GQ, ne_of_gt → GZ, lt_succ_of_lt → G4, le_succ → Ha, eq_of_testBit_eq → Hj, testBit_and → HJ, mod_self → HK, testBit_or → HX, zero_testBit → Ij, not_lt_of_le → Ik, testBit → Iq
open Option renaming map_eq_some_iff → F3, map_some → HI, isSome_iff_exists → IC
open Option.some renaming inj → Fu
open PySem renaming Spec → Fs, mem_of_lookup → Gd
open PySem.F renaming plainAttrs_list → FF, type_list_append → FR, slot_list_append → FT, type_list_insert → IA, slot_list_insert → IB, type_list_index → IE, slot_list_index → IF
open PySem.W renaming Frag → E6, keepIn → Fo, nsIn → Fq, codeIn → Ft, fnOf → Fv, findIn → Fz, mg_of → FC, mg_none_of → F5, kla_obj → Gi, kia_one → Gj, emptyDict → Gq, instObj → GK, plainGet → GP, CodeHd → GU, isFn → GY, tabIn → G2, hasDictIn → G3, plainOver → He, makesIn → Ho, callWith_K → Hw, kitOne → Hy, lookIn → HW, plainGet_of → Ia, methodObj → Ig, takerIn → Io, OpenLaw → Ip, tabObj → Iy
set_option Elab.async false
set_option linter.all false
set_option maxRecDepth 100000
local macro_rules | `(tactic| omega) => `(tactic| first | assumption | lia | omega +splitDisjunctions)
namespace L2
open PySem PySem.Spec PyProof.Rows
abbrev Key:=Sum Int Str
def wA:Key->Value->Bool
 |.inl k,v=>Value.isInt k v
 |.inr x,v=>Value.isStrOf x v
def keyH(w:World):Key->Int
 |.inl k=>hashInt k
 |.inr x=>hashStr w x
theorem bj:∀{k:Key}{v:Value},wA k v=true->(∃ i t,k=Sum.inl i/\v=Value.int i t)∨(∃ x t,k=Sum.inr x/\v=Value.str x t)
 |.inl i,v,h=>by
  obtain⟨t,e⟩:=Value.isInt_shape (k:=i) (v:=v) h
  exact .inl ⟨i,t,rfl,e⟩
 |.inr x,v,h=>by
  obtain⟨t,e⟩:=Value.isStrOf_shape (x:=x) (v:=v) h
  exact .inr ⟨x,t,rfl,e⟩
theorem Bi(i:Int)(t:Tok):wA (.inl i) (.int i t)=true:=by simp[wA,Value.isInt]
theorem Bh(x:Str)(t:Tok):wA (.inr x) (.str x t)=true:=by simp[wA,Value.isStrOf]
theorem key_ll(a b:Int):decide ((Sum.inl a:Key)=Sum.inl b)=(a == b):=by
 by_cases e:a=b
 ·subst e;simp
 ·have h:¬ (Sum.inl a:Key)=Sum.inl b:=fun q=>e (Sum.inl.inj q)
  rw[decide_eq_false h]
  exact(beq_eq_false_iff_ne.mpr e).symm
theorem key_rr(a b:Str):decide ((Sum.inr a:Key)=Sum.inr b)=decide (a=b):=by
 by_cases e:a=b
 ·subst e;simp
 ·have h:¬ (Sum.inr a:Key)=Sum.inr b:=fun q=>e (Sum.inr.inj q)
  rw[decide_eq_false h,decide_eq_false e]
theorem key_lr(a:Int)(b:Str):decide ((Sum.inl a:Key)=Sum.inr b)=false:=decide_eq_false (fun q=>nomatch q)
theorem key_rl(a:Str)(b:Int):decide ((Sum.inr a:Key)=Sum.inl b)=false:=decide_eq_false (fun q=>nomatch q)
def bE(prog:Program)(w:World):PySem.KeyKind prog w Key where
 is:=wA
 hash:=keyH w
 inj:=fun v a b ha hb=>by
  rcases bj ha with⟨i,t,rfl,rfl⟩ | ⟨x,t,rfl,rfl⟩
  ·rcases bj hb with⟨j,u,rfl,e⟩ | ⟨y,u,rfl,e⟩
   ·injection e with e1 _;rw[e1]
   ·exact nomatch e
  ·rcases bj hb with⟨j,u,rfl,e⟩ | ⟨y,u,rfl,e⟩
   ·exact nomatch e
   ·injection e with e1 _;rw[e1]
 byValue:=fun k v h=>by
  rcases bj h with⟨i,t,rfl,rfl⟩ | ⟨x,t,rfl,rfl⟩<;>rfl
 pyHash:=fun hv h=>by
  rcases bj hv with⟨i,t,rfl,rfl⟩ | ⟨x,t,rfl,rfl⟩
  ·exact wpAny_pyHash_int h
  ·exact wpAny_pyHash_str h
 eqBool:=fun hu hv h=>by
  rcases bj hu with⟨i,t,rfl,rfl⟩ | ⟨x,t,rfl,rfl⟩
  ·rcases bj hv with⟨j,u,rfl,rfl⟩ | ⟨y,u,rfl,rfl⟩
   ·rw[key_ll]at h;exact wpAny_eqBool_int h
   ·rw[key_lr]at h;exact SeqAt.EqAt.int_str i t y u _ _ _ _ h
  ·rcases bj hv with⟨j,u,rfl,rfl⟩ | ⟨y,u,rfl,rfl⟩
   ·rw[key_rl]at h;exact SeqAt.EqAt.str_int x t j u _ _ _ _ h
   ·rw[key_rr]at h;exact wpAny_eqBool_str h
 «strs»:=fun k x t v h=>by
  rcases bj h with⟨i,u,rfl,e⟩ | ⟨y,u,rfl,e⟩
  ·exact nomatch e
  ·injection e with e1 _
   subst e1
   cases v<;>rfl
theorem wk(prog:Program)(w:World)(i:Int)(t:Tok):(bE prog w).is (.inl i) (.int i t)=true:=Bi i t
theorem wj(prog:Program)(w:World)(x:Str)(t:Tok):(bE prog w).is (.inr x) (.str x t)=true:=Bh x t
end L2
namespace L2
open PySem PySem.Spec PyProof.Rows
inductive V where
 |non | bl (b:Bool) | int (i:Int) | str (x:Str) | byt (b:Array UInt8) | flt (b:UInt64) | ref (a:Addr) | ty (n:String)
 deriving DecidableEq
def RelV:V->Value->Prop
 |.non,u=>u=Value.none
 |.bl b,u=>u=Value.bool b
 |.int i,u=>∃ t,u=Value.int i t
 |.str x,u=>∃ t,u=Value.str x t
 |.byt b,u=>∃ t,u=Value.bytes b t
 |.flt b,u=>∃ t,u=Value.float b t
 |.ref a,u=>u=Value.ref a
 |.ty n,u=>u=Value.type n
abbrev Vals:List V->List Value->Prop:=Paired RelV
theorem Vals.length{xs:List V}{us:List Value}(r:Vals xs us):xs.length=us.length:=Paired.length r
theorem Vals.get:∀{xs:List V}{us:List Value}{i:Nat}{x:V},Vals xs us->xs[i]?=some x->∃ u,us[i]?=some u/\RelV x u
 |_,_,_,_,.nil,e=>by simp at e
 |_,_,0,_,.cons r _,e=>by simp at e;subst e;exact⟨_,rfl,r⟩
 |_,_,i+1,x,.cons _ t,e=>by
  obtain⟨u,h1,h2⟩:=Vals.get (i:=i) (x:=x) t (by simpa using e)
  exact⟨u,by simpa using h1,h2⟩
theorem Vals.set{x:V}{u:Value}(r:RelV x u):∀{xs:List V}{us:List Value}(i:Nat),Vals xs us->Vals (xs.set i x) (us.set i u)
 |_,_,_,.nil=>.nil
 |_,_,0,.cons _ t=>.cons r t
 |_,_,i+1,.cons q t=>.cons q (Vals.set r i t)
theorem Vals.append:∀{xs ys:List V}{us ws:List Value},Vals xs us->Vals ys ws->Vals (xs++ys) (us++ws)
 |_,_,_,_,.nil,s=>s
 |_,_,_,_,.cons r t,s=>.cons r (Vals.append t s)
theorem Vals.take:∀{xs:List V}{us:List Value}(n:Nat),Vals xs us->Vals (xs.take n) (us.take n)
 |_,_,0,_=>.nil
 |_,_,_+1,.nil=>.nil
 |_,_,n+1,.cons r t=>.cons r (Vals.take n t)
theorem Vals.drop:∀{xs:List V}{us:List Value}(n:Nat),Vals xs us->Vals (xs.drop n) (us.drop n)
 |_,_,0,r=>r
 |_,_,_+1,.nil=>.nil
 |_,_,n+1,.cons _ t=>Vals.drop n t
def RelO:Option V->Option Value->Prop
 |some v,some u=>RelV v u
 |none,none=>True
 |_,_=>False
def KV{κ:Type}:List (κ×V)->List (κ×Value)->Prop:=Paired fun(p:κ×V) (q:κ×Value)=>p.1=q.1/\RelV p.2 q.2
def kV:Key->V
 |.inl i=>.int i
 |.inr x=>.str x
inductive HO where
  |lst (xs:List V)
  |tup (xs:List V)
  |dK (kvs:List (Key×V)) | dT (kvs:List (List Key×V))
  |set (S:Int->Bool) (n:Nat)
  |ins (C dx:Addr) (fs:List (Str×V))
  |own (x:Addr)
  |xd (fs:List (Str×V))
  |met (f x:Addr)
  |rng (lo hi:Int)
  |frz (o:Obj) (u:HO)
  |tbl (ps:Array Value)
  |ext (φ:Heap->Prop)
abbrev Hp:=Addr->Option HO
def upd(H:Hp)(a:Addr)(o:HO):Hp:=fun b=>if b=a then some o else H b
theorem ae{H:Hp}{a:Addr}{o:HO}:upd H a o a=some o:=by unfold upd;rw[if_pos rfl]
theorem ai{H:Hp}{a b:Addr}{o:HO}(h:b≠a):upd H a o b=H b:=by unfold upd;rw[if_neg h]
theorem ne_of{H:Hp}{a b:Addr}{o u:HO}(h:H a=some o)(h':H b=some u)(d:o≠u):a≠b:=by
 intro e;subst e;rw[h]at h';exact d (Fu h')
theorem aI{H:Hp}{a b:Addr}{o:HO}(h:H a=some o)(h':H b=none):a≠b:=by
 intro e;subst e;rw[h]at h';cases h'
section
variable(P:Program)(w:World)
def bM(H:Hp)(h:Heap)(a:Addr):HO->Prop
 |.lst xs=>xs.length<=sizeLine/\∃(its:List Value)(n:Nat),Vals xs its/\h.get? a=some { cls:=.type "list",data:=.seq its.toArray n }
 |.tup xs=>xs.length<=sizeLine/\∃ its:List Value,Vals xs its/\IsTup h a its.toArray
 |.dK kvs=>kvs.length<=sizeLine/\(a == sysModules)=false/\∃ vs,KV kvs vs/\h.DictOf (bE P w) a vs
 |.dT kvs=>kvs.length<=sizeLine/\(a == sysModules)=false/\∃ xs:List (List Key×Addr×Value),
   Paired (fun(p:List Key×V) (q:List Key×Addr×Value)=>p.1=q.1/\H q.2.1=some (.tup (p.1.map kV))/\RelV p.2 q.2.2) kvs xs /\
   ∃ o es ep,h.get? a=some o/\o.ExactDict/\o.data=.dict es ep/\es.toList=xs.map (entryOfKey (tupleKind (bE P w)))/\(xs.map (·.1)).Nodup
 |.set S n=>h.SetOf (intKind P w) a S n
 |.ins C dx fs=>H dx=some (.own a)/\fs.length<=1000/\dx≠a/\h.get? a=some (GK C dx) /\
   ∃ mA,h.Ns1 dx mA/\(∀ f,RelO (fs.lookup f) (mA f))/\PySem.Within mA (fs.map (·.1))
 |.own _=>∃ o,h.get? a=some o
 |.xd fs=>∃ mA,h.Ns1 a mA/\∀ f,RelO (fs.lookup f) (mA f)
 |.rng lo hi=>∃ t u v,h.get? a=some { cls:=.type "range",data:=.fields #[.int lo t,.int hi u,.int 1 v] }
 |.frz o u=>h.get? a=some o/\bM H h a u
 |.tbl ps=>h.get? a=some { cls:=.none,data:=.fields ps }
 |.met f x=>h.get? a=some (Ig (.ref f) (.ref x))
 |.ext φ=>φ h/\(∃ o,h.get? a=some o)/\∀ h1 h2:Heap,φ h1->(∀ o,h1.get? a=some o->h2.get? a=some o)->φ h2
def HOk(H:Hp)(h:Heap):Prop:=∀ a o,H a=some o->bM P w H h a o
end
section
variable{P:Program}{w:World}{H H':Hp}{h h':Heap}{a:Addr}{o:HO}
theorem bM.lt(x:bM P w H h a o):a<h.objs.size:=by
 cases o with
 |lst xs=>obtain⟨_,_,_,_,e⟩:=x;exact Heap.lt_size e
 |tup xs=>obtain⟨_,_,_,p⟩:=x;exact p.lt
 |dK kvs=>obtain⟨_,_,_,_,o,_,_,e,_⟩:=x;exact Heap.lt_size e
 |dT kvs=>obtain⟨_,_,_,_,o,_,_,e,_⟩:=x;exact Heap.lt_size e
 |set S n=>obtain⟨o,_,_,_,e,_⟩:=x;exact Heap.lt_size e
 |ins C dx fs=>obtain⟨_,_,_,e,_⟩:=x;exact Heap.lt_size e
 |own y=>obtain⟨_,e⟩:=x;exact Heap.lt_size e
 |xd fs=>obtain⟨_,⟨_,_,_,e,_⟩,_⟩:=x;exact Heap.lt_size e
 |rng lo hi=>obtain⟨_,_,_,e⟩:=x;exact Heap.lt_size e
 |frz ob u=>obtain⟨e,_⟩:=x;exact Heap.lt_size e
 |tbl ps=>exact Heap.lt_size (show h.get? a=some _ from x)
 |met f y=>exact Heap.lt_size (show h.get? a=some _ from x)
 |ext φ=>obtain⟨_,⟨_,e⟩,_⟩:=x;exact Heap.lt_size e
theorem Paired.mapP{α β:Type}{F G:α->β->Prop}:∀{l₁:List α}{l₂:List β},Paired F l₁ l₂->(∀ a b,F a b->G a b)->Paired G l₁ l₂
 |_,_,.nil,_=>.nil
 |_,_,.cons r t,f=>.cons (f _ _ r) (Paired.mapP t f)
theorem bM.stay(x:bM P w H h a o)(k:∀ b u,(b=a∨H b=some (.own a))->h.get? b=some u->h'.get? b=some u)
  (ho:∀ b,H b=some (.own a)->H' b=some (.own a)) (ht:∀ b xs,H b=some (.tup xs)->H' b=some (.tup xs)):bM P w H' h' a o:=by
 induction o with
 |lst xs=>obtain⟨z,its,n,r,e⟩:=x;exact⟨z,its,n,r,k _ _ (.inl rfl) e⟩
 |tup xs=>obtain⟨z,its,r,ob,e,c⟩:=x;exact⟨z,its,r,ob,k _ _ (.inl rfl) e,c⟩
 |dK kvs=>obtain⟨z,y,vs,r,ob,es,ep,e,c⟩:=x;exact⟨z,y,vs,r,ob,es,ep,k _ _ (.inl rfl) e,c⟩
 |dT kvs =>
  obtain⟨z,y,xs,r,ob,es,ep,e,c⟩:=x
  exact⟨z,y,xs,Paired.mapP r fun p q z=>⟨z.1,ht _ _ z.2.1,z.2.2⟩,ob,es,ep,k _ _ (.inl rfl) e,c⟩
 |set S n=>obtain⟨ob,es,ep,t,e,c⟩:=x;exact⟨ob,es,ep,t,k _ _ (.inl rfl) e,c⟩
 |ins C dx fs =>
  obtain⟨d,z,ne,e,mA,⟨od,es,ep,e2,c⟩,r⟩:=x
  exact⟨ho _ d,z,ne,k _ _ (.inl rfl) e,mA,⟨od,es,ep,k _ _ (.inr d) e2,c⟩,r⟩
 |own y=>obtain⟨ob,e⟩:=x;exact⟨ob,k _ _ (.inl rfl) e⟩
 |xd fs=>obtain⟨mA,⟨od,es,ep,e,c⟩,r⟩:=x;exact⟨mA,⟨od,es,ep,k _ _ (.inl rfl) e,c⟩,r⟩
 |rng lo hi=>obtain⟨t,u,v,e⟩:=x;exact⟨t,u,v,k _ _ (.inl rfl) e⟩
 |frz ob u ih=>obtain⟨e,q⟩:=x;exact⟨k _ _ (.inl rfl) e,ih q⟩
 |tbl ps =>
  have e:h.get? a=some { cls:=.none,data:=.fields ps }:=x
  show h'.get? a=some { cls:=.none,data:=.fields ps }
  exact k a _ (.inl rfl) e
 |met f y =>
  have e:h.get? a=some (Ig (.ref f) (.ref y)):=x
  show h'.get? a=some (Ig (.ref f) (.ref y))
  exact k a _ (.inl rfl) e
 |ext φ=>obtain⟨p,⟨o,e⟩,st⟩:=x;exact⟨st _ _ p fun o q=>k _ _ (.inl rfl) q,⟨o,k _ _ (.inl rfl) e⟩,st⟩
theorem HOk.lt(x:HOk P w H h)(e:H a=some o):a<h.objs.size:=(x a o e).lt
theorem HOk.fresh(x:HOk P w H h)(e:h.objs.size<=a):H a=none:=by
 cases q:H a with
 |none=>rfl
 |some u=>exact absurd (FP (x.lt q) e) (F9 _)
theorem HOk.kept(x:HOk P w H h)(k:∀ b u,h.get? b=some u->h'.get? b=some u):HOk P w H h':=fun a o e =>
 (x a o e).stay (fun b u _ q=>k b u q) (fun _ q=>q) fun _ _ q=>q
theorem HOk.laid(x:HOk P w H h)(k:∀ b u,h.get? b=some u->h'.get? b=some u)(hp:h.objs.size<=a)(new:bM P w (upd H a o) h' a o):HOk P w (upd H a o) h':=fun b u e=>by
 have hn:=x.fresh hp
 by_cases hb:b=a
 ·subst hb;rw[ae]at e;cases e;exact new
 ·rw[ai hb]at e
  exact(x b u e).stay (fun c v _ q=>k c v q) (fun c q=>by rw[ai (aI q hn)];exact q) fun c xs q=>by rw[ai (aI q hn)];exact q
end
def Rd(H:Hp)(a:Addr)(u:HO):Prop:=H a=some u∨∃ o,H a=some (.frz o u)
theorem Rd.ok{P:Program}{w:World}{H:Hp}{h:Heap}{a:Addr}{u:HO}(r:Rd H a u)(x:HOk P w H h):bM P w H h a u:=by
 rcases r with r | ⟨o,r⟩
 ·exact x a u r
 ·obtain⟨_,q⟩:=x a _ r
  exact q
def Mut:Option HO->Prop
 |some (.lst _)=>True
 |some (.dK _)=>True
 |some (.dT _)=>True
 |some (.set _ _)=>True
 |some (.ins _ _ _)=>True
 |some (.ext _)=>True
 |_=>False
section
variable{P:Program}{w:World}{H:Hp}{h h':Heap}{x e:Addr}{o':HO}
theorem HOk.write(ok:HOk P w H h)(mu:Mut (H x))(he:e=x∨H e=some (.own x))(k:∀ b u,b≠e->h.get? b=some u->h'.get? b=some u)(heo:∃ u,h'.get? e=some u)
  (new:bM P w (upd H x o') h' x o'):HOk P w (upd H x o') h':=fun b u q=>by
 have nown:∀ c y,H c=some (.own y)->c≠x:=fun c y r z=>by subst z;rw[r]at mu;exact mu
 have ntup:∀ c xs,H c=some (.tup xs)->c≠x:=fun c xs r z=>by subst z;rw[r]at mu;exact mu
 by_cases hb:b=x
 ·subst hb;rw[ae]at q;cases q;exact new
 ·rw[ai hb]at q
  by_cases hbe:b=e
  ·have q':H b=some (.own x):=by
    rcases he with z | z
    ·exact absurd (hbe.trans z) hb
    ·rw[hbe];exact z
   rw[q]at q';cases q'
   obtain⟨v,hv⟩:=heo
   exact⟨v,by rw[hbe];exact hv⟩
  ·refine(ok b u q).stay (fun c v hc r=>k c v ?_ r) (fun c r=>by rw[ai (nown c b r)];exact r) fun c xs r=>by rw[ai (ntup c xs r)];exact r
   rcases hc with rfl | hc
   ·exact hbe
   ·rintro rfl
    rcases he with z | z
    ·exact nown c b hc z
    ·rw[hc]at z;cases z;exact hb rfl
end
structure Un(fs ex:List Addr)(H H':Hp)(h h':Heap):Prop where
 keep:∀ b o,h.get? b=some o->H b=none->b∉fs->b∉ex->h'.get? b=some o
 slot:∀ b o,h.get? b=some o->H b=none->b∈fs->b∉ex->∃ sl,h'.get? b=some { o with slots:=sl }
 free:∀ b o,h.get? b=some o->H b=none->b∉ex->H' b=none
 there:∀ b o,h.get? b=some o->b∉ex->∃ o',h'.get? b=some o'
 tups:∀ b xs,H b=some (.tup xs)->H' b=some (.tup xs)
 frzs:∀ b o u,H b=some (.frz o u)->H' b=some (.frz o u)
 tbls:∀ b ps,H b=some (.tbl ps)->∃ more,H' b=some (.tbl (ps++more))
section
variable{fs fs' ex ex':List Addr}{H H1 H2:Hp}{h h1 h2 h':Heap}{a x e:Addr}{o:HO}
theorem Un.any(u:Un fs ex H H1 h h1){b:Addr}{ob:Obj}(q:h.get? b=some ob)(n:H b=none)(hx:b∉ex):∃ sl,h1.get? b=some { ob with slots:=sl }:=by
 by_cases hb:b∈fs
 ·exact u.slot b ob q n hb hx
 ·exact⟨ob.slots,u.keep b ob q n hb hx⟩
theorem Un.kept(k:∀ b u,h.get? b=some u->h'.get? b=some u):Un fs ex H H h h' :=
 ⟨fun b ob q _ _ _=>k b ob q,fun b ob q _ _ _=>⟨ob.slots,k b ob q⟩,fun _ _ _ n _=>n,fun b ob q _=>⟨ob,k b ob q⟩,fun _ _ q=>q,fun _ _ _ q=>q,fun _ ps q=>⟨#[],by rw[q];simp⟩⟩
theorem Un.refl:Un fs ex H H h h:=Un.kept fun _ _ q=>q
theorem Un.laid(k:∀ b u,h.get? b=some u->h'.get? b=some u)(hp:h.objs.size<=a)(hn:H a=none):Un fs ex H (upd H a o) h h' where
 keep:=fun b u q _ _ _=>k b u q
 slot:=fun b u q _ _ _=>⟨u.slots,k b u q⟩
 free:=fun b u q n _=>by rw[ai (FG (FP (Heap.lt_size q) hp))];exact n
 there:=fun b u q _=>⟨u,k b u q⟩
 tups:=fun b xs q=>by rw[ai (aI q hn)];exact q
 frzs:=fun b u xs q=>by rw[ai (aI q hn)];exact q
 tbls:=fun b ps q=>⟨#[],by rw[ai (aI q hn),q];simp⟩
theorem Un.write(mu:Mut (H x))(he:e=x∨H e=some (.own x))(k:∀ b u,b≠e->h.get? b=some u->h'.get? b=some u)(heo:∃ u,h'.get? e=some u):Un fs ex H (upd H x o) h h':=by
 have hx:∀ b,H b=none->b≠x:=fun b n z=>by subst z;rw[n]at mu;exact mu
 have hb:∀ b,H b=none->b≠e:=fun b n z=>by
  subst z
  rcases he with r | r
  ·exact hx b n r
  ·rw[n]at r;cases r
 have hm:∀ b u,H b=some u->¬ Mut (some u)->b≠x:=fun b u q nm z=>by subst z;rw[q]at mu;exact nm mu
 refine⟨fun b u q n _ _=>k b u (hb b n) q,fun b u q n _ _=>⟨u.slots,k b u (hb b n) q⟩,fun b u q n _=>by rw[ai (hx b n)];exact n,fun b u q _=>?_,
  fun b xs q=>by rw[ai (hm b _ q fun z=>z)];exact q,fun b u xs q=>by rw[ai (hm b _ q fun z=>z)];exact q,fun b ps q=>⟨#[],by rw[ai (hm b _ q fun z=>z),q];simp⟩⟩
 by_cases hbe:b=e
 ·subst hbe;exact heo
 ·exact⟨u,k b u hbe q⟩
end
def trk(h:Heap)(H:Hp):List Addr:=(GC h.objs.size).filter fun a=>(H a).isSome
def hidT(h:Heap)(H:Hp):Heap:=PySem.W.hideAll h (trk h H)
theorem Bv(h:Heap)(H:Hp):(hidT h H).objs.size=h.objs.size:=PySem.W.hideAll_size _ _
theorem lU{h:Heap}{H:Hp}{b:Addr}{o:Obj}(e:h.get? b=some o)(n:H b=none):(hidT h H).get? b=some o :=
 PySem.W.hideAll_get _ e fun hm=>by
  have q:(H b).isSome=true:=(List.mem_filter.mp hm).2
  rw[n]at q;simp at q
theorem Ek{h:Heap}{H:Hp}{b:Addr}{o:Obj}(e:(hidT h H).get? b=some o):h.get? b=some o/\H b=none:=by
 have e':h.get? b=some o:=PySem.W.of_hideAll (trk h H) e
 refine⟨e',?_⟩
 cases q:H b with
 |none=>rfl
 |some x =>
  have hm:b∈trk h H:=List.mem_filter.mpr ⟨HY.mpr (Heap.lt_size e'),by simp[q]⟩
  have z:(hidT h H).get? b=none:=PySem.W.hideAll_none (trk h H) hm
  rw[z]at e;cases e
end L2
namespace L2
open PySem PySem.Spec PyProof.Rows
structure Mod(K:E6)(mg:Str->Option Value)(base:Heap):Prop where
 kin:K.In base
 glob:base.Ns mainGlobals mg
 blt:∃ mb,base.Ns builtinsNs mb/\∀ x:Str,x≠"__name__"->mb x=bootBuiltins x
 nolimit:base.NoLimit
structure Cx where
 prog:Program
 w:World
 K:E6
 mg:Str->Option Value
 base:Heap
 A:Around
 N:List Str
 s₀:Shared
 H₀:Hp
 env:Env
 outer:List Env
 stack:List Env
 ex:List Addr
 fn:Str->Bool
 calm:Bool
 pn:List (Addr×Obj)
 xe:Value->Shared->Prop
def frs(l:List Env):List Addr:=l.filterMap (·.frame)
abbrev Cx.fs(X:Cx):List Addr:=frs X.outer
def Vis(sc:Scope)(x:Str):Prop:=sc.names.lookup x=some .local∨sc.names.lookup x=some .cell∨sc.names.lookup x=some .free
def Loc(sc:Scope)(x:Str):Prop:=sc.names.lookup x=some .local∨sc.names.lookup x=some .cell
def Look(env:Env)(h:Heap)(m:Str->Option Value)(x:Str)(u:Value):Prop :=
 (env.kindOf x=some .local/\m x=some u)∨((env.kindOf x=some .cell∨env.kindOf x=some .free)/\∃ c,env.cells.lookup x=some c/\h.IsCell c (some u))
structure Cx.Ok(X:Cx):Prop where
 mod:Mod X.K X.mg X.base
 kind:X.env.scope.kind=.function
 glob:X.env.globals=mainGlobals
 blt:X.env.builtins=builtinsNs
 above:X.s₀.heap.objs.size<=X.env.locals
 inj:∀ x y c,X.env.cells.lookup x=some c->X.env.cells.lookup y=some c->x=y
 has:∀ x,(X.env.kindOf x=some .cell∨X.env.kindOf x=some .free)->∃ c,X.env.cells.lookup x=some c
 cab:∀ x c,X.fn x=true->X.env.cells.lookup x=some c->X.s₀.heap.objs.size<=c
 hd:X.calm=true->X.A.handled=none
 frames:X.A.frames=some X.stack
 stk:X.stack=X.outer∨(X.stack=X.env::X.outer/\X.env.frame=some X.env.locals)
 exf:∀ b∈X.ex,b≠X.env.locals/\∀ x c,X.env.cells.lookup x=some c->c≠b
 bs:∀ b o,X.base.get? b=some o->X.s₀.heap.get? b=some o/\X.H₀ b=none
 bsz:X.base.objs.size<=X.s₀.heap.objs.size
 noex:∀ b o,X.base.get? b=some o->b∉X.ex
 exfs:∀ b∈X.ex,b∉X.fs
 funs:X.s₀.heap.FunFrames X.base X.outer
 frf:∀ b∈X.fs,X.H₀ b=none
structure Inv(X:Cx)(pins:List (Addr×Obj))(σ:List (Option V))(H:Hp)(s:Shared):Prop where
 ok:X.Ok
 os:s.os=X.s₀.os
 bare:AllBare s.gens
 base:Un X.fs X.ex X.H₀ H X.s₀.heap s.heap
 loc:∃ m,s.heap.Ns X.env.locals m/\∀(i:Nat)(x:Str)(v:V),X.N[i]?=some x->σ[i]?=some (some v)->Vis X.env.scope x->∃ u,RelV v u/\Look X.env s.heap m x u
 cell:∀ x c,X.env.cells.lookup x=some c->∃ v,s.heap.IsCell c v
 free:H X.env.locals=none
 freeC:∀ x c,X.env.cells.lookup x=some c->H c=none
 pin:∀ p∈X.pn++pins,s.heap.get? p.1=some p.2/\H p.1=none/\p.1≠X.env.locals/\p.1∉X.fs/\∀ v,p.2.data≠.cell v
 hok:HOk X.prog X.w H s.heap
 len:σ.length=X.N.length
section
variable{X:Cx}{pins:List (Addr×Obj)}{σ:List (Option V)}{H H':Hp}{s:Shared}{h':Heap}
theorem Cx.Ok.nofr(ok:X.Ok){b:Addr}{o:Obj}(e:X.base.get? b=some o):b∉X.fs:=fun hb=>by
 have:=(ok.funs.mem hb).1
 rw[e]at this;cases this
theorem Inv.bs(I:Inv X pins σ H s):∀ b o,X.base.get? b=some o->s.heap.get? b=some o/\H b=none:=fun b o e =>
 ⟨I.base.keep b o (I.ok.bs b o e).1 (I.ok.bs b o e).2 (I.ok.nofr e) (I.ok.noex b o e),I.base.free b o (I.ok.bs b o e).1 (I.ok.bs b o e).2 (I.ok.noex b o e)⟩
theorem Inv.bk(I:Inv X pins σ H s):∀ b o,X.base.get? b=some o->s.heap.get? b=some o:=fun b o e=>(I.bs b o e).1
theorem Inv.mod(I:Inv X pins σ H s):Mod X.K X.mg X.base:=I.ok.mod
theorem Inv.kIn(I:Inv X pins σ H s):X.K.In s.heap:=I.ok.mod.kin.keeps I.bk
theorem Inv.nolimit(I:Inv X pins σ H s):s.heap.NoLimit:=I.ok.mod.nolimit.keeps I.bk
theorem Inv.lt(I:Inv X pins σ H s):X.env.locals<s.heap.objs.size:=let ⟨_,hn,_⟩:=I.loc;hn.lt
theorem Inv.sz(I:Inv X pins σ H s):X.s₀.heap.objs.size<=s.heap.objs.size:=F4 I.ok.above (F0 I.lt)
theorem Inv.nofs(I:Inv X pins σ H s){a:Addr}(h:s.heap.objs.size<=a):a∉X.fs:=fun hb=>by
 obtain⟨_,o,ho,_⟩:=I.ok.funs.mem hb
 exact absurd (FP (Heap.lt_size ho) (F4 I.sz h)) (F9 _)
theorem Inv.cne(I:Inv X pins σ H s):∀ x c,X.env.cells.lookup x=some c->c≠X.env.locals:=fun x c e z=>by
 obtain⟨v,o,ho,hd⟩:=I.cell x c e
 obtain⟨m,⟨o',es,ep,ho',hd',_⟩,_⟩:=I.loc
 rw[z,ho']at ho;cases ho;rw[hd']at hd;cases hd
theorem Inv.funs(I:Inv X pins σ H s):s.heap.FunFrames X.base X.outer:=by
 have all:∀(l:List Env),(∀ b∈frs l,b∈X.fs)->X.s₀.heap.FunFrames X.base l->s.heap.FunFrames X.base l:=by
  intro l
  induction l with
  |nil=>intro _ _;trivial
  |cons env r ih =>
   intro hs hl
   obtain⟨hk,⟨L,o,hf,hn,ho,hd⟩,hr⟩:=hl
   have hL:L∈X.fs:=hs L (by unfold frs;rw[Ht,hf];exact Fi)
   obtain⟨sl,e⟩:=I.base.slot L o ho (I.ok.frf L hL) hL fun z=>I.ok.exfs L z hL
   exact⟨hk,⟨L,_,hf,hn,e,hd⟩,ih (fun b hb=>hs b (by unfold frs;rw[Ht,hf];exact Fh _ hb)) hr⟩
 exact all X.outer (fun _ hb=>hb) I.ok.funs
theorem Inv.stack(I:Inv X pins σ H s):s.heap.FunFrames X.base X.stack:=by
 rcases I.ok.stk with e | ⟨e,hf⟩
 ·rw[e];exact I.funs
 ·rw[e]
  obtain⟨m,hn,_⟩:=I.loc
  refine .cons (by rw[I.ok.kind];decide) hf hn ?_ I.funs
  exact Heap.get?_none_of_le (F4 I.ok.bsz I.ok.above)
theorem Inv.stkSub(I:Inv X pins σ H s):∀ b∈frs X.stack,b∈X.env.locals::X.fs:=fun b hb=>by
 rcases I.ok.stk with e | ⟨e,hf⟩
 ·rw[e]at hb;exact Fh _ hb
 ·rw[e]at hb
  unfold frs at hb
  rw[Ht,hf]at hb
  exact hb
theorem Inv.stkFree(I:Inv X pins σ H s):∀ b∈frs X.stack,H b=none:=fun b hb=>by
 rcases Fb.mp (I.stkSub b hb)with e | hb
 ·rw[e];exact I.free
 ·obtain⟨_,o,ho,_⟩:=I.ok.funs.mem hb
  exact I.base.free b o ho (I.ok.frf b hb) fun z=>I.ok.exfs b z hb
theorem Inv.step{g':Array GenState}{t':Nat}{d':Drawn}{ch:List Addr}(I:Inv X pins σ H s)
  (hch:∀ b∈ch,(b∈X.ex∨X.s₀.heap.objs.size<=b)/\b≠X.env.locals/\(∀ x c,X.env.cells.lookup x=some c->c≠b)/\∀ p∈X.pn++pins,p.1≠b)
  (keep:∀ b o,b≠X.env.locals->b∉X.fs->b∉ch->s.heap.get? b=some o->H b=none->h'.get? b=some o)
  (slot:∀ b o,b≠X.env.locals->b∈X.fs->b∉ch->s.heap.get? b=some o->H b=none->∃ sl,h'.get? b=some { o with slots:=sl }) (free:∀ b o,b∉ch->s.heap.get? b=some o->H b=none->H' b=none)
  (there:∀ b o,b∉ch->s.heap.get? b=some o->∃ o',h'.get? b=some o')
  (tups:∀ b xs,H b=some (.tup xs)->H' b=some (.tup xs)) (frzs:∀ b o u,H b=some (.frz o u)->H' b=some (.frz o u)) (tbls:∀ b ps,H b=some (.tbl ps)->∃ more,H' b=some (.tbl (ps++more)))
  (ns:∀ m,s.heap.Ns X.env.locals m->h'.Ns X.env.locals m) (hok:HOk X.prog X.w H' h') (hg:AllBare g') :
  Inv X pins σ H' { s with heap:=h',gens:=g',drawn:=d',toks:=t' }:=by
 have neL:∀ b o,X.s₀.heap.get? b=some o->b≠X.env.locals:=fun b o e=>FG (FP (Heap.lt_size e) I.ok.above)
 have neC:∀ b o,X.s₀.heap.get? b=some o->b∉X.ex->b∉ch:=fun b o e hx hb=>by
  rcases(hch b hb).1 with z | z
  ·exact hx z
  ·exact absurd (FP (Heap.lt_size e) z) (F9 _)
 have cellK:∀ x c,X.env.cells.lookup x=some c->∀ v,s.heap.IsCell c v->h'.IsCell c v:=fun x c e v ⟨o,ho,hd⟩=>by
  have nch:c∉ch:=fun z=>(hch c z).2.2.1 x c e rfl
  by_cases hc:c∈X.fs
  ·obtain⟨sl,q⟩:=slot c o (I.cne x c e) hc nch ho (I.freeC x c e)
   exact⟨_,q,hd⟩
  ·exact⟨o,keep c o (I.cne x c e) hc nch ho (I.freeC x c e),hd⟩
 refine⟨I.ok,I.os,hg,⟨fun b o e n hb hx=>?_,fun b o e n hb hx=>?_,fun b o e n hx=>?_,fun b o e hx=>?_,fun b xs e=>tups b xs (I.base.tups b xs e),fun b o xs e=>frzs b o xs (I.base.frzs b o xs e),fun b ps e=>?_⟩,?_,fun x c e=>?_,?_,fun x c e=>?_,fun p hp=>?_,hok,I.len⟩
 ·exact keep b o (neL b o e) hb (neC b o e hx) (I.base.keep b o e n hb hx) (I.base.free b o e n hx)
 ·obtain⟨sl,e1⟩:=I.base.slot b o e n hb hx
  obtain⟨sl',e2⟩:=slot b _ (neL b o e) hb (neC b o e hx) e1 (I.base.free b o e n hx)
  exact⟨sl',e2⟩
 ·obtain⟨o',e1⟩:=I.base.there b o e hx
  exact free b o' (neC b o e hx) e1 (I.base.free b o e n hx)
 ·obtain⟨o',e1⟩:=I.base.there b o e hx
  exact there b o' (neC b o e hx) e1
 ·obtain⟨m1,e1⟩:=I.base.tbls b ps e
  obtain⟨m2,e2⟩:=tbls b _ e1
  exact⟨m1++m2,by rw[e2,Array.append_assoc]⟩
 ·obtain⟨m,hn,hl⟩:=I.loc
  refine⟨m,ns m hn,fun i x v e1 e2 e3=>?_⟩
  obtain⟨u,r,l⟩:=hl i x v e1 e2 e3
  refine⟨u,r,?_⟩
  rcases l with l | ⟨k,c,e,z⟩
  ·exact .inl l
  ·exact .inr ⟨k,c,e,cellK x c e _ z⟩
 ·obtain⟨v,z⟩:=I.cell x c e
  exact⟨v,cellK x c e v z⟩
 ·obtain⟨m,⟨o,_,_,ho,_⟩,_⟩:=I.loc
  exact free _ o (fun z=>(hch _ z).2.1 rfl) ho I.free
 ·obtain⟨v,o,ho,hd⟩:=I.cell x c e
  exact free c o (fun z=>(hch c z).2.2.1 x c e rfl) ho (I.freeC x c e)
 ·obtain⟨e,n,ne,nf,d⟩:=I.pin p hp
  have nch:p.1∉ch:=fun z=>(hch p.1 z).2.2.2 p hp rfl
  exact⟨keep p.1 p.2 ne nf nch e n,free p.1 p.2 nch e n,ne,nf,d⟩
theorem Inv.un{t':Nat}(I:Inv X pins σ H s)(u:Un X.fs [] H H' s.heap h')(hok:HOk X.prog X.w H' h'):Inv X pins σ H' { s with heap:=h',toks:=t' }:=by
 obtain⟨m,⟨o,es,ep,ho,r⟩,_⟩:=id I.loc
 obtain⟨sl,hL⟩:=u.any ho I.free (by simp)
 exact I.step (g':=s.gens) (d':=s.drawn) (ch:=[]) (fun _ z=>nomatch z) (fun b o _ hb _ e n=>u.keep b o e n hb (by simp)) (fun b o _ hb _ e n=>u.slot b o e n hb (by simp)) (fun b o _ e n=>u.free b o e n (by simp)) (fun b o _ e=>u.there b o e (by simp)) u.tups u.frzs u.tbls (fun m' hm=>by
  obtain⟨o',es',ep',ho',r'⟩:=hm
  rw[ho]at ho';cases ho'
  exact⟨_,es',ep',hL,r'⟩) hok I.bare
theorem Inv.call{g':Array GenState}{t':Nat}{d':Drawn}{ch:List Addr}(I:Inv X pins σ H s)(u:Un (frs X.stack) ch H H' s.heap h')(hok:HOk X.prog X.w H' h')(hg:AllBare g')
  (hch:∀ b∈ch,(b∈X.ex∨X.s₀.heap.objs.size<=b)/\b≠X.env.locals/\(∀ x c,X.env.cells.lookup x=some c->c≠b)/\∀ p∈X.pn++pins,p.1≠b) :
  Inv X pins σ H' { s with heap:=h',gens:=g',drawn:=d',toks:=t' }:=by
 obtain⟨m,⟨o,es,ep,ho,r⟩,_⟩:=id I.loc
 obtain⟨sl,hL⟩:=u.any ho I.free fun z=>(hch _ z).2.1 rfl
 exact I.step (ch:=ch) hch (fun b o hL hb hc e n=>u.keep b o e n (fun z=>(Fb.mp (I.stkSub b z)).elim hL hb) hc) (fun b o _ _ hc e n=>u.any e n hc) (fun b o hc e n=>u.free b o e n hc) (fun b o hc e=>u.there b o e hc) u.tups u.frzs u.tbls (fun m' hm=>by
  obtain⟨o',es',ep',ho',r'⟩:=hm
  rw[ho]at ho';cases ho'
  exact⟨_,es',ep',hL,r'⟩) hok hg
theorem Inv.turned{t':Nat}{it:Addr}(I:Inv X pins σ H s)(k:∀ b o,b≠it->s.heap.get? b=some o->h'.get? b=some o)(hn:H it=none)(hL:it≠X.env.locals)
  (h1:it∈X.ex∨X.s₀.heap.objs.size<=it) (h2:∀ x c,X.env.cells.lookup x=some c->c≠it) (h3:∀ p∈X.pn++pins,p.1≠it):Inv X pins σ H { s with heap:=h',toks:=t' }:=by
 have nit:∀ b u,H b=some u->b≠it:=fun b u e z=>by rw[z,hn]at e;cases e
 refine I.step (g':=s.gens) (d':=s.drawn) (ch:=[it]) (fun b hb=>?_) (fun b o _ _ hc e _=>k b o (fun z=>hc (by simp[z])) e) (fun b o _ _ hc e _=>⟨o.slots,k b o (fun z=>hc (by simp[z])) e⟩) (fun _ _ _ _ n=>n)
  (fun b o hc e=>⟨o,k b o (fun z=>hc (by simp[z])) e⟩) (fun _ _ e=>e) (fun _ _ _ e=>e) (fun b ps e=>⟨#[],by rw[e];simp⟩) (fun m hm=>?_) (fun b u e=>?_) I.bare
 ·have e:b=it:=by simpa using hb
  subst e
  exact⟨h1,hL,h2,h3⟩
 ·obtain⟨o,es,ep,ho,r⟩:=hm
  exact⟨o,es,ep,k _ o (Ne.symm hL) ho,r⟩
 ·refine(I.hok b u e).stay (fun c v hc q=>k c v ?_ q) (fun _ q=>q) fun _ _ q=>q
  rcases hc with z | z
  ·rw[z];exact nit b u e
  ·exact nit c _ z
theorem Inv.tok(I:Inv X pins σ H s)(t:Nat):Inv X pins σ H { s with toks:=t }:=I.un (h':=s.heap) (t':=t) Un.refl I.hok
theorem Inv.kept{t':Nat}(I:Inv X pins σ H s)(k:∀ b u,s.heap.get? b=some u->h'.get? b=some u):Inv X pins σ H { s with heap:=h',toks:=t' }:=I.un (Un.kept k) (I.hok.kept k)
theorem Inv.laid{a:Addr}{o:HO}{t':Nat}(I:Inv X pins σ H s)(k:∀ b u,s.heap.get? b=some u->h'.get? b=some u)(hp:s.heap.objs.size<=a)(new:bM X.prog X.w (upd H a o) h' a o) :
  Inv X pins σ (upd H a o) { s with heap:=h',toks:=t' }:=I.un (Un.laid k hp (I.hok.fresh hp)) (I.hok.laid k hp new)
theorem Inv.write{x e:Addr}{o:HO}{t':Nat}(I:Inv X pins σ H s)(mu:Mut (H x))(he:e=x∨H e=some (.own x))(k:∀ b u,b≠e->s.heap.get? b=some u->h'.get? b=some u)(heo:∃ u,h'.get? e=some u)
  (new:bM X.prog X.w (upd H x o) h' x o):Inv X pins σ (upd H x o) { s with heap:=h',toks:=t' }:=I.un (Un.write mu he k heo) (I.hok.write mu he k heo new)
theorem Inv.weak{σ':List (Option V)}(I:Inv X pins σ H s)(hl:σ'.length=σ.length)(w:∀ (i:Nat) v,σ'[i]?=some (some v)->σ[i]?=some (some v)):Inv X pins σ' H s :=
 ⟨I.ok,I.os,I.bare,I.base,let ⟨m,hn,hl'⟩:=I.loc;⟨m,hn,fun i x v e1 e2 e3=>hl' i x v e1 (w i v e2) e3⟩,I.cell,I.free,I.freeC,I.pin,I.hok,hl.trans I.len⟩
theorem Inv.pins_of{pins':List (Addr×Obj)}(I:Inv X pins σ H s)(h:∀ p∈pins',s.heap.get? p.1=some p.2/\H p.1=none/\p.1≠X.env.locals/\p.1∉X.fs/\∀ v,p.2.data≠.cell v):Inv X pins' σ H s :=
 ⟨I.ok,I.os,I.bare,I.base,I.loc,I.cell,I.free,I.freeC,fun p hp=>(Fe.mp hp).elim (fun z=>I.pin p (FD _ z)) (h p),I.hok,I.len⟩
theorem yh{N:List Str}(hN:N.Nodup){i j:Nat}{x:Str}(a:N[i]?=some x)(b:N[j]?=some x):i=j:=by
 obtain⟨h1,e1⟩:=E3.mp a
 obtain⟨h2,e2⟩:=E3.mp b
 exact(List.getElem_inj hN).mp (e1.trans e2.symm)
theorem Aj{M:Model}{A:Around}{E:Value->Shared->Prop}{i:Nat}{x:Str}{v:V}{u:Value}{Q:Unit->Shared->Prop}(I:Inv X pins σ H s)(hN:X.N.Nodup)(hi:X.N[i]?=some x)(hx:Loc X.env.scope x)(r:RelV v u)
  (h:∀ s',Inv X pins (σ.set i (some v)) H s'->(∃ a,Heap.SameBut a s.heap s'.heap/\(a=X.env.locals∨X.env.cells.lookup x=some a))->Q () s') (hf:X.fn x=true∨X.env.scope.names.lookup x=some .local:=by first | exact .inl rfl | exact .inr rfl | assumption):wpAny M A (storeName X.env x u) Q E s:=by
 obtain⟨m,hn,hl⟩:=id I.loc
 have hcls:(X.env.scope.kind == .class||(X.env.scope.kind == .module&&X.env.locals != X.env.globals))=false:=by rw[I.ok.kind];rfl
 have hiσ:i<σ.length:=by rw[I.len];exact(E3.mp hi).1
 have cne:=I.cne
 have tracked:∀{a:Addr}{h':Heap},(∃ o,s.heap.get? a=some o/\H a=none)->Heap.SameBut a s.heap h'->HOk X.prog X.w H h':=fun{a h'} ha hs b ob e=>by
  obtain⟨_,_,hfree⟩:=ha
  refine(I.hok b ob e).stay (fun c w' hc q=>(hs.2 c ?_).trans q) (fun _ q=>q) fun _ _ q=>q
  rintro rfl
  rcases hc with rfl | hc
  ·rw[hfree]at e;cases e
  ·rw[hfree]at hc;cases hc
 rcases hx with hk | hk
 ·refine wpAny_storeName_local hk hn (fun h' hn' hs=>?_) hcls
  obtain⟨oL,_,_,hoL,_⟩:=id hn
  refine h _ ⟨I.ok,I.os,I.bare,⟨fun b o e n hb hx=>?_,fun b o e n hb hx=>?_,I.base.free,fun b o e hx=>?_,I.base.tups,I.base.frzs,I.base.tbls⟩,⟨_,hn',fun j y v' e1 e2 e3=>?_⟩,fun y c e=>?_,I.free,I.freeC,fun p hp=>?_,tracked ⟨oL,hoL,I.free⟩ hs,by simpa using I.len⟩ ⟨_,hs,.inl rfl⟩
  ·exact(hs.2 b (FG (FP (Heap.lt_size e) I.ok.above))).trans (I.base.keep b o e n hb hx)
  ·obtain⟨sl,e1⟩:=I.base.slot b o e n hb hx
   exact⟨sl,(hs.2 b (FG (FP (Heap.lt_size e) I.ok.above))).trans e1⟩
  ·obtain⟨o',e1⟩:=I.base.there b o e hx
   exact⟨o',(hs.2 b (FG (FP (Heap.lt_size e) I.ok.above))).trans e1⟩
  ·by_cases hj:j=i
   ·subst hj
    rw[hi]at e1;cases e1
    rw[Hd hiσ]at e2
    cases e2
    exact⟨u,r,.inl ⟨hk,by simp⟩⟩
   ·rw[HV (Ne.symm hj)]at e2
    obtain⟨u',r',q⟩:=hl j y v' e1 e2 e3
    refine⟨u',r',?_⟩
    rcases q with⟨k,e⟩ | ⟨k,c,e,z⟩
    ·refine .inl ⟨k,?_⟩
     have:y≠x:=fun e=>hj (yh hN e1 (e▸hi))
     simp[this,e]
    ·exact .inr ⟨k,c,e,z.sameBut hs (cne y c e)⟩
  ·obtain⟨w',z⟩:=I.cell y c e
   exact⟨w',z.sameBut hs (cne y c e)⟩
  ·obtain⟨e,n,ne,nf,d⟩:=I.pin p hp
   exact⟨(hs.2 p.1 ne).trans e,n,ne,nf,d⟩
 ·have hfn:X.fn x=true:=by
   rcases hf with z | z
   ·exact z
   ·rw[z]at hk;cases hk
  obtain⟨c,hc⟩:=I.ok.has x (.inl hk)
  obtain⟨w',z⟩:=I.cell x c hc
  refine wpAny_storeName_cell I.ok.kind hk hc z (fun h' hc' hs=>?_)
  obtain⟨oc,hoc,hocd⟩:=id z
  refine h { s with heap:=h' } ⟨I.ok,I.os,I.bare,⟨fun b o e n hb hx=>?_,fun b o e n hb hx=>?_,I.base.free,fun b o e hx=>?_,I.base.tups,I.base.frzs,I.base.tbls⟩,⟨m,hn.sameBut hs (Ne.symm (cne x c hc)),fun j y v' e1 e2 e3=>?_⟩,fun y c' e=>?_,I.free,I.freeC,fun p hp=>?_,tracked ⟨oc,hoc,I.freeC x c hc⟩ hs,by simpa using I.len⟩ ⟨c,hs,.inr hc⟩
  ·exact(hs.2 b (FG (FP (Heap.lt_size e) (I.ok.cab x c hfn hc)))).trans (I.base.keep b o e n hb hx)
  ·obtain⟨sl,e1⟩:=I.base.slot b o e n hb hx
   exact⟨sl,(hs.2 b (FG (FP (Heap.lt_size e) (I.ok.cab x c hfn hc)))).trans e1⟩
  ·obtain⟨o',e1⟩:=I.base.there b o e hx
   exact⟨o',(hs.2 b (FG (FP (Heap.lt_size e) (I.ok.cab x c hfn hc)))).trans e1⟩
  ·by_cases hj:j=i
   ·subst hj
    rw[hi]at e1;cases e1
    rw[Hd hiσ]at e2
    cases e2
    exact⟨u,r,.inr ⟨.inl hk,c,hc,hc'⟩⟩
   ·rw[HV (Ne.symm hj)]at e2
    obtain⟨u',r',q⟩:=hl j y v' e1 e2 e3
    refine⟨u',r',?_⟩
    rcases q with q | ⟨k,c',e,z'⟩
    ·exact .inl q
    ·refine .inr ⟨k,c',e,z'.sameBut hs ?_⟩
     rintro rfl
     exact hj (yh hN e1 (I.ok.inj _ _ _ e hc▸hi))
  ·by_cases hcc:c'=c
   ·subst hcc;exact⟨_,hc'⟩
   ·obtain⟨w2,z2⟩:=I.cell y c' e
    exact⟨w2,z2.sameBut hs hcc⟩
  ·obtain⟨e,n,ne,nf,d⟩:=I.pin p hp
   refine⟨(hs.2 p.1 ?_).trans e,n,ne,nf,d⟩
   intro q
   rw[q,hoc]at e
   have q':oc=p.2:=Fu e
   exact d w' (by rw[← q'];exact hocd)
theorem oP{M:Model}{A:Around}{E:Value->Shared->Prop}{i:Nat}{x:Str}{v:V}{u:Value}{Q:Unit->Shared->Prop}(I:Inv X pins σ H s)(hN:X.N.Nodup)(hi:X.N[i]?=some x)(hx:Loc X.env.scope x)(r:RelV v u)
  (h:∀ s',Inv X pins (σ.set i (some v)) H s'->Q () s') (hf:X.fn x=true∨X.env.scope.names.lookup x=some .local:=by first | exact .inl rfl | exact .inr rfl | assumption):wpAny M A (storeName X.env x u) Q E s :=
 Aj I hN hi hx r (fun s' I' _=>h s' I') hf
theorem Inv.call'{s':Shared}{ch:List Addr}(I:Inv X pins σ H s)(ho:s'.os=s.os)(u:Un (frs X.stack) ch H H' s.heap s'.heap)(hok:HOk X.prog X.w H' s'.heap)(hg:AllBare s'.gens)
  (hch:∀ b∈ch,(b∈X.ex∨X.s₀.heap.objs.size<=b)/\b≠X.env.locals/\(∀ x c,X.env.cells.lookup x=some c->c≠b)/\∀ p∈X.pn++pins,p.1≠b):Inv X pins σ H' s':=by
 obtain⟨h',g',d',t',o'⟩:=s'
 have e:o'=s.os:=ho
 subst e
 exact I.call (g':=g') (t':=t') (d':=d') u hok hg hch
end
abbrev XK:=Value->Option Addr->Hp->Prop
abbrev St:=List (Option V)
abbrev VK:=V->Hp->Prop
abbrev TE:=St->Hp->VK->Prop
abbrev TT:=St->Hp->(Bool->Hp->Prop)->Prop
abbrev TA:=St->Hp->(List V->Hp->Prop)->Prop
structure Ends where
 nx:St->Hp->Prop
 rt:VK
 bk:St->Hp->Prop:=fun _ _=>False
 ct:St->Hp->Prop:=fun _ _=>False
abbrev TS:=Ends->St->Hp->Prop
def EP(X:Cx)(pins:List (Addr×Obj))(σ:St)(Q:VK)(u:Value)(s':Shared):Prop:=∃ v H',Inv X pins σ H' s'/\RelV v u/\Q v H'
def TP(X:Cx)(pins:List (Addr×Obj))(σ:St)(Q:Bool->Hp->Prop)(b:Bool)(s':Shared):Prop:=∃ H',Inv X pins σ H' s'/\Q b H'
def AP(X:Cx)(pins:List (Addr×Obj))(σ:St)(Q:List V->Hp->Prop)(us:List Value)(s':Shared):Prop:=∃ vs H',Inv X pins σ H' s'/\Vals vs us/\Q vs H'
def SP(X:Cx)(pins:List (Addr×Obj))(D:Ends)(f:Flow)(s':Shared):Prop :=
 match f with
 |.next=>∃ σ' H',Inv X pins σ' H' s'/\D.nx σ' H'
 |.brk=>∃ σ' H',Inv X pins σ' H' s'/\D.bk σ' H'
 |.cont=>∃ σ' H',Inv X pins σ' H' s'/\D.ct σ' H'
 |.ret u=>∃ v σ' H',Inv X pins σ' H' s'/\RelV v u/\D.rt v H'
def PE(X:Cx)(e:Expr)(t:TE):Prop :=
 ∀(pins:List (Addr×Obj))(s:Shared)(σ:St)(H:Hp)(Q:VK),Inv X pins σ H s->t σ H Q->wpAny (model X.prog X.w) X.A (eval e X.env) (EP X pins σ Q) X.xe s
def PT(X:Cx)(e:Expr)(t:TT):Prop :=
 ∀(pins:List (Addr×Obj))(s:Shared)(σ:St)(H:Hp)(Q:Bool->Hp->Prop),Inv X pins σ H s->t σ H Q->wpAny (model X.prog X.w) X.A (isTrue e X.env (eval e X.env)) (TP X pins σ Q) X.xe s
def PW(X:Cx)(e:Expr)(t:TT):Prop :=
 ∀(whole:Sem Value)(pins:List (Addr×Obj))(s:Shared)(σ:St)(H:Hp)(Q:Bool->Hp->Prop),Inv X pins σ H s->t σ H Q->wpAny (model X.prog X.w) X.A (isTrue e X.env whole) (TP X pins σ Q) X.xe s
theorem PW.pt{X:Cx}{e:Expr}{t:TT}(h:PW X e t):PT X e t:=h _
def PA(X:Cx)(es:List Expr)(t:TA):Prop :=
 ∀(pos:Pos)(pins:List (Addr×Obj))(s:Shared)(σ:St)(H:Hp)(Q:List V->Hp->Prop),Inv X pins σ H s->t σ H Q->wpAny (model X.prog X.w) X.A (spliced (backTo pos (starEach es X.env))) (AP X pins σ Q) X.xe s
def PS(X:Cx)(st:Stmt)(t:TS):Prop :=
 ∀(pins:List (Addr×Obj))(s:Shared)(σ:St)(H:Hp)(D:Ends),Inv X pins σ H s->t D σ H->wpAny (model X.prog X.w) X.A (exec st X.env) (SP X pins D) X.xe s
def PSs(X:Cx)(st:List Stmt)(t:TS):Prop :=
 ∀(pins:List (Addr×Obj))(s:Shared)(σ:St)(H:Hp)(D:Ends),Inv X pins σ H s->t D σ H->wpAny (model X.prog X.w) X.A (execs st X.env) (SP X pins D) X.xe s
theorem thn{α:Type}{t:Sem α}{Q Q':α->Shared->Prop}{M:Model}{A:Around}{E:Value->Shared->Prop}{s:Shared}(h:wpAny M A t Q E s)(hQ:∀ a s,Q a s->Q' a s):wpAny M A t Q' E s:=wpAny_mono h hQ fun _ _ x=>x
end L2
namespace L2
open PySem PySem.Spec PyProof.Rows
section
variable{X:Cx}
def tVar(i:Nat):TE:=fun σ H Q=>∃ v,σ[i]?=some (some v)/\Q v H
def tC(v:V):TE:=fun _ H Q=>Q v H
theorem pe_var{i:Nat}{x:Str}{pos:Pos}(hN:X.N[i]?=some x)(hv:Vis X.env.scope x) (hd:(x == ("__debug__" : Str))=false:=by decide) (hcd:(x == ("__classdict__" : Str))=false:=by decide):PE X (.Name x pos) (tVar i):=by
 intro pins s σ H Q I h
 obtain⟨v,e,h⟩:=h
 obtain⟨m,hn,hl⟩:=I.loc
 obtain⟨u,r,l⟩:=hl i x v hN e hv
 have fin:EP X pins σ Q u s:=⟨v,H,I,r,h⟩
 rcases l with⟨hk,hm⟩ | ⟨hk,c,hc,hcell⟩
 ·exact wpAny_Name (wpAny_loadName_local I.ok.kind hk hn hm fin) hd
 ·rcases hk with hk | hk
  ·exact wpAny_Name (wpAny_loadName_cell I.ok.kind hk hc hcell fin) hd
  ·exact wpAny_Name (wpAny_loadName_free I.ok.kind hk hc hcell fin hcd) hd
theorem aj{i j pos}:PE X (.Constant (.int i) j pos) (tC (.int i)):=fun _ _ _ H _ I h=>wpAny_Constant_int ⟨.int i,H,I.tok _,⟨_,rfl⟩,h⟩
theorem nR{b j pos}:PE X (.Constant (.bool b) j pos) (tC (.bl b)):=fun _ _ _ H _ I h=>Constant_bool ⟨.bl b,H,I,rfl,h⟩
theorem pe_non{j pos}:PE X (.Constant .none j pos) (tC .non):=fun _ _ _ H _ I h=>Constant_none ⟨.non,H,I,rfl,h⟩
def Gl(X:Cx)(x:Str):Prop:=X.env.kindOf x=some .globalImplicit
theorem qd{E:Value->Shared->Prop}{pins:List (Addr×Obj)}{s:Shared}{σ:St}{H:Hp}{x:Str}{u:Value}{pos:Pos}{Q:Value->Shared->Prop}(I:Inv X pins σ H s)(hg:Gl X x)(hm:X.mg x=some u)(h:Q u s)
  (hd:(x == ("__debug__" : Str))=false:=by decide):wpAny (model X.prog X.w) X.A (eval (.Name x pos) X.env) Q E s :=
 Calls.Name_function_global I.ok.kind hg (Calls.loadGlobal_global (by rw[I.ok.glob];exact I.mod.glob.keeps I.bk) hm h) hd
theorem sX{E:Value->Shared->Prop}{pins:List (Addr×Obj)}{s:Shared}{σ:St}{H:Hp}{x:Str}{u:Value}{pos:Pos}{Q:Value->Shared->Prop}(I:Inv X pins σ H s)(hg:Gl X x)(hm:X.mg x=none)(hv:bootBuiltins x=some u)(h:Q u s)
  (hn:x≠"__name__":=by decide) (hd:(x == ("__debug__" : Str))=false:=by decide):wpAny (model X.prog X.w) X.A (eval (.Name x pos) X.env) Q E s:=by
 obtain⟨mb,h1,h2⟩:=I.mod.blt
 exact Calls.Name_function_global I.ok.kind hg (Calls.loadGlobal_builtin (by rw[I.ok.glob];exact I.mod.glob.keeps I.bk) hm (by rw[I.ok.blt];exact h1.keeps I.bk) ((h2 x hn).trans hv) h) hd
theorem D9{x:Str}{v:V}{u:Value}{pos:Pos}(hg:Gl X x)(hm:X.mg x=some u)(r:RelV v u) (hd:(x == ("__debug__" : Str))=false:=by decide):PE X (.Name x pos) (tC v) :=
 fun _ _ _ H _ I h=>qd I hg hm ⟨v,H,I,r,h⟩ hd
theorem vL{x:Str}{v:V}{u:Value}{pos:Pos}(hg:Gl X x)(hm:X.mg x=none)(hv:bootBuiltins x=some u)(r:RelV v u) (hn:x≠"__name__":=by decide) (hd:(x == ("__debug__" : Str))=false:=by decide):PE X (.Name x pos) (tC v) :=
 fun _ _ _ H _ I h=>sX I hg hm hv ⟨v,H,I,r,h⟩ hn hd
variable{a b:Expr}{ta tb:TE}{pos:Pos}
def PC(X:Cx)(op:CmpOp)(a b:Expr)(t:TE):Prop :=
 ∀(pins:List (Addr×Obj))(s:Shared)(σ:St)(H:Hp)(Q:VK),Inv X pins σ H s->t σ H Q ->
  wpAny (model X.prog X.w) X.A (eval a X.env) (fun v s₁=>wpAny (model X.prog X.w) X.A (eval b X.env) (fun u s₂=>wpAny (model X.prog X.w) X.A (compareOp op v u) (EP X pins σ Q) X.xe s₂) X.xe s₁) X.xe s
def tB(t:TE):TT:=fun σ H Q=>t σ H fun x H1=>∃ c,x=.bl c/\Q c H1
theorem ya{op:CmpOp}{t:TE}(h:PC X op a b t)(h1:behindInMarks op b=false:=by first | exact nobehind _ (by decide) (by decide) | rfl):PT X (.Compare a [op] [b] pos) (tB t):=by
 intro pins s σ H Q I hw
 refine wpAny_isTrue_Compare1 (thn (h pins s σ H _ I hw) fun v s1 h1=>thn h1 fun u s2 h2=>thn h2 fun c s3 ⟨x,H1,I1,r1,q1⟩=>?_) h1
 obtain⟨d,rfl,q⟩:=q1
 cases r1
 exact wpAny_truthy_bool ⟨H1,I1,q⟩
theorem oo{e:Expr}{t:TE}(h:PE X e t)(he:∀ whole,isTrue e X.env whole=(do let v ← whole;standAt e.pos;holding [v] (truthy v)):=by intro _;rfl):PT X e (tB t):=by
 intro pins s σ H Q I hw
 refine isTrue_plain (thn (h pins s σ H _ I hw) fun v s1 ⟨x,H1,I1,r1,q1⟩=>?_) (he _)
 obtain⟨d,rfl,q⟩:=q1
 cases r1
 exact wpAny_truthy_bool ⟨H1,I1,q⟩
variable{tA tB':TT}{rest:List Expr}
def tAnd(t u:TT):TT:=fun σ H Q=>t σ H fun c H1=>if c=true then u σ H1 Q else Q false H1
def tOr(t u:TT):TT:=fun σ H Q=>t σ H fun c H1=>if c=true then Q true H1 else u σ H1 Q
def tNot(t:TT):TT:=fun σ H Q=>t σ H fun c H1=>Q (!c) H1
theorem vw(ha:PT X a tA):PW X (.BoolOp .And [a] pos) tA:=by
 intro wh pins s σ H Q I h
 refine isTrue_and (thn (ha pins s σ H Q I h) fun c s1 e=>?_)
 cases c with
 |true=>exact isTrue_and_nil e
 |false=>exact e
theorem xZ(ha:PT X a tA):PW X (.BoolOp .Or [a] pos) tA:=by
 intro wh pins s σ H Q I h
 refine isTrue_or (thn (ha pins s σ H Q I h) fun c s1 e=>?_)
 cases c with
 |false=>exact isTrue_or_nil e
 |true=>exact e
theorem AG(ha:PT X a tA)(hb:PW X (.BoolOp .And (b::rest) pos) tB'):PW X (.BoolOp .And (a::b::rest) pos) (tAnd tA tB'):=by
 intro wh pins s σ H Q I h
 refine isTrue_and (thn (ha pins s σ H _ I h) fun c s1 ⟨H1,I1,q1⟩=>?_)
 cases c with
 |true=>exact hb wh pins s1 σ H1 Q I1 q1
 |false=>exact⟨H1,I1,q1⟩
theorem AF(ha:PT X a tA)(hb:PW X (.BoolOp .Or (b::rest) pos) tB'):PW X (.BoolOp .Or (a::b::rest) pos) (tOr tA tB'):=by
 intro wh pins s σ H Q I h
 refine isTrue_or (thn (ha pins s σ H _ I h) fun c s1 ⟨H1,I1,q1⟩=>?_)
 cases c with
 |true=>exact⟨H1,I1,q1⟩
 |false=>exact hb wh pins s1 σ H1 Q I1 q1
theorem x9(ha:PT X a tA):PT X (.UnaryOp .Not a pos) (tNot tA):=by
 intro pins s σ H Q I h
 exact isTrue_not (ha pins s σ H (fun c H1=>Q (!c) H1) I h)
def tAndV(ta tb:TE):TE:=fun σ H Q=>ta σ H fun x H1=>∃ c,x=.bl c/\if c=true then tb σ H1 Q else Q (.bl false) H1
def tNotV(ta:TE):TE:=fun σ H Q=>ta σ H fun x H1=>∃ c,x=.bl c/\Q (.bl (!c)) H1
theorem pe_one{op}{t:TE}(h:PE X a t):PE X (.BoolOp op [a] pos) t:=fun pins s σ H Q I hw=>BoolOp_one (h pins s σ H Q I hw)
theorem pe_and(ha:PE X a ta)(hb:PE X (.BoolOp .And (b::rest) pos) tb):PE X (.BoolOp .And (a::b::rest) pos) (tAndV ta tb):=by
 intro pins s σ H Q I h
 refine BoolOp_and (thn (ha pins s σ H _ I h) fun v s1 ⟨x,H1,I1,r1,q1⟩=>?_)
 obtain⟨c,rfl,q1⟩:=q1
 cases r1
 refine wpAny_truthy_bool ?_
 cases c with
 |true=>exact hb pins s1 σ H1 Q I1 q1
 |false=>exact⟨.bl false,H1,I1,rfl,q1⟩
theorem pe_not(ha:PE X a ta):PE X (.UnaryOp .Not a pos) (tNotV ta):=by
 intro pins s σ H Q I h
 refine UnaryOp_ (thn (ha pins s σ H _ I h) fun v s1 ⟨x,H1,I1,r1,q1⟩=>?_)
 obtain⟨c,rfl,q1⟩:=q1
 cases r1
 exact not_of (wpAny_truthy_bool ⟨.bl (!c),H1,I1,rfl,q1⟩)
def tIf(t:TT)(ta tb:TE):TE:=fun σ H Q=>t σ H fun c H1=>if c=true then ta σ H1 Q else tb σ H1 Q
theorem pL{c:Expr}(hc:PT X c tA)(ha:PE X a ta)(hb:PE X b tb):PE X (.IfExp c a b pos) (tIf tA ta tb):=by
 intro pins s σ H Q I h
 refine wpAny_IfExp (thn (hc pins s σ H _ I h) fun d s1 ⟨H1,I1,q1⟩=>?_)
 cases d with
 |true=>exact ha pins s1 σ H1 Q I1 q1
 |false=>exact hb pins s1 σ H1 Q I1 q1
end
end L2
namespace L2
open PySem PySem.Spec PyProof.Rows
def SqL(K:E6)(H:Hp)(a:Addr)(xs:List V):Prop :=
 Rd H a (.lst xs) ∨
  ∃(o:Obj)(its:Array Value)(n:Nat),K.lookup a=some o/\o.cls=.type "list"/\o.dict=none/\o.data=.seq its n/\its.size<=sizeLine/\Vals xs its.toList
def SqT(K:E6)(H:Hp)(a:Addr)(xs:List V):Prop :=
 Rd H a (.tup xs) ∨
  ∃(o:Obj)(its:Array Value)(n:Nat),K.lookup a=some o/\o.cls=.type "tuple"/\o.data=.seq its n/\its.size<=sizeLine/\Vals xs its.toList
def absV:Value->Option V
 |.none=>some .non
 |.bool b=>some (.bl b)
 |.int i _=>some (.int i)
 |.str x _=>some (.str x)
 |.bytes b _=>some (.byt b)
 |.float b _=>some (.flt b)
 |.ref a=>some (.ref a)
 |.type n=>some (.ty n)
 |_=>none
theorem RelV.abs{x:V}{u:Value}(r:RelV x u):absV u=some x:=by
 cases x with
 |non=>cases r;rfl
 |bl _=>cases r;rfl
 |int _=>obtain⟨t,rfl⟩:=r;rfl
 |str _=>obtain⟨t,rfl⟩:=r;rfl
 |byt _=>obtain⟨t,rfl⟩:=r;rfl
 |flt _=>obtain⟨t,rfl⟩:=r;rfl
 |ref _=>cases r;rfl
 |ty _=>cases r;rfl
theorem RelV.inj{x y:V}{u:Value}(r:RelV x u)(q:RelV y u):x=y:=Fu (r.abs.symm.trans q.abs)
theorem Vals.inj:∀{xs ys:List V}{us:List Value},Vals xs us->Vals ys us->xs=ys
 |_,_,_,.nil,.nil=>rfl
 |_,_,_,.cons r t,.cons r' t'=>by rw[r.inj r',Vals.inj t t']
section
variable{X:Cx}{pins:List (Addr×Obj)}{σ:St}{H:Hp}{s:Shared}{a:Addr}{xs ys:List V}
theorem SqL.of{K:E6}(h:H a=some (.lst xs)):SqL K H a xs:=.inl (.inl h)
theorem SqT.of{K:E6}(h:H a=some (.tup xs)):SqT K H a xs:=.inl (.inl h)
theorem Inv.list(I:Inv X pins σ H s)(h:SqL X.K H a xs):∃ its:List Value,Vals xs its/\PlainL s.heap a its.toArray/\xs.length<=sizeLine:=by
 rcases h with h | ⟨o,its,n,hk,hc,hd,hs,hz,r⟩
 ·obtain⟨z,its,n,r,e⟩:=h.ok I.hok
  exact⟨its,r,⟨_,n,e,rfl,rfl,rfl⟩,z⟩
 ·refine⟨its.toList,r,⟨o,n,I.kIn a o hk,hc,hd,by simpa using hs⟩,?_⟩
  have e:=r.length
  simp only[Gu]at e
  omega
theorem Inv.tuple(I:Inv X pins σ H s)(h:SqT X.K H a xs):∃ its:List Value,Vals xs its/\IsTup s.heap a its.toArray/\xs.length<=sizeLine:=by
 rcases h with h | ⟨o,its,n,hk,hc,hs,hz,r⟩
 ·obtain⟨z,its,r,p⟩:=h.ok I.hok
  exact⟨its,r,p,z⟩
 ·refine⟨its.toList,r,⟨o,I.kIn a o hk,hc,n,by simpa using hs⟩,?_⟩
  have e:=r.length
  simp only[Gu]at e
  omega
theorem Inv.list_inj(I:Inv X pins σ H s)(h:SqL X.K H a xs)(h':SqL X.K H a ys):xs=ys:=by
 obtain⟨its,r,⟨o,n,e,_,_,d⟩,_⟩:=I.list h
 obtain⟨its',r',⟨o',n',e',_,_,d'⟩,_⟩:=I.list h'
 rw[e]at e';cases e'
 rw[d]at d'
 injection d' with d1 _
 have:its=its':=by simpa using congrArg Array.toList d1
 subst this
 exact r.inj r'
end
abbrev Cx.wish(X:Cx)(E:Value->Shared->Prop):Cx:={ X with xe:=E }
abbrev Cx.nox(X:Cx):Cx:=X.wish fun _ _=>False
theorem Cx.Ok.wish{X:Cx}(ok:X.Ok)(E:Value->Shared->Prop):(X.wish E).Ok :=
 ⟨ok.mod,ok.kind,ok.glob,ok.blt,ok.above,ok.inj,ok.has,ok.cab,ok.hd,ok.frames,ok.stk,ok.exf,ok.bs,ok.bsz,ok.noex,ok.exfs,ok.funs,ok.frf⟩
theorem Cx.Ok.unwish{X:Cx}{E:Value->Shared->Prop}(ok:(X.wish E).Ok):X.Ok :=
 ⟨ok.mod,ok.kind,ok.glob,ok.blt,ok.above,ok.inj,ok.has,ok.cab,ok.hd,ok.frames,ok.stk,ok.exf,ok.bs,ok.bsz,ok.noex,ok.exfs,ok.funs,ok.frf⟩
section
variable{X:Cx}{pins:List (Addr×Obj)}{σ:St}{H:Hp}{s:Shared}{E:Value->Shared->Prop}
theorem Inv.wish(I:Inv X pins σ H s)(E:Value->Shared->Prop):Inv (X.wish E) pins σ H s:=⟨I.ok.wish E,I.os,I.bare,I.base,I.loc,I.cell,I.free,I.freeC,I.pin,I.hok,I.len⟩
theorem Inv.unwish(I:Inv (X.wish E) pins σ H s):Inv X pins σ H s:=⟨I.ok.unwish,I.os,I.bare,I.base,I.loc,I.cell,I.free,I.freeC,I.pin,I.hok,I.len⟩
theorem SP.unwish{D:Ends}{f:Flow}{s':Shared}(h:SP (X.wish E) pins D f s'):SP X pins D f s':=by
 cases f with
 |next=>obtain⟨σ',H',I,q⟩:=h;exact⟨σ',H',I.unwish,q⟩
 |brk=>obtain⟨σ',H',I,q⟩:=h;exact⟨σ',H',I.unwish,q⟩
 |cont=>obtain⟨σ',H',I,q⟩:=h;exact⟨σ',H',I.unwish,q⟩
 |ret u=>obtain⟨v,σ',H',I,r,q⟩:=h;exact⟨v,σ',H',I.unwish,r,q⟩
theorem PSs.nox{st:List Stmt}{t:TS}(h:PSs X.nox st t):PSs X st t:=fun pins s σ H D I hw =>
 wpAny_mono (h pins s σ H D (I.wish _) hw) (fun _ _ q=>q.unwish) fun _ _ z=>False.elim z
end
section
variable{X:Cx}{st:Stmt}{rest:List Stmt}{t u:TS}{e:Expr}{te:TE}{pos:Pos}
def tNext:TS:=fun D σ H=>D.nx σ H
def tSeq(t u:TS):TS:=fun D σ H=>t { D with nx:=u D } σ H
theorem aW:PSs X [] tNext:=fun _ _ σ H _ I h=>wpAny_execs_nil ⟨σ,H,I,h⟩
theorem af(h1:PS X st t)(h2:PSs X rest u):PSs X (st::rest) (tSeq t u):=by
 intro pins s σ H D I h
 refine wpAny_execs_cons (thn (h1 pins s σ H { D with nx:=u D } I h) fun f s1 q=>?_)
 cases f with
 |next =>
  obtain⟨σ',H',I',q⟩:=q
  exact h2 pins s1 σ' H' D I' q
 |ret v=>exact q
 |brk=>exact q
 |cont=>exact q
theorem ao(h1:PS X st t):PSs X [st] t:=by
 intro pins s σ H D I h
 refine wpAny_execs_cons (thn (h1 pins s σ H D I h) fun f s1 q=>?_)
 cases f with
 |next=>exact wpAny_execs_nil q
 |ret v=>exact q
 |brk=>exact q
 |cont=>exact q
theorem Inv.quiet{pins:List (Addr×Obj)}{σ:St}{H:Hp}{s:Shared}(I:Inv X pins σ H s):interactive X.env=false:=by simp[interactive,I.ok.kind]
def tDrop(te:TE):TS:=fun D σ H=>te σ H fun _ H1=>D.nx σ H1
theorem bg(he:PE X e te)(hs:swapsWith e none pos.line X.env=pure false:=by rfl):PS X (.Expr e pos) (tDrop te):=by
 intro pins s σ H D I h
 exact wpAny_Expr_any (thn (he pins s σ H _ I h) fun v s1 ⟨x,H1,I1,r1,q1⟩=>⟨σ,H1,I1,q1⟩) I.quiet hs
def tRet(te:TE):TS:=fun D σ H=>te σ H D.rt
theorem aP(he:PE X e te):PS X (.Return (some e) pos) (tRet te):=by
 intro pins s σ H D I h
 exact wpAny_Return_some (thn (he pins s σ H _ I h) fun v s1 ⟨x,H1,I1,r1,q1⟩=>⟨x,σ,H1,I1,r1,q1⟩)
def tRetN:TS:=fun D _ H=>D.rt .non H
theorem D5:PS X (.Return none pos) tRetN:=fun _ _ σ H _ I h=>wpAny_Return_none ⟨.non,σ,H,I,rfl,h⟩
def tIfS(c:TT)(t u:TS):TS:=fun D σ H=>c σ H fun b H1=>if b=true then t D σ H1 else u D σ H1
theorem cM{c:Expr}{a b:List Stmt}{tc:TT}(hc:PT X c tc)(ha:PSs X a t)(hb:PSs X b u):PS X (.If c a b pos) (tIfS tc t u):=by
 intro pins s σ H D I h
 refine wpAny_If (thn (hc pins s σ H _ I h) fun d s1 ⟨H1,I1,q1⟩=>?_)
 cases d with
 |true=>exact ha pins s1 σ H1 D I1 q1
 |false=>exact hb pins s1 σ H1 D I1 q1
def tNever:TS:=fun _ _ _=>False
theorem d8:PS X st tNever:=fun _ _ _ _ _ _ h=>h.elim
end
abbrev TG:=V->St->Hp->(St->Hp->Prop)->Prop
abbrev TGs:=List V->St->Hp->(St->Hp->Prop)->Prop
def PG(X:Cx)(target:Expr)(t:TG):Prop :=
 ∀(pins:List (Addr×Obj))(s:Shared)(σ:St)(H:Hp)(v:V)(u:Value)(Q:St->Hp->Prop),Inv X pins σ H s->RelV v u->t v σ H Q ->
  wpAny (model X.prog X.w) X.A (assign target X.env u) (fun _ s'=>∃ σ' H',Inv X pins σ' H' s'/\Q σ' H') X.xe s
def PGs(X:Cx)(ts:List Expr)(t:TGs):Prop :=
 ∀(pins:List (Addr×Obj))(s:Shared)(σ:St)(H:Hp)(vs:List V)(us:List Value)(Q:St->Hp->Prop),Inv X pins σ H s->Vals vs us->t vs σ H Q ->
  wpAny (model X.prog X.w) X.A (assignInOrder ((assignEach ts X.env).map (·.2)) us) (fun _ s'=>∃ σ' H',Inv X pins σ' H' s'/\Q σ' H') X.xe s
abbrev TSet:=V->V->V->Hp->(Hp->Prop)->Prop
def PSet(X:Cx)(t:TSet):Prop :=
 ∀(pins:List (Addr×Obj))(s:Shared)(σ:St)(H:Hp)(o i v:V)(ov iv u:Value)(Q:Hp->Prop),Inv X pins σ H s->RelV o ov->RelV i iv->RelV v u->t o i v H Q ->
  wpAny (model X.prog X.w) X.A (setItem ov iv u) (fun _ s'=>∃ H',Inv X pins σ H' s'/\Q H') X.xe s
section
variable{X:Cx}{pos:Pos}
def gName(i:Nat):TG:=fun v σ H Q=>Q (σ.set i (some v)) H
theorem aX{i:Nat}{x:Str}(hN:X.N.Nodup)(hi:X.N[i]?=some x)(hx:Loc X.env.scope x)(hf:X.fn x=true∨X.env.scope.names.lookup x=some .local:=by first | exact .inl rfl | exact .inr rfl | assumption):PG X (.Name x pos) (gName i):=by
 intro pins s σ H v u Q I r h
 exact wpAny_assign_Name (oP I hN hi hx r (fun s' I'=>⟨_,H,I',h⟩) hf)
def gNil:TGs:=fun vs σ H Q=>vs = []/\Q σ H
def gCons(t:TG)(u:TGs):TGs:=fun vs σ H Q=>∃ v r,vs=v::r/\t v σ H fun σ' H'=>u r σ' H' Q
theorem vF:PGs X [] gNil:=by
 intro pins s σ H vs us Q I r h
 obtain⟨e,h⟩:=h
 subst e
 cases r
 exact assignInOrder_nil ⟨σ,H,I,h⟩
theorem ik{e:Expr}{es:List Expr}{t:TG}{u:TGs}(h1:PG X e t)(h2:PGs X es u)
  (hs:(assignEach (e::es) X.env).map (·.2)=assign e X.env::(assignEach es X.env).map (·.2):=by rfl):PGs X (e::es) (gCons t u):=by
 intro pins s σ H vs us Q I r h
 obtain⟨v,vr,e1,h⟩:=h
 subst e1
 cases r with
 |cons r rr =>
  rw[hs]
  refine assignInOrder_cons (thn (h1 pins s σ H _ _ _ I r h) fun _ s1 ⟨σ1,H1,I1,q1⟩=>?_)
  exact h2 pins s1 σ1 H1 _ _ Q I1 rr q1
def gTup(K:E6)(n:Nat)(t:TGs):TG:=fun v σ H Q=>∃ a xs,v=.ref a/\SqT K H a xs/\xs.length=n/\t xs σ H Q
theorem AL{es:List Expr}{k:Nat}{t:TGs}{n:Nat}(hc:X.calm=true)(h:PGs X es t)
  (hn:(assignEach es X.env).length=n:=by rfl) (hst:(assignEach es X.env).findIdx? (·.1)=none:=by rfl):PG X (.Tuple es k pos) (gTup X.K n t):=by
 intro pins s σ H v u Q I r hw
 obtain⟨a,xs,e1,hq,hl,hw⟩:=hw
 subst e1
 cases r
 obtain⟨its,rv,ht,hz⟩:=I.tuple hq
 refine assign_Tuple_tuple (I.ok.hd hc) ht (by simp[hn,← hl,rv.length]) hst fun h' hx=>?_
 have I1:Inv X pins σ H { s with heap:=h' }:=I.kept (t':=s.toks) fun b o e=>hx b o (FG (Heap.lt_size e)) e
 exact h pins _ σ H xs _ Q I1 (by simpa using rv) hw
def gSub(to ti:TE)(t:TSet):TG:=fun v σ H Q=>to σ H fun o H1=>ti σ H1 fun i H2=>t o i v H2 fun H3=>Q σ H3
theorem sh{o i:Expr}{to ti:TE}{t:TSet}(ho:PE X o to)(hi:PE X i ti)(hs:PSet X t)
  (ha:∀ v,assign (.Subscript o i pos) X.env v=(do
   let ov ← holding [v] (eval o X.env)
   let iv ← holding [v,ov] (eval i X.env)
   standAt pos
   holding [v,ov,iv] (setItem ov iv v)
   release [v,ov,iv] []):=by intro _;rfl):PG X (.Subscript o i pos) (gSub to ti t):=by
 intro pins s σ H v u Q I r h
 rw[ha]
 refine wpAny_bind (wpAny_holding (thn (ho pins s σ H _ I h) fun ov s1 ⟨x,H1,I1,r1,q1⟩=>?_))
 refine wpAny_bind (wpAny_holding (thn (hi pins s1 σ H1 _ I1 q1) fun iv s2 ⟨y,H2,I2,r2,q2⟩=>?_))
 refine wpAny_bind (wpAny_standAt (wpAny_bind (wpAny_holding (thn (hs pins s2 σ H2 x y v ov iv u _ I2 r1 r2 r q2) fun _ s3 ⟨H3,I3,q3⟩=>?_))))
 exact wpAny_release ⟨σ,H3,I3,q3⟩
def tAsg(te:TE)(g:TG):TS:=fun D σ H=>te σ H fun x H1=>g x σ H1 D.nx
theorem rU{tg e:Expr}{te:TE}{g:TG}(he:PE X e te)(hg:PG X tg g)(hs:swapsWithSole [tg] e pos.line X.env=pure false:=by rfl)(hw:swappedStores [tg] e X.env=pure none:=by rfl)
  (h1:(assignEach [tg] X.env).map (·.2) = [assign tg X.env]:=by rfl):PS X (.Assign [tg] e pos) (tAsg te g):=by
 intro pins s σ H D I h
 refine wpAny_Assign_stores (thn (he pins s σ H _ I h) fun v s1 ⟨x,H1,I1,r1,q1⟩=>?_) hs hw
 rw[h1]
 exact thn (hg pins s1 σ H1 x v _ I1 r1 q1) fun _ s2 q=>q
theorem au{i:Nat}{x:Str}{e:Expr}{te:TE}{pos':Pos}(hN:X.N.Nodup)(hi:X.N[i]?=some x)(hx:Loc X.env.scope x)(he:PE X e te)(hs:swapsWith e (some (.Name x pos')) pos.line X.env=pure false:=by rfl)(hf:X.fn x=true∨X.env.scope.names.lookup x=some .local:=by first | exact .inl rfl | exact .inr rfl | assumption) :
  PS X (.Assign [.Name x pos'] e pos) (tAsg te (gName i)):=by
 intro pins s σ H D I h
 refine wpAny_Assign_Name (thn (he pins s σ H _ I h) fun v s1 ⟨y,H1,I1,r1,q1⟩=>?_) hs
 exact oP I1 hN hi hx r1 (fun s2 I2=>⟨_,H1,I2,q1⟩) hf
end
section
variable{X:Cx}{pos:Pos}
def Dp(c:TT)(tb:TS):TS:=fun D σ H=>∃ W:Nat->St->Hp->Prop,(∃ m,W m σ H)/\∀ m σ H,W m σ H ->
 c σ H fun b H1=>if b=true then ∃ N:St->Hp->Prop,(∀ σ' H',N σ' H'->∃ m',m'<m/\W m' σ' H')/\tb { D with nx:=N,ct:=N,bk:=D.nx } σ H1 else D.nx σ H1
theorem lT{c:Expr}{body:List Stmt}{tc:TT}{tb:TS}(hp:PassesOwn (model X.prog X.w) X.A X.env X.xe)(hc:PT X c tc)(hb:PSs X body tb):PS X (.While c body [] pos) (Dp tc tb):=by
 intro pins s σ H D I h
 obtain⟨W,⟨m0,w0⟩,turn⟩:=h
 refine wpAny_While (codeAny_whileLoop (fun n s'=>∃ σ' H',Inv X pins σ' H' s'/\W n σ' H') ?_ m0 ⟨σ,H,I,w0⟩)
 rintro n s1 ⟨σ1,H1,I1,w1⟩
 refine wpAny_passesOwn hp (thn (hc pins s1 σ1 H1 _ I1 (turn n σ1 H1 w1)) fun b s2 ⟨H2,I2,q2⟩=>?_)
 cases b with
 |true =>
  obtain⟨N,hN,q2⟩:=q2
  rw[if_pos rfl]
  refine wpAny_passesOwn hp (thn (hb pins s2 σ1 H2 _ I2 q2) fun f s3 q3=>?_)
  cases f with
  |next =>
   obtain⟨σ3,H3,I3,n3⟩:=q3
   obtain⟨m',hm,w3⟩:=hN σ3 H3 n3
   exact⟨m',hm,σ3,H3,I3,w3⟩
  |cont =>
   obtain⟨σ3,H3,I3,n3⟩:=q3
   obtain⟨m',hm,w3⟩:=hN σ3 H3 n3
   exact⟨m',hm,σ3,H3,I3,w3⟩
  |brk=>exact q3
  |ret v=>exact q3
 |false =>
  rw[if_neg FO]
  exact wpAny_execs_nil ⟨σ1,H2,I2,q2⟩
end
structure It where
 go:Nat->Hp->Prop
 yld:Nat->Hp->V->Hp->Prop
 stop:Nat->Hp->Prop
def FpOk(X:Cx)(pins:List (Addr×Obj))(H:Hp)(b:Addr):Prop :=
 H b=none/\b≠X.env.locals/\b∉X.fs/\(b∈X.ex∨X.s₀.heap.objs.size<=b)/\(∀ x c,X.env.cells.lookup x=some c->c≠b)/\∀ p∈X.pn++pins,p.1≠b
theorem Inv.fpOk{X:Cx}{pins:List (Addr×Obj)}{σ:St}{H H':Hp}{s:Shared}{b:Addr}(I:Inv X pins σ H s)(hb:s.heap.objs.size<=b)(hn:H' b=none):FpOk X pins H' b:=by
 refine⟨hn,GZ (FP I.lt hb),I.nofs hb,.inr (F4 I.sz hb),fun x c e z=>?_,fun p hp z=>?_⟩
 ·obtain⟨v,q⟩:=I.cell x c e
  exact absurd (FP q.lt (by rw[z];exact hb)) (F9 _)
 ·exact absurd (FP (Heap.lt_size (I.pin p hp).1) (by rw[z];exact hb)) (F9 _)
structure Turn(P:Program)(w:World)(K:E6)(tg:Expr)(J:It)(fp:List Addr)(it:Addr)(tn:Nat->Heap->Prop):Prop where
 mem:it∈fp
 obj:∀ i h,tn i h->∀ b∈fp,∃ o,h.get? b=some o/\∀ v,o.data≠.cell v
 keep:∀ i h h',tn i h->(∀ b∈fp,∀ o,h.get? b=some o->h'.get? b=some o)->tn i h'
 item:∀(X:Cx),X.prog=P->X.w=w->X.K=K->X.calm=true->∀(i:Nat)(pins:List (Addr×Obj))(s:Shared)(σ:St)(H:Hp)(E:Value->Shared->Prop),Inv X pins σ H s->(∀ b∈fp,FpOk X pins H b)->tn i s.heap->J.go i H ->
  wpAny (model P w) X.A (pyNext (.ref it)) (fun r s1=>∃ u,r=some u /\
   wpAny (model P w) X.A (letOwnedTupleGo tg (.ref it) u) (fun _ s2=>∃ x H',Inv X pins σ H' s2/\RelV x u/\J.yld i H x H'/\tn (i+1) s2.heap/\∀ b∈fp,H' b=none) E s1) E s
 done:∀(X:Cx),X.prog=P->X.w=w->X.K=K->X.calm=true->∀(i:Nat)(pins:List (Addr×Obj))(s:Shared)(σ:St)(H:Hp)(E:Value->Shared->Prop),Inv X pins σ H s->(∀ b∈fp,FpOk X pins H b)->tn i s.heap->J.stop i H ->
  wpAny (model P w) X.A (pyNext (.ref it)) (fun r s1=>r=none/\Inv X pins σ H s1) E s
 self:∀(A:Around)(i:Nat)(s:Shared)(Q:Value->Shared->Prop)(E:Value->Shared->Prop),tn i s.heap->Q (.ref it) s->wpAny (model P w) A (pyIter (.ref it)) Q E s
abbrev TI:=St->Hp->(It->Hp->Prop)->Prop
def PIE(X:Cx)(pins:List (Addr×Obj))(σ:St)(tg:Expr)(R:It->Hp->Prop)(itv:Value)(s2:Shared):Prop :=
 ∃(it:Addr)(fp:List Addr)(tn:Nat->Heap->Prop)(J:It)(H':Hp),itv=.ref it/\Inv X pins σ H' s2/\Turn X.prog X.w X.K tg J fp it tn/\tn 0 s2.heap/\(∀ b∈fp,FpOk X pins H' b)/\R J H'
def PI(X:Cx)(tg iter:Expr)(wi:TI):Prop :=
 ∀(pins:List (Addr×Obj))(s:Shared)(σ:St)(H:Hp)(R:It->Hp->Prop),Inv X pins σ H s->wi σ H R ->
  wpAny (model X.prog X.w) X.A (eval iter X.env) (fun v s1=>wpAny (model X.prog X.w) X.A (pyIter v) (PIE X pins σ tg R) X.xe s1) X.xe s
theorem go_of{M:Model}{A:Around}{E:Value->Shared->Prop}{s:Shared}{tg:Expr}{it:Addr}{u:Value}{o:Obj}{n:String}{vs:Array Value}{Q:Unit->Shared->Prop}(ho:s.heap.get? it=some o)(hc:o.cls=.type n)(hd:o.data=.fields vs)
  (hn : ["enumerate","zip","dict_itemiterator","dict_reverseitemiterator","odict_iterator","itertools.zip_longest","itertools.pairwise"].contains n=false) (hQ:Q () s):wpAny M A (letOwnedTupleGo tg (.ref it) u) Q E s:=by
 unfold letOwnedTupleGo
 cases tg<;>first
  |exact wpAny_pure hQ
  | (cases u<;>first
    |exact wpAny_pure hQ
    | (refine wpAny_bind (wpAny_load ho ?_)
       rw[hc,hd]
       show wpAny M A (if(["enumerate","zip","dict_itemiterator","dict_reverseitemiterator","odict_iterator","itertools.zip_longest","itertools.pairwise"].contains n&&vs[0]? == some (rawInt _))=true then _ else _) Q E s
       rw[if_neg (by intro h;rw[hn,HZ]at h;cases h)]
       exact wpAny_pure hQ))
def Itl(K:E6)(a:Addr):It :=
 ⟨fun i H=>∃ xs x,SqL K H a xs/\xs[i]?=some x,fun i H x H'=>H'=H/\∀ xs,SqL K H a xs->xs[i]?=some x,fun i H=>∃ xs,SqL K H a xs/\xs.length<=i⟩
def Itr(lo:Int)(n:Nat):It:=⟨fun i _=>i<n,fun i H x H'=>H'=H/\x=.int (lo+i),fun i _=>n<=i⟩
theorem Ae{P:Program}{w:World}{K:E6}{tg:Expr}(a it:Addr):Turn P w K tg (Itl K a) [it] it (fun i h=>h.IsListIter it a i) where
 mem:=by simp
 obj:=fun i h st b hb=>by
  have e:b=it:=by simpa using hb
  subst e
  obtain⟨o,e,c,d⟩:=st
  exact⟨o,e,fun v z=>by rw[d]at z;cases z⟩
 keep:=fun i h h' st k=>st.at fun o e=>k it (by simp) o e
 item:=by
  intro X hP hw hK hc i pins s σ H E I hf st hg
  subst hP hw hK
  obtain⟨xs,x,hq,hx⟩:=hg
  obtain⟨its,rv,p,hz⟩:=I.list hq
  obtain⟨u,hu,ru⟩:=rv.get hx
  obtain⟨f0,f1,f2,f3,f4,f5⟩:=hf it (by simp)
  refine wpAny_pyNext_list_item st p.isList (x:=u) (by simpa using hu) fun h' st' sb=>?_
  have I1:Inv X pins σ H { s with heap:=h' }:=I.turned (t':=s.toks) (fun b o hb e=>(sb.2 b hb).trans e) f0 f1 f3 f4 f5
  obtain⟨o,e,c,d⟩:=id st'
  exact⟨u,rfl,go_of (s:={ s with heap:=h' }) e c d (by decide) ⟨x,H,I1,ru,⟨rfl,fun ys hy=>by rw[I.list_inj hy hq];exact hx⟩,st',fun b hb=>(hf b hb).1⟩⟩
 done:=by
  intro X hP hw hK hc i pins s σ H E I hf st hg
  subst hP hw hK
  obtain⟨xs,hq,hx⟩:=hg
  obtain⟨its,rv,p,hz⟩:=I.list hq
  obtain⟨f0,f1,f2,f3,f4,f5⟩:=hf it (by simp)
  have hl:=rv.length
  exact wpAny_pyNext_list_end (I.ok.hd hc) st p.isList (by simp;omega) fun h' eb=>⟨rfl,I.turned (t':=s.toks) (fun b o hb e=>eb b o hb e) f0 f1 f3 f4 f5⟩
 self:=fun _ _ _ _ _ st h=>wpAny_pyIter_listiter st h
theorem yM{P:Program}{w:World}{K:E6}{tg:Expr}(it:Addr)(lo:Int)(n:Nat):Turn P w K tg (Itr lo n) [it] it (fun i h=>IsRangeIter h it (lo+(i:Nat)*1) ((n:Int)-(i:Nat)) 1) where
 mem:=by simp
 obj:=fun i h st b hb=>by
  have e:b=it:=by simpa using hb
  subst e
  exact⟨_,st,fun v z=>by
   have z':Data.fields _=Data.cell v:=z
   cases z'⟩
 keep:=fun i h h' st k=>k it (by simp) _ st
 item:=by
  intro X hP hw hK hc i pins s σ H E I hf st hg
  subst hP hw hK
  obtain⟨f0,f1,f2,f3,f4,f5⟩:=hf it (by simp)
  have W:=Walks.range (prog:=X.prog) (w:=X.w) (I.ok.hd hc) it lo 1 n
  refine W.item i s _ _ hg st fun v h' tk hv st' kk=>?_
  obtain⟨t,rfl⟩:=hv
  have I1:Inv X pins σ H { s with heap:=h',toks:=tk }:=I.turned (fun b o hb e=>kk b o (by simpa using hb) e) f0 f1 f3 f4 f5
  refine⟨_,rfl,go_of (s:={ s with heap:=h',toks:=tk }) (n:="range_iterator") st' rfl rfl (by decide) ⟨.int (lo+i),H,I1,⟨t,?_⟩,⟨rfl,rfl⟩,st',fun b hb=>(hf b hb).1⟩⟩
  rw[Int.mul_one]
 done:=by
  intro X hP hw hK hc i pins s σ H E I hf st hg
  subst hP hw hK
  obtain⟨f0,f1,f2,f3,f4,f5⟩:=hf it (by simp)
  exact wpAny_pyNext_range_end (I.ok.hd hc) st (by have:n<=i:=hg;omega) fun h' eb=>⟨rfl,I.turned (t':=s.toks) (fun b o hb e=>eb b o hb e) f0 f1 f3 f4 f5⟩
 self:=fun _ _ _ _ _ st h=>wpAny_pyIter_rangeiter st h
end L2
namespace L2
open PySem PySem.Spec PyProof.Rows
section
variable{X:Cx}{tg:Expr}
def iList(K:E6)(tl:TE):TI:=fun σ H R=>tl σ H fun x H1=>∃ a,x=.ref a/\(∃ xs,SqL K H1 a xs)/\R (Itl K a) H1
theorem bL{l:Expr}{tl:TE}(hl:PE X l tl):PI X tg l (iList X.K tl):=by
 intro pins s σ H R I h
 refine thn (hl pins s σ H _ I h) fun v s1 ⟨x,H1,I1,r1,q1⟩=>?_
 obtain⟨a,e,⟨xs,hq⟩,q⟩:=q1
 subst e
 cases r1
 obtain⟨its,rv,p,hz⟩:=I1.list hq
 refine wpAny_pyIter_list p.isList ?_
 refine⟨s1.heap.objs.size,[s1.heap.objs.size],_,_,H1,rfl,I1.kept (t':=s1.toks) fun b o e=>Heap.get?_push_of_some _ e,Ae a _,⟨_,Heap.get?_push_size _ rfl,rfl,rfl⟩,fun b hb=>?_,q⟩
 have e:b=s1.heap.objs.size:=by simpa using hb
 subst e
 exact I1.fpOk (Ff _) (I1.hok.fresh (Ff _))
theorem Ce{pins:List (Addr×Obj)}{σ:St}{H:Hp}{s:Shared}{R:It->Hp->Prop}{E:Value->Shared->Prop}{lo hi:Int}{t u v:Tok}{tk:Nat}(I:Inv X pins σ H s)(h1 : -(2^62)<=lo)(h2:lo<2^62)(h3 : -(2^62)<=hi)(h4:hi<2^62)
  (q:R (Itr lo (hi-lo).toNat) H):wpAny (model X.prog X.w) X.A (pyIter (.ref s.heap.objs.size)) (PIE X pins σ tg R) E { s with heap:=s.heap.push { cls:=.type "range",data:=.fields #[.int lo t,.int hi u,.int 1 v] },toks:=tk }:=by
 refine wpAny_pyIter_range (IsRange.new ..) (small_one h1 h2 h3 h4) ?_
 have I1:Inv X pins σ H { s with heap:=s.heap.push { cls:=.type "range",data:=.fields #[.int lo t,.int hi u,.int 1 v] },toks:=tk }:=I.kept fun b o e=>Heap.get?_push_of_some _ e
 refine⟨(s.heap.push { cls:=.type "range",data:=.fields #[.int lo t,.int hi u,.int 1 v] }).objs.size,[(s.heap.push { cls:=.type "range",data:=.fields #[.int lo t,.int hi u,.int 1 v] }).objs.size],_,_,H,rfl,
  I1.kept (t':=tk) fun b o e=>Heap.get?_push_of_some _ e,yM _ lo (hi-lo).toNat,?_,fun b hb=>?_,q⟩
 ·have e1:lo+((0:Nat):Int)*1=lo:=by simp
  have e2:(((hi-lo).toNat:Nat):Int)-((0:Nat):Int)=Builtin.Range.rangeSize lo hi 1:=by rw[rangeSize_one];split<;>omega +splitDisjunctions
  show IsRangeIter _ _ (lo+((0:Nat):Int)*1) ((((hi-lo).toNat:Nat):Int)-((0:Nat):Int)) 1
  rw[e1,e2]
  exact Heap.get?_push_size _ rfl
 ·have e:b=(s.heap.push { cls:=.type "range",data:=.fields #[.int lo t,.int hi u,.int 1 v] }).objs.size:=by simpa using hb
  subst e
  exact I1.fpOk (Ff _) (I1.hok.fresh (Ff _))
def iRng1(ta:TA):TI:=fun σ H R=>ta σ H fun vs H1=>∃ j:Int,vs = [.int j]/\-(2^62)<=j/\j<2^62/\R (Itr 0 j.toNat) H1
theorem aY{a:Expr}{ta:TA}{p pos:Pos} (hg:Gl X "range") (hm:X.mg "range" = none) (ha:PA X [a] ta) (hs:starEach [a] X.env = [(false,eval a X.env)]:=by rfl):PI X tg (.Call (.Name "range" p) [a] [] pos) (iRng1 ta):=by
 intro pins s σ H R I h
 refine Call_ (sX I hg hm boot_range (PyProof.Rows.callWith_type1 (thn (ha pos pins s σ H _ I h) fun us s1 ⟨vs,H1,I1,r1,q1⟩=>?_) hs rfl))
 obtain⟨j,e,q1,q2,q⟩:=q1
 subst e
 cases r1 with
 |cons r rr =>
  cases rr
  obtain⟨t,rfl⟩:=r
  exact call_range_1 (Ce I1 (by omega) (by omega) q1 q2 (by simpa using q))
def tFor(wi:TI)(g:TG)(tb:TS):TS:=fun D σ H=>wi σ H fun J H1=>∃ W:Nat->Nat->St->Hp->Prop,(∃ m,W 0 m σ H1)/\∀ i m σ H,W i m σ H ->
 (J.stop i H/\D.nx σ H)∨(J.go i H/\∃ N:St->Hp->Prop,(∀ σ' H',N σ' H'->∃ m',m'<m/\W (i+1) m' σ' H')/\∀ x H',J.yld i H x H'->g x σ H' fun σ2 H2=>tb { D with nx:=N,ct:=N,bk:=D.nx } σ2 H2)
def sf(fp:List Addr)(h:Heap):List (Addr×Obj):=fp.filterMap fun b=>(h.get? b).map fun o=>(b,o)
theorem fq{fp:List Addr}{h:Heap}{b:Addr}{o:Obj}(hb:b∈fp)(e:h.get? b=some o):(b,o)∈sf fp h:=List.mem_filterMap.mpr ⟨b,hb,by rw[e];rfl⟩
theorem A0{fp:List Addr}{h:Heap}{p:Addr×Obj}(hp:p∈sf fp h):p.1∈fp/\h.get? p.1=some p.2:=by
 obtain⟨b,hb,e⟩:=List.mem_filterMap.mp hp
 cases q:h.get? b with
 |none=>rw[q]at e;cases e
 |some o =>
  rw[q]at e
  have e':(b,o)=p:=Fu e
  subst e'
  exact⟨hb,q⟩
theorem Inv.pinned{pins:List (Addr×Obj)}{σ:St}{H:Hp}{s:Shared}{fp:List Addr}(I:Inv X pins σ H s)(hf:∀ b∈fp,FpOk X pins H b)(ho:∀ b∈fp,∃ o,s.heap.get? b=some o/\∀ v,o.data≠.cell v):Inv X (pins++sf fp s.heap) σ H s :=
 I.pins_of fun p hp=>(Fe.mp hp).elim (fun z=>I.pin p (Fm _ z)) fun z=>by
  obtain⟨hb,e⟩:=A0 z
  obtain⟨f0,f1,f2,_⟩:=hf p.1 hb
  obtain⟨o,e',d⟩:=ho p.1 hb
  rw[e]at e';cases e'
  exact⟨e,f0,f1,f2,d⟩
theorem Inv.unpinned{pins pl:List (Addr×Obj)}{σ:St}{H:Hp}{s:Shared}(I:Inv X (pins++pl) σ H s):Inv X pins σ H s:=I.pins_of fun p hp=>I.pin p (Fm _ (FD _ hp))
theorem cq{iter:Expr}{body:List Stmt}{wi:TI}{g:TG}{tb:TS}{pos:Pos}(hp:PassesOwn (model X.prog X.w) X.A X.env X.xe)(hc:X.calm=true)(hi:PI X tg iter wi)(hg:PG X tg g)(hb:PSs X body tb)
  (hs:∀ x,foldedSetIterable iter X.env x=pure x:=by intro _;rfl):PS X (.For tg iter body [] pos) (tFor wi g tb):=by
 intro pins s σ H D I h
 refine wpAny_For (thn (hi pins s σ H _ I h) fun v s1 h1=>thn h1 fun itv s2 h2=>?_) hs
 obtain⟨it,fp,tn,J,H2,e,I2,T,st2,f2,W,⟨m0,w0⟩,turn⟩:=h2
 subst e
 have stat:∀{H':Hp},(∀ b∈fp,H' b=none)->∀ b∈fp,FpOk X pins H' b:=fun hn b hb=>⟨hn b hb,(f2 b hb).2⟩
 refine codeAny_forLoop_any (fun n s'=>∃ i σ' H',Inv X pins σ' H' s'/\tn i s'.heap/\(∀ b∈fp,H' b=none)/\W i n σ' H') ?_ m0 ⟨0,σ,H2,I2,st2,fun b hb=>(f2 b hb).1,w0⟩
 rintro n s3 ⟨i,σ3,H3,I3,st3,fr3,w3⟩
 rcases turn i n σ3 H3 w3 with⟨stop,qn⟩ | ⟨go,N,hN,step⟩
 ·refine wpAny_passesOwn hp (thn (T.done X rfl rfl rfl hc i pins s3 σ3 H3 X.xe I3 (stat fr3) st3 stop) fun r s4 ⟨hr,I4⟩=>?_)
  subst hr
  exact wpAny_execs_nil ⟨σ3,H3,I4,qn⟩
 ·refine wpAny_passesOwn hp (thn (T.item X rfl rfl rfl hc i pins s3 σ3 H3 X.xe I3 (stat fr3) st3 go) fun r s4 ⟨u,hr,h4⟩=>?_)
  subst hr
  refine wpAny_passesOwn hp (thn h4 fun _ s5 ⟨x,H5,I5,r5,y5,st5,fr5⟩=>?_)
  have I5':=I5.pinned (stat fr5) (T.obj _ _ st5)
  refine wpAny_passesOwn hp (thn (hg _ s5 σ3 H5 x u _ I5' r5 (step x H5 y5)) fun _ s6 ⟨σ6,H6,I6,q6⟩=>?_)
  refine wpAny_passesOwn hp (thn (hb _ s6 σ6 H6 _ I6 q6) fun f s7 q7=>?_)
  have again:∀{σ7:St}{H7:Hp},Inv X (pins++sf fp s5.heap) σ7 H7 s7->N σ7 H7->∃ m,m<n/\∃ i σ' H',Inv X pins σ' H' s7/\tn i s7.heap/\(∀ b∈fp,H' b=none)/\W i m σ' H':=fun{σ7 H7} I7 n7=>by
   obtain⟨m',hm,w7⟩:=hN σ7 H7 n7
   refine⟨m',hm,i+1,σ7,H7,I7.unpinned,T.keep _ _ _ st5 fun b hb o e=>(I7.pin (b,o) (Fm _ (Fm _ (fq hb e)))).1,fun b hb=>?_,w7⟩
   obtain⟨o,e,d⟩:=T.obj _ _ st5 b hb
   exact(I7.pin (b,o) (Fm _ (Fm _ (fq hb e)))).2.1
  cases f with
  |next=>obtain⟨σ7,H7,I7,n7⟩:=q7;exact again I7 n7
  |cont=>obtain⟨σ7,H7,I7,n7⟩:=q7;exact again I7 n7
  |brk=>obtain⟨σ7,H7,I7,q7⟩:=q7;exact⟨σ7,H7,I7.unpinned,q7⟩
  |ret v=>obtain⟨x7,σ7,H7,I7,r7,q7⟩:=q7;exact⟨x7,σ7,H7,I7.unpinned,r7,q7⟩
end
theorem eF{K:E6}{a:Addr}{xs:List V}{g:TG}{tb:TS}{D:Ends}{σ:St}{H:Hp}(Pv:Nat->St->Hp->Prop)(h0:Pv 0 σ H)(hl:∀ i σ H,i<=xs.length->Pv i σ H->SqL K H a xs)
  (hs:∀ i x σ H,xs[i]?=some x->Pv i σ H->g x σ H fun σ2 H2=>tb { D with nx:=Pv (i+1),ct:=Pv (i+1),bk:=D.nx } σ2 H2) (hd:∀ σ H,Pv xs.length σ H->D.nx σ H) :
  ∃ W:Nat->Nat->St->Hp->Prop,(∃ m,W 0 m σ H)/\∀ i m σ H,W i m σ H ->
   ((Itl K a).stop i H/\D.nx σ H)∨((Itl K a).go i H/\∃ N:St->Hp->Prop,(∀ σ' H',N σ' H'->∃ m',m'<m/\W (i+1) m' σ' H')/\∀ x H',(Itl K a).yld i H x H'->g x σ H' fun σ2 H2=>tb { D with nx:=N,ct:=N,bk:=D.nx } σ2 H2):=by
 refine⟨fun i m σ H=>m=xs.length-i/\i<=xs.length/\Pv i σ H,⟨xs.length,by simp,Ge _,h0⟩,?_⟩
 rintro i m σ H ⟨rfl,hi,p⟩
 have q:=hl i σ H hi p
 by_cases hlt:i<xs.length
 ·refine .inr ⟨⟨xs,xs[i],q,by simp[hlt]⟩,Pv (i+1),fun σ' H' p'=>⟨xs.length-(i+1),by omega,rfl,hlt,p'⟩,fun x H' y=>?_⟩
  obtain⟨e,y⟩:=y
  subst e
  exact hs i x σ _ (y xs q) p
 ·have e:i=xs.length:=by omega
  subst e
  exact .inl ⟨⟨xs,q,Ff _⟩,hd σ H p⟩
theorem cz{lo:Int}{n:Nat}{g:TG}{tb:TS}{D:Ends}{σ:St}{H:Hp}(Pv:Nat->St->Hp->Prop)(h0:Pv 0 σ H)
  (hs:∀ i σ H,i<n->Pv i σ H->g (.int (lo+i)) σ H fun σ2 H2=>tb { D with nx:=Pv (i+1),ct:=Pv (i+1),bk:=D.nx } σ2 H2) (hd:∀ σ H,Pv n σ H->D.nx σ H) :
  ∃ W:Nat->Nat->St->Hp->Prop,(∃ m,W 0 m σ H)/\∀ i m σ H,W i m σ H ->
   ((Itr lo n).stop i H/\D.nx σ H)∨((Itr lo n).go i H/\∃ N:St->Hp->Prop,(∀ σ' H',N σ' H'->∃ m',m'<m/\W (i+1) m' σ' H')/\∀ x H',(Itr lo n).yld i H x H'->g x σ H' fun σ2 H2=>tb { D with nx:=N,ct:=N,bk:=D.nx } σ2 H2):=by
 refine⟨fun i m σ H=>m=n-i/\i<=n/\Pv i σ H,⟨n,by simp,Ge _,h0⟩,?_⟩
 rintro i m σ H ⟨rfl,hi,p⟩
 by_cases hlt:i<n
 ·refine .inr ⟨hlt,Pv (i+1),fun σ' H' p'=>⟨n-(i+1),by omega,rfl,hlt,p'⟩,fun x H' y=>?_⟩
  obtain⟨e,y⟩:=y
  subst e y
  exact hs i σ _ hlt p
 ·have e:i=n:=by omega
  subst e
  exact .inl ⟨Ff _,hd σ H p⟩
theorem xR{c:TT}{tb:TS}{D:Ends}{σ:St}{H:Hp}(Pv:St->Hp->Prop)(μ:St->Hp->Nat)(h0:Pv σ H)
  (hs:∀ σ H,Pv σ H->c σ H fun b H1=>if b=true then tb { D with nx:=fun σ' H'=>Pv σ' H'/\μ σ' H'<μ σ H,ct:=fun σ' H'=>Pv σ' H'/\μ σ' H'<μ σ H,bk:=D.nx } σ H1 else D.nx σ H1)
  (mono:∀ σ H Q Q',(∀ b H1,Q b H1->Q' b H1)->c σ H Q->c σ H Q'):Dp c tb D σ H:=by
 refine⟨fun m σ H=>m=μ σ H/\Pv σ H,⟨_,rfl,h0⟩,?_⟩
 rintro m σ H ⟨rfl,p⟩
 refine mono σ H _ _ (fun b H1 q=>?_) (hs σ H p)
 cases b with
 |true=>exact⟨_,fun σ' H' ⟨p',l⟩=>⟨_,l,rfl,p'⟩,q⟩
 |false=>exact q
end L2
namespace L2
open PySem PySem.Spec PyProof.Rows
abbrev R2:=V->V->Hp->VK->Prop
def OpR(X:Cx)(f:Value->Value->Sem Value)(r:R2):Prop :=
 ∀(pins:List (Addr×Obj))(s:Shared)(σ:St)(H:Hp)(x y:V)(v u:Value)(Q:VK),Inv X pins σ H s->RelV x v->RelV y u->r x y H Q ->
  wpAny (model X.prog X.w) X.A (f v u) (EP X pins σ Q) X.xe s
def nO(X:Cx)(f:Value)(r:List V->Hp->VK->Prop):Prop :=
 ∀(pins:List (Addr×Obj))(s:Shared)(σ:St)(H:Hp)(xs:List V)(us:List Value)(Q:VK),Inv X pins σ H s->Vals xs us->r xs H Q ->
  wpAny (model X.prog X.w) X.A (call f us) (EP X pins σ Q) X.xe s
def tOp(r:R2)(ta tb:TE):TE:=fun σ H Q=>ta σ H fun x H1=>tb σ H1 fun y H2=>r x y H2 Q
def rI(C:Int->Int->Prop)(g:Int->Int->V):R2:=fun x y H Q=>∃ i j,x=.int i/\y=.int j/\C i j/\Q (g i j) H
def rI0(g:Int->Int->V):R2:=fun x y H Q=>∃ i j,x=.int i/\y=.int j/\Q (g i j) H
section
variable{X:Cx}{a b c:Expr}{ta tb tc:TE}{pos:Pos}
theorem binT(ha:PE X a ta)(hb:PE X b tb){pins:List (Addr×Obj)}{s:Shared}{σ:St}{H:Hp}{R:V->V->Hp->Prop}(I:Inv X pins σ H s)
  (h:ta σ H fun x H1=>tb σ H1 fun y H2=>R x y H2) {Q:Value->Shared->Prop} {f:Value->Value->Sem Value}
  (hf:∀ v u s2 x y H2,Inv X pins σ H2 s2->RelV x v->RelV y u->R x y H2->wpAny (model X.prog X.w) X.A (f v u) Q X.xe s2) :
  wpAny (model X.prog X.w) X.A (eval a X.env) (fun v s₁=>wpAny (model X.prog X.w) X.A (eval b X.env) (fun u s₂=>wpAny (model X.prog X.w) X.A (f v u) Q X.xe s₂) X.xe s₁) X.xe s:=by
 refine thn (ha pins s σ H _ I h) fun v s1 ⟨x,H1,I1,r1,q1⟩=>?_
 refine thn (hb pins s1 σ H1 _ I1 q1) fun u s2 ⟨y,H2,I2,r2,q2⟩=>?_
 exact hf v u s2 x y H2 I2 r1 r2 q2
theorem ar{op:Operator}{r:R2}(ho:OpR X (binaryOp op) r)(ha:PE X a ta)(hb:PE X b tb):PE X (.BinOp a op b pos) (tOp r ta tb):=by
 intro pins s σ H Q I h
 exact wpAny_BinOp (binT ha hb I h fun v u s2 x y H2 I2 rx ry q=>ho pins s2 σ H2 x y v u Q I2 rx ry q)
theorem opI{f:Value->Value->Sem Value}{C:Int->Int->Prop}{g:Int->Int->Int}
  (rule:∀(i j:Int)(t u:Tok)(s:Shared)(Q:Value->Shared->Prop)(E:Value->Shared->Prop),C i j->Q (.int (g i j) s.toks) { s with toks:=s.toks+1 }->wpAny (model X.prog X.w) X.A (f (.int i t) (.int j u)) Q E s) :
  OpR X f (rI C fun i j=>.int (g i j)):=by
 intro pins s σ H x y v u Q I rx ry h
 obtain⟨i,j,rfl,rfl,hc,q⟩:=h
 obtain⟨t,rfl⟩:=rx
 obtain⟨t',rfl⟩:=ry
 exact rule i j t t' s _ _ hc ⟨.int (g i j),H,I.tok _,⟨_,rfl⟩,q⟩
theorem opI0{f:Value->Value->Sem Value}{g:Int->Int->Int}
  (rule:∀(i j:Int)(t u:Tok)(s:Shared)(Q:Value->Shared->Prop)(E:Value->Shared->Prop),Q (.int (g i j) s.toks) { s with toks:=s.toks+1 }->wpAny (model X.prog X.w) X.A (f (.int i t) (.int j u)) Q E s) :
  OpR X f (rI0 fun i j=>.int (g i j)):=by
 intro pins s σ H x y v u Q I rx ry h
 obtain⟨i,j,rfl,rfl,q⟩:=h
 obtain⟨t,rfl⟩:=rx
 obtain⟨t',rfl⟩:=ry
 exact rule i j t t' s _ _ ⟨.int (g i j),H,I.tok _,⟨_,rfl⟩,q⟩
theorem opB0{f:Value->Value->Sem Value}{g:Int->Int->Bool}
  (rule:∀(i j:Int)(t u:Tok)(s:Shared)(Q:Value->Shared->Prop)(E:Value->Shared->Prop),Q (.bool (g i j)) s->wpAny (model X.prog X.w) X.A (f (.int i t) (.int j u)) Q E s) :
  OpR X f (rI0 fun i j=>.bl (g i j)):=by
 intro pins s σ H x y v u Q I rx ry h
 obtain⟨i,j,rfl,rfl,q⟩:=h
 obtain⟨t,rfl⟩:=rx
 obtain⟨t',rfl⟩:=ry
 exact rule i j t t' s _ _ ⟨.bl (g i j),H,I,rfl,q⟩
def CDiv(i j:Int):Prop:=0<j/\j<1073741824
def CPow(i j:Int):Prop:=0<=j/\j<=1000000/\i.natAbs<2^64
def CMul(i j:Int):Prop:=(-(2^64)<i/\i<2^64)∨(-(2^64)<j/\j<2^64)
theorem CMul.ok{i j:Int}(h:CMul i j):IntMulOk i j:=by
 rcases h with⟨h1,h2⟩ | ⟨h1,h2⟩
 ·exact .of_left (intBits_le_64 h1 h2)
 ·exact .of_right (intBits_le_64 h1 h2)
theorem yL(k:Nat):(0:Int)<=2^k:=by
 rw[two_pow_cast]
 exact Ie _
theorem bC:OpR X (binaryOp .Add) (rI0 fun i j=>.int (i+j)):=opI0 fun _ _ _ _ _ _ _ q=>add_int q
theorem oq:OpR X (binaryOp .Sub) (rI0 fun i j=>.int (i-j)):=opI0 fun _ _ _ _ _ _ _ q=>sub_int q
theorem eg:OpR X (binaryOp .Mult) (rI CMul fun i j=>.int (i*j)):=opI fun _ _ _ _ _ _ _ hc q=>mul_int q hc.ok
theorem cN:OpR X (binaryOp .FloorDiv) (rI CDiv fun i j=>.int (i/j)):=opI fun i j _ _ _ _ _ hc q=>by
 have h1:(0:Int)<j:=hc.1
 have h2:j<1073741824:=hc.2
 exact floordiv_int (by omega) (by rw[Iv i (by omega)];exact q) (.inl (PyProof.noPylong_small (by omega)))
theorem bA:OpR X (binaryOp .Mod) (rI (fun _ j=>0<j) fun i j=>.int (i%j)):=opI fun i j _ _ _ _ _ hc q=>by
 have h1:(0:Int)<j:=hc
 exact mod_int' (by omega) (by rw[Int.fmod_eq_emod_of_nonneg i (by omega)];exact q)
theorem op_pow:OpR X (binaryOp .Pow) (rI CPow fun i j=>.int (i^j.toNat)):=opI fun _ _ _ _ _ _ _ hc q=>pow_int_small hc.1 hc.2.1 hc.2.2 q
theorem kI:OpR X (binaryOp .LShift) (rI CPow fun i j=>.int (i*2^j.toNat)):=opI fun _ _ _ _ _ _ _ hc q=>lshift_int_small hc.1 hc.2.1 hc.2.2 q
theorem yf:OpR X (binaryOp .RShift) (rI (fun _ j=>0<=j) fun i j=>.int (i/2^j.toNat)):=opI fun i j _ _ _ _ _ hc q =>
 rshift_int hc (by rw[Iv i (yL _)];exact q)
theorem AS:OpR X (binaryOp .BitAnd) (rI0 fun i j=>.int (Builtin.bitAnd i j)):=opI0 fun _ _ _ _ _ _ _ q=>and_int q
theorem op_or:OpR X (binaryOp .BitOr) (rI0 fun i j=>.int (Builtin.bitOr i j)):=opI0 fun _ _ _ _ _ _ _ q=>or_int q
theorem ye:OpR X (binaryOp .BitXor) (rI0 fun i j=>.int (Builtin.bitXor i j)):=opI0 fun _ _ _ _ _ _ _ q=>xor_int q
end
def scal:V->V->Bool
 |.non,.non=>true | .non,.int _=>true | .int _,.non=>true | .non,.bl _=>true | .bl _,.non=>true | .non,.str _=>true | .str _,.non=>true
 |.int _,.int _=>true | .bl _,.bl _=>true | .str _,.str _=>true | .byt _,.byt _=>true
 |.int _,.str _=>true | .str _,.int _=>true | .bl _,.str _=>true | .str _,.bl _=>true
 |_,_=>false
def rEq:R2:=fun x y H Q=>scal x y=true/\Q (.bl (decide (x=y))) H
def rNe:R2:=fun x y H Q=>scal x y=true/\Q (.bl (!decide (x=y))) H
theorem BD{i j:Int}:decide (V.int i=V.int j)=(i == j):=by
 rw[HP]
 simp
theorem DB{i j:Bool}:decide (V.bl i=V.bl j)=(i == j):=by
 rw[HP]
 simp
theorem BC{i j:Str}:decide (V.str i=V.str j)=(i == j):=by
 rw[HP]
 simp
theorem BE{i j:Array UInt8}:decide (V.byt i=V.byt j)=(i.toList == j.toList):=by
 rw[HP]
 cases i
 cases j
 simp
section
variable{X:Cx}{a b c:Expr}{ta tb tc:TE}{pos:Pos}
theorem ba{pins:List (Addr×Obj)}{σ:St}{H:Hp}{s:Shared}{Q:VK}{k k':Bool}(I:Inv X pins σ H s)(q:Q (.bl k) H)(e:k=k'):EP X pins σ Q (.bool k') s:=by
 subst e
 exact⟨.bl k,H,I,rfl,q⟩
theorem nS:OpR X (compareOp .Eq) rEq:=by
 intro pins s σ H x y v u Q I rx ry h
 obtain⟨hs,q⟩:=h
 cases x with
 |non =>
  cases rx
  cases y with
  |non=>cases ry;exact PySem.EqNone.eq_none_none (ba I q (by simp))
  |bl j=>cases ry;exact PySem.EqNone.eq_none_bool (ba I q (by simp))
  |int j=>obtain⟨t',rfl⟩:=ry;exact PySem.EqNone.eq_none_int (ba I q (by simp))
  |str j=>obtain⟨t',rfl⟩:=ry;exact PySem.EqNone.eq_none_str (ba I q (by simp))
  |_=>exact absurd (show false=true from hs) FO
 |bl i =>
  cases rx
  cases y with
  |non=>cases ry;exact PySem.EqNone.eq_bool_none (ba I q (by simp))
  |bl j=>cases ry;exact eq_bool (ba I q DB)
  |str j=>obtain⟨t',rfl⟩:=ry;exact PySem.EqMixed.eq_bool_str (ba I q (by simp))
  |_=>exact absurd (show false=true from hs) FO
 |int i =>
  obtain⟨t,rfl⟩:=rx
  cases y with
  |non=>cases ry;exact PySem.EqNone.eq_int_none (ba I q (by simp))
  |int j=>obtain⟨t',rfl⟩:=ry;exact eq_int (ba I q BD)
  |str j=>obtain⟨t',rfl⟩:=ry;exact PySem.EqMixed.eq_int_str (ba I q (by simp))
  |_=>exact absurd (show false=true from hs) FO
 |str i =>
  obtain⟨t,rfl⟩:=rx
  cases y with
  |non=>cases ry;exact PySem.EqNone.eq_str_none (ba I q (by simp))
  |bl j=>cases ry;exact PySem.EqMixed.eq_str_bool (ba I q (by simp))
  |int j=>obtain⟨t',rfl⟩:=ry;exact PySem.EqMixed.eq_str_int (ba I q (by simp))
  |str j=>obtain⟨t',rfl⟩:=ry;exact eq_str (ba I q BC)
  |_=>exact absurd (show false=true from hs) FO
 |byt i =>
  obtain⟨t,rfl⟩:=rx
  cases y with
  |byt j=>obtain⟨t',rfl⟩:=ry;exact PySem.W.eq_bytes (ba I q BE)
  |_=>exact absurd (show false=true from hs) FO
 |_=>cases y<;>exact absurd (show false=true from hs) FO
theorem vN:OpR X (compareOp .NotEq) rNe:=by
 intro pins s σ H x y v u Q I rx ry h
 obtain⟨hs,q⟩:=h
 cases x with
 |non =>
  cases rx
  cases y with
  |non=>cases ry;exact PySem.EqNone.ne_none_none (ba I q (by simp))
  |bl j=>cases ry;exact PySem.EqNone.ne_none_bool (ba I q (by simp))
  |int j=>obtain⟨t',rfl⟩:=ry;exact PySem.EqNone.ne_none_int (ba I q (by simp))
  |str j=>obtain⟨t',rfl⟩:=ry;exact PySem.EqNone.ne_none_str (ba I q (by simp))
  |_=>exact absurd (show false=true from hs) FO
 |bl i =>
  cases rx
  cases y with
  |non=>cases ry;exact PySem.EqNone.ne_bool_none (ba I q (by simp))
  |bl j=>cases ry;exact ne_bool (ba I q (congrArg not DB))
  |str j=>obtain⟨t',rfl⟩:=ry;exact PySem.EqMixed.ne_bool_str (ba I q (by simp))
  |_=>exact absurd (show false=true from hs) FO
 |int i =>
  obtain⟨t,rfl⟩:=rx
  cases y with
  |non=>cases ry;exact PySem.EqNone.ne_int_none (ba I q (by simp))
  |int j=>obtain⟨t',rfl⟩:=ry;exact ne_int (ba I q (congrArg not BD))
  |str j=>obtain⟨t',rfl⟩:=ry;exact PySem.EqMixed.ne_int_str (ba I q (by simp))
  |_=>exact absurd (show false=true from hs) FO
 |str i =>
  obtain⟨t,rfl⟩:=rx
  cases y with
  |non=>cases ry;exact PySem.EqNone.ne_str_none (ba I q (by simp))
  |bl j=>cases ry;exact PySem.EqMixed.ne_str_bool (ba I q (by simp))
  |int j=>obtain⟨t',rfl⟩:=ry;exact PySem.EqMixed.ne_str_int (ba I q (by simp))
  |str j=>obtain⟨t',rfl⟩:=ry;exact ne_str (ba I q (congrArg not BC))
  |_=>exact absurd (show false=true from hs) FO
 |byt i =>
  obtain⟨t,rfl⟩:=rx
  cases y with
  |byt j=>obtain⟨t',rfl⟩:=ry;exact PySem.W.ne_bytes (ba I q (congrArg not BE))
  |_=>exact absurd (show false=true from hs) FO
 |_=>cases y<;>exact absurd (show false=true from hs) FO
theorem vO:OpR X (compareOp .Lt) (rI0 fun i j=>.bl (decide (i<j))):=opB0 fun _ _ _ _ _ _ _ q=>lt_int q
theorem op_le:OpR X (compareOp .LtE) (rI0 fun i j=>.bl (decide (i<=j))):=opB0 fun _ _ _ _ _ _ _ q=>le_int q
theorem op_gt:OpR X (compareOp .Gt) (rI0 fun i j=>.bl (decide (j<i))):=opB0 fun _ _ _ _ _ _ _ q=>gt_int q
theorem Ct:OpR X (compareOp .GtE) (rI0 fun i j=>.bl (decide (j<=i))):=opB0 fun _ _ _ _ _ _ _ q=>ge_int q
theorem aR(b:Expr){op:CmpOp}(h:op≠.In:=by decide)(h2:op≠.NotIn:=by decide):behindInMarks op b=false:=by
 have e1:(op == CmpOp.In)=false:=by cases op<;>first | rfl | exact absurd rfl h
 have e2:(op == CmpOp.NotIn)=false:=by cases op<;>first | rfl | exact absurd rfl h2
 cases b<;>simp[behindInMarks,e1,e2]
theorem AO{op:CmpOp}{r:R2}(ho:OpR X (compareOp op) r)(ha:PE X a ta)(hb:PE X b tb)(hm:behindInMarks op b=false):PE X (.Compare a [op] [b] pos) (tOp r ta tb):=by
 intro pins s σ H Q I h
 exact wpAny_Compare1 (binT ha hb I h fun v u s2 x y H2 I2 rx ry q=>ho pins s2 σ H2 x y v u Q I2 rx ry q) hm
def tTest(t:TE):TT:=fun σ H Q=>t σ H fun x H'=>∃ k,x=.bl k/\Q k H'
theorem aK{op:CmpOp}{r:R2}(ho:OpR X (compareOp op) r)(ha:PE X a ta)(hb:PE X b tb)(hm:behindInMarks op b=false):PT X (.Compare a [op] [b] pos) (tTest (tOp r ta tb)):=by
 intro pins s σ H Q I h
 refine wpAny_isTrue_Compare1 (thn (ha pins s σ H _ I h) fun v s1 ⟨x,H1,I1,r1,q1⟩=>thn (hb pins s1 σ H1 _ I1 q1) fun u s2 ⟨y,H2,I2,r2,q2⟩ =>
  thn (ho pins s2 σ H2 x y v u _ I2 r1 r2 q2) fun c s3 ⟨z,H3,I3,r3,k,e,q3⟩=>?_) hm
 subst e
 cases r3
 exact wpAny_truthy_bool ⟨H3,I3,q3⟩
theorem ot:(sizeLine:Nat)<2^63:=by rw[sizeLine_eq];decide
theorem yK{x:V}{us:List Value}(r:Vals [x] us):∃ u,us = [u]/\RelV x u:=by
 cases r with
 |cons r1 r2=>cases r2;exact⟨_,rfl,r1⟩
theorem vals2{x y:V}{us:List Value}(r:Vals [x,y] us):∃ u w',us = [u,w']/\RelV x u/\RelV y w':=by
 cases r with
 |cons r1 r2 =>
  cases r2 with
  |cons r3 r4=>cases r4;exact⟨_,_,rfl,r1,r3⟩
theorem BK(hc:X.calm=true):nO X (.builtin "max") (fun xs H Q=>∃ i j,xs = [.int i,.int j]/\Q (.int (if j > i then j else i)) H):=by
 intro pins s σ H xs us Q I r h
 obtain⟨i,j,rfl,q⟩:=h
 obtain⟨u,w',rfl,⟨t,rfl⟩,⟨t',rfl⟩⟩:=vals2 r
 refine max_two_ints (I.ok.hd hc) fun h' tk k=>⟨_,H,I.kept k,?_,q⟩
 by_cases hj:j > i
 ·rw[if_pos hj,if_pos hj];exact⟨_,rfl⟩
 ·rw[if_neg hj,if_neg hj];exact⟨_,rfl⟩
end
end L2
namespace L2
open PySem PySem.Spec PyProof.Rows
structure ObjM(h:Heap)(x dx C:Addr)(mA:Str->Option Value):Prop where
 obj:h.get? x=some (GK C dx)
 ns:h.Ns1 dx mA
 ne:dx≠x
theorem Bc{h:Heap}{dx:Addr}{mA:Str->Option Value}(n:h.Ns1 dx mA):∃ od,h.get? dx=some od/\∀ name,HW name od=some (mA name):=by
 obtain⟨o,es,ep,ho,hd,hk,_,hm⟩:=n
 refine⟨o,ho,fun name=>?_⟩
 have e:=hm name
 unfold nsFind findBy at e
 rw[← Array.find?_toList]at e
 unfold HW
 rw[hd]
 dsimp only
 split
 ·rename_i y q
  rw[q]at e
  exact congrArg some e
 ·rename_i q
  rw[q]at e
  have a:es.toList.any (·.refKey)=false:=by
   rw[List.any_eq_false]
   intro y hy
   obtain⟨z,t,hkey⟩:=hk y (Array.mem_toList_iff.mp hy)
   simp[DictEntry.refKey,hkey]
  have a':¬ es.toList.any (·.refKey)=true:=by rw[a];exact FO
  rw[if_neg a']
  exact congrArg some e
theorem ObjM.look{h:Heap}{x dx C:Addr}{mA:Str->Option Value}(I:ObjM h x dx C mA):∃ od,PySem.W.InstAt h x (GK C dx) C (some od)/\∀ name,HW name od=some (mA name) :=
 let ⟨od,ho,hl⟩:=Bc I.ns
 ⟨od,⟨I.obj,rfl,rfl,ho⟩,hl⟩
section
variable{prog:Program}{w:World}{A:Around}{E:Value->Shared->Prop}{s:Shared}{K:E6}{x dx C f:Addr}{mA:Str->Option Value}{name:Str}{v:Value}
theorem ED{expr:Bool}{Q:Value->Shared->Prop}(X:K.In s.heap)(I:ObjM s.heap x dx C mA)(hg:GP K C name=true)(hh:G3 K C=true)
  (ha:Fz K (.ref C) name=some none) (hv:mA name=some v) (hv':PySem.W.handedIn v=true) (h:Q v { s with toks:=s.toks+1 }) :
  wpAny (model prog w) A (getAttr (.ref x) name expr) Q E s:=by
 obtain⟨od,J,hl⟩:=I.look
 exact PySem.W.get_value X J (Ia hg).1 (PySem.W.findObj_own hh ha rfl (by rw[hl,hv])) hv' h
theorem C3{pl:Sem Bool}{Q:Value×List Value->Shared->Prop}(X:K.In s.heap)(I:ObjM s.heap x dx C mA)(hg:GP K C name=true)
  (hf:Fz K (.ref C) name=some (some (.ref f))) (ht:GY K (.ref f)=true) (hv:mA name=none) (h:Q (.ref f,[.ref x]) s) :
  wpAny (model prog w) A (getMethod (.ref x) name pl) Q E s:=by
 obtain⟨od,J,hl⟩:=I.look
 exact PySem.W.method_fn X J (Ia hg).1 (Ia hg).2 hf (beq_iff_eq.mp ht) (by show(HW name od).map (·.isSome)=some false;rw[hl,hv];rfl) h
theorem DZ{ns:List Str}{Q:Unit->Shared->Prop}(X:K.In s.heap)(I:ObjM s.heap x dx C mA)
  (hs:Fz K (.ref C) "__setattr__" = some (some (.builtin "object.__setattr__"))) (hp:He K C=true) (ht:Io K C name=some none) (hh:G3 K C=true)
  (hw:PySem.Within mA ns) (hsz:ns.length<=sizeLine)
  (h:∀ h',ObjM h' x dx C (fun y=>if y=name then some v else mA y)->Heap.SameBut dx s.heap h'->Q () { s with heap:=h',toks:=s.toks+2 }) :
  wpAny (model prog w) A (setAttr (.ref x) name v) Q E s:=by
 obtain⟨od,J,hl⟩:=I.look
 refine PySem.W.set_plain X J hs (PySem.W.osa_open (s:={ s with toks:=s.toks+1 }) (r:=none) X J hp ht fun b=>?_)
 obtain⟨cd,hc,hd'⟩:=PySem.W.any_some hh
 have hx:s.heap.get? x=some ⟨.ref C,some dx,.plain,#[]⟩:=I.obj
 refine wpAny_bind (wpAny_pure (wpAny_bind (wpAny_bind (wpAny_loadPart hx (wpAny_bind (PySem.W.Looks.here (s:={ s with toks:=s.toks+1 }) (PySem.W.looks_clsIn X hc) ?_))))))
 rw[hd']
 refine wpAny_pure (a:=some dx) (wpAny_bind (wpAny_pure (wpAny_bind ?_)))
 refine wpAny_nsSet1 (s:={ s with toks:=s.toks+1 }) I.ns fun h' hn2 hs2=>?_
 obtain⟨oD,esD,epD,hoD,hdD,hcD⟩:=hn2.count (PySem.Within.cons name v hw)
 refine wpAny_bind (wpAny_lookBehind hoD (by rw[hdD];exact pastItsLine_dict (F4 hcD (by rw[FV];omega))) ?_)
 exact wpAny_pure (h _ ⟨(hs2.2 _ (Ne.symm I.ne)).trans I.obj,hn2,I.ne⟩ hs2)
theorem CO{R:Result->Shared->Prop}{vs:List Value}{kw:List (Str×Value)}(X:K.In s.heap)(hm:Ho K C=true)
  (hi:Fz K (.ref C) "__init__" = some (some (.ref f))) (hf:PySem.W.typeIn K (.ref f)=some (.type "function"))
  (h:codeAny (model prog w) (A.under (.builtin "type.__call__" ⟨.ref C::vs,kw⟩)) (.call (.ref f) ⟨.ref (s.heap.objs.size+1)::vs,kw⟩) (PySem.W.InitBack (s.heap.objs.size+1) R)
   { s with heap:=(s.heap.push Gq).push (GK C s.heap.objs.size) }) :
  codeAny (model prog w) A (.call (.ref C) ⟨vs,kw⟩) R s:=by
 obtain⟨hh,g,d,t,os⟩:=s
 exact PySem.W.make_core (PySem.W.makes_of X hm) (PySem.W.looks_findIn X hi) (fun self=>PySem.W.bind_fn X self hf) (.inl rfl) h
end
def putF(f:Str)(v:V):List (Str×V)->List (Str×V)
 |[]=>[(f,v)]
 | (g,x)::r=>if g=f then(g,v)::r else(g,x)::putF f v r
theorem av(f g:Str)(v:V):∀ fs:List (Str×V),(putF f v fs).lookup g=if g=f then some v else fs.lookup g
 |[]=>by
  show Hq g [(f,v)]=_
  by_cases h:g=f
  ·have hb:(g == f)=true:=beq_iff_eq.mpr h
   simp only[Hq,hb,if_pos h]
  ·have hb:(g == f)=false:=beq_eq_false_iff_ne.mpr h
   simp only[Hq,hb,if_neg h]
 | (k,x)::r=>by
  have ih:=av f g v r
  rw[show putF f v ((k,x)::r)=(if k=f then(k,v)::r else(k,x)::putF f v r) from rfl]
  by_cases hk:k=f
  ·rw[if_pos hk]
   by_cases h:g=k
   ·have hb:(g == k)=true:=beq_iff_eq.mpr h
    simp only[Hq,hb,if_pos (h.trans hk)]
   ·have hb:(g == k)=false:=beq_eq_false_iff_ne.mpr h
    simp only[Hq,hb,if_neg (fun e:g=f=>h (e.trans hk.symm))]
  ·rw[if_neg hk]
   by_cases h:g=k
   ·have hb:(g == k)=true:=beq_iff_eq.mpr h
    simp only[Hq,hb,if_neg (fun e:g=f=>hk (h.symm.trans e))]
   ·have hb:(g == k)=false:=beq_eq_false_iff_ne.mpr h
    simp only[Hq,hb]
    exact ih
theorem mK(f:Str)(v:V):∀ fs:List (Str×V),f∈(putF f v fs).map (·.1)/\∀ g,g∈fs.map (·.1)->g∈(putF f v fs).map (·.1)
 |[]=>⟨by simp[putF],fun g h=>by simp at h⟩
 | (k,x)::r=>by
  obtain⟨i1,i2⟩:=mK f v r
  rw[show putF f v ((k,x)::r)=(if k=f then(k,v)::r else(k,x)::putF f v r) from rfl]
  by_cases hk:k=f
  ·rw[if_pos hk]
   subst hk
   exact⟨by simp,fun g h=>by simpa using h⟩
  ·rw[if_neg hk]
   refine⟨?_,fun g h=>?_⟩
   ·rw[FX]
    exact Fh _ i1
   ·rw[FX]at h ⊢
    rcases Fb.mp h with e | e
    ·exact Fb.mpr (.inl e)
    ·exact Fh _ (i2 g e)
theorem mB(f:Str)(v:V):∀ fs:List (Str×V),(putF f v fs).length<=fs.length+1
 |[]=>by simp[putF]
 | (k,x)::r=>by
  have ih:=mB f v r
  rw[show putF f v ((k,x)::r)=(if k=f then(k,v)::r else(k,x)::putF f v r) from rfl]
  by_cases hk:k=f
  ·rw[if_pos hk,FV,FV];omega
  ·rw[if_neg hk,FV,FV];omega
theorem RelO.some_of{v:V}{o:Option Value}(r:RelO (some v) o):∃ u,o=some u/\RelV v u:=by
 cases o with
 |none=>exact(show False from r).elim
 |some u=>exact⟨u,rfl,r⟩
theorem RelO.none_of{o:Option Value}(r:RelO none o):o=none:=by
 cases o with
 |none=>rfl
 |some u=>exact(show False from r).elim
theorem Bx{v:V}{u:Value}(r:RelV v u):PySem.W.handedIn u=true:=by
 cases v with
 |non=>cases (show u=Value.none from r);rfl
 |bl b=>cases (show u=Value.bool b from r);rfl
 |int i=>obtain⟨t,e⟩:=(show ∃ t,u=Value.int i t from r);cases e;rfl
 |str x=>obtain⟨t,e⟩:=(show ∃ t,u=Value.str x t from r);cases e;rfl
 |byt b=>obtain⟨t,e⟩:=(show ∃ t,u=Value.bytes b t from r);cases e;rfl
 |flt b=>obtain⟨t,e⟩:=(show ∃ t,u=Value.float b t from r);cases e;rfl
 |ref a=>cases (show u=Value.ref a from r);rfl
 |ty n=>cases (show u=Value.type n from r);rfl
section
variable{P:Program}{w:World}{H H':Hp}{h h':Heap}{a C dx:Addr}{fs fs':List (Str×V)}
theorem qx(hok:HOk P w H h)(e:H a=some (.ins C dx fs)):∃ mA,ObjM h a dx C mA/\(∀ f,RelO (fs.lookup f) (mA f))/\PySem.Within mA (fs.map (·.1))/\fs.length<=1000/\H dx=some (.own a):=by
 obtain⟨d,z,ne,ob,mA,n,r,q⟩:=(show bM P w H h a (.ins C dx fs) from hok a _ e)
 exact⟨mA,⟨ob,n,ne⟩,r,q,z,d⟩
end
structure Cls(K:E6)(C:Addr):Prop where
 pg:GP K C Str.empty=true
 hd:G3 K C=true
 po:He K C=true
 sa:Fz K (.ref C) "__setattr__" = some (some (.builtin "object.__setattr__"))
theorem Cls.get{K:E6}{C:Addr}(c:Cls K C)(f:Str):GP K C f=true:=c.pg
def eP(K:E6)(C:Addr)(f:Str):Prop:=Fz K (.ref C) f=some none
theorem eP.taker{K:E6}{C:Addr}{f:Str}(n:eP K C f):Io K C f=some none:=by
 unfold Io
 rw[show Fz K (.ref C) f=some none from n]
 rfl
structure Meth(K:E6)(C:Addr)(m:Str)(f:Addr):Prop where
 at_:Fz K (.ref C) m=some (some (.ref f))
 fn:GY K (.ref f)=true
 kp:Fo K (.ref f)=true
section
variable{X:Cx}{pins:List (Addr×Obj)}{σ:St}{H:Hp}{s:Shared}{a C dx:Addr}{fs:List (Str×V)}{f:Str}{v:V}{A:Around}{E:Value->Shared->Prop}
theorem zD{b:Bool}{Q:Value->Shared->Prop}(I:Inv X pins σ H s)(e:H a=some (.ins C dx fs))(c:Cls X.K C)(n:eP X.K C f)(l:fs.lookup f=some v)
  (h:∀ u s',Inv X pins σ H s'->RelV v u->Q u s'):wpAny (model X.prog X.w) A (getAttr (.ref a) f b) Q E s:=by
 obtain⟨mA,O,r,_,_,_⟩:=qx I.hok e
 obtain⟨u,hu,ru⟩:=RelO.some_of (v:=v) (o:=mA f) (by rw[← l];exact r f)
 exact ED I.kIn O (c.get f) c.hd n hu (Bx ru) (h u _ (I.tok _) ru)
theorem ow{m:Str}{g:Addr}{pl:Sem Bool}{Q:Value×List Value->Shared->Prop}(I:Inv X pins σ H s)(e:H a=some (.ins C dx fs))(c:Cls X.K C)(k:Meth X.K C m g)(l:fs.lookup m=none)
  (h:Q (.ref g,[.ref a]) s):wpAny (model X.prog X.w) A (getMethod (.ref a) m pl) Q E s:=by
 obtain⟨mA,O,r,_,_,_⟩:=qx I.hok e
 have hn:mA m=none:=RelO.none_of (by rw[← l];exact r m)
 exact C3 I.kIn O (c.get m) k.at_ k.fn hn h
theorem yS{y:V}{u:Value}{Q:Unit->Shared->Prop}(I:Inv X pins σ H s)(e:H a=some (.ins C dx fs))(c:Cls X.K C)(n:eP X.K C f)(hl:fs.length<1000)(ry:RelV y u)
  (h:∀ s',Inv X pins σ (upd H a (.ins C dx (putF f y fs))) s'->Q () s'):wpAny (model X.prog X.w) A (setAttr (.ref a) f u) Q E s:=by
 obtain⟨mA,O,r,wi,_,ho⟩:=qx I.hok e
 have hz:(fs.map (·.1)).length<=sizeLine:=by rw[Fc,sizeLine_eq];omega
 refine DZ I.kIn O c.sa c.po n.taker c.hd wi hz fun h' O' sb=>h _ ?_
 have hd:∃ o,h'.get? dx=some o:=let ⟨o,_,_,e',_⟩:=O'.ns;⟨o,e'⟩
 refine I.write (x:=a) (e:=dx) (by rw[e];exact True.intro) (.inr ho) (fun b q hb z=>(sb.2 b hb).trans z) hd ?_
 refine⟨by rw[ai O.ne];exact ho,?_,O.ne,O'.obj,_,O'.ns,fun g=>?_,fun g hg=>?_⟩
 ·have:=mB f y fs;omega
 ·show RelO ((putF f y fs).lookup g) (if g=f then some u else mA g)
  rw[av]
  by_cases q:g=f
  ·rw[if_pos q,if_pos q];exact ry
  ·rw[if_neg q,if_neg q];exact r g
 ·by_cases q:g=f
  ·rw[q];exact(mK f y fs).1
  ·refine(mK f y fs).2 g (wi g fun z=>hg ?_)
   show(if g=f then some u else mA g)=none
   rw[if_neg q];exact z
theorem Inv.made(I:Inv X pins σ H s):Inv X pins σ (upd (upd H s.heap.objs.size (.own (s.heap.objs.size+1))) (s.heap.objs.size+1) (.ins C s.heap.objs.size []))
  { s with heap:=(s.heap.push Gq).push (GK C s.heap.objs.size) }:=by
 have e1:(s.heap.push Gq).get? s.heap.objs.size=some Gq:=Heap.get?_push_size s.heap rfl
 have e2:((s.heap.push Gq).push (GK C s.heap.objs.size)).get? (s.heap.objs.size+1)=some (GK C s.heap.objs.size):=by
  have:=Heap.get?_push_size (s.heap.push Gq) (o:=GK C s.heap.objs.size) rfl
  rwa[Heap.size_push]at this
 have e3:(s.heap.push Gq).Ns s.heap.objs.size (fun _=>none):=⟨Gq,#[],_,e1,rfl,(fun e he=>absurd he (by simp)),fun _=>rfl⟩
 have I1:=I.laid (a:=s.heap.objs.size) (o:=.own (s.heap.objs.size+1)) (h':=s.heap.push Gq) (t':=s.toks) (fun b u q=>Heap.get?_push_of_some _ q) (Ff _) ⟨_,e1⟩
 refine I1.laid (a:=s.heap.objs.size+1) (o:=.ins C s.heap.objs.size []) (t':=s.toks) (fun b u q=>Heap.get?_push_of_some _ q) (Nat.le_of_eq (Heap.size_push _ _)) ?_
 have ne:s.heap.objs.size≠s.heap.objs.size+1:=FG (GQ _)
 refine⟨by rw[ai ne,ae],Ge _,ne,e2,fun _=>none,(Heap.Ns1.of_empty e3).at fun o q=>Heap.get?_push_of_some _ q,fun _=>True.intro,fun y hy=>absurd rfl hy⟩
theorem EX{prog:Program}{w:World}{env:Env}{e:Expr}{f:Str}{pos:Pos}{s:Shared}{Q:Value->Shared->Prop}(hb:attributeBase e f env (eval e env)=eval e env)
  (h:wpAny (model prog w) A (eval e env) (fun o s₁=>wpAny (model prog w) A (getAttr o f true) Q E s₁) E s):wpAny (model prog w) A (eval (.Attribute e f pos) env) Q E s :=
 Attribute_any_ h (by rw[arm_eval_Attribute,hb])
end
def tFld(K:E6)(ta:TE)(f:Str):TE:=fun σ H Q=>ta σ H fun x H1=>∃ a C dx fs v,x=.ref a/\H1 a=some (.ins C dx fs)/\Cls K C/\eP K C f/\fs.lookup f=some v/\Q v H1
def sFld(K:E6)(ta tv:TE)(f:Str):TS:=fun D σ H=>tv σ H fun y H1=>ta σ H1 fun x H2=>∃ a C dx fs,x=.ref a/\H2 a=some (.ins C dx fs)/\Cls K C/\eP K C f/\fs.length<1000 /\
 D.nx σ (upd H2 a (.ins C dx (putF f y fs)))
section
variable{X:Cx}{o e value:Expr}{f:Str}{pos pos' tpos:Pos}{ta tv:TE}
theorem dH(he:PE X e ta)(hb:attributeBase e f X.env (eval e X.env)=eval e X.env):PE X (.Attribute e f pos) (tFld X.K ta f):=by
 intro pins s σ H Q I h
 refine EX hb (thn (he pins s σ H _ I h) fun u s1 ⟨x,H1,I1,rx,a,C,dx,fs,v,ex,ea,c,n,l,q⟩=>?_)
 subst ex
 obtain rfl:u=Value.ref a:=rx
 exact zD I1 ea c n l fun u' s2 I2 ru=>⟨v,H1,I2,ru,q⟩
theorem kH(ha:PE X o ta)(hv:PE X value tv)(hs:swapsWith value (some (.Attribute o f pos')) pos.line X.env=pure false):PS X (.Assign [.Attribute o f pos'] value pos) (sFld X.K ta tv f):=by
 intro pins s σ H D I h
 refine plainObj_wpAny_Assign_Attribute (thn (hv pins s σ H _ I h) fun u s1 ⟨y,H1,I1,ry,q⟩=>thn (ha pins s1 σ H1 _ I1 q) fun ov s2 ⟨x,H2,I2,rx,a,C,dx,fs,ex,ea,c,n,l,q2⟩=>?_) hs
 subst ex
 obtain rfl:ov=Value.ref a:=rx
 exact yS I2 ea c n l ry fun s3 I3=>⟨σ,_,I3,q2⟩
end
section
variable{X:Cx}{pins:List (Addr×Obj)}{σ:St}{H:Hp}{s:Shared}{A:Around}{E:Value->Shared->Prop}{Q:Value->Shared->Prop}{c:Value}{b:Bool}
inductive TyOf(K:E6)(H:Hp):V->Value->Prop where
 |non:TyOf K H .non (.type "NoneType")
 |bl (x:Bool):TyOf K H (.bl x) (.type "bool")
 |int (i:Int):TyOf K H (.int i) (.type "int")
 |str (x:Str):TyOf K H (.str x) (.type "str")
 |flt (x:UInt64):TyOf K H (.flt x) (.type "float")
 |lst {a:Addr} {xs:List V} (e:H a=some (.lst xs)):TyOf K H (.ref a) (.type "list")
 |frz {a:Addr} {o:Obj} {xs:List V} (e:H a=some (.frz o (.lst xs))):TyOf K H (.ref a) (.type "list")
 |tup {a:Addr} {xs:List V} (e:H a=some (.tup xs)):TyOf K H (.ref a) (.type "tuple")
 |dK {a:Addr} {kvs:List (Key×V)} (e:H a=some (.dK kvs)):TyOf K H (.ref a) (.type "dict")
 |dT {a:Addr} {kvs:List (List Key×V)} (e:H a=some (.dT kvs)):TyOf K H (.ref a) (.type "dict")
 |ins {a C dx:Addr} {fs:List (Str×V)} (e:H a=some (.ins C dx fs)) (cl:Cls K C) (ha:Fz K (.ref C) "__class__" = some (some (.builtin "object.__class__")))
   (hn:PySem.W.specialIn K (.builtin "object.__class__") "__get__" = some (some (.builtin "getset_descriptor.__get__"))) (htk:PySem.W.takesIn K (.builtin "object.__class__")=some true)
   (hm:PySem.W.mroIn K C (.type "object")=some true):TyOf K H (.ref a) (.ref C)
theorem Bn{x:V}{u t:Value}(I:Inv X pins σ H s)(rx:RelV x u)(ty:TyOf X.K H x t)(e:Hy X.K t c=some b)(h:∀ tk,Q (.bool b) { s with toks:=tk }) :
  wpAny (model X.prog X.w) A (call (.builtin "isinstance") [u,c]) Q E s:=by
 cases ty with
 |non=>cases (show u=Value.none from rx);exact Gj PySem.W.kitx_none I.kIn True.intro e (fun z=>nomatch z) h
 |bl y=>cases (show u=Value.bool y from rx);exact Gj PySem.W.kitx_bool I.kIn True.intro e (fun z=>nomatch z) h
 |int i=>obtain⟨t,q⟩:=(show ∃ t,u=Value.int i t from rx);cases q;exact Gj PySem.W.kitx_int I.kIn True.intro e (fun z=>nomatch z) h
 |str y=>obtain⟨t,q⟩:=(show ∃ t,u=Value.str y t from rx);cases q;exact Gj PySem.W.kitx_str I.kIn True.intro e (fun z=>nomatch z) h
 |flt y=>obtain⟨t,q⟩:=(show ∃ t,u=Value.float y t from rx);cases q;exact Gj PySem.W.kitx_float I.kIn True.intro e (fun z=>nomatch z) h
 | @lst a xs ea =>
  cases (show u=Value.ref a from rx)
  obtain⟨_,_,n,_,h1⟩:=(show bM X.prog X.w H s.heap a (.lst xs) from I.hok a _ ea)
  exact Gj PySem.W.kitx_list I.kIn ⟨_,h1,rfl⟩ e (fun z=>nomatch z) h
 | @frz a ob xs ea =>
  cases (show u=Value.ref a from rx)
  obtain⟨_,_,_,n,_,h1⟩:=(show bM X.prog X.w H s.heap a (.frz ob (.lst xs)) from I.hok a _ ea)
  exact Gj PySem.W.kitx_list I.kIn ⟨_,h1,rfl⟩ e (fun z=>nomatch z) h
 | @tup a xs ea =>
  cases (show u=Value.ref a from rx)
  obtain⟨_,_,_,p⟩:=(show bM X.prog X.w H s.heap a (.tup xs) from I.hok a _ ea)
  obtain⟨o,h1,h2,_⟩:=p
  exact Gj PySem.W.kitx_tuple I.kIn ⟨o,h1,h2⟩ e (fun z=>nomatch z) h
 | @dK a kvs ea =>
  cases (show u=Value.ref a from rx)
  obtain⟨_,_,vs,_,p⟩:=(show bM X.prog X.w H s.heap a (.dK kvs) from I.hok a _ ea)
  obtain⟨o,es,ep,h1,h2,_⟩:=p
  exact Gj PySem.W.kitx_dict I.kIn ⟨o,h1,h2.1⟩ e (fun z=>nomatch z) h
 | @dT a kvs ea =>
  cases (show u=Value.ref a from rx)
  obtain⟨_,_,xs,_,o,es,ep,h1,h2,_⟩:=(show bM X.prog X.w H s.heap a (.dT kvs) from I.hok a _ ea)
  exact Gj PySem.W.kitx_dict I.kIn ⟨o,h1,h2.1⟩ e (fun z=>nomatch z) h
 | @ins a C dx fs ea cl ha hn htk hm =>
  cases (show u=Value.ref a from rx)
  obtain⟨mA,O,_⟩:=qx I.hok ea
  obtain⟨od,J,_⟩:=O.look
  exact Gj (PySem.W.kitx_own (cl.get _) cl.hd ha hn htk hm) I.kIn J e (fun z=>nomatch z) h
end
end L2
namespace L2
open PySem PySem.Spec PyProof.Rows
structure Room(k:Nat)(A:Around):Prop where
 hd:A.handled=none
 dp:A.depth+3*k+5<recursionLimit
 un:A.units+16*k+200<cLine
theorem Room.mono{j k:Nat}{A:Around}(r:Room k A)(h:j<=k):Room j A:=⟨r.hd,by have:=r.dp;omega,by have:=r.un;omega⟩
theorem Room.deeper{k:Nat}{A:Around}(r:Room (k+1) A)(env:Env):Room k (A.deeper env) :=
 ⟨r.hd,by have:=r.dp;show A.depth+1+3*k+5<_;omega,by have:=r.un;show A.units+3+16*k+200<_;omega⟩
theorem zp{A:Around}{C:Addr}{us:List Value}{kw:List (Str×Value)}:(A.under (.builtin "type.__call__" ⟨.ref C::us,kw⟩)).depth=A.depth+1:=by
 first | rfl | simp[Around.under,Code.weight,Code.isCreation,Code.isGuard,Code.isCaller,Code.frames,Code.isFrame,guardIds]
theorem zo{A:Around}{C:Addr}{us:List Value}{kw:List (Str×Value)}:(A.under (.builtin "type.__call__" ⟨.ref C::us,kw⟩)).units=A.units+1:=by
 first | rfl | simp[Around.under,Code.cUnits,Code.frames,Code.isFrame]
theorem Room.make{k:Nat}{A:Around}(r:Room (k+1) A)(C:Addr)(us:List Value)(kw:List (Str×Value)):Room k (A.under (.builtin "type.__call__" ⟨.ref C::us,kw⟩)) :=
 ⟨r.hd,by have:=r.dp;rw[zp];omega,by have:=r.un;rw[zo];omega⟩
theorem Room.depth{k:Nat}{A:Around}(r:Room k A):A.depth<recursionLimit:=by have:=r.dp;omega
theorem Room.units{k:Nat}{A:Around}(r:Room k A):A.units+64<cLine:=by have:=r.un;omega
def tNil:TA:=fun _ H Q=>Q [] H
def tCons(ta:TE)(tr:TA):TA:=fun σ H Q=>ta σ H fun x H1=>tr σ H1 fun xs H2=>Q (x::xs) H2
section
variable{X:Cx}{e:Expr}{es:List Expr}{te:TE}{t:TA}{pos:Pos}
theorem ag:PA X [] tNil:=fun _ _ _ _ H Q I h=>Calls.spliced_nil ⟨[],H,I,.nil,h⟩
theorem aa(ha:PE X e te)(hr:PA X es t)(hs:starEach (e::es) X.env=(false,eval e X.env)::starEach es X.env:=by rfl):PA X (e::es) (tCons te t):=by
 intro pos pins s σ H Q I h
 rw[hs]
 show wpAny _ _ (spliced ((false,eval e X.env)::backTo pos (starEach es X.env))) _ _ s
 refine Calls.spliced_cons (thn (ha pins s σ H _ I h) fun u s1 ⟨x,H1,I1,r1,q1⟩=>?_)
 exact thn (hr pos pins s1 σ H1 _ I1 q1) fun us s2 ⟨xs,H2,I2,r2,q2⟩=>⟨x::xs,H2,I2,.cons r1 r2,q2⟩
def tTup(t:TA):TE:=fun σ H Q=>t σ H fun xs H1=>xs.length<=sizeLine/\∀ p,H1 p=none->Q (.ref p) (upd H1 p (.tup xs))
def tLst(t:TA):TE:=fun σ H Q=>t σ H fun xs H1=>xs.length<=sizeLine/\∀ p,H1 p=none->Q (.ref p) (upd H1 p (.lst xs))
theorem ju{x1}(h:PA X es t):PE X (.Tuple es x1 pos) (tTup t):=by
 intro pins s σ H Q I hq
 refine wpAny_Tuple_spliced (thn (h pos pins s σ H _ I hq) fun us s1 ⟨xs,H1,I1,r,z,q⟩=>⟨by rw[← r.length];exact z,?_⟩)
 have hf:H1 s1.heap.objs.size=none:=I1.hok.fresh (Ff _)
 refine⟨.ref s1.heap.objs.size,upd H1 s1.heap.objs.size (.tup xs),I1.laid (t':=s1.toks) (fun b u e=>Heap.get?_push_of_some _ e) (Ff _) ?_,rfl,q _ hf⟩
 exact⟨z,us,r,⟨_,Heap.get?_push_size _ rfl,rfl,_,rfl⟩⟩
theorem bK(h:PA X es t):PE X (.List es pos) (tLst t):=by
 intro pins s σ H Q I hq
 refine wpAny_List_spliced (thn (h pos pins s σ H _ I hq) fun us s1 ⟨xs,H1,I1,r,z,q⟩=>⟨by rw[← r.length];exact z,?_⟩)
 have hf:H1 s1.heap.objs.size=none:=I1.hok.fresh (Ff _)
 refine⟨.ref s1.heap.objs.size,upd H1 s1.heap.objs.size (.lst xs),I1.laid (t':=s1.toks) (fun b u e=>Heap.get?_push_of_some _ e) (Ff _) ?_,rfl,q _ hf⟩
 exact⟨z,us,0,r,Heap.get?_push_size _ rfl⟩
end
abbrev Sp:=List V->Hp->VK->XK->Prop
abbrev CXT:=List Env->Hp->Shared->XK->Value->Shared->Prop
structure Env0(P:Program)(w:World)(K:E6)(mg:Str->Option Value)(base:Heap)(A:Around)(outer:List Env)(s:Shared)(H:Hp):Prop where
 frames:A.frames=some outer
 mod:Mod K mg base
 bs:∀ b o,base.get? b=some o->s.heap.get? b=some o/\H b=none
 bsz:base.objs.size<=s.heap.objs.size
 funs:s.heap.FunFrames base outer
 frf:∀ b∈frs outer,H b=none
 hok:HOk P w H s.heap
 bare:AllBare s.gens
def CE(outer:List Env)(P:Program)(w:World)(H:Hp)(s:Shared)(Q:VK)(u:Value)(s':Shared):Prop :=
 ∃ v H',s'.os=s.os/\AllBare s'.gens/\Un (frs outer) [] H H' s.heap s'.heap/\HOk P w H' s'.heap/\RelV v u/\Q v H'
def CR(CX:CXT)(outer:List Env)(P:Program)(w:World)(H:Hp)(s:Shared)(Q:VK)(E:XK)(r:Result)(s':Shared):Prop :=
 match r with
 |.ok (.ret u)=>CE outer P w H s Q u s'
 |.ok _=>False
 |.error e=>CX outer H s E e s'
structure FnOk(P:Program)(w:World)(K:E6)(mg:Str->Option Value)(base:Heap)(CX:CXT)(k:Nat)(f:Addr)(fd:FuncData)(ps:List Str)(sp:Sp):Prop where
 len:∀ vs H Q E,sp vs H Q E->vs.length=ps.length
 run:∀(A:Around)(outer:List Env)(s:Shared)(H:Hp)(args:Args)(us:List Value)(vs:List V)(Q:VK)(E:XK),Room k A->Env0 P w K mg base A outer s H->BindsTo s fd args (ps.zip us)->Vals vs us->sp vs H Q E ->
  codeAny (model P w) A (.call (.ref f) args) (CR CX outer P w H s Q E) s
theorem Env0.make{P:Program}{w:World}{K:E6}{mg:Str->Option Value}{base:Heap}{A:Around}{outer:List Env}{s:Shared}{H:Hp}(e:Env0 P w K mg base A outer s H)(C:Addr)(us:List Value)(kw:List (Str×Value)) :
  Env0 P w K mg base (A.under (.builtin "type.__call__" ⟨.ref C::us,kw⟩)) outer s H:=⟨by first | exact e.frames | (simpa[Around.under,Code.envs,Code.isFrame,pushEnvs] using e.frames),e.mod,e.bs,e.bsz,e.funs,e.frf,e.hok,e.bare⟩
section
variable{X:Cx}{pins:List (Addr×Obj)}{σ:St}{H:Hp}{s s':Shared}
theorem Inv.env0(I:Inv X pins σ H s):Env0 X.prog X.w X.K X.mg X.base X.A X.stack s H :=
 ⟨I.ok.frames,I.ok.mod,I.bs,F4 I.ok.bsz I.sz,I.stack,I.stkFree,I.hok,I.bare⟩
theorem Inv.after{Q:VK}{u:Value}(I:Inv X pins σ H s)(h:CE X.stack X.prog X.w H s Q u s'):EP X pins σ Q u s':=by
 obtain⟨v,H',os,bare,un,hok,r,q⟩:=h
 obtain⟨hh,g,d,t,os'⟩:=s'
 obtain rfl:os'=s.os:=os
 exact⟨v,H',I.call (h':=hh) (g':=g) (d':=d) (t':=t) (ch:=[]) un hok bare (fun b z=>absurd z (by simp)),r,q⟩
end
def tCall(sp:Sp)(dvs:List V)(E:XK)(t:TA):TE:=fun σ H Q=>t σ H fun vs H1=>sp (vs++dvs) H1 Q E
def tMeth(C:Addr)(m:Str)(sp:Sp)(dvs:List V)(E:XK)(ta:TE)(t:TA):TE:=fun σ H Q=>ta σ H fun x H1=>∃ a dx fs,x=.ref a/\H1 a=some (.ins C dx fs)/\fs.lookup m=none /\
 t σ H1 fun vs H2=>sp (x::(vs++dvs)) H2 Q E
def tMake(C:Addr)(sp:Sp)(dvs:List V)(E:XK)(t:TA):TE:=fun σ H Q=>t σ H fun vs H1=>∀ x dx,H1 x=none->H1 dx=none->dx≠x ->
 sp (.ref x::(vs++dvs)) (upd (upd H1 dx (.own x)) x (.ins C dx [])) (fun v H2=>v=.non/\Q (.ref x) H2) E
def jR(K:E6)(fd:FuncData)(ps:List Str)(ds:List Value):Prop :=
 ∀(s:Shared)(us:List Value),K.In s.heap->(us++ds).length=ps.length->BindsTo s fd ⟨us,[]⟩ (ps.zip (us++ds))
theorem jR.all{K:E6}{fd:FuncData}{ps:List Str}(h:∀ us:List Value,us.length=ps.length->bindArgs fd ⟨us,[]⟩=pure (ps.zip us)):jR K fd ps []:=fun s us _ hl=>by
 rw[Hc]at hl ⊢
 exact .of_eq (h us hl)
def nG(CX:CXT)(X:Cx)(E:XK):Prop:=∀(pins:List (Addr×Obj))(σ:St)(H:Hp)(s:Shared)(e:Value)(s':Shared),Inv X pins σ H s->CX X.stack H s E e s'->X.xe e s'
section
variable{X:Cx}{CX:CXT}{k:Nat}{f C:Addr}{fd:FuncData}{ps:List Str}{sp:Sp}{dvs:List V}{ds:List Value}{E:XK}{x m:Str}{p pos apos:Pos}{e o:Expr}{es:List Expr}{ta:TE}{t:TA}
theorem AB{pins:List (Addr×Obj)}{σ:St}{H:Hp}{s:Shared}{Q:VK}{us:List Value}{vs:List V}(F:FnOk X.prog X.w X.K X.mg X.base CX k f fd ps sp)(hr:Room k X.A)(hb:jR X.K fd ps ds)(hd:Vals dvs ds)(hx:nG CX X E)
  (I:Inv X pins σ H s) (r:Vals vs us) (h:sp (vs++dvs) H Q E):wpAny (model X.prog X.w) X.A (call (.ref f) us) (EP X pins σ Q) X.xe s:=by
 have r2:Vals (vs++dvs) (us++ds):=r.append hd
 have hl:(us++ds).length=ps.length:=by rw[← r2.length];exact F.len _ _ _ _ h
 refine wpAny_call (codeAny_mono (F.run X.A X.stack s H ⟨us,[]⟩ (us++ds) (vs++dvs) Q E hr I.env0 (hb s us I.kIn hl) r2 h) fun r s' hq=>?_)
 cases r with
 |error e=>exact hx pins σ H s e s' I hq
 |ok fl =>
  cases fl with
  |ret u=>exact I.after hq
  |next=>exact False.elim hq
  |brk=>exact False.elim hq
  |cont=>exact False.elim hq
theorem aH(F:FnOk X.prog X.w X.K X.mg X.base CX k f fd ps sp)(hr:Room k X.A)(hg:Gl X x)(hm:X.mg x=some (.ref f))(hk:Fo X.K (.ref f)=true)(hb:jR X.K fd ps ds)(hd:Vals dvs ds)(hx:nG CX X E)
  (ha:PA X (e::es) t) (hdb:(x == ("__debug__" : Str))=false:=by decide) (he:starEach (e::es) X.env=(false,eval e X.env)::starEach es X.env:=by rfl) (hpl:(backTo pos (starEach es X.env)).any (·.1)=false:=by rfl) :
  PE X (.Call (.Name x p) (e::es) [] pos) (tCall sp dvs E t):=by
 intro pins s σ H Q I h
 refine wpAny_Call_Name_kw (qd I hg hm ?_ hdb)
 refine Hw (h₀:=X.base) I.ok.mod.kin hk (thn (ha pos pins s σ H _ I h) fun us s1 ⟨vs,H1,I1,r,q⟩=>⟨I1.kIn,?_⟩) he hpl
 exact AB F hr hb hd hx I1 r q
theorem vI{pl:Sem Bool}(he:PE X o ta)(c:Cls X.K C)(hm:Meth X.K C m f)(F:FnOk X.prog X.w X.K X.mg X.base CX k f fd ps sp)(hr:Room k X.A)(hb:jR X.K fd ps ds)(hd:Vals dvs ds)(hx:nG CX X E)(ha:PA X (e::es) t)
  (hst:starEach (e::es) X.env=(false,eval e X.env)::starEach es X.env:=by rfl) (hpl:(backTo pos (starEach es X.env)).any (·.1)=false:=by rfl)
  (ht:eval (.Call (.Attribute o m apos) (e::es) [] pos) X.env=(do
   let ov ← eval o X.env
   standAt apos.atName
   let (f,first) ← holding [ov] (getMethod ov m pl)
   callWith pos f first (backTo pos (starEach (e::es) X.env)) (backToKw pos (keywordEach [] X.env))):=by rfl) :
  PE X (.Call (.Attribute o m apos) (e::es) [] pos) (tMeth C m sp dvs E ta t):=by
 intro pins s σ H Q I h
 refine PySem.W.methodCall_KW (pl:=pl) (thn (he pins s σ H _ I h) fun u s1 ⟨x,H1,I1,rx,a,dx,fs,ex,ea,l,q⟩=>?_) ht
 subst ex
 obtain rfl:u=Value.ref a:=rx
 refine ow I1 ea c hm l ?_
 refine Hw (first:=[.ref a]) (h₀:=X.base) I.ok.mod.kin hm.kp (thn (ha pos pins s1 σ H1 _ I1 q) fun us s2 ⟨vs,H2,I2,r,q2⟩=>⟨I2.kIn,?_⟩) hst hpl
 exact AB (us:=.ref a::us) (vs:=.ref a::vs) F hr hb hd hx I2 (.cons rfl r) q2
theorem Cm{pl:Sem Bool}(he:PE X o ta)(c:Cls X.K C)(hm:Meth X.K C m f)(F:FnOk X.prog X.w X.K X.mg X.base CX k f fd ps sp)(hr:Room k X.A)(hb:jR X.K fd ps ds)(hd:Vals dvs ds)(hx:nG CX X E)
  (ht:eval (.Call (.Attribute o m apos) [] [] pos) X.env=(do
   let ov ← eval o X.env
   standAt apos.atName
   let (f,first) ← holding [ov] (getMethod ov m pl)
   callWith pos f first (backTo pos (starEach [] X.env)) (backToKw pos (keywordEach [] X.env))):=by rfl) :
  PE X (.Call (.Attribute o m apos) [] [] pos) (tMeth C m sp dvs E ta tNil):=by
 intro pins s σ H Q I h
 refine PySem.W.methodCall_KW (pl:=pl) (thn (he pins s σ H _ I h) fun u s1 ⟨x,H1,I1,rx,a,dx,fs,ex,ea,l,q⟩=>?_) ht
 subst ex
 obtain rfl:u=Value.ref a:=rx
 refine ow I1 ea c hm l ?_
 exact PySem.W.callWith_K0 (first:=[.ref a]) I1.kIn hm.kp (AB (us:=[.ref a]) (vs:=[.ref a]) F hr hb hd hx I1 (.cons rfl .nil) q)
structure Mk(K:E6)(C f:Addr):Prop where
 makes:Ho K C=true
 init:Fz K (.ref C) "__init__" = some (some (.ref f))
 fn:GY K (.ref f)=true
 kp:Fo K (.ref C)=true
theorem Cb{pins:List (Addr×Obj)}{σ:St}{H:Hp}{s:Shared}{Q:VK}{us:List Value}{vs:List V}(M:Mk X.K C f)(F:FnOk X.prog X.w X.K X.mg X.base CX k f fd ps sp)(hr:Room (k+1) X.A)(hb:jR X.K fd ps ds)(hd:Vals dvs ds)
  (hx:nG CX X E) (I:Inv X pins σ H s) (r:Vals vs us)
  (h:∀ x dx,H x=none->H dx=none->dx≠x->sp (.ref x::(vs++dvs)) (upd (upd H dx (.own x)) x (.ins C dx [])) (fun v H2=>v=.non/\Q (.ref x) H2) E) :
  wpAny (model X.prog X.w) X.A (call (.ref C) us) (EP X pins σ Q) X.xe s:=by
 have hq:=h (s.heap.objs.size+1) s.heap.objs.size (I.hok.fresh (Ha _)) (I.hok.fresh (Ff _)) (FG (GQ _))
 have I2:=Inv.made (C:=C) I
 have r2:Vals (V.ref (s.heap.objs.size+1)::(vs++dvs)) (Value.ref (s.heap.objs.size+1)::(us++ds)):=.cons rfl (r.append hd)
 have hl:(Value.ref (s.heap.objs.size+1)::us++ds).length=ps.length:=by
  have e:=r2.length
  rw[F.len _ _ _ _ hq]at e
  exact e.symm
 refine wpAny_call (CO (f:=f) I.kIn M.makes M.init (beq_iff_eq.mp M.fn) (codeAny_mono (F.run _ X.stack _ _ ⟨Value.ref (s.heap.objs.size+1)::us,[]⟩ (Value.ref (s.heap.objs.size+1)::(us++ds)) _ _ E (hr.make C us [])
  (I2.env0.make C us []) (hb _ (Value.ref (s.heap.objs.size+1)::us) I2.kIn hl) r2 hq) fun r s' hq'=>?_))
 cases r with
 |error e=>exact hx pins σ _ _ e s' I2 hq'
 |ok fl =>
  cases fl with
  |ret u =>
   obtain⟨v,H',I3,rv,ev,q3⟩:=I2.after hq'
   subst ev
   exact⟨rv,⟨V.ref (s.heap.objs.size+1),H',I3,rfl,q3⟩⟩
  |next=>exact False.elim hq'
  |brk=>exact False.elim hq'
  |cont=>exact False.elim hq'
theorem vJ(M:Mk X.K C f)(F:FnOk X.prog X.w X.K X.mg X.base CX k f fd ps sp)(hr:Room (k+1) X.A)(hg:Gl X x)(hm:X.mg x=some (.ref C))(hb:jR X.K fd ps ds)(hd:Vals dvs ds)(hx:nG CX X E)
  (ha:PA X (e::es) t) (hdb:(x == ("__debug__" : Str))=false:=by decide) (he:starEach (e::es) X.env=(false,eval e X.env)::starEach es X.env:=by rfl) (hpl:(backTo pos (starEach es X.env)).any (·.1)=false:=by rfl) :
  PE X (.Call (.Name x p) (e::es) [] pos) (tMake C sp dvs E t):=by
 intro pins s σ H Q I h
 refine wpAny_Call_Name_kw (qd I hg hm ?_ hdb)
 refine Hw (h₀:=X.base) I.ok.mod.kin M.kp (thn (ha pos pins s σ H _ I h) fun us s1 ⟨vs,H1,I1,r,q⟩=>⟨I1.kIn,?_⟩) he hpl
 exact Cb M F hr hb hd hx I1 r q
end
section
variable{X:Cx}{CX:CXT}{k:Nat}{f C:Addr}{fd:FuncData}{ps ks:List Str}{sp:Sp}{E:XK}{x m:Str}{p pos apos kpos:Pos}{e o:Expr}{es:List Expr}{kws:List Keyword}{te ta:TE}{t tk:TA}{nm:Option Str}
variable{g:List Value->List Value->List Value}{gV:List V->List V->List V}
end
structure aE(N P:List Str)(sc:Scope):Prop where
 kind:sc.kind=.function
 co:sc.isCoroutine=false
 gen:sc.isGenerator=false
 nd:N.Nodup
 pre:N.take P.length=P
 par:∀ x∈P,sc.names.lookup x=some .local∨sc.names.lookup x=some .cell
 nofree:∀ y∈sc.names,y.2≠.free
theorem uj{kindOf:Str->Option NameKind}{x:Str}:∀{binds:List (Str×Value)}{m:Str->Option Value},(∀ v,(x,v)∉binds)->bindL kindOf binds m x=m x
 |[],_,_=>rfl
 | (n,v)::r,m,h=>by
  unfold bindL
  rw[uj fun w hw=>h w (Fh _ hw)]
  split
  ·have:x≠n:=by rintro rfl;exact h v Fi
   simp[this]
  ·rfl
theorem um{kindOf:Str->Option NameKind}{x:Str}:∀{binds:List (Str×Value)}{m:Str->Option Value},(∀ v,(x,v)∉binds)->bindC kindOf binds m x=m x
 |[],_,_=>rfl
 | (n,v)::r,m,h=>by
  unfold bindC
  rw[um fun w hw=>h w (Fh _ hw)]
  split
  ·rfl
  ·have:x≠n:=by rintro rfl;exact h v Fi
   simp[this]
theorem uk{kindOf:Str->Option NameKind}{x:Str}{v:Value}:∀{P:List Str}{vs:List Value}{i:Nat}{m:Str->Option Value},P.Nodup->P[i]?=some x->vs[i]?=some v->kindOf x=some .local ->
  bindL kindOf (P.zip vs) m x=some v
 |[],_,_,_,_,h,_,_=>by simp at h
 |_::_,[],_,_,_,_,h,_=>by simp at h
 |p::P,w::vs,0,m,nd,h1,h2,hk=>by
  simp at h1 h2;subst h1;subst h2
  show bindL kindOf ((p,w)::P.zip vs) m p=_
  unfold bindL
  rw[uj fun v hv=>(Fd.mp nd).1 (Ir hv).1,if_pos hk]
  simp
 |p::P,w::vs,i+1,m,nd,h1,h2,hk=>by
  show bindL kindOf ((p,w)::P.zip vs) m x=_
  unfold bindL
  exact uk (i:=i) (Fd.mp nd).2 (by simpa using h1) (by simpa using h2) hk
theorem uo{kindOf:Str->Option NameKind}{x:Str}{v:Value}:∀{P:List Str}{vs:List Value}{i:Nat}{m:Str->Option Value},P.Nodup->P[i]?=some x->vs[i]?=some v->kindOf x≠some .local ->
  bindC kindOf (P.zip vs) m x=some v
 |[],_,_,_,_,h,_,_=>by simp at h
 |_::_,[],_,_,_,_,h,_=>by simp at h
 |p::P,w::vs,0,m,nd,h1,h2,hk=>by
  simp at h1 h2;subst h1;subst h2
  show bindC kindOf ((p,w)::P.zip vs) m p=_
  unfold bindC
  rw[um fun v hv=>(Fd.mp nd).1 (Ir hv).1,if_neg hk]
  simp
 |p::P,w::vs,i+1,m,nd,h1,h2,hk=>by
  show bindC kindOf ((p,w)::P.zip vs) m x=_
  unfold bindC
  exact uo (i:=i) (Fd.mp nd).2 (by simpa using h1) (by simpa using h2) hk
def oQ(N:List Str)(vs:List V):St:=vs.map some++GA (N.length-vs.length) none
def cxOf(CX:CXT)(P:Program)(w:World)(K:E6)(mg:Str->Option Value)(base:Heap)(N:List Str)(qual:Str)(scope:Scope)(f:Addr)(cd:Value)(A:Around)(outer:List Env)(s:Shared)(H:Hp)(E:XK):Cx where
 prog:=P
 w:=w
 K:=K
 mg:=mg
 base:=base
 A:=A.deeper (envOfC qual scope s.heap.objs.size f cd)
 N:=N
 s₀:=s
 H₀:=H
 env:=envOfC qual scope s.heap.objs.size f cd
 outer:=outer
 stack:=envOfC qual scope s.heap.objs.size f cd::outer
 ex:=[]
 calm:=true
 fn:=fun _=>true
 pn:=[]
 xe:=fun e s'=>wpAny (model P w) (A.deeper (envOfC qual scope s.heap.objs.size f cd)) (leaving (envOfC qual scope s.heap.objs.size f cd) e) (fun _ s''=>CX outer H s E e s'') (fun e' s''=>CX outer H s E e' s'') s'
theorem yF{sc:Scope}{n:Nat}{x:Str}(h:sc.names.lookup x=some .cell):∃ c,(cellsFrom n sc.names []).lookup x=some c:=by
 have q:=PySem.W.cellsFrom_some sc.names n [] (.inl h)
 exact IC.mp q
theorem Bo{CX:CXT}{P:Program}{w:World}{K:E6}{mg:Str->Option Value}{base:Heap}{N ps:List Str}{qual:Str}{scope:Scope}{f:Addr}{cd:Value}{A:Around}{outer:List Env}{s s1:Shared}{H:Hp}{E:XK}{us:List Value}{vs:List V}
  (S:aE N ps scope) (hd:A.handled=none) (e0:Env0 P w K mg base A outer s H) (hl:vs.length=ps.length) (r:Vals vs us)
  (x:InCallC s s.heap.objs.size (bindL (envOfC qual scope s.heap.objs.size f cd).kindOf (ps.zip us) fun _=>none) (cellsFrom (s.heap.objs.size+1) scope.names []) (bindC (envOfC qual scope s.heap.objs.size f cd).kindOf (ps.zip us) fun _=>none) s1) :
  Inv (cxOf CX P w K mg base N qual scope f cd A outer s H E) [] (oQ N vs) H s1:=by
 have hpl:ps.length<=N.length:=by have:=congrArg Iu S.pre;rw[Fw]at this;omega
 obtain⟨h1,tk,rfl,hk⟩:=x.done
 have noA:∀ b:Addr,b∉(cxOf CX P w K mg base N qual scope f cd A outer s H E).ex:=fun b z=>absurd (show b∈([]:List Addr) from z) (by simp)
 refine⟨⟨e0.mod,S.kind,rfl,rfl,Ff _,fun y z c h1 h2=>?_,fun y hy=>?_,fun y c _ h=>?_,fun _=>hd,Around.frames_deeper e0.frames,.inr ⟨rfl,rfl⟩,fun b z=>absurd z (noA b),e0.bs,e0.bsz,fun b _ _=>noA b,fun b z=>absurd z (noA b),e0.funs,e0.frf⟩,
  rfl,e0.bare,Un.kept hk,⟨_,x.toInCall.ns,fun i y v h1 h2 h3=>?_⟩,fun y c h=>⟨_,x.cell y c h⟩,e0.hok.fresh (Ff _),fun y c h=>?_,fun p hp=>absurd (show p∈([]:List (Addr×Obj)) from hp) (by simp),e0.hok.kept hk,?_⟩
 ·exact name_of_addr x.apart (Gd h1) (Gd h2)
 ·have hy:scope.names.lookup y=some .cell∨scope.names.lookup y=some .free:=hy
  rcases hy with hy | hy
  ·exact yF hy
  ·exact absurd rfl (S.nofree _ (Gd hy))
 ·exact F0 (x.above y c (Gd h))
 ·have hi:i<vs.length:=by
   unfold oQ at h2
   by_cases hi:i<vs.length
   ·exact hi
   ·rw[E9 (by simpa using hi)]at h2
    rw[GN]at h2
    split at h2<;>cases h2
  have ha:vs[i]?=some v:=by
   unfold oQ at h2
   rw[E8 (by simpa using hi),Fg]at h2
   cases e:vs[i]? with
   |none=>rw[e]at h2;cases h2
   |some a=>rw[e]at h2;cases h2;rfl
  obtain⟨u,hu,rv⟩:=r.get ha
  have hp:ps[i]?=some y:=by
   rw[← S.pre,List.getElem?_take_of_lt (by omega)];exact h1
  have ndP:ps.Nodup:=by rw[← S.pre];exact S.nd.sublist (List.take_sublist _ _)
  refine⟨u,rv,?_⟩
  rcases S.par y (E7 hp)with k | k
  ·exact .inl ⟨k,uk ndP hp hu k⟩
  ·obtain⟨c,e⟩:=yF (n:=s.heap.objs.size+1) k
   refine .inr ⟨.inl k,c,e,?_⟩
   have q:=x.cell y c e
   rw[uo ndP hp hu (by show scope.names.lookup y≠_;rw[k];decide)]at q
   exact q
 ·exact e0.hok.fresh (F0 (x.above y c (Gd h)))
 ·unfold oQ
  show _=N.length
  rw[E5,Fc,List.length_replicate]
  omega
theorem fn_of{CX:CXT}{P:Program}{w:World}{K:E6}{mg:Str->Option Value}{base:Heap}{k:Nat}{f:Addr}{name qual:Str}{params:Arguments}{body:List Stmt}{scope:Scope}{dV kV doc pm cdv ct oc:Value}{an od:Option Addr}
  {osl:Array (Option Value)} {N ps:List Str} {sp:Sp} (lk:K.lookup f=some ⟨oc,od,.func (Fv name qual params body scope dV kV doc pm an cdv ct),osl⟩) (hcd:Ft K cdv qual=true) (S:aE N ps scope)
  (len:∀ vs H Q E,sp vs H Q E->vs.length=ps.length)
  (hbody:∀(A:Around)(outer:List Env)(s:Shared)(H:Hp)(vs:List V)(Q:VK)(E:XK),Room k (A.deeper (envOfC qual scope s.heap.objs.size f cdv))->sp vs H Q E ->
   ∃ t,PSs (cxOf CX P w K mg base N qual scope f cdv A outer s H E) body t/\t { nx:=fun _ H'=>Q .non H',rt:=Q } (oQ N vs) H) :
  FnOk P w K mg base CX (k+1) f (Fv name qual params body scope dV kV doc pm an cdv ct) ps sp:=by
 refine⟨len,fun A outer s H args us vs Q E hr e0 hb r hsp=>?_⟩
 have hl:=len _ _ _ _ hsp
 have KX:K.In s.heap:=e0.mod.kin.keeps fun b o e=>(e0.bs b o e).1
 have lim:s.heap.NoLimit:=e0.mod.nolimit.keeps fun b o e=>(e0.bs b o e).1
 have hkind:∀ y∈ps.zip us,scope.names.lookup y.1=some .local∨(scope.names.lookup y.1=some .cell/\((cellsFrom (s.heap.objs.size+1) scope.names []).lookup y.1).isSome=true):=fun⟨n,v⟩ hy=>by
  rcases S.par n (Ir hy).1 with q | q
  ·exact .inl q
  ·exact .inr ⟨q,PySem.W.cellsFrom_some _ _ _ (.inl q)⟩
 refine codeAny_call_function hr.depth (KX _ _ lk) rfl S.co S.gen rfl (PySem.W.codeRec_of KX hcd) (hb _ _ _ _ ?_)
 refine wpAny_newFunctionEnv_cells S.kind hkind fun env he s1 x=>?_
 subst he
 refine⟨lim.keeps x.toInCall.keep,codeAny_func ?_⟩
 obtain⟨t,ht,hq⟩:=hbody A outer s H vs Q E (hr.deeper _) hsp
 have I:Inv (cxOf CX P w K mg base N qual scope f cdv A outer s H E) [] (oQ N vs) H s1:=Bo S hr.hd e0 hl r x
 refine wpAny_mono (ht [] s1 (oQ N vs) H _ I hq) (fun fl s' hs=>?_) fun e s' hs=>hs
 have fin:∀{σ':St}{H':Hp}{v:V}{u:Value},Inv (cxOf CX P w K mg base N qual scope f cdv A outer s H E) [] σ' H' s'->RelV v u->Q v H'->CE outer P w H s Q u s' :=
  fun{σ' H' v u} J rv q=>⟨v,H',J.os,J.bare,J.base,J.hok,rv,q⟩
 cases fl with
 |ret u =>
  obtain⟨v,σ',H',J,rv,q⟩:=hs
  exact fin J rv q
 |next =>
  obtain⟨σ',H',J,q⟩:=hs
  exact fin (v:=V.non) (u:=Value.none) J rfl q
 |brk =>
  obtain⟨_,_,_,q⟩:=hs
  exact False.elim q
 |cont =>
  obtain⟨_,_,_,q⟩:=hs
  exact False.elim q
end L2
namespace L2
open PySem PySem.Spec PyProof.Rows
section
variable{X:Cx}{x:Str}{p pos:Pos}{e:Expr}{es:List Expr}{t:TA}{id T:String}{r:List V->Hp->VK->Prop}
def tCB(r:List V->Hp->VK->Prop)(t:TA):TE:=fun σ H Q=>t σ H fun vs H1=>r vs H1 Q
theorem aw(hc:nO X (.builtin id) r)(hg:Gl X x)(hm:X.mg x=none)(hv:bootBuiltins x=some (.builtin id))(ha:PA X (e::es) t) (hn:x≠"__name__":=by decide) (hdb:(x == ("__debug__" : Str))=false:=by decide)
  (he:starEach (e::es) X.env=(false,eval e X.env)::starEach es X.env:=by rfl) (hpl:(backTo pos (starEach es X.env)).any (·.1)=false:=by rfl):PE X (.Call (.Name x p) (e::es) [] pos) (tCB r t):=by
 intro pins s σ H Q I h
 refine wpAny_Call_Name_kw (sX I hg hm hv ?_ hn hdb)
 exact PyProof.Rows.callWith_builtin1 (thn (ha pos pins s σ H _ I h) fun us s1 ⟨vs,H1,I1,r1,q1⟩=>hc pins s1 σ H1 vs us Q I1 r1 q1) he hpl
theorem gz(hc:nO X (.type T) r)(hg:Gl X x)(hm:X.mg x=none)(hv:bootBuiltins x=some (.type T))(ha:PA X (e::es) t) (hn:x≠"__name__":=by decide) (hdb:(x == ("__debug__" : Str))=false:=by decide)
  (he:starEach (e::es) X.env=(false,eval e X.env)::starEach es X.env:=by rfl) (hpl:(backTo pos (starEach es X.env)).any (·.1)=false:=by rfl):PE X (.Call (.Name x p) (e::es) [] pos) (tCB r t):=by
 intro pins s σ H Q I h
 refine wpAny_Call_Name_kw (sX I hg hm hv ?_ hn hdb)
 exact PyProof.Rows.callWith_type1 (thn (ha pos pins s σ H _ I h) fun us s1 ⟨vs,H1,I1,r1,q1⟩=>hc pins s1 σ H1 vs us Q I1 r1 q1) he hpl
end
end L2
namespace HT
open PySem PyProof.Rows
section
open PySem.SeqAt
open PySem.AutoSeq1 (wpAny_loadPart')
open PySem.MeetsSeq PySem.MeetsSeq2 PySem.MeetsSeq3
end
section
variable{prog:Program}{w:World}{A:Around}{E:Value->Shared->Prop}{s:Shared}
def sIx(n d:Nat):Option Int->Nat
 |none=>d
 |some v=>if v<0 then(v+(n:Int)).toNat else min v.toNat n
theorem sIx_nat(n d k:Nat):sIx n d (some (k:Int))=min k n:=by
 show(if(k:Int)<0 then((k:Int)+(n:Int)).toNat else min (k:Int).toNat n)=min k n
 rw[if_neg (by omega),Fn]
end
end HT
namespace L2
open PySem PySem.Spec PyProof.Rows
abbrev TO:=St->Hp->(Option Int->Hp->Prop)->Prop
def PO(X:Cx)(e:Option Expr)(t:TO):Prop :=
 ∀(pins:List (Addr×Obj))(s:Shared)(σ:St)(H:Hp)(Q:Option Int->Hp->Prop),Inv X pins σ H s->t σ H Q ->
  wpAny (model X.prog X.w) X.A (evalPart e X.env) (fun u s'=>∃ o H',Inv X pins σ H' s'/\IsPart u o/\Q o H') X.xe s
def DP:TO:=fun _ H Q=>Q none H
def tPart(t:TE):TO:=fun σ H Q=>t σ H fun x H1=>∃ i,x=.int i/\Q (some i) H1
section
variable{X:Cx}{e:Expr}{te:TE}{lo hi:Option Expr}{tl th:TO}{pos p2:Pos}
theorem jZ:PO X none DP:=by
 intro pins s σ H Q I h
 rw[evalPart_none]
 exact wpAny_pure ⟨none,H,I,.none,h⟩
theorem eQ(h:PE X e te):PO X (some e) (tPart te):=by
 intro pins s σ H Q I hw
 rw[evalPart_some]
 refine thn (h pins s σ H _ I hw) fun u s1 ⟨x,H1,I1,r1,q1⟩=>?_
 obtain⟨i,rfl,q⟩:=q1
 obtain⟨t,rfl⟩:=r1
 exact⟨some i,H1,I1,.int i t,q⟩
def SlR(X:Cx)(r:V->Option Int->Option Int->Hp->VK->Prop):Prop :=
 ∀(pins:List (Addr×Obj))(s:Shared)(σ:St)(H:Hp)(x:V)(v vl vu:Value)(lo hi:Option Int)(sl:Addr)(Q:VK),Inv X pins σ H s->RelV x v->s.heap.IsSliceOf sl vl vu .none->IsPart vl lo->IsPart vu hi->r x lo hi H Q ->
  ∃ T id,typeLookup (.type T) "__getitem__" = pure (some (.builtin id))/\s.TypeIs v T/\wpAny (model X.prog X.w) X.A (getItem v (.ref sl)) (EP X pins σ Q) X.xe s
def tSl(r:V->Option Int->Option Int->Hp->VK->Prop)(te:TE)(tl th:TO):TE:=fun σ H Q=>te σ H fun x H1=>tl σ H1 fun l H2=>th σ H2 fun u H3=>r x l u H3 Q
theorem d9{r:V->Option Int->Option Int->Hp->VK->Prop}(hr:SlR X r)(he:PE X e te)(hl:PO X lo tl)(hu:PO X hi th):PE X (.Subscript e (.Slice lo hi none p2) pos) (tSl r te tl th):=by
 intro pins s σ H Q I h
 refine Subscript_ (thn (he pins s σ H _ I h) fun v s1 ⟨x,H1,I1,r1,q1⟩=>?_)
 refine wpAny_Slice (thn (hl pins s1 σ H1 _ I1 q1) fun vl s2 ⟨l,H2,I2,pl,q2⟩=>thn (hu pins s2 σ H2 _ I2 q2) fun vu s3 ⟨u,H3,I3,pu,q3⟩=>?_)
 rw[evalPart_none]
 refine wpAny_pure ?_
 have I4:Inv X pins σ H3 { s3 with heap:=s3.heap.push { cls:=.type "slice",data:=.fields #[vl,vu,.none] } }:=I3.kept (t':=s3.toks) fun b ob q=>Heap.get?_push_of_some _ q
 obtain⟨T,id,hT,ht,hg⟩:=hr pins { s3 with heap:=s3.heap.push { cls:=.type "slice",data:=.fields #[vl,vu,.none] } } σ H3 x v vl vu l u s3.heap.objs.size Q I4 r1 (Heap.IsSliceOf.new ..) pl pu q3
 show wpAny (model X.prog X.w) X.A (subscriptTail e (.Slice lo hi none p2) v (.ref s3.heap.objs.size)) (EP X pins σ Q) X.xe { s3 with heap:=s3.heap.push { cls:=.type "slice",data:=.fields #[vl,vu,.none] } }
 exact tail_any (ops:=[.ref s3.heap.objs.size,v]) ht hT hg (by with_unfolding_all rfl)
def cutV(xs:List V)(lo hi:Option Int):List V:=(xs.drop (HT.sIx xs.length 0 lo)).take (HT.sIx xs.length xs.length hi-HT.sIx xs.length 0 lo)
theorem xc(xs:List V)(lo hi:Option Int):(cutV xs lo hi).length<=xs.length:=by
 unfold cutV
 rw[Fw,FQ]
 omega
end
end L2
namespace L2
open PySem PySem.Spec PyProof.Rows
def ixN(n:Nat)(i:Int):Option Nat:=if 0<=i then(if i<n then some i.toNat else none) else if -(n:Int)<=i then some (i+n).toNat else none
def atI{α:Type}(xs:List α)(i:Int):Option α:=(ixN xs.length i).bind fun j=>xs[j]?
theorem Bl{n:Nat}{i:Int}{j:Nat}(h:ixN n i=some j):seqIndex? i n=some j/\j<n/\-(n:Int)<=i/\i<n:=by
 unfold ixN at h
 by_cases h0:0<=i
 ·rw[if_pos h0]at h
  by_cases h1:i<n
  ·rw[if_pos h1]at h
   have e:i.toNat=j:=Fu h
   exact⟨by rw[seqIndex_of h0 h1,e],by omega,by omega,h1⟩
  ·rw[if_neg h1]at h;cases h
 ·rw[if_neg h0]at h
  by_cases h1 : -(n:Int)<=i
  ·rw[if_pos h1]at h
   have e:(i+n).toNat=j:=Fu h
   exact⟨by rw[seqIndex_neg (by omega) h1,e],by omega,h1,by omega⟩
  ·rw[if_neg h1]at h;cases h
theorem BR{α:Type}{xs:List α}{i:Int}{v:α}(h:atI xs i=some v):∃ j,seqIndex? i xs.length=some j/\xs[j]?=some v/\j<xs.length/\-(xs.length:Int)<=i/\i<xs.length:=by
 unfold atI at h
 cases e:ixN xs.length i with
 |none=>rw[e]at h;cases h
 |some j =>
  rw[e]at h
  obtain⟨h1,h2,h3,h4⟩:=Bl e
  exact⟨j,h1,h,h2,h3,h4⟩
theorem ay{α:Type}{xs:List α}{j:Nat}{v:α}(h:xs[j]?=some v):atI xs (j:Int)=some v:=by
 have hj:j<xs.length:=(E3.mp h).1
 have e:ixN xs.length (j:Int)=some j:=by
  unfold ixN
  rw[if_pos (by omega),if_pos (by omega)];simp
 unfold atI;rw[e];exact h
def E1(b:Expr):Prop:=∀ o i,subscripted b false o i=operate [o,i] (getItem o i)
def IxR(X:Cx)(r:R2):Prop :=
 ∀(value slice:Expr)(pins:List (Addr×Obj))(s:Shared)(σ:St)(H:Hp)(x y:V)(v u:Value)(Q:VK),Inv X pins σ H s->RelV x v->RelV y u->r x y H Q ->
  subscripted slice false v u=operate [v,u] (getItem v u)->wpAny (model X.prog X.w) X.A (subscriptTail value slice v u) (EP X pins σ Q) X.xe s
def MtR(X:Cx)(id:String)(r:V->List V->Hp->VK->Prop):Prop :=
 ∀(pins:List (Addr×Obj))(s:Shared)(σ:St)(H:Hp)(x:V)(xs:List V)(v:Value)(us:List Value)(Q:VK),Inv X pins σ H s->RelV x v->Vals xs us->r x xs H Q ->
  wpAny (model X.prog X.w) X.A (call (.builtin id) (v::us)) (EP X pins σ Q) X.xe s
section
variable{X:Cx}{a b:Expr}{ta tb:TE}{pos:Pos}
theorem aG{r:R2}(hr:IxR X r)(ha:PE X a ta)(hb:PE X b tb)(hs:E1 b):PE X (.Subscript a b pos) (tOp r ta tb):=by
 intro pins s σ H Q I h
 exact Subscript_ (binT ha hb I h fun v u s2 x y H2 I2 rx ry q=>hr a b pins s2 σ H2 x y v u Q I2 rx ry q (hs _ _))
def rIxL(K:E6):R2:=fun x y H Q=>∃ p xs i v,x=.ref p/\y=.int i/\SqL K H p xs/\atI xs i=some v/\Q v H
def rIxT(K:E6):R2:=fun x y H Q=>∃ p xs i v,x=.ref p/\y=.int i/\SqT K H p xs/\atI xs i=some v/\Q v H
theorem az:IxR X (rIxL X.K):=by
 intro value slice pins s σ H x y v u Q I rx ry h hs
 obtain⟨p,xs,i,z,rfl,rfl,hq,he,q⟩:=h
 cases rx
 obtain⟨t,rfl⟩:=ry
 obtain⟨its,r,pl,hz⟩:=I.list hq
 obtain⟨j,h1,h2,h3,h4,h5⟩:=BR he
 obtain⟨w,ew,rw'⟩:=r.get h2
 have hl:=r.length
 have hn:=ot
 have fin:EP X pins σ Q w s:=⟨z,H,I,rw',q⟩
 by_cases h0:0<=i
 ·have hj:i.toNat=j:=by
   rw[seqIndex_of h0 h5]at h1
   exact Fu h1
  exact item_listR pl.isList h0 (by omega) (by rw[hj];simpa using ew) fin hs
 ·have hj:(i+(its.toArray.size:Int)).toNat=j:=by
   rw[seqIndex_neg (by omega) h4]at h1
   rw[FE,← hl]
   exact Fu h1
  exact subscriptTail_builtinR (x:=w) pl.isList.typeIs slot_list_getitem.lookup
   (wpAny_getItem_list_neg (Q:=fun r s'=>r=w/\EP X pins σ Q r s') pl.isList (by omega) (by rw[FE]<;>omega) (by omega) (by rw[hj];simpa using ew) ⟨rfl,fin⟩) hs
theorem bf:IxR X (rIxT X.K):=by
 intro value slice pins s σ H x y v u Q I rx ry h hs
 obtain⟨p,xs,i,z,rfl,rfl,hq,he,q⟩:=h
 cases rx
 obtain⟨t,rfl⟩:=ry
 obtain⟨its,r,pl,hz⟩:=I.tuple hq
 obtain⟨j,h1,h2,h3,h4,h5⟩:=BR he
 obtain⟨w,ew,rw'⟩:=r.get h2
 have hl:=r.length
 have hn:=ot
 have fin:EP X pins σ Q w s:=⟨z,H,I,rw',q⟩
 exact subscriptTail_builtinR (x:=w) pl.typeIs slot_tuple_getitem.lookup
  (getItem_tuple (j:=j) (Q:=fun r s'=>r=w/\EP X pins σ Q r s') pl (by omega) (by omega) (by rw[FE,← hl];exact h1) (by simpa using ew) ⟨rfl,fin⟩) hs
theorem zm(its:List Value)(n j:Nat)(u:Value):Obj.mapSeq (·.setIfInBounds j u) { cls:=.type "list",data:=.seq its.toArray n }={ cls:=.type "list",data:=.seq (its.set j u).toArray n }:=by
 simp[Obj.mapSeq]
theorem Inv.lst{pins:List (Addr×Obj)}{σ:St}{H:Hp}{s:Shared}{p:Addr}{xs:List V}(I:Inv X pins σ H s)(h:H p=some (.lst xs)) :
  ∃(its:List Value)(n:Nat),Vals xs its/\s.heap.get? p=some { cls:=.type "list",data:=.seq its.toArray n }/\xs.length<=sizeLine:=by
 obtain⟨z,its,n,r,e⟩:=I.hok p _ h
 exact⟨its,n,r,e,z⟩
theorem Inv.lstUpd{pins:List (Addr×Obj)}{σ:St}{H:Hp}{s:Shared}{p:Addr}{xs ys:List V}{its its':List Value}{n n':Nat}{f:Obj->Obj}(I:Inv X pins σ H s)(h:H p=some (.lst xs))
  (ho:s.heap.get? p=some { cls:=.type "list",data:=.seq its.toArray n }) (hf:f { cls:=.type "list",data:=.seq its.toArray n }={ cls:=.type "list",data:=.seq its'.toArray n' }) (r:Vals ys its') (hz:ys.length<=sizeLine) (t:Nat) :
  Inv X pins σ (upd H p (.lst ys)) { s with heap:=s.heap.update p f,toks:=t }:=by
 have e:(s.heap.update p f).get? p=some { cls:=.type "list",data:=.seq its'.toArray n' }:=by
  rw[Heap.get?_update_self f ho (by rw[hf]<;>rfl),hf]
 refine I.write (x:=p) (e:=p) (by rw[h];trivial) (.inl rfl) (fun b u hb q=>(Heap.get?_update_other _ _ (Ne.symm hb)).trans q) ⟨_,e⟩ ?_
 exact⟨hz,its',n',r,e⟩
def rSetL:V->V->V->Hp->(Hp->Prop)->Prop:=fun o i v H Q=>∃ p xs k j,o=.ref p/\i=.int k/\H p=some (.lst xs)/\ixN xs.length k=some j/\Q (upd H p (.lst (xs.set j v)))
theorem jr:PSet X rSetL:=by
 intro pins s σ H o i v ov iv u Q I ro ri rv h
 obtain⟨p,xs,k,j,rfl,rfl,hp,hj,q⟩:=h
 cases ro
 obtain⟨t,rfl⟩:=ri
 obtain⟨its,n,r,ho,hz⟩:=I.lst hp
 obtain⟨h1,h2,h3,h4⟩:=Bl hj
 have hl:=r.length
 have hn:=ot
 have I':Inv X pins σ (upd H p (.lst (xs.set j v))) { s with heap:=s.heap.update p (Obj.mapSeq (·.setIfInBounds j u)) } :=
  I.lstUpd hp ho (zm its n j u) (r.set rv j) (by rw[FK];exact hz) s.toks
 by_cases h0:0<=k
 ·have hk:k.toNat=j:=by
   rw[seqIndex_of h0 h4]at h1
   exact Fu h1
  exact PySem.W.ki_setAt ho h0 (by omega) (by rw[FE,← hl];exact h4) (by rw[hk];exact⟨_,I',q⟩)
 ·have hk:(k+(its.toArray.size:Int)).toNat=j:=by
   rw[seqIndex_neg (by omega) h3]at h1
   rw[FE,← hl]
   exact Fu h1
  exact PySem.W.ki_setBack ho (by omega) (by rw[FE,← hl];exact h3) (by omega) (by rw[hk];exact⟨_,I',q⟩)
theorem rD(lo hi:Option Int)(n:Nat):(sliceBounds lo hi none n).1=((HT.sIx n 0 lo:Nat):Int)/\(sliceBounds lo hi none n).2.1=((HT.sIx n n hi:Nat):Int)/\(sliceBounds lo hi none n).2.2=1:=by
 refine⟨?_,?_,rfl⟩
 ·cases lo with
  |none=>simp[sliceBounds,HT.sIx]
  |some i =>
   simp only[sliceBounds,HT.sIx,Option.getD_none,show(1:Int) > 0 by decide,if_true]
   by_cases h:i<0
   ·simp only[h,if_true]<;>omega
   ·simp only[h,if_false]<;>omega
 ·cases hi with
  |none=>simp[sliceBounds,HT.sIx]
  |some i =>
   simp only[sliceBounds,HT.sIx,Option.getD_none,show(1:Int) > 0 by decide,if_true]
   by_cases h:i<0
   ·simp only[h,if_true]<;>omega
   ·simp only[h,if_false]<;>omega
theorem oY(its:List Value)(lo hi:Option Int):slicePick its.toArray lo hi none=((its.drop (HT.sIx its.length 0 lo)).take (HT.sIx its.length its.length hi-HT.sIx its.length 0 lo)).toArray:=by
 obtain⟨h1,h2,h3⟩:=rD lo hi its.toArray.size
 unfold slicePick
 rw[h1,h2,h3]
 simp only[sliceRange_one,pick_run,FE]<;>rfl
def rSlL(K:E6):V->Option Int->Option Int->Hp->VK->Prop:=fun x lo hi H Q=>∃ a xs,x=.ref a/\SqL K H a xs/\∀ p,H p=none->Q (.ref p) (upd H p (.lst (cutV xs lo hi)))
theorem gy:SlR X (rSlL X.K):=by
 intro pins s σ H x v vl vu lo hi sl Q I rx hs pl pu h
 obtain⟨a,xs,rfl,hx,q⟩:=h
 cases rx
 obtain⟨its,r,ht,hz⟩:=I.list hx
 have hlen:=r.length
 refine⟨"list",_,slot_list_getitem.lookup,ht.isList.typeIs,?_⟩
 refine wpAny_getItem_list_slice ht.isList hs pl pu .none (by simp) ?_ (by rw[FE]<;>omega)
 rw[oY,← hlen]
 refine⟨.ref s.heap.objs.size,_,I.laid (t':=s.toks) (o:=.lst (cutV xs lo hi)) (fun b ob q=>Heap.get?_push_of_some _ q) (Ff _) ?_,rfl,q _ (I.hok.fresh (Ff _))⟩
 exact⟨F4 (xc xs lo hi) hz,_,0,(r.drop (HT.sIx xs.length 0 lo)).take (HT.sIx xs.length xs.length hi-HT.sIx xs.length 0 lo),Heap.get?_push_size _ rfl⟩
theorem aq:nO X (.builtin "len") (fun xs H Q=>∃ p ys,xs = [.ref p]/\(SqL X.K H p ys∨SqT X.K H p ys)/\Q (.int ys.length) H):=by
 intro pins s σ H xs us Q I r h
 obtain⟨p,ys,rfl,hq,q⟩:=h
 obtain⟨u,rfl,rx⟩:=yK r
 cases rx
 have hn:=ot
 rcases hq with hq | hq
 ·obtain⟨its,r',pl,hz⟩:=I.list hq
  have hlen:=r'.length
  exact Calls.call_len_list pl.isList (by simp only[FE]<;>omega) ⟨.int ys.length,H,I.tok _,⟨s.toks+1,by rw[FE,hlen]⟩,q⟩
 ·obtain⟨its,r',pl,hz⟩:=I.tuple hq
  have hlen:=r'.length
  exact len_tuple pl (by simp only[FE]<;>omega) ⟨.int ys.length,H,I.tok _,⟨s.toks+1,by rw[FE,hlen]⟩,q⟩
theorem eO:nO X (.type "list") (fun xs H Q=>∃ p ys,xs = [.ref p]/\(SqL X.K H p ys∨SqT X.K H p ys)/\∀ l,H l=none->Q (.ref l) (upd H l (.lst ys))):=by
 intro pins s σ H xs us Q I r h
 obtain⟨p,ys,rfl,hq,q⟩:=h
 obtain⟨u,rfl,rx⟩:=yK r
 cases rx
 have fin:∀(its:List Value),Vals ys its->ys.length<=sizeLine->∀(h':Heap)(c':Nat),(∀ b o',s.heap.get? b=some o'->h'.get? b=some o') ->
   h'.get? s.heap.objs.size=some { cls:=.type "list",dict:=none,data:=.seq its.toArray c',slots:=#[] }->EP X pins σ Q (.ref s.heap.objs.size) { s with heap:=h' }:=fun its r' hz h' c' kp e =>
  ⟨.ref s.heap.objs.size,_,I.laid (t':=s.toks) kp (Ff _) (show bM X.prog X.w _ h' _ (.lst ys) from⟨hz,its,c',r',e⟩),rfl,q _ (I.hok.fresh (Ff _))⟩
 rcases hq with hq | hq
 ·obtain⟨its,r',pl,hz⟩:=I.list hq
  have hlen:=r'.length
  obtain⟨o,ho,hc,n,hd⟩:=pl.isList
  exact call_list_seq p (.inl rfl) ho hc hd (fun h' c' kp e=>fin its r' hz h' c' kp e) (by simp only[FE]<;>omega)
 ·obtain⟨its,r',pl,hz⟩:=I.tuple hq
  have hlen:=r'.length
  obtain⟨o,ho,hc,n,hd⟩:=pl
  exact call_list_seq p (.inr rfl) ho hc hd (fun h' c' kp e=>fin its r' hz h' c' kp e) (by simp only[FE]<;>omega)
def tyV(K:E6)(T:String)(x:V)(H:Hp):Prop:=match x with
 |.str _=>T = "str"
 |.int _=>T = "int"
 |.ref p=>(T = "list"/\∃ xs,SqL K H p xs)∨(T = "tuple"/\∃ o,K.lookup p=some o/\o.cls=.type "tuple"/\o.dict=none) ∨
   (T = "dict"/\((∃ kvs,H p=some (.dK kvs))∨∃ kvs,H p=some (.dT kvs)))∨(T = "set"/\∃ S n,H p=some (.set S n))
 |_=>False
theorem tyV_is{pins:List (Addr×Obj)}{σ:St}{H:Hp}{s:Shared}{T:String}{x:V}{v:Value}(I:Inv X pins σ H s)(r:RelV x v)(ty:tyV X.K T x H) :
  s.TypeIs v T/\∀ a,v=.ref a->∃ ob,s.heap.get? a=some ob/\ob.dict=none:=by
 cases x with
 |str z =>
  obtain⟨t,rfl⟩:=r
  cases (show T = "str" from ty)
  exact⟨typeIs_str s z t,fun _ e=>nomatch e⟩
 |int i =>
  obtain⟨t,rfl⟩:=r
  cases (show T = "int" from ty)
  exact⟨typeIs_int s i t,fun _ e=>nomatch e⟩
 |ref p =>
  cases r
  rcases ty with⟨rfl,xs,hq⟩ | ⟨rfl,o,hk,hc,hd⟩ | ⟨rfl,hk⟩ | ⟨rfl,S,n,hk⟩
  ·obtain⟨its,_,pl,_⟩:=I.list hq
   refine⟨pl.isList.typeIs,fun a e=>?_⟩
   cases e
   obtain⟨o,n,e,c,hd,_⟩:=pl
   exact⟨o,e,hd⟩
  ·refine⟨⟨o,I.kIn p o hk,hc⟩,fun a e=>?_⟩
   cases e
   exact⟨o,I.kIn _ o hk,hd⟩
  ·have z:∃ o,s.heap.get? p=some o/\o.ExactDict:=by
    rcases hk with⟨kvs,hk⟩ | ⟨kvs,hk⟩
    ·obtain⟨_,_,_,_,o,_,_,e,ex,_⟩:=I.hok p _ hk
     exact⟨o,e,ex⟩
    ·obtain⟨_,_,_,_,o,_,_,e,ex,_⟩:=I.hok p _ hk
     exact⟨o,e,ex⟩
   obtain⟨o,e,ex⟩:=z
   refine⟨⟨o,e,ex.1⟩,fun a e2=>?_⟩
   cases e2
   exact⟨o,e,ex.2.1⟩
  ·obtain⟨o,_,_,_,e,ex,_⟩:=I.hok p _ hk
   refine⟨⟨o,e,ex.1⟩,fun a e2=>?_⟩
   cases e2
   exact⟨o,e,ex.2.1⟩
 |_=>exact False.elim ty
def tBM(K:E6)(T:String)(r:V->List V->Hp->VK->Prop)(to:TE)(t:TA):TE:=fun σ H Q=>to σ H fun x H1=>tyV K T x H1/\t σ H1 fun xs H2=>r x xs H2 Q
variable{o e:Expr}{es:List Expr}{to:TE}{t:TA}{name:Str}{apos cpos:Pos}{T id:String}{r:V->List V->Hp->VK->Prop}
theorem gA(pa:PlainAttrs T)(slot:Slot T name id) (hty:typeOf (.builtin id)=pure (.type "method_descriptor")) (hm:MtR X id r) (ho:PE X o to) (ha:PA X (e::es) t)
  (hbase:attributeBase o name X.env (eval o X.env)=eval o X.env:=by rfl)
  (hfew:((backTo cpos (starEach (e::es) X.env)).all (fun x=>!x.1)&&(backToKw cpos (keywordEach [] X.env)).all (fun x=>x.1.isSome)
   && decide ((e::es).length+([]:List Keyword).length+(if([]:List Keyword).isEmpty then 0 else 1)<30))=true:=by rfl)
  (hline:(apos.endLine == cpos.line)=true:=by rfl) (hs:starEach (e::es) X.env=(false,eval e X.env)::starEach es X.env:=by rfl) (hplain:(backTo cpos (starEach es X.env)).any (·.1)=false:=by rfl) :
  PE X (.Call (.Attribute o name apos) (e::es) [] cpos) (tBM X.K T r to t):=by
 intro pins s σ H Q I h
 refine wpAny_Call_method_late hbase hfew hline rfl (thn (ho pins s σ H _ I h) fun v s1 ⟨x,H1,I1,r1,ty,q1⟩=>?_)
 obtain⟨h1,h2⟩:=tyV_is I1 r1 ty
 refine⟨T,id,pa,slot,hty,h1,h2,?_⟩
 have hA:=ha cpos pins s1 σ H1 _ I1 q1
 rw[hs]at hA ⊢
 refine Calls.callWith_builtin (by show(false||(backTo cpos (starEach es X.env)).any (·.1))=false;rw[hplain]<;>rfl) (Calls.evalArgs_plain ?_)
 exact thn hA fun us s2 ⟨vs,H2,I2,r2,q2⟩=>hm pins s2 σ H2 x vs v us Q I2 r1 r2 q2
end
end L2
namespace L2
open PySem PySem.Spec PyProof.Rows
def MtM(X:Cx)(id:String)(r:V->List V->Hp->VK->Prop):Prop :=
 ∀(pins:List (Addr×Obj))(s:Shared)(σ:St)(H:Hp)(x:V)(xs:List V)(v:Value)(us:List Value)(Q:VK),Inv X pins σ H s->RelV x v->Vals xs us->r x xs H Q ->
  wpAny (model X.prog X.w) X.A (call (.builtin id) (v::us)) (EP X pins σ Q) X.xe s
theorem Vals.one:∀{x:V}{us:List Value},Vals [x] us->∃ u,us = [u]/\RelV x u
 |_,_,.cons r .nil=>⟨_,rfl,r⟩
theorem Vals.two:∀{x y:V}{us:List Value},Vals [x,y] us->∃ u v,us = [u,v]/\RelV x u/\RelV y v
 |_,_,_,.cons r (.cons q .nil)=>⟨_,_,rfl,r,q⟩
section
variable{X:Cx}{pins:List (Addr×Obj)}{σ:St}{H:Hp}{s:Shared}{l b:Addr}{xs ys zs:List V}
theorem Inv.lset{its its':List Value}{n:Nat}{f:Array Value->Array Value}{t':Nat}(I:Inv X pins σ H s)(hH:H l=some (.lst xs))
  (e:s.heap.get? l=some { cls:=.type "list",data:=.seq its.toArray n }) (hf:f its.toArray=its'.toArray) (hv:Vals ys its') (hz:ys.length<=sizeLine) :
  Inv X pins σ (upd H l (.lst ys)) { s with heap:=s.heap.update l (Obj.mapSeq f),toks:=t' }:=by
 have q:=PySem.IsL.update e f
 rw[hf]at q
 refine I.write (x:=l) (e:=l) (by rw[hH];exact trivial) (.inl rfl) (fun b' u hb hu=>(Heap.get?_update_other s.heap (Obj.mapSeq f) (Ne.symm hb)).trans hu) ⟨_,q⟩ ?_
 exact⟨hz,its',_,hv,q⟩
theorem Inv.lnew{its:List Value}{t':Nat}(I:Inv X pins σ H s)(hv:Vals ys its)(hz:ys.length<=sizeLine) :
  Inv X pins σ (upd H s.heap.objs.size (.lst ys)) { s with heap:=s.heap.push { cls:=.type "list",data:=.seq its.toArray },toks:=t' } :=
 I.laid (fun _ _ q=>Heap.get?_push_of_some _ q) (Ff _) ⟨hz,its,0,hv,Heap.get?_push_size _ rfl⟩
theorem Inv.fresh(I:Inv X pins σ H s):H s.heap.objs.size=none:=I.hok.fresh (Ff _)
theorem Inv.lstM(I:Inv X pins σ H s)(hH:H l=some (.lst xs)):xs.length<=sizeLine/\∃(its:List Value)(n:Nat),Vals xs its/\xs.length=its.length/\s.heap.get? l=some { cls:=.type "list",data:=.seq its.toArray n }:=by
 obtain⟨z,its,n,r,e⟩:=I.hok l _ hH
 exact⟨z,its,n,r,r.length,e⟩
end
section
variable{X:Cx}
def D3:V->List V->Hp->VK->Prop:=fun x vs H Q=>∃ l xs y,x=.ref l/\vs = [y]/\H l=some (.lst xs)/\xs.length<sizeLine/\Q .non (upd H l (.lst (xs++[y])))
theorem bq:MtM X "list.append" D3:=by
 intro pins s σ H x vs v us Q I rx rv h
 obtain⟨l,xs,y,rfl,rfl,hH,hz,q⟩:=h
 cases rx
 obtain⟨u,rfl,ru⟩:=rv.one
 obtain⟨z,its,n,r,hl,e⟩:=I.lstM hH
 refine call_meets F.slot_list_append ⟨_,e,rfl⟩ F.entry_list_append (F.args_list_append_2 _ _) (PySem.list_append l its.toArray n u (by rw[FE];omega)) ⟨e,?_⟩
 refine⟨.non,_,I.lset (its':=its++[u]) hH e (by simp) (r.append (.cons ru .nil)) ?_,rfl,q⟩
 rw[E5,Fl]
 omega
def rCat:R2:=fun x y H Q=>∃ l b xs zs,x=.ref l/\y=.ref b/\H l=some (.lst xs)/\H b=some (.lst zs)/\xs.length+zs.length<=sizeLine/\∀ p,H p=none->Q (.ref p) (upd H p (.lst (xs++zs)))
theorem op_cat:OpR X (binaryOp .Add) rCat:=by
 intro pins s σ H x y v u Q I rx ry h
 obtain⟨l,b,xs,zs,rfl,rfl,hH,hB,hz,q⟩:=h
 cases rx
 cases ry
 obtain⟨z,its,n,r,hl,e⟩:=I.lstM hH
 obtain⟨z2,its2,n2,r2,hl2,e2⟩:=I.lstM hB
 refine PySem.P.add_list e e2 ?_ (by rw[FE,FE];omega)
 have ea:its.toArray++its2.toArray=(its++its2).toArray:=by simp
 rw[ea]
 exact⟨.ref _,_,I.lnew (t':=s.toks) (r.append r2) (by rw[E5];omega),rfl,q _ I.fresh⟩
end
section
variable{prog:Program}{w:World}{A:Around}{E:Value->Shared->Prop}{s:Shared}
end
section
variable{X:Cx}
end
end L2
namespace Att
open PySem PySem.W PySem.Calls PyProof.Rows
theorem mN{P:Params}{h:Heap}:∀(ns:List Int)(vs:List Value),WellAll P h vs (ns.map WData.int)->IntsAre vs ns:=by
 intro ns
 induction ns with
 |nil =>
  intro vs w
  rw[List.map_nil]at w
  cases w
  exact .nil
 |cons n ns ih =>
  intro vs w
  rw[FX]at w
  cases w with
  |cons a b =>
   cases a
   exact .cons _ _ (ih _ b)
theorem Ay{l:OpenLaw}{n:Nat}(hn:l.most=some n){P:Params}{h:Heap}{args:List WData}{vals:List Value}
  (hpre:l.row.toRowW.claim.pre args=true) (hwl:WellAll P h vals args) :
  ∃ a vs ns,vals = [Value.ref a]/\args = [WData.list (ns.map WData.int)]/\h.get? a=some { cls:=.type "list",data:=.seq vs.toArray }/\IntsAre vs ns/\ns.length<=n:=by
 have hsh:WShape.hasAll [] args [.list .int]=true:=(pre_splitW hpre).1
 have hc:l.pre.holds [] { args:=args }=true:=(pre_splitW hpre).2
 obtain⟨d,r,rfl,h1,h2⟩:=hasAllW_cons hsh
 obtain rfl:=hasAllW_nil h2
 obtain⟨xs,rfl,h3⟩:=hasW_list h1
 obtain⟨ns,rfl⟩:=items_int h3
 have hlen:ns.length<=n:=by
  unfold OpenLaw.pre at hc
  have h4:(WTm.not (.lt (.lit (.int (n:Int))) (.len (.arg 0)))).holds [] { args:=[.list (ns.map .int)] }=true:=by
   have h4:=(holds_andW hc).1
   rw[hn]at h4
   exact h4
  have h5:=condW_of h4 (w_not (w_lt w_lit (w_len_list (w_arg rfl))))
  rw[Fc]at h5
  refine Nat.le_of_not_lt fun q=>?_
  have q':(n:Int)<((ns.length:Nat):Int):=by omega
  first
   | (rw[decide_eq_true q']at h5;exact absurd h5 (by decide))
   | (simp at h5;omega)
 cases hwl with
 |cons w1 w2 =>
  cases w2
  cases w1 with
  |list ho hall=>exact⟨_,_,ns,rfl,rfl,ho,mN ns _ hall,hlen⟩
theorem AI(l:OpenLaw)(args:List WData):l.row.toRowW.claim.post args (.bool true) args=true :=
 postW_of (r:=l.row.toRowW) (X:=(true == true))
  (show WShape.has [] (.bool true) .bool=true by first | rfl | decide | simp[WShape.has,WShape.arms,WShape.armsAll])
  (show(WTm.eq .res (.lit (.bool true))).value [] { args:=args,res:=some (.bool true),after:=args }=some (.bool (true == true)) from w_eq_bool (w_res rfl) w_lit) rfl
theorem attach_call{l:OpenLaw}{n:Nat}{q:Program}{loose:List Str}{XP:(Str->Option Value)->Heap->Prop}{YP:World->Heap->Prop}{d:DefRec}
  (hn:l.most=some n) (hdf:d.params.defaults = [])
  (call:∀(w:World)(s₀ s₁:Shared)(mg mb:Str->Option Value)(fa:Addr)(o:Obj)(pm cd doc:Value)(a:Addr)(vs:List Value)(ns:List Int),
   Ground q loose [] XP w s₀ mg mb s₁.heap->YP w s₁.heap ->
   s₁.heap.get? fa=some o->o.data=.func (docDef d.name d.params d.body d.scope pm cd doc)->s₁.heap.CodeRec cd d.name->mg d.name=some (.ref fa) ->
   s₁.heap.get? a=some { cls:=.type "list",data:=.seq vs.toArray }->IntsAre vs ns->ns.length<=n->s₁.gens=#[] ->
   codeAny (model l.prog w) callerA (.call (.ref fa) ⟨[.ref a],[]⟩) (fun r s'=>r=.ok (.ret (.bool true))/\OldK s₁.heap s'.heap/\s'.os=s₁.os/\AllBare s'.gens) s₁) :
  WalkO q loose XP YP l.row.toRowW d [] (fun f vs=>PySem.call f vs):=by
 intro w s₀ s₁ mg mb G Y fa o pm cd doc dV kV ho hd hcd hD hmg hg args vals as hpre hlay hrd hwl hlo
 obtain rfl:dV=.none:=Dflts.none hD hdf
 obtain rfl:kV=.none:=Dflts.noKw hD
 obtain⟨a,vs,ns,rfl,rfl,hobj,hints,hlen⟩:=Ay hn hpre hwl
 refine enter_call (codeAny_mono (call w s₀ s₁ mg mb fa o pm cd doc a vs ns G Y ho (fd_plain hd) hcd hmg hobj hints hlen hg) fun r s' hq=>?_)
 obtain⟨rfl,h2,h3,h4⟩:=hq
 exact⟨.inl ⟨.bool true,.bool true,[],rfl,fun _=>rfl,.bool true,AI l _,fun _=>⟨Ii,fun _ hm=>(nomatch hm)⟩⟩,h2,h3,h4⟩
section
variable{prog:Program}{w:World}{A:Around}{E:Value->Shared->Prop}{s:Shared}{K:Frag}
end
end Att
namespace L2
open PySem PySem.Spec PyProof.Rows
theorem rh:∀{vs:List Value}{ns:List Int},IntsAre vs ns->Vals (ns.map V.int) vs
 |_,_,.nil=>.nil
 |_,_,.cons n t h=>.cons ⟨t,rfl⟩ (rh h)
end L2
namespace L2
open PySem PySem.Spec PyProof.Rows
end L2
namespace L2
open PySem PySem.Spec PyProof.Rows
def ka(s:Stmt)(j:Nat):Stmt:=match s with
 |.ClassDef _ _ _ body _ _ _ _ _ _ _=>body.getD j (.Pass ⟨0,0,0,0⟩)
 |_=>.Pass ⟨0,0,0,0⟩
def aC(s:Stmt):Arguments:=match s with
 |.FunctionDef _ a _ _ _ _ _ _ _ _=>a
 |_=>{ posonlyargs:=[],args:=[],vararg:=none,kwonlyargs:=[],kw_defaults:=[],kwarg:=none,defaults:=[] }
def aA(s:Stmt):List Stmt:=match s with
 |.FunctionDef _ _ b _ _ _ _ _ _ _=>b
 |_=>[]
def ah(s:Stmt):Scope:=match s with
 |.FunctionDef _ _ _ _ _ _ sc _ _ _=>sc
 |_=>{ kind:=.function,names:=[],isGenerator:=false,isCoroutine:=false }
abbrev CX0:CXT:=fun _ _ _ _ _ _=>False
abbrev E0:XK:=fun _ _ _=>False
theorem bh{X:Cx}:nG CX0 X E0:=fun _ _ _ _ _ _ _ h=>h.elim
structure Fun(K:E6)(x qual:Str)(st:Stmt)(f:Addr)(fd:FuncData):Prop where
 ex:∃(oc:Value)(od:Option Addr)(kV doc pm:Value)(an:Option Addr)(cdv ct:Value)(osl:Array (Option Value)),
  fd=Fv x qual (aC st) (aA st) (ah st) .none kV doc pm an cdv ct/\K.lookup f=some ⟨oc,od,.func fd,osl⟩/\Ft K cdv qual=true
 kp:Fo K (.ref f)=true
section
variable{P:Program}{w:World}{K:E6}{mg:Str->Option Value}{base:Heap}
theorem Fun.ok{x qual:Str}{st:Stmt}{f:Addr}{fd:FuncData}{N ps:List Str}{k:Nat}{sp:Sp}(F:Fun K x qual st f fd)(S:aE N ps (ah st))(len:∀ vs H Q E,sp vs H Q E->vs.length=ps.length)
  (hbody:∀(cdv:Value)(A:Around)(outer:List Env)(s:Shared)(H:Hp)(vs:List V)(Q:VK)(E:XK),Room k (A.deeper (envOfC qual (ah st) s.heap.objs.size f cdv))->sp vs H Q E ->
   ∃ t,PSs (cxOf CX0 P w K mg base N qual (ah st) f cdv A outer s H E).nox (aA st) t/\t { nx:=fun _ H'=>Q .non H',rt:=Q } (oQ N vs) H):FnOk P w K mg base CX0 (k+1) f fd ps sp:=by
 obtain⟨oc,od,kV,doc,pm,an,cdv,ct,osl,rfl,lk,hcd⟩:=F.ex
 refine fn_of lk hcd S len fun A outer s H vs Q E hr hsp=>?_
 obtain⟨t,h,q⟩:=hbody cdv A outer s H vs Q E hr hsp
 exact⟨t,h.nox,q⟩
theorem Fun.binds{x qual:Str}{st:Stmt}{f:Addr}{fd:FuncData}{ps:List Str}(F:Fun K x qual st f fd)
  (h:∀(kV doc pm:Value)(an:Option Addr)(cdv ct:Value)(us:List Value),us.length=ps.length->bindArgs (Fv x qual (aC st) (aA st) (ah st) .none kV doc pm an cdv ct) ⟨us,[]⟩=pure (ps.zip us)):jR K fd ps []:=by
 obtain⟨oc,od,kV,doc,pm,an,cdv,ct,osl,rfl,lk,hcd⟩:=F.ex
 exact .all (h kV doc pm an cdv ct)
theorem aQ{x qual:Str}{st:Stmt}{f:Addr}{oc:Value}{od an:Option Addr}{osl:Array (Option Value)}{kV doc pm cdv ct:Value}(l:K.lookup f=some ⟨oc,od,.func (Fv x qual (aC st) (aA st) (ah st) .none kV doc pm an cdv ct),osl⟩)
  (c:Ft K cdv qual=true) (k:Fo K (.ref f)=true):Fun K x qual st f (Fv x qual (aC st) (aA st) (ah st) .none kV doc pm an cdv ct):=⟨⟨oc,od,kV,doc,pm,an,cdv,ct,osl,rfl,l,c⟩,k⟩
end
theorem C2{A:Around}{k:Nat}(hr:Room k A):A.units+1<cLine:=Gm (Nat.add_le_add_left (by decide:1<=64) _) hr.units
theorem ax{n:Nat}(h:n<=1000):n<sizeLine:=Gm h (by decide)
section
variable{X:Cx}
theorem pv(i:Nat){x:Str}{pos:Pos}(hN:X.N[i]?=some x:=by rfl)(hv:Vis X.env.scope x:=by first | exact Or.inl rfl | exact Or.inr (Or.inl rfl) | exact Or.inr (Or.inr rfl)) (hd:(x == ("__debug__" : Str))=false:=by decide)
  (hcd:(x == ("__classdict__" : Str))=false:=by decide):PE X (.Name x pos) (tVar i):=pe_var hN hv hd hcd
end
theorem iteF{A B:Prop}(h:B):if false=true then A else B:=by
 rw[if_neg FO]
 exact h
theorem iteT{A B:Prop}(h:A):if true=true then A else B:=by
 rw[if_pos rfl]
 exact h
theorem ite2{c A B:Prop} [Decidable c] (h1:c->A) (h2:¬ c->B):if c then A else B:=by
 by_cases h:c
 ·rw[if_pos h]
  exact h1 h
 ·rw[if_neg h]
  exact h2 h
theorem iteNS{c A B:Prop} [Decidable c] (hc:c) (h:B):if(!decide c)=true then A else B:=by
 rw[decide_eq_true hc]
 exact iteF h
def Same(H H':Hp):Prop:=∀ b o,H b=some o->H' b=some o
theorem Same.trans{H H1 H2:Hp}(a:Same H H1)(b:Same H1 H2):Same H H2:=fun c o h=>b c o (a c o h)
theorem Same.seq{K:E6}{H H':Hp}{a:Addr}{xs:List V}(e:Same H H')(h:SqL K H a xs):SqL K H' a xs:=by
 rcases h with(h | ⟨o,h⟩) | h
 ·exact .inl (.inl (e _ _ h))
 ·exact .inl (.inr ⟨o,e _ _ h⟩)
 ·exact .inr h
end L2
set_option maxRecDepth 100000
set_option maxHeartbeats 4000000
namespace L2
open PySem PySem.Spec PyProof.Rows
end L2
namespace L2
open PySem PySem.Spec PyProof.Rows
section
variable(P:Program)(w:World)
end
section
variable{P:Program}{w:World}{H H':Hp}{h h':Heap}{a:Addr}{o:HO}
end
section
variable{P:Program}{w:World}{H:Hp}{h h':Heap}{x e:Addr}{o':HO}
end
section
variable{fs fs' ex ex':List Addr}{H H1 H2:Hp}{h h1 h2 h':Heap}{a x e:Addr}{o:HO}
end
end L2
namespace L2
open PySem PySem.Spec PyProof.Rows
section
variable{X:Cx}{pins:List (Addr×Obj)}{σ:List (Option V)}{H H':Hp}{s:Shared}{h':Heap}
end
end L2
namespace L2
open PySem PySem.Spec PyProof.Rows
section
variable{X:Cx}
variable{a b:Expr}{ta tb:TE}{pos:Pos}
variable{tA tB':TT}{rest:List Expr}
end
end L2
namespace L2
open PySem PySem.Spec PyProof.Rows
section
variable{X:Cx}{pins:List (Addr×Obj)}{σ:St}{H:Hp}{s:Shared}{a:Addr}{xs ys:List V}
end
section
variable{X:Cx}{pins:List (Addr×Obj)}{σ:St}{H:Hp}{s:Shared}{E:Value->Shared->Prop}
end
section
variable{X:Cx}{st:Stmt}{rest:List Stmt}{t u:TS}{e:Expr}{te:TE}{pos:Pos}
end
section
variable{X:Cx}{pos:Pos}
end
section
variable{X:Cx}{pos:Pos}
end
end L2
namespace L2
open PySem PySem.Spec PyProof.Rows
section
variable{X:Cx}{tg:Expr}
end
end L2
namespace L2
open PySem PySem.Spec PyProof.Rows
section
variable{X:Cx}{a b c:Expr}{ta tb tc:TE}{pos:Pos}
end
section
variable{X:Cx}{a b c:Expr}{ta tb tc:TE}{pos:Pos}
end
end L2
namespace L2
open PySem PySem.Spec PyProof.Rows
section
variable{prog:Program}{w:World}{A:Around}{E:Value->Shared->Prop}{s:Shared}{K:E6}{x dx C f:Addr}{mA:Str->Option Value}{name:Str}{v:Value}
end
section
variable{P:Program}{w:World}{H H':Hp}{h h':Heap}{a C dx:Addr}{fs fs':List (Str×V)}
end
section
variable{X:Cx}{pins:List (Addr×Obj)}{σ:St}{H:Hp}{s:Shared}{a C dx:Addr}{fs:List (Str×V)}{f:Str}{v:V}{A:Around}{E:Value->Shared->Prop}
end
section
variable{X:Cx}{o e value:Expr}{f:Str}{pos pos' tpos:Pos}{ta tv:TE}
end
section
variable{X:Cx}{pins:List (Addr×Obj)}{σ:St}{H:Hp}{s:Shared}{A:Around}{E:Value->Shared->Prop}{Q:Value->Shared->Prop}{c:Value}{b:Bool}
end
end L2
namespace L2
open PySem PySem.Spec PyProof.Rows
section
variable{X:Cx}{e:Expr}{es:List Expr}{te:TE}{t:TA}{pos:Pos}
end
section
variable{X:Cx}{pins:List (Addr×Obj)}{σ:St}{H:Hp}{s s':Shared}
end
section
variable{X:Cx}{CX:CXT}{k:Nat}{f C:Addr}{fd:FuncData}{ps:List Str}{sp:Sp}{dvs:List V}{ds:List Value}{E:XK}{x m:Str}{p pos apos:Pos}{e o:Expr}{es:List Expr}{ta:TE}{t:TA}
end
section
variable{X:Cx}{CX:CXT}{k:Nat}{f C:Addr}{fd:FuncData}{ps ks:List Str}{sp:Sp}{E:XK}{x m:Str}{p pos apos kpos:Pos}{e o:Expr}{es:List Expr}{kws:List Keyword}{te ta:TE}{t tk:TA}{nm:Option Str}
variable{g:List Value->List Value->List Value}{gV:List V->List V->List V}
end
end L2
namespace L2
open PySem PySem.Spec PyProof.Rows
section
variable{X:Cx}{x:Str}{p pos:Pos}{e:Expr}{es:List Expr}{t:TA}{id T:String}{r:List V->Hp->VK->Prop}
end
end L2
namespace L2
open PySem PySem.Spec PyProof.Rows
section
variable{κ:Type} [DecidableEq κ]
def valV(kvs:List (κ×V))(k:κ):Option V:=(kvs.find? fun kv=>decide (kv.1=k)).map (·.2)
def putK(kvs:List (κ×V))(k:κ)(v:V):List (κ×V) :=
 if(kvs.any fun kv=>decide (kv.1=k))=true then kvs.map (fun kv=>if kv.1=k then(kv.1,v) else kv) else kvs++[(k,v)]
theorem cm{p:κ×V}{r:List (κ×V)}{k:κ}(e:p.1=k):valV (p::r) k=some p.2:=by simp[valV,Hb,e]
theorem cn{p:κ×V}{r:List (κ×V)}{k:κ}(e:¬ p.1=k):valV (p::r) k=valV r k:=by simp[valV,Hb,e]
theorem ie(k:κ):∀ kvs:List (κ×V),(kvs.any fun kv=>decide (kv.1=k))=(valV kvs k).isSome
 |[]=>rfl
 |p::r=>by
  rw[Ic]
  by_cases e:p.1=k
  ·simp only[cm e,decide_eq_true e,Bool.true_or,Option.isSome_some]
  ·rw[cn e,decide_eq_false e,Bool.false_or];exact ie k r
theorem xS(k j:κ)(y:V):∀ kvs:List (κ×V),valV (kvs.map fun kv=>if kv.1=k then(kv.1,y) else kv) j=(valV kvs j).map fun x=>if j=k then y else x
 |[]=>rfl
 |p::r=>by
  have ih:=xS k j y r
  rw[FX]
  by_cases h:p.1=k
  ·rw[if_pos h]
   by_cases e:p.1=j
   ·rw[cm (p:=(p.1,y)) e,cm e,HI,if_pos (e.symm.trans h)]
   ·rw[cn (p:=(p.1,y)) e,cn e,ih]
  ·rw[if_neg h]
   by_cases e:p.1=j
   ·rw[cm (p:=p) e,cm e,HI,if_neg (fun z=>h (e.trans z))]
   ·rw[cn (p:=p) e,cn e,ih]
theorem rj(k j:κ)(y:V):∀ kvs:List (κ×V),valV kvs k=none->valV (kvs++[(k,y)]) j=if j=k then some y else valV kvs j
 |[],_=>by
  by_cases e:k=j
  ·rw[if_pos e.symm];exact cm (p:=(k,y)) e
  ·rw[if_neg (fun z=>e z.symm)];exact cn (p:=(k,y)) e
 |p::r,hn=>by
  rw[GG]
  have hk:¬ p.1=k:=fun z=>by rw[cm z]at hn;cases hn
  rw[cn hk]at hn
  have ih:=rj k j y r hn
  by_cases e:p.1=j
  ·rw[cm e,cm e,if_neg (fun z=>hk (e.trans z))]
  ·rw[cn e,cn e,ih]
theorem jq(kvs:List (κ×V))(k j:κ)(y:V):valV (putK kvs k y) j=if j=k then some y else valV kvs j:=by
 unfold putK
 by_cases a:(kvs.any fun kv=>decide (kv.1=k))=true
 ·rw[if_pos a,xS]
  rw[ie]at a
  by_cases e:j=k
  ·obtain⟨x,hx⟩:=IC.mp a
   rw[if_pos e,e,hx,HI,if_pos rfl]
  ·rw[if_neg e]
   cases valV kvs j with
   |none=>rfl
   |some x=>rw[HI,if_neg e]
 ·rw[if_neg a]
  refine rj k j y kvs ?_
  rw[ie]at a
  cases q:valV kvs k with
  |none=>rfl
  |some x=>rw[q]at a;exact(a rfl).elim
theorem bG(kvs:List (κ×V))(k:κ)(v:V):(putK kvs k v).length<=kvs.length+1:=by
 unfold putK
 split
 ·rw[Fc];omega
 ·rw[E5,FV,Hr];omega
theorem Cf{kvs:List (κ×V)}{k:κ}(v:V)(h:valV kvs k=none):putK kvs k v=kvs++[(k,v)]:=by
 unfold putK
 rw[ie,h]
 exact if_neg (by decide)
theorem RelO.isSome_eq{o:Option V}{u:Option Value}(r:RelO o u):o.isSome=u.isSome:=by
 cases o with
 |none=>cases u with
  |none=>rfl
  |some _=>exact(show False from r).elim
 |some _=>cases u with
  |none=>exact(show False from r).elim
  |some _=>rfl
theorem KV.val{kvs:List (κ×V)}{vs:List (κ×Value)}(r:KV kvs vs)(k:κ):RelO (valV kvs k) (valueAt vs k):=by
 unfold KV at r
 induction r with
 |nil=>exact True.intro
 | @cons p q ps qs h t ih =>
  obtain⟨h1,h2⟩:=h
  by_cases e:p.1=k
  ·have e':q.1=k:=h1.symm.trans e
   have b:valueAt (q::qs) k=some q.2:=by simp[valueAt,Hb,e']
   rw[cm e,b];exact h2
  ·have e':¬ q.1=k:=fun z=>e (h1.trans z)
   have b:valueAt (q::qs) k=valueAt qs k:=by simp[valueAt,Hb,e']
   rw[cn e,b];exact ih
theorem KV.any{kvs:List (κ×V)}{vs:List (κ×Value)}(r:KV kvs vs)(k:κ):(kvs.any fun kv=>decide (kv.1=k))=vs.any fun kv=>decide (kv.1=k):=by
 unfold KV at r
 induction r with
 |nil=>rfl
 |cons h t ih=>rw[Ic,Ic,ih,h.1]
theorem KV.repl{kvs:List (κ×V)}{vs:List (κ×Value)}(r:KV kvs vs)(k:κ){y:V}{u:Value}(ry:RelV y u) :
  KV (kvs.map fun kv=>if kv.1=k then(kv.1,y) else kv) (vs.map fun kv=>if kv.1=k then(kv.1,u) else kv):=by
 unfold KV at r ⊢
 induction r with
 |nil=>exact .nil
 | @cons p q ps qs h t ih =>
  rw[FX,FX]
  refine .cons ?_ ih
  obtain⟨h1,h2⟩:=h
  by_cases e:p.1=k
  ·rw[if_pos e,if_pos (h1.symm.trans e)];exact⟨h1,ry⟩
  ·rw[if_neg e,if_neg (fun z=>e (h1.trans z))];exact⟨h1,h2⟩
theorem KV.put{kvs:List (κ×V)}{vs:List (κ×Value)}(r:KV kvs vs)(k:κ){y:V}{u:Value}(ry:RelV y u):KV (putK kvs k y) (stored vs k u):=by
 unfold putK stored
 rw[r.any k]
 by_cases e:(vs.any fun kv=>decide (kv.1=k))=true
 ·rw[if_pos e,if_pos e];exact r.repl k ry
 ·rw[if_neg e,if_neg e];exact Paired.snoc r ⟨rfl,ry⟩
theorem KV.length{kvs:List (κ×V)}{vs:List (κ×Value)}(r:KV kvs vs):kvs.length=vs.length:=Paired.length r
end
theorem Bk{P:Program}{w:World}{k:Key}{u:Value}(r:RelV (kV k) u):(bE P w).is k u=true:=by
 cases k with
 |inl i=>obtain⟨t,e⟩:=(show ∃ t,u=Value.int i t from r);subst e;exact wk P w i t
 |inr x=>obtain⟨t,e⟩:=(show ∃ t,u=Value.str x t from r);subst e;exact wj P w x t
theorem tH{P:Program}{w:World}:∀{ks:List Key}{us:List Value},Vals (ks.map kV) us->ItemsAre (bE P w) ks us
 |[],_,r=>by rw[List.map_nil]at r;cases r;exact .nil
 |k::ks,_,r=>by
  rw[FX]at r
  cases r with
  |cons h t=>exact .cons (Bk h) (tH t)
abbrev KT(H:Hp):List (List Key×V)->List (List Key×Addr×Value)->Prop:=Paired fun p q=>p.1=q.1/\H q.2.1=some (.tup (p.1.map kV))/\RelV p.2 q.2.2
theorem KT.val{H:Hp}{kvs:List (List Key×V)}{xs:List (List Key×Addr×Value)}(r:KT H kvs xs)(k:List Key):RelO (valV kvs k) ((atKey xs k).map (·.2)):=by
 induction r with
 |nil=>exact True.intro
 | @cons p q ps qs h t ih =>
  obtain⟨h1,_,h2⟩:=h
  by_cases e:p.1=k
  ·have e':q.1=k:=h1.symm.trans e
   have b:atKey (q::qs) k=some q.2:=by simp[atKey,Hb,e']
   rw[cm e,b];exact h2
  ·have e':¬ q.1=k:=fun z=>e (h1.trans z)
   have b:atKey (q::qs) k=atKey qs k:=by simp[atKey,Hb,e']
   rw[cn e,b];exact ih
theorem KT.repl{H:Hp}{kvs:List (List Key×V)}{xs:List (List Key×Addr×Value)}(r:KT H kvs xs)(k:List Key){y:V}{u:Value}(ry:RelV y u) :
  KT H (kvs.map fun kv=>if kv.1=k then(kv.1,y) else kv) (xs.map (putAt k u)):=by
 induction r with
 |nil=>exact .nil
 | @cons p q ps qs h t ih =>
  rw[FX,FX]
  refine .cons ?_ ih
  obtain⟨h1,h2,h3⟩:=h
  unfold putAt
  by_cases e:p.1=k
  ·rw[if_pos e,if_pos (h1.symm.trans e)];exact⟨h1,h2,ry⟩
  ·rw[if_neg e,if_neg (fun z=>e (h1.trans z))];exact⟨h1,h2,h3⟩
theorem KT.put{H:Hp}{kvs:List (List Key×V)}{xs:List (List Key×Addr×Value)}(r:KT H kvs xs)(k:List Key){b:Addr}{y:V}{u:Value}(hb:H b=some (.tup (k.map kV)))(ry:RelV y u) :
  KT H (putK kvs k y) (storedH xs k b u):=by
 have e:(kvs.any fun kv=>decide (kv.1=k))=(atKey xs k).isSome:=by
  rw[ie,(r.val k).isSome_eq,Option.isSome_map]
 unfold putK storedH
 rw[e]
 by_cases q:(atKey xs k).isSome=true
 ·rw[if_pos q,if_pos q];exact r.repl k ry
 ·rw[if_neg q,if_neg q];exact Paired.snoc r ⟨rfl,hb,ry⟩
theorem KT.keeps{H H':Hp}{kvs:List (List Key×V)}{xs:List (List Key×Addr×Value)}(r:KT H kvs xs)(ht:∀ b ys,H b=some (.tup ys)->H' b=some (.tup ys)):KT H' kvs xs :=
 Paired.mapP r fun _ _ z=>⟨z.1,ht _ _ z.2.1,z.2.2⟩
section
variable{P:Program}{w:World}{H:Hp}{h:Heap}{a:Addr}
theorem rd_of{u:HO}(ok:HOk P w H h)(e:Rd H a u):bM P w H h a u:=e.ok ok
theorem BA{kvs:List (Key×V)}(ok:HOk P w H h)(e:Rd H a (.dK kvs)):kvs.length<=sizeLine/\(a == sysModules)=false/\∃ vs,KV kvs vs/\h.DictOf (bE P w) a vs :=
 show bM P w H h a (.dK kvs) from rd_of ok e
theorem dk_of{kvs:List (Key×V)}(ok:HOk P w H h)(e:H a=some (.dK kvs)):kvs.length<=sizeLine/\(a == sysModules)=false/\∃ vs,KV kvs vs/\h.DictOf (bE P w) a vs:=BA ok (.inl e)
theorem yu{ks:List Key}(ok:HOk P w H h)(e:H a=some (.tup (ks.map kV))):(tupleKind (bE P w)).is h ks a:=by
 obtain⟨_,its,r,o,h1,h2,n,h3⟩:=(show bM P w H h a (.tup (ks.map kV)) from ok a _ e)
 exact⟨o,its.toArray,n,h1,h2,h3,by simpa using tH r⟩
theorem C4{kvs:List (List Key×V)}(ok:HOk P w H h)(e:Rd H a (.dT kvs)):kvs.length<=sizeLine/\(a == sysModules)=false /\
  ∃ xs,KT H kvs xs/\h.DictOfH (tupleKind (bE P w)) a xs:=by
 obtain⟨z,y,xs,r,o,es,ep,h1,h2,h3,h4,h5⟩:=(show bM P w H h a (.dT kvs) from rd_of ok e)
 refine⟨z,y,xs,r,o,es,ep,h1,h2,h3,h4,fun x hx=>?_,h5⟩
 have all:∀{l:List (List Key×V)}{m:List (List Key×Addr×Value)},KT H l m->∀ x∈m,(tupleKind (bE P w)).is h x.1 x.2.1:=by
  intro l m q
  induction q with
  |nil=>intro x hx;exact nomatch hx
  | @cons p q ps qs hq t ih =>
   intro x hx
   rcases Fb.mp hx with e | hx
   ·subst e
    exact yu ok (by rw[← hq.1];exact hq.2.1)
   ·exact ih x hx
 exact all r x hx
theorem dt_of{kvs:List (List Key×V)}(ok:HOk P w H h)(e:H a=some (.dT kvs)):kvs.length<=sizeLine/\(a == sysModules)=false /\
  ∃ xs,KT H kvs xs/\h.DictOfH (tupleKind (bE P w)) a xs:=C4 ok (.inl e)
end
def DGet(H:Hp)(a:Addr)(y:V)(r:Option V):Prop :=
 (∃ kvs k,Rd H a (.dK kvs)/\y=kV k/\r=valV kvs k)∨∃ kvs k b,Rd H a (.dT kvs)/\y=.ref b/\H b=some (.tup (k.map kV))/\r=valV kvs k
def DPut(H:Hp)(a:Addr)(y v:V)(H':Hp):Prop :=
 (∃ kvs k,H a=some (.dK kvs)/\y=kV k/\kvs.length<sizeLine/\H'=upd H a (.dK (putK kvs k v))) ∨
 ∃ kvs k b,H a=some (.dT kvs)/\y=.ref b/\H b=some (.tup (k.map kV))/\kvs.length<sizeLine/\H'=upd H a (.dT (putK kvs k v))
theorem DGet.k{H:Hp}{a:Addr}{kvs:List (Key×V)}{k:Key}(e:H a=some (.dK kvs)):DGet H a (kV k) (valV kvs k):=.inl ⟨kvs,k,.inl e,rfl,rfl⟩
theorem DPut.k{H:Hp}{a:Addr}{kvs:List (Key×V)}{k:Key}{v:V}(e:H a=some (.dK kvs))(hl:kvs.length<sizeLine):DPut H a (kV k) v (upd H a (.dK (putK kvs k v))):=.inl ⟨kvs,k,e,rfl,hl,rfl⟩
section
variable{X:Cx}{pins:List (Addr×Obj)}{σ:St}{H:Hp}{s:Shared}{a:Addr}{y v:V}{u r:Value}{o:Option V}{A:Around}{E:Value->Shared->Prop}
theorem Inv.big(I:Inv X pins σ H s):sysModules<s.heap.objs.size:=by
 have h:mainGlobals<s.heap.objs.size:=(I.mod.glob.keeps I.bk).lt
 exact Nat.lt_trans (by decide) h
theorem BG{Q:Value->Shared->Prop}(hu:A.units+1<cLine)(I:Inv X pins σ H s)(g:DGet H a y (some v))(ry:RelV y u)(h:∀ w' s',Inv X pins σ H s'->RelV v w'->Q w' s') :
  wpAny (model X.prog X.w) A (getItem (.ref a) u) Q E s:=by
 rcases g with⟨kvs,k,e,ey,l⟩ | ⟨kvs,k,b,e,ey,eb,l⟩
 ·subst ey
  obtain⟨z,hd,vs,rel,dd⟩:=BA I.hok e
  obtain⟨w',hw,rw'⟩:=RelO.some_of (v:=v) (o:=valueAt vs k) (by rw[l];exact rel.val k)
  exact wpAny_getItem_of (Bk ry) dd.mapOf hw (h w' _ (I.tok _) rw')
 ·subst ey
  cases (show u=Value.ref b from ry)
  obtain⟨z,hd,xs,rel,dd⟩:=C4 I.hok e
  obtain⟨w',hw,rw'⟩:=RelO.some_of (v:=v) (o:=(atKey xs k).map (·.2)) (by rw[l];exact rel.val k)
  obtain⟨p,hp,hp2⟩:=F3.mp hw
  refine wpAny_getItem_heap (tupleKind_room_in1 hu) (yu I.hok eb) dd hp ?_
  rw[hp2]
  exact h w' _ (I.tok _) rw'
theorem EM{Q:Value->Shared->Prop}(hu:A.units+1<cLine)(I:Inv X pins σ H s)(g:DGet H a y o)(ry:RelV y u)(h:∀ s',Inv X pins σ H s'->Q (.bool (!o.isSome)) s') :
  wpAny (model X.prog X.w) A (compareOp .NotIn u (.ref a)) Q E s:=by
 rcases g with⟨kvs,k,e,ey,l⟩ | ⟨kvs,k,b,e,ey,eb,l⟩
 ·subst ey
  obtain⟨z,hd,vs,rel,dd⟩:=BA I.hok e
  refine wpAny_notIn_of (Bk ry) hd dd.mapOf ?_
  rw[← (rel.val k).isSome_eq,← l]
  exact h _ (I.tok _)
 ·subst ey
  cases (show u=Value.ref b from ry)
  obtain⟨z,hd,xs,rel,dd⟩:=C4 I.hok e
  refine wpAny_notIn_heap (tupleKind_room_in1 hu) (yu I.hok eb) hd dd ?_
  have q:=(rel.val k).isSome_eq
  rw[Option.isSome_map]at q
  rw[← q,← l]
  exact h _ (I.tok _)
theorem wZ{h':Heap}{t':Nat}{ob:HO}(I:Inv X pins σ H s)(mu:Mut (H a))(hs:Heap.SameBut a s.heap h')(he:∃ q,h'.get? a=some q)(new:bM X.prog X.w (upd H a ob) h' a ob) :
  Inv X pins σ (upd H a ob) { s with heap:=h',toks:=t' } :=
 I.write (x:=a) (e:=a) mu (.inl rfl) (fun b q hb z=>(hs.2 b hb).trans z) he new
theorem DA{P:Program}{w:World}{H':Hp}{h':Heap}{kvs:List (Key×V)}{vs:List (Key×Value)}(z:kvs.length<=sizeLine)(hd:(a == sysModules)=false)(rel:KV kvs vs)(dd:h'.DictOf (bE P w) a vs) :
  bM P w H' h' a (.dK kvs):=⟨z,hd,vs,rel,dd⟩
theorem BF{H':Hp}{Q:Unit->Shared->Prop}(hu:A.units+1<cLine)(I:Inv X pins σ H s)(g:DPut H a y v H')(ry:RelV y u)(rv:RelV v r)(h:∀ s',Inv X pins σ H' s'->Q () s') :
  wpAny (model X.prog X.w) A (setItem (.ref a) u r) Q E s:=by
 rcases g with⟨kvs,k,e,ey,l,eH⟩ | ⟨kvs,k,b,e,ey,eb,l,eH⟩
 ·subst ey eH
  obtain⟨z,hd,vs,rel,dd⟩:=dk_of I.hok e
  have hz:vs.length<=sizeLine:=by rw[← rel.length];exact z
  have hl:(putK kvs k v).length<=sizeLine:=by have:=bG kvs k v;omega
  refine wpAny_setItem_pairs (hsz:=hz) (Bk ry) dd fun h' dd' hs=>h _ ?_
  have he:∃ q,h'.get? a=some q:=let ⟨q,_,_,hq,_⟩:=dd';⟨q,hq⟩
  exact wZ I (by rw[e];exact True.intro) hs he (DA hl hd (rel.put k rv) dd')
 ·subst ey eH
  cases (show u=Value.ref b from ry)
  obtain⟨z,hd,xs,rel,dd⟩:=dt_of I.hok e
  have hz:xs.length<=sizeLine:=by rw[← Paired.length rel];exact z
  have hl:(putK kvs k v).length<=sizeLine:=by have:=bG kvs k v;omega
  refine wpAny_setItem_heap (hsz:=hz) (tupleKind_room_in1 hu) (yu I.hok eb) dd fun h' dd' hs=>h _ ?_
  obtain⟨q,es,ep,hq,h2,h3,h4,_,h5⟩:=dd'
  refine wZ I (by rw[e];exact True.intro) hs ⟨q,hq⟩ ⟨hl,hd,_,(rel.put k eb rv).keeps fun c ys ec=>?_,q,es,ep,hq,h2,h3,h4,h5⟩
  rw[ai (ne_of ec e (fun z=>nomatch z))]
  exact ec
end
section
variable{X:Cx}{pins:List (Addr×Obj)}{σ:St}{H:Hp}{s:Shared}{a:Addr}{kvs:List (Key×V)}{k:Key}{u:Value}{A:Around}{E:Value->Shared->Prop}
end
def NoSl(i:Expr):Prop:=∀ ov iv,subscripted i false ov iv=operate [ov,iv] (getItem ov iv)
theorem DR{prog:Program}{w:World}{A:Around}{E:Value->Shared->Prop}{s:Shared}{env:Env}{value slice:Expr}{pos:Pos}{T id:String}{Q:Value->Shared->Prop}
  (hl:typeLookup (.type T) "__getitem__" = pure (some (.builtin id))) (hs:NoSl slice)
  (h:wpAny (model prog w) A (eval value env) (fun o s₁=>wpAny (model prog w) A (eval slice env) (fun i s₂=>s₂.TypeIs o T/\wpAny (model prog w) A (getItem o i) Q E s₂) E s₁) E s) :
  wpAny (model prog w) A (eval (.Subscript value slice pos) env) Q E s:=by
 refine Subscript_ (wpAny_mono h (fun o s₁ h₁=>wpAny_mono h₁ (fun i s₂ h₂=>?_) fun _ _ x=>x) fun _ _ x=>x)
 obtain⟨hT,h₂⟩:=h₂
 unfold subscriptTail
 refine wpAny_bind ?_
 rw[getitemInPython_of_ne hT.not_modules]
 refine wpAny_bind (wpAny_specialOf hT hl ?_)
 have fin:wpAny (model prog w) A (subscripted slice false o i) (fun r s₃=>wpAny (model prog w) A (letTemporaryGo value o r >>= fun _=>pure r) Q E s₃) E s₂:=by
  rw[hs o i]
  exact wpAny_operating (wpAny_mono h₂ (fun r s₃ h₃=>wpAny_bind (wpAny_letTemporaryGo (wpAny_pure h₃))) fun _ _ x=>x)
 first
  |exact wpAny_pure (wpAny_bind fin)
  |exact wpAny_bind (wpAny_pure (wpAny_bind fin))
  |exact wpAny_bind fin
theorem wQ{X:Cx}{pins:List (Addr×Obj)}{σ:St}{H:Hp}{s:Shared}{a:Addr}{y:V}{o:Option V}(I:Inv X pins σ H s)(g:DGet H a y o):s.TypeIs (.ref a) "dict":=by
 rcases g with⟨kvs,k,e,_,_⟩ | ⟨kvs,k,b,e,_,_,_⟩
 ·obtain⟨_,_,vs,_,dd⟩:=BA I.hok e
  exact dd.typeIs
 ·obtain⟨_,_,xs,_,dd⟩:=C4 I.hok e
  exact dd.typeIs
def tDGet(td ty:TE):TE:=fun σ H Q=>td σ H fun x H1=>ty σ H1 fun y H2=>∃ a v,x=.ref a/\DGet H2 a y (some v)/\Q v H2
def DQ(ty td:TE):TE:=fun σ H Q=>ty σ H fun y H1=>td σ H1 fun x H2=>∃ a o,x=.ref a/\DGet H2 a y o/\Q (.bl (!o.isSome)) H2
def sDPut(td ty tv:TE):TS:=fun D σ H=>tv σ H fun v H1=>td σ H1 fun x H2=>ty σ H2 fun y H3=>∃ a H4,x=.ref a/\DPut H3 a y v H4/\D.nx σ H4
section
variable{X:Cx}{o i e value:Expr}{pos pos' tpos:Pos}{td ty tv:TE}
theorem vK(hu:X.A.units+1<cLine)(ho:PE X o td)(hi:PE X i ty)(hs:NoSl i):PE X (.Subscript o i pos) (tDGet td ty):=by
 intro pins s σ H Q I h
 refine DR PySem.F.slot_dict_getitem.lookup hs (thn (ho pins s σ H _ I h) fun u s1 ⟨x,H1,I1,rx,q1⟩=>thn (hi pins s1 σ H1 _ I1 q1) fun iv s2 ⟨y,H2,I2,ry,a,v,ex,g,q2⟩=>?_)
 subst ex
 obtain rfl:u=Value.ref a:=rx
 exact⟨wQ I2 g,BG hu I2 g ry fun w' s3 I3 rw'=>⟨v,H2,I3,rw',q2⟩⟩
theorem jv(hu:X.A.units+1<cLine)(hi:PE X i ty)(ho:PE X o td):PC X .NotIn i o (DQ ty td):=by
 intro pins s σ H Q I h
 refine thn (hi pins s σ H _ I h) fun iv s1 ⟨y,H1,I1,ry,q1⟩=>thn (ho pins s1 σ H1 _ I1 q1) fun u s2 ⟨x,H2,I2,rx,a,ov,ex,g,q2⟩=>?_
 subst ex
 obtain rfl:u=Value.ref a:=rx
 exact EM hu I2 g ry fun s3 I3=>⟨.bl (!ov.isSome),H2,I3,rfl,q2⟩
theorem jY(hu:X.A.units+1<cLine)(ho:PE X o td)(hi:PE X i ty)(hv:PE X value tv)(hs:swapsWith value (some (.Subscript o i pos')) pos.line X.env=pure false) :
  PS X (.Assign [.Subscript o i pos'] value pos) (sDPut td ty tv):=by
 intro pins s σ H D I h
 refine wpAny_Assign_Subscript (thn (hv pins s σ H _ I h) fun r s1 ⟨v,H1,I1,rv,q1⟩=>thn (ho pins s1 σ H1 _ I1 q1) fun u s2 ⟨x,H2,I2,rx,q2⟩=>thn (hi pins s2 σ H2 _ I2 q2) fun iv s3 ⟨y,H3,I3,ry,a,H4,ex,g,q3⟩=>?_) hs
 subst ex
 obtain rfl:u=Value.ref a:=rx
 exact BF hu I3 g ry rv fun s4 I4=>⟨σ,H4,I4,q3⟩
end
theorem yC{P:Program}{w:World}{H:Hp}(h:Heap)(hb:sysModules<h.objs.size):bM P w H (h.push { cls:=.type "dict",data:=.dict #[] }) h.objs.size (.dK []) :=
 ⟨Ge _,beq_eq_false_iff_ne.mpr (Ne.symm (FG hb)),[],.nil,Heap.DictOf.new h⟩
def tDNewK:TE:=fun _ H Q=>∀ p,H p=none->Q (.ref p) (upd H p (.dK []))
section
variable{X:Cx}{pos:Pos}
theorem pM:PE X (.Dict [] [] pos) tDNewK:=fun pins s σ H Q I h =>
 wpAny_Dict_empty ⟨.ref s.heap.objs.size,_,I.laid (a:=s.heap.objs.size) (o:=.dK []) (t':=s.toks) (fun _ _ q=>Heap.get?_push_of_some _ q) (Ff _) (yC s.heap I.big),rfl,h _ (I.hok.fresh (Ff _))⟩
end
def Ag:List (TE×TE)->St->Hp->(List (V×V)->Hp->Prop)->Prop
 |[],_,H,Q=>Q [] H
 | (tk,tv)::r,σ,H,Q=>tk σ H fun x H1=>tv σ H1 fun y H2=>Ag r σ H2 fun ps H3=>Q ((x,y)::ps) H3
abbrev VV:List (V×V)->List (Value×Value)->Prop:=Paired fun p q=>RelV p.1 q.1/\RelV p.2 q.2
def PPs(X:Cx)(pos:Pos)(keys:List (Option Expr))(values:List Expr)(trs:List (TE×TE)):Prop :=
 ∀(pins:List (Addr×Obj))(s:Shared)(σ:St)(H:Hp)(Q:List (V×V)->Hp->Prop),Inv X pins σ H s->Ag trs σ H Q ->
  wpAny (model X.prog X.w) X.A (evalPairs (pairTrees keys values X.env pos)) (fun vs s'=>∃ ps H',Inv X pins σ H' s'/\VV ps vs/\Q ps H') X.xe s
theorem D6{X:Cx}{pos:Pos}:PPs X pos [] [] []:=fun pins s σ H Q I h=>pairTrees_nil_walk ⟨[],H,I,.nil,h⟩
theorem Ci{X:Cx}{pos:Pos}{k v:Expr}{ks:List (Option Expr)}{vs:List Expr}{tk tv:TE}{trs:List (TE×TE)}(hk:PE X k tk)(hv:PE X v tv)(hr:PPs X pos ks vs trs) :
  PPs X pos (some k::ks) (v::vs) ((tk,tv)::trs):=fun pins s σ H Q I h =>
 pairTrees_cons_walk (thn (hk pins s σ H _ I h) fun u s1 ⟨x,H1,I1,rx,q1⟩=>thn (hv pins s1 σ H1 _ I1 q1) fun w2 s2 ⟨y,H2,I2,ry,q2⟩ =>
  thn (hr pins s2 σ H2 _ I2 q2) fun ws s3 ⟨ps,H3,I3,rel,q3⟩=>⟨(x,y)::ps,H3,I3,.cons ⟨rx,ry⟩ rel,q3⟩)
def kJ(kvs more:List (Key×V)):List (Key×V):=more.foldl (fun acc kv=>putK acc kv.1 kv.2) kvs
theorem KV.merge:∀{more:List (Key×V)}{rs:List (Key×Value)}{kvs:List (Key×V)}{vs:List (Key×Value)},KV more rs->KV kvs vs->KV (kJ kvs more) (merged vs rs):=by
 intro more rs kvs vs r
 unfold KV at r
 induction r generalizing kvs vs with
 |nil=>intro q;exact q
 | @cons p q ps qs h t ih =>
  intro r0
  have e:KV (putK kvs p.1 p.2) (stored vs q.1 q.2):=by
   have:=r0.put p.1 h.2
   rw[← h.1];exact this
  exact ih e
theorem jw:∀(more kvs:List (Key×V)),(kJ kvs more).length<=kvs.length+more.length
 |[],kvs=>by show kvs.length<=kvs.length+0;omega
 |p::r,kvs=>by
  have h1:=jw r (putK kvs p.1 p.2)
  have h2:=bG kvs p.1 p.2
  show(kJ (putK kvs p.1 p.2) r).length<=_
  rw[FV];omega
theorem oE{P:Program}{w:World}:∀{kvs:List (Key×V)}{ws:List (Value×Value)},VV (kvs.map fun kv=>(kV kv.1,kv.2)) ws->∃ rs,Carries (bE P w) ws rs/\KV kvs rs
 |[],_,r=>by rw[List.map_nil]at r;cases r;exact⟨[],True.intro,.nil⟩
 |p::kvs,_,r=>by
  rw[FX]at r
  cases r with
  | @cons a b as bs h t =>
   obtain⟨rs,c,q⟩:=oE (P:=P) (w:=w) t
   obtain⟨b1,b2⟩:=b
   exact⟨(p.1,b2)::rs,⟨Bk h.1,rfl,c⟩,.cons ⟨rfl,h.2⟩ q⟩
def tDisp(trs:List (TE×TE)):TE:=fun σ H Q=>∀ p,H p=none->Ag trs σ (upd H p (.dK [])) fun ps H2=>H2 p=some (.dK [])/\∃ kvs:List (Key×V),ps=kvs.map (fun kv=>(kV kv.1,kv.2))/\kvs.length<=15/\Q (.ref p) (upd H2 p (.dK (kJ [] kvs)))
theorem Ea{X:Cx}{pos:Pos}{keys:List (Option Expr)}{values:List Expr}{trs:List (TE×TE)}(h:PPs X pos keys values trs)(hall:keys.all (·.isSome)=true)(hl:keys.length=values.length)(h0:keys≠[])
  (h15:keys.length<=15):PE X (.Dict keys values pos) (tDisp trs):=by
 intro pins s σ H Q I q
 have hn:=I.hok.fresh (Ff s.heap.objs.size)
 have I1:=I.laid (a:=s.heap.objs.size) (o:=.dK []) (h':=s.heap.push { cls:=.type "dict",data:=.dict #[] }) (t':=s.toks) (fun _ _ q=>Heap.get?_push_of_some _ q) (Ff _) (yC s.heap I.big)
 refine wpAny_Dict_walk (knd:=bE X.prog X.w) hall hl h0 h15 (thn (h pins _ σ _ _ I1 (q _ hn)) fun ws s2 ⟨ps,H2,I2,rel,e,kvs,ep,lk,q2⟩=>?_)
 subst ep
 obtain⟨rs,c,rk⟩:=oE (P:=X.prog) (w:=X.w) rel
 obtain⟨z,hd,vs0,r0,dd⟩:=dk_of I2.hok e
 cases r0
 refine⟨rs,c,dd,fun h' dd' hs=>⟨.ref s.heap.objs.size,_,?_,rfl,q2⟩⟩
 have hz:(kJ [] kvs).length<=sizeLine:=by
  have h1:=jw kvs []
  rw[Hr]at h1
  rw[sizeLine_eq];omega
 have he:∃ q,h'.get? s.heap.objs.size=some q:=let ⟨q,_,_,hq,_⟩:=dd';⟨q,hq⟩
 exact wZ I2 (by rw[e];exact True.intro) hs he (DA hz hd (rk.merge .nil) dd')
section
variable{X:Cx}{pins:List (Addr×Obj)}{σ:St}{H:Hp}{s:Shared}{a:Addr}{y d:V}{u r:Value}{o:Option V}{A:Around}{E:Value->Shared->Prop}
end
section
variable{X:Cx}{o e f:Expr}{apos cpos:Pos}{td ty tx:TE}
end
section
variable{X:Cx}{pins:List (Addr×Obj)}{σ:St}{H:Hp}{s:Shared}{a:Addr}{kvs:List (Key×V)}{A:Around}{E:Value->Shared->Prop}
end
section
variable{X:Cx}{pins:List (Addr×Obj)}{σ:St}{H:Hp}{s:Shared}{a:Addr}{y:V}{u:Value}{A:Around}{E:Value->Shared->Prop}
end
end L2
namespace Att
open PySem PySem.W PySem.Calls PyProof.Rows
section
variable{prog:Program}{w:World}{A:Around}{E:Value->Shared->Prop}{s:Shared}{K:Frag}
end
end Att
namespace L2
open PySem PySem.Spec PyProof.Rows
end L2
namespace L2
open PySem PySem.Spec PyProof.Rows
end L2
namespace L2
open PySem PySem.Spec PyProof.Rows
section
variable{P:Program}{w:World}{K:E6}{mg:Str->Option Value}{base:Heap}
end
section
variable{X:Cx}
end
section
variable{κ:Type} [DecidableEq κ]
end
end L2
namespace L2
open PySem PySem.Spec PyProof.Rows
def clOf(env:Env)(fr:List (Str×Nat)):List (Str×Addr):=fr.map fun p=>(p.1,(env.cells.lookup p.1).getD 0)
def frOf(fr:List (Str×Nat))(σ:St):St:=fr.map fun p=>(σ[p.2]?).join
def c8(X:Cx)(scope:Scope)(fr:List (Str×Nat))(x:Str)(C:Addr)(ex:List Addr)(s:Shared)(H:Hp):Cx where
 prog:=X.prog
 w:=X.w
 K:=X.K
 mg:=X.mg
 base:=X.base
 A:=X.A
 N:=x::fr.map (·.1)
 s₀:=s
 H₀:=H
 env:=compEnvC scope (clOf X.env fr) C X.env
 outer:=X.stack
 stack:=X.stack
 ex:=ex
 fn:=fun _=>false
 calm:=X.calm
 pn:=[]
 xe:=fun _ _=>False
structure bI(X:Cx)(scope:Scope)(fr:List (Str×Nat))(x:Str):Prop where
 clos:closureFor scope X.env=pure (clOf X.env fr)
 cell:∀ y∈scope.names,y.2≠.cell
 kind:scope.kind=.function
 names:∀ y∈scope.names,y.2=.local->scope.names.lookup y.1=some .local
 xl:scope.names.lookup x=some .local
 nd:(x::fr.map (·.1)).Nodup
 slot:∀ p∈fr,X.N[p.2]?=some p.1/\X.env.kindOf p.1=some .cell
 has:∀ y∈(relabel scope X.env).names,(y.2=.cell∨y.2=.free)->y.1∈fr.map (·.1)
 frk:∀ p∈fr,(relabel scope X.env).names.lookup p.1=some .cell
theorem bI.plain{X:Cx}{scope:Scope}{x:Str}(clos:closureFor scope X.env=pure [])(cell:∀ y∈scope.names,y.2≠.cell)(kind:scope.kind=.function)(names:∀ y∈scope.names,y.2=.local->scope.names.lookup y.1=some .local)
  (hx:scope.names.lookup x=some .local) (nf:∀ y∈scope.names,y.2≠.free):bI X scope [] x where
 clos:=clos
 cell:=cell
 kind:=kind
 names:=names
 xl:=hx
 nd:=by simp
 slot:=fun p hp=>nomatch hp
 has:=fun y hy hk=>by
  obtain⟨⟨n,k⟩,hz,e⟩:=FW.mp (show y∈scope.names.map _ from hy)
  have h1:=nf _ hz
  have h2:=cell _ hz
  dsimp only at e h1 h2
  have hf:(k == NameKind.free)=false:=by simpa using h1
  rw[hf]at e
  simp only[HZ,Gb,if_false]at e
  subst e
  exact(hk.elim h2 h1).elim
 frk:=fun p hp=>nomatch hp
theorem bI.one{X:Cx}{scope:Scope}{x y:Str}{j:Nat}(clos:closureFor scope X.env=pure (clOf X.env [(y,j)]))(cell:∀ y∈scope.names,y.2≠.cell)(kind:scope.kind=.function)(names:∀ y∈scope.names,y.2=.local->scope.names.lookup y.1=some .local)
  (hx:scope.names.lookup x=some .local) (nd:([x,y]:List Str).Nodup) (hN:X.N[j]?=some y) (hk:X.env.kindOf y=some .cell) (nf:∀ z∈scope.names,z.2=.free->z.1=y) (hr:(relabel scope X.env).names.lookup y=some .cell):bI X scope [(y,j)] x where
 clos:=clos
 cell:=cell
 kind:=kind
 names:=names
 xl:=hx
 nd:=nd
 slot:=fun p hp=>by
  have e:p=(y,j):=by simpa using hp
  subst e
  exact⟨hN,hk⟩
 has:=fun z hz hk=>by
  obtain⟨⟨n,k⟩,hm,e⟩:=FW.mp (show z∈scope.names.map _ from hz)
  have h2:=cell _ hm
  dsimp only at e h2
  have hn:z.1=n:=by rw[← e];split<;>rfl
  have hf:k=.free:=by
   by_cases q:k=.free
   ·exact q
   ·have hb:(k == NameKind.free)=false:=by simpa using q
    rw[hb]at e
    simp only[HZ,Gb,if_false]at e
    subst e
    exact(hk.elim h2 q).elim
  have:=nf _ hm hf
  rw[hn]
  simp[← this]
 frk:=fun p hp=>by
  have e:p=(y,j):=by simpa using hp
  subst e
  exact hr
theorem eU{env:Env}:∀{fr:List (Str×Nat)}{y:Str}{c:Addr},(clOf env fr).lookup y=some c->y∈fr.map (·.1)/\c=(env.cells.lookup y).getD 0
 |[],_,_,h=>by cases h
 |p::r,y,c,h=>by
  unfold clOf at h
  rw[FX,List.lookup_cons]at h
  cases e:y == p.1 with
  |true =>
   rw[e]at h
   have ey:y=p.1:=eq_of_beq e
   cases h
   exact⟨by rw[ey];exact Fi,by rw[ey]⟩
  |false =>
   rw[e]at h
   obtain⟨a,b⟩:=eU (env:=env) (fr:=r) h
   exact⟨Fh _ a,b⟩
theorem bF{env:Env}:∀{fr:List (Str×Nat)}{y:Str},y∈fr.map (·.1)->(clOf env fr).lookup y=some ((env.cells.lookup y).getD 0)
 |[],_,h=>by cases h
 |p::r,y,h=>by
  unfold clOf
  rw[FX,List.lookup_cons]
  cases e:y == p.1 with
  |true =>
   have ey:y=p.1:=eq_of_beq e
   rw[ey]
  |false =>
   have ny:y≠p.1:=fun z=>by rw[z]at e;simp at e
   rcases Fb.mp h with z | z
   ·exact absurd z ny
   ·exact bF (env:=env) (fr:=r) z
section
variable{X:Cx}{pins:List (Addr×Obj)}{σ:St}{H:Hp}{s:Shared}{scope:Scope}{fr:List (Str×Nat)}{x:Str}
theorem bI.cells(O:bI X scope fr x)(I:Inv X pins σ H s){y:Str}{c:Addr}(h:(clOf X.env fr).lookup y=some c):X.env.cells.lookup y=some c:=by
 obtain⟨hm,e⟩:=eU h
 obtain⟨p,hp,ep⟩:=FW.mp hm
 have k:=(O.slot p hp).2
 rw[ep]at k
 obtain⟨c',e'⟩:=I.ok.has y (.inl k)
 rw[e']at e
 rw[e',e]
 rfl
theorem CY{fp:List Addr}(O:bI X scope fr x)(I:Inv X pins σ H s)(hf:∀ b∈fp,FpOk X pins H b)(hfs:∀ b∈fp,b<s.heap.objs.size){g h':Heap}{tk:Nat}(hg:g=s.heap.push (LCg.lst []))
  (hk:∀ b o,g.get? b=some o->h'.get? b=some o) (hC:h'.Ns g.objs.size fun _=>none) :
  Inv (c8 X scope fr x g.objs.size (s.heap.objs.size::fp) { s with heap:=g } H) (X.pn++pins++[(s.heap.objs.size,LCg.lst [])]) (none::frOf fr σ) H { s with heap:=h',toks:=tk }:=by
 have hsz:g.objs.size=s.heap.objs.size+1:=by rw[hg,Heap.size_push]
 have kp:∀ b o,s.heap.get? b=some o->g.get? b=some o:=fun b o e=>by rw[hg];exact Heap.get?_push_of_some _ e
 have hk0:∀ b o,s.heap.get? b=some o->h'.get? b=some o:=fun b o e=>hk b o (kp b o e)
 have hDo:h'.get? s.heap.objs.size=some (LCg.lst []):=hk _ _ (by rw[hg];exact Heap.get?_push_size _ rfl)
 have neC:∀ b,b<s.heap.objs.size->b≠g.objs.size:=fun b e=>by rw[hsz];exact FG (G4 e)
 have hDC:s.heap.objs.size≠g.objs.size:=by rw[hsz];exact FG (GQ _)
 have hfr:H g.objs.size=none:=I.hok.fresh (by rw[hsz];exact Ha _)
 have hfD:H s.heap.objs.size=none:=I.hok.fresh (Ff _)
 have cne:∀ y c,X.env.cells.lookup y=some c->c<s.heap.objs.size:=fun y c e=>by
  obtain⟨v,q⟩:=I.cell y c e
  exact q.lt
 have nst:∀ b,b≠X.env.locals->b∉X.fs->b∉frs X.stack:=fun b h1 h2 z=>(Fb.mp (I.stkSub b z)).elim h1 h2
 have nstD:s.heap.objs.size∉frs X.stack:=nst _ (GZ I.lt) (I.nofs (Ff _))
 refine⟨⟨I.ok.mod,O.kind,I.ok.glob,I.ok.blt,Ff _,?_,?_,fun _ _ z _=>(by cases z),I.ok.hd,I.ok.frames,.inl rfl,?_,?_,?_,?_,?_,?_,I.stkFree⟩,rfl,I.bare,Un.kept hk,?_,?_,hfr,?_,?_,I.hok.kept hk0,?_⟩
 ·intro y z c h1 h2
  exact I.ok.inj y z c (O.cells I h1) (O.cells I h2)
 ·intro y hy
  have hm:y∈fr.map (·.1):=by
   rcases hy with hy | hy
   ·exact O.has (y,_) (Gd hy) (.inl rfl)
   ·exact O.has (y,_) (Gd hy) (.inr rfl)
  exact⟨_,bF hm⟩
 ·intro b hb
  rcases Fb.mp hb with rfl | hb
  ·exact⟨hDC,fun y c e=>FG (cne y c (O.cells I e))⟩
  ·exact⟨neC b (hfs b hb),fun y c e=>(hf b hb).2.2.2.2.1 y c (O.cells I e)⟩
 ·intro b o e
  exact⟨kp b o (I.bs b o e).1,(I.bs b o e).2⟩
 ·show X.base.objs.size<=g.objs.size
  rw[hsz]
  exact Nat.le_succ_of_le (F4 I.ok.bsz I.sz)
 ·intro b o e hb
  rcases Fb.mp hb with z | hb
  ·have:=Heap.lt_size (I.bs b o e).1
   rw[z]at this
   exact F9 _ this
  ·rcases(hf b hb).2.2.2.1 with z | z
   ·exact I.ok.noex b o e z
   ·exact absurd (FP (Heap.lt_size (I.ok.bs b o e).1) z) (F9 _)
 ·intro b hb
  rcases Fb.mp hb with z | hb
  ·rw[z];exact nstD
  ·exact nst b (hf b hb).2.1 (hf b hb).2.2.1
 ·exact(I.kept (h':=g) (t':=s.toks) kp).stack
 ·refine⟨_,hC,fun i y v e1 e2 e3=>?_⟩
  cases i with
  |zero=>cases e2
  |succ k =>
   have e1':(fr.map (·.1))[k]?=some y:=e1
   have e2':(frOf fr σ)[k]?=some (some v):=e2
   unfold frOf at e2'
   rw[Fg]at e1' e2'
   cases q:fr[k]? with
   |none=>rw[q]at e1';cases e1'
   |some p =>
    rw[q]at e1' e2'
    have ey:p.1=y:=Fu e1'
    have ev:(σ[p.2]?).join=some v:=Fu e2'
    have hp:p∈fr:=E7 q
    obtain⟨hN,hK⟩:=O.slot p hp
    have hkk:=O.frk p hp
    rw[ey]at hN hK hkk
    have ev':σ[p.2]?=some (some v):=by
     cases q2:σ[p.2]? with
     |none=>rw[q2]at ev;cases ev
     |some w=>rw[q2]at ev;exact congrArg some ev
    obtain⟨m,hn,hl⟩:=I.loc
    obtain⟨u,r,l⟩:=hl p.2 y v hN ev' (.inr (.inl hK))
    refine⟨u,r,?_⟩
    rcases l with⟨k1,_⟩ | ⟨_,c,ec,z⟩
    ·rw[hK]at k1;cases k1
    ·have hm:y∈fr.map (·.1):=by rw[← ey];exact FW.mpr ⟨p,hp,rfl⟩
     have el:=bF (env:=X.env) hm
     rw[ec]at el
     exact .inr ⟨.inl hkk,c,el,by obtain⟨o,ho,hd⟩:=z;exact⟨o,hk0 _ _ ho,hd⟩⟩
 ·intro y c e
  obtain⟨v,o,ho,hd⟩:=I.cell y c (O.cells I e)
  exact⟨v,o,hk0 _ _ ho,hd⟩
 ·intro y c e
  exact I.freeC y c (O.cells I e)
 ·intro p hp
  rcases Fe.mp hp with hp | hp
  ·cases hp
  ·rcases Fe.mp hp with hp | hp
   ·obtain⟨e,n,ne,nf,d⟩:=I.pin p hp
    exact⟨hk0 _ _ e,n,neC _ (Heap.lt_size e),nst _ ne nf,d⟩
   ·have ep:p=(s.heap.objs.size,LCg.lst []):=by simpa using hp
    subst ep
    exact⟨hDo,hfD,hDC,nstD,fun v z=>by cases z⟩
 ·show(none::frOf fr σ).length=(x::fr.map (·.1)).length
  unfold frOf
  simp
theorem tI{fp:List Addr}{g:Heap}{s':Shared}{H':Hp}{σ':St}{ys:List V}{us:List Value}(I:Inv X pins σ H s)(hf:∀ b∈fp,FpOk X pins H b)(hg:g=s.heap.push (LCg.lst []))
  (J:Inv (c8 X scope fr x g.objs.size (s.heap.objs.size::fp) { s with heap:=g } H) (X.pn++pins++[(s.heap.objs.size,LCg.lst us)]) σ' H' s') (hv:Vals ys us) (hl:ys.length<=sizeLine) :
  Inv X pins σ (upd H' s.heap.objs.size (.lst ys)) s'/\H' s.heap.objs.size=none/\FpOk X pins (upd H' s.heap.objs.size (.lst ys)) g.objs.size/\∃ m,s'.heap.Ns g.objs.size m:=by
 have hsz:g.objs.size=s.heap.objs.size+1:=by rw[hg,Heap.size_push]
 have kp:∀ b o,s.heap.get? b=some o->g.get? b=some o:=fun b o e=>by rw[hg];exact Heap.get?_push_of_some _ e
 obtain⟨eD,nD,_,_,_⟩:=J.pin (s.heap.objs.size,LCg.lst us) (by simp)
 have hDC:g.objs.size≠s.heap.objs.size:=by rw[hsz];exact GZ (GQ _)
 have nD':∀ b u,H' b=some u->b≠s.heap.objs.size:=fun b u e z=>by rw[z]at e;rw[e]at nD;cases nD
 have hx:∀ b o,s.heap.get? b=some o->b∉fp->b∉s.heap.objs.size::fp:=fun b o e hb z=>by
  rcases Fb.mp z with z | z
  ·have:=Heap.lt_size e
   rw[z]at this
   exact F9 _ this
  ·exact hb z
 have bU:Un (frs X.stack) (s.heap.objs.size::fp) H H' g s'.heap:=J.base
 have ltD:∀ b o,s.heap.get? b=some o->b≠s.heap.objs.size:=fun b o e=>FG (Heap.lt_size e)
 have un:Un (frs X.stack) fp H (upd H' s.heap.objs.size (.lst ys)) s.heap s'.heap:=by
  refine⟨fun b o e n hb he=>bU.keep b o (kp b o e) n hb (hx b o e he),fun b o e n hb he=>bU.slot b o (kp b o e) n hb (hx b o e he),fun b o e n he=>?_,fun b o e he=>bU.there b o (kp b o e) (hx b o e he),fun b xs e=>?_,fun b o u e=>?_,fun b ps e=>?_⟩
  ·rw[ai (ltD b o e)];exact bU.free b o (kp b o e) n (hx b o e he)
  ·have q:=bU.tups b xs e
   rw[ai (nD' b _ q)];exact q
  ·have q:=bU.frzs b o u e
   rw[ai (nD' b _ q)];exact q
  ·obtain⟨more,q⟩:=bU.tbls b ps e
   exact⟨more,by rw[ai (nD' b _ q)];exact q⟩
 have hok:HOk X.prog X.w (upd H' s.heap.objs.size (.lst ys)) s'.heap:=fun b u e=>by
  by_cases hb:b=s.heap.objs.size
  ·rw[hb,ae]at e
   cases e
   rw[hb]
   exact⟨hl,us,us.length,hv,eD⟩
  ·rw[ai hb]at e
   exact(J.hok b u e).stay (fun c v _ q=>q) (fun c q=>by rw[ai (nD' c _ q)];exact q) fun c xs q=>by rw[ai (nD' c _ q)];exact q
 have os:s'.os=s.os:=J.os
 refine⟨I.call' os un hok J.bare fun b hb=>⟨(hf b hb).2.2.2.1,(hf b hb).2.1,(hf b hb).2.2.2.2⟩,nD,?_,?_⟩
 ·refine I.fpOk (H':=upd H' s.heap.objs.size (.lst ys)) (b:=g.objs.size) (by rw[hsz];exact Ha _) ?_
  rw[ai hDC]
  exact J.free
 ·obtain⟨m,hn,_⟩:=J.loc
  exact⟨m,hn⟩
end
def rA(te:TE)(fv:St)(J:It)(H1:Hp)(QQ:List V->Hp->Prop):Prop :=
 ∃ W:Nat->Nat->List V->Hp->Prop,(∃ m,W 0 m [] H1)/\∀ i m ys H,W i m ys H->ys.length<=sizeLine /\
  ((J.stop i H/\QQ ys H)∨(J.go i H/\∃ N:V->Hp->Prop,(∀ y H2,N y H2->∃ m',m'<m/\W (i+1) m' (ys++[y]) H2)/\∀ x H',J.yld i H x H'->te (some x::fv) H' N))
section
variable{X:Cx}{scope:Scope}{fr:List (Str×Nat)}{x:Str}{elt iter:Expr}{px pos:Pos}{te:TE}{wi:TI}
theorem uf{pins:List (Addr×Obj)}{σ:St}{H:Hp}{s:Shared}{E:Value->Shared->Prop}{it:Addr}{fp:List Addr}{tn:Nat->Heap->Prop}{J:It}{RR:Value->Addr->Result->Shared->Prop}{QQ:List V->Hp->Prop}(hc:X.calm=true)(O:bI X scope fr x)
  (he:∀ C ex s H,PE (c8 X scope fr x C ex s H) elt te) (I:Inv X pins σ H s) (T:Turn X.prog X.w X.K (.Name x px) J fp it tn) (st:tn 0 s.heap) (hf:∀ b∈fp,FpOk X pins H b) (hq:rA te (frOf fr σ) J H QQ)
  (fin:∀ D C H4 ys s4 m,Inv X pins σ (upd H4 D (.lst ys)) s4->H4 D=none->FpOk X pins (upd H4 D (.lst ys)) C->s4.heap.Ns C m->QQ ys H4->RR (.ref D) C (.ok .next) s4) :
  wpAny (model X.prog X.w) X.A (newList []) (fun acc s₃=>wpAny (model X.prog X.w) X.A (newFunctionEnv scope X.env.globals (clOf X.env fr) [] X.env.qual none .none (some X.env)) (fun cenv s₄ =>
   codeAny (model X.prog X.w) X.A (.compStart (.ListComp elt [⟨.Name x px,iter,[],0⟩] scope pos) 0 (.ref it) acc { cenv with scope:=relabel scope X.env }) (RR acc cenv.locals) s₄) E s₃) E s:=by
 obtain⟨W,⟨m0,w0⟩,turn⟩:=hq
 have hfs:∀ b∈fp,b<s.heap.objs.size:=fun b hb=>by
  obtain⟨o,e,_⟩:=T.obj 0 s.heap st b hb
  exact Heap.lt_size e
 refine wpAny_newObj_type (wpAny_newFunctionEnv O.cell (by intro y hy;simp at hy) (fun h₁ hns₁ hsb₁=>?_) O.kind)
 dsimp only at hns₁ hsb₁ ⊢
 generalize hH2:s.heap.push { cls:=.type "list",dict:=none,data:=.seq ([]:List Value).toArray }=g at hns₁ hsb₁ ⊢
 have hg:g=s.heap.push (LCg.lst []):=hH2.symm
 have hsz:g.objs.size=s.heap.objs.size+1:=by rw[hg,Heap.size_push]
 have hk:∀ b o,g.get? b=some o->h₁.get? b=some o:=fun b o e=>hsb₁.extBut b o (FG (Heap.lt_size e)) (Heap.get?_push_of_some _ e)
 have kp:∀ b o,s.heap.get? b=some o->h₁.get? b=some o:=fun b o e=>hk b o (by rw[hg];exact Heap.get?_push_of_some _ e)
 have J0:=CY (h':=h₁) (tk:=s.toks+([]:List (Str×Value)).length) O I hf hfs hg hk hns₁
 have stat:∀{H':Hp}{us:List Value},(∀ b∈fp,H' b=none)->∀ b∈fp,FpOk (c8 X scope fr x g.objs.size (s.heap.objs.size::fp) { s with heap:=g } H) (X.pn++pins++[(s.heap.objs.size,LCg.lst us)]) H' b:=fun{H' us} hn b hb=>by
  obtain⟨_,f1,f2,f3,f4,f5⟩:=hf b hb
  refine⟨hn b hb,?_,fun z=>(Fb.mp (I.stkSub b z)).elim f1 f2,.inl (Fh _ hb),fun y c e=>f4 y c (O.cells I e),fun p hp=>?_⟩
  ·show b≠g.objs.size
   rw[hsz];exact FG (G4 (hfs b hb))
  ·rcases Fe.mp hp with hp | hp
   ·cases hp
   ·rcases Fe.mp hp with hp | hp
    ·exact f5 p hp
    ·have ep:p=(s.heap.objs.size,LCg.lst us):=by simpa using hp
     rw[ep]
     exact GZ (hfs b hb)
 have loop:codeAny (model X.prog X.w) X.A (.compLoop (.ListComp elt [⟨.Name x px,iter,[],0⟩] scope pos) 0 (.ref it) (.ref s.heap.objs.size) (compEnvC scope (clOf X.env fr) g.objs.size X.env))
   (RR (.ref s.heap.objs.size) g.objs.size) { s with heap:=h₁,toks:=s.toks+([]:List (Str×Value)).length }:=by
  refine codeAny_compLoop_tests (fun n s'=>∃ i ys us H',Inv (c8 X scope fr x g.objs.size (s.heap.objs.size::fp) { s with heap:=g } H) (X.pn++pins++[(s.heap.objs.size,LCg.lst us)]) (none::frOf fr σ) H' s'/\Vals ys us/\tn i s'.heap/\(∀ b∈fp,H' b=none)/\W i n ys H') ?_ m0
   ⟨0,[],[],H,J0,.nil,T.keep 0 s.heap h₁ st fun b _ o e=>kp b o e,fun b hb=>(hf b hb).1,w0⟩
  rintro n s3 ⟨i,ys,us,H3,J3,hv,st3,fr3,w3⟩
  obtain⟨hlen,hh⟩:=turn i n ys H3 w3
  have none_err:∀{α:Type}{t:Sem α}{Q:α->Shared->Prop}{E':Value->Shared->Prop}{s:Shared},wpAny (model X.prog X.w) X.A t Q (fun _ _=>False) s->wpAny (model X.prog X.w) X.A t Q E' s:=fun h=>wpAny_mono h (fun _ _ q=>q) fun _ _ z=>z.elim
  rcases hh with⟨stop,qn⟩ | ⟨go,N,hN,step⟩
  ·refine none_err (thn (T.done (c8 X scope fr x g.objs.size (s.heap.objs.size::fp) { s with heap:=g } H) rfl rfl rfl hc i _ s3 _ H3 _ J3 (stat fr3) st3 stop) fun r s4 ⟨hr,J4⟩=>?_)
   subst hr
   obtain⟨I4,nD,fC,m,hn⟩:=tI I hf hg J4 hv hlen
   exact fin _ _ H3 ys s4 m I4 nD fC hn qn
  ·refine none_err (thn (T.item (c8 X scope fr x g.objs.size (s.heap.objs.size::fp) { s with heap:=g } H) rfl rfl rfl hc i _ s3 _ H3 _ J3 (stat fr3) st3 go) fun r s4 ⟨u,hr,h4⟩=>?_)
   subst hr
   have h4':=wpAny_bind (f:=fun _=>assign (.Name x px) (compEnvC scope (clOf X.env fr) g.objs.size X.env) u) (thn h4 (Q':=fun _ s5=>wpAny (model X.prog X.w) X.A (assign (.Name x px) (compEnvC scope (clOf X.env fr) g.objs.size X.env) u) (fun _ s6=>∃(σ6:St)(H6:Hp)(v:V)(s5':Shared)(H5:Hp),Inv (c8 X scope fr x g.objs.size (s.heap.objs.size::fp) { s with heap:=g } H) (X.pn++pins++[(s.heap.objs.size,LCg.lst us)]++sf fp s5'.heap) σ6 H6 s6/\σ6=some v::frOf fr σ/\H6=H5/\J.yld i H3 v H5/\tn (i+1) s5'.heap) (fun _ _=>False) s5) fun _ s5 ⟨v,H5,J5,r5,y5,st5,fr5⟩=>by
    have J5':=J5.pinned (stat fr5) (T.obj _ _ st5)
    have hNd:(c8 X scope fr x g.objs.size (s.heap.objs.size::fp) { s with heap:=g } H).N.Nodup:=O.nd
    have hxl:(c8 X scope fr x g.objs.size (s.heap.objs.size::fp) { s with heap:=g } H).env.scope.names.lookup x=some .local:=lookup_relabel_local O.xl
    exact thn (aX (X:=c8 X scope fr x g.objs.size (s.heap.objs.size::fp) { s with heap:=g } H) (i:=0) hNd rfl (.inl hxl) (.inr hxl) _ s5 _ H5 v u (fun σ6 H6=>σ6=some v::frOf fr σ/\H6=H5) J5' r5 ⟨rfl,rfl⟩) fun _ s6 ⟨σ6,H6,J6,e6,e7⟩=>⟨σ6,H6,v,s5,H5,J6,e6,e7,y5,st5⟩)
   refine none_err (thn h4' fun _ s6 ⟨σ6,H6,v,s5,H5,J6,e6,e7,y5,st5⟩=>?_)
   subst e6 e7
   refine wpAny_tests_nil ?_
   rw[if_pos rfl]
   refine none_err (thn (he _ _ _ _ _ s6 _ H6 _ J6 (step v H6 y5)) fun u7 s7 ⟨v7,H7,J7,r7,q7⟩=>?_)
   obtain⟨m',hm,w7⟩:=hN v7 H7 q7
   obtain⟨eD,nD,dC,dF,dd⟩:=J7.pin (s.heap.objs.size,LCg.lst us) (Fm _ (FD _ (Fm _ (by simp))))
   have hvl:=hv.length
   refine append_at (hsz:=by show us.toArray.size<=sizeLine;rw[FE,← hvl];exact hlen) eD fun h8 hs8 hD8=>?_
   have pinD:∀ p∈X.pn++pins,p.1≠s.heap.objs.size:=fun p hp z=>by
    have:=Heap.lt_size (I.pin p hp).1
    rw[z]at this
    exact F9 _ this
   have J7a:Inv (c8 X scope fr x g.objs.size (s.heap.objs.size::fp) { s with heap:=g } H) (X.pn++pins) _ H7 s7:=J7.pins_of fun p hp=>J7.pin p (Fm _ (FD _ (FD _ hp)))
   have J8:Inv (c8 X scope fr x g.objs.size (s.heap.objs.size::fp) { s with heap:=g } H) (X.pn++pins) _ H7 { s7 with heap:=h8 }:=J7a.turned (t':=s7.toks) (fun b o hb e=>(hs8.2 b hb).trans e) nD dC (.inl Fi) (fun y c e z=>by
    obtain⟨w',q⟩:=I.cell y c (O.cells I e)
    have:=q.lt
    rw[z]at this
    exact F9 _ this) (fun p hp=>(Fe.mp hp).elim (fun z=>by cases z) (pinD p))
   have J9:Inv (c8 X scope fr x g.objs.size (s.heap.objs.size::fp) { s with heap:=g } H) (X.pn++pins++[(s.heap.objs.size,LCg.lst (us++[u7]))]) _ H7 { s7 with heap:=h8 }:=J8.pins_of fun p hp=>by
    rcases Fe.mp hp with hp | hp
    ·exact J8.pin p (Fm _ hp)
    ·have ep:p=(s.heap.objs.size,LCg.lst (us++[u7])):=by simpa using hp
     subst ep
     exact⟨hD8.trans (congrArg some (LCg.lst_snoc us u7)),nD,dC,dF,fun v z=>by cases z⟩
   have J10:=J9.weak (σ':=none::frOf fr σ) rfl fun i v e=>by
    cases i with
    |zero=>cases e
    |succ k=>exact e
   have pinF:∀ b∈fp,∀ o,s5.heap.get? b=some o->s7.heap.get? b=some o/\H7 b=none:=fun b hb o e=>by
    obtain⟨q1,q2,_⟩:=J7.pin (b,o) (Fm _ (Fm _ (fq hb e)))
    exact⟨q1,q2⟩
   refine⟨m',hm,i+1,ys++[v7],us++[u7],H7,J10,hv.append (.cons r7 .nil),T.keep _ _ _ st5 fun b hb o e=>(hs8.2 b (FG (hfs b hb))).trans (pinF b hb o e).1,fun b hb=>?_,w7⟩
   obtain⟨o,e,_⟩:=T.obj _ _ st5 b hb
   exact(pinF b hb o e).2
 exact codeAny_compStart_list loop (T.self X.A 0 _ _ _ (T.keep 0 s.heap h₁ st fun b _ o e=>kp b o e) loop)
def tComp(wi:TI)(te:TE)(fr:List (Str×Nat)):TE:=fun σ H Q=>wi σ H fun J H1=>rA te (frOf fr σ) J H1 fun ys H2=>∀ D,H2 D=none->Q (.ref D) (upd H2 D (.lst ys))
theorem eR(hc:X.calm=true)(O:bI X scope fr x)(hi:PI X (.Name x px) iter wi)(he:∀ C ex s H,PE (c8 X scope fr x C ex s H) elt te)(hs:∀ x,foldedSetIterable iter X.env x=pure x:=by intro _;rfl) :
  PE X (.ListComp elt [⟨.Name x px,iter,[],0⟩] scope pos) (tComp wi te fr):=by
 intro pins s σ H Q I h
 rw[eval_ListComp]
 refine wpAny_comprehension_free (use:=none) rfl hs O.clos O.kind O.names (thn (hi pins s σ H _ I h) fun xv s1 h1=>thn h1 fun itv s2 h2=>?_)
 obtain⟨it,fp,tn,J,H2,e,I2,T,st2,f2,q2⟩:=h2
 subst e
 refine uf (RR:=fun acc C=>compPost (model X.prog X.w) X.A X.xe none (EP X pins σ Q) acc C) hc O he I2 T st2 f2 q2 ?_
 intro D C H4 ys s4 m I4 nD fC hn q4
 refine⟨m,hn,fun h' hs'=>?_⟩
 obtain⟨g0,g1,g2,g3,g4,g5⟩:=fC
 exact⟨.ref D,_,I4.turned (t':=s4.toks) (fun b o hb e=>(hs'.2 b hb).trans e) g0 g1 g3 g4 g5,rfl,q4 D nD⟩
def B6(i:Nat)(wi:TI)(te:TE)(fr:List (Str×Nat)):TS:=fun D σ H=>wi σ H fun J H1=>rA te (frOf fr σ) J H1 fun ys H2=>∀ a,H2 a=none->D.nx (σ.set i (some (.ref a))) (upd H2 a (.lst ys))
theorem jX{i:Nat}{y:Str}{py spos:Pos}(hc:X.calm=true)(hN:X.N.Nodup)(hi':X.N[i]?=some y)(hy:X.env.scope.names.lookup y=some .local)(O:bI X scope fr x)(hi:PI X (.Name x px) iter wi)(he:∀ C ex s H,PE (c8 X scope fr x C ex s H) elt te)
  (hsw:swapsWith (.ListComp elt [⟨.Name x px,iter,[],0⟩] scope pos) (some (.Name y py)) spos.line X.env=pure true:=by rfl) (hs:∀ x,foldedSetIterable iter X.env x=pure x:=by intro _;rfl) :
  PS X (.Assign [.Name y py] (.ListComp elt [⟨.Name x px,iter,[],0⟩] scope pos) spos) (B6 i wi te fr):=by
 intro pins s σ H D I h
 rw[exec_Assign_Name_used _ _ _ _ hsw]
 refine wpAny_bind (wpAny_standAt (wpAny_bind ?_))
 show wpAny _ X.A (do let _ ← comprehension (.ListComp elt [⟨.Name x px,iter,[],0⟩] scope pos) scope X.env _ (newList []) false (eval iter X.env) (some (assign (.Name y py) X.env))) _ _ s
 refine wpAny_bind (thn (wpAny_comprehension_free (use:=some (assign (.Name y py) X.env)) (Q:=fun _ s'=>SP X pins D .next s') rfl hs O.clos O.kind O.names (thn (hi pins s σ H _ I h) fun xv s1 h1=>thn h1 fun itv s2 h2=>?_)) fun _ s' hq=>wpAny_pure (wpAny_pure hq))
 obtain⟨it,fp,tn,J,H2,e,I2,T,st2,f2,q2⟩:=h2
 subst e
 refine uf (RR:=fun acc C=>compPost (model X.prog X.w) X.A X.xe (some (assign (.Name y py) X.env)) (fun _ s'=>SP X pins D .next s') acc C) hc O he I2 T st2 f2 q2 ?_
 intro a C H4 ys s4 m I4 nD fC hn q4
 obtain⟨g0,g1,g2,g3,g4,g5⟩:=fC
 obtain⟨oC,eC,hoC⟩:=LCg.ns_obj hn
 have I5:Inv X (pins++[(C,oC)]) σ (upd H4 a (.lst ys)) s4:=I4.pins_of fun p hp=>by
  rcases Fe.mp hp with hp | hp
  ·exact I4.pin p (Fm _ hp)
  ·have ep:p=(C,oC):=by simpa using hp
   subst ep
   obtain⟨es,epp,hd,_⟩:=hoC
   exact⟨eC,g0,g1,g2,fun v z=>by rw[hd]at z;cases z⟩
 show wpAny _ X.A (assign (.Name y py) X.env (.ref a)) _ _ _
 refine wpAny_assign_Name (oP I5 hN hi' (.inl hy) (v:=.ref a) rfl (fun s6 I6=>?_) (.inr hy))
 obtain⟨e6,_⟩:=I6.pin (C,oC) (Fm _ (Fm _ (by simp)))
 refine⟨m,hoC.ns e6,fun h' hs'=>?_⟩
 exact⟨_,_,I6.unpinned.turned (t':=s6.toks) (fun b o hb e=>(hs'.2 b hb).trans e) g0 g1 g3 g4 g5,q4 a nD⟩
end
theorem cW{K:E6}{a:Addr}{xs:List V}{te:TE}{fv:St}{H1:Hp}{QQ:List V->Hp->Prop}(Pv:Nat->List V->Hp->Prop)(hz:xs.length<=sizeLine)(h0:Pv 0 [] H1)(hl:∀ i ys H,i<=xs.length->Pv i ys H->SqL K H a xs)
  (hs:∀ i x ys H,xs[i]?=some x->Pv i ys H->te (some x::fv) H fun y H2=>Pv (i+1) (ys++[y]) H2) (hd:∀ ys H,ys.length=xs.length->Pv xs.length ys H->QQ ys H)
  : rA te fv (Itl K a) H1 QQ:=by
 refine⟨fun i m ys H=>m=xs.length-i/\i<=xs.length/\ys.length=i/\Pv i ys H,⟨xs.length,by simp,Ge _,rfl,h0⟩,?_⟩
 rintro i m ys H ⟨rfl,hi,hy,p⟩
 have q:=hl i ys H hi p
 refine⟨by omega,?_⟩
 by_cases hlt:i<xs.length
 ·refine .inr ⟨⟨xs,xs[i],q,by simp[hlt]⟩,fun y H2=>Pv (i+1) (ys++[y]) H2,fun y H2 p2=>⟨xs.length-(i+1),by omega,rfl,hlt,by rw[E5,hy];rfl,p2⟩,fun x H' y=>?_⟩
  obtain⟨e,y⟩:=y
  subst e
  exact hs i x ys _ (y xs q) p
 ·have e:i=xs.length:=by omega
  subst e
  exact .inl ⟨⟨xs,q,Ff _⟩,hd ys H hy p⟩
theorem fx{lo:Int}{n:Nat}{te:TE}{fv:St}{H1:Hp}{QQ:List V->Hp->Prop}(Pv:Nat->List V->Hp->Prop)(hz:n<=sizeLine)(h0:Pv 0 [] H1)
  (hs:∀ i ys H,i<n->Pv i ys H->te (some (.int (lo+i))::fv) H fun y H2=>Pv (i+1) (ys++[y]) H2) (hd:∀ ys H,ys.length=n->Pv n ys H->QQ ys H)
  : rA te fv (Itr lo n) H1 QQ:=by
 refine⟨fun i m ys H=>m=n-i/\i<=n/\ys.length=i/\Pv i ys H,⟨n,by simp,Ge _,rfl,h0⟩,?_⟩
 rintro i m ys H ⟨rfl,hi,hy,p⟩
 refine⟨by omega,?_⟩
 by_cases hlt:i<n
 ·refine .inr ⟨hlt,fun y H2=>Pv (i+1) (ys++[y]) H2,fun y H2 p2=>⟨n-(i+1),by omega,rfl,hlt,by rw[E5,hy];rfl,p2⟩,fun x H' y=>?_⟩
  obtain⟨e,y⟩:=y
  subst e y
  exact hs i ys _ hlt p
 ·have e:i=n:=by omega
  subst e
  exact .inl ⟨Ff _,hd ys H hy p⟩
end L2
namespace L2
open PySem PySem.Spec PyProof.Rows
theorem bt_int:bootBuiltins "int" = some (.type "int"):=by decide +kernel
theorem EU:bootBuiltins "bool" = some (.type "bool"):=by decide +kernel
theorem ku:bootBuiltins "list" = some (.type "list"):=by decide +kernel
theorem aU:bootBuiltins "len" = some (.builtin "len"):=by decide +kernel
theorem gk:bootBuiltins "isinstance" = some (.builtin "isinstance"):=by decide +kernel
theorem uh:bootBuiltins "sorted" = some (.builtin "sorted"):=by decide +kernel
theorem ui:bootBuiltins "enumerate" = some (.type "enumerate"):=by decide +kernel
structure Cal(P:Program)(w:World)(K:E6)(mg:Str->Option Value)(base:Heap)(k:Nat)(x:Str)(ps:List Str)(sp:Sp)(f:Addr)(fd:FuncData):Prop where
 ok:FnOk P w K mg base CX0 k f fd ps sp
 bn:jR K fd ps []
 mg:mg x=some (.ref f)
 kp:Fo K (.ref f)=true
structure Mak(P:Program)(w:World)(K:E6)(mg:Str->Option Value)(base:Heap)(k:Nat)(x:Str)(ps:List Str)(sp:Sp)(C f:Addr)(fd:FuncData):Prop where
 mkc:Mk K C f
 ok:FnOk P w K mg base CX0 k f fd ps sp
 bn:jR K fd ps []
 mg:mg x=some (.ref C)
structure Met(P:Program)(w:World)(K:E6)(mg:Str->Option Value)(base:Heap)(k:Nat)(C:Addr)(m:Str)(ps:List Str)(sp:Sp)(f:Addr)(fd:FuncData):Prop where
 me:Meth K C m f
 ok:FnOk P w K mg base CX0 k f fd ps sp
 bn:jR K fd ps []
theorem AH{X:Cx}{sts:List Stmt}{t t2:TS}(h:PSs X sts t)(i:∀ D σ H,t2 D σ H->t D σ H):PSs X sts t2:=fun pins s σ H D I q=>h pins s σ H D I (i D σ H q)
section
variable{X:Cx}
def rIsi(K:E6):List V->Hp->VK->Prop:=fun xs H Q=>∃ x c t b u,xs = [x,c]/\TyOf K H x t/\((∃ n,c=.ty n/\u=Value.type n)∨∃ a,c=.ref a/\u=Value.ref a)/\Hy K t u=some b/\Q (.bl b) H
theorem qU:nO X (.builtin "isinstance") (rIsi X.K):=by
 intro pins s σ H xs us Q I r h
 obtain⟨x,c,t,b,u,rfl,ty,hu,e,q⟩:=h
 obtain⟨v1,v2,rfl,r1,r2⟩:=vals2 r
 have e2:v2=u:=by
  rcases hu with⟨n,rfl,rfl⟩ | ⟨a,rfl,rfl⟩
  ·exact r2
  ·exact r2
 subst e2
 exact Bn I r1 ty e fun tk=>⟨.bl b,H,I.tok tk,rfl,q⟩
theorem kit_ii(K:E6):Hy K (.type "int") (.type "int")=some true:=by with_unfolding_all rfl
theorem kit_ib(K:E6):Hy K (.type "int") (.type "bool")=some false:=by with_unfolding_all rfl
theorem kit_ll(K:E6):Hy K (.type "list") (.type "list")=some true:=by with_unfolding_all rfl
end
inductive RdD(K:E6)(H:Hp):V->PyData->Prop where
 |non:RdD K H .non .none
 |bl (b:Bool):RdD K H (.bl b) (.bool b)
 |int (i:Int):RdD K H (.int i) (.int i)
 |lst {a:Addr} {xs:List V} {ds:List PyData} (h:SqL K H a xs) (hl:xs.length=ds.length) (r:∀(i:Nat)(x:V)(d:PyData),xs[i]?=some x->ds[i]?=some d->RdD K H x d):RdD K H (.ref a) (.list ds)
 |tup {a:Addr} {xs:List V} {ds:List PyData} (h:SqT K H a xs) (hl:xs.length=ds.length) (r:∀(i:Nat)(x:V)(d:PyData),xs[i]?=some x->ds[i]?=some d->RdD K H x d):RdD K H (.ref a) (.tuple ds)
theorem iL{h:Heap}:∀{xs:List V}{us:List Value}{ds:List PyData},Vals xs us->xs.length=ds.length->(∀(i:Nat) x d,xs[i]?=some x->ds[i]?=some d->∀ u,RelV x u->∃ as,Reads h u d as)->∃ as,ReadsAll h us ds as
 |_,_,[],.nil,_,_=>⟨_,.nil⟩
 |_,_,_::_,.nil,e,_=>by cases e
 |_,_,[],.cons _ _,e,_=>by cases e
 |_,_,d::ds,.cons r rr,e,k=>by
  obtain⟨a1,q1⟩:=k 0 _ d rfl rfl _ r
  obtain⟨a2,q2⟩:=iL rr (Nat.succ.inj e) fun i x d' e1 e2=>k (i+1) x d' e1 e2
  exact⟨_,.cons q1 q2⟩
section
variable{X:Cx}
theorem RdD.reads{pins:List (Addr×Obj)}{σ:St}{H:Hp}{s:Shared}(I:Inv X pins σ H s){x:V}{d:PyData}(r:RdD X.K H x d):∀ u,RelV x u->∃ as,Reads s.heap u d as:=by
 induction r with
 |non=>intro u hu;cases hu;exact⟨_,.none⟩
 |bl b=>intro u hu;cases hu;exact⟨_,.bool b⟩
 |int i=>intro u hu;obtain⟨t,rfl⟩:=hu;exact⟨_,.int i t⟩
 |lst h hl r ih =>
  intro u hu
  cases hu
  obtain⟨its,rv,p,_⟩:=I.list h
  obtain⟨as,q⟩:=iL (h:=s.heap) rv hl ih
  obtain⟨o,n,e,c,_,d⟩:=p
  exact⟨_,.list e c d (by simpa using q)⟩
 |tup h hl r ih =>
  intro u hu
  cases hu
  obtain⟨its,rv,p,_⟩:=I.tuple h
  obtain⟨as,q⟩:=iL (h:=s.heap) rv hl ih
  obtain⟨o,e,c,n,d⟩:=p
  exact⟨_,.tuple e c d (by simpa using q)⟩
def rSame(b:Bool)(K:E6):R2:=fun x y H Q=>∃ d,RdD K H x d/\RdD K H y d/\SeqAt.shaped d=true/\Q (.bl b) H
theorem op_neD(hu:X.A.units+64<cLine):OpR X (compareOp .NotEq) (rSame false X.K):=by
 intro pins s σ H x y v u Q I rx ry h
 obtain⟨d,r1,r2,hs,q⟩:=h
 obtain⟨as,q1⟩:=r1.reads I v rx
 obtain⟨bs,q2⟩:=r2.reads I u ry
 refine ne_dataH q1 q2 hs hs hu ?_
 rw[SeqAt.eqv_refl d (SeqAt.canLay_of_shaped hs)]
 exact⟨.bl false,H,I,rfl,q⟩
end
section
variable{X:Cx}{tg:Expr}
end
end L2
namespace L2
open PySem PySem.Spec PyProof.Rows
section
variable{P:Program}{w:World}{H:Hp}{h:Heap}{a:Addr}{o:HO}
theorem bM.get(x:bM P w H h a o):∃ ob,h.get? a=some ob:=by
 cases o with
 |lst xs=>obtain⟨_,_,_,_,e⟩:=x;exact⟨_,e⟩
 |tup xs=>obtain⟨_,_,_,ob,e,_⟩:=x;exact⟨_,e⟩
 |dK kvs=>obtain⟨_,_,_,_,o,_,_,e,_⟩:=x;exact⟨_,e⟩
 |dT kvs=>obtain⟨_,_,_,_,o,_,_,e,_⟩:=x;exact⟨_,e⟩
 |set S n=>obtain⟨o,_,_,_,e,_⟩:=x;exact⟨_,e⟩
 |ins C dx fs=>obtain⟨_,_,_,e,_⟩:=x;exact⟨_,e⟩
 |own y=>exact x
 |xd fs=>obtain⟨_,⟨_,_,_,e,_⟩,_⟩:=x;exact⟨_,e⟩
 |rng lo hi=>obtain⟨_,_,_,e⟩:=x;exact⟨_,e⟩
 |frz ob u=>exact⟨_,x.1⟩
 |tbl ps=>exact⟨_,(show h.get? a=some _ from x)⟩
 |met f y=>exact⟨_,(show h.get? a=some _ from x)⟩
 |ext φ=>exact x.2.1
theorem HOk.none_of(x:HOk P w H h)(e:h.get? a=none):H a=none:=by
 cases q:H a with
 |none=>rfl
 |some u =>
  obtain⟨ob,z⟩:=(x a u q).get
  rw[e]at z
  cases z
end
structure XOk(X:Cx)(pins:List (Addr×Obj))(H:Hp)(b:Addr):Prop where
 old:X.s₀.heap.get? b=none
 trk:H b=none
 nl:b≠X.env.locals
 nc:∀ x c,X.env.cells.lookup x=some c->c≠b
 np:∀ p∈X.pn++pins,p.1≠b
section
variable{X:Cx}{pins:List (Addr×Obj)}{σ:St}{H H':Hp}{s s':Shared}{b:Addr}
theorem Inv.xok(I:Inv X pins σ H s)(hx:X.ex = [])(e:s.heap.get? b=none)(n:H' b=none):XOk X pins H' b:=by
 refine⟨?_,n,fun z=>?_,fun x c q z=>?_,fun p hp z=>?_⟩
 ·cases q:X.s₀.heap.get? b with
  |none=>rfl
  |some o =>
   obtain⟨o',e'⟩:=I.base.there b o q (by rw[hx];simp)
   rw[e]at e'
   cases e'
 ·obtain⟨m,⟨o,_,_,ho,_⟩,_⟩:=I.loc
  rw[z,ho]at e
  cases e
 ·obtain⟨v,o,ho,_⟩:=I.cell x c q
  rw[z,e]at ho
  cases ho
 ·have:=(I.pin p hp).1
  rw[z,e]at this
  cases this
theorem Inv.xtrack{a:Addr}{o:HO}(I:Inv X pins σ H s)(f:XOk X pins H a)(new:bM X.prog X.w (upd H a o) s.heap a o):Inv X pins σ (upd H a o) s:=by
 have ne:∀ b u,H b=some u->b≠a:=fun b u e=>aI e f.trk
 have nb:∀ b u,s.heap.get? b=some u->b≠a->H b=none->upd H a o b=none:=fun b u _ n q=>by rw[ai n];exact q
 refine⟨I.ok,I.os,I.bare,⟨I.base.keep,I.base.slot,fun b ob e n hx=>?_,I.base.there,fun b xs e=>?_,fun b ob xs e=>?_,fun b ps e=>?_⟩,I.loc,I.cell,?_,fun x c e=>?_,fun p hp=>?_,fun b u e=>?_,I.len⟩
 ·rw[ai (fun z=>by rw[z,f.old]at e;cases e)]
  exact I.base.free b ob e n hx
 ·have:=I.base.tups b xs e
  rw[ai (ne _ _ this)]
  exact this
 ·have:=I.base.frzs b ob xs e
  rw[ai (ne _ _ this)]
  exact this
 ·obtain⟨m,q⟩:=I.base.tbls b ps e
  exact⟨m,by rw[ai (ne _ _ q)];exact q⟩
 ·rw[ai (Ne.symm f.nl)]
  exact I.free
 ·rw[ai (f.nc x c e)]
  exact I.freeC x c e
 ·obtain⟨e,n,r⟩:=I.pin p hp
  exact⟨e,by rw[ai (f.np p hp)];exact n,r⟩
 ·by_cases hb:b=a
  ·rw[hb,ae]at e
   cases e
   rw[hb]
   exact new
  ·rw[ai hb]at e
   exact(I.hok b u e).stay (fun c v _ q=>q) (fun c q=>by rw[ai (ne c _ q)];exact q) fun c xs q=>by rw[ai (ne c _ q)];exact q
end
section
variable{X:Cx}{pins:List (Addr×Obj)}{σ:St}{H:Hp}{s:Shared}{x:Addr}{C:Value}{E:Value->Shared->Prop}
end
section
variable{X:Cx}{k:Nat}{f C:Addr}{fd:FuncData}{ps:List Str}{sp:Sp}{dvs:List V}{ds:List Value}{W:WK}{x m:Str}{p pos apos:Pos}{e o:Expr}{es:List Expr}{ta:TE}{t:TA}
end
end L2
namespace L2
open PySem PySem.Spec PyProof.Rows
section
variable{X:Cx}{pins:List (Addr×Obj)}{σ:St}{H:Hp}{s:Shared}{x:Addr}{C:Value}
end
section
variable{M:Model}{A:Around}{E:Value->Shared->Prop}{h:Heap}{g:Array GenState}{d:Drawn}{t:Nat}{os:OsState}
end
section
variable{X:Cx}{pins pins':List (Addr×Obj)}{σ:St}{H:Hp}{s:Shared}{E:Value->Shared->Prop}{b:Addr}
end
section
variable{X:Cx}{k:Nat}{f:Addr}{fd:FuncData}{ps:List Str}{sp:Sp}{dvs:List V}{ds:List Value}{W:WK}{x:Str}{p pos:Pos}{e:Expr}{es:List Expr}{t:TA}
end
end L2
namespace L2
open PySem PySem.Spec PyProof.Rows
end L2
namespace L2
open PySem PySem.Spec PyProof.Rows
section
variable{prog:Program}{w:World}{A:Around}{E:Value->Shared->Prop}{s:Shared}
end
end L2
namespace L2
open PySem PySem.Spec PyProof.Rows
section
variable{prog:Program}{w:World}{A:Around}{E:Value->Shared->Prop}{s:Shared}
end
section
variable{X:Cx}
end
end L2
namespace L2
open PySem PySem.Spec PyProof.Rows
section
variable{X:Cx}
theorem sY{P:Program}{w:World}:∀{kvs:List (Key×V)}{vs:List (Key×Value)}{us:List Value},KV kvs vs->us.length=vs.length->(∀(j:Nat)(v:Value),us[j]?=some v->∃ k x,vs[j]?=some (k,x)/\(bE P w).is k v=true)->Vals (kvs.map fun q=>kV q.1) us
 |_,_,[],.nil,_,_=>.nil
 |_,_,_::_,.nil,e,_=>by cases e
 |_,_,[],.cons _ _,e,_=>by cases e
 |_,_,u::us,.cons (a:=p) (b:=q) r rr,e,k=>by
  obtain⟨kk,x,e1,e2⟩:=k 0 u rfl
  have eq:q=(kk,x):=Fu e1
  have hk:p.1=kk:=by rw[r.1,eq]
  refine .cons ?_ (sY rr (Nat.succ.inj e) fun j v ej=>k (j+1) v ej)
  show RelV (kV p.1) u
  rw[hk]
  rcases bj (show wA kk u=true from e2) with⟨i,t,rfl,rfl⟩ | ⟨z,t,rfl,rfl⟩
  ·exact⟨t,rfl⟩
  ·exact⟨t,rfl⟩
end
end L2
namespace L2
open PySem PySem.Spec PyProof.Rows
theorem Inv.turnedL{X:Cx}{pins:List (Addr×Obj)}{σ:St}{H:Hp}{s:Shared}{h':Heap}{t':Nat}{fp:List Addr}(I:Inv X pins σ H s)(k:∀ b o,b∉fp->s.heap.get? b=some o->h'.get? b=some o)(hf:∀ b∈fp,FpOk X pins H b):Inv X pins σ H { s with heap:=h',toks:=t' }:=by
 have nit:∀ b u,H b=some u->b∉fp:=fun b u e z=>by rw[(hf b z).1]at e;cases e
 refine I.step (g':=s.gens) (d':=s.drawn) (ch:=fp) (fun b hb=>?_) (fun b o _ _ hc e _=>k b o hc e) (fun b o _ _ hc e _=>⟨o.slots,k b o hc e⟩) (fun _ _ _ _ n=>n)
  (fun b o hc e=>⟨o,k b o hc e⟩) (fun _ _ e=>e) (fun _ _ _ e=>e) (fun b ps e=>⟨#[],by rw[e];simp⟩) (fun m hm=>?_) (fun b u e=>?_) I.bare
 ·obtain⟨f0,f1,f2,f3,f4,f5⟩:=hf b hb
  exact⟨f3,f1,f4,f5⟩
 ·obtain⟨o,es,ep,ho,r⟩:=hm
  exact⟨o,es,ep,k _ o (fun z=>(hf _ z).2.1 rfl) ho,r⟩
 ·refine(I.hok b u e).stay (fun c v hc q=>k c v ?_ q) (fun _ q=>q) fun _ _ q=>q
  rcases hc with z | z
  ·rw[z];exact nit b u e
  ·exact nit c _ z
def Ite(K:E6)(a:Addr):It :=
 ⟨fun i H=>∃ xs x,SqL K H a xs/\xs[i]?=some x,fun i H v H'=>∃ T x,H T=none/\v=.ref T/\H'=upd H T (.tup [.int (i:Int),x])/\∀ xs,SqL K H a xs->xs[i]?=some x,fun i H=>∃ xs,SqL K H a xs/\xs.length<=i⟩
theorem Af{P:Program}{w:World}{K:E6}{es:List Expr}{k:Nat}{pos:Pos}(a e it:Addr)(hei:e≠it):Turn P w K (.Tuple es k pos) (Ite K a) [e,it] e (fun i h=>(∃ old,IsEnum h e it ((i:Nat):Int) old)/\h.IsListIter it a i) where
 mem:=by simp
 obj:=fun i h st b hb=>by
  obtain⟨⟨old,he⟩,o,e2,c,d⟩:=st
  rcases Fb.mp hb with rfl | hb
  ·exact⟨_,he,fun v z=>by
    have z':Data.fields _=Data.cell v:=z
    cases z'⟩
  ·have e3:b=it:=by simpa using hb
   subst e3
   exact⟨o,e2,fun v z=>by rw[d]at z;cases z⟩
 keep:=fun i h h' st kk=>by
  obtain⟨⟨old,he⟩,hit⟩:=st
  exact⟨⟨old,kk e (by simp) _ he⟩,hit.at fun o q=>kk it (by simp) o q⟩
 item:=by
  intro X hP hw hK hc i pins s σ H E I hf st hg
  subst hP hw hK
  obtain⟨xs,x,hq,hx⟩:=hg
  obtain⟨its,rv,p,hz⟩:=I.list hq
  obtain⟨u,hu,ru⟩:=rv.get hx
  obtain⟨⟨old,he⟩,hit⟩:=st
  refine wpAny_pyNext_enum_item he hit p.isList (x:=u) (by simpa using hu) hei fun h' ho hit' hT hsz hk=>?_
  refine⟨_,rfl,?_⟩
  refine wpAny_letOwnedTupleGo_enum ho fun h2 he2 hs2=>?_
  have hs2':Heap.SameBut e h' h2:=hs2
  have hel:e<s.heap.objs.size:=Heap.lt_size he
  have hil:it<s.heap.objs.size:=by obtain⟨_,q,_⟩:=hit;exact Heap.lt_size q
  have hfr:H s.heap.objs.size=none:=I.hok.fresh (Ff _)
  have I0:Inv X pins σ (upd H s.heap.objs.size (.tup [.int (i:Int),x])) { s with heap:=s.heap.push { cls:=.type "tuple",data:=.seq #[.int (i:Int) s.toks,u] },toks:=s.toks+1 } :=
   I.laid (t':=s.toks+1) (fun b u e=>Heap.get?_push_of_some _ e) (Ff _) ⟨by show 2<=sizeLine;decide,[.int (i:Int) s.toks,u],.cons ⟨_,rfl⟩ (.cons ru .nil),⟨_,Heap.get?_push_size _ rfl,rfl,_,rfl⟩⟩
  have hfb:∀ b∈[e,it],b<s.heap.objs.size:=fun b hb=>by
   rcases Fb.mp hb with rfl | hb
   ·exact hel
   ·have e3:b=it:=by simpa using hb
    rw[e3];exact hil
  have hn:∀ b∈[e,it],upd H s.heap.objs.size (.tup [.int (i:Int),x]) b=none:=fun b hb=>by
   rw[ai (FG (hfb b hb))]
   exact(hf b hb).1
  have I2:Inv X pins σ (upd H s.heap.objs.size (.tup [.int (i:Int),x])) { s with heap:=h2,toks:=s.toks+1 }:=Inv.turnedL (s:={ s with heap:=s.heap.push { cls:=.type "tuple",data:=.seq #[.int (i:Int) s.toks,u] },toks:=s.toks+1 }) (h':=h2) I0 (t':=s.toks+1) (fp:=[e,it]) (fun b o hb q=>by
   have nb:b≠e:=fun z=>hb (by simp[z])
   have nb2:b≠it:=fun z=>hb (by simp[z])
   refine(hs2'.2 b nb).trans ?_
   rcases Heap.get?_push_cases q with⟨z1,z2⟩ | q
   ·rw[z1,z2];exact hT
   ·exact hk b o nb nb2 q) fun b hb=>⟨hn b hb,(hf b hb).2⟩
  refine⟨.ref s.heap.objs.size,_,I2,rfl,⟨s.heap.objs.size,x,hfr,rfl,rfl,fun ys hy=>by rw[I.list_inj hy hq];exact hx⟩,?_,hn⟩
  refine⟨⟨u,?_⟩,hit'.at fun o q=>(hs2'.2 it (Ne.symm hei)).trans q⟩
  have e4:(((i+1:Nat):Nat):Int)=(i:Int)+1:=by omega
  rw[e4]
  exact he2
 done:=by
  intro X hP hw hK hc i pins s σ H E I hf st hg
  subst hP hw hK
  obtain⟨xs,hq,hx⟩:=hg
  obtain⟨its,rv,p,hz⟩:=I.list hq
  obtain⟨⟨old,he⟩,hit⟩:=st
  have hl:=rv.length
  obtain⟨f0,f1,f2,f3,f4,f5⟩:=hf it (by simp)
  exact wpAny_pyNext_enum_end (I.ok.hd hc) he hit p.isList (by simp;omega) fun h' eb=>⟨rfl,I.turned (t':=s.toks) (fun b o hb e=>eb b o hb e) f0 f1 f3 f4 f5⟩
 self:=fun _ _ _ _ _ st h=>by
  obtain⟨⟨old,he⟩,_⟩:=st
  exact wpAny_pyIter_enum he h
section
variable{X:Cx}
def iEnum(K:E6)(ta:TA):TI:=fun σ H R=>ta σ H fun vs H1=>∃ a,vs = [.ref a]/\(∃ xs,SqL K H1 a xs)/\R (Ite K a) H1
theorem AK{l:Expr}{ta:TA}{es:List Expr}{k:Nat}{tp p pos:Pos} (hg:Gl X "enumerate") (hm:X.mg "enumerate" = none) (ha:PA X [l] ta) (hs:starEach [l] X.env = [(false,eval l X.env)]:=by rfl) :
  PI X (.Tuple es k tp) (.Call (.Name "enumerate" p) [l] [] pos) (iEnum X.K ta):=by
 intro pins s σ H R I h
 refine Call_ (sX I hg hm ui (PyProof.Rows.callWith_type1 (thn (ha pos pins s σ H _ I h) fun us s1 ⟨vs,H1,I1,r1,q1⟩=>?_) hs rfl))
 obtain⟨a,e,⟨xs,hq⟩,q⟩:=q1
 subst e
 obtain⟨u,rfl,ru⟩:=yK r1
 cases ru
 obtain⟨its,rv,p,hz⟩:=I1.list hq
 refine call_enumerate_list p.isList fun h' he hit hsz hk=>?_
 refine wpAny_pyIter_enum he ?_
 refine⟨s1.heap.objs.size+1,[s1.heap.objs.size+1,s1.heap.objs.size],_,_,H1,rfl,I1.kept (t':=s1.toks) hk,Af a _ _ (Nat.succ_ne_self _),⟨⟨_,he⟩,hit⟩,fun b hb=>?_,q⟩
 have hb':s1.heap.objs.size<=b:=by
  rcases Fb.mp hb with rfl | hb
  ·exact Ha _
  ·have e3:b=s1.heap.objs.size:=by simpa using hb
   rw[e3];exact Ff _
 exact I1.fpOk hb' (I1.hok.fresh hb')
end
theorem yx{K:E6}{a:Addr}{xs:List V}{g:TG}{tb:TS}{D:Ends}{σ:St}{H:Hp}(Pv:Nat->St->Hp->Prop)(h0:Pv 0 σ H)(hl:∀ i σ H,i<=xs.length->Pv i σ H->SqL K H a xs)
  (hs:∀ i x σ H T,xs[i]?=some x->Pv i σ H->H T=none->g (.ref T) σ (upd H T (.tup [.int (i:Int),x])) fun σ2 H2=>tb { D with nx:=Pv (i+1),ct:=Pv (i+1),bk:=D.nx } σ2 H2) (hd:∀ σ H,Pv xs.length σ H->D.nx σ H) :
  ∃ W:Nat->Nat->St->Hp->Prop,(∃ m,W 0 m σ H)/\∀ i m σ H,W i m σ H ->
   ((Ite K a).stop i H/\D.nx σ H)∨((Ite K a).go i H/\∃ N:St->Hp->Prop,(∀ σ' H',N σ' H'->∃ m',m'<m/\W (i+1) m' σ' H')/\∀ x H',(Ite K a).yld i H x H'->g x σ H' fun σ2 H2=>tb { D with nx:=N,ct:=N,bk:=D.nx } σ2 H2):=by
 refine⟨fun i m σ H=>m=xs.length-i/\i<=xs.length/\Pv i σ H,⟨xs.length,by simp,Ge _,h0⟩,?_⟩
 rintro i m σ H ⟨rfl,hi,p⟩
 have q:=hl i σ H hi p
 by_cases hlt:i<xs.length
 ·refine .inr ⟨⟨xs,xs[i],q,by simp[hlt]⟩,Pv (i+1),fun σ' H' p'=>⟨xs.length-(i+1),by omega,rfl,hlt,p'⟩,fun v H' y=>?_⟩
  obtain⟨T,x,hT,rfl,rfl,y⟩:=y
  exact hs i x σ _ T (y xs q) p hT
 ·have e:i=xs.length:=by omega
  subst e
  exact .inl ⟨⟨xs,q,Ff _⟩,hd σ H p⟩
end L2
namespace L2
open PySem PySem.Spec PyProof.Rows
section
variable{X:Cx}
end
theorem mM{n j:Nat}(h:j<n):ixN n (j:Int)=some j:=by
 unfold ixN
 rw[if_pos (by omega),if_pos (by omega)]
 rfl
end L2
namespace L2
open PySem PySem.Spec PyProof.Rows
theorem gU:∀{ds:List PyData},(∀ d∈ds,d.canLay0=true)->PyData.canLayAll0 ds=true
 |[],_=>by simp[PyData.canLayAll0]
 |d::ds,h=>by
  rw[PyData.canLayAll0,h d (by simp),gU fun x hx=>h x (by simp[hx])]
  rfl
theorem i7{n:Nat}:∀{ds:List PyData},(∀ d∈ds,d.depth<=n)->PyData.depthAll ds<=n
 |[],_=>by simp[PyData.depthAll]
 |d::ds,h=>by
  have h1:=h d (by simp)
  have h2:=i7 (ds:=ds) fun x hx=>h x (Fh _ hx)
  rw[PyData.depthAll]
  omega
theorem ma{ds:List PyData}(h:∀ d∈ds,d.canLay0=true/\d.depth<=10):SeqAt.shaped (.list ds)=true:=by
 have h1:=gU fun d hd=>(h d hd).1
 have h2:=i7 fun d hd=>(h d hd).2
 have h3:PyData.depth (.list ds)<=64:=by simp only[PyData.depth];omega
 show(PyData.canLay0 (.list ds)&&decide (PyData.depth (.list ds)<=64))=true
 rw[Bool.and_eq_true]
 exact⟨by simp only[PyData.canLay0];exact h1,decide_eq_true h3⟩
end L2
namespace L2
open PySem PySem.Spec PyProof.Rows
def cxG(X:Cx)(scope:Scope)(fr:List (Str×Nat))(xs:List Str)(C:Addr)(ex:List Addr)(s:Shared)(H:Hp):Cx where
 prog:=X.prog
 w:=X.w
 K:=X.K
 mg:=X.mg
 base:=X.base
 A:=X.A
 N:=xs++fr.map (·.1)
 s₀:=s
 H₀:=H
 env:=compEnvC scope (clOf X.env fr) C X.env
 outer:=X.stack
 stack:=X.stack
 ex:=ex
 fn:=fun _=>false
 calm:=X.calm
 pn:=[]
 xe:=fun _ _=>False
structure uM(X:Cx)(scope:Scope)(fr:List (Str×Nat))(xs:List Str):Prop where
 clos:closureFor scope X.env=pure (clOf X.env fr)
 cell:∀ y∈scope.names,y.2≠.cell
 kind:scope.kind=.function
 names:∀ y∈scope.names,y.2=.local->scope.names.lookup y.1=some .local
 slot:∀ p∈fr,X.N[p.2]?=some p.1/\X.env.kindOf p.1=some .cell
 has:∀ y∈(relabel scope X.env).names,(y.2=.cell∨y.2=.free)->y.1∈fr.map (·.1)
 frk:∀ p∈fr,(relabel scope X.env).names.lookup p.1=some .cell
theorem uM.of{X:Cx}{scope:Scope}{fr:List (Str×Nat)}{xs:List Str}(clos:closureFor scope X.env=pure (clOf X.env fr))(cell:∀ y∈scope.names,y.2≠.cell)(kind:scope.kind=.function)(names:∀ y∈scope.names,y.2=.local->scope.names.lookup y.1=some .local)
  (slot:∀ p∈fr,X.N[p.2]?=some p.1/\X.env.kindOf p.1=some .cell) (nf:∀ z∈scope.names,z.2=.free->z.1∈fr.map (·.1)) (frk:∀ p∈fr,(relabel scope X.env).names.lookup p.1=some .cell):uM X scope fr xs where
 clos:=clos
 cell:=cell
 kind:=kind
 names:=names
 slot:=slot
 has:=fun z hz hk=>by
  obtain⟨⟨n,k⟩,hm,e⟩:=FW.mp (show z∈scope.names.map _ from hz)
  have h2:=cell _ hm
  dsimp only at e h2
  have hn:z.1=n:=by rw[← e];split<;>rfl
  have hf:k=.free:=by
   by_cases q:k=.free
   ·exact q
   ·have hb:(k == NameKind.free)=false:=by simpa using q
    rw[hb]at e
    simp only[HZ,Gb,if_false]at e
    subst e
    exact(hk.elim h2 q).elim
  have:=nf _ hm hf
  rw[hn]
  exact this
 frk:=frk
abbrev nons(xs:List Str):St:=GA xs.length none
section
variable{X:Cx}{pins:List (Addr×Obj)}{σ:St}{H:Hp}{s:Shared}{scope:Scope}{fr:List (Str×Nat)}{xs:List Str}
theorem uM.cells(O:uM X scope fr xs)(I:Inv X pins σ H s){y:Str}{c:Addr}(h:(clOf X.env fr).lookup y=some c):X.env.cells.lookup y=some c:=by
 obtain⟨hm,e⟩:=eU h
 obtain⟨p,hp,ep⟩:=FW.mp hm
 have k:=(O.slot p hp).2
 rw[ep]at k
 obtain⟨c',e'⟩:=I.ok.has y (.inl k)
 rw[e']at e
 rw[e',e]
 rfl
theorem Bp{fp:List Addr}(O:uM X scope fr xs)(I:Inv X pins σ H s)(hf:∀ b∈fp,FpOk X pins H b)(hfs:∀ b∈fp,b<s.heap.objs.size){g h':Heap}{tk:Nat}(hg:g=s.heap.push (LCg.lst []))
  (hk:∀ b o,g.get? b=some o->h'.get? b=some o) (hC:h'.Ns g.objs.size fun _=>none) :
  Inv (cxG X scope fr xs g.objs.size (s.heap.objs.size::fp) { s with heap:=g } H) (X.pn++pins++[(s.heap.objs.size,LCg.lst [])]) (nons xs++frOf fr σ) H { s with heap:=h',toks:=tk }:=by
 have hsz:g.objs.size=s.heap.objs.size+1:=by rw[hg,Heap.size_push]
 have kp:∀ b o,s.heap.get? b=some o->g.get? b=some o:=fun b o e=>by rw[hg];exact Heap.get?_push_of_some _ e
 have hk0:∀ b o,s.heap.get? b=some o->h'.get? b=some o:=fun b o e=>hk b o (kp b o e)
 have hDo:h'.get? s.heap.objs.size=some (LCg.lst []):=hk _ _ (by rw[hg];exact Heap.get?_push_size _ rfl)
 have neC:∀ b,b<s.heap.objs.size->b≠g.objs.size:=fun b e=>by rw[hsz];exact FG (G4 e)
 have hDC:s.heap.objs.size≠g.objs.size:=by rw[hsz];exact FG (GQ _)
 have hfr:H g.objs.size=none:=I.hok.fresh (by rw[hsz];exact Ha _)
 have hfD:H s.heap.objs.size=none:=I.hok.fresh (Ff _)
 have cne:∀ y c,X.env.cells.lookup y=some c->c<s.heap.objs.size:=fun y c e=>by
  obtain⟨v,q⟩:=I.cell y c e
  exact q.lt
 have nst:∀ b,b≠X.env.locals->b∉X.fs->b∉frs X.stack:=fun b h1 h2 z=>(Fb.mp (I.stkSub b z)).elim h1 h2
 have nstD:s.heap.objs.size∉frs X.stack:=nst _ (GZ I.lt) (I.nofs (Ff _))
 refine⟨⟨I.ok.mod,O.kind,I.ok.glob,I.ok.blt,Ff _,?_,?_,fun _ _ z _=>(by cases z),I.ok.hd,I.ok.frames,.inl rfl,?_,?_,?_,?_,?_,?_,I.stkFree⟩,rfl,I.bare,Un.kept hk,?_,?_,hfr,?_,?_,I.hok.kept hk0,?_⟩
 ·intro y z c h1 h2
  exact I.ok.inj y z c (O.cells I h1) (O.cells I h2)
 ·intro y hy
  have hm:y∈fr.map (·.1):=by
   rcases hy with hy | hy
   ·exact O.has (y,_) (Gd hy) (.inl rfl)
   ·exact O.has (y,_) (Gd hy) (.inr rfl)
  exact⟨_,bF hm⟩
 ·intro b hb
  rcases Fb.mp hb with rfl | hb
  ·exact⟨hDC,fun y c e=>FG (cne y c (O.cells I e))⟩
  ·exact⟨neC b (hfs b hb),fun y c e=>(hf b hb).2.2.2.2.1 y c (O.cells I e)⟩
 ·intro b o e
  exact⟨kp b o (I.bs b o e).1,(I.bs b o e).2⟩
 ·show X.base.objs.size<=g.objs.size
  rw[hsz]
  exact Nat.le_succ_of_le (F4 I.ok.bsz I.sz)
 ·intro b o e hb
  rcases Fb.mp hb with z | hb
  ·have:=Heap.lt_size (I.bs b o e).1
   rw[z]at this
   exact F9 _ this
  ·rcases(hf b hb).2.2.2.1 with z | z
   ·exact I.ok.noex b o e z
   ·exact absurd (FP (Heap.lt_size (I.ok.bs b o e).1) z) (F9 _)
 ·intro b hb
  rcases Fb.mp hb with z | hb
  ·rw[z];exact nstD
  ·exact nst b (hf b hb).2.1 (hf b hb).2.2.1
 ·exact(I.kept (h':=g) (t':=s.toks) kp).stack
 ·refine⟨_,hC,fun i y v e1 e2 e3=>?_⟩
  have e1a:(xs++fr.map (·.1))[i]?=some y:=e1
  by_cases hi:i<xs.length
  ·rw[E8 (by simpa using hi)]at e2
   rw[GN,if_pos hi]at e2
   cases e2
  ·have e1':(fr.map (·.1))[i-xs.length]?=some y:=by
    rw[E9 (by omega)]at e1a
    exact e1a
   have e2':(frOf fr σ)[i-xs.length]?=some (some v):=by
    rw[E9 (by simp;omega)]at e2
    simpa using e2
   generalize i-xs.length=k at e1' e2'
   unfold frOf at e2'
   rw[Fg]at e1' e2'
   cases q:fr[k]? with
   |none=>rw[q]at e1';cases e1'
   |some p =>
    rw[q]at e1' e2'
    have ey:p.1=y:=Fu e1'
    have ev:(σ[p.2]?).join=some v:=Fu e2'
    have hp:p∈fr:=E7 q
    obtain⟨hN,hK⟩:=O.slot p hp
    have hkk:=O.frk p hp
    rw[ey]at hN hK hkk
    have ev':σ[p.2]?=some (some v):=by
     cases q2:σ[p.2]? with
     |none=>rw[q2]at ev;cases ev
     |some w=>rw[q2]at ev;exact congrArg some ev
    obtain⟨m,hn,hl⟩:=I.loc
    obtain⟨u,r,l⟩:=hl p.2 y v hN ev' (.inr (.inl hK))
    refine⟨u,r,?_⟩
    rcases l with⟨k1,_⟩ | ⟨_,c,ec,z⟩
    ·rw[hK]at k1;cases k1
    ·have hm:y∈fr.map (·.1):=by rw[← ey];exact FW.mpr ⟨p,hp,rfl⟩
     have el:=bF (env:=X.env) hm
     rw[ec]at el
     exact .inr ⟨.inl hkk,c,el,by obtain⟨o,ho,hd⟩:=z;exact⟨o,hk0 _ _ ho,hd⟩⟩
 ·intro y c e
  obtain⟨v,o,ho,hd⟩:=I.cell y c (O.cells I e)
  exact⟨v,o,hk0 _ _ ho,hd⟩
 ·intro y c e
  exact I.freeC y c (O.cells I e)
 ·intro p hp
  rcases Fe.mp hp with hp | hp
  ·cases hp
  ·rcases Fe.mp hp with hp | hp
   ·obtain⟨e,n,ne,nf,d⟩:=I.pin p hp
    exact⟨hk0 _ _ e,n,neC _ (Heap.lt_size e),nst _ ne nf,d⟩
   ·have ep:p=(s.heap.objs.size,LCg.lst []):=by simpa using hp
    subst ep
    exact⟨hDo,hfD,hDC,nstD,fun v z=>by cases z⟩
 ·show(nons xs++frOf fr σ).length=(xs++fr.map (·.1)).length
  unfold frOf
  simp
theorem qw{fp:List Addr}{g:Heap}{s':Shared}{H':Hp}{σ':St}{ys:List V}{us:List Value}(I:Inv X pins σ H s)(hf:∀ b∈fp,FpOk X pins H b)(hg:g=s.heap.push (LCg.lst []))
  (J:Inv (cxG X scope fr xs g.objs.size (s.heap.objs.size::fp) { s with heap:=g } H) (X.pn++pins++[(s.heap.objs.size,LCg.lst us)]) σ' H' s') (hv:Vals ys us) (hl:ys.length<=sizeLine) :
  Inv X pins σ (upd H' s.heap.objs.size (.lst ys)) s'/\H' s.heap.objs.size=none/\FpOk X pins (upd H' s.heap.objs.size (.lst ys)) g.objs.size/\∃ m,s'.heap.Ns g.objs.size m:=by
 have hsz:g.objs.size=s.heap.objs.size+1:=by rw[hg,Heap.size_push]
 have kp:∀ b o,s.heap.get? b=some o->g.get? b=some o:=fun b o e=>by rw[hg];exact Heap.get?_push_of_some _ e
 obtain⟨eD,nD,_,_,_⟩:=J.pin (s.heap.objs.size,LCg.lst us) (by simp)
 have hDC:g.objs.size≠s.heap.objs.size:=by rw[hsz];exact GZ (GQ _)
 have nD':∀ b u,H' b=some u->b≠s.heap.objs.size:=fun b u e z=>by rw[z]at e;rw[e]at nD;cases nD
 have hx:∀ b o,s.heap.get? b=some o->b∉fp->b∉s.heap.objs.size::fp:=fun b o e hb z=>by
  rcases Fb.mp z with z | z
  ·have:=Heap.lt_size e
   rw[z]at this
   exact F9 _ this
  ·exact hb z
 have bU:Un (frs X.stack) (s.heap.objs.size::fp) H H' g s'.heap:=J.base
 have ltD:∀ b o,s.heap.get? b=some o->b≠s.heap.objs.size:=fun b o e=>FG (Heap.lt_size e)
 have un:Un (frs X.stack) fp H (upd H' s.heap.objs.size (.lst ys)) s.heap s'.heap:=by
  refine⟨fun b o e n hb he=>bU.keep b o (kp b o e) n hb (hx b o e he),fun b o e n hb he=>bU.slot b o (kp b o e) n hb (hx b o e he),fun b o e n he=>?_,fun b o e he=>bU.there b o (kp b o e) (hx b o e he),fun b xs e=>?_,fun b o u e=>?_,fun b ps e=>?_⟩
  ·rw[ai (ltD b o e)];exact bU.free b o (kp b o e) n (hx b o e he)
  ·have q:=bU.tups b xs e
   rw[ai (nD' b _ q)];exact q
  ·have q:=bU.frzs b o u e
   rw[ai (nD' b _ q)];exact q
  ·obtain⟨more,q⟩:=bU.tbls b ps e
   exact⟨more,by rw[ai (nD' b _ q)];exact q⟩
 have hok:HOk X.prog X.w (upd H' s.heap.objs.size (.lst ys)) s'.heap:=fun b u e=>by
  by_cases hb:b=s.heap.objs.size
  ·rw[hb,ae]at e
   cases e
   rw[hb]
   exact⟨hl,us,us.length,hv,eD⟩
  ·rw[ai hb]at e
   exact(J.hok b u e).stay (fun c v _ q=>q) (fun c q=>by rw[ai (nD' c _ q)];exact q) fun c xs q=>by rw[ai (nD' c _ q)];exact q
 have os:s'.os=s.os:=J.os
 refine⟨I.call' os un hok J.bare fun b hb=>⟨(hf b hb).2.2.2.1,(hf b hb).2.1,(hf b hb).2.2.2.2⟩,nD,?_,?_⟩
 ·refine I.fpOk (H':=upd H' s.heap.objs.size (.lst ys)) (b:=g.objs.size) (by rw[hsz];exact Ha _) ?_
  rw[ai hDC]
  exact J.free
 ·obtain⟨m,hn,_⟩:=J.loc
  exact⟨m,hn⟩
end
def PTs(X:Cx)(ifs:List Expr)(t:TT):Prop :=
 ∀(pins:List (Addr×Obj))(s:Shared)(σ:St)(H:Hp)(Q:Bool->Hp->Prop),Inv X pins σ H s->t σ H Q ->
  wpAny (model X.prog X.w) X.A (forIn ifs true fun c r=>if r=true then do let ok ← isTrue c X.env (eval c X.env);pure (ForInStep.yield ok) else pure (ForInStep.yield r)) (fun b s'=>∃ H',Inv X pins σ H' s'/\Q b H') X.xe s
def tYes:TT:=fun _ H Q=>Q true H
theorem D4{X:Cx}:PTs X [] tYes:=fun _ _ _ H _ I h=>wpAny_tests_nil ⟨H,I,h⟩
section
variable{prog:Program}{w:World}{A:Around}{s:Shared}
theorem BH{elt target iter:Expr}{ifs:List Expr}{scope:Scope}{pos:Pos}{it acc:Value}{env:Env}{R:Result->Shared->Prop}(I:Nat->Shared->Prop)
  (turn:∀ n s,I n s->wpAny (model prog w) A (pyNext it) (fun r s₁=>match r with
   |none=>R (.ok .next) s₁
   |some v=>wpAny (model prog w) A (letOwnedTupleGo target it v) (fun _ s₀=>wpAny (model prog w) A (assign target env v) (fun _ s₂ =>
     wpAny (model prog w) A (forIn ifs true fun c r=>if r=true then do let ok ← isTrue c env (eval c env);pure (ForInStep.yield ok) else pure (ForInStep.yield r)) (fun ok s₃=>if ok=true then wpAny (model prog w) A (eval elt env) (fun x s₄ =>
      wpAny (model prog w) A (call (.builtin "list.append") [acc,x]) (fun _ s₅=>∃ m,m<n/\I m s₅) (notedBy (model prog w) A env fun e s'=>R (.error e) s') s₄) (notedBy (model prog w) A env fun e s'=>R (.error e) s') s₃
      else ∃ m,m<n/\I m s₃) (notedBy (model prog w) A env fun e s'=>R (.error e) s') s₂)
     (notedBy (model prog w) A env fun e s'=>R (.error e) s') s₀) (notedBy (model prog w) A env fun e s'=>R (.error e) s') s₁) (notedBy (model prog w) A env fun e s'=>R (.error e) s') s)
  (n:Nat) (h:I n s):codeAny (model prog w) A (.compLoop (.ListComp elt [⟨target,iter,ifs,0⟩] scope pos) 0 it acc env) R s:=by
 refine codeAny_loop rfl I (fun n s hI=>?_) n h
 show wpAny _ A ((compTurn (.ListComp elt [⟨target,iter,ifs,0⟩] scope pos) 0 it acc env).onRaise (fun x=>do noteFrame x env;theTreesLotGoes x)) _ _ s
 refine wpAny_noted ?_
 rw[compTurn_list]
 refine wpAny_bind (wpAny_standAt (wpAny_bind (wpAny_mono (turn n s hI) (fun r s₁ h₁=>?_) fun _ _ h'=>h')))
 cases r with
 |none=>exact wpAny_pure h₁
 |some v =>
  refine wpAny_bind (wpAny_mono h₁ (fun _ s₀ h₀'=>?_) fun _ _ h'=>h')
  refine wpAny_bind (wpAny_mono h₀' (fun _ s₂ h₂=>?_) fun _ _ h'=>h')
  refine wpAny_bind (wpAny_mono h₂ (fun okb s₃ h₃=>?_) fun _ _ h'=>h')
  cases okb with
  |false=>exact wpAny_pure ⟨rfl,h₃⟩
  |true=>exact wpAny_bind (wpAny_bind (wpAny_mono h₃ (fun x s₄ h₄=>wpAny_bind (wpAny_mono h₄ (fun _ s₅ h₅=>wpAny_pure (wpAny_pure ⟨rfl,h₅⟩)) fun _ _ h'=>h')) fun _ _ h'=>h'))
end
def Ai(g:TG)(tt:TT)(te:TE)(n:Nat)(fv:St)(J:It)(H1:Hp)(QQ:List V->Hp->Prop):Prop :=
 ∃ W:Nat->Nat->List V->Hp->Prop,(∃ m,W 0 m [] H1)/\∀ i m ys H,W i m ys H->ys.length<=sizeLine /\
  ((J.stop i H/\QQ ys H)∨(J.go i H/\∃ N:List V->Hp->Prop,(∀ zs H2,N zs H2->∃ m',m'<m/\W (i+1) m' zs H2) /\
   ∀ x H',J.yld i H x H'->g x (GA n none++fv) H' fun σ2 H2=>σ2.drop n=fv/\tt σ2 H2 fun b H3=>if b=true then te σ2 H3 (fun y H4=>N (ys++[y]) H4) else N ys H3))
section
variable{X:Cx}{scope:Scope}{fr:List (Str×Nat)}{xs:List Str}{elt iter tg:Expr}{ifs:List Expr}{pos:Pos}{te:TE}{tt:TT}{tgt:TG}{wi:TI}
theorem zO{pins:List (Addr×Obj)}{σ:St}{H:Hp}{s:Shared}{E:Value->Shared->Prop}{it:Addr}{fp:List Addr}{tn:Nat->Heap->Prop}{J:It}{RR:Value->Addr->Result->Shared->Prop}{QQ:List V->Hp->Prop}(hc:X.calm=true)(O:uM X scope fr xs)
  (hg0:∀ C ex s H,PG (cxG X scope fr xs C ex s H) tg tgt) (ht:∀ C ex s H,PTs (cxG X scope fr xs C ex s H) ifs tt) (he:∀ C ex s H,PE (cxG X scope fr xs C ex s H) elt te) (I:Inv X pins σ H s) (T:Turn X.prog X.w X.K tg J fp it tn) (st:tn 0 s.heap) (hf:∀ b∈fp,FpOk X pins H b) (hq:Ai tgt tt te xs.length (frOf fr σ) J H QQ)
  (fin:∀ D C H4 ys s4 m,Inv X pins σ (upd H4 D (.lst ys)) s4->H4 D=none->FpOk X pins (upd H4 D (.lst ys)) C->s4.heap.Ns C m->QQ ys H4->RR (.ref D) C (.ok .next) s4) :
  wpAny (model X.prog X.w) X.A (newList []) (fun acc s₃=>wpAny (model X.prog X.w) X.A (newFunctionEnv scope X.env.globals (clOf X.env fr) [] X.env.qual none .none (some X.env)) (fun cenv s₄ =>
   codeAny (model X.prog X.w) X.A (.compStart (.ListComp elt [⟨tg,iter,ifs,0⟩] scope pos) 0 (.ref it) acc { cenv with scope:=relabel scope X.env }) (RR acc cenv.locals) s₄) E s₃) E s:=by
 obtain⟨W,⟨m0,w0⟩,turn⟩:=hq
 have hfs:∀ b∈fp,b<s.heap.objs.size:=fun b hb=>by
  obtain⟨o,e,_⟩:=T.obj 0 s.heap st b hb
  exact Heap.lt_size e
 refine wpAny_newObj_type (wpAny_newFunctionEnv O.cell (by intro y hy;simp at hy) (fun h₁ hns₁ hsb₁=>?_) O.kind)
 dsimp only at hns₁ hsb₁ ⊢
 generalize hH2:s.heap.push { cls:=.type "list",dict:=none,data:=.seq ([]:List Value).toArray }=g at hns₁ hsb₁ ⊢
 have hg:g=s.heap.push (LCg.lst []):=hH2.symm
 have hsz:g.objs.size=s.heap.objs.size+1:=by rw[hg,Heap.size_push]
 have hk:∀ b o,g.get? b=some o->h₁.get? b=some o:=fun b o e=>hsb₁.extBut b o (FG (Heap.lt_size e)) (Heap.get?_push_of_some _ e)
 have kp:∀ b o,s.heap.get? b=some o->h₁.get? b=some o:=fun b o e=>hk b o (by rw[hg];exact Heap.get?_push_of_some _ e)
 have J0:=Bp (h':=h₁) (tk:=s.toks+([]:List (Str×Value)).length) O I hf hfs hg hk hns₁
 have stat:∀{H':Hp}{us:List Value},(∀ b∈fp,H' b=none)->∀ b∈fp,FpOk (cxG X scope fr xs g.objs.size (s.heap.objs.size::fp) { s with heap:=g } H) (X.pn++pins++[(s.heap.objs.size,LCg.lst us)]) H' b:=fun{H' us} hn b hb=>by
  obtain⟨_,f1,f2,f3,f4,f5⟩:=hf b hb
  refine⟨hn b hb,?_,fun z=>(Fb.mp (I.stkSub b z)).elim f1 f2,.inl (Fh _ hb),fun y c e=>f4 y c (O.cells I e),fun p hp=>?_⟩
  ·show b≠g.objs.size
   rw[hsz];exact FG (G4 (hfs b hb))
  ·rcases Fe.mp hp with hp | hp
   ·cases hp
   ·rcases Fe.mp hp with hp | hp
    ·exact f5 p hp
    ·have ep:p=(s.heap.objs.size,LCg.lst us):=by simpa using hp
     rw[ep]
     exact GZ (hfs b hb)
 have loop:codeAny (model X.prog X.w) X.A (.compLoop (.ListComp elt [⟨tg,iter,ifs,0⟩] scope pos) 0 (.ref it) (.ref s.heap.objs.size) (compEnvC scope (clOf X.env fr) g.objs.size X.env))
   (RR (.ref s.heap.objs.size) g.objs.size) { s with heap:=h₁,toks:=s.toks+([]:List (Str×Value)).length }:=by
  refine BH (fun n s'=>∃ i ys us H',Inv (cxG X scope fr xs g.objs.size (s.heap.objs.size::fp) { s with heap:=g } H) (X.pn++pins++[(s.heap.objs.size,LCg.lst us)]) (nons xs++frOf fr σ) H' s'/\Vals ys us/\tn i s'.heap/\(∀ b∈fp,H' b=none)/\W i n ys H') ?_ m0
   ⟨0,[],[],H,J0,.nil,T.keep 0 s.heap h₁ st fun b _ o e=>kp b o e,fun b hb=>(hf b hb).1,w0⟩
  rintro n s3 ⟨i,ys,us,H3,J3,hv,st3,fr3,w3⟩
  obtain⟨hlen,hh⟩:=turn i n ys H3 w3
  have none_err:∀{α:Type}{t:Sem α}{Q:α->Shared->Prop}{E':Value->Shared->Prop}{s:Shared},wpAny (model X.prog X.w) X.A t Q (fun _ _=>False) s->wpAny (model X.prog X.w) X.A t Q E' s:=fun h=>wpAny_mono h (fun _ _ q=>q) fun _ _ z=>z.elim
  have weakN:∀{σ6:St},σ6.length=(nons xs++frOf fr σ).length->σ6.drop xs.length=frOf fr σ->∀(i:Nat) v,(nons xs++frOf fr σ)[i]?=some (some v)->σ6[i]?=some (some v):=fun{σ6} hl6 e6 i v e=>by
   by_cases hi:i<xs.length
   ·rw[E8 (by simpa using hi),GN,if_pos hi]at e
    cases e
   ·rw[E9 (by simp;omega),← e6,GH]at e
    have:xs.length+(i-(nons xs).length)=i:=by simp;omega
    rw[this]at e
    exact e
  rcases hh with⟨stop,qn⟩ | ⟨go,N,hN,step⟩
  ·refine none_err (thn (T.done (cxG X scope fr xs g.objs.size (s.heap.objs.size::fp) { s with heap:=g } H) rfl rfl rfl hc i _ s3 _ H3 _ J3 (stat fr3) st3 stop) fun r s4 ⟨hr,J4⟩=>?_)
   subst hr
   obtain⟨I4,nD,fC,m,hn⟩:=qw I hf hg J4 hv hlen
   exact fin _ _ H3 ys s4 m I4 nD fC hn qn
  ·refine none_err (thn (T.item (cxG X scope fr xs g.objs.size (s.heap.objs.size::fp) { s with heap:=g } H) rfl rfl rfl hc i _ s3 _ H3 _ J3 (stat fr3) st3 go) fun r s4 ⟨u,hr,h4⟩=>?_)
   subst hr
   refine none_err (thn h4 fun _ s5 ⟨v,H5,J5,r5,y5,st5,fr5⟩=>?_)
   have J5':=J5.pinned (stat fr5) (T.obj _ _ st5)
   refine none_err (thn (hg0 _ _ _ _ _ s5 _ H5 v u _ J5' r5 (step v H5 y5)) fun _ s6 ⟨σ6,H6,J6,e6,q6⟩=>?_)
   refine none_err (thn (ht _ _ _ _ _ s6 σ6 H6 _ J6 q6) fun b s6' ⟨H6',J6',q6'⟩=>?_)
   have hl6:σ6.length=(nons xs++frOf fr σ).length:=J6.len.trans J3.len.symm
   cases b with
   |false =>
    rw[if_neg FO]at q6' ⊢
    obtain⟨m',hm,w7⟩:=hN ys H6' q6'
    have pinF:∀ b∈fp,∀ o,s5.heap.get? b=some o->s6'.heap.get? b=some o/\H6' b=none:=fun b hb o e=>by
     obtain⟨q1,q2,_⟩:=J6'.pin (b,o) (Fm _ (Fm _ (fq hb e)))
     exact⟨q1,q2⟩
    refine⟨m',hm,i+1,ys,us,H6',J6'.unpinned.weak (σ':=nons xs++frOf fr σ) hl6.symm (weakN hl6 e6),hv,T.keep _ _ _ st5 fun b hb o e=>(pinF b hb o e).1,fun b hb=>?_,w7⟩
    obtain⟨o,e,_⟩:=T.obj _ _ st5 b hb
    exact(pinF b hb o e).2
   |true =>
    rw[if_pos rfl]at q6' ⊢
    refine none_err (thn (he _ _ _ _ _ s6' _ H6' _ J6' q6') fun u7 s7 ⟨v7,H7,J7,r7,q7⟩=>?_)
    obtain⟨m',hm,w7⟩:=hN _ H7 q7
    obtain⟨eD,nD,dC,dF,dd⟩:=J7.pin (s.heap.objs.size,LCg.lst us) (Fm _ (FD _ (Fm _ (by simp))))
    have hvl:=hv.length
    refine append_at (hsz:=by show us.toArray.size<=sizeLine;rw[FE,← hvl];exact hlen) eD fun h8 hs8 hD8=>?_
    have pinD:∀ p∈X.pn++pins,p.1≠s.heap.objs.size:=fun p hp z=>by
     have:=Heap.lt_size (I.pin p hp).1
     rw[z]at this
     exact F9 _ this
    have J7a:Inv (cxG X scope fr xs g.objs.size (s.heap.objs.size::fp) { s with heap:=g } H) (X.pn++pins) _ H7 s7:=J7.pins_of fun p hp=>J7.pin p (Fm _ (FD _ (FD _ hp)))
    have J8:Inv (cxG X scope fr xs g.objs.size (s.heap.objs.size::fp) { s with heap:=g } H) (X.pn++pins) _ H7 { s7 with heap:=h8 }:=J7a.turned (t':=s7.toks) (fun b o hb e=>(hs8.2 b hb).trans e) nD dC (.inl Fi) (fun y c e z=>by
     obtain⟨w',q⟩:=I.cell y c (O.cells I e)
     have:=q.lt
     rw[z]at this
     exact F9 _ this) (fun p hp=>(Fe.mp hp).elim (fun z=>by cases z) (pinD p))
    have J9:Inv (cxG X scope fr xs g.objs.size (s.heap.objs.size::fp) { s with heap:=g } H) (X.pn++pins++[(s.heap.objs.size,LCg.lst (us++[u7]))]) _ H7 { s7 with heap:=h8 }:=J8.pins_of fun p hp=>by
     rcases Fe.mp hp with hp | hp
     ·exact J8.pin p (Fm _ hp)
     ·have ep:p=(s.heap.objs.size,LCg.lst (us++[u7])):=by simpa using hp
      subst ep
      exact⟨hD8.trans (congrArg some (LCg.lst_snoc us u7)),nD,dC,dF,fun v z=>by cases z⟩
    have J10:=J9.weak (σ':=nons xs++frOf fr σ) hl6.symm (weakN hl6 e6)
    have pinF:∀ b∈fp,∀ o,s5.heap.get? b=some o->s7.heap.get? b=some o/\H7 b=none:=fun b hb o e=>by
     obtain⟨q1,q2,_⟩:=J7.pin (b,o) (Fm _ (Fm _ (fq hb e)))
     exact⟨q1,q2⟩
    refine⟨m',hm,i+1,ys++[v7],us++[u7],H7,J10,hv.append (.cons r7 .nil),T.keep _ _ _ st5 fun b hb o e=>(hs8.2 b (FG (hfs b hb))).trans (pinF b hb o e).1,fun b hb=>?_,w7⟩
    obtain⟨o,e,_⟩:=T.obj _ _ st5 b hb
    exact(pinF b hb o e).2
 exact codeAny_compStart_list loop (T.self X.A 0 _ _ _ (T.keep 0 s.heap h₁ st fun b _ o e=>kp b o e) loop)
def tCompE(wi:TI)(g:TG)(tt:TT)(te:TE)(n:Nat)(fr:List (Str×Nat)):TE:=fun σ H Q=>wi σ H fun J H1=>Ai g tt te n (frOf fr σ) J H1 fun ys H2=>∀ D,H2 D=none->Q (.ref D) (upd H2 D (.lst ys))
theorem Cp(hc:X.calm=true)(O:uM X scope fr xs)(hi:PI X tg iter wi)(hg0:∀ C ex s H,PG (cxG X scope fr xs C ex s H) tg tgt)(ht:∀ C ex s H,PTs (cxG X scope fr xs C ex s H) ifs tt)(he:∀ C ex s H,PE (cxG X scope fr xs C ex s H) elt te)(hs:∀ x,foldedSetIterable iter X.env x=pure x:=by intro _;rfl) :
  PE X (.ListComp elt [⟨tg,iter,ifs,0⟩] scope pos) (tCompE wi tgt tt te xs.length fr):=by
 intro pins s σ H Q I h
 rw[eval_ListComp]
 refine wpAny_comprehension_free (use:=none) rfl hs O.clos O.kind O.names (thn (hi pins s σ H _ I h) fun xv s1 h1=>thn h1 fun itv s2 h2=>?_)
 obtain⟨it,fp,tn,J,H2,e,I2,T,st2,f2,q2⟩:=h2
 subst e
 refine zO (RR:=fun acc C=>compPost (model X.prog X.w) X.A X.xe none (EP X pins σ Q) acc C) hc O hg0 ht he I2 T st2 f2 q2 ?_
 intro D C H4 ys s4 m I4 nD fC hn q4
 refine⟨m,hn,fun h' hs'=>?_⟩
 obtain⟨g0,g1,g2,g3,g4,g5⟩:=fC
 exact⟨.ref D,_,I4.turned (t':=s4.toks) (fun b o hb e=>(hs'.2 b hb).trans e) g0 g1 g3 g4 g5,rfl,q4 D nD⟩
end
theorem xn{lo:Int}{k:Nat}{g:TG}{tt:TT}{te:TE}{n:Nat}{fv:St}{H1:Hp}{QQ:List V->Hp->Prop}(Pv:Nat->List V->Hp->Prop)(hz:k<=sizeLine)(h0:Pv 0 [] H1)
  (hs:∀ i ys H,i<k->Pv i ys H->g (.int (lo+i)) (GA n none++fv) H fun σ2 H2=>σ2.drop n=fv/\tt σ2 H2 fun b H3=>if b=true then te σ2 H3 (fun y H4=>Pv (i+1) (ys++[y]) H4) else Pv (i+1) ys H3) (hd:∀ ys H,Pv k ys H->QQ ys H) (hy:∀ i ys H,Pv i ys H->ys.length<=i)
  : Ai g tt te n fv (Itr lo k) H1 QQ:=by
 refine⟨fun i m ys H=>m=k-i/\i<=k/\Pv i ys H,⟨k,by simp,Ge _,h0⟩,?_⟩
 rintro i m ys H ⟨rfl,hi,p⟩
 have hyl:=hy i ys H p
 refine⟨by omega,?_⟩
 by_cases hlt:i<k
 ·refine .inr ⟨hlt,fun zs H2=>Pv (i+1) zs H2,fun zs H2 p2=>⟨k-(i+1),by omega,rfl,hlt,p2⟩,fun x H' y=>?_⟩
  obtain⟨e,y⟩:=y
  subst e y
  exact hs i ys _ hlt p
 ·have e:i=k:=by omega
  subst e
  exact .inl ⟨Ff _,hd ys H p⟩
end L2
namespace L2
open PySem PySem.Spec PyProof.Rows
section
variable{X:Cx}{K:E6}{pos:Pos}
theorem yw(h:X.K=K):IxR X (rIxL K):=h▸az
theorem EA(h:X.K=K):IxR X (rIxT K):=h▸bf
theorem oF(h:X.K=K):nO X (.type "list") (fun xs H Q=>∃ p ys,xs = [.ref p]/\(SqL K H p ys∨SqT K H p ys)/\∀ l,H l=none->Q (.ref l) (upd H l (.lst ys))):=h▸eO
theorem AN{e:Expr}{f:Str}{ta:TE}(h:X.K=K)(he:PE X e ta)(hb:attributeBase e f X.env (eval e X.env)=eval e X.env):PE X (.Attribute e f pos) (tFld K ta f):=h▸dH he hb
end
end L2
namespace L2
open PySem PySem.Spec PyProof.Rows
section
variable{X:Cx}
def D2:V->List V->Hp->VK->Prop:=fun x vs H Q=>∃ l xs k y,x=.ref l/\vs = [.int k,y]/\H l=some (.lst xs)/\0<=k/\k<=xs.length/\xs.length<sizeLine/\Q .non (upd H l (.lst (xs.take k.toNat++y::xs.drop k.toNat)))
theorem sP:MtM X "list.insert" D2:=by
 intro pins s σ H x vs v us Q I rx rv h
 obtain⟨l,xs,k,y,rfl,rfl,hH,h0,hk,hz,q⟩:=h
 cases rx
 obtain⟨u1,u2,rfl,r1,r2⟩:=rv.two
 obtain⟨t,rfl⟩:=r1
 obtain⟨z,its,n,r,hl,e⟩:=I.lstM hH
 have hn:=ot
 have hfit:¬ (!Builtin.List.listFitsIndex k)=true:=by
  rw[fitsIndex_both (by omega) (by omega)]
  exact FO
 refine call_meets F.slot_list_insert ⟨_,e,rfl⟩ F.entry_list_insert (F.args_list_insert_3 _ _ _) (AutoListH.list_insert_list_int_val_1 l its.toArray n k t u2 hfit (by rw[FE];omega)) ⟨e,?_⟩
 refine⟨.non,_,I.lset (its':=its.take k.toNat++u2::its.drop k.toNat) hH e ?_ ((r.take _).append (.cons r2 (r.drop _))) ?_,rfl,q⟩
 ·dsimp only
  rw[if_neg (by omega),FE,Gk (by omega)]
  simp
  exact FN (by rw[FQ];omega)
 ·rw[E5,FV,Fw,FQ]
  omega
theorem jC:∀{ns:List Int}{us:List Value},Vals (ns.map V.int) us->IntsAre us ns
 |[],_,.nil=>.nil
 |n::ns,_,.cons r rr=>by
  obtain⟨t,rfl⟩:=r
  exact .cons n t (jC rr)
theorem yH(hc:X.calm=true):nO X (.builtin "sum") (fun xs H Q=>∃(p:Addr)(ns:List Int),xs = [.ref p]/\SqL X.K H p (ns.map V.int)/\Q (.int ns.sum) H):=by
 intro pins s σ H xs us Q I r h
 obtain⟨p,ns,rfl,hq,q⟩:=h
 obtain⟨u,rfl,ru⟩:=yK r
 cases ru
 obtain⟨its,rv,pl,hz⟩:=I.list hq
 have hi:=jC rv
 obtain⟨zs,e⟩:=hi.allInts.items
 have hns:(numsOf its)=ns:=hi.numsOf
 have hl:s.heap.IsList p (intItems zs):=by rw[← e];exact pl.isList
 refine sum_intListG (I.ok.hd hc) hl fun h' tk t' hk=>⟨.int ns.sum,H,I.kept (t':=tk) hk,⟨t',?_⟩,q⟩
 have h2:numsOf (intItems zs).toList=ns:=by rw[← e];exact hns
 rw[nums_intItems]at h2
 rw[preSum_eq,FN (by simp),← h2]
end
end L2
namespace L2
open PySem PySem.Spec PyProof.Rows
theorem l5:∀{ps:List Nat},(∀ p∈ps,p<1000)->PyData.weightAll ((ps.map fun(p:Nat)=>((p:Nat):Int)).map PyData.int)<=12*ps.length
 |[],_=>by simp[PyData.weightAll]
 |p::ps,h=>by
  have ih:=l5 (ps:=ps) fun x hx=>h x (Fh _ hx)
  have hp:=h p (by simp)
  have hw:PyData.weight (.int (p:Int))<=11:=by
   rw[PyData.weight]
   split
   ·exact Ge _
   ·rename_i z
    have z':p≠0:=fun e=>z (by rw[e];rfl)
    have e:((p:Int)).natAbs=p:=rfl
    rw[e]
    have:=(Nat.log2_lt z').mpr (show p<2^10 by omega)
    omega
  rw[FX,FX,PyData.weightAll,FV]
  omega
theorem CQ{ps:List Nat}(h:∀ p∈ps,p<1000)(hl:ps.length<=1000):PyData.layable0 (.list ((ps.map fun(p:Nat)=>((p:Nat):Int)).map PyData.int))=true:=by
 have h1:=PySem.W.shaped_ints (ps.map fun(p:Nat)=>((p:Nat):Int))
 have h2:=l5 h
 have h3:PyData.weight (.list ((ps.map fun(p:Nat)=>((p:Nat):Int)).map PyData.int))<=2^20:=by
  rw[PyData.weight];omega +splitDisjunctions
 unfold PyData.layable0
 unfold SeqAt.shaped at h1
 rw[h1,decide_eq_true h3]
 rfl
section
variable{X:Cx}
def rIndex(K:E6):V->List V->Hp->VK->Prop:=fun x vs H Q=>∃(l:Addr)(ps:List Nat)(k:Nat),x=.ref l/\vs = [.int (k:Int)]/\SqL K H l (ps.map fun(p:Nat)=>V.int (p:Int))/\(∀ p∈ps,p<1000)/\ps.length<=1000/\k∈ps/\Q (.int ((ps.idxOf k:Nat):Int)) H
theorem CZ{ps:List Nat}{k:Nat}:(ps.map fun(p:Nat)=>((p:Nat):Int)).idxOf (k:Int)=ps.idxOf k:=by
 induction ps with
 |nil=>rfl
 |cons p ps ih =>
  rw[FX,List.idxOf_cons,List.idxOf_cons,ih]
  have e:(((p:Nat):Int) == (k:Int))=(p == k):=by
   by_cases h:p=k
   ·subst h;simp
   ·have h2:¬ (p:Int)=(k:Int):=fun z=>h (by omega)
    rw[beq_eq_false_iff_ne.mpr h,beq_eq_false_iff_ne.mpr h2]
  rw[e]
theorem ym:MtM X "list.index" (rIndex X.K):=by
 intro pins s σ H x vs v us Q I rx rv h
 obtain⟨l,ps,k,rfl,rfl,hq,hs,hl,hk,q⟩:=h
 cases rx
 obtain⟨u,rfl,ru⟩:=rv.one
 obtain⟨t,rfl⟩:=ru
 have e:(ps.map fun(p:Nat)=>V.int (p:Int))=(ps.map fun(p:Nat)=>((p:Nat):Int)).map V.int:=by rw[G0];rfl
 rw[e]at hq
 obtain⟨its,r,pl,hz⟩:=I.list hq
 refine index_list_ints pl.isList (jC r) (CQ hs hl) (FW.mpr ⟨k,hk,rfl⟩) ?_
 rw[CZ]
 exact⟨.int _,H,I.tok _,⟨_,rfl⟩,q⟩
theorem op_eqG(hu:X.A.units+64<cLine):OpR X (compareOp .Eq) (fun x y H Q=>∃ d1 d2,RdD X.K H x d1/\RdD X.K H y d2/\SeqAt.shaped d1=true/\SeqAt.shaped d2=true/\Q (.bl (PyData.eqv d1 d2)) H):=by
 intro pins s σ H x y v u Q I rx ry h
 obtain⟨d1,d2,r1,r2,h1,h2,q⟩:=h
 obtain⟨as,q1⟩:=r1.reads I v rx
 obtain⟨bs,q2⟩:=r2.reads I u ry
 exact eq_dataH q1 q2 h1 h2 hu ⟨.bl _,H,I,rfl,q⟩
end
end L2
namespace L2
open PySem PySem.Spec PyProof.Rows
theorem uV:∀{us:List Value}{ns:List Int},IntsAre us ns->Vals (ns.map V.int) us
 |_,_,.nil=>.nil
 |_,_,.cons _ t r=>.cons ⟨t,rfl⟩ (uV r)
section
variable{X:Cx}
def AE(K:E6):List V->Hp->VK->Prop:=fun xs H Q=>∃(p:Addr)(ns:List Int),xs = [.ref p]/\SqL K H p (ns.map V.int)/\ns.length<64/\∀(l:Addr)(out:List Int),H l=none->out.Perm ns->out.Pairwise (·<=·)->Q (.ref l) (upd H l (.lst (out.map V.int)))
theorem xq:nO X (.builtin "sorted") (AE X.K):=by
 intro pins s σ H xs us Q I r h
 obtain⟨p,ns,rfl,hq,h64,q⟩:=h
 obtain⟨u,rfl,ru⟩:=yK r
 cases ru
 obtain⟨its,rv,pl,hz⟩:=I.list hq
 have hi:=jC rv
 have hl:=rv.length
 rw[Fc]at hl
 refine sorted_ints pl.isList hi (by omega) fun out ns' a1 a2 a3=>?_
 obtain⟨e,he⟩:=sortedAll_at s.heap its out
 refine⟨.ref (s.heap.objs.size+1),_,I.laid (t':=s.toks) (fun _ _=>sortedAll_old) (Ha _) (show bM X.prog X.w _ _ _ (.lst (ns'.map V.int)) from⟨?_,out.toList,e,uV a1,?_⟩),rfl,q _ ns' (I.hok.fresh (Ha _)) a2 a3⟩
 ·rw[Fc,a2.length_eq]
  exact F0 (ax (by omega))
 ·exact he
theorem ug{K:E6}(h:X.K=K):nO X (.builtin "sorted") (AE K):=h▸xq
end
end L2
namespace L2
open PySem PySem.Spec PyProof.Rows
section
variable{X:Cx}{tg:Expr}
end
end L2
namespace L2
open PySem PySem.Spec PyProof.Rows
theorem bt_max:bootBuiltins "max" = some (.builtin "max"):=by decide +kernel
section
variable{X:Cx}
def rCatS(K:E6):R2:=fun x y H Q=>∃ l b xs zs,x=.ref l/\y=.ref b/\SqL K H l xs/\SqL K H b zs/\xs.length+zs.length<=sizeLine/\∀ p,H p=none->Q (.ref p) (upd H p (.lst (xs++zs)))
theorem ml:OpR X (binaryOp .Add) (rCatS X.K):=by
 intro pins s σ H x y v u Q I rx ry h
 obtain⟨l,b,xs,zs,rfl,rfl,hH,hB,hz,q⟩:=h
 cases rx
 cases ry
 obtain⟨its,r,pl,_⟩:=I.list hH
 obtain⟨its2,r2,pl2,_⟩:=I.list hB
 obtain⟨⟨cls,dd,data,sl⟩,ho,hc,n,hd⟩:=pl.isList
 obtain⟨⟨cls2,dd2,data2,sl2⟩,ho2,hc2,n2,hd2⟩:=pl2.isList
 simp only at hc hd hc2 hd2
 subst hc hd hc2 hd2
 have ea:its.toArray++its2.toArray=(its++its2).toArray:=by simp
 have e1:=r.length
 have e2:=r2.length
 refine concat_meets ⟨_,ho,rfl⟩ ⟨_,ho2,rfl⟩ noFill_list_add seq_list_add PySem.F.slot_list_add PySem.F.entry_list_add (PySem.F.args_list_add_2 _ _) (list_addW l b its.toArray its2.toArray n n2 dd dd2 sl sl2 (by rw[FE,FE];omega)) ⟨ho,ho2,?_⟩
 rw[ea]
 exact⟨.ref _,_,I.lnew (t':=s.toks) (r.append r2) (by rw[E5];omega),rfl,q _ I.fresh⟩
end
end L2
namespace L2
open PySem PySem.Spec PyProof.Rows
theorem yesT{σ:St}{H:Hp}{A B:Hp->Prop}(h:A H):tYes σ H fun b H3=>if b=true then A H3 else B H3 :=
 show(if true=true then A H else B H) from iteT (B:=B H) h
section
variable{X:Cx}
end
section
variable{X:Cx}
end
end L2
namespace L2
open PySem PySem.Spec PyProof.Rows
end L2
namespace L2
open PySem PySem.Spec PyProof.Rows
section
variable{X:Cx}
theorem op_neG(hu:X.A.units+64<cLine):OpR X (compareOp .NotEq) (fun x y H Q=>∃ d1 d2,RdD X.K H x d1/\RdD X.K H y d2/\SeqAt.shaped d1=true/\SeqAt.shaped d2=true/\Q (.bl (!PyData.eqv d1 d2)) H):=by
 intro pins s σ H x y v u Q I rx ry h
 obtain⟨d1,d2,r1,r2,h1,h2,q⟩:=h
 obtain⟨as,q1⟩:=r1.reads I v rx
 obtain⟨bs,q2⟩:=r2.reads I u ry
 exact ne_dataH q1 q2 h1 h2 hu ⟨.bl _,H,I,rfl,q⟩
theorem mQ:∀(a b:List Int),PyData.eqvAll (a.map PyData.int) (b.map PyData.int)=decide (a=b)
 |[],[]=>by simp[PyData.eqvAll]
 |[],y::b=>by simp[PyData.eqvAll]
 |x::a,[]=>by simp[PyData.eqvAll]
 |x::a,y::b=>by
  rw[FX,FX]
  simp only[PyData.eqvAll,PyData.eqv,mQ a b]
  by_cases h:x=y
  ·by_cases h2:a=b
   ·simp[h,h2]
   ·simp[h,h2]
  ·simp[h]
theorem yB(a b:List Int):PyData.eqv (.list (a.map PyData.int)) (.list (b.map PyData.int))=decide (a=b):=by
 rw[← mQ]
 simp only[PyData.eqv]
end
section
variable{X:Cx}{tg:Expr}
end
section
variable{P:Program}{w:World}{K:E6}{mg:Str->Option Value}{base:Heap}
end
end L2
namespace PyProof.Rows
open PySem
local macro_rules | `(tactic| walk_at "gallop") => do
 let n:=Lean.mkIdent (Lean.mkPrivateNameCore `PySem.Builtin.List.W1All `PySem.Builtin.gallop)
 `(tactic| delta $n)
local macro_rules | `(tactic| walk_at "st") => `(tactic| try dsimp -zeta -zetaHave only)
local macro_rules | `(tactic| walk_at "l4") => `(tactic| (extract_lets -underBinder +onlyGivenNames a b; subst a b))
abbrev By:Bool->Keyed->Array Keyed->Nat->Nat->Nat->StateT SortSt Sem (Option Nat):=sortPriv% PySem.Builtin.gallop
def IntP(p:Keyed):Prop:=∃ n t,p.1=.int n t
def ky(p:Keyed):Int:=numOf p.1
theorem aF{σ α:Type}{M:Model}{A:Around}{E:Value->Shared->Prop}{s:Shared}{c:Prop} [Decidable c] {a b:StateT σ Sem α} {Q:α->σ->Prop} {st:σ} (h:c) (q:wpS M A E s a Q st):wpS M A E s (if c then a else b) Q st:=by rw[if_pos h];exact q
theorem aD{σ α:Type}{M:Model}{A:Around}{E:Value->Shared->Prop}{s:Shared}{c:Prop} [Decidable c] {a b:StateT σ Sem α} {Q:α->σ->Prop} {st:σ} (h:¬ c) (q:wpS M A E s b Q st):wpS M A E s (if c then a else b) Q st:=by rw[if_neg h];exact q
variable{prog:Program}{w:World}{A:Around}{E:Value->Shared->Prop}{s:Shared}
theorem oO{st:SortSt}{x y:Keyed}{Q:Option Bool->SortSt->Prop}(hk:kindOf st=oneType')(hx:IntP x)(hy:IntP y)(h:Q (some (decide (ky x<ky y))) st):wpS (model prog w) A E s ((sortPriv% PySem.Builtin.lt) x y) Q st:=by
 show wpS (model prog w) A E s (lt' x y) Q st
 obtain⟨n,t,hx⟩:=hx
 obtain⟨m,u,hy⟩:=hy
 rw[lt'_eq]
 refine wpS_bind (wpS_get ?_)
 unfold ky at h
 rw[hx,hy]at h
 rw[hk,keyLt'_oneType,hx,hy]
 refine wpS_bind (wpS_lift (wpAny_attempt (oneLt_int ⟨rfl,?_⟩)))
 exact wpS_pure h
theorem aJ{st:SortSt}{arr:Array Keyed}{i:Nat}{p:Keyed}{Q:Keyed->SortSt->Prop}(hi:arr[i]?=some p)(h:Q p st):wpS (model prog w) A E s ((sortPriv% PySem.Builtin.elem) arr i) Q st:=by
 show wpS (model prog w) A E s (elem' arr i) Q st
 rw[elem'_eq,hi]
 exact wpS_pure h
theorem ic{st:SortSt}{left:Bool}{key:Keyed}{arr:Array Keyed}{base n hint:Nat}{Q:Option Nat->SortSt->Prop}(f:Nat->Bool)(hk:kindOf st=oneType')(hkey:IntP key)(hin:∀ i,i<n->∃ p,arr[base+i]?=some p/\IntP p/\f i=if left then decide (ky p<ky key) else !decide (ky key<ky p))
  (mono:∀ i j,i<=j->j<n->f j=true->f i=true) (hh:hint<n) (h:∀ k,k<=n->(∀ i,i<k->f i=true)->(∀ i,k<=i->i<n->f i=false)->Q (some k) st) :
  wpS (model prog w) A E s (By left key arr base n hint) Q st:=by
 unfold By
 walk_at "gallop"
 extract_lets -underBinder +onlyGivenNames beyond
 clear_value (eb:beyond=_)
 have hb:∀(i:Nat)(Q':Option Bool->SortSt->Prop),i<n->Q' (some (f i)) st->wpS (model prog w) A E s (beyond i) Q' st:=by
  intro i Q' hi q
  obtain⟨p,hp,ip,ef⟩:=hin i hi
  rw[eb]
  refine wpS_bind (aJ hp ?_)
  rw[ef]at q
  cases left with
  |true=>exact oO hk ip hkey q
  |false=>exact wpS_bind (oO hk hkey ip (wpS_pure q))
 clear eb
 walk_at "l4"
 refine wpS_bind (hb hint _ hh ?_)
 walk_at "st"
 have nmono:∀ i j,i<=j->j<n->f i=false->f j=false:=fun i j hij hj e=>by
  cases z:f j with
  |false=>rfl
  |true=>rw[mono i j hij hj z]at e;cases e
 extract_lets -underBinder +onlyGivenNames jp
 clear_value (ej:jp=_)
 have hj:∀(u:Unit)(a0 a1 lo hi:Nat),lo<=hi->hi<=n->(∀ i,i<lo->f i=true)->(∀ i,hi<=i->i<n->f i=false)->wpS (model prog w) A E s (jp u a0 a1 lo hi) Q st:=by
  intro u a0 a1 lo hi h1 h2 h3 h4
  rw[ej]
  dsimp only
  refine wpS_bind (wpS_mono (wpS_forRange (I:=fun x c st'=>st'=st/\∃ l r,c=(none,l,r)/\l<=r/\r<=n/\r-l<=n-x/\(∀ i,i<l->f i=true)/\(∀ i,r<=i->i<n->f i=false))
   (Q:=fun c st'=>st'=st/\∃ l,c=(none,l,l)/\l<=n/\(∀ i,i<l->f i=true)/\(∀ i,l<=i->i<n->f i=false)) ?step ?fin ⟨rfl,lo,hi,rfl,h1,h2,by omega,h3,h4⟩) ?post)
  case post =>
   rintro c st' ⟨rfl,l,rfl,g1,g2,g3⟩
   exact wpS_pure (h l g1 g2 g3)
  case fin =>
   rintro c st' ⟨rfl,l,r,rfl,g1,g2,g3,g4,g5⟩
   have:l=r:=by omega
   subst this
   exact⟨rfl,l,rfl,g2,g4,g5⟩
  case step =>
   rintro x c st' _ hx ⟨rfl,l,r,rfl,g1,g2,g3,g4,g5⟩
   dsimp only
   by_cases z:l ≥ r
   ·refine aF z ?_
    have:l=r:=by omega
    subst this
    exact wpS_pure ⟨rfl,l,rfl,g2,g4,g5⟩
   ·refine aD z ?_
    refine wpS_bind (hb _ _ (by omega) ?_)
    cases e:f (l+(r-l)/2) with
    |true=>exact wpS_pure ⟨rfl,_,r,rfl,by omega,g2,by omega,fun i hi=>mono i _ (by omega) (by omega) e,g5⟩
    |false=>exact wpS_pure ⟨rfl,l,_,rfl,by omega,by omega,by omega,g4,fun i h1 h2=>nmono _ i h1 h2 e⟩
 clear ej
 cases er:f hint with
 |true =>
  refine aF rfl ?_
  dsimp only
  refine wpS_bind (wpS_mono (wpS_forRange (I:=fun x c st'=>st'=st/\∃ l o,c=(none,l,o)/\l<o/\x+1<=o/\hint+l<n/\f (hint+l)=true)
   (Q:=fun c st'=>st'=st/\∃ l o,c=(none,l,o)/\l<o/\hint+l<n/\f (hint+l)=true/\(n-hint<=o∨f (hint+o)=false)) ?step ?fin ⟨rfl,0,1,rfl,by omega,by omega,by omega,er⟩) ?post)
  case post =>
   rintro c st' ⟨rfl,l,o,rfl,g1,g2,g3,g4⟩
   dsimp only
   refine hj _ _ _ _ _ (by omega) (by omega) (fun i hi=>mono i _ (by omega) g2 g3) fun i h1 h2=>?_
   rcases g4 with g4 | g4
   ·omega
   ·exact nmono (hint+o) i (by omega) h2 g4
  case fin =>
   rintro c st' ⟨rfl,l,o,rfl,g1,g2,g3,g4⟩
   exact⟨rfl,l,o,rfl,g1,g3,g4,.inl (by omega)⟩
  case step =>
   rintro x c st' _ hx ⟨rfl,l,o,rfl,g1,g2,g3,g4⟩
   dsimp only
   by_cases z:o ≥ n-hint
   ·refine aF z ?_
    exact wpS_pure ⟨rfl,l,o,rfl,g1,g3,g4,.inl z⟩
   ·refine aD z ?_
    refine wpS_bind (hb _ _ (by omega) ?_)
    cases e:f (hint+o) with
    |true=>exact wpS_pure ⟨rfl,_,_,rfl,by omega,by omega,by omega,e⟩
    |false=>exact wpS_pure ⟨rfl,l,o,rfl,g1,g3,g4,.inr e⟩
 |false =>
  refine aD FO ?_
  dsimp only
  refine wpS_bind (wpS_mono (wpS_forRange (I:=fun x c st'=>st'=st/\∃ l o,c=(none,l,o)/\l<o/\x+1<=o/\l<=hint/\f (hint-l)=false)
   (Q:=fun c st'=>st'=st/\∃ l o,c=(none,l,o)/\l<o/\l<=hint/\f (hint-l)=false/\(hint+1<=o∨f (hint-o)=true)) ?step ?fin ⟨rfl,0,1,rfl,by omega,by omega,by omega,er⟩) ?post)
  case post =>
   rintro c st' ⟨rfl,l,o,rfl,g1,g2,g3,g4⟩
   dsimp only
   refine hj _ _ _ _ _ (by omega) (by omega) (fun i hi=>?_) fun i h1 h2=>nmono _ i h1 h2 g3
   rcases g4 with g4 | g4
   ·omega
   ·exact mono i (hint-o) (by omega) (by omega) g4
  case fin =>
   rintro c st' ⟨rfl,l,o,rfl,g1,g2,g3,g4⟩
   exact⟨rfl,l,o,rfl,g1,g3,g4,.inl (by omega)⟩
  case step =>
   rintro x c st' _ hx ⟨rfl,l,o,rfl,g1,g2,g3,g4⟩
   dsimp only
   by_cases z:o ≥ hint+1
   ·refine aF z ?_
    exact wpS_pure ⟨rfl,l,o,rfl,g1,g3,g4,.inl z⟩
   ·refine aD z ?_
    refine wpS_bind (hb _ _ (by omega) ?_)
    cases e:f (hint-o) with
    |true=>exact wpS_pure ⟨rfl,l,o,rfl,g1,g3,g4,.inr e⟩
    |false=>exact wpS_pure ⟨rfl,_,_,rfl,by omega,by omega,by omega,e⟩
def Upl(l:List Keyed):Prop:=l.Pairwise fun x y=>ky x<=ky y
structure LM(P R o:List Keyed)(i j:Nat):Prop where
 pm:o.Perm (P.take i++R.take j)
 up:Upl o
 la:∀ x∈o,∀ y∈P.drop i,ky x<=ky y
 lb:∀ x∈o,∀ y∈R.drop j,ky x<=ky y
theorem LM.swap{P R o:List Keyed}{i j:Nat}(h:LM P R o i j):LM R P o j i:=⟨h.pm.trans FY,h.up,h.lb,h.la⟩
theorem LM.a{P R o:List Keyed}{i j:Nat}(h:LM P R o i j)(u:Upl P)(k:Nat)(c:∀ x∈(P.drop i).take k,∀ y∈R.drop j,ky x<=ky y):LM P R (o++(P.drop i).take k) (i+k) j where
 pm:=by
  rw[Hl,FJ]
  refine(h.pm.append_right _).trans ?_
  rw[FJ]
  exact Gx _ FY
 up:=F1.mpr ⟨h.up,(u.drop).take,fun x hx y hy=>h.la x hx y (F6 hy)⟩
 la:=fun x hx y hy=>by
  rw[← GV]at hy
  rcases Fe.mp hx with hx | hx
  ·exact h.la x hx y (F7 hy)
  ·have z:Upl ((P.drop i).take k++(P.drop i).drop k):=by rw[Fy];exact u.drop
   exact(F1.mp z).2.2 x hx y hy
 lb:=fun x hx y hy=>by
  rcases Fe.mp hx with hx | hx
  ·exact h.lb x hx y hy
  ·exact c x hx y hy
theorem LM.fin{P R o:List Keyed}{i j:Nat}(h:LM P R o i j)(u:Upl P)(v:Upl R)(c:∀ x∈P.drop i,∀ y∈R.drop j,ky x<=ky y):(o++P.drop i++R.drop j).Perm (P++R)/\Upl (o++P.drop i++R.drop j):=by
 constructor
 ·refine((h.pm.append_right _).append_right _).trans ?_
  have e:P++R=(P.take i++P.drop i)++(R.take j++R.drop j):=by rw[Fy,Fy]
  rw[e,← FJ]
  refine List.Perm.append_right _ ?_
  rw[FJ,FJ]
  exact Gx _ FY
 ·refine F1.mpr ⟨F1.mpr ⟨h.up,u.drop,h.la⟩,v.drop,fun x hx y hy=>?_⟩
  rcases Fe.mp hx with hx | hx
  ·exact h.lb x hx y hy
  ·exact c x hx y hy
end PyProof.Rows
namespace PyProof.Rows
open PySem
local macro_rules | `(tactic| walk_at "setG") => do
 let n:=Lean.mkIdent (Lean.mkPrivateNameCore `PySem.Builtin.List.W1All `PySem.Builtin.setMinGallop)
 `(tactic| delta $n)
local macro_rules | `(tactic| walk_at "mergeLo") => do
 let n:=Lean.mkIdent (Lean.mkPrivateNameCore `PySem.Builtin.List.W1All `PySem.Builtin.mergeLo)
 `(tactic| delta $n)
local macro_rules | `(tactic| walk_at "st") => `(tactic| try dsimp -zeta -zetaHave only)
local macro_rules | `(tactic| walk_at "l3") => `(tactic| (extract_lets -underBinder +onlyGivenNames a b c; subst a b c))
local macro_rules | `(tactic| walk_at "l11") => `(tactic| (extract_lets -underBinder +onlyGivenNames a b c d e f g h i j k; subst a b c d e f g h i j k; dsimp -zeta -zetaHave only))
variable{prog:Program}{w:World}{A:Around}{E:Value->Shared->Prop}{s:Shared}
structure SmG(st st':SortSt):Prop where
 k:kindOf st'=kindOf st
 a:arrOf st'=arrOf st
 p:pendingOf st'=pendingOf st
 f:failedOf st'=failedOf st
theorem SmG.rfl'(st:SortSt):SmG st st:=⟨rfl,rfl,rfl,rfl⟩
theorem SmG.trans{a b c:SortSt}(h:SmG a b)(g:SmG b c):SmG a c:=⟨g.k.trans h.k,g.a.trans h.a,g.p.trans h.p,g.f.trans h.f⟩
theorem lQ{st:SortSt}{g:Nat}{Q:Unit->SortSt->Prop}(h:∀ st',SmG st st'->Q () st'):wpS (model prog w) A E s ((sortPriv% PySem.Builtin.setMinGallop) g) Q st:=by
 walk_at "setG"
 exact wpS_modify (h _ ⟨rfl,rfl,rfl,rfl⟩)
theorem gR(a:Array Keyed)(i:Nat):(a.extract i).toList=a.toList.drop i:=by
 rw[Hk,G9]
 exact FN (by rw[FQ];exact Ff _)
theorem lW(a:Array Keyed)(i k:Nat):(a.extract i (i+k)).toList=(a.toList.drop i).take k:=by
 rw[Hk,G9]
 congr 1
 omega
theorem eZ{P:List Keyed}{i:Nat}{x:Keyed}(h:P[i]?=some x):(P.drop i).take 1 = [x]:=by
 have hi:=(E3.mp h).1
 rw[Gv hi]
 rw[E4 hi]at h
 cases h
 rfl
theorem LM.a1{P R o:List Keyed}{i j:Nat}{x:Keyed}(h:LM P R o i j)(u:Upl P)(hx:P[i]?=some x)(c:∀ y∈R.drop j,ky x<=ky y):LM P R (o++[x]) (i+1) j:=by
 have:=h.a u 1 (by rw[eZ hx];intro z hz;rw[Fp.mp hz];exact c)
 rwa[eZ hx]at this
theorem iK{P:List Keyed}{i:Nat}{x:Keyed}(u:Upl P)(hx:P[i]?=some x):∀ y∈P.drop i,ky x<=ky y:=by
 have hi:=(E3.mp hx).1
 have z:Upl (P.drop i):=u.drop
 rw[Gv hi]at z ⊢
 rw[E4 hi]at hx
 cases hx
 intro y hy
 rcases Fb.mp hy with rfl | hy
 ·exact GO _
 ·exact(Ib.mp z).1 y hy
theorem A4{P:List Keyed}{i k:Nat}{x:Keyed}(h:x∈(P.drop i).take k):∃ m,m<k/\P[i+m]?=some x:=by
 obtain⟨m,hm,e⟩:=List.getElem_of_mem h
 rw[Fw,FQ]at hm
 refine⟨m,by omega,?_⟩
 rw[HE,Ih]at e
 rw[E4 (by omega),e]
theorem Ad{P:List Keyed}{i j:Nat}{x y:Keyed}(u:Upl P)(hx:P[i]?=some x)(hy:P[j]?=some y)(h:i<=j):ky x<=ky y:=iK u hx y (by
 have hj:=(E3.mp hy).1
 refine E7 (i:=j-i) ?_
 rw[GH,show i+(j-i)=j by omega,hy])
theorem A6{P:List Keyed}{i:Nat}{x:Keyed}(h:x∈P.drop i):∃ m,P[i+m]?=some x:=by
 obtain⟨m,hm⟩:=List.getElem?_of_mem h
 exact⟨m,by rw[← hm,GH]⟩
def fR(P:List Keyed)(i:Nat)(v:Keyed)(m:Nat):Bool:=match P[i+m]? with | some p=>!decide (ky v<ky p) | none=>false
def fL(P:List Keyed)(i:Nat)(v:Keyed)(m:Nat):Bool:=match P[i+m]? with | some p=>decide (ky p<ky v) | none=>false
theorem mO{P:List Keyed}{i m:Nat}{v p:Keyed}(h:P[i+m]?=some p):fR P i v m = !decide (ky v<ky p):=by unfold fR;rw[h]
theorem nZ{P:List Keyed}{i m:Nat}{v p:Keyed}(h:P[i+m]?=some p):fL P i v m=decide (ky p<ky v):=by unfold fL;rw[h]
theorem EG{P:List Keyed}{i:Nat}{v:Keyed}(u:Upl P){n:Nat}(hn:i+n<=P.length):∀ x y,x<=y->y<n->fR P i v y=true->fR P i v x=true:=fun x y hxy hy e=>by
 have hx:P[i+x]?=some P[i+x]:=E4 (by omega)
 have hy':P[i+y]?=some P[i+y]:=E4 (by omega)
 rw[mO hy']at e
 rw[mO hx]
 have:=Ad u hx hy' (by omega)
 simp only[HF,decide_eq_false_iff_not]at e ⊢
 omega
theorem EI{P:List Keyed}{i:Nat}{v:Keyed}(u:Upl P){n:Nat}(hn:i+n<=P.length):∀ x y,x<=y->y<n->fL P i v y=true->fL P i v x=true:=fun x y hxy hy e=>by
 have hx:P[i+x]?=some P[i+x]:=E4 (by omega)
 have hy':P[i+y]?=some P[i+y]:=E4 (by omega)
 rw[nZ hy']at e
 rw[nZ hx]
 have:=Ad u hx hy' (by omega)
 simp only[decide_eq_true_eq]at e ⊢
 omega
theorem EH{P:List Keyed}{i k:Nat}{v:Keyed}(h:∀ m,m<k->fR P i v m=true):∀ x∈(P.drop i).take k,ky x<=ky v:=fun x hx=>by
 obtain⟨m,hm,e⟩:=A4 hx
 have:=h m hm
 rw[mO e]at this
 simp only[HF,decide_eq_false_iff_not]at this
 omega
theorem EJ{P:List Keyed}{i k:Nat}{v:Keyed}(h:∀ m,m<k->fL P i v m=true):∀ x∈(P.drop i).take k,ky x<ky v:=fun x hx=>by
 obtain⟨m,hm,e⟩:=A4 hx
 have:=h m hm
 rw[nZ e]at this
 simpa using this
theorem fR_hi{P:List Keyed}{i k n:Nat}{v:Keyed}(hn:P.length<=i+n)(h:∀ m,k<=m->m<n->fR P i v m=false):∀ y∈P.drop (i+k),ky v<ky y:=fun y hy=>by
 obtain⟨m,e⟩:=A6 hy
 have hl:=(E3.mp e).1
 have:=h (k+m) (by omega) (by omega)
 rw[mO (show P[i+(k+m)]?=some y by rw[← Nat.add_assoc];exact e)]at this
 simpa using this
theorem fL_hi{P:List Keyed}{i k n:Nat}{v:Keyed}(hn:P.length<=i+n)(h:∀ m,k<=m->m<n->fL P i v m=false):∀ y∈P.drop (i+k),ky v<=ky y:=fun y hy=>by
 obtain⟨m,e⟩:=A6 hy
 have hl:=(E3.mp e).1
 have:=h (k+m) (by omega) (by omega)
 rw[nZ (show P[i+(k+m)]?=some y by rw[← Nat.add_assoc];exact e)]at this
 simp only[decide_eq_false_iff_not]at this
 omega
theorem xP{st:SortSt}{key:Keyed}{arr:Array Keyed}{base n hint:Nat}{Q:Option Nat->SortSt->Prop}(hk:kindOf st=oneType')(hkey:IntP key)(u:Upl arr.toList)(ip:∀ x∈arr.toList,IntP x)(hn:base+n<=arr.size)(hh:hint<n)
  (h:∀ k,k<=n->(∀ i,i<k->fR arr.toList base key i=true)->(∀ i,k<=i->i<n->fR arr.toList base key i=false)->Q (some k) st):wpS (model prog w) A E s ((sortPriv% PySem.Builtin.gallop) false key arr base n hint) Q st :=
 have la:arr.toList.length=arr.size:=by simp
 ic (fR arr.toList base key) hk hkey (fun i hi=>by
  have hx:arr.toList[base+i]?=some arr.toList[base+i]:=E4 (by omega)
  exact⟨_,by rw[← hx];simp,ip _ (Gz _),by rw[mO hx];rfl⟩) (EG u (by omega)) hh h
theorem xQ{st:SortSt}{key:Keyed}{arr:Array Keyed}{base n hint:Nat}{Q:Option Nat->SortSt->Prop}(hk:kindOf st=oneType')(hkey:IntP key)(u:Upl arr.toList)(ip:∀ x∈arr.toList,IntP x)(hn:base+n<=arr.size)(hh:hint<n)
  (h:∀ k,k<=n->(∀ i,i<k->fL arr.toList base key i=true)->(∀ i,k<=i->i<n->fL arr.toList base key i=false)->Q (some k) st):wpS (model prog w) A E s ((sortPriv% PySem.Builtin.gallop) true key arr base n hint) Q st :=
 have la:arr.toList.length=arr.size:=by simp
 ic (fL arr.toList base key) hk hkey (fun i hi=>by
  have hx:arr.toList[base+i]?=some arr.toList[base+i]:=E4 (by omega)
  exact⟨_,by rw[← hx];simp,ip _ (Gz _),by rw[nZ hx];rfl⟩) (EI u (by omega)) hh h
theorem Dz{σ α β:Type}{M:Model}{c:Prop} [Decidable c] {F:α->StateT σ Sem β} {x y:α} {Q:β->σ->Prop} {st:σ} (h:∀ z,wpS M A E s (F z) Q st):wpS M A E s (if c then F x else F y) Q st:=by
 split<;>exact h _
theorem uU{σ α:Type}{M:Model}{m:StateT σ Sem α}{Q:α->σ->Prop}{st:σ}(h:∀ R:α->σ->Prop,(∀ a st',Q a st'->R a st')->wpS M A E s m R st):wpS M A E s m Q st:=h Q fun _ _ q=>q
def yp:Array Keyed->Array Keyed->StateT SortSt Sem (Array Keyed):=sortPriv% PySem.Builtin.mergeLo
theorem at_l{a:Array Keyed}{i:Nat}{x:Keyed}(h:a.toList[i]?=some x):a[i]?=some x:=by rw[← h];simp
theorem uQ{st:SortSt}{a b:Array Keyed}{Q:Array Keyed->SortSt->Prop}(hk:kindOf st=oneType')(ua:Upl a.toList)(ub:Upl b.toList)(ia:∀ x∈a.toList,IntP x)(ib:∀ x∈b.toList,IntP x)(a1:1<=a.size)(b1:1<=b.size)
  (h0:∀ x y:Keyed,b.toList[0]?=some x->y∈a.toList->ky x<=ky y) (hst:∀ x y:Keyed,x∈b.toList->a.toList[a.size-1]?=some y->ky x<ky y)
  (h:∀ R st',SmG st st'->R.toList.Perm (a.toList++b.toList)->Upl R.toList->Q R st'):wpS (model prog w) A E s (yp a b) Q st:=by
 unfold yp
 walk_at "mergeLo"
 have la:a.toList.length=a.size:=by simp
 have lb:b.toList.length=b.size:=by simp
 have atA:∀ i,i<a.size->∃ x,a.toList[i]?=some x/\IntP x:=fun i hi=>⟨_,E4 (by omega),ia _ (Gz _)⟩
 have atB:∀ i,i<b.size->∃ x,b.toList[i]?=some x/\IntP x:=fun i hi=>⟨_,E4 (by omega),ib _ (Gz _)⟩
 have dn:∀(o:Array Keyed)(i j:Nat)(st':SortSt),SmG st st'->LM a.toList b.toList o.toList i j->j=b.size->Q (o++a.extract i++b.extract j) st':=by
  intro o i j st' sg lm e
  have nb:b.toList.drop j = []:=HH (by omega)
  obtain⟨g1,g2⟩:=lm.fin ua ub (by rw[nb];intro x _ y hy;cases hy)
  refine h _ st' sg ?_ ?_
  ·rw[FL,FL,gR,gR];exact g1
  ·rw[FL,FL,gR,gR];exact g2
 have ls:∀(o:Array Keyed)(i j:Nat)(st':SortSt),SmG st st'->LM a.toList b.toList o.toList i j->i+1=a.size->Q (o++b.extract j++a.extract i) st':=by
  intro o i j st' sg lm e
  obtain⟨z,hz,_⟩:=atA i (by omega)
  have na:a.toList.drop i = [z]:=by
   rw[← eZ hz]
   exact(FN (by rw[FQ];omega)).symm
  obtain⟨g1,g2⟩:=lm.swap.fin ub ua (by
   rw[na]
   intro x hx y hy
   rw[Fp.mp hy]
   exact GB (hst x z (F7 hx) (by rw[← e];exact hz)))
  refine h _ st' sg ?_ ?_
  ·rw[FL,FL,gR,gR];exact g1.trans FY
  ·rw[FL,FL,gR,gR];exact g2
 refine wpS_bind (wpS_lift (wpAny_rule ⟨rfl,?_⟩))
 obtain⟨y0,hy0,iy0⟩:=atB 0 (by omega)
 walk_at "l3"
 refine wpS_bind (aJ (at_l hy0) ?_)
 have m0:LM a.toList b.toList [y0] 0 1:=⟨by rw[List.take_zero,HN,← eZ hy0];exact List.Perm.refl _,HG ..,fun x hx y hy=>by rw[Fp.mp hx];exact h0 y0 y hy0 hy,fun x hx y hy=>by
  rw[Fp.mp hx]
  exact iK ub hy0 y (F7 hy)⟩
 by_cases c1:(1 == b.size)=true
 ·refine aF c1 ?_
  exact wpS_pure (dn _ _ _ _ (SmG.rfl' _) m0 (by simpa using c1))
 refine aD c1 ?_
 have c1':1≠b.size:=by simpa using c1
 by_cases c2:(0+1 == a.size)=true
 ·refine aF c2 ?_
  exact wpS_pure (ls _ _ _ _ (SmG.rfl' _) m0 (by simpa using c2))
 refine aD c2 ?_
 have c2':0+1≠a.size:=by simpa using c2
 refine wpS_bind (wpS_get ?_)
 refine wpS_bind (wpS_mono (wpS_forRange (I:=fun x c st'=>SmG st st'/\∃(o:Array Keyed)(i j g:Nat),c=(none,o,i,j,g)/\LM a.toList b.toList o.toList i j/\i+1<a.size/\j<b.size/\x+1<=i+j)
  (Q:=fun c st'=>∃(r:Array Keyed)(z:Array Keyed×Nat×Nat×Nat),c=(some r,z)/\Q r st') ?step ?fin ⟨SmG.rfl' _,_,_,_,_,rfl,m0,by omega,by omega,by omega⟩) ?post)
 case post =>
  rintro c st' ⟨r,z,rfl,q⟩
  exact wpS_pure q
 case fin =>
  rintro c st' ⟨sg,o,i,j,g,rfl,lm,g1,g2,g3⟩
  omega
 case step =>
  rintro x c st1 _ hx ⟨sg1,o,i,j,g,rfl,lm,g1,g2,g3⟩
  refine wpS_bind (wpS_mono (wpS_forRange (I:=fun y c st'=>SmG st st'/\∃(o:Array Keyed)(i j ac bc:Nat),c=(none,o,i,j,ac,bc)/\LM a.toList b.toList o.toList i j/\i+1<a.size/\j<b.size/\x+1+y<=i+j)
   (Q:=fun c st'=>(∃(r:Array Keyed)(z:Array Keyed×Nat×Nat×Nat×Nat),c=(some r,z)/\Q r st')∨SmG st st'/\∃(o:Array Keyed)(i j ac bc:Nat),c=(none,o,i,j,ac,bc)/\LM a.toList b.toList o.toList i j/\i+1<a.size/\j<b.size/\x+2<=i+j) ?istep ?ifin ⟨sg1,o,i,j,0,0,rfl,lm,g1,g2,by omega⟩) ?ipost)
  case ifin =>
   rintro c st' ⟨sg,o,i,j,ac,bc,rfl,lm,g1,g2,g3⟩
   exact .inr ⟨sg,o,i,j,ac,bc,rfl,lm,g1,g2,by omega⟩
  case istep =>
   rintro y c st2 _ hy ⟨sg2,o,i,j,ac,bc,rfl,lm,g1,g2,g3⟩
   obtain⟨vb,hvb,ivb⟩:=atB j g2
   obtain⟨va,hva,iva⟩:=atA i (by omega)
   dsimp only
   refine wpS_bind (aJ (at_l hvb) (wpS_bind (aJ (at_l hva) (wpS_bind (oO (sg2.k.trans hk) ivb iva ?_)))))
   by_cases c:ky vb<ky va
   ·rw[decide_eq_true c]
    dsimp only
    refine aF rfl ?_
    refine wpS_bind (aJ (at_l hvb) ?_)
    have m2:LM a.toList b.toList (o.push vb).toList i (j+1):=by
     rw[G5]
     exact(lm.swap.a1 ub hvb fun z hz=>by have:=iK ua hva z hz;omega).swap
    by_cases d1:(j+1 == b.size)=true
    ·refine aF d1 ?_
     exact wpS_pure (.inl ⟨_,_,rfl,dn _ _ _ _ sg2 m2 (by simpa using d1)⟩)
    ·refine aD d1 ?_
     have d1':j+1≠b.size:=by simpa using d1
     split
     ·exact wpS_pure (.inr ⟨sg2,_,_,_,_,_,rfl,m2,g1,by omega,by omega⟩)
     ·exact wpS_pure ⟨sg2,_,_,_,_,_,rfl,m2,g1,by omega,by omega⟩
   ·rw[decide_eq_false c]
    dsimp only
    refine aD FO ?_
    refine wpS_bind (aJ (at_l hva) ?_)
    have m2:LM a.toList b.toList (o.push va).toList (i+1) j:=by
     rw[G5]
     exact lm.a1 ua hva fun z hz=>by have:=iK ub hvb z hz;omega
    by_cases d1:(i+1+1 == a.size)=true
    ·refine aF d1 ?_
     exact wpS_pure (.inl ⟨_,_,rfl,ls _ _ _ _ sg2 m2 (by simpa using d1)⟩)
    ·refine aD d1 ?_
     have d1':i+1+1≠a.size:=by simpa using d1
     split
     ·exact wpS_pure (.inr ⟨sg2,_,_,_,_,_,rfl,m2,by omega,g2,by omega⟩)
     ·exact wpS_pure ⟨sg2,_,_,_,_,_,rfl,m2,by omega,g2,by omega⟩
  case ipost =>
   rintro c st2 (⟨r,z,rfl,q⟩ | ⟨sg2,o,i,j,ac,bc,rfl,lm,g1,g2,g3⟩)
   ·exact wpS_pure ⟨_,_,rfl,q⟩
   dsimp -zeta -zetaHave only
   refine wpS_bind (wpS_lift (wpAny_rule ⟨rfl,?_⟩))
   refine wpS_bind (wpS_mono (wpS_forRange (I:=fun y c st'=>SmG st st'/\∃(o:Array Keyed)(i j g ac bc:Nat),c=(none,o,i,j,g,ac,bc)/\LM a.toList b.toList o.toList i j/\i+1<a.size/\j<b.size/\x+2<=i+j)
    (Q:=fun c st'=>(∃(r:Array Keyed)(z:Array Keyed×Nat×Nat×Nat×Nat×Nat),c=(some r,z)/\Q r st')∨SmG st st'/\∃(o:Array Keyed)(i j g ac bc:Nat),c=(none,o,i,j,g,ac,bc)/\LM a.toList b.toList o.toList i j/\i+1<a.size/\j<b.size/\x+2<=i+j) ?jstep ?jfin ⟨sg2,o,i,j,_,ac,bc,rfl,lm,g1,g2,g3⟩) ?jpost)
   case jfin=>exact fun c st' q=>.inr q
   case jpost =>
    rintro c st3 (⟨r,z,rfl,q⟩ | ⟨sg3,o,i,j,g,ac,bc,rfl,lm,g1,g2,g3⟩)
    ·exact wpS_pure ⟨_,_,rfl,q⟩
    dsimp only
    exact wpS_bind (lQ fun st4 sg4=>wpS_pure ⟨sg3.trans sg4,_,_,_,_,rfl,lm,g1,g2,by omega⟩)
   case jstep =>
    rintro y c st3 _ hy ⟨sg3,o,i,j,g,ac,bc,rfl,lm,g1,g2,g3⟩
    walk_at "st"
    walk_at "l11"
    extract_lets -underBinder +onlyGivenNames jp
    clear_value (ej:jp=_)
    refine uU fun R hR=>?_
    refine Dz (F:=fun z=>jp () z) fun g'=>?_
    rw[ej]
    clear ej jp
    walk_at "st"
    refine wpS_bind (lQ fun st4 sg4=>?_)
    have sg34:=sg3.trans sg4
    have k4:=sg34.k.trans hk
    obtain⟨vb,hvb,ivb⟩:=atB j g2
    refine wpS_bind (aJ (at_l hvb) ?_)
    refine wpS_bind (xP k4 ivb ua ia (by omega) (by omega) fun k kn kt kf=>?_)
    walk_at "st"
    extract_lets -underBinder +onlyGivenNames ac jp
    subst ac
    clear_value (ej:jp=_)
    have vbl:=iK ub hvb
    have hlo:=EH kt
    have hhi:=fR_hi (by omega) kf
    have hj:∀(o':Array Keyed)(i':Nat),LM a.toList b.toList o'.toList i' j->i'+1<a.size->(∀ y∈a.toList.drop i',ky vb<=ky y)->x+2<=i'+j->wpS (model prog w) A E s (jp () o' i') R st4:=by
     intro o' i' lm' g1' gv g3'
     rw[ej]
     clear ej jp
     walk_at "st"
     refine wpS_bind (aJ (at_l hvb) ?_)
     have m2:LM a.toList b.toList (o'.push vb).toList i' (j+1):=by
      rw[G5]
      exact(lm'.swap.a1 ub hvb gv).swap
     by_cases d1:(j+1 == b.size)=true
     ·refine aF d1 ?_
      exact wpS_pure (hR _ _ (.inl ⟨_,_,rfl,dn _ _ _ _ sg34 m2 (by simpa using d1)⟩))
     refine aD d1 ?_
     have d1':j+1≠b.size:=by simpa using d1
     obtain⟨va,hva,iva⟩:=atA i' (by omega)
     have val:=iK ua hva
     refine wpS_bind (aJ (at_l hva) ?_)
     refine wpS_bind (xQ k4 iva ub ib (by omega) (by omega) fun k2 kn2 kt2 kf2=>?_)
     walk_at "st"
     extract_lets -underBinder +onlyGivenNames ac jp
     subst ac
     clear_value (ej:jp=_)
     have hlo2:=EJ kt2
     have hhi2:=fL_hi (by omega) kf2
     have hj:∀(o':Array Keyed)(j':Nat),LM a.toList b.toList o'.toList i' j'->j'<b.size->(∀ y∈b.toList.drop j',ky va<=ky y)->x+2<=i'+j'->wpS (model prog w) A E s (jp () o' j') R st4:=by
      intro o' j' lm2 g2' gv' g3''
      rw[ej]
      clear ej jp
      walk_at "st"
      refine wpS_bind (aJ (at_l hva) ?_)
      have m3:LM a.toList b.toList (o'.push va).toList (i'+1) j':=by
       rw[G5]
       exact lm2.a1 ua hva gv'
      by_cases d2:(i'+1+1 == a.size)=true
      ·refine aF d2 ?_
       exact wpS_pure (hR _ _ (.inl ⟨_,_,rfl,ls _ _ _ _ sg34 m3 (by simpa using d2)⟩))
      refine aD d2 ?_
      have d2':i'+1+1≠a.size:=by simpa using d2
      split
      ·exact wpS_pure (hR _ _ (.inr ⟨sg34,_,_,_,_,_,_,rfl,m3,by omega,g2',by omega⟩))
      ·exact wpS_pure (hR _ _ ⟨sg34,_,_,_,_,_,_,rfl,m3,by omega,g2',by omega⟩)
     clear ej
     by_cases z2:k2 > 0
     ·refine aF z2 ?_
      have m3:LM a.toList b.toList (o'.push vb++b.extract (j+1) (j+1+k2)).toList i' (j+1+k2):=by
       rw[FL,lW]
       exact(m2.swap.a ub k2 fun x hx y hy=>by have:=hlo2 x hx;have:=val y hy;omega).swap
      by_cases d2:(j+1+k2 == b.size)=true
      ·refine aF d2 ?_
       exact wpS_pure (hR _ _ (.inl ⟨_,_,rfl,dn _ _ _ _ sg34 m3 (by simpa using d2)⟩))
      refine aD d2 ?_
      have d2':j+1+k2≠b.size:=by simpa using d2
      exact hj _ _ m3 (by omega) hhi2 (by omega)
     ·refine aD z2 ?_
      have:k2=0:=by omega
      subst this
      exact hj _ _ m2 (by omega) hhi2 (by omega)
    clear ej
    by_cases z:k > 0
    ·refine aF z ?_
     have m2:LM a.toList b.toList (o++a.extract i (i+k)).toList (i+k) j:=by
      rw[FL,lW]
      exact lm.a ua k fun x hx y hy=>by have:=hlo x hx;have:=vbl y hy;omega
     by_cases d1:(i+k+1 == a.size)=true
     ·refine aF d1 ?_
      exact wpS_pure (hR _ _ (.inl ⟨_,_,rfl,ls _ _ _ _ sg34 m2 (by simpa using d1)⟩))
     refine aD d1 ?_
     have d1':i+k+1≠a.size:=by simpa using d1
     by_cases d2:(i+k == a.size)=true
     ·exfalso
      have d2':i+k=a.size:=by simpa using d2
      obtain⟨vl,hvl,_⟩:=atA (a.size-1) (by omega)
      have h1:=kt (a.size-1-i) (by omega)
      rw[mO (show a.toList[i+(a.size-1-i)]?=some vl by rw[show i+(a.size-1-i)=a.size-1 by omega];exact hvl)]at h1
      have h2:=hst vb vl (E7 hvb) hvl
      simp only[HF,decide_eq_false_iff_not]at h1
      omega
     refine aD d2 ?_
     have d2':i+k≠a.size:=by simpa using d2
     exact hj _ _ m2 (by omega) (fun y hy=>GB (hhi y hy)) (by omega)
    ·refine aD z ?_
     have:k=0:=by omega
     subst this
     exact hj _ _ lm g1 (fun y hy=>GB (hhi y hy)) (by omega)
end PyProof.Rows
namespace PyProof.Rows
open PySem
local macro_rules | `(tactic| walk_at "mergeHi") => do
 let n:=Lean.mkIdent (Lean.mkPrivateNameCore `PySem.Builtin.List.W1All `PySem.Builtin.mergeHi)
 `(tactic| delta $n)
local macro_rules | `(tactic| walk_at "st") => `(tactic| try dsimp -zeta -zetaHave only)
local macro_rules | `(tactic| walk_at "l3") => `(tactic| (extract_lets -underBinder +onlyGivenNames a b c; subst a b c))
local macro_rules | `(tactic| walk_at "l11") => `(tactic| (extract_lets -underBinder +onlyGivenNames a b c d e f g h i j k; subst a b c d e f g h i j k; dsimp -zeta -zetaHave only))
variable{prog:Program}{w:World}{A:Around}{E:Value->Shared->Prop}{s:Shared}
structure LH(P R o:List Keyed)(i j:Nat):Prop where
 pm:o.Perm (P.drop i++R.drop j)
 up:Upl o
 la:∀ x∈P.take i,∀ y∈o,ky x<=ky y
 lb:∀ x∈R.take j,∀ y∈o,ky x<=ky y
theorem LH.swap{P R o:List Keyed}{i j:Nat}(h:LH P R o i j):LH R P o j i:=⟨h.pm.trans FY,h.up,h.lb,h.la⟩
theorem Dc(P:List Keyed){i i':Nat}(h:i'<=i)(hi:i<=P.length):P.drop i'=(P.take i).drop i'++P.drop i:=by
 have e:=congrArg (List.drop i') (Fy i P)
 rw[Im,Fw,show i'-min i P.length=0 by omega,Hg]at e
 exact e.symm
theorem LH.a{P R o:List Keyed}{i j:Nat}(h:LH P R o i j)(u:Upl P){i':Nat}(hi':i'<=i)(hi:i<=P.length)(c:∀ x∈R.take j,∀ y∈(P.take i).drop i',ky x<=ky y):LH P R ((P.take i).drop i'++o) i' j where
 pm:=by
  rw[Dc P hi' hi,FJ]
  exact Gx _ h.pm
 up:=F1.mpr ⟨(u.take).drop,h.up,fun x hx y hy=>h.la x (F7 hx) y hy⟩
 la:=fun x hx y hy=>by
  have e:P.take i'=(P.take i).take i':=by rw[Hz,Gk hi']
  rw[e]at hx
  rcases Fe.mp hy with hy | hy
  ·have z:Upl ((P.take i).take i'++(P.take i).drop i'):=by rw[Fy];exact u.take
   exact(F1.mp z).2.2 x hx y hy
  ·exact h.la x (F6 hx) y hy
 lb:=fun x hx y hy=>by
  rcases Fe.mp hy with hy | hy
  ·exact c x hx y hy
  ·exact h.lb x hx y hy
theorem qf{P:List Keyed}{i:Nat}{x:Keyed}(h:P[i]?=some x):(P.take (i+1)).drop i = [x]:=by
 have hi:=(E3.mp h).1
 rw[Hh,show i+1-i=1 by omega]
 exact eZ h
theorem LH.a1{P R o:List Keyed}{i j:Nat}{x:Keyed}(h:LH P R o (i+1) j)(u:Upl P)(hx:P[i]?=some x)(c:∀ y∈R.take j,ky y<=ky x):LH P R (x::o) i j:=by
 have hi:=(E3.mp hx).1
 have:=h.a u (i':=i) (by omega) (by omega) (by rw[qf hx];intro y hy z hz;rw[Fp.mp hz];exact c y hy)
 rwa[qf hx]at this
theorem LH.fin{P R o:List Keyed}{i j:Nat}(h:LH P R o i j)(u:Upl P)(v:Upl R)(c:∀ x∈P.take i,∀ y∈R.take j,ky x<=ky y):(P.take i++R.take j++o).Perm (P++R)/\Upl (P.take i++R.take j++o):=by
 constructor
 ·refine(Gx _ h.pm).trans ?_
  have e:P++R=(P.take i++P.drop i)++(R.take j++R.drop j):=by rw[Fy,Fy]
  rw[e,← FJ,← FJ]
  refine List.Perm.append_right _ ?_
  rw[FJ,FJ]
  exact Gx _ FY
 ·refine F1.mpr ⟨F1.mpr ⟨u.take,v.take,c⟩,h.up,fun x hx y hy=>?_⟩
  rcases Fe.mp hx with hx | hx
  ·exact h.la x hx y hy
  ·exact h.lb x hx y hy
theorem jT{P:List Keyed}{i:Nat}{x:Keyed}(u:Upl P)(hx:P[i]?=some x):∀ y∈P.take (i+1),ky y<=ky x:=fun y hy=>by
 obtain⟨m,hm,e⟩:=List.getElem_of_mem hy
 rw[Fw]at hm
 rw[HE]at e
 exact Ad u (i:=m) (by rw[E4 (by omega),e]) hx (by omega)
theorem fR_lo'{P:List Keyed}{k:Nat}{v:Keyed}(h:∀ m,m<k->fR P 0 v m=true):∀ x∈P.take k,ky x<=ky v:=EH (P:=P) (i:=0) h
theorem fL_lo'{P:List Keyed}{k:Nat}{v:Keyed}(h:∀ m,m<k->fL P 0 v m=true):∀ x∈P.take k,ky x<ky v:=EJ (P:=P) (i:=0) h
theorem yt{P:List Keyed}{i k:Nat}{y:Keyed}(h:y∈(P.take i).drop k):∃ m,k<=m/\m<i/\P[m]?=some y:=by
 rw[Hh]at h
 obtain⟨m,hm,e⟩:=A4 h
 exact⟨k+m,by omega,by omega,e⟩
theorem fR_hi'{P:List Keyed}{k n:Nat}{v:Keyed}(h:∀ m,k<=m->m<n->fR P 0 v m=false):∀ y∈(P.take n).drop k,ky v<ky y:=fun y hy=>by
 obtain⟨m,h1,h2,e⟩:=yt hy
 have:=h m h1 h2
 rw[mO (show P[0+m]?=some y by rw[Nat.zero_add];exact e)]at this
 simpa using this
theorem fL_hi'{P:List Keyed}{k n:Nat}{v:Keyed}(h:∀ m,k<=m->m<n->fL P 0 v m=false):∀ y∈(P.take n).drop k,ky v<=ky y:=fun y hy=>by
 obtain⟨m,h1,h2,e⟩:=yt hy
 have:=h m h1 h2
 rw[nZ (show P[0+m]?=some y by rw[Nat.zero_add];exact e)]at this
 simp only[decide_eq_false_iff_not]at this
 omega
theorem kL(a:Array Keyed)(i:Nat):(a.extract 0 i).toList=a.toList.take i:=by
 rw[Hk,G9]
 rfl
theorem qE(a:Array Keyed)(i k:Nat):(a.extract k i).toList=(a.toList.take i).drop k:=by
 rw[Hk,G9,Hh]
def rv(o:Array Keyed):List Keyed:=o.toList.reverse
theorem pC(o:Array Keyed)(x:Keyed):rv (o.push x)=x::rv o:=by unfold rv;rw[G5,List.reverse_append];rfl
theorem Du(o p:Array Keyed):rv (o++p.reverse)=p.toList++rv o:=by unfold rv;rw[FL,List.reverse_append,G8,List.reverse_reverse]
def yq:Array Keyed->Array Keyed->StateT SortSt Sem (Array Keyed):=sortPriv% PySem.Builtin.mergeHi
theorem uR{st:SortSt}{a b:Array Keyed}{Q:Array Keyed->SortSt->Prop}(hk:kindOf st=oneType')(ua:Upl a.toList)(ub:Upl b.toList)(ia:∀ x∈a.toList,IntP x)(ib:∀ x∈b.toList,IntP x)(a1:1<=a.size)(b1:1<=b.size)
  (h0:∀ x y:Keyed,b.toList[0]?=some x->y∈a.toList->ky x<ky y) (hst:∀ x y:Keyed,x∈b.toList->a.toList[a.size-1]?=some y->ky x<ky y)
  (h:∀ R st',SmG st st'->R.toList.Perm (a.toList++b.toList)->Upl R.toList->Q R st'):wpS (model prog w) A E s (yq a b) Q st:=by
 unfold yq
 walk_at "mergeHi"
 have la:a.toList.length=a.size:=by simp
 have lb:b.toList.length=b.size:=by simp
 have atA:∀ i,i<a.size->∃ x,a.toList[i]?=some x/\IntP x:=fun i hi=>⟨_,E4 (by omega),ia _ (Gz _)⟩
 have atB:∀ i,i<b.size->∃ x,b.toList[i]?=some x/\IntP x:=fun i hi=>⟨_,E4 (by omega),ib _ (Gz _)⟩
 have dn:∀(o:Array Keyed)(i j:Nat)(st':SortSt),SmG st st'->LH a.toList b.toList (rv o) i j->i=0∨j=0->Q (a.extract 0 i++b.extract 0 j++o.reverse) st':=by
  intro o i j st' sg lm e
  obtain⟨g1,g2⟩:=lm.fin ua ub (by
   rcases e with e | e
   ·subst e;intro x hx;cases hx
   ·subst e;intro x _ y hy;cases hy)
  refine h _ st' sg ?_ ?_
  ·rw[FL,FL,kL,kL,G8];exact g1
  ·rw[FL,FL,kL,kL,G8];exact g2
 have ls:∀(o:Array Keyed)(i j:Nat)(st':SortSt),SmG st st'->LH a.toList b.toList (rv o) i j->j=1->Q (b.extract 0 j++a.extract 0 i++o.reverse) st':=by
  intro o i j st' sg lm e
  subst e
  obtain⟨z,hz,_⟩:=atB 0 (by omega)
  have nb:b.toList.take 1 = [z]:=eZ (P:=b.toList) (i:=0) hz
  obtain⟨g1,g2⟩:=lm.swap.fin ub ua (by
   rw[nb]
   intro x hx y hy
   rw[Fp.mp hx]
   exact GB (h0 z y hz (F6 hy)))
  refine h _ st' sg ?_ ?_
  ·rw[FL,FL,kL,kL,G8];exact g1.trans FY
  ·rw[FL,FL,kL,kL,G8];exact g2
 refine wpS_bind (wpS_lift (wpAny_rule ⟨rfl,?_⟩))
 obtain⟨y0,hy0,iy0⟩:=atA (a.size-1) (by omega)
 walk_at "l3"
 refine wpS_bind (aJ (at_l hy0) ?_)
 have m0:LH a.toList b.toList (rv #[y0]) (a.size-1) b.size:=⟨by
   show[y0].Perm _
   rw[HH (show b.toList.length<=b.size by omega),Hc]
   have e:=qf hy0
   rw[show a.size-1+1=a.size by omega,FN (by omega)]at e
   rw[e],HG ..,fun x hx y hy=>by
   have:y=y0:=Fp.mp hy
   rw[this]
   refine jT ua hy0 x ?_
   rw[show a.size-1+1=a.size by omega,FN (by omega)]
   exact F6 hx,fun x hx y hy=>by
   have:y=y0:=Fp.mp hy
   rw[this]
   exact GB (hst x y0 (F6 hx) hy0)⟩
 by_cases c1:(a.size-1 == 0)=true
 ·refine aF c1 ?_
  exact wpS_pure (dn _ _ _ _ (SmG.rfl' _) m0 (.inl (by simpa using c1)))
 refine aD c1 ?_
 have c1':a.size-1≠0:=by simpa using c1
 by_cases c2:(b.size == 1)=true
 ·refine aF c2 ?_
  exact wpS_pure (ls _ _ _ _ (SmG.rfl' _) m0 (by simpa using c2))
 refine aD c2 ?_
 have c2':b.size≠1:=by simpa using c2
 refine wpS_bind (wpS_get ?_)
 refine wpS_bind (wpS_mono (wpS_forRange (I:=fun x c st'=>SmG st st'/\∃(o:Array Keyed)(i j g:Nat),c=(none,i,j,o,g)/\LH a.toList b.toList (rv o) i j/\1<=i/\i<=a.size/\2<=j/\j<=b.size/\x+1+(i+j)<=a.size+b.size)
  (Q:=fun c st'=>∃(r:Array Keyed)(z:Nat×Nat×Array Keyed×Nat),c=(some r,z)/\Q r st') ?step ?fin ⟨SmG.rfl' _,_,_,_,_,rfl,m0,by omega,by omega,by omega,by omega,by omega⟩) ?post)
 case post =>
  rintro c st' ⟨r,z,rfl,q⟩
  exact wpS_pure q
 case fin =>
  rintro c st' ⟨sg,o,i,j,g,rfl,lm,g1,g1',g2,g2',g3⟩
  omega
 case step =>
  rintro x c st1 _ hx ⟨sg1,o,i,j,g,rfl,lm,g1,g1',g2,g2',g3⟩
  refine wpS_bind (wpS_mono (wpS_forRange (I:=fun y c st'=>SmG st st'/\∃(o:Array Keyed)(i j ac bc:Nat),c=(none,i,j,o,ac,bc)/\LH a.toList b.toList (rv o) i j/\1<=i/\i<=a.size/\2<=j/\j<=b.size/\x+1+y+(i+j)<=a.size+b.size)
   (Q:=fun c st'=>(∃(r:Array Keyed)(z:Nat×Nat×Array Keyed×Nat×Nat),c=(some r,z)/\Q r st')∨SmG st st'/\∃(o:Array Keyed)(i j ac bc:Nat),c=(none,i,j,o,ac,bc)/\LH a.toList b.toList (rv o) i j/\1<=i/\i<=a.size/\2<=j/\j<=b.size/\x+2+(i+j)<=a.size+b.size) ?istep ?ifin ⟨sg1,o,i,j,0,0,rfl,lm,g1,g1',g2,g2',by omega⟩) ?ipost)
  case ifin =>
   rintro c st' ⟨sg,o,i,j,ac,bc,rfl,lm,g1,g1',g2,g2',g3⟩
   exact .inr ⟨sg,o,i,j,ac,bc,rfl,lm,g1,g1',g2,g2',by omega⟩
  case istep =>
   rintro y c st2 _ hy ⟨sg2,o,i,j,ac,bc,rfl,lm,g1,g1',g2,g2',g3⟩
   obtain⟨vb,hvb,ivb⟩:=atB (j-1) (by omega)
   obtain⟨va,hva,iva⟩:=atA (i-1) (by omega)
   have ei:i-1+1=i:=by omega
   have ej:j-1+1=j:=by omega
   dsimp only
   refine wpS_bind (aJ (at_l hvb) (wpS_bind (aJ (at_l hva) (wpS_bind (oO (sg2.k.trans hk) ivb iva ?_)))))
   by_cases c:ky vb<ky va
   ·rw[decide_eq_true c]
    dsimp only
    refine aF rfl ?_
    refine wpS_bind (aJ (at_l hva) ?_)
    have m2:LH a.toList b.toList (rv (o.push va)) (i-1) j:=by
     rw[pC]
     exact LH.a1 (by rw[ei];exact lm) ua hva fun z hz=>by
      have:=jT ub hvb z (by rw[ej];exact hz)
      omega
    by_cases d1:(i-1 == 0)=true
    ·refine aF d1 ?_
     exact wpS_pure (.inl ⟨_,_,rfl,dn _ _ _ _ sg2 m2 (.inl (by simpa using d1))⟩)
    ·refine aD d1 ?_
     have d1':i-1≠0:=by simpa using d1
     split
     ·exact wpS_pure (.inr ⟨sg2,_,_,_,_,_,rfl,m2,by omega,by omega,g2,g2',by omega⟩)
     ·exact wpS_pure ⟨sg2,_,_,_,_,_,rfl,m2,by omega,by omega,g2,g2',by omega⟩
   ·rw[decide_eq_false c]
    dsimp only
    refine aD FO ?_
    refine wpS_bind (aJ (at_l hvb) ?_)
    have m2:LH a.toList b.toList (rv (o.push vb)) i (j-1):=by
     rw[pC]
     exact(LH.a1 (by rw[ej];exact lm.swap) ub hvb fun z hz=>by
      have:=jT ua hva z (by rw[ei];exact hz)
      omega).swap
    by_cases d1:(j-1 == 1)=true
    ·refine aF d1 ?_
     exact wpS_pure (.inl ⟨_,_,rfl,ls _ _ _ _ sg2 m2 (by simpa using d1)⟩)
    ·refine aD d1 ?_
     have d1':j-1≠1:=by simpa using d1
     split
     ·exact wpS_pure (.inr ⟨sg2,_,_,_,_,_,rfl,m2,g1,g1',by omega,by omega,by omega⟩)
     ·exact wpS_pure ⟨sg2,_,_,_,_,_,rfl,m2,g1,g1',by omega,by omega,by omega⟩
  case ipost =>
   rintro c st2 (⟨r,z,rfl,q⟩ | ⟨sg2,o,i,j,ac,bc,rfl,lm,g1,g1',g2,g2',g3⟩)
   ·exact wpS_pure ⟨_,_,rfl,q⟩
   dsimp -zeta -zetaHave only
   refine wpS_bind (wpS_lift (wpAny_rule ⟨rfl,?_⟩))
   refine wpS_bind (wpS_mono (wpS_forRange (I:=fun y c st'=>SmG st st'/\∃(o:Array Keyed)(i j g ac bc:Nat),c=(none,i,j,o,g,ac,bc)/\LH a.toList b.toList (rv o) i j/\1<=i/\i<=a.size/\2<=j/\j<=b.size/\x+2+(i+j)<=a.size+b.size)
    (Q:=fun c st'=>(∃(r:Array Keyed)(z:Nat×Nat×Array Keyed×Nat×Nat×Nat),c=(some r,z)/\Q r st')∨SmG st st'/\∃(o:Array Keyed)(i j g ac bc:Nat),c=(none,i,j,o,g,ac,bc)/\LH a.toList b.toList (rv o) i j/\1<=i/\i<=a.size/\2<=j/\j<=b.size/\x+2+(i+j)<=a.size+b.size) ?jstep ?jfin ⟨sg2,o,i,j,_,ac,bc,rfl,lm,g1,g1',g2,g2',g3⟩) ?jpost)
   case jfin=>exact fun c st' q=>.inr q
   case jpost =>
    rintro c st3 (⟨r,z,rfl,q⟩ | ⟨sg3,o,i,j,g,ac,bc,rfl,lm,g1,g1',g2,g2',g3⟩)
    ·exact wpS_pure ⟨_,_,rfl,q⟩
    dsimp only
    exact wpS_bind (lQ fun st4 sg4=>wpS_pure ⟨sg3.trans sg4,_,_,_,_,rfl,lm,g1,g1',g2,g2',by omega⟩)
   case jstep =>
    rintro y c st3 _ hy ⟨sg3,o,i,j,g,ac,bc,rfl,lm,g1,g1',g2,g2',g3⟩
    walk_at "st"
    walk_at "l11"
    extract_lets -underBinder +onlyGivenNames jp
    clear_value (ej:jp=_)
    refine uU fun R hR=>?_
    refine Dz (F:=fun z=>jp () z) fun g'=>?_
    rw[ej]
    clear ej jp
    walk_at "st"
    refine wpS_bind (lQ fun st4 sg4=>?_)
    have sg34:=sg3.trans sg4
    have k4:=sg34.k.trans hk
    have ej1:j-1+1=j:=by omega
    obtain⟨vb,hvb,ivb⟩:=atB (j-1) (by omega)
    refine wpS_bind (aJ (at_l hvb) ?_)
    refine wpS_bind (xP k4 ivb ua ia (by omega) (by omega) fun k kn kt kf=>?_)
    walk_at "st"
    extract_lets -underBinder +onlyGivenNames kk ac jp
    subst kk ac
    clear_value (ej:jp=_)
    have vbl:=jT ub hvb
    rw[ej1]at vbl
    have hlo:=fR_lo' kt
    have hhi:=fR_hi' kf
    have hj:∀(i':Nat)(o':Array Keyed),LH a.toList b.toList (rv o') i' j->1<=i'->i'<=a.size->(∀ y∈a.toList.take i',ky y<=ky vb)->x+2+(i'+j)<=a.size+b.size->wpS (model prog w) A E s (jp () i' o') R st4:=by
     intro i' o' lm' q1 q1' gv g3'
     rw[ej]
     clear ej jp
     walk_at "st"
     refine wpS_bind (aJ (at_l hvb) ?_)
     have m2:LH a.toList b.toList (rv (o'.push vb)) i' (j-1):=by
      rw[pC]
      exact(LH.a1 (by rw[ej1];exact lm'.swap) ub hvb gv).swap
     by_cases d1:(j-1 == 1)=true
     ·refine aF d1 ?_
      exact wpS_pure (hR _ _ (.inl ⟨_,_,rfl,ls _ _ _ _ sg34 m2 (by simpa using d1)⟩))
     refine aD d1 ?_
     have d1':j-1≠1:=by simpa using d1
     have ei1:i'-1+1=i':=by omega
     obtain⟨va,hva,iva⟩:=atA (i'-1) (by omega)
     have val:=jT ua hva
     rw[ei1]at val
     refine wpS_bind (aJ (at_l hva) ?_)
     refine wpS_bind (xQ k4 iva ub ib (by omega) (by omega) fun k2 kn2 kt2 kf2=>?_)
     walk_at "st"
     extract_lets -underBinder +onlyGivenNames kk ac jp
     subst kk ac
     clear_value (ej:jp=_)
     have hlo2:=fL_lo' kt2
     have hhi2:=fL_hi' kf2
     have hj:∀(j':Nat)(o':Array Keyed),LH a.toList b.toList (rv o') i' j'->2<=j'->j'<=b.size->(∀ y∈b.toList.take j',ky y<=ky va)->x+2+(i'+j')<=a.size+b.size->wpS (model prog w) A E s (jp () j' o') R st4:=by
      intro j' o' lm2 q2 q2' gv' g3''
      rw[ej]
      clear ej jp
      walk_at "st"
      refine wpS_bind (aJ (at_l hva) ?_)
      have m3:LH a.toList b.toList (rv (o'.push va)) (i'-1) j':=by
       rw[pC]
       exact LH.a1 (by rw[ei1];exact lm2) ua hva gv'
      by_cases d2:(i'-1 == 0)=true
      ·refine aF d2 ?_
       exact wpS_pure (hR _ _ (.inl ⟨_,_,rfl,dn _ _ _ _ sg34 m3 (.inl (by simpa using d2))⟩))
      refine aD d2 ?_
      have d2':i'-1≠0:=by simpa using d2
      split
      ·exact wpS_pure (hR _ _ (.inr ⟨sg34,_,_,_,_,_,_,rfl,m3,by omega,by omega,q2,q2',by omega⟩))
      ·exact wpS_pure (hR _ _ ⟨sg34,_,_,_,_,_,_,rfl,m3,by omega,by omega,q2,q2',by omega⟩)
     clear ej
     by_cases z2:j-1-k2 > 0
     ·refine aF z2 ?_
      have m3:LH a.toList b.toList (rv (o'.push vb++(b.extract k2 (j-1)).reverse)) i' k2:=by
       rw[Du,qE]
       exact(m2.swap.a ub (by omega) (by omega) fun x hx y hy=>by have:=hhi2 y hy;have:=val x hx;omega).swap
      by_cases d2:(k2 == 1)=true
      ·refine aF d2 ?_
       exact wpS_pure (hR _ _ (.inl ⟨_,_,rfl,ls _ _ _ _ sg34 m3 (by simpa using d2)⟩))
      refine aD d2 ?_
      have d2':k2≠1:=by simpa using d2
      by_cases d3:(k2 == 0)=true
      ·refine aF d3 ?_
       exact wpS_pure (hR _ _ (.inl ⟨_,_,rfl,dn _ _ _ _ sg34 m3 (.inr (by simpa using d3))⟩))
      refine aD d3 ?_
      have d3':k2≠0:=by simpa using d3
      exact hj _ _ m3 (by omega) (by omega) (fun y hy=>GB (hlo2 y hy)) (by omega)
     ·refine aD z2 ?_
      have:k2=j-1:=by omega
      subst this
      exact hj _ _ m2 (by omega) (by omega) (fun y hy=>GB (hlo2 y hy)) (by omega)
    clear ej
    by_cases z:i-k > 0
    ·refine aF z ?_
     have m2:LH a.toList b.toList (rv (o++(a.extract k i).reverse)) k j:=by
      rw[Du,qE]
      exact lm.a ua (by omega) (by omega) fun x hx y hy=>by have:=hhi y hy;have:=vbl x hx;omega
     by_cases d1:(k == 0)=true
     ·refine aF d1 ?_
      exact wpS_pure (hR _ _ (.inl ⟨_,_,rfl,dn _ _ _ _ sg34 m2 (.inl (by simpa using d1))⟩))
     refine aD d1 ?_
     have d1':k≠0:=by simpa using d1
     exact hj _ _ m2 (by omega) (by omega) hlo (by omega)
    ·refine aD z ?_
     have:k=i:=by omega
     subst this
     exact hj _ _ lm g1 g1' hlo (by omega)
end PyProof.Rows
namespace PyProof.Rows
open PySem
local macro_rules | `(tactic| walk_at "countRun") => do
 let n:=Lean.mkIdent (Lean.mkPrivateNameCore `PySem.Builtin.List.W1All `PySem.Builtin.countRun)
 `(tactic| delta $n)
local macro_rules | `(tactic| walk_at "binarySort") => do
 let n:=Lean.mkIdent (Lean.mkPrivateNameCore `PySem.Builtin.List.W1All `PySem.Builtin.binarySort)
 `(tactic| delta $n)
local macro_rules | `(tactic| walk_at "st") => `(tactic| try dsimp -zeta -zetaHave only)
local macro_rules | `(tactic| walk_at "l3") => `(tactic| (extract_lets -underBinder +onlyGivenNames a b c; subst a b c))
local macro_rules | `(tactic| walk_at "l11") => `(tactic| (extract_lets -underBinder +onlyGivenNames a b c d e f g h i j k; subst a b c d e f g h i j k; dsimp -zeta -zetaHave only))
local macro_rules | `(tactic| walk_at "l1") => `(tactic| (extract_lets -underBinder +onlyGivenNames a; subst a; try dsimp -zeta -zetaHave only))
local macro_rules | `(tactic| walk_at "l2") => `(tactic| (extract_lets -underBinder +onlyGivenNames a b; subst a b; try dsimp -zeta -zetaHave only))
local macro_rules | `(tactic| walk_at "l4") => `(tactic| (extract_lets -underBinder +onlyGivenNames a b c d; subst a b c d; try dsimp -zeta -zetaHave only))
variable{prog:Program}{w:World}{A:Around}{E:Value->Shared->Prop}{s:Shared}
structure SB(lo:Nat)(st0 st:SortSt):Prop where
 perm:(arrOf st).Perm (arrOf st0)
 kind:kindOf st=oneType'
 failed:failedOf st=failedOf st0
 pend:pendingOf st=pendingOf st0
 low:∀ i,i<lo->(arrOf st)[i]?=(arrOf st0)[i]?
theorem SB.set{lo:Nat}{st0 st:SortSt}(h:SB lo st0 st){xs:Array Keyed}(hp:xs.Perm (arrOf st))(hl:∀ i,i<lo->xs[i]?=(arrOf st)[i]?):SB lo st0 (setArr st xs) :=
 ⟨hp.trans h.perm,h.kind,h.failed,h.pend,fun i hi=>(hl i hi).trans (h.low i hi)⟩
theorem SB.size{lo:Nat}{st0 st:SortSt}(h:SB lo st0 st):(arrOf st).size=(arrOf st0).size:=h.perm.size_eq
def Sin(xs:Array Keyed)(lo n:Nat):Prop:=∀ i j,lo<=i->i<=j->j<lo+n->K xs i<=K xs j
def Nin(xs:Array Keyed)(lo n:Nat):Prop:=∀ i j,lo<=i->i<=j->j<lo+n->K xs j<=K xs i
theorem jS{lo:Nat}{st0 st:SortSt}{i j:Nat}{Q:Option Bool->SortSt->Prop}(hB:SB lo st0 st)(h0:IntKeys (arrOf st0))(hi:i<(arrOf st0).size)(hj:j<(arrOf st0).size)
  (h:Q (some (decide (K (arrOf st) i<K (arrOf st) j))) st):wpS (model prog w) A E s ((sortPriv% PySem.Builtin.ltAt) i j) Q st:=by
 have at':∀ i,i<(arrOf st0).size->∃ t q,(arrOf st)[i]?=some (.int (K (arrOf st) i) t,q):=fun i hi=>by
  have hi':i<(arrOf st).size:=by rw[hB.size];exact hi
  obtain⟨n,t,hn⟩:=h0 (arrOf st)[i] ((Hv.mp hB.perm).mem_iff.mp (by simp))
  have e:(arrOf st)[i]?=some (arrOf st)[i]:=getElem?_pos _ i hi'
  refine⟨t,(arrOf st)[i].2,?_⟩
  unfold K
  rw[e]
  show some (arrOf st)[i]=some (.int (numOf (arrOf st)[i].1) t,(arrOf st)[i].2)
  rw[hn]
  exact congrArg some (Prod.ext hn rfl)
 obtain⟨t,p,e1⟩:=at' i hi
 obtain⟨u,q,e2⟩:=at' j hj
 exact wpS_ltAt hB.kind e1 e2 h
theorem lR{lo:Nat}{st0 st:SortSt}{i j:Nat}{Q:Unit->SortSt->Prop}(hB:SB lo st0 st)(hl:lo<=i)(hj:j<=(arrOf st0).size)(h:∀ st',SB lo st0 st'->(∀ k,K (arrOf st') k=if i<=k/\k<j then K (arrOf st) (i+j-1-k) else K (arrOf st) k)->Q () st') :
  wpS (model prog w) A E s ((sortPriv% PySem.Builtin.reverseSlice) i j) Q st:=by
 have hj':j<=(arrOf st).size:=by rw[hB.size];exact hj
 refine wpS_reverse (h _ (hB.set (mirror_perm _ _ _ _) fun k hk=>?_) fun k=>K_mirror hj' k)
 rw[getElem?_mirror_all hj',if_neg (by omega)]
theorem DY(xs:Array Keyed)(lo:Nat):Sin xs lo 1:=fun i j h1 h2 h3=>by
 have:i=j:=by omega
 rw[this];exact GO _
theorem Ds{xs:Array Keyed}{lo n:Nat}(h:Sin xs lo n)(n1:1<=n)(c:¬ K xs (lo+n)<K xs (lo+n-1)):Sin xs lo (n+1):=fun i j h1 h2 h3=>by
 by_cases z:j<lo+n
 ·exact h i j h1 h2 z
 ·have ej:j=lo+n:=by omega
  by_cases zi:i=j
  ·rw[zi];exact GO _
  ·have:=h i (lo+n-1) h1 (by omega) (by omega)
   rw[ej];omega
theorem yj{xs:Array Keyed}{lo n:Nat}(h:Nin xs lo n)(n1:1<=n)(c:K xs (lo+n)<=K xs (lo+n-1)):Nin xs lo (n+1):=fun i j h1 h2 h3=>by
 by_cases z:j<lo+n
 ·exact h i j h1 h2 z
 ·have ej:j=lo+n:=by omega
  by_cases zi:i=j
  ·rw[zi];exact GO _
  ·have:=h i (lo+n-1) h1 (by omega) (by omega)
   rw[ej];omega
def ue:Nat->Nat->StateT SortSt Sem (Option Nat):=sortPriv% PySem.Builtin.countRun
theorem yJ{st0:SortSt}{lo nrem:Nat}{Q:Option Nat->SortSt->Prop}(hk:kindOf st0=oneType')(h0:IntKeys (arrOf st0))(hn:lo+nrem<=(arrOf st0).size)(n1:1<=nrem)
  (h:∀ m st',SB lo st0 st'->1<=m->m<=nrem->Sin (arrOf st') lo m->Q (some m) st'):wpS (model prog w) A E s (ue lo nrem) Q st0:=by
 have hB:SB lo st0 st0:=⟨Array.Perm.refl _,hk,rfl,rfl,fun _ _=>rfl⟩
 unfold ue
 walk_at "countRun"
 refine wpS_bind (wpS_mono (wpS_forRange (I:=fun x c st'=>st'=st0/\c=(none,x)/\Sin (arrOf st0) lo x)
  (Q:=fun c st'=>st'=st0/\∃ n,c=(none,n)/\1<=n/\n<=nrem/\Sin (arrOf st0) lo n/\(n=nrem∨K (arrOf st0) (lo+n)<K (arrOf st0) (lo+n-1))) ?step ?fin ⟨rfl,rfl,DY _ _⟩) ?post)
 case fin =>
  rintro c st' ⟨rfl,rfl,hs⟩
  rw[show max 1 nrem=nrem by omega]at hs ⊢
  exact⟨rfl,nrem,rfl,n1,Ff _,hs,.inl rfl⟩
 case step =>
  rintro x c st' h1 h2 ⟨rfl,rfl,hs⟩
  dsimp only
  refine wpS_bind (jS hB h0 (by omega) (by omega) ?_)
  by_cases z:K (arrOf st') (lo+x)<K (arrOf st') (lo+x-1)
  ·simp only[z,decide_true,if_true]
   exact wpS_pure ⟨rfl,x,rfl,h1,by omega,hs,.inr z⟩
  ·simp only[z,decide_false,Gb,if_false]
   exact wpS_pure ⟨rfl,rfl,Ds hs h1 z⟩
 case post =>
  rintro c st' ⟨rfl,n,rfl,g1,g2,hs,hor⟩
  walk_at "st"
  walk_at "l2"
  by_cases z:(n == nrem)=true
  ·refine aF z ?_
   exact wpS_pure (h n st' hB g1 g2 hs)
  refine aD z ?_
  have z':n≠nrem:=by simpa using z
  have hlt:=hor.resolve_left z'
  extract_lets -underBinder +onlyGivenNames jp
  clear_value (ej:jp=_)
  have hj:∀ st1,SB lo st' st1->Nin (arrOf st1) lo (n+1)->wpS (model prog w) A E s (jp ()) Q st1:=by
   intro st1 hB1 hs1
   rw[ej]
   clear ej jp
   walk_at "st"
   refine wpS_bind (wpS_lift (wpAny_rule ⟨rfl,?_⟩))
   refine wpS_bind (wpS_mono (wpS_forRange (I:=fun x c st2=>SB lo st' st2/\∃ neq,c=(none,x,neq)/\Nin (arrOf st2) lo x/\neq+1<=x/\(∀ i,lo+x-(neq+1)<=i->i<lo+x->K (arrOf st2) i=K (arrOf st2) (lo+x-1)))
    (Q:=fun c st2=>SB lo st' st2/\∃ m neq,c=(none,m,neq)/\1<=m/\m<=nrem/\Nin (arrOf st2) lo m/\neq+1<=m/\(∀ i,lo+m-(neq+1)<=i->i<lo+m->K (arrOf st2) i=K (arrOf st2) (lo+m-1))) ?dstep ?dfin ⟨hB1,0,rfl,hs1,by omega,fun i h1 h2=>by congr 1;omega⟩) ?dpost)
   case dfin =>
    rintro c st2 ⟨hB2,neq,rfl,hs2,q1,q2⟩
    rw[show max (n+1) nrem=nrem by omega]at hs2 q1 q2 ⊢
    exact⟨hB2,nrem,neq,rfl,by omega,Ff _,hs2,q1,q2⟩
   case dstep =>
    rintro x c st2 h1 h2 ⟨hB2,neq,rfl,hs2,q1,q2⟩
    dsimp only
    refine wpS_bind (jS hB2 h0 (by omega) (by omega) ?_)
    by_cases z:K (arrOf st2) (lo+x)<K (arrOf st2) (lo+x-1)
    ·simp only[z,decide_true,if_true]
     have nx:=yj hs2 (by omega) (GB z)
     by_cases y:neq > 0
     ·refine aF y ?_
      refine wpS_bind (lR hB2 (by omega) (by omega) fun st3 hB3 e3=>?_)
      have e3':∀ k,K (arrOf st3) k=K (arrOf st2) k:=fun k=>by
       rw[e3]
       split
       ·rename_i hk
        rw[q2 _ (by omega) (by omega),q2 k (by omega) (by omega)]
       ·rfl
      refine wpS_pure ⟨hB3,0,rfl,fun i j a1 a2 a3=>?_,by omega,fun i h1 h2=>by congr 1;omega⟩
      rw[e3',e3']
      exact nx i j a1 a2 a3
     ·refine aD y ?_
      exact wpS_pure ⟨hB2,0,rfl,nx,by omega,fun i h1 h2=>by congr 1;omega⟩
    ·simp only[z,decide_false,Gb,if_false]
     refine wpS_bind (jS hB2 h0 (by omega) (by omega) ?_)
     by_cases y:K (arrOf st2) (lo+x-1)<K (arrOf st2) (lo+x)
     ·simp only[y,decide_true,if_true]
      exact wpS_pure ⟨hB2,x,neq,rfl,by omega,by omega,hs2,q1,q2⟩
     ·simp only[y,decide_false,Gb,if_false]
      have eq:K (arrOf st2) (lo+x)=K (arrOf st2) (lo+x-1):=by omega
      refine wpS_pure ⟨hB2,neq+1,rfl,yj hs2 (by omega) (by omega),by omega,fun i a1 a2=>?_⟩
      rw[show lo+(x+1)-1=lo+x by omega]
      by_cases ix:i=lo+x
      ·rw[ix]
      ·rw[eq];exact q2 i (by omega) (by omega)
   case dpost =>
    rintro c st2 ⟨hB2,m,neq,rfl,m1,m2,hs2,q1,q2⟩
    walk_at "st"
    walk_at "l4"
    extract_lets -underBinder +onlyGivenNames jp
    clear_value (ej:jp=_)
    have hj:∀ st3,SB lo st' st3->Nin (arrOf st3) lo m->wpS (model prog w) A E s (jp ()) Q st3:=by
     intro st3 hB3 hs3
     rw[ej]
     clear ej jp
     walk_at "st"
     refine wpS_bind (lR hB3 (Ff _) (by omega) fun st4 hB4 e4=>?_)
     have hs4:Sin (arrOf st4) lo m:=fun i j a1 a2 a3=>by
      rw[e4,e4,if_pos (by omega),if_pos (by omega)]
      exact hs3 _ _ (by omega) (by omega) (by omega)
     refine wpS_bind (wpS_mono (wpS_forRange (I:=fun x c st'=>st'=st4/\c=(none,x)/\Sin (arrOf st4) lo x) (Q:=fun c st'=>st'=st4/\∃ n,c=(none,n)/\1<=n/\n<=nrem/\Sin (arrOf st4) lo n) ?ustep ?ufin ⟨rfl,rfl,hs4⟩) ?upost)
     case ufin =>
      rintro c st5 ⟨rfl,rfl,hs5⟩
      rw[show max m nrem=nrem by omega]at hs5 ⊢
      exact⟨rfl,nrem,rfl,n1,Ff _,hs5⟩
     case ustep =>
      rintro x c st5 h1 h2 ⟨rfl,rfl,hs5⟩
      dsimp only
      refine wpS_bind (jS hB4 h0 (by omega) (by omega) ?_)
      by_cases z:K (arrOf st5) (lo+x)<K (arrOf st5) (lo+x-1)
      ·simp only[z,decide_true,if_true]
       exact wpS_pure ⟨rfl,x,rfl,by omega,by omega,hs5⟩
      ·simp only[z,decide_false,Gb,if_false]
       exact wpS_pure ⟨rfl,rfl,Ds hs5 (by omega) z⟩
     case upost =>
      rintro c st5 ⟨rfl,k,rfl,k1,k2,hs5⟩
      exact wpS_pure (h k st5 hB4 k1 k2 hs5)
    by_cases y:neq > 0
    ·refine aF y ?_
     refine wpS_bind (lR hB2 (by omega) (by omega) fun st3 hB3 e3=>hj st3 hB3 fun i j a1 a2 a3=>?_)
     have e3':∀ k,K (arrOf st3) k=K (arrOf st2) k:=fun k=>by
      rw[e3]
      split
      ·rename_i hk
       rw[q2 _ (by omega) (by omega),q2 k (by omega) (by omega)]
      ·rfl
     rw[e3',e3']
     exact hs2 i j a1 a2 a3
    ·refine aD y ?_
     exact hj st2 hB2 hs2
  by_cases y:n > 1
  ·refine aF y ?_
   refine wpS_bind (jS hB h0 (by omega) (by omega) ?_)
   by_cases r:K (arrOf st') lo<K (arrOf st') (lo+n-1)
   ·simp only[r,decide_true,if_true]
    exact wpS_pure (h n st' hB g1 g2 hs)
   ·simp only[r,decide_false,Gb,if_false]
    have all:∀ k,lo<=k->k<lo+n->K (arrOf st') k=K (arrOf st') (lo+n-1):=fun k a1 a2=>by
     have b1:=hs lo k (Ff _) a1 a2
     have b2:=hs k (lo+n-1) a1 (by omega) (by omega)
     omega
    refine wpS_bind (lR hB (Ff _) (by omega) fun st1 hB1 e1=>hj st1 hB1 ?_)
    have e1':∀ k,K (arrOf st1) k=K (arrOf st') k:=fun k=>by
     rw[e1]
     split
     ·rename_i hk
      rw[all _ (by omega) (by omega),all k (by omega) (by omega)]
     ·rfl
    refine yj (fun i j a1 a2 a3=>?_) (by omega) ?_
    ·rw[e1',e1',all i a1 (by omega),all j (by omega) a3]
     exact GO _
    ·rw[e1',e1']
     exact GB hlt
  ·refine aD y ?_
   have:n=1:=by omega
   subst this
   refine hj st' hB (yj (fun i j a1 a2 a3=>?_) (by omega) (GB hlt))
   have:i=j:=by omega
   rw[this];exact GO _
def nj:Nat->Nat->Nat->StateT SortSt Sem Bool:=sortPriv% PySem.Builtin.binarySort
theorem BZ{st0 st:SortSt}{lo n m:Nat}{Q:Bool->SortSt->Prop}(h0:IntKeys (arrOf st0))(hn:lo+n<=(arrOf st0).size)(hm:m<=n)(hB:SB lo st0 st)(hs:Sin (arrOf st) lo m)
  (h:∀ st',SB lo st0 st'->Sin (arrOf st') lo n->Q true st'):wpS (model prog w) A E s (nj lo n m) Q st:=by
 unfold nj
 walk_at "binarySort"
 refine wpS_bind (wpS_mono (wpS_forRange (I:=fun k c st'=>c=(none,())/\SB lo st0 st'/\Sin (arrOf st') lo (min k n))
  (Q:=fun c st'=>c=(none,())/\SB lo st0 st'/\Sin (arrOf st') lo n) ?step ?fin ?init) ?post)
 case post =>
  rintro c st' ⟨rfl,hB',hs'⟩
  exact wpS_pure (h st' hB' hs')
 case init =>
  refine⟨rfl,hB,fun i j h1 h2 h3=>?_⟩
  by_cases z:m=0
  ·have:i=j:=by omega
   rw[this];exact GO _
  ·exact hs i j h1 h2 (by omega)
 case fin =>
  rintro c st' ⟨hc,hB',hs'⟩
  refine⟨hc,hB',?_⟩
  rwa[show min (max (max m 1) n) n=n by omega]at hs'
 case step =>
  rintro k c st' hak hkn ⟨rfl,hB',hs'⟩
  rw[show min k n=k by omega]at hs'
  dsimp only
  refine wpS_bind (wpS_mono (wpS_forRange (I:=fun x c st''=>st''=st'/\∃ l r,c=(none,l,r)/\l<=r/\r<=k/\r-l<=k-x /\
    (∀ i,lo<=i->i<lo+l->K (arrOf st') i<=K (arrOf st') (lo+k))/\(∀ i,lo+r<=i->i<lo+k->K (arrOf st') (lo+k)<K (arrOf st') i))
   (Q:=fun c st''=>st''=st'/\∃ l,c=(none,l,l)/\l<=k /\
    (∀ i,lo<=i->i<lo+l->K (arrOf st') i<=K (arrOf st') (lo+k))/\(∀ i,lo+l<=i->i<lo+k->K (arrOf st') (lo+k)<K (arrOf st') i)) ?istep ?ifin ⟨rfl,0,k,rfl,by omega,by omega,by omega,fun i h1 h2=>by omega,fun i h1 h2=>by omega⟩) ?ipost)
  case ifin =>
   rintro c st'' ⟨rfl,l,r,rfl,q1,q2,q3,q4,q5⟩
   have:l=r:=by omega
   subst this
   exact⟨rfl,l,rfl,q2,q4,q5⟩
  case istep =>
   rintro x c st'' _ hxk ⟨rfl,l,r,rfl,q1,q2,q3,q4,q5⟩
   dsimp only
   by_cases z:l ≥ r
   ·refine aF z ?_
    have:l=r:=by omega
    subst this
    exact wpS_pure ⟨rfl,l,rfl,q2,q4,q5⟩
   ·refine aD z ?_
    refine wpS_bind (jS hB' h0 (by omega) (by omega) ?_)
    by_cases y:K (arrOf st'') (lo+k)<K (arrOf st'') (lo+(l+r)/2)
    ·simp only[y,decide_true,if_true]
     refine wpS_pure ⟨rfl,l,(l+r)/2,rfl,by omega,by omega,by omega,q4,fun i h1 h2=>?_⟩
     have:=hs' (lo+(l+r)/2) i (by omega) h1 h2
     omega
    ·simp only[y,decide_false,Gb,if_false]
     refine wpS_pure ⟨rfl,(l+r)/2+1,r,rfl,by omega,by omega,by omega,fun i h1 h2=>?_,q5⟩
     have:=hs' i (lo+(l+r)/2) h1 (by omega) (by omega)
     omega
  case ipost =>
   rintro c st'' ⟨rfl,l,rfl,q1,q2,q3⟩
   dsimp only
   have hks:lo+k<(arrOf st'').size:=by rw[hB'.size];omega
   have el:lo+k-(lo+k-(lo+l))=lo+l:=by omega
   refine wpS_bind ?_
   show wpS _ _ _ _ (moveDown' (lo+k) (lo+l)) _ _
   rw[moveDown'_eq]
   refine wpS_modify (wpS_pure ⟨rfl,hB'.set (bubble_perm _ _ _) fun i hi=>?_,?_⟩)
   ·rw[getElem?_bubble hks _ (by omega),el,if_neg (by omega),if_neg (by omega)]
   ·rw[show min (k+1) n=k+1 by omega]
    intro i j h1 h2 h3
    show K (bubble (arrOf st'') (lo+k) (lo+k-(lo+l))) i<=K (bubble (arrOf st'') (lo+k) (lo+k-(lo+l))) j
    rw[K_bubble hks (by omega),K_bubble hks (by omega),el]
    repeat' split
    all_goals first
     | (exfalso;omega)
     |exact GO _
     |exact q2 _ (by omega) (by omega)
     |exact GB (q3 _ (by omega) (by omega))
     |exact hs' _ _ (by omega) (by omega) (by omega)
end PyProof.Rows
namespace PyProof.Rows
open PySem
local macro_rules | `(tactic| walk_at "mergeAt") => do
 let n:=Lean.mkIdent (Lean.mkPrivateNameCore `PySem.Builtin.List.W1All `PySem.Builtin.mergeAt)
 `(tactic| delta $n)
local macro_rules | `(tactic| walk_at "st") => `(tactic| try dsimp -zeta -zetaHave only)
local macro_rules | `(tactic| walk_at "l3") => `(tactic| (extract_lets -underBinder +onlyGivenNames a b c; subst a b c))
local macro_rules | `(tactic| walk_at "l11") => `(tactic| (extract_lets -underBinder +onlyGivenNames a b c d e f g h i j k; subst a b c d e f g h i j k; dsimp -zeta -zetaHave only))
local macro_rules | `(tactic| walk_at "l1") => `(tactic| (extract_lets -underBinder +onlyGivenNames a; subst a; try dsimp -zeta -zetaHave only))
local macro_rules | `(tactic| walk_at "l2") => `(tactic| (extract_lets -underBinder +onlyGivenNames a b; subst a b; try dsimp -zeta -zetaHave only))
local macro_rules | `(tactic| walk_at "l4") => `(tactic| (extract_lets -underBinder +onlyGivenNames a b c d; subst a b c d; try dsimp -zeta -zetaHave only))
variable{prog:Program}{w:World}{A:Around}{E:Value->Shared->Prop}{s:Shared}
theorem rO{P:List Keyed}{i n m:Nat}(hm:m<n):((P.drop i).take n)[m]?=P[i+m]?:=by
 rw[GX,if_pos hm,GH]
theorem Dt{P:List Keyed}{i n x y:Nat}{p q:Keyed}(u:Upl ((P.drop i).take n))(hp:P[i+x]?=some p)(hq:P[i+y]?=some q)(h:x<=y)(hy:y<n):ky p<=ky q :=
 Ad u (i:=x) (j:=y) (by rw[rO (by omega)];exact hp) (by rw[rO hy];exact hq) h
theorem Ab{st:SortSt}{key:Keyed}{arr:Array Keyed}{base n hint:Nat}{Q:Option Nat->SortSt->Prop}(hk:kindOf st=oneType')(hkey:IntP key)(u:Upl ((arr.toList.drop base).take n))(ip:∀ x∈arr.toList,IntP x)(hn:base+n<=arr.size)(hh:hint<n)
  (h:∀ k,k<=n->(∀ i,i<k->fR arr.toList base key i=true)->(∀ i,k<=i->i<n->fR arr.toList base key i=false)->Q (some k) st):wpS (model prog w) A E s ((sortPriv% PySem.Builtin.gallop) false key arr base n hint) Q st:=by
 have la:arr.toList.length=arr.size:=by simp
 refine ic (fR arr.toList base key) hk hkey (fun i hi=>?_) (fun x y hxy hy e=>?_) hh h
 ·have hx:arr.toList[base+i]?=some arr.toList[base+i]:=E4 (by omega)
  exact⟨_,by rw[← hx];simp,ip _ (Gz _),by rw[mO hx];rfl⟩
 ·have hx:arr.toList[base+x]?=some arr.toList[base+x]:=E4 (by omega)
  have hy':arr.toList[base+y]?=some arr.toList[base+y]:=E4 (by omega)
  rw[mO hy']at e
  rw[mO hx]
  have:=Dt u hx hy' hxy hy
  simp only[HF,decide_eq_false_iff_not]at e ⊢
  omega
theorem Ac{st:SortSt}{key:Keyed}{arr:Array Keyed}{base n hint:Nat}{Q:Option Nat->SortSt->Prop}(hk:kindOf st=oneType')(hkey:IntP key)(u:Upl ((arr.toList.drop base).take n))(ip:∀ x∈arr.toList,IntP x)(hn:base+n<=arr.size)(hh:hint<n)
  (h:∀ k,k<=n->(∀ i,i<k->fL arr.toList base key i=true)->(∀ i,k<=i->i<n->fL arr.toList base key i=false)->Q (some k) st):wpS (model prog w) A E s ((sortPriv% PySem.Builtin.gallop) true key arr base n hint) Q st:=by
 have la:arr.toList.length=arr.size:=by simp
 refine ic (fL arr.toList base key) hk hkey (fun i hi=>?_) (fun x y hxy hy e=>?_) hh h
 ·have hx:arr.toList[base+i]?=some arr.toList[base+i]:=E4 (by omega)
  exact⟨_,by rw[← hx];simp,ip _ (Gz _),by rw[nZ hx];rfl⟩
 ·have hx:arr.toList[base+x]?=some arr.toList[base+x]:=E4 (by omega)
  have hy':arr.toList[base+y]?=some arr.toList[base+y]:=E4 (by omega)
  rw[nZ hy']at e
  rw[nZ hx]
  have:=Dt u hx hy' hxy hy
  simp only[decide_eq_true_eq]at e ⊢
  omega
theorem A5{P:List Keyed}{i n k:Nat}{y:Keyed}(h:y∈((P.drop i).take n).drop k):∃ m,k<=m/\m<n/\P[i+m]?=some y:=by
 obtain⟨m,e⟩:=A6 h
 have hl:=(E3.mp e).1
 rw[Fw]at hl
 rw[rO (by omega)]at e
 exact⟨k+m,by omega,by omega,e⟩
theorem fR_sh{P:List Keyed}{i n k:Nat}{v:Keyed}(h:∀ m,k<=m->m<n->fR P i v m=false):∀ y∈((P.drop i).take n).drop k,ky v<ky y:=fun y hy=>by
 obtain⟨m,h1,h2,e⟩:=A5 hy
 have:=h m h1 h2
 rw[mO e]at this
 simpa using this
theorem fL_sh{P:List Keyed}{i n k:Nat}{v:Keyed}(h:∀ m,k<=m->m<n->fL P i v m=false):∀ y∈((P.drop i).take n).drop k,ky v<=ky y:=fun y hy=>by
 obtain⟨m,h1,h2,e⟩:=A5 hy
 have:=h m h1 h2
 rw[nZ e]at this
 simp only[decide_eq_false_iff_not]at this
 omega
theorem yz(c:Nat):∀(l:List Keyed)(n:Nat)(xs:Array Keyed),c+n+l.length<=xs.size->((l.zipIdx n).foldl (fun a x=>match x with | (p,j)=>a.setIfInBounds (c+j) p) xs).toList=xs.toList.take (c+n)++l++xs.toList.drop (c+n+l.length)
 |[],n,xs,_=>by
  show xs.toList=_
  rw[Hc,Hr,Nat.add_zero,Fy]
 |p::l,n,xs,h=>by
  have ll:xs.toList.length=xs.size:=by simp
  rw[FV]at h ⊢
  rw[List.zipIdx_cons,List.foldl_cons]
  show((l.zipIdx (n+1)).foldl _ (xs.setIfInBounds (c+n) p)).toList=_
  rw[yz c l (n+1) _ (by rw[ID];omega),Iw,List.drop_set_of_lt (by omega),show c+(n+1)=c+n+1 by omega,show c+n+1+l.length=c+n+(l.length+1) by omega]
  have e:(xs.toList.set (c+n) p).take (c+n+1)=xs.toList.take (c+n)++[p]:=by
   rw[F2,List.take_set_of_le (Ff _),Hd (by omega)]
   rfl
  rw[e,FJ (xs.toList.take (c+n)) [p] l]
  rfl
theorem xT{P R:List Keyed}(u:Upl P)(v:Upl R)(c:∀ x∈P,∀ y∈R,ky x<=ky y):Upl (P++R):=F1.mpr ⟨u,v,c⟩
theorem DN{σ:Type}{M:Model}{x st:σ}{Q:PUnit->σ->Prop}(h:Q ⟨⟩ x):wpS M A E s (set x:StateT σ Sem PUnit) Q st:=by
 unfold wpS
 rw[StateT.run_set]
 exact wpAny_pure ⟨rfl,h⟩
def yr:Nat->StateT SortSt Sem Bool:=sortPriv% PySem.Builtin.mergeAt
theorem uT{st:SortSt}{i sa na pa sb nb pb:Nat}{Q:Bool->SortSt->Prop}(hk:kindOf st=oneType')(hf:failedOf st=none)(h0:IntKeys (arrOf st))(p1:(pendingOf st)[i]?=some (sa,na,pa))(p2:(pendingOf st)[i+1]?=some (sb,nb,pb))(es:sb=sa+na)(a1:1<=na)(b1:1<=nb)(le:sb+nb<=(arrOf st).size)
  (s1:Upl (((arrOf st).toList.drop sa).take na)) (s2:Upl (((arrOf st).toList.drop sb).take nb))
  (h:∀(st':SortSt)(M:List Keyed),kindOf st'=oneType'->failedOf st'=none->pendingOf st'=((pendingOf st).setIfInBounds i (sa,na+nb,pa)).eraseIdxIfInBounds (i+1)->(arrOf st').toList=(arrOf st).toList.take sa++M++(arrOf st).toList.drop (sb+nb)->M.Perm (((arrOf st).toList.drop sa).take na++((arrOf st).toList.drop sb).take nb)->Upl M->Q true st') :
  wpS (model prog w) A E s (yr i) Q st:=by
 unfold yr
 walk_at "mergeAt"
 refine wpS_bind (wpS_get ?_)
 rw[show((sortPriv% PySem.Builtin.SortState.pending) st)[i]?=some (sa,na,pa) from p1,show((sortPriv% PySem.Builtin.SortState.pending) st)[i+1]?=some (sb,nb,pb) from p2]
 dsimp -zeta -zetaHave only
 refine wpS_bind (DN ?_)
 obtain⟨xs,exs⟩:∃ xs,arrOf st=xs:=⟨_,rfl⟩
 obtain⟨st1,est1⟩:∃ st1:SortSt,SortSt.mk' (kindOf st) (arrOf st) (((pendingOf st).setIfInBounds i (sa,na+nb,pa)).eraseIdxIfInBounds (i+1)) (gallopOf st) (failedOf st)=st1:=⟨_,rfl⟩
 have k1:kindOf st1=oneType':=by rw[← est1];exact hk
 have f1:failedOf st1=none:=by rw[← est1];exact hf
 have e1:arrOf st1=xs:=by rw[← est1,← exs]
 have q1:pendingOf st1=((pendingOf st).setIfInBounds i (sa,na+nb,pa)).eraseIdxIfInBounds (i+1):=by rw[← est1]
 show wpS (model prog w) A E s _ Q (SortSt.mk' (kindOf st) (arrOf st) (((pendingOf st).setIfInBounds i (sa,na+nb,pa)).eraseIdxIfInBounds (i+1)) (gallopOf st) (failedOf st))
 rw[est1]
 clear est1
 rw[show(sortPriv% PySem.Builtin.SortState.a) st=xs from exs]
 rw[exs]at h0 le s1 s2 h
 clear exs p1 p2 hf hk
 have ll:xs.toList.length=xs.size:=by simp
 have ip:∀ x∈xs.toList,IntP x:=fun x hx=>h0 x hx
 have at':∀ i,i<xs.size->∃ x,xs.toList[i]?=some x/\IntP x:=fun i hi=>⟨_,E4 (by omega),ip _ (Gz _)⟩
 obtain⟨b0,hb0,ib0⟩:=at' sb (by omega)
 refine wpS_bind (aJ (at_l hb0) ?_)
 refine wpS_bind (Ab k1 ib0 s1 ip (by omega) (by omega) fun k kn kt kf=>?_)
 dsimp -zeta -zetaHave only
 obtain⟨S1,eS1⟩:∃ S1,(xs.toList.drop sa).take na=S1:=⟨_,rfl⟩
 obtain⟨S2,eS2⟩:∃ S2,(xs.toList.drop sb).take nb=S2:=⟨_,rfl⟩
 have l1:S1.length=na:=by rw[← eS1,Fw,FQ];omega
 have l2:S2.length=nb:=by rw[← eS2,Fw,FQ];omega
 have tk1:S1.take k=(xs.toList.drop sa).take k:=by rw[← eS1,Hz,Gk kn]
 have lo1:∀ x∈S1.take k,ky x<=ky b0:=by rw[tk1];exact EH kt
 have hi1:∀ y∈S1.drop k,ky b0<ky y:=by rw[← eS1];exact fR_sh kf
 have bS:S2[0]?=some b0:=by rw[← eS2,rO (by omega)];exact hb0
 rw[eS1]at s1
 rw[eS2]at s2
 have b0l:∀ y∈S2,ky b0<=ky y:=iK (i:=0) s2 bS
 have whole:Upl (S1++S2)->Q true st1:=fun u=>h st1 (S1++S2) k1 f1 q1 (by
  rw[e1,← eS1,← eS2,← FJ,es,← Hl,← Hl,← es,Fy]) (by rw[eS1,eS2]) u
 by_cases z:(na-k == 0)=true
 ·refine aF z ?_
  have z':na-k=0:=by simpa using z
  refine wpS_pure (whole (xT s1 s2 fun x hx y hy=>?_))
  have:=lo1 x (by rw[FN (by omega)];exact hx)
  have:=b0l y hy
  omega
 refine aD z ?_
 have z':na-k≠0:=by simpa using z
 obtain⟨al,hal,ial⟩:=at' (sa+k+(na-k)-1) (by omega)
 have aS:S1[na-1]?=some al:=by rw[← eS1,rO (by omega),← hal];congr 1;omega
 refine wpS_bind (aJ (at_l hal) ?_)
 refine wpS_bind (Ac k1 ial (by rw[eS2];exact s2) ip (by omega) (by omega) fun m mn mt mf=>?_)
 dsimp -zeta -zetaHave only
 have tk2:S2.take m=(xs.toList.drop sb).take m:=by rw[← eS2,Hz,Gk mn]
 have lo2:∀ x∈S2.take m,ky x<ky al:=by rw[tk2];exact EJ mt
 have hi2:∀ y∈S2.drop m,ky al<=ky y:=by rw[← eS2];exact fL_sh mf
 have all:∀ x∈S1,ky x<=ky al:=fun x hx=>jT s1 aS x (by rw[FN (by omega)];exact hx)
 by_cases y:(m == 0)=true
 ·refine aF y ?_
  have y':m=0:=by simpa using y
  subst y'
  exact wpS_pure (whole (xT s1 s2 fun x hx y hy=>Int.le_trans (all x hx) (hi2 y hy)))
 refine aD y ?_
 have y':m≠0:=by simpa using y
 walk_at "st"
 extract_lets -underBinder +onlyGivenNames xx yy jp
 subst xx yy
 clear_value (ej:jp=_)
 have ea:(xs.extract (sa+k) sb).toList=S1.drop k:=by
  rw[qE,← eS1,Hh,Hh,GV]
  congr 1
  omega
 have eb:(xs.extract sb (sb+m)).toList=S2.take m:=by rw[lW,tk2]
 have za:(xs.extract (sa+k) sb).size=na-k:=by rw[← Gu,ea,FQ,l1]
 have zb:(xs.extract sb (sb+m)).size=m:=by rw[← Gu,eb,Fw];omega
 have ipa:∀ x∈(xs.extract (sa+k) sb).toList,IntP x:=fun x hx=>by
  rw[qE]at hx
  exact ip x (F6 (F7 hx))
 have ipb:∀ x∈(xs.extract sb (sb+m)).toList,IntP x:=fun x hx=>by
  rw[lW]at hx
  exact ip x (F7 (F6 hx))
 have ua:Upl (xs.extract (sa+k) sb).toList:=by rw[ea];exact s1.drop
 have ub:Upl (xs.extract sb (sb+m)).toList:=by rw[eb];exact s2.take
 have c0:∀ x y:Keyed,(xs.extract sb (sb+m)).toList[0]?=some x->y∈(xs.extract (sa+k) sb).toList->ky x<ky y:=fun x y hx hy=>by
  rw[eb,GX,if_pos (by omega),bS]at hx
  cases hx
  rw[ea]at hy
  exact hi1 y hy
 have cl:∀ x y:Keyed,x∈(xs.extract sb (sb+m)).toList->(xs.extract (sa+k) sb).toList[(xs.extract (sa+k) sb).size-1]?=some y->ky x<ky y:=fun x y hx hy=>by
  rw[za,ea,GH,show k+(na-k-1)=na-1 by omega,aS]at hy
  cases hy
  rw[eb]at hx
  exact lo2 x hx
 have hj:∀(R:Array Keyed)(st2:SortSt),SmG st1 st2->R.toList.Perm ((xs.extract (sa+k) sb).toList++(xs.extract sb (sb+m)).toList)->Upl R.toList->wpS (model prog w) A E s (jp R) Q st2:=by
  intro R st2 sg pm up
  rw[ej]
  clear ej jp
  walk_at "st"
  rw[ea,eb]at pm
  have rl:R.toList.length=na-k+m:=by rw[pm.length_eq,E5,FQ,Fw,l1,l2];omega
  refine wpS_bind (wpS_modify ?_)
  refine wpS_bind (wpS_get ?_)
  have ff:(sortPriv% PySem.Builtin.SortState.failed) st2=none:=sg.f.trans f1
  show wpS (model prog w) A E s (pure ((sortPriv% PySem.Builtin.SortState.failed) st2).isNone) Q _
  rw[ff]
  have tk:∀ x∈S1.take k,∀ y∈S1.drop k,ky x<=ky y:=by
   have:Upl (S1.take k++S1.drop k):=by rw[Fy];exact s1
   exact(F1.mp this).2.2
  have tk':∀ x∈S2.take m,∀ y∈S2.drop m,ky x<=ky y:=by
   have:Upl (S2.take m++S2.drop m):=by rw[Fy];exact s2
   exact(F1.mp this).2.2
  refine wpS_pure (h _ (S1.take k++R.toList++S2.drop m) (sg.k.trans k1) rfl (sg.p.trans q1) ?_ ?_ ?_)
  ·show(R.toList.zipIdx.foldl (fun a x=>match x with | (p,j)=>a.setIfInBounds (sa+k+j) p) (arrOf st2)).toList=_
   rw[sg.a,e1,yz (sa+k) R.toList 0 xs (by omega),Nat.add_zero,rl,show sa+k+(na-k+m)=sb+m by omega,Hl,← tk1]
   have ed:xs.toList.drop (sb+m)=S2.drop m++xs.toList.drop (sb+nb):=by
    rw[← GV,← eS2]
    have e:=congrArg (List.drop m) (Fy nb (xs.toList.drop sb))
    rw[Im,Fw,FQ,show m-min nb (xs.toList.length-sb)=0 by omega,Hg,GV]at e
    exact e.symm
   rw[ed]
   simp only[FJ]
  ·rw[eS1,eS2]
   have e:S1++S2=S1.take k++(S1.drop k++S2.take m)++S2.drop m:=by
    rw[FJ,FJ,Fy,← FJ,Fy]
   rw[e]
   exact(Gx _ pm).append_right _
  ·refine xT (xT s1.take up fun x hx y hy=>?_) s2.drop fun x hx y hy=>?_
   ·rcases Fe.mp (pm.mem_iff.mp hy)with hy | hy
    ·exact tk x hx y hy
    ·have:=lo1 x hx
     have:=b0l y (F6 hy)
     omega
   ·rcases Fe.mp hx with hx | hx
    ·have:=lo1 x hx
     have:=b0l y (F7 hy)
     omega
    ·rcases Fe.mp (pm.mem_iff.mp hx)with hx | hx
     ·exact Int.le_trans (all x (F7 hx)) (hi2 y hy)
     ·exact tk' x hx y hy
 clear ej
 by_cases c:na-k<=m
 ·refine aF c ?_
  exact wpS_bind (uQ k1 ua ub ipa ipb (by omega) (by omega) (fun x y a b=>GB (c0 x y a b)) cl fun R st2 sg pm up=>hj R st2 sg pm up)
 ·refine aD c ?_
  exact wpS_bind (uR k1 ua ub ipa ipb (by omega) (by omega) c0 cl fun R st2 sg pm up=>hj R st2 sg pm up)
end PyProof.Rows
namespace PyProof.Rows
open PySem
local macro_rules | `(tactic| walk_at "sortRuns") => do
 let n:=Lean.mkIdent (Lean.mkPrivateNameCore `PySem.Builtin.List.W1All `PySem.Builtin.sortRuns)
 `(tactic| delta $n)
local macro_rules | `(tactic| walk_at "st") => `(tactic| try dsimp -zeta -zetaHave only)
local macro_rules | `(tactic| walk_at "l3") => `(tactic| (extract_lets -underBinder +onlyGivenNames a b c; subst a b c))
local macro_rules | `(tactic| walk_at "l11") => `(tactic| (extract_lets -underBinder +onlyGivenNames a b c d e f g h i j k; subst a b c d e f g h i j k; dsimp -zeta -zetaHave only))
local macro_rules | `(tactic| walk_at "l1") => `(tactic| (extract_lets -underBinder +onlyGivenNames a; subst a; try dsimp -zeta -zetaHave only))
local macro_rules | `(tactic| walk_at "l2") => `(tactic| (extract_lets -underBinder +onlyGivenNames a b; subst a b; try dsimp -zeta -zetaHave only))
local macro_rules | `(tactic| walk_at "l4") => `(tactic| (extract_lets -underBinder +onlyGivenNames a b c d; subst a b c d; try dsimp -zeta -zetaHave only))
variable{prog:Program}{w:World}{A:Around}{E:Value->Shared->Prop}{s:Shared}
def Rn(L:List Keyed):List (Nat×Nat×Nat)->Nat->Nat->Prop
 |[],c,e=>c=e
 |p::t,c,e=>p.1=c/\1<=p.2.1/\Upl ((L.drop p.1).take p.2.1)/\Rn L t (c+p.2.1) e
theorem Rn.le{L:List Keyed}:∀{T:List (Nat×Nat×Nat)}{c e:Nat},Rn L T c e->c+T.length<=e
 |[],c,e,h=>by cases h;exact Ff _
 |p::t,c,e,⟨_,h1,_,h⟩=>by
  have:=Rn.le h
  rw[FV]
  omega
theorem Rn.app{L:List Keyed}:∀{T1 T2:List (Nat×Nat×Nat)}{c e:Nat},Rn L (T1++T2) c e↔∃ m,Rn L T1 c m/\Rn L T2 m e
 |[],T2,c,e=>⟨fun h=>⟨c,rfl,h⟩,fun⟨m,h1,h2⟩=>by cases h1;exact h2⟩
 |p::t,T2,c,e=>by
  constructor
  ·rintro⟨h1,h2,h3,h4⟩
   obtain⟨m,g1,g2⟩:=Rn.app.mp h4
   exact⟨m,⟨h1,h2,h3,g1⟩,g2⟩
  ·rintro⟨m,⟨h1,h2,h3,g1⟩,g2⟩
   exact⟨h1,h2,h3,Rn.app.mpr ⟨m,g1,g2⟩⟩
theorem Rn.lo{L L':List Keyed}{m:Nat}(hm:L.take m=L'.take m):∀{T:List (Nat×Nat×Nat)}{c e:Nat},Rn L T c e->e<=m->Rn L' T c e
 |[],c,e,h,_=>h
 |p::t,c,e,⟨h1,h2,h3,h4⟩,he=>by
  have hl:=h4.le
  refine⟨h1,h2,?_,Rn.lo hm h4 he⟩
  have cut:∀ Z:List Keyed,(Z.drop p.1).take p.2.1=((Z.take m).drop p.1).take p.2.1:=fun Z=>by
   rw[Hh,Hz,Gk (by omega)]
  rw[cut L',← hm,← cut L]
  exact h3
theorem Rn.hi{L L':List Keyed}{m:Nat}(hm:L.drop m=L'.drop m):∀{T:List (Nat×Nat×Nat)}{c e:Nat},Rn L T c e->m<=c->Rn L' T c e
 |[],c,e,h,_=>h
 |p::t,c,e,⟨h1,h2,h3,h4⟩,he=>by
  refine⟨h1,h2,?_,Rn.hi hm h4 (by omega)⟩
  have cut:∀ Z:List Keyed,Z.drop p.1=(Z.drop m).drop (p.1-m):=fun Z=>by rw[GV];congr 1;omega
  rw[cut L',← hm,← cut L]
  exact h3
theorem Rn.like{L:List Keyed}:∀{T T':List (Nat×Nat×Nat)}{c e:Nat},T.map (fun p=>(p.1,p.2.1))=T'.map (fun p=>(p.1,p.2.1))->Rn L T c e->Rn L T' c e
 |[],[],c,e,_,h=>h
 |p::t,q::t',c,e,hm,⟨h1,h2,h3,h4⟩=>by
  rw[FX,FX]at hm
  injection hm with a b
  injection a with a1 a2
  refine⟨by rw[← a1];exact h1,by rw[← a2];exact h2,by rw[← a1,← a2];exact h3,?_⟩
  rw[← a2]
  exact Rn.like b h4
 |[],q::t',c,e,hm,h=>by cases hm
 |p::t,[],c,e,hm,h=>by cases hm
structure SI(a₀:Array Keyed)(lo:Nat)(st:SortSt):Prop where
 perm:(arrOf st).Perm a₀
 kind:kindOf st=oneType'
 failed:failedOf st=none
 rn:Rn (arrOf st).toList (pendingOf st).toList 0 lo
 le:lo<=a₀.size
theorem SI.size{a₀:Array Keyed}{lo:Nat}{st:SortSt}(h:SI a₀ lo st):(arrOf st).size=a₀.size:=h.perm.size_eq
theorem SI.keys{a₀:Array Keyed}{lo:Nat}{st:SortSt}(h:SI a₀ lo st)(h0:IntKeys a₀):IntKeys (arrOf st):=fun p hp=>h0 p ((Hv.mp h.perm).mem_iff.mp hp)
theorem lZ{a₀:Array Keyed}{lo i:Nat}{st:SortSt}{Q:Bool->SortSt->Prop}(h0:IntKeys a₀)(hS:SI a₀ lo st)(hi:i+1<(pendingOf st).size)(h:∀ st',SI a₀ lo st'->(pendingOf st').size+1=(pendingOf st).size->(arrOf st').toList.drop lo=(arrOf st).toList.drop lo->Q true st') :
  wpS (model prog w) A E s ((sortPriv% PySem.Builtin.mergeAt) i) Q st:=by
 have tl:(pendingOf st).toList.length=(pendingOf st).size:=by simp
 obtain⟨T,eT⟩:∃ T,(pendingOf st).toList=T:=⟨_,rfl⟩
 rw[eT]at tl
 have g1:(pendingOf st)[i]?=some T[i]:=by rw[← E4,← eT];simp
 have g2:(pendingOf st)[i+1]?=some T[i+1]:=by rw[← E4,← eT];simp
 have sp:T=T.take i++T[i]::T[i+1]::T.drop (i+2):=by
  rw[← Gv,← Gv,Fy]
 obtain⟨T1,eT1⟩:∃ T1,T.take i=T1:=⟨_,rfl⟩
 obtain⟨T2,eT2⟩:∃ T2,T.drop (i+2)=T2:=⟨_,rfl⟩
 obtain⟨⟨sa,na,pa⟩,ep⟩:∃ p,T[i]=p:=⟨_,rfl⟩
 obtain⟨⟨sb,nb,pb⟩,eq⟩:∃ p,T[i+1]=p:=⟨_,rfl⟩
 have t1l:T1.length=i:=by rw[← eT1,Fw];omega
 rw[ep]at g1
 rw[eq]at g2
 rw[eT1,eT2,ep,eq]at sp
 have rn:=hS.rn
 rw[eT,sp]at rn
 obtain⟨m,r1,⟨x1,x2,x3,⟨y1,y2,y3,r2⟩⟩⟩:=Rn.app.mp rn
 dsimp only at x1 x2 x3 y1 y2 y3 r2
 have le2:=r2.le
 have le:=hS.le
 have sz:=hS.size
 have ll:(arrOf st).toList.length=(arrOf st).size:=by simp
 refine uT hS.kind hS.failed (hS.keys h0) g1 g2 (by omega) x2 y2 (by omega) x3 y3 fun st' M k' f' p' e' pm up=>?_
 have Ml:M.length=na+nb:=by
  rw[pm.length_eq,E5,Fw,Fw,FQ,FQ]
  omega
 have hpp:(pendingOf st').toList=T1++(sa,na+nb,pa)::T2:=by
  rw[p']
  have:(((pendingOf st).setIfInBounds i (sa,na+nb,pa)).eraseIdxIfInBounds (i+1)).toList=(T.set i (sa,na+nb,pa)).eraseIdx (i+1):=by
   unfold Array.eraseIdxIfInBounds
   rw[dif_pos (by rw[ID];exact hi),Array.toList_eraseIdx,Iw,eT]
  rw[this,sp,← t1l,HL _ _ (Ff _),FA,List.set_cons_zero,List.eraseIdx_append_of_length_le (by omega),show T1.length+1-T1.length=1 by omega]
  rfl
 have ptl:(pendingOf st').size+1=(pendingOf st).size:=by
  have a:=congrArg Iu hpp
  have b:=congrArg Iu sp
  simp only[E5,FV,Gu]at a b
  omega
 have es:sb=sa+na:=by omega
 have lt:((arrOf st).toList.take sa).length=sa:=by rw[Fw];omega
 have tke:(arrOf st).toList.take m=(arrOf st').toList.take m:=by
  rw[e',FJ,Il (by omega),Hz,x1,Nat.min_self]
 have dre:(arrOf st).toList.drop (sb+nb)=(arrOf st').toList.drop (sb+nb):=by
  rw[e',List.drop_left' (by rw[E5,lt,Ml];omega)]
 refine h st' ⟨?_,k',f',?_,le⟩ ptl (by
  have e:=congrArg (List.drop (lo-(sb+nb))) dre
  rw[GV,GV,show sb+nb+(lo-(sb+nb))=lo by omega]at e
  exact e.symm)
 ·refine Array.Perm.trans (Hv.mpr ?_) hS.perm
  rw[e']
  have e2:(arrOf st).toList=(arrOf st).toList.take sa++(((arrOf st).toList.drop sa).take na++((arrOf st).toList.drop sb).take nb)++(arrOf st).toList.drop (sb+nb):=by
   have es:sb=sa+na:=by omega
   rw[← FJ,es,← Hl,← Hl,Fy]
  exact((Gx _ pm).append_right _).trans (List.Perm.of_eq e2.symm)
 ·rw[hpp]
  refine Rn.app.mpr ⟨m,r1.lo tke (Ff _),x1,by show 1<=na+nb;omega,?_,?_⟩
  ·show Upl (((arrOf st').toList.drop sa).take (na+nb))
   have:((arrOf st').toList.drop sa).take (na+nb)=M:=by
    rw[e',FJ,Im,lt,FA,Hg,HH (by omega),HN,Il (by omega),FN (by omega)]
   rw[this]
   exact up
  ·show Rn _ T2 (m+(na+nb)) lo
   have:=r2.hi dre (by omega)
   rw[show m+(na+nb)=m+na+nb by omega]
   exact this
theorem DX{xs:Array Keyed}{lo n:Nat}(h:Sin xs lo n)(hn:lo+n<=xs.size):Upl ((xs.toList.drop lo).take n):=by
 have ll:xs.toList.length=xs.size:=by simp
 refine HA.mpr fun i j hi hj hij=>?_
 rw[Fw,FQ]at hj
 rw[HE,Ih,HE,Ih]
 have z:=h (lo+i) (lo+j) (by omega) (by omega) (by omega)
 rw[K_eq (by omega),K_eq (by omega)]at z
 simpa[ky] using z
theorem SB.si{a₀:Array Keyed}{lo:Nat}{st0 st:SortSt}(h:SB lo st0 st)(hS:SI a₀ lo st0):SI a₀ lo st:=by
 refine⟨h.perm.trans hS.perm,h.kind,h.failed.trans hS.failed,?_,hS.le⟩
 rw[h.pend]
 refine hS.rn.lo (List.ext_getElem? fun i=>?_) (Ff _)
 rw[GX,GX]
 split
 ·rename_i hi
  have:=h.low i hi
  rw[← HQ,← HQ]at this
  exact this.symm
 ·rfl
theorem ite_lt(c:Bool){n:Nat}(h:¬ n<=1):(if c=true then n-2-1 else n-2)+1<n:=by split<;>omega
def rC:StateT SortSt Sem Unit:=sortPriv% PySem.Builtin.sortRuns
theorem uP{a₀:Array Keyed}{st:SortSt}{Q:Unit->SortSt->Prop}(h0:IntKeys a₀)(hS:SI a₀ 0 st)(h:∀ st',(arrOf st').Perm a₀->failedOf st'=none->Upl (arrOf st').toList->Q () st'):wpS (model prog w) A E s rC Q st:=by
 unfold rC
 walk_at "sortRuns"
 refine wpS_bind (wpS_get ?_)
 rw[show((sortPriv% PySem.Builtin.SortState.a) st).size=a₀.size from hS.size]
 walk_at "st"
 walk_at "l3"
 generalize (sortPriv% PySem.Builtin.minRun) a₀.size a₀.size 0=mr
 refine wpS_bind (wpS_mono (wpS_forRange (I:=fun x c st'=>∃ lo,c=(none,lo)/\SI a₀ lo st'/\(lo=a₀.size∨x<=lo)) (Q:=fun c st'=>c=(none,a₀.size)/\SI a₀ a₀.size st') ?step ?fin ⟨0,rfl,hS,.inr (Ff _)⟩) ?post)
 case fin =>
  rintro c st' ⟨lo,rfl,hS',g⟩
  have:=hS'.le
  have:lo=a₀.size:=by omega
  subst this
  exact⟨rfl,hS'⟩
 case step =>
  rintro x c st' _ hx ⟨lo,rfl,hS',g⟩
  have le:=hS'.le
  have sz:=hS'.size
  by_cases z:lo ≥ a₀.size
  ·refine aF z ?_
   have:lo=a₀.size:=by omega
   subst this
   exact wpS_pure ⟨rfl,hS'⟩
  refine aD z ?_
  refine uU fun R hR=>?_
  refine wpS_bind (yJ hS'.kind (hS'.keys h0) (by omega) (by omega) fun m st1 hB1 m1 m2 hs1=>?_)
  walk_at "st"
  extract_lets -underBinder +onlyGivenNames nn jp
  subst nn
  clear_value (ej:jp=_)
  have hj:∀(n:Nat)(st2:SortSt),SB lo st' st2->1<=n->lo+n<=a₀.size->Sin (arrOf st2) lo n->wpS (model prog w) A E s (jp () n) R st2:=by
   intro n st2 hB2 n1 n2 hs2
   rw[ej]
   clear ej jp
   walk_at "st"
   have S2:=hB2.si hS'
   have u2:=DX hs2 (by rw[S2.size];exact n2)
   refine wpS_bind (wpS_get ?_)
   walk_at "st"
   extract_lets -underBinder +onlyGivenNames jp
   clear_value (ej:jp=_)
   have hj:∀ st3:SortSt,SI a₀ lo st3->(arrOf st3).toList.drop lo=(arrOf st2).toList.drop lo->wpS (model prog w) A E s (jp ()) R st3:=by
    intro st3 S3 e3
    rw[ej]
    clear ej jp
    walk_at "st"
    refine wpS_bind (wpS_modify (wpS_pure (hR _ _ ⟨lo+n,rfl,⟨S3.perm,S3.kind,S3.failed,?_,n2⟩,?_⟩)))
    ·show Rn (arrOf st3).toList ((pendingOf st3).push (lo,n,0)).toList 0 (lo+n)
     rw[G5]
     refine Rn.app.mpr ⟨lo,S3.rn,rfl,n1,?_,rfl⟩
     show Upl (((arrOf st3).toList.drop lo).take n)
     rw[e3]
     exact u2
    ·rcases g with g | g
     ·exact absurd g (by omega)
     ·exact .inr (by omega)
   clear ej
   cases eb:((sortPriv% PySem.Builtin.SortState.pending) st2).back? with
   |none=>exact hj st2 S2 rfl
   |some p =>
    obtain⟨s1,n1',p1⟩:=p
    walk_at "st"
    extract_lets -underBinder +onlyGivenNames pw
    clear_value pw
    refine wpS_bind (wpS_mono (wpS_forRange (I:=fun _ c st3=>c=(none,())/\SI a₀ lo st3/\(arrOf st3).toList.drop lo=(arrOf st2).toList.drop lo) (Q:=fun c st3=>c=(none,())/\SI a₀ lo st3/\(arrOf st3).toList.drop lo=(arrOf st2).toList.drop lo) ?pstep (fun c st3 q=>q) ⟨rfl,S2,rfl⟩) ?ppost)
    case pstep =>
     rintro y c st3 _ hy ⟨rfl,S3,e3⟩
     refine wpS_bind (wpS_get ?_)
     walk_at "st"
     walk_at "l1"
     by_cases big:((sortPriv% PySem.Builtin.SortState.pending) st3).size > 1
     ·rw[if_pos big]
      obtain⟨⟨q1,q2,q3⟩,eq⟩:∃ p,((sortPriv% PySem.Builtin.SortState.pending) st3)[((sortPriv% PySem.Builtin.SortState.pending) st3).size-2]?=some p:=⟨_,getElem?_pos _ _ (by omega)⟩
      rw[eq]
      dsimp -zeta -zetaHave only
      split
      ·exact wpS_pure ⟨rfl,S3,e3⟩
      ·exact wpS_bind (lZ h0 S3 (show(pendingOf st3).size-2+1<(pendingOf st3).size from by have:(pendingOf st3).size > 1:=big;omega) fun st4 S4 _ e4=>wpS_pure ⟨rfl,S4,e4.trans e3⟩)
     ·rw[if_neg big]
      exact wpS_pure ⟨rfl,S3,e3⟩
    case ppost =>
     rintro c st3 ⟨rfl,S3,e3⟩
     walk_at "st"
     walk_at "l1"
     refine wpS_bind (wpS_modify (hj _ ⟨S3.perm,S3.kind,S3.failed,?_,S3.le⟩ e3))
     refine Rn.like ?_ S3.rn
     show _=HR _ ((pendingOf st3).modify _ _).toList
     rw[Array.toList_modify]
     refine List.ext_getElem? fun i=>?_
     rw[Fg,Fg,List.getElem?_modify]
     cases (pendingOf st3).toList[i]? with
     |none=>rfl
     |some p =>
      show some (p.1,p.2.1)=some ((if _=i then _ else p).1,(if _=i then _ else p).2.1)
      split<;>rfl
  clear ej
  by_cases c:m<mr
  ·refine aF c ?_
   refine wpS_bind (wpS_lift (wpAny_rule ⟨rfl,?_⟩))
   refine wpS_bind (BZ (hS'.keys h0) (by rw[sz];omega) (by omega) hB1 hs1 fun st2 hB2 hs2=>?_)
   exact hj _ st2 hB2 (by omega) (by omega) hs2
  ·refine aD c ?_
   exact hj m st1 hB1 m1 (by omega) hs1
 case post =>
  rintro c st' ⟨rfl,hS'⟩
  walk_at "st"
  walk_at "l1"
  have pl:(pendingOf st').size<=a₀.size:=by
   have:=hS'.rn.le
   rw[Gu]at this
   omega
  refine wpS_bind (wpS_mono (wpS_forRange (I:=fun x c st3=>c=(none,())/\SI a₀ a₀.size st3/\((pendingOf st3).size<=1∨(pendingOf st3).size+x<=a₀.size)) (Q:=fun c st3=>c=(none,())/\SI a₀ a₀.size st3/\(pendingOf st3).size<=1) ?fstep ?ffin ⟨rfl,hS',.inr pl⟩) ?fpost)
  case ffin =>
   rintro c st3 ⟨rfl,S3,g⟩
   exact⟨rfl,S3,by omega⟩
  case fpost =>
   rintro c st3 ⟨rfl,S3,g⟩
   refine wpS_pure (h st3 S3.perm S3.failed ?_)
   have rn:=S3.rn
   have sz:=S3.size
   have ll:(arrOf st3).toList.length=(arrOf st3).size:=by simp
   have tl:(pendingOf st3).toList.length=(pendingOf st3).size:=by simp
   match e:(pendingOf st3).toList with
   |[] =>
    rw[e]at rn
    have rn':0=a₀.size:=rn
    rw[List.eq_nil_of_length_eq_zero (show(arrOf st3).toList.length=0 by omega)]
    exact Ii
   |[p] =>
    rw[e]at rn
    obtain⟨r1,_,r3,r4⟩:=rn
    have r4':0+p.2.1=a₀.size:=r4
    rw[r1,Hg,FN (by omega)]at r3
    exact r3
   |p::q::t =>
    rw[e]at tl
    simp only[FV]at tl
    omega
  case fstep =>
   rintro x c st3 _ hx ⟨rfl,S3,g⟩
   refine wpS_bind (wpS_get ?_)
   by_cases z:((sortPriv% PySem.Builtin.SortState.pending) st3).size<=1
   ·refine aF z ?_
    exact wpS_pure ⟨rfl,S3,z⟩
   refine aD z ?_
   refine wpS_bind (lZ h0 S3 (ite_lt _ z) fun st4 S4 p4 _=>wpS_pure ⟨rfl,S4,?_⟩)
   have z':¬ (pendingOf st3).size<=1:=z
   omega
end PyProof.Rows
namespace PyProof.Rows
open PySem
variable{prog:Program}{w:World}{A:Around}{E:Value->Shared->Prop}{s:Shared}
theorem upl_to{xs:Array Keyed}(u:Upl xs.toList):SortedTo xs xs.size:=fun i j hij hj=>by
 have ll:xs.toList.length=xs.size:=by simp
 have hi':i<xs.size:=by omega
 rw[K_eq hi',K_eq hj]
 have:=Ad u (i:=i) (j:=j) (E4 (by omega)) (E4 (by omega)) hij
 simpa[ky] using this
theorem B7{a:Addr}{vs:List Value}{ns:List Int}{n:Nat}{P:Fin->Shared->Prop} (ho:s.heap.get? a=some (seqObj "list" vs.toArray n)) (hI:IntsAre vs ns) (hz:vs.length<=sizeLine)
  (h:∀(out:Array Value)(ns':List Int),IntsAre out.toList ns'->ns'.Perm ns->ns'.Pairwise (·<=·)->P (.done (.ret .none)) { s with heap:=sortedHeap s.heap a vs out }) :
  wpAny (model prog w) A (Builtin.«list.sort» ⟨[.ref a],[]⟩) P E s:=by
 by_cases h64:vs.length<64
 ·exact list_sort_tree ho hI h64 h
 obtain⟨v₁,v₂,rest,e⟩:∃ v₁ v₂ rest,vs=v₁::v₂::rest:=by
  match vs,h64 with
  |[],h64=>exact absurd (by decide) h64
  |[_],h64=>exact absurd (by show 1<64;decide) h64
  |v₁::v₂::rest,_=>exact⟨v₁,v₂,rest,rfl⟩
 have sz:vs.toArray.size=vs.length:=by simp
 have ha:a<s.heap.objs.size:=Heap.lt_size ho
 rw[list_sort_plain]
 refine wpAny_bind (listItems_at ho rfl (wpAny_bind (listUpdate_at ho rfl ?_)))
 obtain⟨e1,ho1⟩:∃ e1,(s.heap.update a (Obj.mapSeq fun _=>#[])).get? a=some (seqObj "list" #[] e1):=⟨_,get?_update_seq ho (fun _=>#[])⟩
 refine wpAny_bind (seqEpoch_at ho1 rfl (wpAny_bind (wpAny_newTuple (wpAny_bind (wpAny_newList (wpAny_holding ?_))))))
 have ho6:(((s.heap.update a (Obj.mapSeq fun _=>#[])).push (seqObj "tuple" vs.toArray 0)).push (seqObj "list" #[] 0)).get? a=some (seqObj "list" #[] e1):=by
  rw[Heap.get?_push_ne _ _ _ (by rw[size_push',Heap.size_update];exact FG (G4 ha)),Heap.get?_push_ne _ _ _ (by rw[Heap.size_update];exact FG ha)]
  exact ho1
 show wpAny (model prog w) A _ P E { s with heap:=((s.heap.update a (Obj.mapSeq fun _=>#[])).push (seqObj "tuple" vs.toArray 0)).push (seqObj "list" #[] 0) }
 have n2:¬ vs.toArray.size<2:=by omega
 dsimp only
 rw[if_neg n2,if_neg n2]
 have kk:keyKind' vs.toArray=pure oneType':=by subst e;exact keyKind_ints hI
 rw[kk]
 refine wpAny_bind (wpAny_pure ?_)
 have run:=uP (prog:=prog) (w:=w) (A:=A) (E:=E) (s:={ s with heap:=((s.heap.update a (Obj.mapSeq fun _=>#[])).push (seqObj "tuple" vs.toArray 0)).push (seqObj "list" #[] 0) }) (a₀:=pairsOf vs) (st:=SortSt.mk' oneType' (vs.toArray.zip vs.toArray) #[] 7 none)
  (Q:=fun _ st'=>(arrOf st').Perm (pairsOf vs)/\failedOf st'=none/\Upl (arrOf st').toList) hI.intKeys ⟨Array.Perm.refl _,rfl,rfl,rfl,Ge _⟩ fun st' q1 q2 q3=>⟨q1,q2,q3⟩
 refine wpAny_bind (wpAny_mono run ?_ fun _ _ e=>e)
 rintro⟨⟨⟩,st'⟩ s' ⟨rfl,hp,hf,hu⟩
 dsimp only
 refine wpAny_bind (seqEpoch_at ho6 rfl ?_)
 refine wpAny_bind (listUpdate_at ho6 rfl ?_ (hsz2:=by refine F4 (Nat.le_of_eq ((Array.size_map ..).trans (hp.size_eq.trans (pairsOf_size _)))) ?_;omega))
 rw[hf]
 simp only[bne_self_eq_false,Gb,if_false]
 obtain⟨ns',h1,h2,h3⟩:=sorted_out hI hp (by rw[← hp.size_eq];exact upl_to hu)
 exact wpAny_pure (h _ ns' h1 h2 h3)
end PyProof.Rows
namespace L2
open PySem PySem.Spec PyProof.Rows
section
variable{X:Cx}
end
end L2
namespace L2
open PySem PySem.Spec PyProof.Rows
section
variable{X:Cx}
end
end L2
namespace L2
open PySem PySem.Spec PyProof.Rows
section
variable{prog:Program}{w:World}{A:Around}{E:Value->Shared->Prop}{s:Shared}{z TI TO i1 i2 l1 l2:Addr}{f0:Value}{f1:Bool}
end
section
variable{X:Cx}
end
end L2
namespace L2
open PySem PySem.Spec PyProof.Rows
section
variable{X:Cx}
end
end L2
namespace L2
open PySem PySem.Spec PyProof.Rows
section
variable{prog:Program}{w:World}{A:Around}{E:Value->Shared->Prop}{s:Shared}{d:Addr}
end
section
variable{X:Cx}{pins:List (Addr×Obj)}{σ:St}{H:Hp}{s:Shared}{d:Addr}{u:HO}{o:Obj}
end
section
variable{X:Cx}
end
end L2
namespace L2
open PySem PySem.Spec PyProof.Rows
section
open PySem.W
end
section
open PySem.W
variable{prog:Program}{w:World}{A:Around}{E:Value->Shared->Prop}{s:Shared}
end
section
variable{X:Cx}
end
section
variable{X:Cx}
end
end L2
namespace L2
open PySem PySem.Spec PyProof.Rows
section
variable{prog:Program}{w:World}{K:Type} [DecidableEq K] {knd:KeyKind prog w K} {A:Around} {E:Value->Shared->Prop} {s:Shared}
end
section
variable{X:Cx}{o e f:Expr}{apos cpos:Pos}{td ty tx:TE}
end
section
variable{X:Cx}
end
section
variable{prog:Program}{w:World}{A:Around}{E:Value->Shared->Prop}{s:Shared}{T:String}{r d:Addr}{n:Nat}{P:Nat->Value->Prop}{OK:Heap->Prop}
theorem xp{Q:List Value->Shared->Prop}(K:PySem.W.KdlSrc prog w T r d n P OK)(hh:A.handled=none)(hok:OK s.heap)(hn:n<=sizeLine)
  (h:∀ h' tk acc',(∀ b o,s.heap.get? b=some o->h'.get? b=some o)->s.heap.objs.size<h'.objs.size->ItemsOf P acc' n->Q acc'.toList { s with heap:=h',toks:=tk }):wpAny (model prog w) A (collect (.ref r)) Q E s:=by
 unfold collect
 refine wpAny_bind (wpAny_runValue (codeAny_builtin entry_proto_collect' ?_))
 show wpAny _ _ (do again (.builtin "list.__iadd__" ⟨[← newList [],.ref r],[]⟩)) _ _ s
 refine wpAny_bind (wpAny_newList (wpAny_pure ⟨Code.quiet_builtin _ (by decide +kernel),codeAny_builtin entry_list_iadd' ?_⟩))
 rw[Around.under_plainId PySem.F.plain_list_iadd _]
 show wpAny _ A.in1 (Builtin.List.listExtendWith (.ref s.heap.objs.size) (.ref r) (.ref s.heap.objs.size)) _ _ { s with heap:=s.heap.push (seqObj "list" #[] 0) }
 have hlt:=K.there _ hok
 have G:=PySem.W.kdl_extend (A:=A) (R:=fun r s'=>∃ h' tk acc' c',r=.ok (.ret (.ref s.heap.objs.size))/\s'={ s with heap:=h',toks:=tk }/\(∀ b o,b≠s.heap.objs.size->(s.heap.push (seqObj "list" #[] 0)).get? b=some o->h'.get? b=some o)/\h'.get? s.heap.objs.size=some { cls:=.type "list",dict:=none,data:=.seq acc' c',slots:=#[] }/\ItemsOf P acc' n)
  (s:={ s with heap:=s.heap.push (seqObj "list" #[] 0) }) K hh (K.keep _ _ hok fun b _ o e=>Heap.get?_push_of_some _ e) _ (GZ hlt.1) (GZ hlt.2) (.ref s.heap.objs.size) 0 (Heap.get?_push_size _ rfl) (fun h' tk acc' c' hk hS hacc=>⟨h',tk,acc',c',rfl,rfl,hk,hS,hacc⟩) hn
 have fin:∀(r:Result)(s':Shared),(∃ h' tk acc' c',r=.ok (.ret (.ref s.heap.objs.size))/\s'={ s with heap:=h',toks:=tk }/\(∀ b o,b≠s.heap.objs.size->(s.heap.push (seqObj "list" #[] 0)).get? b=some o->h'.get? b=some o)/\h'.get? s.heap.objs.size=some { cls:=.type "list",dict:=none,data:=.seq acc' c',slots:=#[] }/\ItemsOf P acc' n)->∃ v,r=.ok (.ret v)/\v=.ref s.heap.objs.size/\wpAny (model prog w) A (do
   let o ← load s.heap.objs.size
   match o.data with
   |.seq xs _=>pure xs.toList
   |_=>unsupported "internal:collect") Q E s':=fun r s' ⟨h',tk,acc',c',e1,e2,hk,hS,hacc⟩=>⟨_,e1,rfl,by
  subst e2
  refine wpAny_bind (wpAny_load hS ?_)
  exact wpAny_pure (h h' tk acc' (fun b o e=>hk b o (FG (Heap.lt_size e)) (Heap.get?_push_of_some _ e)) (Heap.lt_size hS) hacc)⟩
 refine wpAny_mono G (fun fn s' q=>?_) (fun e s' q=>?_)
 ·cases fn with
  |done f =>
   obtain⟨v,e1,e2,z⟩:=fin _ _ q
   cases e1
   cases e2
   exact z
  |again c =>
   refine⟨q.1,codeAny_mono q.2 fun r s'' q'=>?_⟩
   obtain⟨v,e1,e2,z⟩:=fin _ _ q'
   cases e1
   cases e2
   exact z
 ·obtain⟨v,e1,_⟩:=fin _ _ q
  cases e1
end
section
variable{X:Cx}
def rSortD:List V->Hp->VK->Prop:=fun xs H Q=>∃(d:Addr)(kvs:List (Key×V))(ns:List Int),xs = [.ref d]/\Rd H d (.dK kvs)/\kvs.map (·.1)=ns.map Sum.inl/\∀(l:Addr)(out:List Int),H l=none->out.Perm ns->out.Pairwise (·<=·)->Q (.ref l) (upd H l (.lst (out.map V.int)))
theorem zP(hc:X.calm=true):nO X (.builtin "sorted") rSortD:=by
 intro pins s σ H xs us Q I r h
 obtain⟨d,kvs,ns,rfl,hd,ek,q⟩:=h
 obtain⟨u,rfl,ru⟩:=yK r
 cases ru
 obtain⟨hz,lo,vs,rk,hm⟩:=BA I.hok hd
 obtain⟨ep,hat⟩:=hm.dictAt
 have hl:kvs.length=vs.length:=Paired.length rk
 refine Calls.call_function_entry kind_sorted plain_sorted entry_sorted (args_sorted1 _) ?_
 unfold Builtin.«sorted»
 refine wpAny_bind (m:=checkCount "sorted" 1 1 _) (wpAny_pure ?_)
 refine wpAny_bind (xp (PySem.W.kdl_dict (knd:=bE X.prog X.w) (kvs:=vs) (ep:=ep) lo) (I.ok.hd hc) hat (by rw[← hl];exact hz) fun h' tk acc' hk hlt hacc=>?_)
 have hvs:Vals (kvs.map fun q=>kV q.1) acc'.toList:=sY (P:=X.prog) (w:=X.w) rk (by rw[Gu];exact hacc.1) fun j v ej=>hacc.2 j v (by rw[← HQ];exact ej)
 have eks:(kvs.map fun q=>kV q.1)=ns.map V.int:=by
  have:(kvs.map fun q=>kV q.1)=(kvs.map (·.1)).map kV:=by rw[G0];rfl
  rw[this,ek,G0]
  rfl
 rw[eks]at hvs
 have hi:=jC hvs
 have hlen:acc'.toList.length<=sizeLine:=by
  rw[Gu,hacc.1,← hl];exact hz
 refine wpAny_bind (wpAny_newList ?_ hlen)
 have hoL:(h'.push (seqObj "list" acc'.toList.toArray 0)).get? h'.objs.size=some (seqObj "list" acc'.toList.toArray 0):=Heap.get?_push_size _ rfl
 show wpAny _ _ _ _ _ { s with heap:=h'.push (seqObj "list" acc'.toList.toArray 0),toks:=tk }
 have keepH:∀(out:Array Value)(b:Addr)(o:Obj),s.heap.get? b=some o->(sortedHeap (h'.push (seqObj "list" acc'.toList.toArray 0)) h'.objs.size acc'.toList out).get? b=some o:=fun out b o e=>by
  have e2:=hk b o e
  rw[sortedHeap_old (FG (Heap.lt_size e2)) (by rw[Heap.size_push];exact G4 (Heap.lt_size e2))]
  exact Heap.get?_push_of_some _ e2
 have hsz:s.heap.objs.size<=h'.objs.size:=F0 hlt
 refine wpAny_bind (wpAny_holding (wpAny_call_entry slot_list_sort ⟨_,hoL,rfl⟩ entry_list_sort (B7 hoL hi hlen fun out ns' a1 a2 a3=>⟨_,rfl,?_⟩) (args_list_sort _)))
 obtain⟨e,he⟩:=sortedHeap_at (out:=out) hoL
 refine wpAny_pure ⟨_,rfl,?_⟩
 refine⟨.ref h'.objs.size,_,I.laid (t':=tk) (keepH out) hsz (show bM X.prog X.w _ _ _ (.lst (ns'.map V.int)) from⟨?_,out.toList,e,uV a1,?_⟩),rfl,q _ ns' (I.hok.fresh hsz) a2 a3⟩
 ·have e1:kvs.length=ns.length:=by
   have:=congrArg Iu ek
   rwa[Fc,Fc]at this
  rw[Fc,a2.length_eq,← e1]
  exact hz
 ·exact he
end
section
variable{prog:Program}{w:World}{A:Around}{E:Value->Shared->Prop}{s:Shared}
end
section
variable{X:Cx}
end
end L2
namespace L2
open PySem PySem.Spec PyProof.Rows
section
variable{prog:Program}{w:World}{A:Around}{E:Value->Shared->Prop}{s:Shared}
abbrev Kp(h h':Heap):Prop:=∀ b o,h.get? b=some o->h'.get? b=some o
end
section
variable{X:Cx}{pins:List (Addr×Obj)}{σ:St}{H:Hp}{s:Shared}{h':Heap}{T:Addr}{ps more:Array Value}{t':Nat}
theorem Inv.tab(I:Inv X pins σ H s)(e:H T=some (.tbl ps))(hx:∀ b o,b≠T->s.heap.get? b=some o->h'.get? b=some o)(hT:h'.get? T=some { cls:=.none,data:=.fields (ps++more) }) :
  Inv X pins σ (upd H T (.tbl (ps++more))) { s with heap:=h',toks:=t' }:=by
 have ne:∀{b:Addr}{o:Option HO},H b=o->o≠some (.tbl ps)->b≠T:=fun q n z=>n (by rw[← q,z,e])
 refine I.un ⟨fun b o g n _ _=>hx b o (ne n (by simp)) g,fun b o g n _ _=>⟨o.slots,hx b o (ne n (by simp)) g⟩,fun b o g n _=>?_,fun b o g _=>?_,fun b xs q=>?_,fun b o u q=>?_,fun b p q=>?_⟩ fun b u q=>?_
 ·rw[ai (ne n (by simp))]
  exact n
 ·by_cases z:b=T
  ·rw[z];exact⟨_,hT⟩
  ·exact⟨o,hx b o z g⟩
 ·rw[ai (ne q (by simp))]
  exact q
 ·rw[ai (ne q (by simp))]
  exact q
 ·by_cases z:b=T
  ·subst z
   rw[e]at q
   cases q
   exact⟨more,ae⟩
  ·exact⟨#[],by rw[ai z,q];simp⟩
 ·by_cases z:b=T
  ·subst z
   rw[ae]at q
   cases q
   exact hT
  ·rw[ai z]at q
   refine(I.hok b u q).stay (fun c o hc g=>hx c o (fun y=>?_) g) (fun c g=>?_) fun c o g=>?_
   ·rcases hc with y2 | y2
    ·exact z (y2▸y)
    ·rw[y,e]at y2;cases y2
   ·rw[ai (ne g (by simp))];exact g
   ·rw[ai (ne g (by simp))];exact g
end
def codO(c:Addr)(q:Str):HO:=.ext fun h=>h.CodeRec (.ref c) q
def Tb(q:Str)(lp:Pos)(T:Addr)(H:Hp):Prop:=H T=some (.tbl #[])∨∃ c,H T=some (.tbl #[rawInt lp.line,rawInt lp.col,.ref c])/\H c=some (codO c q)
def TbS(T:Addr)(H H':Hp):Prop:=∀ b o,b≠T->H b=some o->H' b=some o
abbrev Bm(mg:Str->Option Value)(h:Heap):Prop:=∃ bm o,mg "__builtins__" = some (.ref bm)/\bm≠builtinsNs/\h.get? bm=some o/\o.cls=.type "module"/\o.dict=some builtinsNs/\o.data=.plain
theorem Be{P:Program}{w:World}{K:E6}{mg mb:Str->Option Value}{CX:CXT}{k:Nat}{fa a c T:Addr}{fd:FuncData}{x:Str}{sp:Sp}{s:Shared}{vs:List Value}{ns:List Int}
  (KX:K.In s.heap) (hg:s.heap.Ns mainGlobals mg) (hb:s.heap.Ns builtinsNs mb) (hbb:∀ x:Str,x≠"__name__"->mb x=bootBuiltins x) (lim:s.heap.NoLimit) (gens:s.gens=#[])
  (hc:GU s.heap c T) (hT:s.heap.get? T=some (Iy #[])) (nT:K.lookup T=none) (hbm:Bm mg s.heap)
  (ha:s.heap.get? a=some { cls:=.type "list",data:=.seq vs.toArray }) (hi:IntsAre vs ns) (hl:ns.length<=sizeLine) (hr:Room k callerA)
  (F:∀ base:Heap,K.In base->base.Ns mainGlobals mg->GU base c T->Bm mg base->FnOk P w K mg base CX k fa fd [x] sp) (bind:∀(s:Shared)(u:Value),BindsTo s fd ⟨[u],[]⟩ [(x,u)])
  (hsp:∀ H:Hp,H T=some (.tbl #[])->SqL K H a (ns.map V.int)->sp [.ref a] H (fun v _=>v=.bl true) fun _ _ _=>False)
  (hCX:∀ H e s',CX [] H s (fun _ _ _=>False) e s'->False) :
  codeAny (model P w) callerA (.call (.ref fa) ⟨[.ref a],[]⟩) (fun r s'=>r=.ok (.ret (.bool true))/\OldK s.heap s'.heap/\s'.os=s.os/\AllBare s'.gens) s:=by
 have rv:=rh hi
 have aT:a≠T:=fun z=>by rw[z,hT]at ha;cases ha
 obtain⟨H,eT,eS,hok,only,frz⟩:∃ H:Hp,H T=some (.tbl #[])/\SqL K H a (ns.map V.int)/\HOk P w H s.heap/\(∀ b,H b≠none->(b=T∨b=a)/\K.lookup b=none)/\(∀ b u,H b=some u->b≠T->∃ o ys,u=.frz o (.lst ys)):=by
  cases hk:K.lookup a with
  |some o =>
   have e:=KX a o hk
   rw[ha]at e
   cases e
   refine⟨upd (fun _=>none) T (.tbl #[]),ae,.inr ⟨_,vs.toArray,_,hk,rfl,rfl,rfl,by rw[FE,hi.length];exact hl,by simpa using rv⟩,fun b u z=>?_,fun b z=>?_,fun b u z n=>?_⟩
   ·by_cases y:b=T
    ·subst y;rw[ae]at z;cases z;exact hT
    ·rw[ai y]at z;cases z
   ·by_cases y:b=T
    ·exact⟨.inl y,y▸nT⟩
    ·rw[ai y]at z;exact absurd rfl z
   ·rw[ai n]at z;cases z
  |none =>
   refine⟨upd (upd (fun _=>none) a (.frz { cls:=.type "list",data:=.seq vs.toArray } (.lst (ns.map V.int)))) T (.tbl #[]),ae,.inl (.inr ⟨{ cls:=.type "list",data:=.seq vs.toArray },by rw[ai aT];exact ae⟩),fun b u z=>?_,fun b z=>?_,fun b u z n=>?_⟩
   ·by_cases y:b=T
    ·subst y;rw[ae]at z;cases z;exact hT
    ·rw[ai y]at z
     by_cases y2:b=a
     ·subst y2;rw[ae]at z;cases z
      exact⟨ha,by rw[Fc];exact hl,vs,_,rv,ha⟩
     ·rw[ai y2]at z;cases z
   ·by_cases y:b=T
    ·exact⟨.inl y,y▸nT⟩
    ·rw[ai y]at z
     by_cases y2:b=a
     ·exact⟨.inr y2,y2▸hk⟩
     ·rw[ai y2]at z;exact absurd rfl z
   ·rw[ai n]at z
    by_cases y2:b=a
    ·subst y2;rw[ae]at z;cases z;exact⟨_,_,rfl⟩
    ·rw[ai y2]at z;cases z
 have un0:∀{b:Addr}{o:Obj},s.heap.get? b=some o->o.cls≠.none->o.cls≠.type "list"->H b=none:=fun{b o} e n1 n2=>by
  cases q:H b with
  |none=>rfl
  |some u =>
   rcases(only b (by rw[q];simp)).1 with z | z
   ·rw[z,hT]at e;cases e;exact absurd rfl n1
   ·rw[z,ha]at e;cases e;exact absurd rfl n2
 have unD:∀{b:Addr}{o:Obj}{es:Array DictEntry}{ep:Nat},s.heap.get? b=some o->o.data=.dict es ep->H b=none:=fun{b o es ep} e d=>by
  cases q:H b with
  |none=>rfl
  |some u =>
   rcases(only b (by rw[q];simp)).1 with z | z
   ·rw[z,hT]at e;cases e;cases d
   ·rw[z,ha]at e;cases e;cases d
 have nsB:∀{b:Addr}{m:Str->Option Value},s.heap.Ns b m->(hidT s.heap H).Ns b m:=fun{b m} ⟨o,es,ep,e,d,r⟩=>⟨o,es,ep,lU e (unD e d),d,r⟩
 have kB:K.In (hidT s.heap H):=fun b o e=>lU (KX b o e) (by
  cases q:H b with
  |none=>rfl
  |some u=>rw[(only b (by rw[q];simp)).2]at e;cases e)
 have cB:GU (hidT s.heap H) c T:=by
  obtain⟨o,v2,file,tf,flags,tg,inF,text,tt,e1,e2,r⟩:=hc
  exact⟨o,v2,file,tf,flags,tg,inF,text,tt,lU e1 (un0 e1 (by rw[e2];simp) (by rw[e2];simp)),e2,r⟩
 have bB:Bm mg (hidT s.heap H):=by
  obtain⟨bm,o,b1,b2,b3,b4,r⟩:=hbm
  exact⟨bm,o,b1,b2,lU b3 (un0 b3 (by rw[b4];simp) (by rw[b4];simp)),b4,r⟩
 have md:Mod K mg (hidT s.heap H):=⟨kB,nsB hg,⟨mb,nsB hb,hbb⟩,let ⟨mc,h1,h2⟩:=lim;⟨mc,nsB h1,h2⟩⟩
 have e0:Env0 P w K mg (hidT s.heap H) callerA [] s H:=⟨rfl,md,fun b o e=>Ek e,Nat.le_of_eq (Bv _ _),trivial,fun b z=>absurd (show b∈([]:List Addr) from z) (by simp),hok,.of_eq gens⟩
 refine codeAny_mono ((F _ kB (nsB hg) cB bB).run callerA [] s H ⟨[.ref a],[]⟩ [.ref a] [.ref a] _ _ hr e0 (bind s (.ref a)) (.cons rfl .nil) (hsp H eT eS)) fun r s' h=>?_
 cases r with
 |error e=>exact(hCX H e s' h).elim
 |ok fl =>
  cases fl with
  |next=>exact False.elim h
  |brk=>exact False.elim h
  |cont=>exact False.elim h
  |ret u =>
   obtain⟨v,H',os,bare,un,hok',r',q⟩:=h
   have q':v=.bl true:=q
   subst q'
   obtain rfl:u=Value.bool true:=r'
   have nil:∀ b:Addr,b∉frs []:=fun b z=>absurd (show b∈([]:List Addr) from z) (by simp)
   have gT:∃ more,s'.heap.get? T=some { cls:=.none,data:=.fields (#[]++more) }:=by
    obtain⟨more,e⟩:=un.tbls T _ eT
    exact⟨more,hok' T _ e⟩
   have kp:∀ b o,b≠T->s.heap.get? b=some o->s'.heap.get? b=some o:=fun b o n e=>by
    cases q:H b with
    |none=>exact un.keep b o e q (nil b) (by simp)
    |some u =>
     obtain⟨ob,ys,rfl⟩:=frz b u q n
     have z2:=un.frzs b ob _ q
     obtain⟨g1,_⟩:=hok b _ q
     obtain⟨g2,_⟩:=hok' b _ z2
     rw[e]at g1;cases g1
     exact g2
   refine⟨rfl,⟨fun b o e=>?_,fun b o e=>?_⟩,os,bare⟩
   ·by_cases z:b=T
    ·subst z
     rw[hT]at e
     cases e
     obtain⟨more,g⟩:=gT
     exact .inr (.inl ⟨(hc.tab hT).isCodeTable,rfl,#[],more,rfl,g⟩)
    ·exact .inl (kp b o z e)
   ·by_cases z:b=T
    ·subst z
     obtain⟨more,g⟩:=gT
     exact⟨_,g⟩
    ·exact⟨o,kp b o z e⟩
theorem walk_ofT{l:Ip}{n k:Nat}{q:Program}{loose:List Str}{XP:(Str->Option Value)->Heap->Prop}{YP:World->Heap->Prop}{d df:DefRec}{K:Params->E6}{CX:CXT}{sp:E6->Addr->Sp}{x fn:Str}
  (hn:l.most=some n) (hn2:n<=sizeLine) (hdf:d.params.defaults = []) (hr:Room k callerA) (hY:∀(w:World)(h:Heap),YP w h->(K w.params).In h)
  (hrec:(recsOf q).find? (fun e=>e.name == fn)=some df)
  (F:∀(w:World)(mg:Str->Option Value)(fa:Addr)(h:Heap),(K w.params).In h->h.Ns mainGlobals mg->mg d.name=some (.ref fa)->∃ fd:FuncData,(∀(s:Shared)(u:Value),BindsTo s fd ⟨[u],[]⟩ [(x,u)]) /\
   ∃ c T,G2 (K w.params) fn=some (c,T)/\(K w.params).lookup T=none/\∀ base:Heap,(K w.params).In base->base.Ns mainGlobals mg->GU base c T->Bm mg base->FnOk l.prog w (K w.params) mg base CX k fa fd [x] (sp (K w.params) T))
  (hsp:∀(K:E6)(T:Addr)(H:Hp)(a:Addr)(ns:List Int),ns.length<=n->H T=some (.tbl #[])->SqL K H a (ns.map V.int)->sp K T [.ref a] H (fun v _=>v=.bl true) fun _ _ _=>False)
  (hCX:∀(H:Hp)(s:Shared)(e:Value)(s':Shared),CX [] H s (fun _ _ _=>False) e s'->False) :
  PySem.W.WalkO q loose XP YP l.row.toRowW d [] (fun f vs=>PySem.call f vs):=by
 refine Att.attach_call hn hdf fun w s₀ s₁ mg mb fa o pm cd doc a vs ns G Y ho hd hcd hmg hobj hints hlen hg=>?_
 have KX:=hY w _ Y
 obtain⟨fd,hb,c,T,ht,nT,hF⟩:=F w mg fa _ KX G.T.g hmg
 obtain⟨t1,t2⟩:=PySem.W.tab_of G.T KX hrec ht
 exact Be KX G.T.g G.T.b G.T.builtins G.T.nolimit hg t1 t2 nT G.T.bmain hobj hints (F4 hlen hn2) hr hF hb (fun H h1 h2=>hsp _ T H a ns hlen h1 h2) fun H e s'=>hCX H s₁ e s'
end L2
namespace L2
open PySem PySem.Spec PyProof.Rows
structure LamC(X:Cx)(c T:Addr)(lq:Str)(sc:Scope)(cl:List (Str×Addr)):Prop where
 code:X.env.code=.ref c
 hd:GU X.base c T
 bm:Bm X.mg X.base
 cl:closureFor sc X.env=pure cl
 q:X.env.qual++"<lambda>" = lq
def tLam(lq:Str)(lp:Pos)(T:Addr)(prm:Arguments)(bd:Expr)(sc:Scope)(cl:List (Str×Addr)):TE:=fun _ H Q=>Tb lq lp T H /\
 ∀(f c':Addr)(pm ctv:Value)(H':Hp),H f=none->TbS T H H'->Tb lq lp T H'->H' c'=some (codO c' lq)->H' f=some (.frz (Gi "<lambda>" lq prm bd sc cl pm c' ctv) (.own f))->Q (.ref f) H'
theorem pe_lam{X:Cx}{c T:Addr}{lq:Str}{lp:Pos}{prm:Arguments}{bd:Expr}{sc:Scope}{cl:List (Str×Addr)}(L:LamC X c T lq sc cl)(hx:X.ex = [])(hdef:defaultsOf prm X.env=([],[]):=by rfl) :
  PE X (.Lambda prm bd sc lp) (tLam lq lp T prm bd sc cl):=by
 intro pins s1 σ H1 Q I1 h
 obtain⟨tb,q⟩:=h
 refine PySem.W.kla_eval hdef ?_
 rw[L.q]
 have bat:s1.heap.BuiltinsAt X.mg T:=by
  obtain⟨bm,o,b1,b2,b3,b4,b5,b6⟩:=L.bm
  obtain⟨o1,es1,ep1,g1,g2,_⟩:=id I1.mod.glob
  have hT:H1 T≠none:=by
   rcases tb with z | ⟨_,z,_⟩<;>rw[z]<;>simp
  refine⟨bm,o,b1,b2,fun z=>?_,fun z=>?_,I1.bk _ _ b3,b4,b5,b6⟩
  ·rw[z,g1]at b3;cases b3;rw[g2]at b6;cases b6
  ·rw[z]at b3;exact hT (I1.bs _ _ b3).2
 have neT:mainGlobals≠T:=fun z=>by
  obtain⟨o1,es1,ep1,g1,g2,_⟩:=id I1.mod.glob
  have:=(I1.bs _ _ g1).2
  rw[z]at this
  rcases tb with y | ⟨_,y,_⟩<;>rw[y]at this<;>cases this
 have nsg:=I1.mod.glob.keeps I1.bk
 rcases tb with hT | ⟨c',hT,hco⟩
 ·have gT:s1.heap.get? T=some (Iy #[]):=I1.hok T _ hT
  refine PySem.W.kla_makeFunction (mg:=X.mg) L.cl I1.ok.glob nsg L.code (L.hd.keeps I1.bk) gT trivial rfl neT bat fun c' ctv h' tk hxt hge hlt hrec htb=>?_
  have cT:c'≠T:=fun z=>by
   have:=Heap.lt_size gT
   rw[← z]at this
   exact absurd this (Ik hge)
  have I2:=I1.tab (more:=#[rawInt lp.line,rawInt lp.col,.ref c']) (t':=tk) hT (fun b o n e=>hxt b o n e) (by simpa using htb)
  have e0:(#[]:Array Value)++#[rawInt lp.line,rawInt lp.col,.ref c']=#[rawInt lp.line,rawInt lp.col,.ref c']:=by simp
  rw[e0]at I2
  have fr:s1.heap.get? c'=none:=Heap.get?_none_of_le hge
  have H1c:H1 c'=none:=I1.hok.none_of fr
  obtain⟨c3,oc,vs3,t3,ec,g1,g2,g3⟩:=id hrec
  cases ec
  have I3:=I2.xtrack (a:=c') (o:=codO c' lq) (I1.xok hx fr (by rw[ai cT];exact H1c)) ⟨hrec,⟨oc,g1⟩,fun h1 h2 ⟨c4,o4,v4,t4,z1,z2,z3,z4⟩ kk=>by cases z1;exact⟨_,o4,v4,t4,rfl,kk o4 z2,z3,z4⟩⟩
  have kpsh:Kp h' (h'.push (Gi "<lambda>" lq prm bd sc cl ((X.mg "__name__").getD .none) c' ctv)):=fun b o e=>Heap.get?_push_of_some _ e
  have gf:(h'.push (Gi "<lambda>" lq prm bd sc cl ((X.mg "__name__").getD .none) c' ctv)).get? h'.objs.size=some (Gi "<lambda>" lq prm bd sc cl ((X.mg "__name__").getD .none) c' ctv):=Heap.get?_push_size _ rfl
  have I4:=I3.laid (a:=h'.objs.size) (o:=.frz (Gi "<lambda>" lq prm bd sc cl ((X.mg "__name__").getD .none) c' ctv) (.own h'.objs.size)) (t':=tk) kpsh (Ff _) ⟨gf,⟨_,gf⟩⟩
  have Hf:H1 h'.objs.size=none:=I1.hok.fresh (F4 hge (F0 hlt))
  have fc:h'.objs.size≠c':=Ne.symm (FG hlt)
  have fT:h'.objs.size≠T:=fun z=>by rw[z,hT]at Hf;cases Hf
  refine⟨.ref h'.objs.size,_,I4,rfl,q _ c' _ ctv _ Hf (fun b o n e=>?_) (.inr ⟨c',?_,?_⟩) ?_ ae⟩
  ·rw[ai (fun z=>by rw[z,Hf]at e;cases e),ai (fun z=>by rw[z,H1c]at e;cases e),ai n]
   exact e
  ·rw[ai (Ne.symm fT),ai (Ne.symm cT)];exact ae
  ·rw[ai (Ne.symm fc)];exact ae
  ·rw[ai (Ne.symm fc)];exact ae
 ·have gT:s1.heap.get? T=some (Iy #[rawInt lp.line,rawInt lp.col,.ref c']):=I1.hok T _ hT
  obtain⟨hrec,_,_⟩:=(show bM X.prog X.w H1 s1.heap c' (codO c' lq) from I1.hok c' _ hco)
  refine PySem.W.kla_makeFunctionHit (mg:=X.mg) (cv:=.ref c') L.cl I1.ok.glob nsg L.code (L.hd.keeps I1.bk) gT trivial (by simp[codeAmong,rawInt]) bat fun ctv h' tk kk sz=>?_
  have kpsh:Kp s1.heap (h'.push (Gi "<lambda>" lq prm bd sc cl ((X.mg "__name__").getD .none) c' ctv)):=fun b o e=>Heap.get?_push_of_some _ (kk b o e)
  have gf:(h'.push (Gi "<lambda>" lq prm bd sc cl ((X.mg "__name__").getD .none) c' ctv)).get? h'.objs.size=some (Gi "<lambda>" lq prm bd sc cl ((X.mg "__name__").getD .none) c' ctv):=Heap.get?_push_size _ rfl
  have szl:s1.heap.objs.size<=h'.objs.size:=sz
  have I4:=I1.laid (a:=h'.objs.size) (o:=.frz (Gi "<lambda>" lq prm bd sc cl ((X.mg "__name__").getD .none) c' ctv) (.own h'.objs.size)) (t':=tk) kpsh szl ⟨gf,⟨_,gf⟩⟩
  have Hf:H1 h'.objs.size=none:=I1.hok.fresh szl
  have ne:∀{b:Addr}{o:HO},H1 b=some o->b≠h'.objs.size:=fun e z=>by rw[z,Hf]at e;cases e
  refine⟨.ref h'.objs.size,_,I4,rfl,q _ c' _ ctv _ Hf (fun b o n e=>?_) (.inr ⟨c',?_,?_⟩) ?_ ae⟩
  ·rw[ai (ne e)];exact e
  ·rw[ai (ne hT)];exact hT
  ·rw[ai (ne hco)];exact hco
  ·rw[ai (ne hco)];exact hco
def frzH(cl:List (Str×Addr))(os:Addr->Obj)(H:Hp):Hp:=fun b=>if b∈cl.map (·.2) then some (.frz (os b) (.own b)) else H b
def cutH(cl:List (Str×Addr))(H:Hp):Hp:=fun b=>if b∈cl.map (·.2) then none else H b
theorem qz{cl:List (Str×Addr)}{os:Addr->Obj}{H:Hp}{b:Addr}(h:b∈cl.map (·.2)):frzH cl os H b=some (.frz (os b) (.own b)):=if_pos h
theorem bP{cl:List (Str×Addr)}{os:Addr->Obj}{H:Hp}{b:Addr}(h:b∉cl.map (·.2)):frzH cl os H b=H b:=if_neg h
theorem dm{cl:List (Str×Addr)}{H:Hp}{b:Addr}(h:b∉cl.map (·.2)):cutH cl H b=H b:=if_neg h
def tCallC(N:List Str)(sp:Sp)(dvs:List V)(E:XK)(cl:List (Str×Addr))(t:TA):TE:=fun σ H Q=>t σ H fun vs H1=>∀ os:Addr->Obj,
 (∀ p∈cl,H1 p.2=none/\∃ ov,(os p.2).data=.cell ov/\∀(i:Nat)(v:V),N[i]?=some p.1->σ[i]?=some (some v)->∃ u,ov=some u/\RelV v u)->sp (vs++dvs) (frzH cl os H1) (fun v H'=>Q v (cutH cl H')) E
theorem D1{X:Cx}{k:Nat}{f:Addr}{fd:FuncData}{ps:List Str}{sp:Sp}{dvs:List V}{ds:List Value}{E:XK}{cl:List (Str×Addr)}{pins:List (Addr×Obj)}{σ:St}{H:Hp}{s:Shared}{Q:VK}{us:List Value}{vs:List V}(F:FnOk X.prog X.w X.K X.mg X.base CX0 k f fd ps sp)(hr:Room k X.A)(hb:jR X.K fd ps ds)(hd:Vals dvs ds)
  (hcl:∀ p∈cl,X.env.cells.lookup p.1=some p.2/\X.fn p.1=true/\X.env.kindOf p.1=some .cell/\Vis X.env.scope p.1) (I:Inv X pins σ H s) (r:Vals vs us)
  (h:∀ os:Addr->Obj,(∀ p∈cl,H p.2=none/\∃ ov,(os p.2).data=.cell ov/\∀(i:Nat)(v:V),X.N[i]?=some p.1->σ[i]?=some (some v)->∃ u,ov=some u/\RelV v u)->sp (vs++dvs) (frzH cl os H) (fun v H'=>Q v (cutH cl H')) E) :
  wpAny (model X.prog X.w) X.A (call (.ref f) us) (EP X pins σ Q) X.xe s:=by
 obtain⟨os,hos⟩:∃ os:Addr->Obj,∀ b o,s.heap.get? b=some o->os b=o:=⟨fun b=>(s.heap.get? b).getD { cls:=.none,data:=.plain },fun b o e=>by show(s.heap.get? b).getD _=o;rw[e];rfl⟩
 have inC:∀ b,b∈cl.map (·.2)->∃ p∈cl,p.2=b:=fun b hb=>by
  obtain⟨p,m,e⟩:=FW.mp hb
  exact⟨p,m,e⟩
 have hg:∀ b,b∈cl.map (·.2)->s.heap.get? b=some (os b)/\H b=none/\∃ ov,(os b).data=.cell ov:=fun b hb=>by
  obtain⟨p,m,rfl⟩:=inC b hb
  obtain⟨v,o,e1,e2⟩:=I.cell p.1 p.2 (hcl p m).1
  rw[hos _ _ e1]
  exact⟨e1,I.freeC p.1 p.2 (hcl p m).1,v,e2⟩
 have base_out:∀ b o,X.base.get? b=some o->b∉cl.map (·.2):=fun b o e hb=>by
  obtain⟨p,m,rfl⟩:=inC b hb
  have h1:=I.ok.cab p.1 p.2 (hcl p m).2.1 (hcl p m).1
  have h2:=Heap.lt_size e
  have h3:=I.ok.bsz
  exact absurd h2 (Ik (F4 h3 h1))
 have e0:=I.env0
 have fr_out:∀ b,b∈frs X.stack->b∉cl.map (·.2):=fun b hb hc=>by
  obtain⟨p,m,rfl⟩:=inC b hc
  have hlc:=(hcl p m).1
  have h1:=I.ok.cab p.1 p.2 (hcl p m).2.1 hlc
  have out:p.2∉frs X.outer:=fun z=>by
   obtain⟨_,o,ho,_⟩:=I.ok.funs.mem z
   exact absurd (Heap.lt_size ho) (Ik h1)
  rcases I.ok.stk with z | ⟨z,y⟩
  ·rw[z]at hb;exact out hb
  ·rw[z]at hb
   unfold frs at hb
   rw[Ht,y]at hb
   rcases Fb.mp hb with q | q
   ·exact I.cne p.1 p.2 hlc q
   ·exact out q
 have nh:∀{b:Addr}{o:HO},H b=some o->b∉cl.map (·.2):=fun{b o} e hb=>by rw[(hg b hb).2.1]at e;cases e
 have hok2:HOk X.prog X.w (frzH cl os H) s.heap:=fun a o e=>by
  by_cases c:a∈cl.map (·.2)
  ·rw[qz c]at e
   cases e
   exact⟨(hg a c).1,⟨_,(hg a c).1⟩⟩
  ·rw[bP c]at e
   exact(I.hok a o e).stay (fun _ _ _ z=>z) (fun b z=>by rw[bP (nh z)];exact z) fun b xs z=>by rw[bP (nh z)];exact z
 have e1:Env0 X.prog X.w X.K X.mg X.base X.A X.stack s (frzH cl os H):=⟨e0.frames,e0.mod,fun b o e=>⟨(e0.bs b o e).1,by rw[bP (base_out b o e)];exact(e0.bs b o e).2⟩,e0.bsz,e0.funs,fun b z=>by rw[bP (fr_out b z)];exact e0.frf b z,hok2,e0.bare⟩
 have hp:∀ p∈cl,H p.2=none/\∃ ov,(os p.2).data=.cell ov/\∀(i:Nat)(v:V),X.N[i]?=some p.1->σ[i]?=some (some v)->∃ u,ov=some u/\RelV v u:=fun p m=>by
  obtain⟨g1,g2,ov,g3⟩:=hg p.2 (FW.mpr ⟨p,m,rfl⟩)
  refine⟨g2,ov,g3,fun i v e2 e3=>?_⟩
  obtain⟨mm,hn,hl⟩:=I.loc
  obtain⟨u,ru,lk⟩:=hl i p.1 v e2 e3 (hcl p m).2.2.2
  rcases lk with⟨kl,_⟩ | ⟨_,c2,ec,o2,z1,z2⟩
  ·rw[(hcl p m).2.2.1]at kl;cases kl
  ·rw[(hcl p m).1]at ec
   cases ec
   rw[g1]at z1
   cases z1
   rw[g3]at z2
   cases z2
   exact⟨u,rfl,ru⟩
 have hs:=h os hp
 have r2:Vals (vs++dvs) (us++ds):=r.append hd
 have hl:(us++ds).length=ps.length:=by rw[← r2.length];exact F.len _ _ _ _ hs
 refine wpAny_call (codeAny_mono (F.run X.A X.stack s (frzH cl os H) ⟨us,[]⟩ (us++ds) (vs++dvs) _ E hr e1 (hb s us I.kIn hl) r2 hs) fun r s' hq=>?_)
 cases r with
 |error e=>exact False.elim hq
 |ok fl =>
  cases fl with
  |next=>exact False.elim hq
  |brk=>exact False.elim hq
  |cont=>exact False.elim hq
  |ret u =>
   obtain⟨v,H',eos,bare,un,hok',r',q⟩:=hq
   have fz:∀ b,b∈cl.map (·.2)->H' b=some (.frz (os b) (.own b)):=fun b hb=>un.frzs b _ _ (qz hb)
   have nh':∀{b:Addr}{o:HO},H' b=some o->(∀ u w,o≠.frz u w)->b∉cl.map (·.2):=fun{b o} e n hb=>by rw[fz b hb]at e;cases e;exact n _ _ rfl
   refine I.after ⟨v,cutH cl H',eos,bare,⟨fun b o e n hb hx=>?_,fun b o e n hb hx=>?_,fun b o e n hx=>?_,un.there,fun b xs e=>?_,fun b o u e=>?_,fun b ps e=>?_⟩,fun a o e=>?_,r',q⟩
   ·by_cases c:b∈cl.map (·.2)
    ·obtain⟨g,_⟩:=hok' b _ (fz b c)
     rw[hos b o e]at g
     exact g
    ·exact un.keep b o e (by rw[bP c];exact n) hb hx
   ·exact un.slot b o e (by rw[bP (fr_out b hb)];exact n) hb hx
   ·by_cases c:b∈cl.map (·.2)
    ·exact if_pos c
    ·rw[dm c]
     exact un.free b o e (by rw[bP c];exact n) hx
   ·rw[dm (nh e)];exact un.tups b xs (by rw[bP (nh e)];exact e)
   ·rw[dm (nh e)];exact un.frzs b o u (by rw[bP (nh e)];exact e)
   ·rw[dm (nh e)];exact un.tbls b ps (by rw[bP (nh e)];exact e)
   ·by_cases c:a∈cl.map (·.2)
    ·have:cutH cl H' a=none:=if_pos c
     rw[this]at e;cases e
    ·rw[dm c]at e
     exact(hok' a o e).stay (fun _ _ _ z=>z) (fun b z=>by rw[dm (nh' z fun _ _ y=>by cases y)];exact z) fun b xs z=>by rw[dm (nh' z fun _ _ y=>by cases y)];exact z
theorem Cq{X:Cx}{k:Nat}{f:Addr}{fd:FuncData}{ps:List Str}{sp:Sp}{dvs:List V}{ds:List Value}{E:XK}{x:Str}{p pos:Pos}{e:Expr}{es:List Expr}{t:TA}{cl:List (Str×Addr)}
  (hcl:∀ p∈cl,X.env.cells.lookup p.1=some p.2/\X.fn p.1=true/\X.env.kindOf p.1=some .cell/\Vis X.env.scope p.1)
  (F:FnOk X.prog X.w X.K X.mg X.base CX0 k f fd ps sp) (hr:Room k X.A) (hg:Gl X x) (hm:X.mg x=some (.ref f)) (hk:Fo X.K (.ref f)=true) (hb:jR X.K fd ps ds) (hd:Vals dvs ds)
  (ha:PA X (e::es) t) (hdb:(x == ("__debug__" : Str))=false:=by decide) (he:starEach (e::es) X.env=(false,eval e X.env)::starEach es X.env:=by rfl) (hpl:(backTo pos (starEach es X.env)).any (·.1)=false:=by rfl) :
  PE X (.Call (.Name x p) (e::es) [] pos) (tCallC X.N sp dvs E cl t):=by
 intro pins s σ H Q I h
 refine wpAny_Call_Name_kw (qd I hg hm ?_ hdb)
 refine Hw (h₀:=X.base) I.ok.mod.kin hk (thn (ha pos pins s σ H _ I h) fun us s1 ⟨vs,H1,I1,r,q⟩=>⟨I1.kIn,?_⟩) he hpl
 exact D1 F hr hb hd hcl I1 r q
abbrev wy(p q:Pos):Arguments:={ posonlyargs:=[],args:=[{ arg:="here",annotation:=none,pos:=p },{ arg:="there",annotation:=none,pos:=q }],vararg:=none,kwonlyargs:=[],kw_defaults:=[],kwarg:=none,defaults:=[] }
abbrev leSc:Scope:={ kind:=.function,names:=[("here",.local),("there",.local),("costs",.free)],isGenerator:=false,isCoroutine:=false,more:=[] }
abbrev leBd(p1 p2 p3 p4 p5 p6 p7:Pos):Expr:=.Compare (.Subscript (.Name "costs" p1) (.Name "there" p2) p3) [.LtE] [.Subscript (.Name "costs" p4) (.Name "here" p5) p6] p7
section
variable{prog:Program}{w:World}{A:Around}{E:Value->Shared->Prop}{s:Shared}
theorem le_run{f c' ct t:Addr}{qual:Str}{q0 q1 p1 p2 p3 p4 p5 p6 p7:Pos}{pm ctv:Value}{its:Array Value}{k k' n n':Int}{tk tk0 tn tn':Tok}{Q:Value->Shared->Prop}
  (hroom:A.depth<recursionLimit) (hf:s.heap.get? f=some (Gi "<lambda>" qual (wy q0 q1) (leBd p1 p2 p3 p4 p5 p6 p7) leSc [("costs",ct)] pm c' ctv)) (hcr:s.heap.CodeRec (.ref c') qual) (lim:s.heap.NoLimit)
  (hc:s.heap.IsCell ct (some (.ref t))) (hl:s.heap.IsList t its) (k0:0<=k) (k63:k<2^63) (hit:its[k.toNat]?=some (.int n tn)) (k0':0<=k') (k63':k'<2^63) (hit':its[k'.toNat]?=some (.int n' tn'))
  (hQ:∀ h' tk',(∀ b o,s.heap.get? b=some o->h'.get? b=some o)->Q (.bool (decide (n<=n'))) { s with heap:=h',toks:=tk' }) :
  wpAny (model prog w) A (call (.ref f) [.int k' tk0,.int k tk]) Q E s:=by
 refine wpAny_call (PySem.W.kla_callFunE hroom hf rfl rfl rfl rfl hcr ?_)
 have hb:bindArgs (PySem.W.kla_fn "<lambda>" qual (wy q0 q1) (leBd p1 p2 p3 p4 p5 p6 p7) leSc [("costs",ct)] pm (.ref c') ctv) ⟨[.int k' tk0,.int k tk],[]⟩=(pure [(("here" : Str),Value.int k' tk0),(("there" : Str),Value.int k tk)]:Sem (List (Str×Value))):=rfl
 rw[hb]
 refine wpAny_pure (wpAny_newFunctionEnv (fun x hx=>?_) (fun x hx=>?_) (fun h1 hns hsb=>?_) rfl)
 ·have hx':x=(("here" : Str),NameKind.local)∨x=(("there" : Str),NameKind.local)∨x=(("costs" : Str),NameKind.free):=by simpa using hx
  rcases hx' with rfl | rfl | rfl<;>exact fun z=>by cases z
 ·have hx':x=(("here" : Str),Value.int k' tk0)∨x=(("there" : Str),Value.int k tk):=by simpa using hx
  rcases hx' with rfl | rfl<;>rfl
 have kp:∀ b o,s.heap.get? b=some o->h1.get? b=some o:=fun b o e=>hsb.extBut b o (FG (Heap.lt_size e)) (Heap.get?_push_of_some _ e)
 refine⟨lim.keeps kp,PySem.W.kla_codeExpr ?_⟩
 refine wpAny_Compare1 ?_ rfl
 refine Subscript_ (wpAny_Name (wpAny_loadName_free (c:=ct) rfl rfl rfl (hc.keeps kp) ?_))
 refine wpAny_Name (wpAny_loadName_local rfl rfl hns rfl ?_)
 refine item_listR (hl.at fun o e=>kp _ _ e) k0 k63 hit ?_
 refine Subscript_ (wpAny_Name (wpAny_loadName_free (c:=ct) rfl rfl rfl (hc.keeps kp) ?_))
 refine wpAny_Name (wpAny_loadName_local rfl rfl hns rfl ?_)
 exact item_listR (hl.at fun o e=>kp _ _ e) k0' k63' hit' (le_int (hQ _ _ kp))
end
def xO(lq:Str)(H:Hp)(f:Addr)(cs:List Int):Prop:=∃(c' ct q:Addr)(pm ctv:Value)(oc:Obj)(q0 q1 p1 p2 p3 p4 p5 p6 p7:Pos),H f=some (.frz (Gi "<lambda>" lq (wy q0 q1) (leBd p1 p2 p3 p4 p5 p6 p7) leSc [("costs",ct)] pm c' ctv) (.own f))/\H c'=some (codO c' lq) /\
 H ct=some (.frz oc (.own ct))/\oc.data=.cell (some (.ref q))/\H q=some (.lst (cs.map V.int))
theorem xO.mono{lq:Str}{H H':Hp}{f:Addr}{cs:List Int}(h:xO lq H f cs)(s:Same H H'):xO lq H' f cs:=by
 obtain⟨c',ct,q,pm,ctv,oc,q0,q1,p1,p2,p3,p4,p5,p6,p7,a1,a2,a3,a4,a5⟩:=h
 exact⟨c',ct,q,pm,ctv,oc,q0,q1,p1,p2,p3,p4,p5,p6,p7,s _ _ a1,s _ _ a2,s _ _ a3,a4,s _ _ a5⟩
def tLetLe(lq:Str)(i:Nat)(t:TA):TE:=fun σ H Q=>∃ f,σ[i]?=some (some (.ref f))/\(∃ cs,xO lq H f cs)/\t σ H fun vs H1=>∃(k' k:Nat)(cs:List Int)(n n':Int),vs = [.int (k':Int),.int (k:Int)]/\xO lq H1 f cs/\cs[k]?=some n/\cs[k']?=some n'/\Q (.bl (decide (n<=n'))) H1
theorem ld_loc{X:Cx}{E:Value->Shared->Prop}{pins:List (Addr×Obj)}{s:Shared}{σ:St}{H:Hp}{i:Nat}{x:Str}{f:Addr}{pos:Pos}{Q:Value->Shared->Prop}(I:Inv X pins σ H s)(hN:X.N[i]?=some x)(hv:Vis X.env.scope x)(e:σ[i]?=some (some (.ref f)))(h:Q (.ref f) s)
  (hd:(x == ("__debug__" : Str))=false:=by decide) (hcd:(x == ("__classdict__" : Str))=false:=by decide):wpAny (model X.prog X.w) X.A (eval (.Name x pos) X.env) Q E s:=by
 obtain⟨m,hn,hl⟩:=I.loc
 obtain⟨u,r,l⟩:=hl i x _ hN e hv
 cases r
 rcases l with⟨hk,hm⟩ | ⟨hk,c,hc,hcell⟩
 ·exact wpAny_Name (wpAny_loadName_local I.ok.kind hk hn hm h) hd
 ·rcases hk with hk | hk
  ·exact wpAny_Name (wpAny_loadName_cell I.ok.kind hk hc hcell h) hd
  ·exact wpAny_Name (wpAny_loadName_free I.ok.kind hk hc hcell h hcd) hd
theorem EB{P:Program}{w:World}{H:Hp}{h:Heap}{q:Addr}{cs:List Int}(hok:HOk P w H h)(e:H q=some (.lst (cs.map V.int))):∃ its:Array Value,h.IsList q its/\cs.length<=sizeLine/\∀(k:Nat)(n:Int),cs[k]?=some n->∃ t,its[k]?=some (.int n t):=by
 obtain⟨hz,its,ncap,rv,hgl⟩:=hok q _ e
 refine⟨its.toArray,⟨_,hgl,rfl,_,rfl⟩,by rw[Fc]at hz;exact hz,fun k n hk=>?_⟩
 obtain⟨wv,hwv,rwv⟩:=rv.get (show(cs.map V.int)[k]?=some (.int n) by rw[Fg,hk];rfl)
 obtain⟨tn,rfl⟩:=rwv
 exact⟨tn,by simpa using hwv⟩
theorem Cn{X:Cx}{lq x:Str}{i:Nat}{np pos:Pos}{e:Expr}{es:List Expr}{t:TA}(hN:X.N[i]?=some x)(hv:Vis X.env.scope x)(hr:Room 0 X.A)(ha:PA X (e::es) t)
  (hd:(x == ("__debug__" : Str))=false:=by decide) (hcd:(x == ("__classdict__" : Str))=false:=by decide) (he:starEach (e::es) X.env=(false,eval e X.env)::starEach es X.env:=by rfl) (hpl:(backTo pos (starEach es X.env)).any (·.1)=false:=by rfl) :
  PE X (.Call (.Name x np) (e::es) [] pos) (tLetLe lq i t):=by
 intro pins s σ H Q I h
 obtain⟨f,hf,⟨cs0,hl0⟩,h⟩:=h
 refine wpAny_Call_Name_kw (ld_loc I hN hv hf ?_ hd hcd)
 have fnat:∀{H2:Hp}{s2:Shared}{cs:List Int},Inv X pins σ H2 s2->xO lq H2 f cs->PySem.W.FnAt f s2.heap:=fun I2 ⟨_,_,_,_,_,_,_,_,_,_,_,_,_,_,_,a1,_⟩=>by
  obtain⟨g,_⟩:=I2.hok f _ a1
  exact⟨_,_,_,_,g⟩
 refine PySem.W.callWith_F (fnat I hl0) (thn (ha pos pins s σ H _ I h) fun us s1 ⟨vs,H1,I1,r,q⟩=>?_) he hpl
 obtain⟨k',k,cs,n,n',rfl,hl,hn,hn',q⟩:=q
 refine⟨fnat I1 hl,?_⟩
 obtain⟨c',ct,qq,pm,ctv,oc,q0,q1,p1,p2,p3,p4,p5,p6,p7,a1,a2,a3,a4,a5⟩:=hl
 cases r with
 |cons r0 r =>
  cases r with
  |cons r1 r =>
   cases r
   obtain⟨tk0,rfl⟩:=r0
   obtain⟨tk,rfl⟩:=r1
   obtain⟨g1,_⟩:=I1.hok f _ a1
   obtain⟨g2,_,_⟩:=(show bM X.prog X.w H1 s1.heap c' (codO c' lq) from I1.hok c' _ a2)
   obtain⟨g3,_⟩:=I1.hok ct _ a3
   obtain⟨its,w1,w2,w3⟩:=EB I1.hok a5
   obtain⟨tn,hit⟩:=w3 k n hn
   obtain⟨tn',hit'⟩:=w3 k' n' hn'
   have kl:k<cs.length:=(E3.mp hn).1
   have kl':k'<cs.length:=(E3.mp hn').1
   have l63:=ot
   refine le_run (f:=f) (c':=c') (t:=qq) ?_ g1 g2 I1.nolimit ⟨oc,g3,a4⟩ w1 (by omega) (by omega) (by rw[Fn];exact hit) (by omega) (by omega) (by rw[Fn];exact hit') fun h' tk' kk=>⟨.bl (decide (n<=n')),H1,I1.kept kk,rfl,q⟩
   have:=hr.dp
   show X.A.depth<recursionLimit
   omega
end L2
namespace L2
theorem len_0{α:Type}{l:List α}(h:l.length=0):l = []:=IG.mp h
theorem zx{α:Type}{l:List α}{n:Nat}(h:l.length=n+1):∃ x r,l=x::r/\r.length=n:=by
 cases l with
 |nil=>cases h
 |cons x r=>exact⟨x,r,rfl,Nat.succ.inj h⟩
theorem Bd{α:Type}{l:List α}(h:l.length=1):∃ a,l = [a]:=by
 obtain⟨a,r,rfl,e⟩:=zx h
 exact⟨a,by rw[len_0 e]⟩
theorem fJ{α:Type}{l:List α}(h:l.length=2):∃ a b,l = [a,b]:=by
 obtain⟨a,r,rfl,e⟩:=zx h
 obtain⟨b,rfl⟩:=Bd e
 exact⟨a,b,rfl⟩
theorem sW{α:Type}{l:List α}(h:l.length=3):∃ a b c,l = [a,b,c]:=by
 obtain⟨a,r,rfl,e⟩:=zx h
 obtain⟨b,c,rfl⟩:=fJ e
 exact⟨a,b,c,rfl⟩
theorem CP{α:Type}{l:List α}(h:l.length=4):∃ a b c d,l = [a,b,c,d]:=by
 obtain⟨a,r,rfl,e⟩:=zx h
 obtain⟨b,c,d,rfl⟩:=sW e
 exact⟨a,b,c,d,rfl⟩
theorem len_5{α:Type}{l:List α}(h:l.length=5):∃ a b c d e,l = [a,b,c,d,e]:=by
 obtain⟨a,r,rfl,z⟩:=zx h
 obtain⟨b,c,d,e,rfl⟩:=CP z
 exact⟨a,b,c,d,e,rfl⟩
theorem len_6{α:Type}{l:List α}(h:l.length=6):∃ a b c d e f,l = [a,b,c,d,e,f]:=by
 obtain⟨a,r,rfl,z⟩:=zx h
 obtain⟨b,c,d,e,f,rfl⟩:=len_5 z
 exact⟨a,b,c,d,e,f,rfl⟩
end L2
namespace K8
theorem Dr:∀{a b:List Nat},a.Nodup->(∀ x∈a,x∈b)->a.length<=b.length
 |[],_,_,_=>Ge _
 |x::a,b,nd,h=>by
  obtain⟨n1,n2⟩:=Fd.mp nd
  have hx:=h x (by simp)
  have ih:=Dr (a:=a) (b:=b.erase x) n2 fun y hy=>(List.mem_erase_of_ne (fun e:y=x=>n1 (e▸hy))).mpr (h y (Fh _ hy))
  rw[List.length_erase_of_mem hx]at ih
  have:0<b.length:=GW hx
  rw[FV]
  omega
theorem c7{a:List Nat}{N:Nat}(nd:a.Nodup)(h:∀ x∈a,x<N):a.length<=N:=by
 have:=Dr (b:=GC N) nd fun x hx=>HY.mpr (h x hx)
 rwa[HC]at this
theorem yk{l:List Nat}(nd:l.Nodup){i j x:Nat}(hi:l[i]?=some x)(hj:l[j]?=some x):i=j:=by
 have p:=HA.mp nd
 obtain⟨h1,e1⟩:=E3.mp hi
 obtain⟨h2,e2⟩:=E3.mp hj
 rcases Nat.lt_trichotomy i j with z | z | z
 ·exact absurd (e1.trans e2.symm) (p i j h1 h2 z)
 ·exact z
 ·exact absurd (e2.trans e1.symm) (p j i h2 h1 z)
abbrev En:=List (Nat×Nat)
structure bx(m:Nat)(es:En)(ts:List (List Nat)):Prop where
 len:ts.length=m
 ends:∀ e∈es,e.1<m/\e.2<m/\e.1≠e.2
 nd:∀(p:Nat)(l:List Nat),ts[p]?=some l->l.Nodup
 mem:∀(p:Nat)(l:List Nat),ts[p]?=some l->∀ t,t∈l↔∃ e,es[t]?=some e/\(e.1=p∨e.2=p)
theorem B3(m:Nat):bx m [] (GA m []) where
 len:=by simp
 ends:=fun e h=>by cases h
 nd:=fun p l h=>by
  rw[GN]at h
  split at h
  ·cases h;exact GJ
  ·cases h
 mem:=fun p l h t=>by
  rw[GN]at h
  split at h
  ·cases h;simp
  ·cases h
def ins(l:List Nat)(k x:Nat):List Nat:=l.take k++x::l.drop k
theorem wK{l:List Nat}{k x y:Nat}:y∈ins l k x↔y=x∨y∈l:=by
 unfold ins
 rw[Fe,Fb]
 have:=Fy k l
 constructor
 ·rintro(h | h | h)
  ·exact .inr (F6 h)
  ·exact .inl h
  ·exact .inr (F7 h)
 ·rintro(h | h)
  ·exact .inr (.inl h)
  ·rw[← this]at h
   rcases Fe.mp h with z | z
   ·exact .inl z
   ·exact .inr (.inr z)
theorem Bs{l:List Nat}{k x:Nat}(nd:l.Nodup)(h:x∉l):(ins l k x).Nodup:=by
 unfold ins
 have e:=Fy k l
 rw[← e]at nd
 obtain⟨a,b,c⟩:=Fj.mp nd
 refine Fj.mpr ⟨a,Fd.mpr ⟨fun z=>h (F7 z),b⟩,fun y hy z hz=>?_⟩
 rcases Fb.mp hz with q | q
 ·intro w
  exact h (by rw[← q,← w];exact F6 hy)
 ·exact c y hy z q
theorem bx.put{m:Nat}{es:En}{ts:List (List Nat)}{one two k j:Nat}{l l':List Nat}(w:bx m es ts)(h1:one<m)(h2:two<m)(hn:one≠two)(e1:ts[one]?=some l)(e2:ts[two]?=some l') :
  bx m (es++[(one,two)]) ((ts.set one (ins l k es.length)).set two (ins l' j es.length)):=by
 have old:∀{p l},ts[p]?=some l->es.length∉l:=fun{p l} e z=>by
  obtain⟨x,hx,_⟩:=(w.mem p l e es.length).mp z
  have:=(E3.mp hx).1
  omega
 have get:∀ p q,((ts.set one (ins l k es.length)).set two (ins l' j es.length))[p]?=some q->(p=two/\q=ins l' j es.length)∨(p=one/\p≠two/\q=ins l k es.length)∨(p≠one/\p≠two/\ts[p]?=some q):=fun p q e=>by
  have L:two<(ts.set one (ins l k es.length)).length:=by rw[FK,w.len];exact h2
  have L1:one<ts.length:=by rw[w.len];exact h1
  rw[FI]at e
  by_cases z:two=p
  ·rw[if_pos z,if_pos L]at e
   exact .inl ⟨z.symm,(Fu e).symm⟩
  ·rw[if_neg z,FI]at e
   by_cases y:one=p
   ·rw[if_pos y,if_pos L1]at e
    exact .inr (.inl ⟨y.symm,Ne.symm z,(Fu e).symm⟩)
   ·rw[if_neg y]at e
    exact .inr (.inr ⟨Ne.symm y,Ne.symm z,e⟩)
 have esg:∀ t x,(es++[(one,two)])[t]?=some x↔(es[t]?=some x)∨(t=es.length/\x=(one,two)):=fun t x=>by
  by_cases z:t<es.length
  ·rw[E8 z]
   constructor
   ·exact .inl
   ·rintro(y | y)
    ·exact y
    ·omega
  ·rw[E9 (by omega)]
   constructor
   ·intro y
    have hl:=(E3.mp y).1
    rw[Fl]at hl
    have ht:t=es.length:=by omega
    subst ht
    rw[FA]at y
    cases y
    exact .inr ⟨rfl,rfl⟩
   ·rintro(y | ⟨y,rfl⟩)
    ·have:=(E3.mp y).1;omega
    ·rw[y,FA];rfl
 refine⟨by rw[FK,FK];exact w.len,fun e he=>?_,fun p q e=>?_,fun p q e t=>?_⟩
 ·rcases Fe.mp he with z | z
  ·exact w.ends e z
  ·have:e=(one,two):=by simpa using z
   subst this
   exact⟨h1,h2,hn⟩
 ·rcases get p q e with⟨_,rfl⟩ | ⟨_,_,rfl⟩ | ⟨_,_,y⟩
  ·exact Bs (w.nd two l' e2) (old e2)
  ·exact Bs (w.nd one l e1) (old e1)
  ·exact w.nd p q y
 ·rcases get p q e with⟨rfl,rfl⟩ | ⟨rfl,np,rfl⟩ | ⟨n1,n2,y⟩
  ·rw[wK,w.mem p l' e2 t]
   constructor
   ·rintro(z | ⟨x,hx,hp⟩)
    ·exact⟨(one,p),(esg _ _).mpr (.inr ⟨z,rfl⟩),.inr rfl⟩
    ·exact⟨x,(esg _ _).mpr (.inl hx),hp⟩
   ·rintro⟨x,hx,hp⟩
    rcases(esg _ _).mp hx with z | ⟨z,_⟩
    ·exact .inr ⟨x,z,hp⟩
    ·exact .inl z
  ·rw[wK,w.mem p l e1 t]
   constructor
   ·rintro(z | ⟨x,hx,hp⟩)
    ·exact⟨(p,two),(esg _ _).mpr (.inr ⟨z,rfl⟩),.inl rfl⟩
    ·exact⟨x,(esg _ _).mpr (.inl hx),hp⟩
   ·rintro⟨x,hx,hp⟩
    rcases(esg _ _).mp hx with z | ⟨z,_⟩
    ·exact .inr ⟨x,z,hp⟩
    ·exact .inl z
  ·rw[w.mem p q y t]
   constructor
   ·rintro⟨x,hx,hp⟩
    exact⟨x,(esg _ _).mpr (.inl hx),hp⟩
   ·rintro⟨x,hx,hp⟩
    rcases(esg _ _).mp hx with z | ⟨z,rfl⟩
    ·exact⟨x,z,hp⟩
    ·rcases hp with hp | hp
     ·exact absurd hp.symm n1
     ·exact absurd hp.symm n2
def hd(es:En)(d:Nat):Nat:=match es[d/2]? with | some e=>if d%2=0 then e.2 else e.1 | none=>0
def tl(es:En)(d:Nat):Nat:=match es[d/2]? with | some e=>if d%2=0 then e.1 else e.2 | none=>0
def nX(es:En)(t p:Nat):Nat:=match es[t]? with | some e=>if e.1=p then 2*t else 2*t+1 | none=>0
def nxt(l:List Nat)(t:Nat):Nat:=(l[(l.idxOf t+1)%l.length]?).getD 0
def fol(es:En)(ts:List (List Nat))(d:Nat):Nat:=nX es (nxt ((ts[hd es d]?).getD []) (d/2)) (hd es d)
section
variable{m:Nat}{es:En}{ts:List (List Nat)}
theorem wM{l:List Nat}{t:Nat}(h:t∈l):l[l.idxOf t]?=some t:=by
 have hl:=HD.mpr h
 rw[E4 hl,List.getElem_idxOf]
theorem iM{l:List Nat}{t:Nat}(h:t∈l):l[(l.idxOf t+1)%l.length]?=some (nxt l t):=by
 have hl:0<l.length:=GW h
 have:=Nat.mod_lt (l.idxOf t+1) hl
 unfold nxt
 rw[E4 this]
 rfl
theorem bx.at(w:bx m es ts){d:Nat}(h:d<2*es.length):∃ e l,es[d/2]?=some e/\hd es d=(if d%2=0 then e.2 else e.1)/\tl es d=(if d%2=0 then e.1 else e.2)/\hd es d<m/\ts[hd es d]?=some l/\d/2∈l:=by
 have hl:d/2<es.length:=by omega
 have e1:es[d/2]?=some es[d/2]:=E4 hl
 have q:=w.ends _ (E7 e1)
 generalize es[d/2]=e at e1 q
 have h1:hd es d=(if d%2=0 then e.2 else e.1):=by unfold hd;rw[e1]
 have h2:tl es d=(if d%2=0 then e.1 else e.2):=by unfold tl;rw[e1]
 have h3:hd es d<m:=by rw[h1];split<;>omega
 have h4:ts[hd es d]?=some (ts[hd es d]'(by rw[w.len];exact h3)):=E4 _
 refine⟨e,_,e1,h1,h2,h3,h4,(w.mem _ _ h4 _).mpr ⟨e,e1,?_⟩⟩
 rw[h1]
 split
 ·exact .inr rfl
 ·exact .inl rfl
theorem bx.foll(w:bx m es ts){d:Nat}(h:d<2*es.length):∃ l e,ts[hd es d]?=some l/\d/2∈l/\es[nxt l (d/2)]?=some e/\(e.1=hd es d∨e.2=hd es d)/\e.1≠e.2/\fol es ts d=(if e.1=hd es d then 2*nxt l (d/2) else 2*nxt l (d/2)+1)/\fol es ts d<2*es.length/\fol es ts d/2=nxt l (d/2)/\tl es (fol es ts d)=hd es d:=by
 obtain⟨e0,l,h1,h2,h3,h4,h5,h6⟩:=w.at h
 have hn:=iM h6
 obtain⟨e,he,hp⟩:=(w.mem _ _ h5 _).mp (E7 hn)
 have hlt:=(E3.mp he).1
 have hne:=(w.ends e (E7 he)).2.2
 have hf:fol es ts d=(if e.1=hd es d then 2*nxt l (d/2) else 2*nxt l (d/2)+1):=by
  unfold fol
  rw[h5]
  show nX es (nxt l (d/2)) (hd es d)=_
  unfold nX
  rw[he]
 refine⟨l,e,h5,h6,he,hp,hne,hf,?_,?_,?_⟩
 ·rw[hf];split<;>omega
 ·rw[hf];split<;>omega
 ·rw[hf]
  by_cases z:e.1=hd es d
  ·have a1:2*nxt l (d/2)/2=nxt l (d/2):=by omega
   have a2:2*nxt l (d/2)%2=0:=by omega
   rw[if_pos z]
   unfold tl
   rw[a1,he]
   show(if 2*nxt l (d/2)%2=0 then e.1 else e.2)=_
   rw[if_pos a2,z]
  ·have a1:(2*nxt l (d/2)+1)/2=nxt l (d/2):=by omega
   have a2:¬ (2*nxt l (d/2)+1)%2=0:=by omega
   rw[if_neg z]
   unfold tl
   rw[a1,he]
   show(if(2*nxt l (d/2)+1)%2=0 then e.1 else e.2)=_
   rw[if_neg a2]
   exact hp.elim (fun y=>absurd y z) id
theorem bx.inj(w:bx m es ts){a b:Nat}(ha:a<2*es.length)(hb:b<2*es.length)(h:fol es ts a=fol es ts b):a=b:=by
 obtain⟨l,e,p1,p2,_,_,_,_,_,p3,p4⟩:=w.foll ha
 obtain⟨l',e',q1,q2,_,_,_,_,_,q3,q4⟩:=w.foll hb
 have hh:hd es a=hd es b:=by rw[← p4,← q4,h]
 rw[hh,q1]at p1
 cases p1
 have hx:nxt l (a/2)=nxt l (b/2):=by rw[← p3,← q3,h]
 have g1:=iM p2
 have g2:=iM q2
 rw[hx]at g1
 have ii:=yk (w.nd _ _ q1) g1 g2
 have i1:=HD.mpr p2
 have i2:=HD.mpr q2
 have ix:l.idxOf (a/2)=l.idxOf (b/2):=by
  generalize l.idxOf (a/2)=x at *
  generalize l.idxOf (b/2)=y at *
  by_cases z1:x+1=l.length
  ·by_cases z2:y+1=l.length
   ·omega
   ·rw[z1,HK,GD (by omega)]at ii;omega
  ·by_cases z2:y+1=l.length
   ·rw[z2,HK,GD (by omega)]at ii;omega
   ·rw[GD (by omega),GD (by omega)]at ii;omega
 have ht:a/2=b/2:=by
  have g3:=wM p2
  have g4:=wM q2
  rw[ix,g4]at g3
  exact(Fu g3).symm
 obtain⟨e1,_,r1,r2,_,_,_,_⟩:=w.at ha
 obtain⟨e2,_,s1,s2,_,_,_,_⟩:=w.at hb
 rw[ht,s1]at r1
 have ee:e2=e1:=Fu r1
 rw[ee]at s1 s2
 have hne:=(w.ends e1 (E7 s1)).2.2
 rw[r2,s2]at hh
 have:a%2=b%2:=by
  by_cases z1:a%2=0<;>by_cases z2:b%2=0
  ·omega
  ·rw[if_pos z1,if_neg z2]at hh;exact absurd hh.symm hne
  ·rw[if_neg z1,if_pos z2]at hh;exact absurd hh hne
  ·omega
 omega
end
structure BW(f:Nat->Nat)(N:Nat):Prop where
 lt:∀ d,d<N->f d<N
 inj:∀ a b,a<N->b<N->f a=f b->a=b
structure Path(f:Nat->Nat)(N first:Nat)(r:List Nat):Prop where
 hd:r[0]?=some first
 lt:∀ d∈r,d<N
 nd:r.Nodup
 nx:∀ i x y,r[i]?=some x->r[i+1]?=some y->y=f x
theorem Cr{f:Nat->Nat}{N d:Nat}(h:d<N):Path f N d [d] where
 hd:=rfl
 lt:=fun x hx=>by have:x=d:=by simpa using hx
                  rw[this];exact h
 nd:=by simp
 nx:=fun i x y h1 h2=>by
  have:=(E3.mp h2).1
  rw[Fl]at this
  omega
theorem Path.snoc{f:Nat->Nat}{N d x:Nat}{r:List Nat}(p:BW f N)(h:Path f N d (r++[x]))(hn:f x≠d):Path f N d (r++[x]++[f x]) where
 hd:=by rw[E8 (by rw[E5,Fl];omega)];exact h.hd
 lt:=fun y hy=>by
  rcases Fe.mp hy with z | z
  ·exact h.lt y z
  ·have:y=f x:=by simpa using z
   rw[this];exact p.lt x (h.lt x (by simp))
 nd:=by
  refine Fj.mpr ⟨h.nd,by simp,fun a ha b hb e=>?_⟩
  have eb:b=f x:=by simpa using hb
  subst eb
  obtain⟨i,hi⟩:=FU.mp ha
  rw[e]at hi
  have hil:=(E3.mp hi).1
  rw[E5,Fl]at hil
  cases i with
  |zero =>
   rw[h.hd]at hi
   exact hn (Fu hi).symm
  |succ i =>
   have gi:(r++[x])[i]?=some ((r++[x])[i]'(by rw[E5,Fl];omega)):=E4 _
   have:=h.nx i _ _ gi hi
   have mi:=h.lt _ (E7 gi)
   have mx:=h.lt x (by simp)
   have e2:=p.inj _ _ mx mi this
   rw[← e2]at gi
   have gx:(r++[x])[r.length]?=some x:=by rw[E9 (Ff _),FA];rfl
   have:=yk h.nd gi gx
   omega
 nx:=fun i a b h1 h2=>by
  have h2l:=(E3.mp h2).1
  rw[E5,E5,Fl,Fl]at h2l
  rw[E8 (by rw[E5,Fl];omega)]at h1
  by_cases z:i+1<(r++[x]).length
  ·rw[E8 z]at h2
   exact h.nx i a b h1 h2
  ·rw[E5,Fl]at z
   have ei:i=r.length:=by omega
   subst ei
   rw[E9 (by rw[E5,Fl];omega)]at h2
   have:r.length+1-(r++[x]).length=0:=by rw[E5,Fl];omega
   rw[this]at h2
   rw[E9 (Ff _),FA]at h1
   have e1:x=a:=Fu h1
   have e2:f x=b:=Fu h2
   rw[← e2,e1]
structure Ring(f:Nat->Nat)(N:Nat)(r:List Nat):Prop where
 lt:∀ d∈r,d<N
 nd:r.Nodup
 ne:0<r.length
 nx:∀ i x,r[i]?=some x->r[(i+1)%r.length]?=some (f x)
theorem Path.ring{f:Nat->Nat}{N d x:Nat}{r:List Nat}(p:BW f N)(h:Path f N d (r++[x]))(he:f x=d):Ring f N (r++[x]) where
 lt:=h.lt
 nd:=h.nd
 ne:=by rw[E5,Fl];omega
 nx:=fun i y hy=>by
  have hl:=(E3.mp hy).1
  by_cases z:i+1=(r++[x]).length
  ·rw[z,HK]
   have:i=r.length:=by rw[E5,Fl]at z;omega
   subst this
   rw[E9 (Ff _),FA]at hy
   have:x=y:=Fu hy
   subst this
   rw[he];exact h.hd
  ·have l2:i+1<(r++[x]).length:=by omega
   rw[GD l2]
   have g:=E4 l2
   rw[g,h.nx i _ _ hy g]
theorem Ring.back{f:Nat->Nat}{N a:Nat}{r:List Nat}(p:BW f N)(h:Ring f N r)(ha:a<N)(hf:f a∈r):a∈r:=by
 obtain⟨i,hi⟩:=FU.mp hf
 have hl:=(E3.mp hi).1
 have key:∃ j,j<r.length/\(j+1)%r.length=i:=by
  cases i with
  |zero=>exact⟨r.length-1,by have:=h.ne;omega,by have:=h.ne;rw[show r.length-1+1=r.length by omega,HK]⟩
  |succ i=>exact⟨i,by omega,GD hl⟩
 obtain⟨j,hj,ej⟩:=key
 have g:=E4 hj
 have q:=h.nx j _ g
 rw[ej,hi]at q
 have mj:=h.lt _ (E7 g)
 have:=p.inj _ _ ha mj (Fu q)
 rw[this]
 exact E7 g
structure dZ(f:Nat->Nat)(N i:Nat)(rs:List (List Nat)):Prop where
 ring:∀ r∈rs,Ring f N r
 hdl:∀ r∈rs,∀ h,r[0]?=some h->h<i/\∀ d∈r,h<=d
 asc:∀(a b:Nat)(r r':List Nat)(h h':Nat),a<b->rs[a]?=some r->rs[b]?=some r'->r[0]?=some h->r'[0]?=some h'->h<h'
 nd:rs.flatten.Nodup
 all:∀ d,d<i->d∈rs.flatten
theorem yU(f:Nat->Nat)(N:Nat):dZ f N 0 [] where
 ring:=fun r h=>by cases h
 hdl:=fun r h=>by cases h
 asc:=fun a b r r' h h' _ e=>by cases e
 nd:=by simp
 all:=fun d h=>by omega
theorem dZ.skip{f:Nat->Nat}{N i:Nat}{rs:List (List Nat)}(w:dZ f N i rs)(h:i∈rs.flatten):dZ f N (i+1) rs where
 ring:=w.ring
 hdl:=fun r hr x hx=>⟨by have:=(w.hdl r hr x hx).1;omega,(w.hdl r hr x hx).2⟩
 asc:=w.asc
 nd:=w.nd
 all:=fun d hd=>by
  by_cases z:d=i
  ·rw[z];exact h
  ·exact w.all d (by omega)
theorem dZ.put{f:Nat->Nat}{N i:Nat}{rs:List (List Nat)}{r:List Nat}(p:BW f N)(w:dZ f N i rs)(h:i∉rs.flatten)(hi:i<N)(hr:Ring f N r)(pa:Path f N i r):dZ f N (i+1) (rs++[r]):=by
 have apart:∀(k x:Nat),r[k]?=some x->x∉rs.flatten:=fun k=>by
  induction k with
  |zero =>
   intro x hx
   rw[pa.hd]at hx
   cases hx
   exact h
  |succ k ih =>
   intro x hx z
   have hl:=(E3.mp hx).1
   have g:=E4 (show k<r.length by omega)
   have e:=pa.nx k _ _ g hx
   obtain⟨q,hq,zq⟩:=FZ.mp z
   rw[e]at zq
   exact ih _ g (FZ.mpr ⟨q,hq,(w.ring q hq).back p (hr.lt _ (E7 g)) zq⟩)
 have least:∀ d∈r,i<=d:=fun d hd=>by
  obtain⟨k,hk⟩:=FU.mp hd
  by_cases z:i<=d
  ·exact z
  ·exact absurd (w.all d (by omega)) (apart k d hk)
 refine⟨fun q hq=>?_,fun q hq x hx=>?_,fun a b q q' x x' hab ha hb hx hx'=>?_,?_,fun d hd=>?_⟩
 ·rcases Fe.mp hq with z | z
  ·exact w.ring q z
  ·have:q=r:=by simpa using z
   rw[this];exact hr
 ·rcases Fe.mp hq with z | z
  ·have:=w.hdl q z x hx
   exact⟨by omega,this.2⟩
  ·have e:q=r:=by simpa using z
   subst e
   rw[pa.hd]at hx
   cases hx
   exact⟨by omega,least⟩
 ·have bl:=(E3.mp hb).1
  rw[E5,Fl]at bl
  rw[E8 (by omega)]at ha
  by_cases z:b<rs.length
  ·rw[E8 z]at hb
   exact w.asc a b q q' x x' hab ha hb hx hx'
  ·have eb:b=rs.length:=by omega
   subst eb
   rw[E9 (Ff _),FA]at hb
   have e:r=q':=Fu hb
   subst e
   rw[pa.hd]at hx'
   cases hx'
   exact(w.hdl q (E7 ha) x hx).1
 ·rw[Gg]
  have e : [r].flatten=r:=by simp
  rw[e]
  refine Fj.mpr ⟨w.nd,hr.nd,fun a ha b hb e=>?_⟩
  obtain⟨k,hk⟩:=FU.mp hb
  exact apart k b hk (e▸ha)
 ·rw[Gg,Fe]
  by_cases z:d=i
  ·right
   rw[z]
   simp
   exact E7 pa.hd
  ·exact .inl (w.all d (by omega))
theorem EE{rs:List (List Nat)}(nd:rs.flatten.Nodup){a b:Nat}{r r':List Nat}{d:Nat}(ha:rs[a]?=some r)(hb:rs[b]?=some r')(h1:d∈r)(h2:d∈r'):a=b:=by
 induction rs generalizing a b with
 |nil=>cases ha
 |cons q rs ih =>
  rw[Fx]at nd
  obtain⟨_,n2,n3⟩:=Fj.mp nd
  cases a with
  |zero =>
   cases b with
   |zero=>rfl
   |succ b =>
    have e:q=r:=Fu ha
    subst e
    exact absurd rfl (n3 d h1 d (FZ.mpr ⟨r',E7 hb,h2⟩))
  |succ a =>
   cases b with
   |zero =>
    have e:q=r':=Fu hb
    subst e
    exact absurd rfl (n3 d h2 d (FZ.mpr ⟨r,E7 ha,h1⟩))
   |succ b=>exact congrArg Nat.succ (ih n2 ha hb)
end K8
namespace K8
def gh(f:Nat->Nat):Nat->List Nat->Nat->Prop
 |x,[],z=>f x=z
 |x,y::l,z=>f x=y/\gh f y l z
theorem bT{f:Nat->Nat}:∀{x:Nat}{l:List Nat}{y:Nat}{k:List Nat}{z:Nat},gh f x (l++y::k) z↔gh f x l y/\gh f y k z
 |x,[],y,k,z=>Iff.rfl
 |x,a::l,y,k,z=>by
  show(f x=a/\gh f a (l++y::k) z)↔(f x=a/\gh f a l y)/\gh f y k z
  rw[bT,and_assoc]
theorem eN{f g:Nat->Nat}:∀{x y:Nat}{l:List Nat}{z:Nat},gh f x l z->g y=f x->(∀ t∈l,g t=f t)->gh g y l z
 |x,y,[],z,h,e,_=>e.trans h
 |x,y,a::l,z,h,e,k=>⟨e.trans h.1,eN h.2 (k a (Fi ..)) fun t ht=>k t (Fh _ ht)⟩
theorem jI{f g F:Nat->Nat}:∀{x:Nat}{l:List Nat}{z:Nat},gh f x l z->(∀ t∈x::l,g (F t)=F (f t))->gh g (F x) (l.map F) (F z)
 |x,[],z,h,k=>by
  show g (F x)=F z
  rw[k x (Fi ..),show f x=z from h]
 |x,a::l,z,h,k=>⟨by rw[k x (Fi ..),h.1],jI h.2 fun t ht=>k t (Fh _ ht)⟩
theorem mT{f:Nat->Nat}{S:Nat->Prop}:∀{x:Nat}{l:List Nat}{z:Nat},gh f x l z->(∀ t∈x::l,S t->S (f t))->S x->S z/\∀ t∈l,S t
 |x,[],z,h,k,s=>⟨by have:=k x (Fi ..) s;rwa[show f x=z from h]at this,fun t ht=>nomatch ht⟩
 |x,a::l,z,h,k,s=>by
  have s1:S a:=by have:=k x (Fi ..) s;rwa[h.1]at this
  obtain⟨h1,h2⟩:=mT h.2 (fun t ht=>k t (Fh _ ht)) s1
  refine⟨h1,fun t ht=>?_⟩
  rcases Fb.mp ht with y | y
  ·rw[y];exact s1
  ·exact h2 t y
structure CR(f:Nat->Nat)(N:Nat)(r:List Nat):Prop where
 ch:∃ x l,r=x::l/\gh f x l x
 lt:∀ d∈r,d<N
 nd:r.Nodup
theorem CR.closed{f:Nat->Nat}{N:Nat}{r:List Nat}(h:CR f N r):∀ d∈r,f d∈r:=by
 obtain⟨x,l,rfl,c⟩:=h.ch
 intro d hd
 rcases Fb.mp hd with y | y
 ·subst y
  cases l with
  |nil=>rw[show f d=d from c];exact Fi ..
  |cons a l=>rw[c.1];simp
 ·obtain⟨A,B,rfl⟩:=Hx y
  have c2:=(bT.mp c).2
  cases B with
  |nil=>rw[show f d=x from c2];exact Fi ..
  |cons a B=>rw[c2.1];simp
theorem CR.sub{f:Nat->Nat}{N:Nat}{r:List Nat}{S:Nat->Prop}(h:CR f N r)(k:∀ t∈r,S t->S (f t)){d:Nat}(hd:d∈r)(s:S d):∀ t∈r,S t:=by
 obtain⟨x,l,rfl,c⟩:=h.ch
 have fromx:S x->∀ t∈x::l,S t:=fun sx t ht=>by
  rcases Fb.mp ht with y | y
  ·rw[y];exact sx
  ·exact(mT c k sx).2 t y
 rcases Fb.mp hd with y | y
 ·exact fromx (y▸s)
 ·obtain⟨A,B,rfl⟩:=Hx y
  have c2:=(bT.mp c).2
  exact fromx (mT c2 (fun t ht=>k t (by simp only[Fb,Fe]at ht ⊢;rcases ht with z | z<;>simp[z])) s).1
theorem CR.same{f:Nat->Nat}{N:Nat}{r r':List Nat}(h:CR f N r)(h':CR f N r'){d:Nat}(h1:d∈r)(h2:d∈r'):∀ t∈r,t∈r':=h.sub (S:=fun t=>t∈r') (fun t _=>h'.closed t) h1 h2
theorem CR.ne{f:Nat->Nat}{N:Nat}{r:List Nat}(h:CR f N r):∃ d,d∈r:=by
 obtain⟨x,l,rfl,_⟩:=h.ch
 exact⟨x,Fi ..⟩
structure Part(f:Nat->Nat)(N:Nat)(rs:List (List Nat)):Prop where
 cr:∀ r∈rs,CR f N r
 nd:rs.flatten.Nodup
 all:∀ d,d<N->d∈rs.flatten
theorem Part.pick{f:Nat->Nat}{N:Nat}{rs:List (List Nat)}(p:Part f N rs){r:List Nat}(h:CR f N r):∃ rest,Part f N (r::rest)/\rest.length+1=rs.length:=by
 obtain⟨d,hd⟩:=h.ne
 obtain⟨r0,m1,m2⟩:=FZ.mp (p.all d (h.lt d hd))
 have c0:=p.cr r0 m1
 have s1:=h.same c0 hd m2
 have s2:=c0.same h m2 hd
 obtain⟨A,B,rfl⟩:=Hx m1
 have nd:=p.nd
 rw[Gg,Fx]at nd
 obtain⟨n1,n2,n3⟩:=Fj.mp nd
 obtain⟨n4,n5,n6⟩:=Fj.mp n2
 refine⟨A++B,⟨fun q hq=>?_,?_,fun y hy=>?_⟩,by simp;omega⟩
 ·rcases Fb.mp hq with z | z
  ·rw[z];exact h
  ·refine p.cr q ?_
   rcases Fe.mp z with z | z
   ·simp[z]
   ·simp[z]
 ·rw[Fx,Gg]
  refine Fj.mpr ⟨h.nd,Fj.mpr ⟨n1,n5,fun a ha b hb=>n3 a ha b (by simp[hb])⟩,fun a ha b hb=>?_⟩
  rcases Fe.mp hb with z | z
  ·exact fun e=>n3 b z a (FD _ (s1 a ha)) e.symm
  ·exact n6 a (s1 a ha) b z
 ·have:=p.all y hy
  rw[Gg,Fx]at this
  rw[Fx,Gg]
  simp only[Fe]at this ⊢
  rcases this with z | z | z
  ·exact .inr (.inl z)
  ·exact .inl (s2 y z)
  ·exact .inr (.inr z)
theorem Part.same:∀{rs qs:List (List Nat)}{f:Nat->Nat}{N:Nat},Part f N rs->Part f N qs->rs.length=qs.length:=by
 have le:∀(k:Nat){rs qs:List (List Nat)}{f:Nat->Nat}{N:Nat},Part f N rs->Part f N qs->rs.length<=qs.length:=by
  intro _ rs qs f N p q
  have g:∀ r∈rs,∃ i,i<qs.length/\∃ r',qs[i]?=some r'/\∀ t∈r',t∈r:=fun r hr=>by
   have c:=p.cr r hr
   obtain⟨d,hd⟩:=c.ne
   obtain⟨r',m1,m2⟩:=FZ.mp (q.all d (c.lt d hd))
   obtain⟨i,hi⟩:=FU.mp m1
   exact⟨i,(E3.mp hi).1,r',hi,(q.cr r' m1).same c m2 hd⟩
  have:∀(l:List (List Nat)),(∀ r∈l,r∈rs)->l.flatten.Nodup->∃ is:List Nat,is.length=l.length/\is.Nodup/\∀ i∈is,i<qs.length/\∃ r∈l,∃ r',qs[i]?=some r'/\∀ t∈r',t∈r:=fun l=>by
   induction l with
   |nil=>intro _ _;exact⟨[],rfl,GJ,fun i hi=>nomatch hi⟩
   |cons r l ih =>
    intro h nd
    rw[Fx]at nd
    obtain⟨n1,n2,n3⟩:=Fj.mp nd
    obtain⟨is,e1,e2,e3⟩:=ih (fun r hr=>h r (Fh _ hr)) n2
    obtain⟨i,h1,r',h2,h3⟩:=g r (h r (Fi ..))
    refine⟨i::is,by simp[e1],Fd.mpr ⟨fun z=>?_,e2⟩,fun j hj=>?_⟩
    ·obtain⟨_,r2,m2,r3,m3,m4⟩:=e3 i z
     rw[h2]at m3
     cases m3
     obtain⟨d,hd⟩:=(q.cr r' (E7 h2)).ne
     exact n3 d (h3 d hd) d (FZ.mpr ⟨r2,m2,m4 d hd⟩) rfl
    ·rcases Fb.mp hj with z | z
     ·subst z;exact⟨h1,r,Fi ..,r',h2,h3⟩
     ·obtain⟨k1,r2,k2,k3⟩:=e3 j z
      exact⟨k1,r2,Fh _ k2,k3⟩
  obtain⟨is,e1,e2,e3⟩:=this rs (fun _ h=>h) p.nd
  rw[← e1]
  exact c7 e2 fun i hi=>(e3 i hi).1
 intro rs qs f N p q
 exact Nat.le_antisymm (le 0 p q) (le 0 q p)
theorem Ring.cr{f:Nat->Nat}{N:Nat}{r:List Nat}(h:Ring f N r):CR f N r:=by
 refine⟨?_,h.lt,h.nd⟩
 have ne:=h.ne
 match r,h,ne with
 |x::l,h,_ =>
  refine⟨x,l,rfl,?_⟩
  have key:∀(k i:Nat)(y:Nat),i+k+1=(x::l).length->(x::l)[i]?=some y->gh f y ((x::l).drop (i+1)) x:=fun k=>by
   induction k with
   |zero =>
    intro i y hi hy
    have e:=h.nx i y hy
    rw[show(i+1)%(x::l).length=0 by rw[← hi];simp]at e
    rw[List.drop_of_length_le (by omega)]
    exact(Fu e).symm
   |succ k ih =>
    intro i y hi hy
    have e:=h.nx i y hy
    rw[GD (by omega)]at e
    obtain⟨hl,e2⟩:=E3.mp e
    rw[Gv hl,e2]
    exact⟨rfl,ih (i+1) (f y) (by omega) e⟩
  exact key l.length 0 x (by simp) rfl
theorem dZ.part{f:Nat->Nat}{N:Nat}{rs:List (List Nat)}(w:dZ f N N rs):Part f N rs:=⟨fun r hr=>(w.ring r hr).cr,w.nd,w.all⟩
end K8
namespace K8
theorem tJ{A B:List Nat}{t:Nat}(h:t∉A):(A++t::B).idxOf t=A.length:=by
 rw[List.idxOf_append,if_neg h,HU,Nat.zero_add]
theorem aZ{A B:List Nat}{t:Nat}(h:t∉A):nxt (A++t::B) t=((B++(A++t::B)).head?).getD 0:=by
 unfold nxt
 rw[tJ h]
 cases B with
 |nil =>
  have e:(A.length+1)%(A++[t]).length=0:=by rw[E5,Fl,HK]
  rw[e,HN,List.head?_eq_getElem?]
 |cons b B =>
  have e:(A.length+1)%(A++t::b::B).length=A.length+1:=GD (by simp)
  rw[e,E9 (by omega)]
  rw[show A.length+1-A.length=1 by omega]
  rfl
theorem Br{A B:List Nat}{u n:Nat}(h:u∉A):ins (A++u::B) ((A++u::B).idxOf u+1) n=A++u::n::B:=by
 rw[tJ h]
 unfold ins
 have e1:(A++u::B).take (A.length+1)=A++[u]:=by
  rw[List.take_append,FN (by omega),show A.length+1-A.length=1 by omega]
  rfl
 have e2:(A++u::B).drop (A.length+1)=B:=by simp
 rw[e1,e2]
 simp
theorem fA{l:List Nat}{u:Nat}(h:u∈l):∃ A B,l=A++u::B/\u∉A:=by
 induction l with
 |nil=>exact nomatch h
 |cons a l ih =>
  by_cases z:a=u
  ·subst z;exact⟨[],l,rfl,GF⟩
  ·rcases Fb.mp h with y | y
   ·exact absurd y.symm z
   ·obtain⟨A,B,rfl,k⟩:=ih y
    exact⟨a::A,B,rfl,fun w=>by rcases Fb.mp w with w | w;exact z w.symm;exact k w⟩
theorem Er{l:List Nat}{u n:Nat}(hu:u∈l)(hn:n∉l) :
  nxt (ins l (l.idxOf u+1) n) u=n/\nxt (ins l (l.idxOf u+1) n) n=nxt l u/\∀ t∈l,t≠u->nxt (ins l (l.idxOf u+1) n) t=nxt l t:=by
 obtain⟨A,B,rfl,k⟩:=fA hu
 rw[Br k]
 have hnA:n∉A:=fun z=>hn (by simp[z])
 have hnu:n≠u:=fun z=>hn (by simp[z])
 refine⟨?_,?_,fun t ht htu=>?_⟩
 ·rw[aZ k];rfl
 ·have e:A++u::n::B=(A++[u])++n::B:=by simp
  rw[e,aZ (fun z=>by rcases Fe.mp z with z | z;exact hnA z;exact hnu (by simpa using z)),aZ k]
  cases B<;>cases A<;>rfl
 ·rcases Fe.mp ht with z | z
  ·obtain⟨A1,A2,rfl,k2⟩:=fA z
   have e1:(A1++t::A2)++u::n::B=A1++t::(A2++u::n::B):=by simp
   have e2:(A1++t::A2)++u::B=A1++t::(A2++u::B):=by simp
   rw[e1,e2,aZ k2,aZ k2]
   cases A2<;>rfl
  ·have z':t∈B:=by
    rcases Fb.mp z with z | z
    ·exact absurd z htu
    ·exact z
   by_cases tA:t∈A
   ·obtain⟨A1,A2,rfl,k2⟩:=fA tA
    have e1:(A1++t::A2)++u::n::B=A1++t::(A2++u::n::B):=by simp
    have e2:(A1++t::A2)++u::B=A1++t::(A2++u::B):=by simp
    rw[e1,e2,aZ k2,aZ k2]
    cases A2<;>rfl
   ·obtain⟨B1,B2,rfl,k2⟩:=fA z'
    have tn:t≠n:=fun y=>hn (by rw[← y];simp)
    have e1:A++u::n::(B1++t::B2)=(A++u::n::B1)++t::B2:=by simp
    have e2:A++u::(B1++t::B2)=(A++u::B1)++t::B2:=by simp
    rw[e1,e2,aZ (by simp[tA,htu,tn,k2]),aZ (by simp[tA,htu,k2])]
    cases B2<;>cases A<;>rfl
theorem mC{es:En}{e:Nat×Nat}{t p:Nat}(h:t<es.length):nX (es++[e]) t p=nX es t p:=by
 unfold nX
 rw[E8 h]
theorem mD{es:En}{e:Nat×Nat}{p:Nat}:nX (es++[e]) es.length p=if e.1=p then 2*es.length else 2*es.length+1:=by
 unfold nX
 rw[E9 (Ff _),FA]
 rfl
theorem ou{es:En}{e:Nat×Nat}{d:Nat}(h:d<2*es.length):hd (es++[e]) d=hd es d:=by
 unfold hd
 rw[E8 (by omega)]
theorem hd_new{es:En}{e:Nat×Nat}:hd (es++[e]) (2*es.length)=e.2/\hd (es++[e]) (2*es.length+1)=e.1:=by
 have e1:2*es.length/2=es.length:=by omega
 have e2:(2*es.length+1)/2=es.length:=by omega
 constructor
 ·unfold hd
  rw[e1,E9 (Ff _),FA]
  show(if 2*es.length%2=0 then e.2 else e.1)=_
  rw[if_pos (by omega)]
 ·unfold hd
  rw[e2,E9 (Ff _),FA]
  show(if(2*es.length+1)%2=0 then e.2 else e.1)=_
  rw[if_neg (by omega)]
theorem hd_inj{m:Nat}{es:En}{ts:List (List Nat)}(w:bx m es ts){a b:Nat}(ha:a<2*es.length)(hb:b<2*es.length)(h:hd es a=hd es b)(h2:a/2=b/2):a=b:=by
 obtain⟨e1,_,r1,r2,_⟩:=w.at ha
 obtain⟨e2,_,s1,s2,_⟩:=w.at hb
 rw[h2,s1]at r1
 cases r1
 have hne:=(w.ends e1 (E7 s1)).2.2
 rw[r2,s2]at h
 by_cases z1:a%2=0<;>by_cases z2:b%2=0
 ·omega
 ·rw[if_pos z1,if_neg z2]at h;exact absurd h.symm hne
 ·rw[if_neg z1,if_pos z2]at h;exact absurd h hne
 ·omega
def bw(n:Nat)(e:Nat×Nat)(p:Nat):Nat:=if e.1=p then 2*n else 2*n+1
theorem dN{es:En}{ts:List (List Nat)}{d:Nat}{l:List Nat}(h:ts[hd es d]?=some l):fol es ts d=nX es (nxt l (d/2)) (hd es d):=by
 unfold fol
 rw[h]
 rfl
end K8
namespace K8
theorem bx.flip{m:Nat}{es:En}{ts:List (List Nat)}{a b:Nat}(w:bx m (es++[(a,b)]) ts):bx m (es++[(b,a)]) ts:=by
 have key:∀(x y:Nat)(t p:Nat),(∃ e,(es++[(x,y)])[t]?=some e/\(e.1=p∨e.2=p))->∃ e,(es++[(y,x)])[t]?=some e/\(e.1=p∨e.2=p):=fun x y t p=>by
  rintro⟨e,h1,h2⟩
  by_cases z:t<es.length
  ·rw[E8 z]at h1
   exact⟨e,by rw[E8 z];exact h1,h2⟩
  ·have hl:=(E3.mp h1).1
   rw[E5,Fl]at hl
   have z':t=es.length:=by omega
   subst z'
   rw[E9 (Ff _),FA]at h1
   cases h1
   exact⟨(y,x),by rw[E9 (Ff _),FA];rfl,h2.symm⟩
 refine⟨w.len,fun e he=>?_,w.nd,fun p l h t=>⟨fun z=>key a b t p ((w.mem p l h t).mp z),fun z=>(w.mem p l h t).mpr (key b a t p z)⟩⟩
 rcases Fe.mp he with z | z
 ·exact w.ends e (FD _ z)
 ·have:e=(b,a):=by simpa using z
  subst this
  obtain⟨h1,h2,h3⟩:=w.ends (a,b) (by simp)
  exact⟨h2,h1,fun y=>h3 y.symm⟩
theorem bx.room{m:Nat}{es:En}{ts:List (List Nat)}(w:bx m es ts):bx (m+1) es (ts++[[]]):=by
 refine⟨by rw[E5,w.len];rfl,fun e he=>?_,fun p l h=>?_,fun p l h t=>?_⟩
 ·obtain⟨h1,h2,h3⟩:=w.ends e he
  exact⟨by omega,by omega,h3⟩
 all_goals by_cases z:p<ts.length
 ·rw[E8 z]at h
  exact w.nd p l h
 ·have hl:=(E3.mp h).1
  rw[E5,Fl]at hl
  have z':p=ts.length:=by omega
  subst z'
  rw[E9 (Ff _),FA]at h
  cases h
  exact GJ
 ·rw[E8 z]at h
  exact w.mem p l h t
 ·have hl:=(E3.mp h).1
  rw[E5,Fl]at hl
  have z':p=ts.length:=by omega
  subst z'
  rw[E9 (Ff _),FA]at h
  cases h
  refine⟨(fun y=>nomatch y),?_⟩
  rintro⟨e,h1,h2⟩
  obtain⟨k1,k2,_⟩:=w.ends e (E7 h1)
  have:=w.len
  omega
theorem EK{m:Nat}{es:En}{ts:List (List Nat)}(w:bx m es ts){p:Nat}{l:List Nat}(h:ts[p]?=some l):es.length∉l:=fun z=>by
 obtain⟨x,hx,_⟩:=(w.mem p l h es.length).mp z
 have:=(E3.mp hx).1
 omega
theorem kd{m:Nat}{es:En}{ts ts':List (List Nat)}{e:Nat×Nat}{p u:Nat}{l:List Nat}(w:bx m es ts)(hl:ts[p]?=some l)(hu:u<2*es.length)(hp:hd es u=p)(hl':ts'[p]?=some (ins l (l.idxOf (u/2)+1) es.length)) :
  fol (es++[e]) ts' u=bw es.length e p/\(∀ b,b/2=es.length->hd (es++[e]) b=p->fol (es++[e]) ts' b=fol es ts u)/\∀ d,d<2*es.length->d≠u->hd es d=p->fol (es++[e]) ts' d=fol es ts d:=by
 obtain⟨_,l0,_,_,_,_,g5,g6⟩:=w.at hu
 rw[hp,hl]at g5
 cases g5
 have nn:=EK w hl
 obtain⟨n1,n2,n3⟩:=Er g6 nn
 have lt:∀ t∈l,nxt l t<es.length:=fun t ht=>by
  obtain⟨x,hx,_⟩:=(w.mem p l hl (nxt l t)).mp (E7 (iM ht))
  exact(E3.mp hx).1
 refine⟨?_,fun b hb hpb=>?_,fun d hd' hne hpd=>?_⟩
 ·rw[dN (l:=ins l (l.idxOf (u/2)+1) es.length) (by rw[ou hu,hp];exact hl'),n1,ou hu,hp,mD]
  rfl
 ·rw[dN (l:=ins l (l.idxOf (u/2)+1) es.length) (by rw[hpb];exact hl'),hb,n2,hpb,mC (lt _ g6),dN (l:=l) (by rw[hp];exact hl),hp]
 ·obtain⟨_,l0,_,_,_,_,k5,k6⟩:=w.at hd'
  rw[hpd,hl]at k5
  cases k5
  have tne:d/2≠u/2:=fun z=>hne (hd_inj w hd' hu (hpd.trans hp.symm) z)
  rw[dN (l:=ins l (l.idxOf (u/2)+1) es.length) (by rw[ou hd',hpd];exact hl'),n3 _ k6 tne,ou hd',hpd,mC (lt _ k6),dN (l:=l) (by rw[hpd];exact hl),hpd]
theorem lV{m:Nat}{es:En}{ts ts':List (List Nat)}{e:Nat×Nat}(w:bx m es ts){d:Nat}(hd':d<2*es.length)(h:ts'[hd es d]?=ts[hd es d]?):fol (es++[e]) ts' d=fol es ts d:=by
 obtain⟨_,l,_,_,_,_,k5,k6⟩:=w.at hd'
 have lt:nxt l (d/2)<es.length:=by
  obtain⟨x,hx,_⟩:=(w.mem _ l k5 (nxt l (d/2))).mp (E7 (iM k6))
  exact(E3.mp hx).1
 rw[dN (l:=l) (by rw[ou hd',h];exact k5),ou hd',mC lt,dN k5]
theorem aO(n:Nat)(e:Nat×Nat)(p:Nat):bw n e p/2=n:=by
 unfold bw
 split<;>omega
theorem lX{es:En}{one two:Nat}{e:Nat×Nat}(hne:one≠two)(he:e=(one,two)∨e=(two,one)):hd (es++[e]) (bw es.length e one)=two/\hd (es++[e]) (bw es.length e two)=one/\bw es.length e one≠bw es.length e two/\∀ d,d<2*(es.length+1)->d<2*es.length∨d=bw es.length e one∨d=bw es.length e two:=by
 obtain⟨h1,h2⟩:=hd_new (es:=es) (e:=e)
 unfold bw
 rcases he with he | he
 ·have c1:e.1=one:=by rw[he]
  have c2:¬ e.1=two:=by rw[he];exact hne
  have c3:e.2=two:=by rw[he]
  rw[if_pos c1,if_neg c2,h1,h2]
  exact⟨c3,c1,by omega,fun d hd=>by omega⟩
 ·have c1:e.1=two:=by rw[he]
  have c2:¬ e.1=one:=by rw[he];exact fun z=>hne z.symm
  have c3:e.2=one:=by rw[he]
  rw[if_pos c1,if_neg c2,h1,h2]
  exact⟨c1,c3,by omega,fun d hd=>by omega⟩
def par(S:Nat->Bool):List Nat->Bool
 |[]=>false
 |d::l=>S (d/2) ^^ par S l
theorem aN(S:Nat->Bool)(d:Nat)(l:List Nat):par S (d::l)=(S (d/2) ^^ par S l):=rfl
theorem vM(S:Nat->Bool):∀ a b:List Nat,par S (a++b)=(par S a ^^ par S b)
 |[],b=>by show par S b=(false ^^ par S b);rw[Bool.false_xor]
 |x::a,b=>by rw[GG,aN,aN,vM S a b,Iz]
theorem yd(S:Nat->Bool){a b:List Nat}(p:a.Perm b):par S a=par S b:=by
 induction p with
 |nil=>rfl
 |cons x _ ih=>rw[aN,aN,ih]
 |swap x y l=>rw[aN,aN,aN,aN,← Iz,← Iz,IH (S (y/2))]
 |trans _ _ a b=>exact a.trans b
theorem AQ(S:Nat->Bool)(σ:Nat->Nat):∀ l:List Nat,par S (l.map fun d=>2*σ (d/2)+d%2)=par (fun t=>S (σ t)) l
 |[]=>rfl
 |d::l=>by
  rw[FX,aN,aN,AQ S σ l,show(2*σ (d/2)+d%2)/2=σ (d/2) by omega]
def E2(es:En)(S Pl:Nat->Bool):Prop:=∀(t:Nat)(e:Nat×Nat),es[t]?=some e->S t=(Pl e.1 ^^ Pl e.2)
theorem yE{es:En}{S Pl:Nat->Bool}(h:E2 es S Pl){d:Nat}(hd':d<2*es.length):S (d/2)=(Pl (tl es d) ^^ Pl (hd es d)):=by
 have e1:es[d/2]?=some (es[d/2]'(by omega)):=E4 _
 rw[h _ _ e1]
 unfold tl hd
 rw[e1]
 show _=(Pl (if d%2=0 then es[d/2].1 else es[d/2].2) ^^ Pl (if d%2=0 then es[d/2].2 else es[d/2].1))
 split
 ·rfl
 ·exact IH _ _
theorem yD{m:Nat}{es:En}{ts:List (List Nat)}{S Pl:Nat->Bool}(w:bx m es ts)(h:E2 es S Pl):∀{x:Nat}{l:List Nat}{z:Nat},gh (fol es ts) x l z->x<2*es.length->(∀ t∈l,t<2*es.length)->z<2*es.length->par S (l++[z])=(Pl (hd es x) ^^ Pl (hd es z))
 |x,[],z,c,hx,_,hz=>by
  obtain⟨_,_,_,_,_,_,_,_,_,_,k⟩:=w.foll hx
  have c':fol es ts x=z:=c
  rw[HN,aN,yE h hz,← c',k]
  exact Bool.xor_false _
 |x,a::l,z,c,hx,hl,hz=>by
  obtain⟨_,_,_,_,_,_,_,_,_,_,k⟩:=w.foll hx
  have ha:=hl a (Fi ..)
  rw[GG,aN,yD w h c.2 ha (fun t ht=>hl t (Fh _ ht)) hz,yE h ha,← c.1,k]
  cases Pl (hd es x)<;>cases Pl (hd es (fol es ts x))<;>cases Pl (hd es z)<;>rfl
structure Gr(m:Nat)(es:En)(ts:List (List Nat)):Prop where
 w:bx m es ts
 part:∃ rs,Part (fol es ts) (2*es.length) rs/\m+rs.length=es.length+2
 conn:∀ S:Nat->Prop,(∀ e∈es,S e.1↔S e.2)->∀ p q,p<m->q<m->S p->S q
 cut:∀ S:Nat->Bool,(∀ r,CR (fol es ts) (2*es.length) r->par S r=false)->∃ Pl:Nat->Bool,E2 es S Pl
theorem CR.mono{f g:Nat->Nat}{N M:Nat}{r:List Nat}(h:CR f N r)(hN:N<=M)(k:∀ t∈r,g t=f t):CR g M r:=by
 obtain⟨x,l,rfl,c⟩:=h.ch
 exact⟨⟨x,l,rfl,eN c (k x (Fi ..)) fun t ht=>k t (Fh _ ht)⟩,fun d hd=>FP (h.lt d hd) hN,h.nd⟩
theorem Dj{m:Nat}{es:En}{e:Nat×Nat}(c:∀ S:Nat->Prop,(∀ e∈es,S e.1↔S e.2)->∀ p q,p<m->q<m->S p->S q):∀ S:Nat->Prop,(∀ x∈es++[e],S x.1↔S x.2)->∀ p q,p<m->q<m->S p->S q :=
 fun S h=>c S fun x hx=>h x (FD _ hx)
theorem Gr.join{m:Nat}{es:En}{ts:List (List Nat)}(g:Gr m es ts){left right one two:Nat}{e:Nat×Nat}{l l' tail:List Nat}(hl:left<2*es.length)(hr:CR (fol es ts) (2*es.length) (left::tail))(hch:gh (fol es ts) left tail left)(hm:right∈left::tail)
  (h1:hd es left=one) (h2:hd es right=two) (hne:one≠two) (he:e=(one,two)∨e=(two,one)) (e1:ts[one]?=some l) (e2:ts[two]?=some l') :
  Gr m (es++[e]) ((ts.set one (ins l (l.idxOf (left/2)+1) es.length)).set two (ins l' (l'.idxOf (right/2)+1) es.length)):=by
 have w:=g.w
 have hrt:right<2*es.length:=hr.lt right hm
 have hlen:=w.len
 have o1:one<m:=by rw[← hlen];exact(E3.mp e1).1
 have o2:two<m:=by rw[← hlen];exact(E3.mp e2).1
 have W:bx m (es++[e]) ((ts.set one (ins l (l.idxOf (left/2)+1) es.length)).set two (ins l' (l'.idxOf (right/2)+1) es.length)):=by
  rcases he with rfl | rfl
  ·exact w.put o1 o2 hne e1 e2
  ·exact(w.put o1 o2 hne e1 e2).flip
 have r1:((ts.set one (ins l (l.idxOf (left/2)+1) es.length)).set two (ins l' (l'.idxOf (right/2)+1) es.length))[one]?=some (ins l (l.idxOf (left/2)+1) es.length):=by
  rw[FI,if_neg (fun z=>hne z.symm),FI,if_pos rfl,if_pos (by rw[hlen];exact o1)]
 have r2:((ts.set one (ins l (l.idxOf (left/2)+1) es.length)).set two (ins l' (l'.idxOf (right/2)+1) es.length))[two]?=some (ins l' (l'.idxOf (right/2)+1) es.length):=by
  rw[FI,if_pos rfl,if_pos (by rw[FK,hlen];exact o2)]
 have r3:∀ p,p≠one->p≠two->((ts.set one (ins l (l.idxOf (left/2)+1) es.length)).set two (ins l' (l'.idxOf (right/2)+1) es.length))[p]?=ts[p]?:=fun p n1 n2=>by
  rw[FI,if_neg (fun z=>n2 z.symm),FI,if_neg (fun z=>n1 z.symm)]
 generalize (ts.set one (ins l (l.idxOf (left/2)+1) es.length)).set two (ins l' (l'.idxOf (right/2)+1) es.length)=ts' at W r1 r2 r3
 obtain⟨a1,a2,a3⟩:=kd (e:=e) w e1 hl h1 r1
 obtain⟨b1,b2,b3⟩:=kd (e:=e) w e2 hrt h2 r2
 obtain⟨d1,d2,d3,d4⟩:=lX (es:=es) hne he
 have fa:=b2 _ (aO _ _ _) d1
 have fb:=a2 _ (aO _ _ _) d2
 have els:∀ d,d<2*es.length->d≠left->d≠right->fol (es++[e]) ts' d=fol es ts d:=fun d hd' n1 n2=>by
  by_cases z1:hd es d=one
  ·exact a3 d hd' n1 z1
  ·by_cases z2:hd es d=two
   ·exact b3 d hd' n2 z2
   ·exact lV w hd' (r3 _ z1 z2)
 generalize ha:bw es.length e one=α at *
 generalize hb:bw es.length e two=β at *
 have hα:α/2=es.length:=by rw[← ha];exact aO _ _ _
 have hβ:β/2=es.length:=by rw[← hb];exact aO _ _ _
 have hlr:right≠left:=fun z=>hne (by rw[← h1,← h2,z])
 have hm':right∈tail:=by
  rcases Fb.mp hm with z | z
  ·exact absurd z hlr
  ·exact z
 obtain⟨xs,ys,rfl⟩:=Hx hm'
 obtain⟨c1,c2⟩:=bT.mp hch
 have nd:=hr.nd
 have ltx:∀ t∈xs,t<2*es.length/\t≠left/\t≠right:=fun t ht=>by
  refine⟨hr.lt t (by simp[ht]),fun z=>?_,fun z=>?_⟩
  ·subst z;exact(Fd.mp nd).1 (by simp[ht])
  ·subst z
   have:=(Fj.mp (Fd.mp nd).2).2.2 t ht t (by simp)
   exact this rfl
 have lty:∀ t∈ys,t<2*es.length/\t≠left/\t≠right:=fun t ht=>by
  refine⟨hr.lt t (by simp[ht]),fun z=>?_,fun z=>?_⟩
  ·subst z;exact(Fd.mp nd).1 (by simp[ht])
  ·subst z
   exact(Fd.mp (Fj.mp (Fd.mp nd).2).2.1).1 ht
 obtain⟨rs,p,cnt⟩:=g.part
 obtain⟨rest,pr,cnt2⟩:=p.pick hr
 have ndr:=pr.nd
 rw[Fx]at ndr
 obtain⟨_,nd2,nd3⟩:=Fj.mp ndr
 have ltr:∀ t∈rest.flatten,t<2*es.length/\t≠left/\t≠right:=fun t ht=>by
  obtain⟨q,q1,q2⟩:=FZ.mp ht
  exact⟨(pr.cr q (Fh _ q1)).lt t q2,fun z=>nd3 left (by simp) t ht z.symm,fun z=>nd3 right (by simp) t ht z.symm⟩
 have hlen2:(es++[e]).length=es.length+1:=by rw[E5];rfl
 have PP:Part (fol (es++[e]) ts') (2*(es++[e]).length) ((left::α::ys)::(right::β::xs)::rest):=by
  refine⟨fun q hq=>?_,?_,fun d hd'=>?_⟩
  ·rcases Fb.mp hq with z | z
   ·subst z
    refine⟨⟨left,α::ys,rfl,a1,eN c2 fa fun t ht=>els t (lty t ht).1 (lty t ht).2.1 (lty t ht).2.2⟩,fun d hd'=>?_,?_⟩
    ·rw[hlen2]
     simp only[Fb]at hd'
     rcases hd' with y | y | y
     ·omega
     ·omega
     ·have:=(lty d y).1;omega
    ·refine Fd.mpr ⟨fun y=>?_,Fd.mpr ⟨fun y=>?_,?_⟩⟩
     ·rcases Fb.mp y with y | y
      ·omega
      ·exact(lty _ y).2.1 rfl
     ·have:=(lty _ y).1;omega
     ·exact(Fd.mp (Fj.mp (Fd.mp nd).2).2.1).2
   ·rcases Fb.mp z with z | z
    ·subst z
     refine⟨⟨right,β::xs,rfl,b1,eN c1 fb fun t ht=>els t (ltx t ht).1 (ltx t ht).2.1 (ltx t ht).2.2⟩,fun d hd'=>?_,?_⟩
     ·rw[hlen2]
      simp only[Fb]at hd'
      rcases hd' with y | y | y
      ·omega
      ·omega
      ·have:=(ltx d y).1;omega
     ·refine Fd.mpr ⟨fun y=>?_,Fd.mpr ⟨fun y=>?_,?_⟩⟩
      ·rcases Fb.mp y with y | y
       ·omega
       ·exact(ltx _ y).2.2 rfl
      ·have:=(ltx _ y).1;omega
      ·exact(Fj.mp (Fd.mp nd).2).1
    ·refine(pr.cr q (Fh _ z)).mono (by rw[hlen2];omega) fun t ht=>?_
     obtain⟨k1,k2,k3⟩:=ltr t (FZ.mpr ⟨q,z,ht⟩)
     exact els t k1 k2 k3
  ·have dis:∀ x∈xs,∀ y∈ys,x≠y:=fun x hx y hy=>(Fj.mp (Fd.mp nd).2).2.2 x hx y (by simp[hy])
   rw[Fx,Fx]
   refine Fj.mpr ⟨?_,Fj.mpr ⟨?_,nd2,fun a ha b hb=>?_⟩,fun a ha b hb=>?_⟩
   ·refine Fd.mpr ⟨fun y=>?_,Fd.mpr ⟨fun y=>?_,(Fd.mp (Fj.mp (Fd.mp nd).2).2.1).2⟩⟩
    ·rcases Fb.mp y with y | y
     ·omega
     ·exact(lty _ y).2.1 rfl
    ·have:=(lty _ y).1;omega
   ·refine Fd.mpr ⟨fun y=>?_,Fd.mpr ⟨fun y=>?_,(Fj.mp (Fd.mp nd).2).1⟩⟩
    ·rcases Fb.mp y with y | y
     ·omega
     ·exact(ltx _ y).2.2 rfl
    ·have:=(ltx _ y).1;omega
   ·obtain⟨k1,k2,k3⟩:=ltr b hb
    simp only[Fb]at ha
    rcases ha with y | y | y
    ·exact fun z=>k3 (z▸y)
    ·omega
    ·exact nd3 a (by simp[y]) b hb
   ·simp only[Fb,Fe]at ha hb
    rcases hb with(y | y | y) | y
    ·rcases ha with z | z | z
     ·exact fun u=>hlr (by rw[← y,← u,z])
     ·have:=hrt;omega
     ·exact fun u=>(lty a z).2.2 (u.trans y)
    ·rcases ha with z | z | z
     ·omega
     ·omega
     ·have:=(lty a z).1;omega
    ·rcases ha with z | z | z
     ·exact fun u=>(ltx b y).2.1 (u▸z)
     ·have:=(ltx b y).1;omega
     ·exact fun u=>dis b y a z u.symm
    ·obtain⟨k1,k2,k3⟩:=ltr b y
     rcases ha with z | z | z
     ·exact fun u=>k2 (u▸z)
     ·omega
     ·exact nd3 a (by simp[z]) b y
  ·rw[hlen2]at hd'
   simp only[Fx,Fe,Fb]
   rcases d4 d hd' with y | y | y
   ·have:=pr.all d y
    simp only[Fx,Fe,Fb]at this
    rcases this with(z | z | z | z) | z
    ·exact .inl (.inl z)
    ·exact .inr (.inl (.inr (.inr z)))
    ·exact .inr (.inl (.inl z))
    ·exact .inl (.inr (.inr z))
    ·exact .inr (.inr z)
   ·exact .inl (.inr (.inl y))
   ·exact .inr (.inl (.inr (.inl y)))
 refine⟨W,⟨_,PP,by rw[hlen2];simp only[FV]at cnt2 ⊢;omega⟩,Dj g.conn,fun S ev=>?_⟩
 have e1:=ev _ (PP.cr _ (Fi ..))
 have e2:=ev _ (PP.cr _ (Fh _ (Fi ..)))
 rw[aN,aN,hα]at e1
 rw[aN,aN,hβ]at e2
 have lr:left∈left::(xs++right::ys):=Fi ..
 have rr:right∈left::(xs++right::ys):=by simp
 have old:∀ r,CR (fol es ts) (2*es.length) r->par S r=false:=fun r hr'=>by
  by_cases hin:left∈r
  ·have pm:r.Perm (left::(xs++right::ys)):=(G7 hr'.nd hr.nd).mpr fun t=>⟨hr'.same hr hin lr t,hr.same hr' lr hin t⟩
   rw[yd S pm,aN,vM,aN]
   revert e1 e2
   generalize S (left/2)=a
   generalize S (right/2)=b
   generalize S es.length=c
   generalize par S xs=d
   generalize par S ys=f
   cases a<;>cases b<;>cases c<;>cases d<;>cases f<;>decide
  ·refine ev r (hr'.mono (by rw[hlen2];omega) fun t ht=>els t (hr'.lt t ht) (fun z=>hin (z▸ht)) fun z=>hin (hr.same hr' rr (z▸ht) left lr))
 obtain⟨Pl,hP⟩:=g.cut S old
 refine⟨Pl,fun t x hx=>?_⟩
 by_cases ht:t<es.length
 ·rw[E8 ht]at hx
  exact hP t x hx
 ·have ht2:t=es.length:=by
   have:=(E3.mp hx).1
   rw[hlen2]at this
   omega
  subst ht2
  rw[E9 (Ff _),FA]at hx
  have hx':e=x:=Fu hx
  subst hx'
  have tw:=yD w hP c1 hl (fun t ht=>(ltx t ht).1) hrt
  rw[h1,h2,vM,aN]at tw
  have goal:S es.length=(Pl one ^^ Pl two):=by
   rw[← tw]
   revert e2
   show _->S es.length=(par S xs ^^ (S (right/2) ^^ false))
   generalize S (right/2)=b
   generalize S es.length=c
   generalize par S xs=d
   cases b<;>cases c<;>cases d<;>decide
  rcases he with z | z
  ·rw[z];exact goal
  ·rw[z];exact goal.trans (IH _ _)
end K8
namespace K8
theorem Gr.leaf{m:Nat}{es:En}{ts:List (List Nat)}(g:Gr m es ts){left one:Nat}{e:Nat×Nat}{l tail:List Nat}(hl:left<2*es.length)(hr:CR (fol es ts) (2*es.length) (left::tail))(hch:gh (fol es ts) left tail left)
  (h1:hd es left=one) (he:e=(one,m)∨e=(m,one)) (e1:ts[one]?=some l) :
  Gr (m+1) (es++[e]) (ts.set one (ins l (l.idxOf (left/2)+1) es.length)++[[es.length]]):=by
 have w:=g.w
 have hlen:=w.len
 have o1:one<m:=by rw[← hlen];exact(E3.mp e1).1
 have hne:one≠m:=by omega
 have W:bx (m+1) (es++[e]) (ts.set one (ins l (l.idxOf (left/2)+1) es.length)++[[es.length]]):=by
  have q:=w.room.put (one:=one) (two:=m) (k:=l.idxOf (left/2)+1) (j:=0) (l:=l) (l':=[]) (by omega) (by omega) hne (by rw[E8 (by omega)];exact e1) (by rw[E9 (by omega),hlen,FA];rfl)
  have q2:((ts++[[]]).set one (ins l (l.idxOf (left/2)+1) es.length)).set m (ins [] 0 es.length)=ts.set one (ins l (l.idxOf (left/2)+1) es.length)++[[es.length]]:=by
   rw[HS _ _ (by omega),HL _ _ (by rw[FK];omega),FK,hlen,FA]
   rfl
  rw[q2]at q
  rcases he with rfl | rfl
  ·exact q
  ·exact q.flip
 have r1:(ts.set one (ins l (l.idxOf (left/2)+1) es.length)++[[es.length]])[one]?=some (ins l (l.idxOf (left/2)+1) es.length):=by
  rw[E8 (by rw[FK];omega),FI,if_pos rfl,if_pos (by omega)]
 have r2:(ts.set one (ins l (l.idxOf (left/2)+1) es.length)++[[es.length]])[m]?=some [es.length]:=by
  rw[E9 (by rw[FK];omega),FK,hlen,FA]
  rfl
 have r3:∀ p,p≠one->p<m->(ts.set one (ins l (l.idxOf (left/2)+1) es.length)++[[es.length]])[p]?=ts[p]?:=fun p n1 n2=>by
  rw[E8 (by rw[FK];omega),FI,if_neg (fun z=>n1 z.symm)]
 generalize ts.set one (ins l (l.idxOf (left/2)+1) es.length)++[[es.length]]=ts' at W r1 r2 r3
 obtain⟨a1,a2,a3⟩:=kd (e:=e) w e1 hl h1 r1
 obtain⟨d1,d2,d3,d4⟩:=lX (es:=es) hne he
 have fb:=a2 _ (aO _ _ _) d2
 have fa:fol (es++[e]) ts' (bw es.length e one)=bw es.length e m:=by
  rw[dN (l:=[es.length]) (by rw[d1];exact r2),aO,d1]
  have:nxt [es.length] es.length=es.length:=by
   unfold nxt
   rw[HU]
   simp
  rw[this,mD]
  rfl
 have els:∀ d,d<2*es.length->d≠left->fol (es++[e]) ts' d=fol es ts d:=fun d hd' n1=>by
  by_cases z1:hd es d=one
  ·exact a3 d hd' n1 z1
  ·obtain⟨_,_,_,_,_,k4,_⟩:=w.at hd'
   exact lV w hd' (r3 _ z1 k4)
 generalize ha:bw es.length e one=α at *
 generalize hb:bw es.length e m=β at *
 have hα:α/2=es.length:=by rw[← ha];exact aO _ _ _
 have hβ:β/2=es.length:=by rw[← hb];exact aO _ _ _
 have nd:=hr.nd
 have ltt:∀ t∈tail,t<2*es.length/\t≠left:=fun t ht=>⟨hr.lt t (by simp[ht]),fun z=>(Fd.mp nd).1 (z▸ht)⟩
 obtain⟨rs,p,cnt⟩:=g.part
 obtain⟨rest,pr,cnt2⟩:=p.pick hr
 have ndr:=pr.nd
 rw[Fx]at ndr
 obtain⟨_,nd2,nd3⟩:=Fj.mp ndr
 have ltr:∀ t∈rest.flatten,t<2*es.length/\t≠left:=fun t ht=>by
  obtain⟨q,q1,q2⟩:=FZ.mp ht
  exact⟨(pr.cr q (Fh _ q1)).lt t q2,fun z=>nd3 left (by simp) t ht z.symm⟩
 have hlen2:(es++[e]).length=es.length+1:=by rw[E5];rfl
 have nd4:(left::α::β::tail).Nodup:=by
  refine Fd.mpr ⟨fun y=>?_,Fd.mpr ⟨fun y=>?_,Fd.mpr ⟨fun y=>?_,(Fd.mp nd).2⟩⟩⟩
  ·simp only[Fb]at y
   rcases y with y | y | y
   ·omega
   ·omega
   ·exact(ltt _ y).2 rfl
  ·simp only[Fb]at y
   rcases y with y | y
   ·exact d3 y
   ·have:=(ltt _ y).1;omega
  ·have:=(ltt _ y).1;omega
 have PP:Part (fol (es++[e]) ts') (2*(es++[e]).length) ((left::α::β::tail)::rest):=by
  refine⟨fun q hq=>?_,?_,fun d hd'=>?_⟩
  ·rcases Fb.mp hq with z | z
   ·subst z
    refine⟨⟨left,α::β::tail,rfl,a1,fa,eN hch fb fun t ht=>els t (ltt t ht).1 (ltt t ht).2⟩,fun d hd'=>?_,nd4⟩
    rw[hlen2]
    simp only[Fb]at hd'
    rcases hd' with y | y | y | y
    ·omega
    ·omega
    ·omega
    ·have:=(ltt d y).1;omega
   ·refine(pr.cr q (Fh _ z)).mono (by rw[hlen2];omega) fun t ht=>?_
    obtain⟨k1,k2⟩:=ltr t (FZ.mpr ⟨q,z,ht⟩)
    exact els t k1 k2
  ·rw[Fx]
   refine Fj.mpr ⟨nd4,nd2,fun a ha b hb=>?_⟩
   obtain⟨k1,k2⟩:=ltr b hb
   simp only[Fb]at ha
   rcases ha with y | y | y | y
   ·exact fun u=>k2 (u▸y)
   ·omega
   ·omega
   ·exact nd3 a (by simp[y]) b hb
  ·rw[hlen2]at hd'
   simp only[Fx,Fe,Fb]
   rcases d4 d hd' with y | y | y
   ·have:=pr.all d y
    simp only[Fx,Fe,Fb]at this
    rcases this with(z | z) | z
    ·exact .inl (.inl z)
    ·exact .inl (.inr (.inr (.inr z)))
    ·exact .inr z
   ·exact .inl (.inr (.inl y))
   ·exact .inl (.inr (.inr (.inl y)))
 refine⟨W,⟨_,PP,by rw[hlen2];simp only[FV]at cnt2 ⊢;omega⟩,fun S hS x y hx hy sx=>?_,fun S ev=>?_⟩
 ·-- in one piece
  have hSe:S one↔S m:=by
   have:=hS e (by simp)
   rcases he with rfl | rfl
   ·exact this
   ·exact this.symm
  have old:=g.conn S fun x hx=>hS x (FD _ hx)
  have toOne:S one:=by
   by_cases z:x<m
   ·exact old x one z o1 sx
   ·have:x=m:=by omega
    subst this
    exact hSe.mpr sx
  by_cases z:y<m
  ·exact old one y o1 z toOne
  ·have:y=m:=by omega
   subst this
   exact hSe.mp toOne
 ·have e1:=ev _ (PP.cr _ (Fi ..))
  rw[aN,aN,aN,hα,hβ]at e1
  have old:∀ r,CR (fol es ts) (2*es.length) r->par S r=false:=fun r hr'=>by
   by_cases hin:left∈r
   ·have pm:r.Perm (left::tail):=(G7 hr'.nd hr.nd).mpr fun t=>⟨hr'.same hr hin (Fi ..) t,hr.same hr' (Fi ..) hin t⟩
    rw[yd S pm,aN]
    revert e1
    generalize S (left/2)=a
    generalize S es.length=c
    generalize par S tail=d
    cases a<;>cases c<;>cases d<;>decide
   ·exact ev r (hr'.mono (by rw[hlen2];omega) fun t ht=>els t (hr'.lt t ht) fun z=>hin (z▸ht))
  obtain⟨Pl,hP⟩:=g.cut S old
  refine⟨fun p=>if p=m then(Pl one ^^ S es.length) else Pl p,fun t x hx=>?_⟩
  by_cases ht:t<es.length
  ·rw[E8 ht]at hx
   obtain⟨b1,b2,_⟩:=w.ends x (E7 hx)
   show S t=((if x.1=m then _ else Pl x.1) ^^ (if x.2=m then _ else Pl x.2))
   rw[if_neg (by omega),if_neg (by omega)]
   exact hP t x hx
  ·have ht2:t=es.length:=by
    have:=(E3.mp hx).1
    rw[hlen2]at this
    omega
   subst ht2
   rw[E9 (Ff _),FA]at hx
   have hx':e=x:=Fu hx
   subst hx'
   rcases he with z | z
   ·rw[z]
    show S es.length=((if one=m then _ else Pl one) ^^ (if m=m then(Pl one ^^ S es.length) else _))
    rw[if_neg hne,if_pos rfl]
    cases Pl one<;>cases S es.length<;>rfl
   ·rw[z]
    show S es.length=((if m=m then(Pl one ^^ S es.length) else _) ^^ (if one=m then _ else Pl one))
    rw[if_neg hne,if_pos rfl]
    cases Pl one<;>cases S es.length<;>rfl
theorem gr_two:Gr 2 [(0,1)] [[0],[0]]:=by
 have W:bx 2 [(0,1)] [[0],[0]]:=by
  refine⟨rfl,fun e he=>?_,fun p l h=>?_,fun p l h t=>?_⟩
  ·have:e=(0,1):=by simpa using he
   subst this
   exact⟨by decide,by decide,by decide⟩
  ·match p,h with
   |0,h=>cases h;decide
   |1,h=>cases h;decide
   |p+2,h=>cases h
  ·have key:(∃ e,([(0,1)]:En)[t]?=some e/\(e.1=p∨e.2=p))↔t=0/\(p=0∨p=1):=by
    constructor
    ·rintro⟨e,h1,h2⟩
     match t,h1 with
     |0,h1=>cases h1;exact⟨rfl,h2.imp Eq.symm Eq.symm⟩
     |t+1,h1=>cases h1
    ·rintro⟨rfl,h2⟩
     exact⟨(0,1),rfl,h2.imp Eq.symm Eq.symm⟩
   rw[key]
   match p,h with
   |0,h=>cases h;simp
   |1,h=>cases h;simp
   |p+2,h=>cases h
 refine⟨W,⟨[[0,1]],⟨fun r hr=>?_,by decide,fun d hd=>?_⟩,rfl⟩,fun S hS p q hp hq sp=>?_,fun S ev=>?_⟩
 ·have:r = [0,1]:=by simpa using hr
  subst this
  exact⟨⟨0,[1],rfl,by decide,(by show fol [(0,1)] [[0],[0]] 1=0;decide)⟩,fun d hd=>by simp at hd ⊢;omega,by decide⟩
 ·have hd2:d<2:=hd
  simp
  omega
 ·have:=hS (0,1) (by simp)
  have h01:S 0↔S 1:=this
  have hp':p=0∨p=1:=by omega
  have hq':q=0∨q=1:=by omega
  rcases hp' with rfl | rfl<;>rcases hq' with rfl | rfl
  ·exact sp
  ·exact h01.mp sp
  ·exact h01.mpr sp
  ·exact sp
 ·refine⟨fun p=>if p=1 then S 0 else false,fun t x hx=>?_⟩
  match t,hx with
  |0,hx =>
   cases hx
   show S 0=((if(0:Nat)=1 then S 0 else false) ^^ (if(1:Nat)=1 then S 0 else false))
   rw[if_neg (by decide),if_pos rfl,Bool.false_xor]
  |t+1,hx=>cases hx
end K8
namespace K8
structure Bij(F:Nat->Nat)(n:Nat):Prop where
 lt:∀ k,k<n->F k<n
 inj:∀ a b,a<n->b<n->F a=F b->a=b
 sur:∀ y,y<n->∃ k,k<n/\F k=y
def ofL(o:List Nat)(k:Nat):Nat:=(o[k]?).getD 0
theorem yI{o:List Nat}{n:Nat}(hl:o.length=n)(nd:o.Nodup)(h:∀ x∈o,x<n):Bij (ofL o) n:=by
 have get:∀ k,k<n->o[k]?=some (ofL o k):=fun k hk=>by
  unfold ofL
  rw[E4 (by omega)]
  rfl
 refine⟨fun k hk=>h _ (E7 (get k hk)),fun a b ha hb e=>yk nd (get a ha) (by rw[get b hb,e]),fun y hy=>?_⟩
 have hm:y∈o:=by
  by_cases z:y∈o
  ·exact z
  ·have:=c7 (a:=y::o) (N:=n) (Fd.mpr ⟨z,nd⟩) fun x hx=>by
    rcases Fb.mp hx with u | u
    ·omega
    ·exact h x u
   rw[FV]at this
   omega
 obtain⟨k,hk⟩:=FU.mp hm
 have hkl:=(E3.mp hk).1
 refine⟨k,by omega,?_⟩
 have:=get k (by omega)
 rw[hk]at this
 exact(Fu this).symm
theorem mw{F:Nat->Nat}:∀{l:List Nat},l.Nodup->(∀ x∈l,∀ y∈l,F x=F y->x=y)->(l.map F).Nodup
 |[],_,_=>GJ
 |a::l,nd,h=>by
  obtain⟨n1,n2⟩:=Fd.mp nd
  refine Fd.mpr ⟨fun z=>?_,mw n2 fun x hx y hy=>h x (Fh _ hx) y (Fh _ hy)⟩
  obtain⟨x,hx,e⟩:=FW.mp z
  have:=h x (Fh _ hx) a (Fi ..) e
  exact n1 (this▸hx)
theorem Ep{F:Nat->Nat}{l:List Nat}{t:Nat}(ht:t∈l)(h:∀ x∈l,F x=F t->x=t):nxt (l.map F) (F t)=F (nxt l t):=by
 obtain⟨A,B,rfl,k⟩:=fA ht
 have k2:F t∉A.map F:=fun z=>by
  obtain⟨x,hx,e⟩:=FW.mp z
  exact k (h x (by simp[hx]) e▸hx)
 rw[FH,FX,aZ k2,aZ k]
 cases B<;>cases A<;>rfl
theorem Eo{X Y:List Nat}{t:Nat}(nd:(X++Y).Nodup)(ht:t∈X++Y):nxt (Y++X) t=nxt (X++Y) t:=by
 obtain⟨n1,n2,n3⟩:=Fj.mp nd
 rcases Fe.mp ht with z | z
 ·have tY:t∉Y:=fun y=>n3 t z t y rfl
  obtain⟨A,B,rfl,k⟩:=fA z
  have e1:Y++(A++t::B)=(Y++A)++t::B:=by simp
  have e2:(A++t::B)++Y=A++t::(B++Y):=by simp
  rw[e1,e2,aZ (by simp[tY,k]),aZ k]
  cases B<;>cases Y<;>cases A<;>rfl
 ·have tX:t∉X:=fun y=>n3 t y t z rfl
  obtain⟨A,B,rfl,k⟩:=fA z
  have e1:(A++t::B)++X=A++t::(B++X):=by simp
  have e2:X++(A++t::B)=(X++A)++t::B:=by simp
  rw[e1,e2,aZ k,aZ (by simp[tX,k])]
  cases B<;>cases X<;>cases A<;>rfl
structure Ren(m:Nat)(es es2:En)(ts ts2:List (List Nat))(π σ:Nat->Nat):Prop where
 pi:Bij π m
 si:Bij σ es.length
 l1:es2.length=es.length
 l2:ts2.length=m
 es:∀(k:Nat)(e:Nat×Nat),es[k]?=some e->es2[σ k]?=some (π e.1,π e.2)
 ts:∀(p:Nat)(l:List Nat),ts[p]?=some l->∃ X Y,l=X++Y/\ts2[π p]?=some ((Y++X).map σ)
section
variable{m:Nat}{es es2:En}{ts ts2:List (List Nat)}{π σ:Nat->Nat}
theorem Ren.es'(R:Ren m es es2 ts ts2 π σ){j:Nat}{x:Nat×Nat}(h:es2[j]?=some x):∃ k e,σ k=j/\es[k]?=some e/\x=(π e.1,π e.2):=by
 have hj:=(E3.mp h).1
 rw[R.l1]at hj
 obtain⟨k,hk,rfl⟩:=R.si.sur j hj
 have e1:es[k]?=some es[k]:=E4 hk
 have:=R.es k _ e1
 rw[h]at this
 exact⟨k,_,rfl,e1,Fu this⟩
theorem Ren.ts'(R:Ren m es es2 ts ts2 π σ)(w:bx m es ts){j:Nat}{L:List Nat}(h:ts2[j]?=some L):∃ p l X Y,p<m/\π p=j/\ts[p]?=some l/\l=X++Y/\L=(Y++X).map σ:=by
 have hj:=(E3.mp h).1
 rw[R.l2]at hj
 obtain⟨p,hp,rfl⟩:=R.pi.sur j hj
 have e1:ts[p]?=some (ts[p]'(by rw[w.len];exact hp)):=E4 _
 obtain⟨X,Y,h1,h2⟩:=R.ts p _ e1
 rw[h]at h2
 exact⟨p,_,X,Y,hp,rfl,e1,h1,Fu h2⟩
theorem kK(w:bx m es ts){p:Nat}{l:List Nat}(h:ts[p]?=some l){t:Nat}(ht:t∈l):t<es.length:=by
 obtain⟨x,hx,_⟩:=(w.mem p l h t).mp ht
 exact(E3.mp hx).1
theorem Ren.turn(R:Ren m es es2 ts ts2 π σ)(w:bx m es ts):bx m es2 ts2:=by
 refine⟨R.l2,fun x hx=>?_,fun j L h=>?_,fun j L h t=>?_⟩
 ·obtain⟨j,hj⟩:=FU.mp hx
  obtain⟨k,e,_,h1,rfl⟩:=R.es' hj
  obtain⟨a1,a2,a3⟩:=w.ends e (E7 h1)
  exact⟨R.pi.lt _ a1,R.pi.lt _ a2,fun z=>a3 (R.pi.inj _ _ a1 a2 z)⟩
 ·obtain⟨p,l,X,Y,hp,rfl,h1,rfl,rfl⟩:=R.ts' w h
  have nd:=w.nd p _ h1
  obtain⟨n1,n2,n3⟩:=Fj.mp nd
  refine mw (Fj.mpr ⟨n2,n1,fun a ha b hb z=>n3 b hb a ha z.symm⟩) fun x hx y hy=>R.si.inj x y (kK w h1 ?_) (kK w h1 ?_)
  ·simp only[Fe]at hx ⊢;exact hx.symm
  ·simp only[Fe]at hy ⊢;exact hy.symm
 ·obtain⟨p,l,X,Y,hp,rfl,h1,rfl,rfl⟩:=R.ts' w h
  constructor
  ·intro z
   obtain⟨k,hk,rfl⟩:=FW.mp z
   obtain⟨e,h2,h3⟩:=(w.mem p _ h1 k).mp (by simp only[Fe]at hk ⊢;exact hk.symm)
   exact⟨_,R.es k e h2,h3.imp (congrArg π) (congrArg π)⟩
  ·rintro⟨x,h2,h3⟩
   obtain⟨k,e,rfl,h4,rfl⟩:=R.es' h2
   obtain⟨a1,a2,a3⟩:=w.ends e (E7 h4)
   have hk:=(w.mem p _ h1 k).mpr ⟨e,h4,h3.imp (R.pi.inj _ _ a1 hp) (R.pi.inj _ _ a2 hp)⟩
   exact FW.mpr ⟨k,by simp only[Fe]at hk ⊢;exact hk.symm,rfl⟩
def Phi(σ:Nat->Nat)(d:Nat):Nat:=2*σ (d/2)+d%2
theorem lY(d:Nat):Phi σ d/2=σ (d/2):=by unfold Phi;omega
theorem Ren.hd(R:Ren m es es2 ts ts2 π σ){d:Nat}(hd':d<2*es.length):hd es2 (Phi σ d)=π (hd es d):=by
 have e1:es[d/2]?=some (es[d/2]'(by omega)):=E4 _
 have e2:=R.es _ _ e1
 unfold K8.hd
 rw[lY,e1,e2]
 have hm:Phi σ d%2=d%2:=by unfold Phi;omega
 show(if Phi σ d%2=0 then π es[d/2].2 else π es[d/2].1)=π (if d%2=0 then es[d/2].2 else es[d/2].1)
 rw[hm]
 split<;>rfl
theorem Ren.fol(R:Ren m es es2 ts ts2 π σ)(w:bx m es ts){d:Nat}(hd':d<2*es.length):fol es2 ts2 (Phi σ d)=Phi σ (fol es ts d):=by
 obtain⟨_,l,_,_,_,k4,k5,k6⟩:=w.at hd'
 obtain⟨X,Y,rfl,h2⟩:=R.ts _ _ k5
 have nd:=w.nd _ _ k5
 rw[dN (l:=(Y++X).map σ) (by rw[R.hd hd'];exact h2),dN k5,lY,R.hd hd']
 have k7:d/2∈Y++X:=by simp only[Fe]at k6 ⊢;exact k6.symm
 rw[Ep k7 fun x hx=>R.si.inj x _ (kK w k5 (by simp only[Fe]at hx ⊢;exact hx.symm)) (kK w k5 k6),Eo nd k6]
 have hn:=E7 (iM k6)
 have hlt:=kK w k5 hn
 generalize nxt (X++Y) (d/2)=t at hlt
 have e1:es[t]?=some es[t]:=E4 hlt
 have a1:=(w.ends _ (E7 e1)).1
 unfold nX
 rw[R.es _ _ e1,e1]
 show(if π es[t].1=π (K8.hd es d) then 2*σ t else 2*σ t+1)=Phi σ (if es[t].1=K8.hd es d then 2*t else 2*t+1)
 by_cases z:es[t].1=K8.hd es d
 ·rw[if_pos z,if_pos (congrArg π z)]
  unfold Phi
  rw[show 2*t/2=t by omega]
  omega
 ·rw[if_neg z,if_neg (fun y=>z (R.pi.inj _ _ a1 k4 y))]
  unfold Phi
  rw[show(2*t+1)/2=t by omega]
  omega
theorem nF(b:Bij σ es.length){x y:Nat}(hx:x<2*es.length)(hy:y<2*es.length)(e:Phi σ x=Phi σ y):x=y:=by
 have e1:σ (x/2)=σ (y/2):=by
  have h1:=lY (σ:=σ) x
  have h2:=lY (σ:=σ) y
  rw[e]at h1
  exact h1.symm.trans h2
 have:=b.inj _ _ (by omega) (by omega) e1
 unfold Phi at e
 omega
theorem Ren.gr(R:Ren m es es2 ts ts2 π σ)(g:Gr m es ts):Gr m es2 ts2:=by
 obtain⟨rs,p,cnt⟩:=g.part
 have flt:∀ d∈rs.flatten,d<2*es.length:=fun d hd=>by
  obtain⟨r,h1,h2⟩:=FZ.mp hd
  exact(p.cr r h1).lt d h2
 have hfl:(rs.map (HR (Phi σ))).flatten=rs.flatten.map (Phi σ):=List.map_flatten.symm
 refine⟨R.turn g.w,⟨rs.map (HR (Phi σ)),⟨fun q hq=>?_,?_,fun d hd=>?_⟩,by rw[Fc,R.l1];exact cnt⟩,fun S hS x y hx hy sx=>?_,fun S ev=>?_⟩
 ·obtain⟨r,hr,rfl⟩:=FW.mp hq
  have c:=p.cr r hr
  obtain⟨x,l,rfl,ch⟩:=c.ch
  refine⟨⟨Phi σ x,l.map (Phi σ),rfl,jI ch fun t ht=>R.fol g.w (c.lt t ht)⟩,fun d hd=>?_,mw c.nd fun a ha b hb=>nF R.si (c.lt a ha) (c.lt b hb)⟩
  obtain⟨t,ht,rfl⟩:=FW.mp hd
  have h1:=c.lt t ht
  have h2:=R.si.lt (t/2) (by omega)
  rw[R.l1]
  unfold Phi
  omega
 ·rw[hfl]
  exact mw p.nd fun a ha b hb=>nF R.si (flt a ha) (flt b hb)
 ·rw[R.l1]at hd
  obtain⟨k,hk,e⟩:=R.si.sur (d/2) (by omega)
  rw[hfl]
  refine FW.mpr ⟨2*k+d%2,p.all _ (by omega),?_⟩
  unfold Phi
  rw[show(2*k+d%2)/2=k by omega,e]
  omega
 ·obtain⟨x',hx',rfl⟩:=R.pi.sur x hx
  obtain⟨y',hy',rfl⟩:=R.pi.sur y hy
  refine g.conn (fun p=>S (π p)) (fun e he=>?_) x' y' hx' hy' sx
  obtain⟨k,hk⟩:=FU.mp he
  exact hS (π e.1,π e.2) (E7 (R.es k e hk))
 ·obtain⟨Pl,hP⟩:=g.cut (fun t=>S (σ t)) fun r hr=>by
   rw[← AQ S σ r]
   refine ev _ ?_
   obtain⟨x,l,rfl,ch⟩:=hr.ch
   refine⟨⟨Phi σ x,l.map (Phi σ),rfl,jI ch fun t ht=>R.fol g.w (hr.lt t ht)⟩,fun d hd=>?_,mw hr.nd fun a ha b hb=>nF R.si (hr.lt a ha) (hr.lt b hb)⟩
   obtain⟨t,ht,rfl⟩:=FW.mp hd
   have h1:=hr.lt t ht
   have h2:=R.si.lt (t/2) (by omega)
   rw[R.l1]
   omega
  have inv:∀ p,p<m->((GC m).find? fun q=>decide (π q=π p))=some p:=fun p hp=>by
   cases z:(GC m).find? fun q=>decide (π q=π p) with
   |none=>exact absurd (decide_eq_true rfl) (List.find?_eq_none.mp z p (HY.mpr hp))
   |some q =>
    have h0:=List.find?_some z
    have h1:π q=π p:=of_decide_eq_true h0
    rw[R.pi.inj q p (HY.mp (List.mem_of_find?_eq_some z)) hp h1]
  refine⟨fun y=>Pl (((GC m).find? fun q=>decide (π q=y)).getD 0),fun j x hx=>?_⟩
  obtain⟨k,e,rfl,h1,rfl⟩:=R.es' hx
  obtain⟨b1,b2,_⟩:=g.w.ends e (E7 h1)
  show S (σ k)=(Pl (((GC m).find? fun q=>decide (π q=π e.1)).getD 0) ^^ Pl (((GC m).find? fun q=>decide (π q=π e.2)).getD 0))
  rw[inv _ b1,inv _ b2]
  exact hP k e h1
end
end K8
namespace K8
open PySem L2
local macro_rules | `(tactic| walk_at "cc") => `(tactic| first | exact ⟨by decide, by decide⟩ | (show (0 : Int) < _; decide) | (show (0 : Int) < _; omega) | (show (0 : Int) ≤ _; omega) | exact ⟨by decide, by decide, by decide⟩ | exact ⟨by omega, by omega, by decide⟩ | exact Or.inl ⟨by decide, by decide⟩ | exact Or.inl ⟨by omega, by omega⟩)
local macro_rules | `(tactic| walk_at "rd") => `(tactic| repeat (first | refine ⟨_, rfl, ?_⟩ | refine ⟨_, _, rfl, rfl, ?_⟩ | refine ⟨rfl, ?_⟩ | (refine ⟨?cc, ?_⟩; (case cc => walk_at "cc"))))
def top(i:Nat):Stmt:=PySem.Challenge.pw_spinfloor_k54_what_a_laying_falls_to.main.body.getD i (.Pass ⟨0,0,0,0⟩)
abbrev jW:Stmt:=top 9
abbrev cb:Stmt:=top 12
abbrev bX:Stmt:=top 13
abbrev fm:Stmt:=top 14
abbrev dE:Stmt:=top 15
abbrev cg:Stmt:=ka (top 17) 0
abbrev dA:Stmt:=ka (top 17) 1
abbrev bp:Stmt:=ka (top 17) 2
abbrev cK:Stmt:=ka (top 17) 3
abbrev cL:Stmt:=ka (top 19) 0
abbrev om:Stmt:=top 21
abbrev fg:Stmt:=top 22
abbrev dz:Stmt:=top 23
abbrev bY:Stmt:=top 24
abbrev cD:Stmt:=top 25
abbrev dt:Stmt:=top 26
abbrev fe:Stmt:=top 28
abbrev bJ:Stmt:=top 30
abbrev bz:Stmt:=top 31
abbrev bo:Stmt:=top 32
abbrev cf:Stmt:=ka (top 33) 0
abbrev dy:Stmt:=top 35
abbrev dv:Stmt:=top 36
abbrev fj:Stmt:=top 37
abbrev du:Stmt:=top 38
abbrev cH:Stmt:=top 39
abbrev cF:Stmt:=top 40
abbrev bb:Stmt:=top 41
abbrev cG:Stmt:=top 42
abbrev fi:Stmt:=top 43
abbrev cE:Stmt:=top 44
abbrev cJ:Stmt:=top 45
abbrev b9:Stmt:=top 46
abbrev bZ:Stmt:=top 47
abbrev pB:Stmt:=top 48
def tf(a b s:Int):List (Str×V):=putF "strength" (.int s) (putF "two" (.int b) (putF "one" (.int a) []))
theorem l6(a b s:Int):(tf a b s).lookup ("one" : Str)=some (.int a):=by
 unfold tf
 rw[av,if_neg (by decide +kernel),av,if_neg (by decide +kernel),av,if_pos rfl]
theorem rm(a b s:Int):(tf a b s).lookup ("two" : Str)=some (.int b):=by
 unfold tf
 rw[av,if_neg (by decide +kernel),av,if_pos rfl]
theorem tf_str(a b s:Int):(tf a b s).lookup ("strength" : Str)=some (.int s):=by
 unfold tf
 rw[av,if_pos rfl]
theorem B4(a b s:Int){m:Str} (h1:¬ m = "strength") (h2:¬ m = "two") (h3:¬ m = "one"):(tf a b s).lookup m=none:=by
 unfold tf
 rw[av,if_neg h1,av,if_neg h2,av,if_neg h3]
 all_goals rfl
theorem f1_len(a:Int):(putF "one" (.int a) []).length<1000:=by show 1<1000;decide
theorem f2_len(a b:Int):(putF "two" (.int b) (putF "one" (.int a) [])).length<1000:=by
 have e:(putF "two" (.int b) (putF "one" (.int a) []):List (Str×V))=([("one",.int a),("two",.int b)]:List (Str×V)):=by
  show(if("one" : Str) = "two" then[(("one" : Str),V.int b)] else(("one" : Str),V.int a)::putF "two" (V.int b) [])=_
  rw[if_neg (by decide +kernel)]
  all_goals rfl
 rw[e]
 show 2<1000
 decide
structure CT(K:E6)(C:Addr):Prop where
 cl:Cls K C
 n1:eP K C "one"
 n2:eP K C "two"
 n3:eP K C "strength"
def oh(K:E6):Sp:=fun vs H Q _=>∃(p C dx:Addr)(a b s:Int),vs = [.ref p,.int a,.int b,.int s]/\H p=some (.ins C dx [])/\CT K C/\a≠b/\0<=a/\0<=b/\0<=s /\
 ∀ H',H' p=some (.ins C dx (tf a b s))->(∀ q o,H q=some o->q≠p->H' q=some o)->Q .non H'
theorem ak{H:Hp}{p:Addr}(h:H p=none)(o:HO):Same H (upd H p o):=fun b u q=>by rw[ai (aI q h)];exact q
theorem aV{H H2:Hp}{l:Addr}(h:Same H H2)(hl:H l=none)(o:HO):Same H (upd H2 l o):=fun b u q=>by rw[ai (aI q hl)];exact h b u q
def iV(p:Nat):V:=.int (p:Int)
theorem iV_at{hs:List Nat}{k x:Nat}(h:hs[k]?=some x):atI (hs.map iV) (k:Int)=some (iV x):=ay (by rw[Fg,h];rfl)
def da(H:Hp)(ys:List V)(es:En):Prop:=ys.length=es.length/\∀(i:Nat)(e:Nat×Nat),es[i]?=some e->∃ p,ys[i]?=some (.ref p)/\H p=some (.tup [iV e.1,iV e.2])
theorem da.mono{H H':Hp}{ys:List V}{es:En}(h:da H ys es)(s:Same H H'):da H' ys es:=⟨h.1,fun i e q=>by
 obtain⟨p,a,b⟩:=h.2 i e q
 exact⟨p,a,s _ _ b⟩⟩
def c9(K:E6)(H:Hp)(xs:List V)(es:En):Prop:=xs.length=es.length/\∀(i:Nat)(e:Nat×Nat),es[i]?=some e->∃ p C dx s,xs[i]?=some (.ref p)/\H p=some (.ins C dx (tf (e.1:Int) (e.2:Int) s))/\CT K C
theorem c9.mono{K:E6}{H H':Hp}{xs:List V}{es:En}(t:c9 K H xs es)(h:Same H H'):c9 K H' xs es:=⟨t.1,fun i e q=>by
 obtain⟨p,C,dx,s,a,b,d⟩:=t.2 i e q
 exact⟨p,C,dx,s,a,h _ _ b,d⟩⟩
def ck(H:Hp)(xs:List V)(ts:List (List Nat)):Prop:=xs.length=ts.length/\∀(i:Nat)(l:List Nat),ts[i]?=some l->∃ p,xs[i]?=some (.ref p)/\H p=some (.lst (l.map iV))
theorem ck.mono{H H':Hp}{xs:List V}{ts:List (List Nat)}(h:ck H xs ts)(s:Same H H'):ck H' xs ts:=⟨h.1,fun i e q=>by
 obtain⟨p,a,b⟩:=h.2 i e q
 exact⟨p,a,s _ _ b⟩⟩
theorem ck.snoc{H:Hp}{xs:List V}{ts:List (List Nat)}{q:Addr}{l:List Nat}(h:ck H xs ts)(e:H q=some (.lst (l.map iV))):ck H (xs++[.ref q]) (ts++[l]):=by
 refine⟨by rw[E5,E5,h.1];rfl,fun j k ej=>?_⟩
 by_cases hj:j<ts.length
 ·rw[E8 hj]at ej
  obtain⟨p,a1,a2⟩:=h.2 j k ej
  exact⟨p,by rw[E8 (by rw[h.1];exact hj)];exact a1,a2⟩
 ·rw[E9 (by omega)]at ej
  have hj2:j=ts.length:=by
   have:=(E3.mp ej).1
   rw[Fl]at this
   omega
  subst hj2
  rw[FA]at ej
  cases ej
  exact⟨q,by rw[← h.1,E9 (Ff _),FA];rfl,e⟩
def bN(S:Addr->Prop)(H:Hp)(xs:List V)(ts:List (List Nat)):Prop:=xs.length=ts.length/\∀(i:Nat)(l:List Nat),ts[i]?=some l->∃ p,xs[i]?=some (.ref p)/\¬ S p/\H p=some (.lst (l.map iV))
theorem bN.mono{S:Addr->Prop}{H H':Hp}{xs:List V}{ts:List (List Nat)}(h:bN S H xs ts)(s:∀ b u,¬ S b->H b=some u->H' b=some u):bN S H' xs ts:=⟨h.1,fun i e q=>by
 obtain⟨p,a,n,b⟩:=h.2 i e q
 exact⟨p,a,n,s _ _ n b⟩⟩
theorem bN.off{S:Addr->Prop}{H:Hp}{xs:List V}{ts:List (List Nat)}(h:bN S H xs ts):ck H xs ts:=⟨h.1,fun i e q=>by
 obtain⟨p,a,n,b⟩:=h.2 i e q
 exact⟨p,a,b⟩⟩
theorem bN.snoc{S:Addr->Prop}{H:Hp}{xs:List V}{ts:List (List Nat)}{q:Addr}{l:List Nat}(h:bN S H xs ts)(n:¬ S q)(e:H q=some (.lst (l.map iV))):bN S H (xs++[.ref q]) (ts++[l]):=by
 refine⟨by rw[E5,E5,h.1];rfl,fun j k ej=>?_⟩
 by_cases hj:j<ts.length
 ·rw[E8 hj]at ej
  obtain⟨p,a1,a2⟩:=h.2 j k ej
  exact⟨p,by rw[E8 (by rw[h.1];exact hj)];exact a1,a2⟩
 ·rw[E9 (by omega)]at ej
  have hj2:j=ts.length:=by
   have:=(E3.mp ej).1
   rw[Fl]at this
   omega
  subst hj2
  rw[FA]at ej
  cases ej
  exact⟨q,by rw[← h.1,E9 (Ff _),FA];rfl,n,e⟩
theorem qB{f:Nat->Nat}{N i:Nat}{rs:List (List Nat)}(w:dZ f N i rs):rs.flatten.length<=N:=c7 w.nd fun x hx=>by
 obtain⟨r,h1,h2⟩:=FZ.mp hx
 exact(w.ring r h1).lt x h2
theorem Cc{f:Nat->Nat}{N i:Nat}{rs:List (List Nat)}(w:dZ f N i rs):rs.length<=N:=by
 have h:∀(l:List (List Nat)),(∀ r∈l,0<r.length)->l.length<=l.flatten.length:=fun l=>by
  induction l with
  |nil=>intro _;exact Ff _
  |cons a l ih =>
   intro h
   rw[Fx,E5,FV]
   have h1:=h a (Fi ..)
   have h2:=ih fun r hr=>h r (Fh _ hr)
   omega
 exact F4 (h rs fun r hr=>(w.ring r hr).ne) (qB w)
structure TT(K:E6)(H:Hp)(a b:Addr)(m:Nat)(es:En)(ts:List (List Nat)):Prop where
 xs:∃ xs,SqL K H a xs/\c9 K H xs es
 ys:∃ ys,SqL K H b ys/\ck H ys ts
 w:bx m es ts
 few:es.length<=62
theorem TT.mono{K:E6}{H H':Hp}{a b:Addr}{m:Nat}{es:En}{ts:List (List Nat)}(t:TT K H a b m es ts)(s:Same H H'):TT K H' a b m es ts:=by
 obtain⟨⟨xs,h1,h2⟩,⟨ys,h3,h4⟩,w,f⟩:=t
 exact⟨⟨xs,s.seq h1,h2.mono s⟩,⟨ys,s.seq h3,h4.mono s⟩,w,f⟩
theorem jU{m:Nat}{es:En}{ts:List (List Nat)}(w:bx m es ts)(f:es.length<=62){p:Nat}{l:List Nat}(h:ts[p]?=some l):(∀ t∈l,t<62)/\l.length<=62:=by
 have a:∀ t∈l,t<es.length:=fun t ht=>by
  obtain⟨e,he,_⟩:=(w.mem p l h t).mp ht
  exact(E3.mp he).1
 exact⟨fun t ht=>by have:=a t ht;omega,F4 (c7 (w.nd p l h) a) f⟩
theorem perm{m:Nat}{es:En}{ts:List (List Nat)}(w:bx m es ts):BW (fol es ts) (2*es.length):=⟨fun d h=>by
 obtain⟨_,_,_,_,_,_,_,_,z,_⟩:=w.foll h
 exact z,fun a b ha hb h=>w.inj ha hb h⟩
def As(K:E6):Sp:=fun vs H Q _=>∃(a:Addr)(xs:List V)(es:En)(d:Nat),vs = [.ref a,.int (d:Int)]/\SqL K H a xs/\c9 K H xs es/\d<2*es.length/\Q (iV (hd es d)) H
def Ar(K:E6):Sp:=fun vs H Q _=>∃(a:Addr)(xs:List V)(es:En)(t p:Nat)(e:Nat×Nat),vs = [.ref a,.int (t:Int),.int (p:Int)]/\SqL K H a xs/\c9 K H xs es/\es[t]?=some e/\Q (iV (if e.1=p then 2*t else 2*t+1)) H
def DU(K:E6):Sp:=fun vs H Q _=>∃(a b:Addr)(m:Nat)(es:En)(ts:List (List Nat))(d:Nat),vs = [.ref a,.ref b,.int (d:Int)]/\TT K H a b m es ts/\d<2*es.length/\Q (iV (fol es ts d)) H
def Au(K:E6):Sp:=fun vs H Q _=>∃(a b:Addr)(m:Nat)(es:En)(ts:List (List Nat))(d:Nat),vs = [.ref a,.ref b,.int (d:Int)]/\TT K H a b m es ts/\d<2*es.length /\
 ∀ q r H',Same H H'->H q=none->H' q=some (.lst (r.map iV))->Path (fol es ts) (2*es.length) d r->Ring (fol es ts) (2*es.length) r->Q (.ref q) H'
def oV(K:E6):Sp:=fun vs H Q _=>∃(a b:Addr)(m:Nat)(es:En)(ts:List (List Nat)),vs = [.ref a,.ref b]/\TT K H a b m es ts /\
 ∀ q ys rs H',Same H H'->H' q=some (.lst ys)->ck H' ys rs->dZ (fol es ts) (2*es.length) (2*es.length) rs->Q (.ref q) H'
def kG(H:Hp)(ys:List V)(n:Nat)(rs:List (List Nat)):Prop:=ys.length=n/\∀ i,i<n->∃ p a b r r',ys[i]?=some (.ref p)/\H p=some (.tup [iV a,iV b])/\rs[a]?=some r/\2*i∈r/\rs[b]?=some r'/\2*i+1∈r'
def uY(K:E6):Sp:=fun vs H Q _=>∃(a b:Addr)(xs ys:List V)(es:En)(f:Nat->Nat)(rs:List (List Nat)),vs = [.ref a,.ref b]/\SqL K H a xs/\c9 K H xs es/\es.length<=62/\SqL K H b ys/\ck H ys rs/\dZ f (2*es.length) (2*es.length) rs /\
 ∀ q zs H',Same H H'->H' q=some (.lst zs)->kG H' zs es.length rs->Q (.ref q) H'
def lM(ns:List Int)(k:Nat):Int:=ns.getD k 0
def xX(K:E6):Sp:=fun vs H Q _=>∃(a:Addr)(k:Nat)(ns:List Int),vs = [.ref a,.int (k:Int)]/\SqL K H a (ns.map V.int)/\Q (.int (lM ns k)) H
def DT:Sp:=fun vs H Q _=>∃ i:Int,vs = [.int i]/\Q (.bl true) H
structure Txt(mg:Str->Option Value):Prop where
 n_len:mg "len" = none
 n_int:mg "int" = none
 n_bool:mg "bool" = none
 n_list:mg "list" = none
 n_tuple:mg "tuple" = none
 n_range:mg "range" = none
 n_enumerate:mg "enumerate" = none
 n_isinstance:mg "isinstance" = none
 n_min:mg "min" = none
 n_sum:mg "sum" = none
 n_sorted:mg "sorted" = none
section
variable{P:Program}{w:World}{K:E6}{mg:Str->Option Value}{base:Heap}
theorem Az:aE ["ties","dart","tie"] ["ties","dart"] (ah om):=⟨rfl,rfl,rfl,by decide +kernel,rfl,by decide +kernel,by decide +kernel⟩
theorem Ef{f:Addr}{fd:FuncData} (F:Fun K "head" "head" om f fd):FnOk P w K mg base CX0 1 f fd ["ties","dart"] (As K):=by
 refine F.ok Az (fun vs H Q E h=>?_) (fun cdv A outer s H vs Q E hr h=>?_)
 ·obtain⟨a,xs,es,d,rfl,_⟩:=h
  rfl
 obtain⟨a,xs,es,d,rfl,hS,hT,hdl,k⟩:=h
 have hl:d/2<es.length:=by omega
 have e1:es[d/2]?=some es[d/2]:=E4 hl
 obtain⟨p,C,dx,s',x1,x2,x3⟩:=hT.2 _ _ e1
 have hh:hd es d=if d%2=0 then es[d/2].2 else es[d/2].1:=by unfold hd;rw[e1]
 have ed:(d:Int)/2=((d/2:Nat):Int):=by omega
 refine⟨_,(af (au (i:=2) Az.nd rfl (Or.inl rfl) (aG az (pv 0) (ar cN (pv 1) aj) (fun _ _=>rfl)))
   (ao (aP (pL (aK nS (ar bA (pv 1) aj) aj (aR _)) (dH (pv 2) rfl) (dH (pv 2) rfl))))),?_⟩
 refine⟨_,rfl,_,rfl,_,_,rfl,rfl,⟨by decide,by decide⟩,a,xs,_,_,rfl,rfl,hS,(by rw[ed];exact ay x1),?_⟩
 refine⟨_,rfl,_,_,rfl,rfl,(by show(0:Int)<2;decide),rfl,_,rfl,?_⟩
 refine ite2 (fun q=>?_) (fun q=>?_)
 ·have q':(d:Int)%2=0:=V.int.inj (of_decide_eq_true q)
  refine⟨_,rfl,p,C,dx,_,_,rfl,x2,x3.cl,x3.n2,rm _ _ _,?_⟩
  rw[hh,if_pos (by omega)]at k
  exact k
 ·have q':¬ (d:Int)%2=0:=fun z=>q (decide_eq_true (congrArg V.int z))
  refine⟨_,rfl,p,C,dx,_,_,rfl,x2,x3.cl,x3.n1,l6 _ _ _,?_⟩
  rw[hh,if_neg (by omega)]at k
  exact k
theorem yT:aE ["ties","number","place"] ["ties","number","place"] (ah fg):=⟨rfl,rfl,rfl,by decide +kernel,rfl,by decide +kernel,by decide +kernel⟩
theorem y7{f:Addr}{fd:FuncData} (F:Fun K "leaving" "leaving" fg f fd):FnOk P w K mg base CX0 1 f fd ["ties","number","place"] (Ar K):=by
 refine F.ok yT (fun vs H Q E h=>?_) (fun cdv A outer s H vs Q E hr h=>?_)
 ·obtain⟨a,xs,es,t,p,e,rfl,_⟩:=h
  rfl
 obtain⟨a,xs,es,t,pl,e,rfl,hS,hT,he,k⟩:=h
 obtain⟨p,C,dx,s',x1,x2,x3⟩:=hT.2 _ _ he
 have m2:CMul 2 (t:Int):=.inl ⟨by decide,by decide⟩
 refine⟨_,(ao (aP (pL (aK nS (dH (aG az (pv 0) (pv 1) (fun _ _=>rfl)) rfl) (pv 2) (aR _)) (ar eg aj (pv 1)) (ar bC (ar eg aj (pv 1)) aj)))),?_⟩
 refine⟨_,rfl,_,rfl,a,xs,_,_,rfl,rfl,hS,ay x1,p,C,dx,_,_,rfl,x2,x3.cl,x3.n1,l6 _ _ _,_,rfl,rfl,_,rfl,?_⟩
 refine ite2 (fun q=>?_) (fun q=>?_)
 ·have q':(e.1:Int)=(pl:Int):=V.int.inj (of_decide_eq_true q)
  refine⟨_,rfl,_,_,rfl,rfl,m2,?_⟩
  rw[if_pos (by omega)]at k
  exact k
 ·have q':¬ (e.1:Int)=(pl:Int):=fun z=>q (decide_eq_true (congrArg V.int z))
  refine⟨_,rfl,_,_,rfl,rfl,m2,_,_,rfl,rfl,?_⟩
  rw[if_neg (by omega)]at k
  exact k
theorem fB:aE ["ties","turns","dart","place","about","behind"] ["ties","turns","dart"] (ah dz):=⟨rfl,rfl,rfl,by decide +kernel,rfl,by decide +kernel,by decide +kernel⟩
theorem vP{f fh fl:Addr}{fd fdh fdl:FuncData} (F:Fun K "follower" "follower" dz f fd) (T:Txt mg) (G_head:Cal P w K mg base 1 "head" ["ties","dart"] (As K) fh fdh) (G_leaving:Cal P w K mg base 1 "leaving" ["ties","number","place"] (Ar K) fl fdl):FnOk P w K mg base CX0 2 f fd ["ties","turns","dart"] (DU K):=by
 refine F.ok fB (fun vs H Q E h=>?_) (fun cdv A outer s H vs Q E hr h=>?_)
 ·obtain⟨a,b,m,es,ts,d,rfl,_⟩:=h
  rfl
 obtain⟨a,b,m,es,ts,d,rfl,tt,hdl,k⟩:=h
 obtain⟨⟨xs,h1,h2⟩,⟨ys,h3,h4⟩,w',few⟩:=tt
 obtain⟨l,e,p1,p2,p3,p4,p5,p6,p7,p8,p9⟩:=w'.foll hdl
 obtain⟨small,len⟩:=jU w' few p1
 obtain⟨q,y1,y2⟩:=h4.2 _ _ p1
 have ed:(d:Int)/2=((d/2:Nat):Int):=by omega
 refine⟨_,(af (au (i:=3) fB.nd rfl (Or.inl rfl) (aH G_head.ok (hr.mono (by decide)) rfl G_head.mg G_head.kp G_head.bn .nil bh (aa (pv 0) (aa (pv 2) ag))))
   (af (au (i:=4) fB.nd rfl (Or.inl rfl) (aG az (pv 1) (pv 3) (fun _ _=>rfl)))
   (af (au (i:=5) fB.nd rfl (Or.inl rfl) (ar bA (ar bC (gA FF IF IE ym (pv 4) (aa (ar cN (pv 2) aj) ag)) aj) (aw aq (by rfl) T.n_len aU (aa (pv 4) ag))))
   (ao (aP (aH G_leaving.ok (hr.mono (by decide)) rfl G_leaving.mg G_leaving.kp G_leaving.bn .nil bh (aa (pv 0) (aa (aG az (pv 4) (pv 5) (fun _ _=>rfl)) (aa (pv 3) ag))))))))),?_⟩
 refine⟨_,rfl,_,rfl,a,xs,es,d,rfl,h1,h2,hdl,?_⟩
 refine⟨_,rfl,_,rfl,b,ys,_,_,rfl,rfl,h3,ay y1,?_⟩
 have hlen:(l.map iV).length=l.length:=Fc _
 have hl0:0<l.length:=GW p2
 have hmod:(((l.idxOf (d/2):Nat):Int)+1)%((l.map iV).length:Int)=(((l.idxOf (d/2)+1)%l.length:Nat):Int):=by rw[hlen];rfl
 refine⟨_,rfl,.inl ⟨rfl,_,SqL.of y2⟩,_,rfl,_,_,rfl,rfl,⟨by decide,by decide⟩,q,l,d/2,rfl,congrArg (fun z=>[V.int z]) ed,SqL.of y2,fun p hp=>by have:=small p hp;omega,by omega,p2,_,_,rfl,rfl,_,rfl,q,_,rfl,.inl (SqL.of y2),_,_,rfl,rfl,(by show(0:Int)<((l.map iV).length:Int);rw[hlen];omega),?_⟩
 refine⟨_,rfl,_,rfl,_,rfl,q,_,_,_,rfl,rfl,SqL.of y2,(by rw[hmod];exact iV_at (iM p2)),_,rfl,a,xs,es,nxt l (d/2),hd es d,e,rfl,h1,h2,p3,?_⟩
 rw[p6]at k
 exact k
theorem de:aE ["ties","turns","first","row","dart"] ["ties","turns","first"] (ah bY):=⟨rfl,rfl,rfl,by decide +kernel,rfl,by decide +kernel,by decide +kernel⟩
theorem Eg{f ff:Addr}{fd fdf:FuncData} (F:Fun K "round_from" "round_from" bY f fd) (G_follower:Cal P w K mg base 2 "follower" ["ties","turns","dart"] (DU K) ff fdf):FnOk P w K mg base CX0 3 f fd ["ties","turns","first"] (Au K):=by
 refine F.ok de (fun vs H Q E h=>?_) (fun cdv A outer s H vs Q E hr h=>?_)
 ·obtain⟨a,b,m,es,ts,d,rfl,_⟩:=h
  rfl
 obtain⟨a,b,m,es,ts,d,rfl,tt,hdl,k⟩:=h
 have pm:=perm tt.w
 refine⟨_,(af (au (i:=3) de.nd rfl (Or.inl rfl) (bK (aa (pv 2) ag)))
   (af (au (i:=4) de.nd rfl (Or.inl rfl) (aH G_follower.ok (hr.mono (by decide)) rfl G_follower.mg G_follower.kp G_follower.bn .nil bh (aa (pv 0) (aa (pv 1) (aa (pv 2) ag)))))
   (af (lT PassesOwn.never (aK vN (pv 4) (pv 2) (aR _)) (af (bg (gA FF FT FR bq (pv 3) (aa (pv 4) ag)))
   (ao (au (i:=4) de.nd rfl (Or.inl rfl) (aH G_follower.ok (hr.mono (by decide)) rfl G_follower.mg G_follower.kp G_follower.bn .nil bh (aa (pv 0) (aa (pv 1) (aa (pv 4) ag))))))))
   (ao (aP (pv 3)))))),?_⟩
 refine⟨_,rfl,(by show 1<=sizeLine;decide),fun q hq=>?_⟩
 have s1:=ak hq (.lst [.int (d:Int)])
 refine⟨_,rfl,_,rfl,_,rfl,a,b,m,es,ts,d,rfl,tt.mono s1,hdl,?_⟩
 refine xR (fun σ H2=>∃(r:List Nat)(x:Nat),σ = [some (.ref a),some (.ref b),some (.int (d:Int)),some (.ref q),some (iV (fol es ts x))]/\Same H H2/\H2 q=some (.lst ((r++[x]).map iV))/\Path (fol es ts) (2*es.length) d (r++[x]))
  (fun σ H2=>match H2 q with | some (.lst xs)=>200-xs.length | _=>0) ⟨[],d,rfl,s1,ae,Cr hdl⟩ ?_ ?_
 ·rintro σ H2 ⟨r,x,rfl,s2,hq2,pa⟩
  refine⟨_,rfl,_,rfl,rfl,_,rfl,?_⟩
  have few:=tt.few
  have hlen:=c7 pa.nd pa.lt
  refine ite2 (fun c=>?_) (fun c=>?_)
  ·have c':fol es ts x≠d:=fun z=>by
    rw[decide_eq_true (show iV (fol es ts x)=V.int (d:Int) by rw[z];rfl)]at c
    cases c
   have pa2:=pa.snoc pm c'
   have hlen2:=c7 pa2.nd pa2.lt
   have lt2:fol es ts x<2*es.length:=pa2.lt _ (by simp)
   refine⟨_,rfl,.inl ⟨rfl,_,SqL.of hq2⟩,_,rfl,q,_,_,rfl,rfl,hq2,ax (by rw[Fc];omega),?_⟩
   have s3:=aV s2 hq (.lst ((r++[x]).map iV++[iV (fol es ts x)]))
   refine⟨_,rfl,_,rfl,_,rfl,a,b,m,es,ts,fol es ts x,rfl,tt.mono s3,lt2,?_⟩
   refine⟨⟨r++[x],fol es ts x,rfl,s3,?_,pa2⟩,?_⟩
   ·rw[ae,show((r++[x]++[fol es ts x]).map iV)=(r++[x]).map iV++[iV (fol es ts x)] from by rw[FH];rfl]
   ·show(match(upd H2 q (.lst ((r++[x]).map iV++[iV (fol es ts x)]))) q with | some (.lst xs)=>200-xs.length | _=>0)<(match H2 q with | some (.lst xs)=>200-xs.length | _=>0)
    rw[ae,hq2]
    show 200-((r++[x]).map iV++[iV (fol es ts x)]).length<200-((r++[x]).map iV).length
    rw[E5,Fc,Fl]
    omega
  ·have c':fol es ts x=d:=by
    by_cases z:fol es ts x=d
    ·exact z
    ·exact absurd (by rw[decide_eq_false (fun y=>z (by have:=V.int.inj y;omega))];rfl) c
   refine⟨_,rfl,?_⟩
   exact k q _ H2 s2 hq hq2 pa (pa.ring pm c')
 ·rintro σ H2 Q1 Q2 hi ⟨v',e,b',e2,z1,c',e3,q'⟩
  exact⟨v',e,b',e2,z1,c',e3,hi _ _ q'⟩
theorem bV:aE ["ties","turns","rounds","seen","dart","row","gone"] ["ties","turns"] (ah cD):=⟨rfl,rfl,rfl,by decide +kernel,rfl,by decide +kernel,by decide +kernel⟩
theorem AY{f ff:Addr}{fd fdf:FuncData} (F:Fun K "rounds_of" "rounds_of" cD f fd) (T:Txt mg) (G_round_from:Cal P w K mg base 3 "round_from" ["ties","turns","first"] (Au K) ff fdf):FnOk P w K mg base CX0 4 f fd ["ties","turns"] (oV K):=by
 refine F.ok bV (fun vs H Q E h=>?_) (fun cdv A outer s H vs Q E hr h=>?_)
 ·obtain⟨a,b,m,es,ts,rfl,_⟩:=h
  rfl
 obtain⟨a,b,m,es,ts,rfl,tt,k⟩:=h
 have hu:=C2 hr
 have pm:=perm tt.w
 have few:=tt.few
 obtain⟨xs,h1,h2⟩:=tt.xs
 refine⟨_,(af (au (i:=2) bV.nd rfl (Or.inl rfl) (bK ag))
   (af (au (i:=3) bV.nd rfl (Or.inl rfl) pM)
   (af (cq PassesOwn.never rfl (aY rfl T.n_range (aa (ar eg aj (aw aq (by rfl) T.n_len aU (aa (pv 0) ag))) ag)) (aX (i:=4) bV.nd rfl (Or.inl rfl)) (ao (cM (ya (jv hu (pv 4) (pv 3))) (af (au (i:=5) bV.nd rfl (Or.inl rfl) (aH G_round_from.ok (hr.mono (by decide)) rfl G_round_from.mg G_round_from.kp G_round_from.bn .nil bh (aa (pv 0) (aa (pv 1) (aa (pv 4) ag)))))
   (af (bg (gA FF FT FR bq (pv 2) (aa (pv 5) ag)))
   (ao (cq PassesOwn.never rfl (bL (pv 5)) (aX (i:=6) bV.nd rfl (Or.inl rfl)) (ao (jY hu (pv 3) (pv 6) nR rfl)))))) aW)))
   (ao (aP (pv 2)))))),?_⟩
 refine⟨(by show 0<=sizeLine;decide),fun qr hqr=>fun qs hqs=>?_⟩
 have s1:=(ak hqr (.lst [])).trans (ak hqs (.dK []))
 have hqs0:H qs=none:=by
  cases z:H qs with
  |none=>rfl
  |some o=>rw[ak hqr (.lst []) qs o z]at hqs;cases hqs
 have hne:qr≠qs:=fun z=>by rw[← z,ae]at hqs;cases hqs
 have hxl:xs.length=es.length:=h2.1
 have hN:(2*(xs.length:Int)).toNat=2*es.length:=by omega
 refine⟨_,rfl,a,xs,rfl,.inl (s1.seq h1),_,_,rfl,rfl,.inl ⟨by decide,by decide⟩,_,rfl,by omega,by omega,cz (n:=(2*(xs.length:Int)).toNat) (fun i σ H2=>∃ v4 v5 v6 ys rs kvs,σ = [some (.ref a),some (.ref b),some (.ref qr),some (.ref qs),v4,v5,v6]/\Same H H2/\H2 qr=some (.lst ys)/\bN (fun p=>p=qr∨p=qs) H2 ys rs/\H2 qs=some (.dK kvs)/\kvs.length<=rs.flatten.length/\(∀ d:Nat,(valV kvs (Sum.inl (d:Int))).isSome=true↔d∈rs.flatten)/\dZ (fol es ts) (2*es.length) i rs)
  ⟨_,_,_,[],[],[],rfl,s1,by rw[ai hne,ae],⟨rfl,fun i l e=>by simp at e⟩,ae,Ff _,fun d=>by simp[valV],yU _ _⟩ ?_ ?_⟩
 ·rintro i σ H2 hi ⟨v4,v5,v6,ys,rs,kvs,rfl,s2,e1,rx,e2,kl,km,ro⟩
  rw[hN]at hi
  have e0:(0:Int)+(i:Int)=(i:Int):=Gy _
  rw[e0]
  have fl:=qB ro
  have rl:=Cc ro
  refine⟨_,rfl,_,rfl,_,_,rfl,DGet.k (k:=Sum.inl (i:Int)) e2,_,rfl,?_⟩
  refine ite2 (fun c=>?_) (fun c=>?_)
  ·have hni:i∉rs.flatten:=fun z=>by
    rw[(km i).mpr z]at c
    cases c
   refine⟨_,rfl,_,rfl,_,rfl,a,b,m,es,ts,i,rfl,tt.mono s2,hi,fun q r H3 s3 hq hq3 pa ri=>?_⟩
   have s23:=s2.trans s3
   have nq:¬ (q=qr∨q=qs):=by
    rintro(z | z)
    ·rw[z,e1]at hq;cases hq
    ·rw[z,e2]at hq;cases hq
   refine⟨_,rfl,.inl ⟨rfl,_,SqL.of (s3 _ _ e1)⟩,_,rfl,qr,_,_,rfl,rfl,s3 _ _ e1,ax (by rw[rx.1];omega),?_⟩
   have s4:=aV s23 hqr (.lst (ys++[.ref q]))
   have hrq:∀{H5:Hp},bN (fun p=>p=qr∨p=qs) H5 (ys++[.ref q]) (rs++[r])->H5 q=some (.lst (r.map iV)):=fun h=>by
    obtain⟨p,z1,_,z2⟩:=h.2 rs.length r (by rw[E9 (Ff _),FA];rfl)
    rw[← rx.1,E9 (Ff _),FA]at z1
    cases z1
    exact z2
   have rx4:bN (fun p=>p=qr∨p=qs) (upd H3 qr (.lst (ys++[.ref q]))) (ys++[.ref q]) (rs++[r]):=by
    refine(rx.mono fun p o n z=>?_).snoc nq ?_
    ·rw[ai (fun z=>n (.inl z))];exact s3 _ _ z
    ·rw[ai (fun z=>nq (.inl z))];exact hq3
   have rl:r.length<=2*es.length:=c7 ri.nd ri.lt
   refine⟨_,rfl,q,rfl,⟨_,SqL.of (hrq rx4)⟩,eF (xs:=r.map iV) (fun j σ H5=>∃ v6 kvs',σ = [some (.ref a),some (.ref b),some (.ref qr),some (.ref qs),some (.int (i:Int)),some (.ref q),v6]/\Same H H5/\H5 qr=some (.lst (ys++[.ref q]))/\bN (fun p=>p=qr∨p=qs) H5 (ys++[.ref q]) (rs++[r])/\H5 qs=some (.dK kvs')/\kvs'.length<=rs.flatten.length+j/\∀ d:Nat,(valV kvs' (Sum.inl (d:Int))).isSome=true↔d∈rs.flatten∨d∈r.take j)
    ⟨_,kvs,rfl,s4,ae,rx4,by rw[ai hne.symm];exact s3 _ _ e2,kl,fun d=>by rw[km d];simp⟩ (fun j σ H5 _ p=>?_) ?_ ?_⟩
   ·obtain⟨_,_,_,_,_,z,_⟩:=p
    exact SqL.of (hrq z)
   ·rintro j x σ H5 hx ⟨v6,kvs',rfl,s5,f1,rx5,f2,kl5,km5⟩
    rw[Fg]at hx
    obtain⟨g,hg,rfl⟩:=F3.mp hx
    have hjl:j<r.length:=(E3.mp hg).1
    refine⟨_,rfl,_,rfl,qs,_,rfl,DPut.k (k:=Sum.inl (g:Int)) f2 (ax (by omega)),?_⟩
    refine⟨_,_,rfl,aV s5 hqs0 _,by rw[ai hne];exact f1,rx5.mono fun p o n z=>by rw[ai (fun z=>n (.inr z))];exact z,ae,by have:=bG kvs' (Sum.inl (g:Int)) (V.bl true);omega,fun d=>?_⟩
    rw[jq]
    have tk:r.take (j+1)=r.take j++[g]:=by rw[F2,hg];rfl
    rw[tk]
    by_cases z:d=g
    ·subst z
     simp
    ·rw[if_neg (fun y=>z (by have:=Sum.inl.inj y;omega)),km5 d]
     simp[z]
   ·rintro σ H5 ⟨v6,kvs',rfl,s5,f1,rx5,f2,kl5,km5⟩
    rw[Fc]at kl5 km5
    refine⟨_,_,_,_,rs++[r],kvs',rfl,s5,f1,rx5,f2,by rw[Gg,E5];simpa using kl5,fun d=>?_,ro.put pm hni hi ri pa⟩
    rw[km5 d,Gp,Gg,Fe]
    simp
  ·have hii:i∈rs.flatten:=(km i).mp (by
    cases z:(valV kvs (Sum.inl (i:Int))).isSome with
    |true=>rfl
    |false=>exact absurd (by rw[z];rfl) c)
   exact⟨_,_,_,ys,rs,kvs,rfl,s2,e1,rx,e2,kl,km,ro.skip hii⟩
 ·rintro σ H2 ⟨v4,v5,v6,ys,rs,kvs,rfl,s2,e1,rx,e2,kl,km,ro⟩
  rw[hN]at ro
  exact⟨_,rfl,k qr ys rs H2 s2 e1 rx.off ro⟩
theorem dB:aE ["ties","rounds","number_at","number","row","dart"] ["ties","rounds"] (ah dt):=⟨rfl,rfl,rfl,by decide +kernel,rfl,by decide +kernel,by decide +kernel⟩
theorem Cz{f:Addr}{fd:FuncData} (F:Fun K "sides_of" "sides_of" dt f fd) (T:Txt mg):FnOk P w K mg base CX0 1 f fd ["ties","rounds"] (uY K):=by
 refine F.ok dB (fun vs H Q E h=>?_) (fun cdv A outer s H vs Q E hr h=>?_)
 ·obtain⟨a,b,xs,ys,es,g,rs,rfl,_⟩:=h
  rfl
 obtain⟨a,b,xs,ys,es,g,rs,rfl,hS,hT,few,hB,hR,ro,k⟩:=h
 have hu:=C2 hr
 have fl:=qB ro
 refine⟨_,(af (au (i:=2) dB.nd rfl (Or.inr rfl) pM)
   (af (cq PassesOwn.never rfl (AK rfl T.n_enumerate (aa (pv 1) ag)) (AL rfl (ik (aX (i:=3) dB.nd rfl (Or.inl rfl)) (ik (aX (i:=4) dB.nd rfl (Or.inl rfl)) vF))) (ao (cq PassesOwn.never rfl (bL (pv 4)) (aX (i:=5) dB.nd rfl (Or.inl rfl)) (ao (jY hu (pv 2) (pv 5) (pv 3) rfl)))))
   (ao (aP (eR rfl (fr:=[("number_at",2)]) (by exact bI.one (by rfl) (by decide +kernel) (by rfl) (by decide +kernel) (by rfl) (by decide +kernel) (by rfl) (by rfl) (by decide +kernel) (by rfl)) (aY rfl T.n_range (aa (aw aq (by rfl) T.n_len aU (aa (pv 0) ag)) ag)) (fun C ex s H=>(ju (aa (vK hu (pv 1) (ar eg aj (pv 0)) (fun _ _=>rfl)) (aa (vK hu (pv 1) (ar bC (ar eg aj (pv 0)) aj) (fun _ _=>rfl)) ag))))))))),?_⟩
 intro q hq
 have s1:=ak hq (.dK [])
 have kF:∀ i,(rs.take i).flatten.length<=rs.flatten.length:=fun i=>by
  have:=congrArg (fun z=>z.flatten.length) (Fy i rs)
  simp only[Gg,E5]at this
  omega
 refine⟨_,rfl,b,rfl,⟨_,s1.seq hB⟩,yx (K:=K) (xs:=ys) (fun i σ H2=>∃ v3 v4 v5 kvs,σ = [some (.ref a),some (.ref b),some (.ref q),v3,v4,v5]/\Same H H2/\H2 q=some (.dK kvs)/\kvs.length<=(rs.take i).flatten.length/\∀(d c:Nat)(r:List Nat),c<i->rs[c]?=some r->d∈r->valV kvs (Sum.inl (d:Int))=some (iV c))
  ⟨_,_,_,[],rfl,s1,ae,Ge _,fun d c r z=>absurd z (GL _)⟩ (fun i σ H2 _ ⟨_,_,_,_,_,s2,_⟩=>s2.seq hB) ?_ ?_⟩
 ·rintro i x σ H2 T2 hx ⟨v3,v4,v5,kvs,rfl,s2,e1,kl,km⟩ hT2
  have hil:i<rs.length:=by
   have:=(E3.mp hx).1
   rw[hR.1]at this
   exact this
  have hr':rs[i]?=some rs[i]:=E4 hil
  obtain⟨p,x1,x2⟩:=hR.2 i _ hr'
  rw[hx]at x1
  cases x1
  generalize rs[i]=r at hr' x2
  have s3:Same H (upd H2 T2 (.tup [.int (i:Int),.ref p])):=s2.trans (ak hT2 _)
  have f1:(rs.take (i+1)).flatten=(rs.take i).flatten++r:=by rw[F2,hr'];simp
  have f2:=kF (i+1)
  rw[f1,E5]at f2
  refine⟨T2,_,rfl,SqT.of ae,rfl,_,_,rfl,_,_,rfl,rfl,?_⟩
  refine⟨_,rfl,p,rfl,⟨_,SqL.of (s3 _ _ x2)⟩,eF (xs:=r.map iV) (fun j σ H5=>∃ v5 kvs',σ = [some (.ref a),some (.ref b),some (.ref q),some (.int (i:Int)),some (.ref p),v5]/\Same H H5/\H5 q=some (.dK kvs')/\kvs'.length<=(rs.take i).flatten.length+j/\(∀(d c:Nat)(r:List Nat),c<i->rs[c]?=some r->d∈r->valV kvs' (Sum.inl (d:Int))=some (iV c))/\∀ d∈r.take j,valV kvs' (Sum.inl (d:Int))=some (iV i))
   ⟨_,kvs,rfl,s3,ak hT2 _ _ _ e1,kl,km,fun d hd=>by simp at hd⟩ (fun j σ H5 _ ⟨_,_,_,z,_⟩=>SqL.of (z _ _ x2)) ?_ ?_⟩
  ·rintro j x σ H5 hx2 ⟨v5,kvs',rfl,s5,g1,kl5,km5,kn5⟩
   rw[Fg]at hx2
   obtain⟨g,hg,rfl⟩:=F3.mp hx2
   have hjl:j<r.length:=(E3.mp hg).1
   refine⟨_,rfl,_,rfl,_,rfl,q,_,rfl,DPut.k (k:=Sum.inl (g:Int)) g1 (ax (by omega)),?_⟩
   refine⟨_,_,rfl,aV s5 hq _,ae,by have:=bG kvs' (Sum.inl (g:Int)) (V.int (i:Int));omega,fun d c r' hc hrc hd=>?_,fun d hd=>?_⟩
   ·rw[jq,if_neg (fun z=>?_)]
    ·exact km5 d c r' hc hrc hd
    ·have z':d=g:=by have:=Sum.inl.inj z;omega
     subst z'
     have:=EE ro.nd hrc hr' hd (E7 hg)
     omega
   ·rw[jq]
    by_cases z:d=g
    ·subst z
     rw[if_pos rfl]
     rfl
    ·rw[if_neg (fun y=>z (by have:=Sum.inl.inj y;omega))]
     refine kn5 d ?_
     rw[F2,hg]at hd
     simpa[z] using hd
  ·rintro σ H5 ⟨v5,kvs',rfl,s5,g1,kl5,km5,kn5⟩
   rw[Fc]at kl5 kn5
   rw[Gp]at kn5
   refine⟨_,_,_,kvs',rfl,s5,g1,by rw[f1,E5];exact kl5,fun d c r' hc hrc hd=>?_⟩
   by_cases z:c=i
   ·subst z
    rw[hr']at hrc
    cases hrc
    exact kn5 d hd
   ·exact km5 d c r' (by omega) hrc hd
 ·rintro σ H2 ⟨v3,v4,v5,kvs,rfl,s2,e1,kl,km⟩
  rw[hR.1]at km
  have get:∀ d,d<2*es.length->∃ c r,rs[c]?=some r/\d∈r/\valV kvs (Sum.inl (d:Int))=some (iV c):=fun d hd=>by
   obtain⟨r,z1,z2⟩:=FZ.mp (ro.all d hd)
   obtain⟨c,z3⟩:=FU.mp z1
   exact⟨c,r,z3,z2,km d c r (E3.mp z3).1 z3 z2⟩
  have hxl:xs.length=es.length:=hT.1
  refine⟨_,rfl,a,xs,rfl,.inl (s2.seq hS),_,rfl,by omega,by omega,fx (fun i zs H3=>Same H2 H3/\kG H3 zs i rs) (by rw[Fn,hxl];exact F0 (ax (by omega))) ⟨fun _ _ e=>e,rfl,fun i hi=>absurd hi (GL _)⟩ ?_ ?_⟩
  ·rintro i zs H3 hi ⟨s3,sd⟩
   have e0:(0:Int)+(i:Int)=(i:Int):=Gy _
   rw[e0]
   rw[Fn,hxl]at hi
   obtain⟨c1,r1,z1,z2,z3⟩:=get (2*i) (by omega)
   obtain⟨c2,r2,y1,y2,y3⟩:=get (2*i+1) (by omega)
   have m2:CMul 2 (i:Int):=.inl ⟨by decide,by decide⟩
   have d1:DGet H3 q (V.int (2*(i:Int))) (some (iV c1)):=by
    rw[← z3,show((2*i:Nat):Int)=2*(i:Int) by omega]
    exact DGet.k (k:=Sum.inl (2*(i:Int))) (s3 _ _ e1)
   have d2:DGet H3 q (V.int (2*(i:Int)+1)) (some (iV c2)):=by
    rw[← y3,show((2*i+1:Nat):Int)=2*(i:Int)+1 by omega]
    exact DGet.k (k:=Sum.inl (2*(i:Int)+1)) (s3 _ _ e1)
   refine⟨_,rfl,_,rfl,_,_,rfl,rfl,m2,q,_,rfl,d1,_,rfl,_,rfl,_,_,rfl,rfl,m2,_,_,rfl,rfl,q,_,rfl,d2,(by show 2<=sizeLine;decide),fun t ht=>?_⟩
   have s4:=ak ht (.tup [iV c1,iV c2])
   refine⟨s3.trans s4,by rw[E5,sd.1];rfl,fun j hj=>?_⟩
   by_cases z:j=i
   ·subst z
    exact⟨t,c1,c2,r1,r2,by rw[← sd.1,E9 (Ff _),FA];rfl,ae,z1,z2,y1,y2⟩
   ·obtain⟨p,a',b',r,r',w1,w2,w3⟩:=sd.2 j (by omega)
    exact⟨p,a',b',r,r',by rw[E8 (by rw[sd.1];omega)];exact w1,s4 _ _ w2,w3⟩
  ·rintro zs H3 hzl ⟨s3,sd⟩ D hD
   rw[Fn,hxl]at sd
   exact k D zs _ ((s2.trans s3).trans (ak hD _)) ae ⟨sd.1,fun i hi=>by
    obtain⟨p,a',b',r,r',w1,w2,w3⟩:=sd.2 i hi
    exact⟨p,a',b',r,r',w1,ak hD _ _ _ w2,w3⟩⟩
theorem pA:aE ["self","one","two","strength"] ["self","one","two","strength"] (ah cg):=⟨rfl,rfl,rfl,by decide +kernel,rfl,by decide +kernel,by decide +kernel⟩
theorem Ee{f:Addr}{fd:FuncData} (F:Fun K "__init__" "Tie.__init__" cg f fd):FnOk P w K mg base CX0 1 f fd ["self","one","two","strength"] (oh K):=by
 refine F.ok pA (fun vs H Q E h=>?_) (fun cdv A outer s H vs Q E hr h=>?_)
 ·obtain⟨p,C,dx,a,b,s,rfl,_⟩:=h
  rfl
 obtain⟨p,C,dx,a,b,st,rfl,hp,T,hne,ha,hb,hs,k⟩:=h
 refine⟨_,(af (cM (aK nS (pv 1) (pv 2) (aR _)) (ao d8) aW)
   (af (cM (PW.pt (AF (aK vO (pv 1) aj (aR _)) (xZ (aK vO (pv 2) aj (aR _))))) (ao d8) aW)
   (af (cM (aK vO (pv 3) aj (aR _)) (ao d8) aW)
   (af (kH (pv 0) (pv 1) rfl)
   (af (kH (pv 0) (pv 2) rfl)
   (ao (kH (pv 0) (pv 3) rfl))))))),?_⟩
 walk_at "rd"
 refine ite2 (fun c=>absurd (V.int.inj (of_decide_eq_true c)) hne) (fun _=>?_)
 walk_at "rd"
 refine ite2 (fun c=>absurd (of_decide_eq_true c) (by omega)) (fun _=>?_)
 walk_at "rd"
 refine ite2 (fun c=>absurd (of_decide_eq_true c) (by omega)) (fun _=>?_)
 walk_at "rd"
 refine ite2 (fun c=>absurd (of_decide_eq_true c) (by omega)) (fun _=>?_)
 refine⟨_,rfl,_,rfl,p,C,dx,[],rfl,hp,T.cl,T.n1,(by show 0<1000;decide),?_⟩
 refine⟨_,rfl,_,rfl,p,C,dx,_,rfl,ae,T.cl,T.n2,f1_len a,?_⟩
 refine⟨_,rfl,_,rfl,p,C,dx,_,rfl,ae,T.cl,T.n3,f2_len a b,?_⟩
 exact k _ ae fun q o e hq=>by rw[ai hq,ai hq,ai hq];exact e
theorem vo:aE ["script","k"] ["script","k"] (ah dy):=⟨rfl,rfl,rfl,by decide +kernel,rfl,by decide +kernel,by decide +kernel⟩
theorem Ei{f:Addr}{fd:FuncData} (F:Fun K "_law_cell" "_law_cell" dy f fd) (T:Txt mg):FnOk P w K mg base CX0 1 f fd ["script","k"] (xX K):=by
 refine F.ok vo (fun vs H Q E h=>?_) (fun cdv A outer s H vs Q E hr h=>?_)
 ·obtain⟨a,k,ns,rfl,_⟩:=h
  rfl
 obtain⟨a,k,ns,rfl,hS,q⟩:=h
 refine⟨_,(af (cM (aK vO (pv 1) (aw aq (by rfl) T.n_len aU (aa (pv 0) ag)) (aR _)) (ao (aP (aG az (pv 0) (pv 1) (fun _ _=>rfl)))) aW)
   (ao (aP aj))),?_⟩
 refine⟨_,rfl,_,rfl,a,_,rfl,.inl hS,_,_,rfl,rfl,_,rfl,?_⟩
 refine ite2 (fun c=>?_) (fun c=>?_)
 ·have c':(k:Int)<((ns.map V.int).length:Int):=of_decide_eq_true c
  rw[Fc]at c'
  have hk:k<ns.length:=by omega
  have hat:atI (ns.map V.int) (k:Int)=some (.int (lM ns k)):=ay (by rw[Fg,E4 hk];unfold lM;rw[Hu,E4 hk];rfl)
  exact⟨_,rfl,_,rfl,a,_,_,_,rfl,rfl,hS,hat,q⟩
 ·have c':¬ (k:Int)<((ns.map V.int).length:Int):=fun z=>c (decide_eq_true z)
  rw[Fc]at c'
  have e:lM ns k=0:=by unfold lM;rw[Hu,List.getElem?_eq_none (by omega)];rfl
  rw[e]at q
  exact q
theorem at0{u v:V}:atI [u,v] 0=some u:=rfl
theorem at1{u v:V}:atI [u,v] 1=some v:=rfl
theorem my{H:Hp}{a:Addr}{ps:List Nat}(h:SqL K H a (ps.map iV)):RdD K H (.ref a) (.list ((ps.map fun(p:Nat)=>((p:Nat):Int)).map PyData.int)):=by
 refine RdD.lst h (by simp) fun i x d e1 e2=>?_
 rw[Fg]at e1
 rw[Fg,Fg]at e2
 cases z:ps[i]? with
 |none=>rw[z]at e1;cases e1
 |some n =>
  rw[z]at e1 e2
  cases e1
  cases e2
  exact .int _
theorem Bq(l:List Int):(PyData.list (l.map PyData.int)).canLay0=true/\(PyData.list (l.map PyData.int)).depth<=10:=by
 have h1:∀ d∈l.map PyData.int,d.canLay0=true/\d.depth<=1:=fun d hd=>by
  obtain⟨x,_,rfl⟩:=FW.mp hd
  exact⟨by simp[PyData.canLay0],by simp[PyData.depth]⟩
 have h2:=gU fun d hd=>(h1 d hd).1
 have h3:=i7 fun d hd=>(h1 d hd).2
 exact⟨by simp only[PyData.canLay0];exact h2,by simp only[PyData.depth];omega⟩
theorem fZ(l:List Int):SeqAt.shaped (.list (l.map PyData.int))=true:=ma fun d hd=>by
 obtain⟨x,_,rfl⟩:=FW.mp hd
 exact⟨by simp[PyData.canLay0],by simp[PyData.depth]⟩
theorem da.put{H:Hp}{ys:List V}{es:En}{q:Addr}{zs:List V}{o:HO}(t:da H ys es)(h:H q=some (.lst zs)):da (upd H q o) ys es:=⟨t.1,fun i e z=>by
 obtain⟨p,a,b⟩:=t.2 i e z
 refine⟨p,a,?_⟩
 rw[ai (fun z=>by rw[z,h]at b;cases b)]
 exact b⟩
theorem da.snoc{H:Hp}{xs:List V}{es:En}{e:Nat×Nat}{p:Addr}(t:da H xs es)(h:H p=some (.tup [iV e.1,iV e.2])):da H (xs++[.ref p]) (es++[e]):=by
 refine⟨by rw[E5,E5,t.1];rfl,fun j k ej=>?_⟩
 by_cases hj:j<es.length
 ·rw[E8 hj]at ej
  obtain⟨p,a1,a2⟩:=t.2 j k ej
  exact⟨p,by rw[E8 (by rw[t.1];exact hj)];exact a1,a2⟩
 ·rw[E9 (by omega)]at ej
  have hj2:j=es.length:=by
   have:=(E3.mp ej).1
   rw[Fl]at this
   omega
  subst hj2
  rw[FA]at ej
  cases ej
  exact⟨p,by rw[← t.1,E9 (Ff _),FA];rfl,h⟩
theorem EC{l:List Nat}{k n:Nat}:(ins l k n).length=l.length+1:=by
 unfold ins
 rw[E5,FV,Fw,FQ]
 omega
theorem Dx(X:Int)(n:Nat):0<=X%((n:Int)+1)/\X%((n:Int)+1)<=(n:Int):=⟨Gn _ (by omega),by have:=F8 X (show(0:Int)<(n:Int)+1 by omega);omega⟩
def Dist(xs:List V):Prop:=∀(i j:Nat)(p:Addr),xs[i]?=some (.ref p)->xs[j]?=some (.ref p)->i=j
theorem bN.set{S:Addr->Prop}{H:Hp}{xs:List V}{ts:List (List Nat)}{i:Nat}{p:Addr}{l':List Nat}(h:bN S H xs ts)(D:Dist xs)(e:xs[i]?=some (.ref p)):bN S (upd H p (.lst (l'.map iV))) xs (ts.set i l'):=by
 refine⟨by rw[FK];exact h.1,fun j l z=>?_⟩
 have hi:i<ts.length:=by rw[← h.1];exact(E3.mp e).1
 rw[FI]at z
 by_cases hj:i=j
 ·subst hj
  rw[if_pos rfl,if_pos hi]at z
  cases z
  obtain⟨p',a1,a2,a3⟩:=h.2 i _ (E4 hi)
  rw[e]at a1
  cases a1
  exact⟨p,e,a2,ae⟩
 ·rw[if_neg hj]at z
  obtain⟨p',a1,a2,a3⟩:=h.2 j l z
  exact⟨p',a1,a2,by rw[ai (fun y=>by rw[y]at a1;exact hj (D i j p e a1))];exact a3⟩
theorem insV{l:List Nat}{k n:Nat}:(l.map iV).take k++V.int (n:Int)::(l.map iV).drop k=(ins l k n).map iV:=by
 unfold ins
 rw[FH,FX,Hm,Hn]
 rfl
theorem AD{H:Hp}{a:Addr}{xs:List V}{ts:List (List Nat)}(h:SqL K H a xs)(hR:ck H xs ts):RdD K H (.ref a) (.list (ts.map fun l=>PyData.list ((l.map fun(p:Nat)=>((p:Nat):Int)).map PyData.int))):=by
 refine RdD.lst h (by rw[Fc];exact hR.1) fun i x d e1 e2=>?_
 rw[Fg]at e2
 obtain⟨l,hl,rfl⟩:=F3.mp e2
 obtain⟨p,a1,a2⟩:=hR.2 i l hl
 rw[e1]at a1
 cases a1
 exact my (SqL.of a2)
theorem vv(ts:List (List Nat)):SeqAt.shaped (.list (ts.map fun l=>PyData.list ((l.map fun(p:Nat)=>((p:Nat):Int)).map PyData.int)))=true:=ma fun d hd=>by
 obtain⟨l,_,rfl⟩:=FW.mp hd
 exact Bq _
end
end K8
namespace K8
open PySem L2
local macro_rules | `(tactic| walk_at "cc") => `(tactic| first | exact ⟨by decide, by decide⟩ | (show (0 : Int) < _; decide) | (show (0 : Int) < _; omega) | (show (0 : Int) ≤ _; omega) | exact ⟨by decide, by decide, by decide⟩ | exact ⟨by omega, by omega, by decide⟩ | exact Or.inl ⟨by decide, by decide⟩ | exact Or.inl ⟨by omega, by omega⟩)
local macro_rules | `(tactic| walk_at "rd") => `(tactic| repeat (first | refine ⟨_, rfl, ?_⟩ | refine ⟨_, _, rfl, rfl, ?_⟩ | refine ⟨rfl, ?_⟩ | (refine ⟨?cc, ?_⟩; (case cc => walk_at "cc"))))
def vc(K:E6):Sp:=fun vs H Q _=>∃(a:Addr)(ys:List V)(es:En)(d:Nat),vs = [.ref a,.int (d:Int)]/\SqL K H a ys/\da H ys es/\d<2*es.length/\Q (iV (hd es d)) H
section
variable{P:Program}{w:World}{K:E6}{mg:Str->Option Value}{base:Heap}
theorem vn:aE ["ends","dart"] ["ends","dart"] (ah dv):=⟨rfl,rfl,rfl,by decide +kernel,rfl,by decide +kernel,by decide +kernel⟩
theorem CD{f:Addr}{fd:FuncData} (F:Fun K "_law_head" "_law_head" dv f fd):FnOk P w K mg base CX0 1 f fd ["ends","dart"] (vc K):=by
 refine F.ok vn (fun vs H Q E h=>?_) (fun cdv A outer s H vs Q E hr h=>?_)
 ·obtain⟨a,ys,es,d,rfl,_⟩:=h
  rfl
 obtain⟨a,ys,es,d,rfl,hS,hE,hdl,k⟩:=h
 have hl:d/2<es.length:=by omega
 have e1:es[d/2]?=some es[d/2]:=E4 hl
 obtain⟨p,x1,x2⟩:=hE.2 _ _ e1
 have hh:hd es d=if d%2=0 then es[d/2].2 else es[d/2].1:=by unfold hd;rw[e1]
 have ed:(d:Int)/2=((d/2:Nat):Int):=by omega
 have hat:atI [iV es[d/2].1,iV es[d/2].2] (1-(d:Int)%2)=some (iV (hd es d)):=by
  by_cases z:d%2=0
  ·rw[hh,if_pos z,show(1-(d:Int)%2)=1 by omega];rfl
  ·rw[hh,if_neg z,show(1-(d:Int)%2)=0 by omega];rfl
 refine⟨_,(ao (aP (aG bf (aG az (pv 0) (ar cN (pv 1) aj) (fun _ _=>rfl)) (ar oq aj (ar bA (pv 1) aj)) (fun _ _=>rfl)))),?_⟩
 exact⟨_,rfl,_,rfl,_,_,rfl,rfl,⟨by decide,by decide⟩,a,ys,_,_,rfl,rfl,hS,(by rw[ed];exact ay x1),_,rfl,_,_,rfl,rfl,(by show(0:Int)<2;decide),_,_,rfl,rfl,p,_,_,_,rfl,rfl,SqT.of x2,hat,k⟩
end
end K8
namespace K8
open PySem L2
local macro_rules | `(tactic| walk_at "cc") => `(tactic| first | exact ⟨by decide, by decide⟩ | (show (0 : Int) < _; decide) | (show (0 : Int) < _; omega) | (show (0 : Int) ≤ _; omega) | exact ⟨by decide, by decide, by decide⟩ | exact ⟨by omega, by omega, by decide⟩ | exact Or.inl ⟨by decide, by decide⟩ | exact Or.inl ⟨by omega, by omega⟩)
local macro_rules | `(tactic| walk_at "rd") => `(tactic| repeat (first | refine ⟨_, rfl, ?_⟩ | refine ⟨_, _, rfl, rfl, ?_⟩ | refine ⟨rfl, ?_⟩ | (refine ⟨?cc, ?_⟩; (case cc => walk_at "cc"))))
theorem Gr.joinP{m:Nat}{es:En}{ts:List (List Nat)}(g:Gr m es ts){left right one two:Nat}{e:Nat×Nat}{l l' xs ys:List Nat}{rest:List (List Nat)}(hl:left<2*es.length)(hr:CR (fol es ts) (2*es.length) (left::(xs++right::ys)))(hch:gh (fol es ts) left (xs++right::ys) left)(hm:right∈left::(xs++right::ys))
  (h1:hd es left=one) (h2:hd es right=two) (hne:one≠two) (he:e=(one,two)∨e=(two,one)) (e1:ts[one]?=some l) (e2:ts[two]?=some l')
  (pr:Part (fol es ts) (2*es.length) ((left::(xs++right::ys))::rest)) :
  Part (fol (es++[e]) ((ts.set one (ins l (l.idxOf (left/2)+1) es.length)).set two (ins l' (l'.idxOf (right/2)+1) es.length))) (2*(es++[e]).length) ((left::bw es.length e one::ys)::(right::bw es.length e two::xs)::rest):=by
 have w:=g.w
 have hrt:right<2*es.length:=hr.lt right hm
 have hlen:=w.len
 have o1:one<m:=by rw[← hlen];exact(E3.mp e1).1
 have o2:two<m:=by rw[← hlen];exact(E3.mp e2).1
 have W:bx m (es++[e]) ((ts.set one (ins l (l.idxOf (left/2)+1) es.length)).set two (ins l' (l'.idxOf (right/2)+1) es.length)):=by
  rcases he with rfl | rfl
  ·exact w.put o1 o2 hne e1 e2
  ·exact(w.put o1 o2 hne e1 e2).flip
 have r1:((ts.set one (ins l (l.idxOf (left/2)+1) es.length)).set two (ins l' (l'.idxOf (right/2)+1) es.length))[one]?=some (ins l (l.idxOf (left/2)+1) es.length):=by
  rw[FI,if_neg (fun z=>hne z.symm),FI,if_pos rfl,if_pos (by rw[hlen];exact o1)]
 have r2:((ts.set one (ins l (l.idxOf (left/2)+1) es.length)).set two (ins l' (l'.idxOf (right/2)+1) es.length))[two]?=some (ins l' (l'.idxOf (right/2)+1) es.length):=by
  rw[FI,if_pos rfl,if_pos (by rw[FK,hlen];exact o2)]
 have r3:∀ p,p≠one->p≠two->((ts.set one (ins l (l.idxOf (left/2)+1) es.length)).set two (ins l' (l'.idxOf (right/2)+1) es.length))[p]?=ts[p]?:=fun p n1 n2=>by
  rw[FI,if_neg (fun z=>n2 z.symm),FI,if_neg (fun z=>n1 z.symm)]
 generalize (ts.set one (ins l (l.idxOf (left/2)+1) es.length)).set two (ins l' (l'.idxOf (right/2)+1) es.length)=ts' at W r1 r2 r3
 obtain⟨a1,a2,a3⟩:=kd (e:=e) w e1 hl h1 r1
 obtain⟨b1,b2,b3⟩:=kd (e:=e) w e2 hrt h2 r2
 obtain⟨d1,d2,d3,d4⟩:=lX (es:=es) hne he
 have fa:=b2 _ (aO _ _ _) d1
 have fb:=a2 _ (aO _ _ _) d2
 have els:∀ d,d<2*es.length->d≠left->d≠right->fol (es++[e]) ts' d=fol es ts d:=fun d hd' n1 n2=>by
  by_cases z1:hd es d=one
  ·exact a3 d hd' n1 z1
  ·by_cases z2:hd es d=two
   ·exact b3 d hd' n2 z2
   ·exact lV w hd' (r3 _ z1 z2)
 generalize ha:bw es.length e one=α at *
 generalize hb:bw es.length e two=β at *
 have hα:α/2=es.length:=by rw[← ha];exact aO _ _ _
 have hβ:β/2=es.length:=by rw[← hb];exact aO _ _ _
 have hlr:right≠left:=fun z=>hne (by rw[← h1,← h2,z])
 have hm':right∈xs++right::ys:=by
  rcases Fb.mp hm with z | z
  ·exact absurd z hlr
  ·exact z
 obtain⟨c1,c2⟩:=bT.mp hch
 have nd:=hr.nd
 have ltx:∀ t∈xs,t<2*es.length/\t≠left/\t≠right:=fun t ht=>by
  refine⟨hr.lt t (by simp[ht]),fun z=>?_,fun z=>?_⟩
  ·subst z;exact(Fd.mp nd).1 (by simp[ht])
  ·subst z
   have:=(Fj.mp (Fd.mp nd).2).2.2 t ht t (by simp)
   exact this rfl
 have lty:∀ t∈ys,t<2*es.length/\t≠left/\t≠right:=fun t ht=>by
  refine⟨hr.lt t (by simp[ht]),fun z=>?_,fun z=>?_⟩
  ·subst z;exact(Fd.mp nd).1 (by simp[ht])
  ·subst z
   exact(Fd.mp (Fj.mp (Fd.mp nd).2).2.1).1 ht
 have ndr:=pr.nd
 rw[Fx]at ndr
 obtain⟨_,nd2,nd3⟩:=Fj.mp ndr
 have ltr:∀ t∈rest.flatten,t<2*es.length/\t≠left/\t≠right:=fun t ht=>by
  obtain⟨q,q1,q2⟩:=FZ.mp ht
  exact⟨(pr.cr q (Fh _ q1)).lt t q2,fun z=>nd3 left (by simp) t ht z.symm,fun z=>nd3 right (by simp) t ht z.symm⟩
 have hlen2:(es++[e]).length=es.length+1:=by rw[E5];rfl
 have PP:Part (fol (es++[e]) ts') (2*(es++[e]).length) ((left::α::ys)::(right::β::xs)::rest):=by
  refine⟨fun q hq=>?_,?_,fun d hd'=>?_⟩
  ·rcases Fb.mp hq with z | z
   ·subst z
    refine⟨⟨left,α::ys,rfl,a1,eN c2 fa fun t ht=>els t (lty t ht).1 (lty t ht).2.1 (lty t ht).2.2⟩,fun d hd'=>?_,?_⟩
    ·rw[hlen2]
     simp only[Fb]at hd'
     rcases hd' with y | y | y
     ·omega
     ·omega
     ·have:=(lty d y).1;omega
    ·refine Fd.mpr ⟨fun y=>?_,Fd.mpr ⟨fun y=>?_,?_⟩⟩
     ·rcases Fb.mp y with y | y
      ·omega
      ·exact(lty _ y).2.1 rfl
     ·have:=(lty _ y).1;omega
     ·exact(Fd.mp (Fj.mp (Fd.mp nd).2).2.1).2
   ·rcases Fb.mp z with z | z
    ·subst z
     refine⟨⟨right,β::xs,rfl,b1,eN c1 fb fun t ht=>els t (ltx t ht).1 (ltx t ht).2.1 (ltx t ht).2.2⟩,fun d hd'=>?_,?_⟩
     ·rw[hlen2]
      simp only[Fb]at hd'
      rcases hd' with y | y | y
      ·omega
      ·omega
      ·have:=(ltx d y).1;omega
     ·refine Fd.mpr ⟨fun y=>?_,Fd.mpr ⟨fun y=>?_,?_⟩⟩
      ·rcases Fb.mp y with y | y
       ·omega
       ·exact(ltx _ y).2.2 rfl
      ·have:=(ltx _ y).1;omega
      ·exact(Fj.mp (Fd.mp nd).2).1
    ·refine(pr.cr q (Fh _ z)).mono (by rw[hlen2];omega) fun t ht=>?_
     obtain⟨k1,k2,k3⟩:=ltr t (FZ.mpr ⟨q,z,ht⟩)
     exact els t k1 k2 k3
  ·have dis:∀ x∈xs,∀ y∈ys,x≠y:=fun x hx y hy=>(Fj.mp (Fd.mp nd).2).2.2 x hx y (by simp[hy])
   rw[Fx,Fx]
   refine Fj.mpr ⟨?_,Fj.mpr ⟨?_,nd2,fun a ha b hb=>?_⟩,fun a ha b hb=>?_⟩
   ·refine Fd.mpr ⟨fun y=>?_,Fd.mpr ⟨fun y=>?_,(Fd.mp (Fj.mp (Fd.mp nd).2).2.1).2⟩⟩
    ·rcases Fb.mp y with y | y
     ·omega
     ·exact(lty _ y).2.1 rfl
    ·have:=(lty _ y).1;omega
   ·refine Fd.mpr ⟨fun y=>?_,Fd.mpr ⟨fun y=>?_,(Fj.mp (Fd.mp nd).2).1⟩⟩
    ·rcases Fb.mp y with y | y
     ·omega
     ·exact(ltx _ y).2.2 rfl
    ·have:=(ltx _ y).1;omega
   ·obtain⟨k1,k2,k3⟩:=ltr b hb
    simp only[Fb]at ha
    rcases ha with y | y | y
    ·exact fun z=>k3 (z▸y)
    ·omega
    ·exact nd3 a (by simp[y]) b hb
   ·simp only[Fb,Fe]at ha hb
    rcases hb with(y | y | y) | y
    ·rcases ha with z | z | z
     ·exact fun u=>hlr (by rw[← y,← u,z])
     ·have:=hrt;omega
     ·exact fun u=>(lty a z).2.2 (u.trans y)
    ·rcases ha with z | z | z
     ·omega
     ·omega
     ·have:=(lty a z).1;omega
    ·rcases ha with z | z | z
     ·exact fun u=>(ltx b y).2.1 (u▸z)
     ·have:=(ltx b y).1;omega
     ·exact fun u=>dis b y a z u.symm
    ·obtain⟨k1,k2,k3⟩:=ltr b y
     rcases ha with z | z | z
     ·exact fun u=>k2 (u▸z)
     ·omega
     ·exact nd3 a (by simp[z]) b y
  ·rw[hlen2]at hd'
   simp only[Fx,Fe,Fb]
   rcases d4 d hd' with y | y | y
   ·have:=pr.all d y
    simp only[Fx,Fe,Fb]at this
    rcases this with(z | z | z | z) | z
    ·exact .inl (.inl z)
    ·exact .inr (.inl (.inr (.inr z)))
    ·exact .inr (.inl (.inl z))
    ·exact .inl (.inr (.inr z))
    ·exact .inr (.inr z)
   ·exact .inl (.inr (.inl y))
   ·exact .inr (.inl (.inr (.inl y)))
 exact PP
theorem Gr.leafP{m:Nat}{es:En}{ts:List (List Nat)}(g:Gr m es ts){left one:Nat}{e:Nat×Nat}{l tail:List Nat}{rest:List (List Nat)}(hl:left<2*es.length)(hr:CR (fol es ts) (2*es.length) (left::tail))(hch:gh (fol es ts) left tail left)
  (h1:hd es left=one) (he:e=(one,m)∨e=(m,one)) (e1:ts[one]?=some l)
  (pr:Part (fol es ts) (2*es.length) ((left::tail)::rest)) :
  Part (fol (es++[e]) (ts.set one (ins l (l.idxOf (left/2)+1) es.length)++[[es.length]])) (2*(es++[e]).length) ((left::bw es.length e one::bw es.length e m::tail)::rest):=by
 have w:=g.w
 have hlen:=w.len
 have o1:one<m:=by rw[← hlen];exact(E3.mp e1).1
 have hne:one≠m:=by omega
 have W:bx (m+1) (es++[e]) (ts.set one (ins l (l.idxOf (left/2)+1) es.length)++[[es.length]]):=by
  have q:=w.room.put (one:=one) (two:=m) (k:=l.idxOf (left/2)+1) (j:=0) (l:=l) (l':=[]) (by omega) (by omega) hne (by rw[E8 (by omega)];exact e1) (by rw[E9 (by omega),hlen,FA];rfl)
  have q2:((ts++[[]]).set one (ins l (l.idxOf (left/2)+1) es.length)).set m (ins [] 0 es.length)=ts.set one (ins l (l.idxOf (left/2)+1) es.length)++[[es.length]]:=by
   rw[HS _ _ (by omega),HL _ _ (by rw[FK];omega),FK,hlen,FA]
   rfl
  rw[q2]at q
  rcases he with rfl | rfl
  ·exact q
  ·exact q.flip
 have r1:(ts.set one (ins l (l.idxOf (left/2)+1) es.length)++[[es.length]])[one]?=some (ins l (l.idxOf (left/2)+1) es.length):=by
  rw[E8 (by rw[FK];omega),FI,if_pos rfl,if_pos (by omega)]
 have r2:(ts.set one (ins l (l.idxOf (left/2)+1) es.length)++[[es.length]])[m]?=some [es.length]:=by
  rw[E9 (by rw[FK];omega),FK,hlen,FA]
  rfl
 have r3:∀ p,p≠one->p<m->(ts.set one (ins l (l.idxOf (left/2)+1) es.length)++[[es.length]])[p]?=ts[p]?:=fun p n1 n2=>by
  rw[E8 (by rw[FK];omega),FI,if_neg (fun z=>n1 z.symm)]
 generalize ts.set one (ins l (l.idxOf (left/2)+1) es.length)++[[es.length]]=ts' at W r1 r2 r3
 obtain⟨a1,a2,a3⟩:=kd (e:=e) w e1 hl h1 r1
 obtain⟨d1,d2,d3,d4⟩:=lX (es:=es) hne he
 have fb:=a2 _ (aO _ _ _) d2
 have fa:fol (es++[e]) ts' (bw es.length e one)=bw es.length e m:=by
  rw[dN (l:=[es.length]) (by rw[d1];exact r2),aO,d1]
  have:nxt [es.length] es.length=es.length:=by
   unfold nxt
   rw[HU]
   simp
  rw[this,mD]
  rfl
 have els:∀ d,d<2*es.length->d≠left->fol (es++[e]) ts' d=fol es ts d:=fun d hd' n1=>by
  by_cases z1:hd es d=one
  ·exact a3 d hd' n1 z1
  ·obtain⟨_,_,_,_,_,k4,_⟩:=w.at hd'
   exact lV w hd' (r3 _ z1 k4)
 generalize ha:bw es.length e one=α at *
 generalize hb:bw es.length e m=β at *
 have hα:α/2=es.length:=by rw[← ha];exact aO _ _ _
 have hβ:β/2=es.length:=by rw[← hb];exact aO _ _ _
 have nd:=hr.nd
 have ltt:∀ t∈tail,t<2*es.length/\t≠left:=fun t ht=>⟨hr.lt t (by simp[ht]),fun z=>(Fd.mp nd).1 (z▸ht)⟩
 have ndr:=pr.nd
 rw[Fx]at ndr
 obtain⟨_,nd2,nd3⟩:=Fj.mp ndr
 have ltr:∀ t∈rest.flatten,t<2*es.length/\t≠left:=fun t ht=>by
  obtain⟨q,q1,q2⟩:=FZ.mp ht
  exact⟨(pr.cr q (Fh _ q1)).lt t q2,fun z=>nd3 left (by simp) t ht z.symm⟩
 have hlen2:(es++[e]).length=es.length+1:=by rw[E5];rfl
 have nd4:(left::α::β::tail).Nodup:=by
  refine Fd.mpr ⟨fun y=>?_,Fd.mpr ⟨fun y=>?_,Fd.mpr ⟨fun y=>?_,(Fd.mp nd).2⟩⟩⟩
  ·simp only[Fb]at y
   rcases y with y | y | y
   ·omega
   ·omega
   ·exact(ltt _ y).2 rfl
  ·simp only[Fb]at y
   rcases y with y | y
   ·exact d3 y
   ·have:=(ltt _ y).1;omega
  ·have:=(ltt _ y).1;omega
 have PP:Part (fol (es++[e]) ts') (2*(es++[e]).length) ((left::α::β::tail)::rest):=by
  refine⟨fun q hq=>?_,?_,fun d hd'=>?_⟩
  ·rcases Fb.mp hq with z | z
   ·subst z
    refine⟨⟨left,α::β::tail,rfl,a1,fa,eN hch fb fun t ht=>els t (ltt t ht).1 (ltt t ht).2⟩,fun d hd'=>?_,nd4⟩
    rw[hlen2]
    simp only[Fb]at hd'
    rcases hd' with y | y | y | y
    ·omega
    ·omega
    ·omega
    ·have:=(ltt d y).1;omega
   ·refine(pr.cr q (Fh _ z)).mono (by rw[hlen2];omega) fun t ht=>?_
    obtain⟨k1,k2⟩:=ltr t (FZ.mpr ⟨q,z,ht⟩)
    exact els t k1 k2
  ·rw[Fx]
   refine Fj.mpr ⟨nd4,nd2,fun a ha b hb=>?_⟩
   obtain⟨k1,k2⟩:=ltr b hb
   simp only[Fb]at ha
   rcases ha with y | y | y | y
   ·exact fun u=>k2 (u▸y)
   ·omega
   ·omega
   ·exact nd3 a (by simp[y]) b hb
  ·rw[hlen2]at hd'
   simp only[Fx,Fe,Fb]
   rcases d4 d hd' with y | y | y
   ·have:=pr.all d y
    simp only[Fx,Fe,Fb]at this
    rcases this with(z | z) | z
    ·exact .inl (.inl z)
    ·exact .inl (.inr (.inr (.inr z)))
    ·exact .inr z
   ·exact .inl (.inr (.inl y))
   ·exact .inl (.inr (.inr (.inl y)))
 exact PP
theorem CR.turn{f:Nat->Nat}{N:Nat}{A B:List Nat}(h:CR f N (A++B))(nb:B≠[]):CR f N (B++A):=by
 have pm:(B++A).Perm (A++B):=FY
 refine⟨?_,fun d hd=>h.lt d (pm.mem_iff.mp hd),pm.nodup_iff.mpr h.nd⟩
 match A,B,h,nb with
 |[],B,h,_ =>
  rw[Hc]
  exact h.ch
 |x::A,b::B,h,_ =>
  obtain⟨y,l,e,c⟩:=h.ch
  rw[GG]at e
  cases e
  obtain⟨c1,c2⟩:=bT.mp c
  exact⟨b,B++x::A,rfl,bT.mpr ⟨c2,c1⟩⟩
theorem Part.perm{f:Nat->Nat}{N:Nat}{rs rs':List (List Nat)}(p:Part f N rs)(h:rs.Perm rs'):Part f N rs' :=
 ⟨fun r hr=>p.cr r (h.mem_iff.mpr hr),h.flatten.nodup_iff.mp p.nd,fun d hd=>h.flatten.mem_iff.mp (p.all d hd)⟩
theorem Part.swap{f:Nat->Nat}{N:Nat}{r r':List Nat}{rest:List (List Nat)}(p:Part f N (r::rest))(h:CR f N r')(pm:r'.Perm r):Part f N (r'::rest):=by
 have q:((r'::rest).flatten).Perm ((r::rest).flatten):=by
  rw[Fx,Fx]
  exact pm.append_right _
 refine⟨fun x hx=>?_,q.nodup_iff.mpr p.nd,fun d hd=>q.mem_iff.mpr (p.all d hd)⟩
 rcases Fb.mp hx with z | z
 ·rw[z];exact h
 ·exact p.cr x (Fh _ z)
theorem pK:∀{rs:List (List Nat)}{i:Nat}{r:List Nat},rs[i]?=some r->rs.Perm (r::rs.eraseIdx i)
 |[],i,r,h=>by cases h
 |x::rs,0,r,h=>by cases h;exact List.Perm.refl _
 |x::rs,i+1,r,h=>by
  have ih:=pK (rs:=rs) (i:=i) (r:=r) h
  show(x::rs).Perm (r::x::rs.eraseIdx i)
  exact(ih.cons x).trans (List.Perm.swap r x _)
theorem yc{rs:List (List Nat)}{i:Nat}(hi:i<rs.length)(r:List Nat):(r::rs.eraseIdx i).Perm (rs.set i r):=by
 have h:(rs.set i r)[i]?=some r:=by rw[Hd hi]
 have:=pK h
 rw[List.eraseIdx_set_eq]at this
 exact this.symm
theorem Al{m:Nat}{es:En}{ts rings:List (List Nat)}(g:Gr m es ts)(pt:Part (fol es ts) (2*es.length) rings){w left right one two:Nat}{A B C:List Nat}(hw:rings[w]?=some (A++left::(B++right::C))){e:Nat×Nat}{l l':List Nat}(h1:hd es left=one)(h2:hd es right=two)(hne:one≠two)(he:e=(one,two)∨e=(two,one))(e1:ts[one]?=some l)(e2:ts[two]?=some l') :
  Gr m (es++[e]) ((ts.set one (ins l (l.idxOf (left/2)+1) es.length)).set two (ins l' (l'.idxOf (right/2)+1) es.length)) /\
  Part (fol (es++[e]) ((ts.set one (ins l (l.idxOf (left/2)+1) es.length)).set two (ins l' (l'.idxOf (right/2)+1) es.length))) (2*(es++[e]).length) (rings.set w (A++left::bw es.length e one::C)++[B++[right,bw es.length e two]]):=by
 have wl:=(E3.mp hw).1
 have p1:=pt.perm (pK hw)
 have c0:=p1.cr _ (Fi ..)
 have c1:CR (fol es ts) (2*es.length) (left::(B++right::(C++A))):=by
  have:=c0.turn (List.cons_ne_nil _ _)
  rw[GG,FJ,GG]at this
  exact this
 have pm:(left::(B++right::(C++A))).Perm (A++left::(B++right::C)):=by
  have:(left::(B++right::C)++A).Perm (A++left::(B++right::C)):=FY
  rw[GG,FJ,GG]at this
  exact this
 have p2:=p1.swap c1 pm
 have hl:=c1.lt left (Fi ..)
 obtain⟨x,tl,ex,ch⟩:=c1.ch
 cases ex
 have hm:right∈left::(B++right::(C++A)):=by simp
 refine⟨g.join hl c1 ch hm h1 h2 hne he e1 e2,?_⟩
 have q:=g.joinP hl c1 ch hm h1 h2 hne he e1 e2 p2
 generalize (ts.set one (ins l (l.idxOf (left/2)+1) es.length)).set two (ins l' (l'.idxOf (right/2)+1) es.length)=ts' at q ⊢
 generalize bw es.length e one=α at q ⊢
 generalize bw es.length e two=β at q ⊢
 have d1:CR (fol (es++[e]) ts') (2*(es++[e]).length) (A++left::α::C):=by
  have h:=q.cr _ (Fi ..)
  by_cases na:A = []
  ·subst na
   rw[Hc]at h
   exact h
  ·have h':CR (fol (es++[e]) ts') (2*(es++[e]).length) ((left::α::C)++A):=h
   exact h'.turn na
 have pm1:(A++left::α::C).Perm (left::α::(C++A)):=(FY:(A++(left::α::C)).Perm ((left::α::C)++A))
 have q1:=q.swap d1 pm1
 have q2:=q1.perm (List.Perm.swap _ _ _)
 have d2:CR (fol (es++[e]) ts') (2*(es++[e]).length) (B++[right,β]):=by
  have h:=q2.cr _ (Fi ..)
  by_cases nb:B = []
  ·subst nb;exact h
  ·have h':CR (fol (es++[e]) ts') (2*(es++[e]).length) ([right,β]++B):=h
   exact h'.turn nb
 have q3:=q2.swap d2 (FY:(B++[right,β]).Perm ([right,β]++B))
 refine q3.perm ?_
 refine(List.Perm.cons _ (yc wl _)).trans ?_
 exact(FY:([B++[right,β]]++rings.set w (A++left::α::C)).Perm _)
theorem Ak{m:Nat}{es:En}{ts rings:List (List Nat)}(g:Gr m es ts)(pt:Part (fol es ts) (2*es.length) rings){w left one:Nat}{A B:List Nat}(hw:rings[w]?=some (A++left::B)){e:Nat×Nat}{l:List Nat}(h1:hd es left=one)(he:e=(one,m)∨e=(m,one))(e1:ts[one]?=some l) :
  Gr (m+1) (es++[e]) (ts.set one (ins l (l.idxOf (left/2)+1) es.length)++[[es.length]]) /\
  Part (fol (es++[e]) (ts.set one (ins l (l.idxOf (left/2)+1) es.length)++[[es.length]])) (2*(es++[e]).length) (rings.set w (A++left::bw es.length e one::bw es.length e m::B)):=by
 have wl:=(E3.mp hw).1
 have p1:=pt.perm (pK hw)
 have c0:=p1.cr _ (Fi ..)
 have c1:CR (fol es ts) (2*es.length) (left::(B++A)):=c0.turn (List.cons_ne_nil _ _)
 have p2:=p1.swap c1 (FY:((left::B)++A).Perm (A++left::B))
 have hl:=c1.lt left (Fi ..)
 obtain⟨x,tl,ex,ch⟩:=c1.ch
 cases ex
 refine⟨g.leaf hl c1 ch h1 he e1,?_⟩
 have q:=g.leafP hl c1 ch h1 he e1 p2
 generalize ts.set one (ins l (l.idxOf (left/2)+1) es.length)++[[es.length]]=ts' at q ⊢
 generalize bw es.length e one=α at q ⊢
 generalize bw es.length e m=β at q ⊢
 have d1:CR (fol (es++[e]) ts') (2*(es++[e]).length) (A++left::α::β::B):=by
  have h:=q.cr _ (Fi ..)
  by_cases na:A = []
  ·subst na
   rw[Hc]at h
   exact h
  ·have h':CR (fol (es++[e]) ts') (2*(es++[e]).length) ((left::α::β::B)++A):=h
   exact h'.turn na
 have q1:=q.swap d1 (FY:(A++(left::α::β::B)).Perm ((left::α::β::B)++A))
 exact q1.perm (yc wl _)
def Aq(K:E6):Sp:=fun vs H Q _=>∃(pt q:Addr)(xs:List V)(p d n:Nat)(l:List Nat),vs = [.ref pt,.int (p:Int),.int (d:Int),.int (n:Int)]/\SqL K H pt xs/\xs[p]?=some (.ref q)/\H q=some (.lst (l.map iV))/\d/2∈l/\l.length<=70/\(∀ x∈l,x<1000)/\Q .non (upd H q (.lst ((ins l (l.idxOf (d/2)+1) n).map iV)))
section
variable{P:Program}{w:World}{K:E6}{mg:Str->Option Value}{base:Heap}
theorem oj:aE ["turns","place","behind","fresh","row"] ["turns","place","behind","fresh"] (ah fj):=⟨rfl,rfl,rfl,by decide +kernel,rfl,by decide +kernel,by decide +kernel⟩
theorem ok_put{f:Addr}{fd:FuncData} (F:Fun K "_law_put" "_law_put" fj f fd):FnOk P w K mg base CX0 1 f fd ["turns","place","behind","fresh"] (Aq K):=by
 refine F.ok oj (fun vs H Q E h=>?_) (fun cdv A outer s H vs Q E hr h=>?_)
 ·obtain⟨pt,q,xs,p,d,n,l,rfl,_⟩:=h
  rfl
 obtain⟨pt,q,xs,p,d,n,l,rfl,hS,hx,hq,hd,l60,lb,kk⟩:=h
 have ix:l.idxOf (d/2)<l.length:=List.idxOf_lt_length_of_mem hd
 have ll:(l.map iV).length=l.length:=Fc ..
 have eL:(d:Int)/2=((d/2:Nat):Int):=by omega
 refine⟨_,(af (au (i:=4) oj.nd rfl (Or.inl rfl) (aG az (pv 0) (pv 1) (fun _ _=>rfl)))
   (ao (bg (gA FF IB IA sP (pv 4) (aa (ar bC (gA FF IF IE ym (pv 4) (aa (ar cN (pv 2) aj) ag)) aj) (aa (pv 3) ag)))))),?_⟩
 refine⟨_,rfl,_,rfl,pt,xs,_,_,rfl,rfl,hS,ay hx,?_⟩
 refine⟨_,rfl,.inl ⟨rfl,_,SqL.of hq⟩,_,rfl,.inl ⟨rfl,_,SqL.of hq⟩,_,rfl,_,_,rfl,rfl,⟨by decide,by decide⟩,q,l,d/2,rfl,congrArg (fun z=>[V.int z]) eL,SqL.of hq,fun p hp=>by have:=lb p hp;omega,by omega,hd,_,_,rfl,rfl,_,rfl,q,_,_,_,rfl,rfl,hq,by omega,by omega,ax (by omega),?_⟩
 rw[insV,show(((l.idxOf (d/2):Nat):Int)+1).toNat=l.idxOf (d/2)+1 by omega]
 exact kk
end
structure GwC(S:Addr->Prop)(H:Hp)(pe pt pr:Addr)(ys xs zs:List V)(es:En)(ts rg:List (List Nat)):Prop where
 he:H pe=some (.lst ys)
 en:da H ys es
 ht:H pt=some (.lst xs)
 rx:bN (fun p=>p=pe∨p=pt∨p=pr∨S p) H xs ts
 di:Dist xs
 hr:H pr=some (.lst zs)
 rz:bN (fun p=>(p=pe∨p=pt∨p=pr)∨V.ref p∈xs∨S p) H zs rg
 ne:pe≠pt/\pe≠pr/\pt≠pr/\¬ S pe/\¬ S pt/\¬ S pr
 sl:∀ p,S p->H p≠none
def Keep(S:Addr->Prop)(H H':Hp):Prop:=∀ p o,S p->H p=some o->H' p=some o
theorem Keep.trans{S:Addr->Prop}{H H1 H2:Hp}(a:Keep S H H1)(b:Keep S H1 H2):Keep S H H2:=fun p o s h=>b p o s (a p o s h)
theorem Keep.of{S:Addr->Prop}{H H1:Hp}(a:Same H H1):Keep S H H1:=fun p o _ h=>a p o h
theorem Keep.upd{S:Addr->Prop}{H:Hp}{q:Addr}{o:HO}(n:¬ S q):Keep S H (upd H q o):=fun p u s h=>by rw[ai (show p≠q from fun z=>n (z▸s))];exact h
theorem z9{S:Addr->Prop}{H:Hp}{xs:List V}{ts:List (List Nat)}(h:bN S H xs ts){p:Addr}(m:V.ref p∈xs):H p≠none:=by
 obtain⟨i,hi⟩:=FU.mp m
 have il:=(E3.mp hi).1
 obtain⟨p',a1,_,a3⟩:=h.2 i _ (E4 (by rw[← h.1];exact il))
 rw[hi]at a1
 cases a1
 rw[a3]
 exact fun z=>nomatch z
section
variable{S:Addr->Prop}{H H':Hp}{pe pt pr:Addr}{ys xs zs:List V}{es:En}{ts rg:List (List Nat)}
theorem GwC.same(c:GwC S H pe pt pr ys xs zs es ts rg)(s:Same H H'):GwC S H' pe pt pr ys xs zs es ts rg :=
 ⟨s _ _ c.he,c.en.mono s,s _ _ c.ht,c.rx.mono fun p o _ z=>s _ _ z,c.di,s _ _ c.hr,c.rz.mono fun p o _ z=>s _ _ z,c.ne,fun p sp z=>by
  cases y:H p with
  |none=>exact c.sl p sp y
  |some o=>rw[s _ _ y]at z;cases z⟩
theorem GwC.new(c:GwC S H pe pt pr ys xs zs es ts rg){b:Addr}(h:H b=none):b≠pe/\b≠pt/\b≠pr/\¬ S b/\V.ref b∉xs/\V.ref b∉zs :=
 ⟨fun z=>(by rw[z,c.he]at h;cases h),fun z=>(by rw[z,c.ht]at h;cases h),fun z=>(by rw[z,c.hr]at h;cases h),fun z=>c.sl b z h,fun z=>z9 c.rx z h,fun z=>z9 c.rz z h⟩
theorem GwC.put(c:GwC S H pe pt pr ys xs zs es ts rg){i:Nat}{q:Addr}(hx:xs[i]?=some (.ref q))(l':List Nat):GwC S (upd H q (.lst (l'.map iV))) pe pt pr ys xs zs es (ts.set i l') rg/\¬ S q:=by
 have il:i<ts.length:=by rw[← c.rx.1];exact(E3.mp hx).1
 obtain⟨q',a1,a2,a3⟩:=c.rx.2 i _ (E4 il)
 rw[hx]at a1
 cases a1
 have n1:pe≠q:=fun z=>a2 (.inl z.symm)
 have n2:pt≠q:=fun z=>a2 (.inr (.inl z.symm))
 have n3:pr≠q:=fun z=>a2 (.inr (.inr (.inl z.symm)))
 have n4:¬ S q:=fun z=>a2 (.inr (.inr (.inr z)))
 refine⟨⟨by rw[ai n1];exact c.he,c.en.put a3,by rw[ai n2];exact c.ht,c.rx.set c.di hx,c.di,by rw[ai n3];exact c.hr,c.rz.mono fun p o n z=>?_,c.ne,fun p sp z=>?_⟩,n4⟩
 ·rw[ai (show p≠q from fun y=>n (.inr (.inl (y▸E7 hx))))];exact z
 ·rw[ai (show p≠q from fun y=>n4 (y▸sp))]at z;exact c.sl p sp z
theorem GwC.updR(c:GwC S H pe pt pr ys xs zs es ts rg){zs':List V}{rg':List (List Nat)}(hz:bN (fun p=>(p=pe∨p=pt∨p=pr)∨V.ref p∈xs∨S p) H zs' rg'):GwC S (upd H pr (.lst zs')) pe pt pr ys xs zs' es ts rg':=by
 obtain⟨n1,n2,n3,n4,n5,n6⟩:=c.ne
 refine⟨by rw[ai n2];exact c.he,c.en.put c.hr,by rw[ai n3];exact c.ht,c.rx.mono fun p o n z=>?_,c.di,ae,hz.mono fun p o n z=>?_,c.ne,fun p sp z=>?_⟩
 ·rw[ai (fun y=>n (.inr (.inr (.inl y))))];exact z
 ·rw[ai (fun y=>n (.inl (.inr (.inr y))))];exact z
 ·rw[ai (show p≠pr from fun y=>n6 (y▸sp))]at z;exact c.sl p sp z
theorem rT{S:Addr->Prop}{H:Hp}{zs:List V}{rg:List (List Nat)}(h:bN S H zs rg){W:Nat}{b:Addr}{r:List Nat}(n:¬ S b)(e:H b=some (.lst (r.map iV))):bN S H (zs.set W (.ref b)) (rg.set W r):=by
 refine⟨by rw[FK,FK];exact h.1,fun j l z=>?_⟩
 rw[FI]at z ⊢
 by_cases hj:W=j
 ·rw[if_pos hj]at z ⊢
  by_cases hl:W<rg.length
  ·rw[if_pos hl]at z
   cases z
   exact⟨b,by rw[if_pos (by rw[h.1];exact hl)],n,e⟩
  ·rw[if_neg hl]at z;cases z
 ·rw[if_neg hj]at z ⊢
  exact h.2 j l z
theorem GwC.leaf(c:GwC S H pe pt pr ys xs zs es ts rg){pn:Addr}(hp:pn≠pe/\pn≠pt/\pn≠pr/\¬ S pn/\V.ref pn∉xs/\V.ref pn∉zs){l:List Nat}(e:H pn=some (.lst (l.map iV))):GwC S (upd H pt (.lst (xs++[.ref pn]))) pe pt pr ys (xs++[.ref pn]) zs es (ts++[l]) rg:=by
 obtain⟨n1,n2,n3,n4,n5,n6⟩:=c.ne
 obtain⟨m1,m2,m3,m4,m5,m6⟩:=hp
 have R:=c.rx.snoc (q:=pn) (l:=l) (by rintro(z | z | z | z);exact m1 z;exact m2 z;exact m3 z;exact m4 z) e
 refine⟨by rw[ai n1];exact c.he,c.en.put c.ht,ae,R.mono fun p o n z=>?_,fun i j p e1 e2=>?_,by rw[ai (Ne.symm n3)];exact c.hr,⟨c.rz.1,fun i l hl=>?_⟩,c.ne,fun p sp z=>?_⟩
 ·rw[ai (fun y=>n (.inr (.inl y)))];exact z
 ·have old:∀ k,(xs++[V.ref pn])[k]?=some (.ref p)->(xs[k]?=some (.ref p))∨(k=xs.length/\p=pn):=fun k ek=>by
   by_cases hk:k<xs.length
   ·rw[E8 hk]at ek;exact .inl ek
   ·have:=(E3.mp ek).1
    rw[E5,Fl]at this
    have hk2:k=xs.length:=by omega
    subst hk2
    rw[E9 (Ff _),FA]at ek
    cases ek
    exact .inr ⟨rfl,rfl⟩
  rcases old i e1 with a | ⟨a,a'⟩
  ·rcases old j e2 with b | ⟨b,b'⟩
   ·exact c.di i j p a b
   ·exact absurd (b'▸E7 a) m5
  ·rcases old j e2 with b | ⟨b,b'⟩
   ·exact absurd (a'▸E7 b) m5
   ·rw[a,b]
 ·obtain⟨p,a1,a2,a3⟩:=c.rz.2 i l hl
  refine⟨p,a1,?_,?_⟩
  ·rintro(y | y | y)
   ·exact a2 (.inl y)
   ·rcases Fe.mp y with y | y
    ·exact a2 (.inr (.inl y))
    ·have:p=pn:=by
      have:=Fp.mp y
      cases this;rfl
     exact m6 (this▸E7 a1)
   ·exact a2 (.inr (.inr y))
  ·rw[ai (fun y=>a2 (.inl (.inr (.inl y))))];exact a3
 ·rw[ai (show p≠pt from fun y=>n5 (y▸sp))]at z;exact c.sl p sp z
theorem GwC.fin(c:GwC S H pe pt pr ys xs zs es ts rg){i:Nat}{q:Addr}(hx:xs[i]?=some (.ref q))(l':List Nat){t:Addr}(ht:(upd H q (.lst (l'.map iV))) t=none)(e:Nat×Nat) :
  GwC S (upd (upd (upd H q (.lst (l'.map iV))) t (.tup [iV e.1,iV e.2])) pe (.lst (ys++[.ref t]))) pe pt pr (ys++[.ref t]) xs zs (es++[e]) (ts.set i l') rg/\Keep S H (upd (upd (upd H q (.lst (l'.map iV))) t (.tup [iV e.1,iV e.2])) pe (.lst (ys++[.ref t]))):=by
 obtain⟨c1,nq⟩:=c.put hx l'
 have sn:=ak ht (.tup [iV e.1,iV e.2])
 have c2:=c1.same sn
 obtain⟨n1,n2,n3,n4,n5,n6⟩:=c.ne
 refine⟨⟨ae,(c2.en.snoc ae).put c2.he,by rw[ai (Ne.symm n1)];exact c2.ht,c2.rx.mono fun p o n z=>?_,c2.di,by rw[ai (Ne.symm n2)];exact c2.hr,c2.rz.mono fun p o n z=>?_,c.ne,fun p sp z=>?_⟩,?_⟩
 ·rw[ai (fun y=>n (.inl y))];exact z
 ·rw[ai (fun y=>n (.inl (.inl y)))];exact z
 ·rw[ai (show p≠pe from fun y=>n4 (y▸sp))]at z;exact c2.sl p sp z
 ·exact((Keep.upd nq).trans (Keep.of sn)).trans (Keep.upd n4)
end
end K8
namespace K8
open PySem L2
local macro_rules | `(tactic| walk_at "cc") => `(tactic| first | exact ⟨by decide, by decide⟩ | (show (0 : Int) < _; decide) | (show (0 : Int) < _; omega) | (show (0 : Int) ≤ _; omega) | exact ⟨by decide, by decide, by decide⟩ | exact ⟨by omega, by omega, by decide⟩ | exact Or.inl ⟨by decide, by decide⟩ | exact Or.inl ⟨by omega, by omega⟩)
local macro_rules | `(tactic| walk_at "rd") => `(tactic| repeat (first | refine ⟨_, rfl, ?_⟩ | refine ⟨_, _, rfl, rfl, ?_⟩ | refine ⟨rfl, ?_⟩ | (refine ⟨?cc, ?_⟩; (case cc => walk_at "cc"))))
def GwA(S:Addr->Prop)(H:Hp)(pe pt pr:Addr)(m:Nat)(es:En)(ts rg:List (List Nat)):Prop:=(∃ ys xs zs,GwC S H pe pt pr ys xs zs es ts rg)/\Gr m es ts/\Part (fol es ts) (2*es.length) rg
def stepT:TS:=fun D σ H=>∃(pe pt q rg:Addr)(v0 v3 v4 v5 v6 v7 v10 v15:Option V)(a L one two n o:Nat)(xs ys:List V)(ring l:List Nat),σ = [v0,some (.ref pe),some (.ref pt),v3,v4,v5,v6,v7,some (.ref rg),some (.int (a:Int)),v10,some (.int (one:Int)),some (.int (two:Int)),some (.int (n:Int)),some (.int ((2*n+o:Nat):Int)),v15]/\o<2/\H pt=some (.lst xs)/\xs[one]?=some (.ref q)/\H q=some (.lst (l.map iV))/\L/2∈l/\l.length<=70/\(∀ x∈l,x<1000)/\H rg=some (.lst (ring.map iV))/\ring[a]?=some L/\q≠pe/\H pe=some (.lst ys)/\ys.length<=70 /\
 ∀ t,(upd H q (.lst ((ins l (l.idxOf (L/2)+1) n).map iV))) t=none->D.nx σ (upd (upd (upd H q (.lst ((ins l (l.idxOf (L/2)+1) n).map iV))) t (.tup (if o=0 then[iV one,iV two] else[iV two,iV one]))) pe (.lst (ys++[.ref t])))
def EZ(S:Addr->Prop)(H:Hp)(pe pt pr:Addr)(N P:Nat)(Q:Hp->Prop):Prop:=∀(m':Nat)(es':En)(ts' rg':List (List Nat))(H':Hp),Keep S H H'->GwA S H' pe pt pr m' es' ts' rg'->N<=es'.length->es'.length<=N+1->m'<=P->Q H'
def stepO:TS:=fun D σ H=>∃(S:Addr->Prop)(c:Int)(pe pt pr rq:Addr)(P m W a b:Nat)(v5 v7 v11 v12 v13 v14 v15:Option V)(ys xs zs:List V)(es:En)(ts rg:List (List Nat))(ring:List Nat),σ = [some (.int c),some (.ref pe),some (.ref pt),some (.ref pr),some (.int (P:Int)),v5,some (.int (W:Int)),v7,some (.ref rq),some (.int (a:Int)),some (.int (b:Int)),v11,v12,v13,v14,v15]/\GwC S H pe pt pr ys xs zs es ts rg/\Gr m es ts/\Part (fol es ts) (2*es.length) rg/\es.length<=62/\m<=P/\zs[W]?=some (.ref rq)/\rg[W]?=some ring/\H rq=some (.lst (ring.map iV))/\a<=b/\b<ring.length/\(∀ σ',EZ S H pe pt pr es.length P (D.nx σ'))/\EZ S H pe pt pr es.length P (D.rt .non)
theorem uW{r:List Nat}{a L:Nat}(h:r[a]?=some L):r.take (a+1)=r.take a++[L]:=by
 rw[F2,h];rfl
theorem oR{r:List Nat}{a L:Nat}(h:r[a]?=some L):r=r.take a++L::r.drop (a+1):=by
 have:=(Fy (a+1) r).symm
 rw[uW h,FJ]at this
 exact this
theorem Am{r:List Nat}{a b L R:Nat}(h:r[a]?=some L)(h2:r[b]?=some R)(lt:a<b):r=r.take a++L::((r.drop (a+1)).take (b-a-1)++R::r.drop (b+1)):=by
 have e:(r.drop (a+1))[b-a-1]?=some R:=by rw[GH,show a+1+(b-a-1)=b by omega];exact h2
 have:=oR e
 rw[GV,show a+1+(b-a-1+1)=b+1 by omega]at this
 rw[← this]
 exact oR h
theorem mid_at{r:List Nat}{a b R:Nat}(h2:r[b]?=some R)(lt:a<b):(r.drop (a+1)).take (b-a)=(r.drop (a+1)).take (b-a-1)++[R]:=by
 have e:(r.drop (a+1))[b-a-1]?=some R:=by rw[GH,show a+1+(b-a-1)=b by omega];exact h2
 rw[show b-a=b-a-1+1 by omega]
 exact uW e
theorem ER{xs:List V}{c:Nat}(h:c<=xs.length):cutV xs (some (c:Int)) none=xs.drop c:=by
 unfold cutV
 rw[HT.sIx_nat,Gk h]
 show(xs.drop c).take (xs.length-c)=_
 exact FN (by rw[FQ];exact Ff _)
theorem EO{xs:List V}{c:Nat}(h:c<=xs.length):cutV xs none (some (c:Int))=xs.take c:=by
 unfold cutV
 rw[HT.sIx_nat,Gk h]
 show(xs.drop 0).take (c-0)=_
 rw[Hg,Nat.sub_zero]
theorem EN{xs:List V}{c d:Nat}(h:c<=xs.length)(h2:d<=xs.length):cutV xs (some (c:Int)) (some (d:Int))=(xs.drop c).take (d-c):=by
 unfold cutV
 rw[HT.sIx_nat,HT.sIx_nat,Gk h,Gk h2]
theorem bD{H G:Hp}{p:Addr}(sm:Same H G)(z:G p=none):H p=none:=by
 cases y:H p with
 |none=>rfl
 |some o=>rw[sm _ _ y]at z;cases z
theorem Df{n o x y:Nat}(o2:o<2)(ne:x≠y):bw n (if o=0 then(x,y) else(y,x)) x=2*n+o/\bw n (if o=0 then(x,y) else(y,x)) y=2*n+1-o:=by
 by_cases z:o=0
 ·subst z
  rw[if_pos rfl]
  unfold bw
  exact⟨by rw[if_pos rfl];rfl,by rw[if_neg ne];rfl⟩
 ·have:o=1:=by omega
  subst this
  rw[if_neg (by decide)]
  unfold bw
  exact⟨by rw[if_neg (Ne.symm ne)],by rw[if_pos rfl];rfl⟩
theorem Dn{o x y:Nat}:HO.tup (if o=0 then[iV x,iV y] else[iV y,iV x])=HO.tup [iV (if o=0 then(x,y) else(y,x)).1,iV (if o=0 then(x,y) else(y,x)).2]:=by
 by_cases z:o=0
 ·rw[if_pos z,if_pos z]
 ·rw[if_neg z,if_neg z]
theorem AR{o x y:Nat}:(if o=0 then(x,y) else(y,x))=(x,y)∨(if o=0 then(x,y) else(y,x))=(y,x):=by
 by_cases z:o=0
 ·exact .inl (if_pos z)
 ·exact .inr (if_neg z)
theorem tK{m:Nat}{es:En}{ts:List (List Nat)}(g:Gr m es ts):m<=es.length+2:=by
 obtain⟨rs,_,c⟩:=g.part
 omega
def Ao:Sp:=fun vs H Q _=>∃(S:Addr->Prop)(c:Int)(pe pt pr:Addr)(P m:Nat)(es:En)(ts rg:List (List Nat)),vs = [.int c,.ref pe,.ref pt,.ref pr,.int (P:Int)]/\GwA S H pe pt pr m es ts rg/\0<es.length/\es.length<=62/\m<=P/\EZ S H pe pt pr es.length P (Q .non)
section
variable{P:Program}{w:World}{K:E6}{mg:Str->Option Value}{base:Heap}
theorem aL:aE ["cell","ends","turns","rings","places","mixed","which","rest","ring","a","b","one","two","fresh","out","back"] ["cell","ends","turns","rings","places"] (ah du):=⟨rfl,rfl,rfl,by decide +kernel,rfl,by decide +kernel,by decide +kernel⟩
theorem Ec{f fh fp:Addr}{fd dh dp:FuncData} (F:Fun K "_law_step" "_law_step" du f fd) (T:Txt mg) (G_law_head:Cal P w K mg base 1 "_law_head" ["ends","dart"] (vc K) fh dh) (G_law_put:Cal P w K mg base 1 "_law_put" ["turns","place","behind","fresh"] (Aq K) fp dp):FnOk P w K mg base CX0 2 f fd ["cell","ends","turns","rings","places"] Ao:=by
 refine F.ok aL (fun vs H Q E h=>?_) (fun cdv A outer s H vs Q E hr h=>?_)
 ·obtain⟨S,c,pe,pt,pr,P,m,es,ts,rg,rfl,_⟩:=h
  rfl
 obtain⟨S,c,pe,pt,pr,P,m,es,ts,rg,rfl,⟨⟨ys,xs,zs,C⟩,g,part⟩,e0,few,mP,kk⟩:=h
 refine⟨_,(af (au (i:=5) aL.nd rfl (Or.inl rfl) (ar bA (ar eg (ar bA (pv 0) aj) aj) aj))
   (af (au (i:=6) aL.nd rfl (Or.inl rfl) (ar bA (ar cN (pv 5) aj) (aw aq (by rfl) T.n_len aU (aa (pv 3) ag))))
   (af (au (i:=7) aL.nd rfl (Or.inl rfl) (ar cN (ar cN (pv 5) aj) (aw aq (by rfl) T.n_len aU (aa (pv 3) ag))))
   (af (au (i:=8) aL.nd rfl (Or.inl rfl) (aG az (pv 3) (pv 6) (fun _ _=>rfl)))
   (af (au (i:=9) aL.nd rfl (Or.inl rfl) (ar bA (pv 7) (aw aq (by rfl) T.n_len aU (aa (pv 8) ag))))
   (af (au (i:=10) aL.nd rfl (Or.inl rfl) (pv 9))
   (af (cM (aK nS (ar bA (pv 5) aj) aj (aR _)) (ao (au (i:=10) aL.nd rfl (Or.inl rfl) (ar bC (pv 9) (ar bA (ar cN (pv 7) (aw aq (by rfl) T.n_len aU (aa (pv 8) ag))) (ar oq (aw aq (by rfl) T.n_len aU (aa (pv 8) ag)) (pv 9)))))) aW)
   (AH (t2:=stepO) (af (au (i:=11) aL.nd rfl (Or.inl rfl) (aH G_law_head.ok (hr.mono (by decide)) rfl G_law_head.mg G_law_head.kp G_law_head.bn .nil bh (aa (pv 1) (aa (aG az (pv 8) (pv 9) (fun _ _=>rfl)) ag))))
   (af (au (i:=12) aL.nd rfl (Or.inl rfl) (aH G_law_head.ok (hr.mono (by decide)) rfl G_law_head.mg G_law_head.kp G_law_head.bn .nil bh (aa (pv 1) (aa (aG az (pv 8) (pv 10) (fun _ _=>rfl)) ag))))
   (af (au (i:=13) aL.nd rfl (Or.inl rfl) (aw aq (by rfl) T.n_len aU (aa (pv 1) ag)))
   (af (au (i:=14) aL.nd rfl (Or.inl rfl) (ar bC (ar eg aj (pv 13)) (ar bA (ar cN (pv 0) aj) aj)))
   (af (au (i:=15) aL.nd rfl (Or.inl rfl) (ar oq (ar bC (ar eg aj (pv 13)) aj) (pv 14)))
   (af (cM (PW.pt (AG (aK nS (pv 11) (pv 12) (aR _)) (vw (aK Ct (aw aq (by rfl) T.n_len aU (aa (pv 2) ag)) (pv 4) (aR _))))) (ao D5) aW)
   (af (cM (aK nS (pv 11) (pv 12) (aR _)) (af (au (i:=12) aL.nd rfl (Or.inl rfl) (aw aq (by rfl) T.n_len aU (aa (pv 2) ag)))
   (af (bg (gA FF FT FR bq (pv 2) (aa (bK (aa (pv 13) ag)) ag)))
   (ao (rU (ar ml (ar ml (d9 gy (pv 8) jZ (eQ (ar bC (pv 9) aj))) (bK (aa (pv 14) (aa (pv 15) ag)))) (d9 gy (pv 8) (eQ (ar bC (pv 9) aj)) jZ)) (sh (pv 3) (pv 6) jr))))) (af (bg (aH G_law_put.ok (hr.mono (by decide)) rfl G_law_put.mg G_law_put.kp G_law_put.bn .nil bh (aa (pv 2) (aa (pv 12) (aa (aG az (pv 8) (pv 10) (fun _ _=>rfl)) (aa (pv 13) ag))))))
   (af (rU (ar ml (ar ml (d9 gy (pv 8) jZ (eQ (ar bC (pv 9) aj))) (bK (aa (pv 14) ag))) (d9 gy (pv 8) (eQ (ar bC (pv 10) aj)) jZ)) (sh (pv 3) (pv 6) jr))
   (ao (bg (gA FF FT FR bq (pv 3) (aa (ar ml (d9 gy (pv 8) (eQ (ar bC (pv 9) aj)) (eQ (ar bC (pv 10) aj))) (bK (aa (pv 15) ag))) ag)))))))
   (AH (t2:=stepT) (af (bg (aH G_law_put.ok (hr.mono (by decide)) rfl G_law_put.mg G_law_put.kp G_law_put.bn .nil bh (aa (pv 2) (aa (pv 11) (aa (aG az (pv 8) (pv 9) (fun _ _=>rfl)) (aa (pv 13) ag))))))
   (ao (cM (aK nS (ar bA (pv 14) aj) aj (aR _)) (ao (bg (gA FF FT FR bq (pv 1) (aa (ju (aa (pv 11) (aa (pv 12) ag))) ag)))) (ao (bg (gA FF FT FR bq (pv 1) (aa (ju (aa (pv 12) (aa (pv 11) ag))) ag))))))) (fun D0 S0 H0 h0=>?restp))))))))) (fun D0 S0 H0 h0=>?resto))))))))),?_⟩
 case restp =>
  obtain⟨pe,pt,q,rg,v0,v3,v4,v5,v6,v7,v10,v15,a,L,one,two,n,o,xs,ys,ring,l,rfl,o2,hpt,hx,hq,hL,l60,lb,hrg,hra,qpe,hpe,y60,kk⟩:=h0
  have hraV:(ring.map iV)[a]?=some (iV L):=by rw[Fg,hra];rfl
  refine⟨_,rfl,_,rfl,_,rfl,_,rfl,rg,_,_,_,rfl,rfl,SqL.of hrg,ay hraV,_,rfl,pt,q,xs,one,L,n,l,rfl,SqL.of hpt,hx,hq,hL,l60,lb,?_⟩
  have hpe2:(upd H0 q (.lst ((ins l (l.idxOf (L/2)+1) n).map iV))) pe=some (.lst ys):=by rw[ai (Ne.symm qpe)];exact hpe
  refine⟨_,rfl,_,_,rfl,rfl,(by show(0:Int)<2;decide),rfl,_,rfl,ite2 (fun c=>?_) (fun c=>?_)⟩
  ·have c':((2*n+o:Nat):Int)%2=0:=V.int.inj (of_decide_eq_true c)
   have o0:o=0:=by omega +splitDisjunctions
   refine⟨_,rfl,.inl ⟨rfl,_,SqL.of hpe2⟩,_,rfl,_,rfl,(by show 2<=sizeLine;decide),fun t ht=>⟨pe,ys,_,rfl,rfl,ak ht _ _ _ hpe2,ax (by omega +splitDisjunctions),?_⟩⟩
   have:=kk t ht
   rw[if_pos o0]at this
   exact this
  ·have c':¬ ((2*n+o:Nat):Int)%2=0:=fun z=>c (decide_eq_true (congrArg V.int z))
   have o0:¬ o=0:=by omega +splitDisjunctions
   refine⟨_,rfl,.inl ⟨rfl,_,SqL.of hpe2⟩,_,rfl,_,rfl,(by show 2<=sizeLine;decide),fun t ht=>⟨pe,ys,_,rfl,rfl,ak ht _ _ _ hpe2,ax (by omega +splitDisjunctions),?_⟩⟩
   have:=kk t ht
   rw[if_neg o0]at this
   exact this
 case resto =>
  clear C g part kk mP few e0
  obtain⟨S,c,pe,pt,pr,rq,P,m,W,a,b,v5,v7,v11,v12,v13,v14,v15,ys,xs,zs,es,ts,rg,ring,rfl,C,g,part,few,mP,hzW,hrW,hrq,ab,bl,kN,kR⟩:=h0
  have wf:=g.w
  have mf:=tK g
  have cr:=part.cr ring (E7 hrW)
  obtain⟨L,hL⟩:∃ L,ring[a]?=some L:=⟨_,E4 (by omega +splitDisjunctions)⟩
  obtain⟨R,hR⟩:∃ R,ring[b]?=some R:=⟨_,E4 bl⟩
  have hLl:=cr.lt L (E7 hL)
  have hRl:=cr.lt R (E7 hR)
  have yl:ys.length=es.length:=C.en.1
  have xl:xs.length=m:=by rw[C.rx.1,wf.len]
  have hLV:(ring.map iV)[a]?=some (iV L):=by rw[Fg,hL];rfl
  have hRV:(ring.map iV)[b]?=some (iV R):=by rw[Fg,hR];rfl
  have rlen:(ring.map iV).length=ring.length:=Fc _
  have rle:ring.length<=2*es.length:=c7 cr.nd cr.lt
  obtain⟨_,l,_,_,_,k4,k5,k6⟩:=wf.at hLl
  obtain⟨_,l',_,_,_,k4',k5',k6'⟩:=wf.at hRl
  obtain⟨sm1,f1⟩:=jU wf few k5
  obtain⟨sm2,f2⟩:=jU wf few k5'
  obtain⟨p1,y1,y2,y3⟩:=C.rx.2 _ _ k5
  obtain⟨p2,z1,z2,z3⟩:=C.rx.2 _ _ k5'
  obtain⟨rq',a1,a2,a3⟩:=C.rz.2 _ _ hrW
  rw[hzW]at a1
  cases a1
  obtain⟨n1,n2,n3,n4,n5,n6⟩:=C.ne
  obtain⟨o,ho,o2⟩:∃ o:Nat,c/3%2=(o:Int)/\o<2:=⟨(c/3%2).toNat,by omega +splitDisjunctions,by omega +splitDisjunctions⟩
  have qpt:rq≠pt:=fun z=>a2 (.inl (.inr (.inl z)))
  have qpr:rq≠pr:=fun z=>a2 (.inl (.inr (.inr z)))
  have qxs:V.ref rq∉xs:=fun z=>a2 (.inr (.inl z))
  refine⟨_,rfl,_,rfl,_,rfl,rq,_,_,_,rfl,rfl,SqL.of hrq,ay hLV,pe,ys,es,L,rfl,SqL.of C.he,C.en,hLl,?_⟩
  refine⟨_,rfl,_,rfl,_,rfl,rq,_,_,_,rfl,rfl,SqL.of hrq,ay hRV,pe,ys,es,R,rfl,SqL.of C.he,C.en,hRl,?_⟩
  refine⟨_,rfl,pe,ys,rfl,.inl (SqL.of C.he),?_⟩
  refine⟨_,rfl,_,_,rfl,rfl,.inl ⟨by decide,by decide⟩,_,rfl,_,_,rfl,rfl,⟨by decide,by decide⟩,_,_,rfl,rfl,(by show(0:Int)<2;decide),_,_,rfl,rfl,?_⟩
  refine⟨_,rfl,_,_,rfl,rfl,.inl ⟨by decide,by decide⟩,_,_,rfl,rfl,_,rfl,_,_,rfl,rfl,?_⟩
  have hb:4*(es.length:Int)+1-(2*(es.length:Int)+(o:Int))=((2*es.length+1-o:Nat):Int):=by omega +splitDisjunctions
  have ha:2*(es.length:Int)+(o:Int)=((2*es.length+o:Nat):Int):=by omega +splitDisjunctions
  rw[ho,yl]
  dsimp only
  rw[hb,ha]
  have cutA:cutV (ring.map iV) none (some ((a:Int)+1))=((ring.take a++[L]).map iV):=by
   rw[show(a:Int)+1=((a+1:Nat):Int) by omega +splitDisjunctions,EO (by rw[rlen];omega +splitDisjunctions),← uW hL,Hm]
  have cutB:∀ x,x<ring.length->cutV (ring.map iV) (some ((x:Int)+1)) none=((ring.drop (x+1)).map iV):=fun x hx=>by
   rw[show(x:Int)+1=((x+1:Nat):Int) by omega +splitDisjunctions,ER (by rw[rlen];omega +splitDisjunctions),Hn]
  have zl:zs.length=rg.length:=C.rz.1
  have rgl:rg.length<=es.length+2:=by
   obtain⟨rs,q1,q2⟩:=g.part
   have:=part.same q1
   omega +splitDisjunctions
  have Wl:W<rg.length:=(E3.mp hrW).1
  refine⟨_,rfl,_,rfl,rfl,_,rfl,ite2 (fun e1=>?_) (fun e1=>?_)⟩
  ·refine⟨_,rfl,pt,xs,rfl,.inl (SqL.of C.ht),_,rfl,_,_,rfl,rfl,_,rfl,ite2 (fun e2=>?_) (fun e2=>?_)⟩
   ·exact kR m es ts rg H0 (Keep.of (fun _ _ z=>z)) ⟨⟨ys,xs,zs,C⟩,g,part⟩ (Ff _) (Ha _) mP
   have mlt:m<P:=by
    by_cases z:m<P
    ·exact z
    ·exact absurd (decide_eq_true (by rw[xl];omega +splitDisjunctions)) e2
   refine⟨_,rfl,_,rfl,rfl,_,rfl,ite2 (fun _=>?_) (fun z=>absurd e1 z)⟩
   refine⟨_,rfl,pt,xs,rfl,.inl (SqL.of C.ht),?_⟩
   refine⟨_,rfl,.inl ⟨rfl,_,SqL.of C.ht⟩,_,rfl,(by show 1<=sizeLine;decide),fun pn hpn=>⟨pt,xs,_,rfl,rfl,ak hpn _ _ _ C.ht,ax (by omega +splitDisjunctions),?_⟩⟩
   have sn:=ak hpn (.lst [V.int (es.length:Int)])
   have C1:=(C.same sn).leaf (C.new hpn) (l:=[es.length]) ae
   have hrq1:=sn _ _ hrq
   have hrq2:(upd (upd H0 pn (.lst [V.int (es.length:Int)])) pt (.lst (xs++[.ref pn]))) rq=some (.lst (ring.map iV)):=by rw[ai qpt];exact hrq1
   have kp1:Keep S H0 (upd (upd H0 pn (.lst [V.int (es.length:Int)])) pt (.lst (xs++[.ref pn]))):=(Keep.of sn).trans (Keep.upd n5)
   generalize hG1:upd (upd H0 pn (.lst [V.int (es.length:Int)])) pt (.lst (xs++[.ref pn]))=G1 at C1 hrq2 kp1
   refine⟨_,rfl,_,rfl,_,_,rfl,rfl,_,rfl,rq,_,rfl,SqL.of hrq2,fun b1 hb1=>?_⟩
   rw[cutA]
   have t1:=ak hb1 (.lst ((ring.take a++[L]).map iV))
   refine⟨_,rfl,_,rfl,(by show 2<=sizeLine;decide),fun b2 hb2=>?_⟩
   have t2:=ak hb2 (.lst ([2*es.length+o,2*es.length+1-o].map iV))
   refine⟨b1,b2,(ring.take a++[L]).map iV,[2*es.length+o,2*es.length+1-o].map iV,rfl,rfl,SqL.of (t2 _ _ ae),SqL.of ae,(by rw[Fc,Fc,E5,Fw];exact F0 (ax (by simp;omega +splitDisjunctions))),fun b3 hb3=>?_⟩
   have t3:=ak hb3 (.lst ((ring.take a++[L]).map iV++[2*es.length+o,2*es.length+1-o].map iV))
   have t03:=(t1.trans t2).trans t3
   refine⟨_,rfl,_,rfl,_,_,rfl,rfl,_,rfl,rq,_,rfl,SqL.of (t03 _ _ hrq2),fun b4 hb4=>?_⟩
   rw[cutB a (by omega +splitDisjunctions)]
   have t4:=ak hb4 (.lst ((ring.drop (a+1)).map iV))
   refine⟨b3,b4,_,_,rfl,rfl,SqL.of (t4 _ _ ae),SqL.of ae,(by rw[E5,Fc,Fc,E5,Fw,Fc,FQ];exact F0 (ax (by simp;omega +splitDisjunctions))),fun b5 hb5=>?_⟩
   have hlist:(ring.take a++[L]).map iV++[2*es.length+o,2*es.length+1-o].map iV++(ring.drop (a+1)).map iV=(ring.take a++L::(2*es.length+o)::(2*es.length+1-o)::ring.drop (a+1)).map iV:=by simp
   rw[hlist]
   have t5:=ak hb5 (.lst ((ring.take a++L::(2*es.length+o)::(2*es.length+1-o)::ring.drop (a+1)).map iV))
   have t04:=t03.trans t4
   have t05:=t04.trans t5
   have C5:=C1.same t05
   obtain⟨w1,w2,w3,w4,w5,w6⟩:=C1.new (bD t04 hb5)
   have C6:=C5.updR (rT C5.rz (W:=W) (b:=b5) (by rintro((z | z | z) | z | z);exact w1 z;exact w2 z;exact w3 z;exact w5 z;exact w4 z) ae)
   refine⟨_,rfl,_,rfl,pr,zs,_,W,rfl,rfl,C5.hr,mM (by omega +splitDisjunctions),?_⟩
   have hrq6:=(ai (o:=.lst (zs.set W (.ref b5))) qpr).trans (t05 _ _ hrq2)
   have kp6:=(kp1.trans (Keep.of t05)).trans (Keep.upd (q:=pr) (o:=.lst (zs.set W (.ref b5))) n6)
   have tsl:hd es L<ts.length:=by rw[wf.len];exact k4
   obtain⟨p1',u1,u2,u3⟩:=C6.rx.2 (hd es L) l (by rw[E8 tsl];exact k5)
   refine⟨pe,pt,p1',rq,_,_,_,_,_,_,_,_,a,L,hd es L,xs.length,es.length,o,xs++[.ref pn],ys,ring,l,rfl,o2,C6.ht,u1,u3,k6,by omega +splitDisjunctions,fun x hx=>by have:=sm1 x hx;omega +splitDisjunctions,hrq6,hL,fun z=>u2 (.inl z),C6.he,by omega +splitDisjunctions,fun t ht=>?_⟩
   obtain⟨C7,kp7⟩:=C6.fin u1 (ins l (l.idxOf (L/2)+1) es.length) ht (if o=0 then(hd es L,xs.length) else(xs.length,hd es L))
   rw[Dn]
   have hne:hd es L≠xs.length:=by omega +splitDisjunctions
   have hS:=Ak (e:=if o=0 then(hd es L,xs.length) else(xs.length,hd es L)) (w:=W) g part (hrW.trans (congrArg some (oR hL))) rfl (by rw[xl];exact AR) k5
   rw[← xl,(Df o2 hne).1,(Df o2 hne).2]at hS
   rw[HS _ _ tsl]at C7
   exact kN _ (xs.length+1) _ _ _ _ (kp6.trans kp7) ⟨⟨_,_,_,C7⟩,hS.1,hS.2⟩ (by rw[E5];omega +splitDisjunctions) (by rw[E5];exact Ff _) (by omega +splitDisjunctions)
  ·refine iteF ?_
   refine⟨_,rfl,_,rfl,rfl,_,rfl,ite2 (fun z=>absurd z e1) (fun _=>?_)⟩
   have hne:hd es L≠hd es R:=fun z=>e1 (decide_eq_true (by rw[z]))
   have alt:a<b:=by
    rcases Nat.lt_or_ge a b with z | z
    ·exact z
    ·have:a=b:=by omega +splitDisjunctions
     subst this
     rw[hL]at hR
     cases hR
     exact absurd rfl hne
   refine⟨_,rfl,_,rfl,_,rfl,_,rfl,rq,_,_,_,rfl,rfl,SqL.of hrq,ay hRV,_,rfl,pt,p2,xs,hd es R,R,es.length,l',rfl,SqL.of C.ht,z1,z3,k6',by omega +splitDisjunctions,fun x hx=>by have:=sm2 x hx;omega +splitDisjunctions,?_⟩
   obtain⟨C1,np2⟩:=C.put z1 (ins l' (l'.idxOf (R/2)+1) es.length)
   have hrq2:(upd H0 p2 (.lst ((ins l' (l'.idxOf (R/2)+1) es.length).map iV))) rq=some (.lst (ring.map iV)):=by rw[ai (show rq≠p2 from fun z=>qxs (z▸E7 z1))];exact hrq
   have kp1:Keep S H0 (upd H0 p2 (.lst ((ins l' (l'.idxOf (R/2)+1) es.length).map iV))):=Keep.upd np2
   generalize hG1:upd H0 p2 (.lst ((ins l' (l'.idxOf (R/2)+1) es.length).map iV))=G1 at C1 hrq2 kp1
   refine⟨_,rfl,_,rfl,_,_,rfl,rfl,_,rfl,rq,_,rfl,SqL.of hrq2,fun b1 hb1=>?_⟩
   rw[cutA]
   have t1:=ak hb1 (.lst ((ring.take a++[L]).map iV))
   refine⟨_,rfl,(by show 1<=sizeLine;decide),fun b2 hb2=>?_⟩
   have t2:=ak hb2 (.lst ([2*es.length+o].map iV))
   refine⟨b1,b2,(ring.take a++[L]).map iV,[2*es.length+o].map iV,rfl,rfl,SqL.of (t2 _ _ ae),SqL.of ae,(by rw[Fc,Fc,E5,Fw];exact F0 (ax (by simp;omega +splitDisjunctions))),fun b3 hb3=>?_⟩
   have t3:=ak hb3 (.lst ((ring.take a++[L]).map iV++[2*es.length+o].map iV))
   have t03:=(t1.trans t2).trans t3
   refine⟨_,rfl,_,rfl,_,_,rfl,rfl,_,rfl,rq,_,rfl,SqL.of (t03 _ _ hrq2),fun b4 hb4=>?_⟩
   rw[cutB b bl]
   have t4:=ak hb4 (.lst ((ring.drop (b+1)).map iV))
   refine⟨b3,b4,_,_,rfl,rfl,SqL.of (t4 _ _ ae),SqL.of ae,(by rw[E5,Fc,Fc,E5,Fw,Fc,FQ];exact F0 (ax (by simp;omega +splitDisjunctions))),fun b5 hb5=>?_⟩
   have hlist:(ring.take a++[L]).map iV++[2*es.length+o].map iV++(ring.drop (b+1)).map iV=(ring.take a++L::(2*es.length+o)::ring.drop (b+1)).map iV:=by simp
   rw[hlist]
   have t5:=ak hb5 (.lst ((ring.take a++L::(2*es.length+o)::ring.drop (b+1)).map iV))
   have t04:=t03.trans t4
   have t05:=t04.trans t5
   have C5:=C1.same t05
   obtain⟨w1,w2,w3,w4,w5,w6⟩:=C1.new (bD t04 hb5)
   have C6:=C5.updR (rT C5.rz (W:=W) (b:=b5) (by rintro((z | z | z) | z | z);exact w1 z;exact w2 z;exact w3 z;exact w5 z;exact w4 z) ae)
   refine⟨_,rfl,_,rfl,pr,zs,_,W,rfl,rfl,C5.hr,mM (by omega +splitDisjunctions),?_⟩
   have hrq6:=(ai (o:=.lst (zs.set W (.ref b5))) qpr).trans (t05 _ _ hrq2)
   have kp6:=(kp1.trans (Keep.of t05)).trans (Keep.upd (q:=pr) (o:=.lst (zs.set W (.ref b5))) n6)
   generalize hG6:upd _ pr (HO.lst (zs.set W (.ref b5)))=G6 at C6 hrq6 kp6
   refine⟨_,rfl,.inl ⟨rfl,_,SqL.of C6.hr⟩,_,rfl,_,rfl,_,_,rfl,rfl,_,rfl,_,rfl,_,_,rfl,rfl,_,rfl,rq,_,rfl,SqL.of hrq6,fun b6 hb6=>?_⟩
   have cutM:cutV (ring.map iV) (some ((a:Int)+1)) (some ((b:Int)+1))=(((ring.drop (a+1)).take (b-a-1)++[R]).map iV):=by
    rw[show(a:Int)+1=((a+1:Nat):Int) by omega +splitDisjunctions,show(b:Int)+1=((b+1:Nat):Int) by omega +splitDisjunctions,EN (by rw[rlen];omega +splitDisjunctions) (by rw[rlen];omega +splitDisjunctions),← mid_at hR alt,Hm,Hn,show b+1-(a+1)=b-a by omega +splitDisjunctions]
   rw[cutM]
   have t6:=ak hb6 (.lst (((ring.drop (a+1)).take (b-a-1)++[R]).map iV))
   refine⟨_,rfl,(by show 1<=sizeLine;decide),fun b7 hb7=>?_⟩
   have t7:=ak hb7 (.lst ([2*es.length+1-o].map iV))
   refine⟨b6,b7,((ring.drop (a+1)).take (b-a-1)++[R]).map iV,[2*es.length+1-o].map iV,rfl,rfl,SqL.of (t7 _ _ ae),SqL.of ae,(by rw[Fc,Fc,E5,Fw,FQ];exact F0 (ax (by simp;omega +splitDisjunctions))),fun b8 hb8=>?_⟩
   have hlist2:((ring.drop (a+1)).take (b-a-1)++[R]).map iV++[2*es.length+1-o].map iV=((ring.drop (a+1)).take (b-a-1)++[R,2*es.length+1-o]).map iV:=by simp
   rw[hlist2]
   have t8:=ak hb8 (.lst (((ring.drop (a+1)).take (b-a-1)++[R,2*es.length+1-o]).map iV))
   have t67:=t6.trans t7
   have t68:=t67.trans t8
   have C8:=C6.same t68
   obtain⟨x1,x2,x3,x4,x5,x6⟩:=C6.new (bD t67 hb8)
   have C9:=C8.updR (C8.rz.snoc (q:=b8) (by rintro((z | z | z) | z | z);exact x1 z;exact x2 z;exact x3 z;exact x5 z;exact x4 z) ae)
   refine⟨pr,zs.set W (.ref b5),_,rfl,rfl,C8.hr,ax (by rw[FK];omega +splitDisjunctions),?_⟩
   have hrq9:=(ai (o:=.lst (zs.set W (.ref b5)++[.ref b8])) qpr).trans (t68 _ _ hrq6)
   have kp9:=(kp6.trans (Keep.of t68)).trans (Keep.upd (q:=pr) (o:=.lst (zs.set W (.ref b5)++[.ref b8])) n6)
   obtain⟨p1',u1,u2,u3⟩:=C9.rx.2 (hd es L) l (by rw[HV (Ne.symm hne)];exact k5)
   refine⟨pe,pt,p1',rq,_,_,_,_,_,_,_,_,a,L,hd es L,hd es R,es.length,o,xs,ys,ring,l,rfl,o2,C9.ht,u1,u3,k6,by omega +splitDisjunctions,fun x hx=>by have:=sm1 x hx;omega +splitDisjunctions,hrq9,hL,fun z=>u2 (.inl z),C9.he,by omega +splitDisjunctions,fun t ht=>?_⟩
   obtain⟨C10,kp10⟩:=C9.fin u1 (ins l (l.idxOf (L/2)+1) es.length) ht (if o=0 then(hd es L,hd es R) else(hd es R,hd es L))
   rw[Dn]
   have hS:=Al (e:=if o=0 then(hd es L,hd es R) else(hd es R,hd es L)) (w:=W) g part (hrW.trans (congrArg some (Am hL hR alt))) rfl rfl hne AR k5 k5'
   rw[(Df o2 hne).1,(Df o2 hne).2]at hS
   rw[List.set_comm _ _ (Ne.symm hne)]at C10
   exact kN _ m _ _ _ _ (kp9.trans kp10) ⟨⟨_,_,_,C10⟩,hS.1,hS.2⟩ (by rw[E5];omega +splitDisjunctions) (by rw[E5];exact Ff _) mP
 have zl:zs.length=rg.length:=C.rz.1
 have mf:=tK g
 have rg0:0<rg.length:=by
  rcases Nat.eq_zero_or_pos rg.length with z | z
  ·have:=part.all 0 (by omega +splitDisjunctions)
   rw[IG.mp z]at this
   cases this
  ·exact z
 have rgl:rg.length<=es.length+2:=by
  obtain⟨rs,q1,q2⟩:=g.part
  have:=part.same q1
  omega +splitDisjunctions
 refine⟨_,rfl,_,_,rfl,rfl,(by show(0:Int)<1000000007;decide),_,_,rfl,rfl,.inr ⟨by decide,by decide⟩,_,_,rfl,rfl,(by show(0:Int)<2147483647;decide),?_⟩
 have o0:(0:Int)<=c%1000000007*48271%2147483647:=Gn _ (by decide)
 have o1:c%1000000007*48271%2147483647<2147483647:=F8 _ (by decide)
 refine⟨_,rfl,_,_,rfl,rfl,⟨by decide,by decide⟩,_,rfl,pr,zs,rfl,.inl (SqL.of C.hr),_,_,rfl,rfl,(by show(0:Int)<(zs.length:Int);omega +splitDisjunctions),?_⟩
 refine⟨_,rfl,_,_,rfl,rfl,⟨by decide,by decide⟩,_,rfl,pr,zs,rfl,.inl (SqL.of C.hr),_,_,rfl,rfl,⟨(by show(0:Int)<(zs.length:Int);omega +splitDisjunctions),(by show(zs.length:Int)<1073741824;omega +splitDisjunctions)⟩,?_⟩
 dsimp only
 generalize c%1000000007*48271%2147483647=M at o0 o1
 obtain⟨W,hW,Wl⟩:∃ W:Nat,M/2%(zs.length:Int)=(W:Int)/\W<rg.length:=by
  have h0:=Gn (M/2) (show(zs.length:Int)≠0 by omega +splitDisjunctions)
  have h1:=F8 (M/2) (show(0:Int)<(zs.length:Int) by omega +splitDisjunctions)
  exact⟨_,(Gs h0).symm,by omega +splitDisjunctions⟩
 obtain⟨R,hR⟩:∃ R:Nat,M/2/(zs.length:Int)=(R:Int):=⟨_,(Gs (Int.ediv_nonneg (by omega +splitDisjunctions) (by omega +splitDisjunctions))).symm⟩
 rw[hW,hR]
 obtain⟨ring,hring⟩:∃ r,rg[W]?=some r:=⟨_,E4 Wl⟩
 obtain⟨rq,q1,q2,q3⟩:=C.rz.2 W ring hring
 have cr:=part.cr ring (E7 hring)
 have rle:ring.length<=2*es.length:=c7 cr.nd cr.lt
 have rlen:(ring.map iV).length=ring.length:=Fc _
 have rpos:0<ring.length:=by
  obtain⟨d,hd⟩:=cr.ne
  exact GW hd
 have lpos:(0:Int)<((ring.map iV).length:Int):=by omega +splitDisjunctions
 refine⟨_,rfl,_,rfl,pr,zs,_,_,rfl,rfl,SqL.of C.hr,ay q1,?_⟩
 refine⟨_,rfl,_,rfl,rq,_,rfl,.inl (SqL.of q3),_,_,rfl,rfl,lpos,?_⟩
 dsimp only
 obtain⟨a,ha,al⟩:∃ a:Nat,(R:Int)%((ring.map iV).length:Int)=(a:Int)/\a<ring.length:=by
  have h0:=Gn (R:Int) (show((ring.map iV).length:Int)≠0 by omega +splitDisjunctions)
  have h1:=F8 (R:Int) lpos
  exact⟨_,(Gs h0).symm,by omega +splitDisjunctions⟩
 rw[ha]
 refine⟨_,rfl,?_⟩
 refine⟨_,rfl,_,_,rfl,rfl,(by show(0:Int)<2;decide),rfl,_,rfl,ite2 (fun c1=>?_) (fun c1=>?_)⟩
 ·have bpos:(0:Int)<((ring.map iV).length:Int)-(a:Int):=by omega +splitDisjunctions
  refine⟨_,rfl,_,rfl,_,rfl,rq,_,rfl,.inl (SqL.of q3),_,_,rfl,rfl,⟨lpos,(by show((ring.map iV).length:Int)<1073741824;omega +splitDisjunctions)⟩,_,rfl,rq,_,rfl,.inl (SqL.of q3),_,rfl,_,_,rfl,rfl,_,_,rfl,rfl,bpos,_,_,rfl,rfl,?_⟩
  dsimp only
  obtain⟨d,hd,dl⟩:∃ d:Nat,(R:Int)/((ring.map iV).length:Int)%(((ring.map iV).length:Int)-(a:Int))=(d:Int)/\a+d<ring.length:=by
   have h0:=Gn ((R:Int)/((ring.map iV).length:Int)) (show((ring.map iV).length:Int)-(a:Int)≠0 by omega +splitDisjunctions)
   have h1:=F8 ((R:Int)/((ring.map iV).length:Int)) bpos
   exact⟨_,(Gs h0).symm,by omega +splitDisjunctions⟩
  rw[hd,show(a:Int)+(d:Int)=((a+d:Nat):Int) by omega +splitDisjunctions]
  exact⟨S,c,pe,pt,pr,rq,P,m,W,a,a+d,_,_,_,_,_,_,_,ys,xs,zs,es,ts,rg,ring,rfl,C,g,part,few,mP,q1,hring,q3,by omega +splitDisjunctions,dl,fun _=>kk,kk⟩
 ·exact⟨S,c,pe,pt,pr,rq,P,m,W,a,a,_,_,_,_,_,_,_,ys,xs,zs,es,ts,rg,ring,rfl,C,g,part,few,mP,q1,hring,q3,Ff _,al,fun _=>kk,kk⟩
end
end K8
namespace K8
open PySem L2
local macro_rules | `(tactic| walk_at "cc") => `(tactic| first | exact ⟨by decide, by decide⟩ | (show (0 : Int) < _; decide) | (show (0 : Int) < _; omega) | (show (0 : Int) ≤ _; omega) | exact ⟨by decide, by decide, by decide⟩ | exact ⟨by omega, by omega, by decide⟩ | exact Or.inl ⟨by decide, by decide⟩ | exact Or.inl ⟨by omega, by omega⟩)
local macro_rules | `(tactic| walk_at "rd") => `(tactic| repeat (first | refine ⟨_, rfl, ?_⟩ | refine ⟨_, _, rfl, rfl, ?_⟩ | refine ⟨rfl, ?_⟩ | (refine ⟨?cc, ?_⟩; (case cc => walk_at "cc"))))
def u6:Sp:=fun vs H Q _=>∃(c:Int)(m:Nat),vs = [.int c,.int (m:Int)]/\m<=100/\∀(q:Addr)(o:List Nat)(H':Hp),Same H H'->H q=none->H' q=some (.lst (o.map iV))->o.length=m->o.Nodup->(∀ x∈o,x<m)->Q (.ref q) H'
def oX(K:E6):Sp:=fun vs H Q _=>∃(a:Addr)(P:Nat)(cs:List Int),vs = [.ref a,.int (P:Int)]/\SqL K H a (cs.map V.int)/\cs.length<=62/\2<=P /\
 ∀(t pe pt pr:Addr)(m:Nat)(es:En)(ts rg:List (List Nat))(H':Hp),Same H H'->H' t=some (.tup [.ref pe,.ref pt,.ref pr])->GwA (fun p=>H p≠none) H' pe pt pr m es ts rg->0<es.length->es.length<=cs.length+1->m<=P->Q (.ref t) H'
theorem Cs:Part (fol [(0,1)] [[0],[0]]) 2 [[0,1]]:=by
 refine⟨fun r hr=>?_,by decide,fun d hd=>?_⟩
 ·have:r = [0,1]:=by simpa using hr
  subst this
  exact⟨⟨0,[1],rfl,by decide,(by show fol [(0,1)] [[0],[0]] 1=0;decide)⟩,fun d hd=>by simp at hd ⊢;omega,by decide⟩
 ·simp
  omega
theorem Keep.same{H H1 H2:Hp}(s:Same H H1)(k:Keep (fun p=>H p≠none) H1 H2):Same H H2:=fun p o h=>k p o (fun z=>by rw[z]at h;cases h) (s p o h)
section
variable{P:Program}{w:World}{K:E6}{mg:Str->Option Value}{base:Heap}
theorem cU:aE ["cell","many","order","mixed","k"] ["cell","many"] (ah cF):=⟨rfl,rfl,rfl,by decide +kernel,rfl,by decide +kernel,by decide +kernel⟩
theorem CC{f:Addr}{fd:FuncData} (F:Fun K "_law_order" "_law_order" cF f fd) (T:Txt mg):FnOk P w K mg base CX0 1 f fd ["cell","many"] u6:=by
 refine F.ok cU (fun vs H Q E h=>?_) (fun cdv A outer s H vs Q E hr h=>?_)
 ·obtain⟨c,m,rfl,_⟩:=h
  rfl
 obtain⟨c,m,rfl,hm,k⟩:=h
 refine⟨_,(af (au (i:=2) cU.nd rfl (Or.inl rfl) (bK ag))
   (af (au (i:=3) cU.nd rfl (Or.inl rfl) (ar bA (pv 0) aj))
   (af (cq PassesOwn.never rfl (aY rfl T.n_range (aa (pv 1) ag)) (aX (i:=4) cU.nd rfl (Or.inl rfl)) (af (au (i:=3) cU.nd rfl (Or.inl rfl) (ar bA (ar bC (ar eg (pv 3) aj) (ar eg aj (pv 4))) aj))
   (ao (bg (gA FF IB IA sP (pv 2) (aa (ar bA (pv 3) (ar bC (pv 4) aj)) (aa (pv 4) ag)))))))
   (ao (aP (pv 2)))))),?_⟩
 refine⟨(by show 0<=sizeLine;decide),fun q hq=>?_⟩
 refine⟨_,rfl,_,_,rfl,rfl,(by show(0:Int)<1000000007;decide),?_⟩
 refine⟨_,rfl,_,rfl,by omega,by omega,cz (n:=(m:Int).toNat) (fun i σ H2=>∃(M:Int),∃ v4 o,σ = [some (.int c),some (.int (m:Int)),some (.ref q),some (.int M),v4]/\Same H H2/\H2 q=some (.lst (o.map iV))/\o.length=i/\o.Nodup/\∀ x∈o,x<i) ⟨_,_,[],rfl,ak hq _,ae,rfl,GJ,fun x hx=>nomatch hx⟩ ?_ ?_⟩
 ·rintro i σ H2 hi ⟨M,v4,o,rfl,s2,hq2,ol,nd,lt⟩
  rw[Fn]at hi
  have e0:(0:Int)+(i:Int)=(i:Int):=Gy _
  rw[e0]
  have hlen:(o.map iV).length=i:=by rw[Fc];exact ol
  refine⟨_,rfl,_,_,rfl,rfl,.inr ⟨by decide,by decide⟩,_,rfl,_,_,rfl,rfl,.inl ⟨by decide,by decide⟩,_,_,rfl,rfl,_,_,rfl,rfl,(by show(0:Int)<2147483647;decide),?_⟩
  refine⟨_,rfl,.inl ⟨rfl,_,SqL.of hq2⟩,_,rfl,_,rfl,_,_,rfl,rfl,_,_,rfl,rfl,(by show(0:Int)<(i:Int)+1;omega),_,rfl,q,_,_,_,rfl,rfl,hq2,(Dx _ _).1,(by rw[hlen];exact(Dx _ _).2),ax (by omega),?_⟩
  rw[insV]
  refine⟨_,_,_,rfl,aV s2 hq _,ae,by rw[EC,ol],Bs nd fun z=>by have:=lt i z;omega,fun x hx=>?_⟩
  rcases wK.mp hx with z | z
  ·omega
  ·have:=lt x z;omega
 ·rintro σ H2 ⟨M,v4,o,rfl,s2,hq2,ol,nd,lt⟩
  rw[Fn]at ol lt
  exact⟨_,rfl,k q o H2 s2 hq hq2 ol nd lt⟩
theorem cV:aE ["cells","places","ends","turns","rings","cell"] ["cells","places"] (ah cH):=⟨rfl,rfl,rfl,by decide +kernel,rfl,by decide +kernel,by decide +kernel⟩
theorem CG{f fs:Addr}{fd ds:FuncData} (F:Fun K "_law_grown" "_law_grown" cH f fd) (G_law_step:Cal P w K mg base 2 "_law_step" ["cell","ends","turns","rings","places"] Ao fs ds):FnOk P w K mg base CX0 3 f fd ["cells","places"] (oX K):=by
 refine F.ok cV (fun vs H Q E h=>?_) (fun cdv A outer s H vs Q E hr h=>?_)
 ·obtain⟨a,P,cs,rfl,_⟩:=h
  rfl
 obtain⟨a,P,cs,rfl,hS,h62,P2,kk⟩:=h
 have hcl:(cs.map V.int).length=cs.length:=Fc _
 refine⟨_,(af (au (i:=2) cV.nd rfl (Or.inl rfl) (bK (aa (ju (aa aj (aa aj ag))) ag)))
   (af (au (i:=3) cV.nd rfl (Or.inl rfl) (bK (aa (bK (aa aj ag)) (aa (bK (aa aj ag)) ag))))
   (af (au (i:=4) cV.nd rfl (Or.inl rfl) (bK (aa (bK (aa aj (aa aj ag))) ag)))
   (af (cq PassesOwn.never rfl (bL (pv 0)) (aX (i:=5) cV.nd rfl (Or.inl rfl)) (ao (bg (aH G_law_step.ok (hr.mono (by decide)) rfl G_law_step.mg G_law_step.kp G_law_step.bn .nil bh (aa (pv 5) (aa (pv 2) (aa (pv 3) (aa (pv 4) (aa (pv 1) ag)))))))))
   (ao (aP (ju (aa (pv 2) (aa (pv 3) (aa (pv 4) ag)))))))))),?_⟩
 refine⟨(by show 2<=sizeLine;decide),fun t0 ht0=>⟨(by show 1<=sizeLine;decide),fun pe hpe=>?_⟩⟩
 refine⟨(by show 1<=sizeLine;decide),fun p0 hp0=>⟨(by show 1<=sizeLine;decide),fun p1 hp1=>⟨(by show 2<=sizeLine;decide),fun pt hpt=>?_⟩⟩⟩
 refine⟨(by show 2<=sizeLine;decide),fun r0 hr0=>⟨(by show 1<=sizeLine;decide),fun pr hpr=>?_⟩⟩
 have s1:=ak ht0 (.tup [.int 0,.int 1])
 have s2:=ak hpe (.lst [.ref t0])
 have s3:=ak hp0 (.lst [.int 0])
 have s4:=ak hp1 (.lst [.int 0])
 have s5:=ak hpt (.lst [.ref p0,.ref p1])
 have s6:=ak hr0 (.lst [.int 0,.int 1])
 have s7:=ak hpr (.lst [.ref r0])
 have s12:=s1.trans s2
 have s13:=s12.trans s3
 have s14:=s13.trans s4
 have s15:=s14.trans s5
 have s16:=s15.trans s6
 have s17:=s16.trans s7
 have s37:=((s3.trans s4).trans s5).trans (s6.trans s7)
 have s47:=(s4.trans s5).trans (s6.trans s7)
 have s57:=s5.trans (s6.trans s7)
 have s67:=s6.trans s7
 have l_t0:=(s2.trans s37) _ _ (ae (a:=t0) (o:=.tup [.int 0,.int 1]))
 have l_pe:=s37 _ _ (ae (a:=pe) (o:=.lst [.ref t0]))
 have l_p0:=s47 _ _ (ae (a:=p0) (o:=.lst [.int 0]))
 have l_p1:=s57 _ _ (ae (a:=p1) (o:=.lst [.int 0]))
 have l_pt:=s67 _ _ (ae (a:=pt) (o:=.lst [.ref p0,.ref p1]))
 have l_r0:=s7 _ _ (ae (a:=r0) (o:=.lst [.int 0,.int 1]))
 have n_pe:=bD s1 hpe
 have n_p0:=bD s12 hp0
 have n_p1:=bD s13 hp1
 have n_pt:=bD s14 hpt
 have n_r0:=bD s15 hr0
 have n_pr:=bD s16 hpr
 have d1:∀{x:Addr}{G G':Hp}{o:HO},G x=some o->Same G G'->∀{y},G' y=none->y≠x:=fun h s y z e=>by
  rw[e,s _ _ h]at z;cases z
 have e1:p0≠pe:=d1 ae (fun _ _ z=>z) hp0
 have e2:p1≠pe:=d1 ae s3 hp1
 have e3:pt≠pe:=d1 ae (s3.trans s4) hpt
 have e4:r0≠pe:=d1 ae ((s3.trans s4).trans s5) hr0
 have e5:pr≠pe:=d1 ae (((s3.trans s4).trans s5).trans s6) hpr
 have e6:p1≠p0:=d1 ae (fun _ _ z=>z) hp1
 have e7:pt≠p0:=d1 ae s4 hpt
 have e8:r0≠p0:=d1 ae (s4.trans s5) hr0
 have e9:pr≠p0:=d1 ae ((s4.trans s5).trans s6) hpr
 have e10:pt≠p1:=d1 ae (fun _ _ z=>z) hpt
 have e11:r0≠p1:=d1 ae s5 hr0
 have e12:pr≠p1:=d1 ae (s5.trans s6) hpr
 have e13:r0≠pt:=d1 ae (fun _ _ z=>z) hr0
 have e14:pr≠pt:=d1 ae s6 hpr
 have e15:pr≠r0:=d1 ae (fun _ _ z=>z) hpr
 have C0:GwC (fun p=>H p≠none) (upd (upd (upd (upd (upd (upd (upd H t0 (.tup [.int 0,.int 1])) pe (.lst [.ref t0])) p0 (.lst [.int 0])) p1 (.lst [.int 0])) pt (.lst [.ref p0,.ref p1])) r0 (.lst [.int 0,.int 1])) pr (.lst [.ref r0])) pe pt pr [.ref t0] [.ref p0,.ref p1] [.ref r0] [(0,1)] [[0],[0]] [[0,1]]:=by
  refine⟨l_pe,⟨rfl,fun i e z=>?_⟩,l_pt,⟨rfl,fun i l z=>?_⟩,fun i j p z1 z2=>?_,ae,⟨rfl,fun i l z=>?_⟩,⟨Ne.symm e3,Ne.symm e5,Ne.symm e14,fun z=>z n_pe,fun z=>z n_pt,fun z=>z n_pr⟩,fun p sp z=>sp (bD s17 z)⟩
  ·match i,z with
   |0,z=>cases z;exact⟨t0,rfl,l_t0⟩
   |i+1,z=>cases z
  ·match i,z with
   |0,z=>cases z;exact⟨p0,rfl,by rintro(y | y | y | y);exact e1 y;exact e7 y.symm;exact e9 y.symm;exact y n_p0,l_p0⟩
   |1,z=>cases z;exact⟨p1,rfl,by rintro(y | y | y | y);exact e2 y;exact e10 y.symm;exact e12 y.symm;exact y n_p1,l_p1⟩
   |i+2,z=>cases z
  ·match i,z1,j,z2 with
   |0,z1,0,z2=>rfl
   |1,z1,1,z2=>rfl
   |0,z1,1,z2=>cases z1;cases z2;exact absurd rfl e6
   |1,z1,0,z2=>cases z1;cases z2;exact absurd rfl e6
   |i+2,z1,_,_=>cases z1
   |0,_,j+2,z2=>cases z2
   |1,_,j+2,z2=>cases z2
  ·match i,z with
   |0,z =>
    cases z
    refine⟨r0,rfl,?_,l_r0⟩
    rintro((y | y | y) | y | y)
    ·exact e4 y
    ·exact e13 y
    ·exact e15 y.symm
    ·have:r0=p0∨r0=p1:=by simpa using y
     rcases this with y | y
     ·exact e8 y
     ·exact e11 y
    ·exact y n_r0
   |i+1,z=>cases z
 refine⟨_,rfl,a,rfl,⟨_,s17.seq hS⟩,eF (xs:=cs.map V.int) (fun i σ H5=>∃ v5 m es ts rg,σ = [some (.ref a),some (.int (P:Int)),some (.ref pe),some (.ref pt),some (.ref pr),v5]/\Same H H5/\GwA (fun p=>H p≠none) H5 pe pt pr m es ts rg/\0<es.length/\es.length<=i+1/\m<=P)
  ⟨_,2,[(0,1)],[[0],[0]],[[0,1]],rfl,s17,⟨⟨_,_,_,C0⟩,gr_two,Cs⟩,Nat.one_pos,Ff _,P2⟩ (fun i σ H5 _ ⟨_,_,_,_,_,_,z,_⟩=>z.seq hS) ?_ ?_⟩
 ·rintro i x σ H5 hx ⟨v5,m,es,ts,rg,rfl,s5,gw,e0,ei,mP⟩
  rw[Fg]at hx
  obtain⟨c,hc,rfl⟩:=F3.mp hx
  have hil:i<cs.length:=(E3.mp hc).1
  refine⟨_,rfl,_,rfl,_,rfl,_,rfl,_,rfl,_,c,pe,pt,pr,P,m,es,ts,rg,rfl,gw,e0,by omega +splitDisjunctions,mP,fun m' es' ts' rg' H' kp gw' l1 l2 mP'=>?_⟩
  exact⟨_,m',es',ts',rg',rfl,kp.same s5,gw',by omega +splitDisjunctions,by omega +splitDisjunctions,mP'⟩
 ·rintro σ H5 ⟨v5,m,es,ts,rg,rfl,s5,gw,e0,ei,mP⟩
  rw[hcl]at ei
  refine⟨_,rfl,_,rfl,_,rfl,(by show 3<=sizeLine;decide),fun t ht=>?_⟩
  have sn:=ak ht (.tup [.ref pe,.ref pt,.ref pr])
  obtain⟨⟨ys,xs,zs,C⟩,g,part⟩:=gw
  exact kk t pe pt pr m es ts rg _ (s5.trans sn) ae ⟨⟨ys,xs,zs,C.same sn⟩,g,part⟩ e0 ei mP
end
end K8
namespace K8
open PySem L2
local macro_rules | `(tactic| walk_at "cc") => `(tactic| first | exact ⟨by decide, by decide⟩ | (show (0 : Int) < _; decide) | (show (0 : Int) < _; omega) | (show (0 : Int) ≤ _; omega) | exact ⟨by decide, by decide, by decide⟩ | exact ⟨by omega, by omega, by decide⟩ | exact Or.inl ⟨by decide, by decide⟩ | exact Or.inl ⟨by omega, by omega⟩)
local macro_rules | `(tactic| walk_at "rd") => `(tactic| repeat (first | refine ⟨_, rfl, ?_⟩ | refine ⟨_, _, rfl, rfl, ?_⟩ | refine ⟨rfl, ?_⟩ | (refine ⟨?cc, ?_⟩; (case cc => walk_at "cc"))))
def cutp(c:Int)(p n:Nat):Nat:=(c%1009*((p:Int)+1)%(n:Int)).toNat
def rowN(c:Int)(o2:List Nat)(p:Nat)(l:List Nat):List Nat:=(l.drop (cutp c p l.length)++l.take (cutp c p l.length)).map (ofL o2)
def en2(o1 o2:List Nat)(es:En):En:=(GC es.length).map fun j=>(ofL o1 ((es[o2.idxOf j]?).getD (0,0)).1,ofL o1 ((es[o2.idxOf j]?).getD (0,0)).2)
def ts2(c:Int)(o1 o2:List Nat)(ts:List (List Nat)):List (List Nat):=(GC ts.length).map fun j=>rowN c o2 (o1.idxOf j) ((ts[o1.idxOf j]?).getD [])
theorem Bu{o:List Nat}(nd:o.Nodup){k:Nat}(h:k<o.length):o.idxOf (ofL o k)=k:=by
 have e:o[k]?=some (ofL o k):=by unfold ofL;rw[E4 h];rfl
 exact yk nd (wM (E7 e)) e
theorem ren_of{m:Nat}{es:En}{ts:List (List Nat)}{c:Int}{o1 o2:List Nat}(w:bx m es ts)(l1:o1.length=m)(n1:o1.Nodup)(b1:∀ x∈o1,x<m)(l2:o2.length=es.length)(n2:o2.Nodup)(b2:∀ x∈o2,x<es.length) :
  Ren m es (en2 o1 o2 es) ts (ts2 c o1 o2 ts) (ofL o1) (ofL o2):=by
 have B1:=yI l1 n1 b1
 have B2:=yI l2 n2 b2
 refine⟨B1,B2,by simp[en2],by simp[ts2,w.len],fun k e h=>?_,fun p l h=>?_⟩
 ·have hk:=(E3.mp h).1
  unfold en2
  rw[Fg,Hs (B2.lt k hk)]
  show some (ofL o1 ((es[o2.idxOf (ofL o2 k)]?).getD (0,0)).1,ofL o1 ((es[o2.idxOf (ofL o2 k)]?).getD (0,0)).2)=_
  rw[Bu n2 (by omega),h]
  rfl
 ·have hp:p<m:=by rw[← w.len];exact(E3.mp h).1
  refine⟨l.take (cutp c p l.length),l.drop (cutp c p l.length),(Fy _ _).symm,?_⟩
  unfold ts2
  rw[Fg,Hs (by rw[w.len];exact B1.lt p hp)]
  show some (rowN c o2 (o1.idxOf (ofL o1 p)) ((ts[o1.idxOf (ofL o1 p)]?).getD []))=_
  rw[Bu n1 (by omega),h]
  rfl
theorem Gr.rows{m:Nat}{es:En}{ts:List (List Nat)}(g:Gr m es ts)(h2:2<=m){p:Nat}{l:List Nat}(h:ts[p]?=some l):0<l.length:=by
 have hp:p<m:=by rw[← g.w.len];exact(E3.mp h).1
 cases l with
 |cons a l=>exact Nat.succ_pos _
 |nil =>
  exfalso
  have no:∀ e∈es,e.1≠p/\e.2≠p:=fun e he=>by
   obtain⟨t,ht⟩:=FU.mp he
   refine⟨fun z=>?_,fun z=>?_⟩
   ·exact nomatch (g.w.mem p [] h t).mpr ⟨e,ht,.inl z⟩
   ·exact nomatch (g.w.mem p [] h t).mpr ⟨e,ht,.inr z⟩
  have:=g.conn (fun x=>x=p) (fun e he=>⟨fun z=>absurd z (no e he).1,fun z=>absurd z (no e he).2⟩) p (if p=0 then 1 else 0) hp (by split<;>omega) rfl
  have this':(if p=0 then 1 else 0)=p:=this
  split at this'<;>omega
theorem cut_hi{xs:List V}{c:Nat}(h:c<=xs.length):cutV xs (some (c:Int)) none=xs.drop c:=by
 unfold cutV
 rw[HT.sIx_nat,Gk h]
 show(xs.drop c).take (xs.length-c)=_
 exact FN (by rw[FQ];exact Ff _)
theorem cut_lo{xs:List V}{c:Nat}(h:c<=xs.length):cutV xs none (some (c:Int))=xs.take c:=by
 unfold cutV
 rw[HT.sIx_nat,Gk h]
 show(xs.drop 0).take (c-0)=_
 rw[Hg,Nat.sub_zero]
structure WebP(H:Hp)(pe pt:Addr)(m:Nat)(es:En)(ts:List (List Nat)):Prop where
 en:∃ ys,H pe=some (.lst ys)/\da H ys es
 tu:∃ xs,H pt=some (.lst xs)/\ck H xs ts
 g:Gr m es ts
theorem WebP.mono{H H':Hp}{pe pt:Addr}{m:Nat}{es:En}{ts:List (List Nat)}(h:WebP H pe pt m es ts)(s:Same H H'):WebP H' pe pt m es ts:=by
 obtain⟨⟨ys,a,b⟩,⟨xs,c,d⟩,g⟩:=h
 exact⟨⟨ys,s _ _ a,b.mono s⟩,⟨xs,s _ _ c,d.mono s⟩,g⟩
theorem at30{u v x:V}:atI [u,v,x] 0=some u:=rfl
theorem at31{u v x:V}:atI [u,v,x] 1=some v:=rfl
theorem at32{u v x:V}:atI [u,v,x] 2=some x:=rfl
structure TxtM(mg:Str->Option Value):Prop extends Txt mg where
 n_max:mg "max" = none
def DG(H:Hp)(pr:Addr)(rg:List (List Nat)):Prop:=∃ zs,H pr=some (.lst zs)/\ck H zs rg
theorem Cd{m:Nat}{es es2:En}{ts ts2 rs:List (List Nat)}{π σ:Nat->Nat}(R:Ren m es es2 ts ts2 π σ)(g:Gr m es ts)(p:Part (fol es ts) (2*es.length) rs):Part (fol es2 ts2) (2*es2.length) (rs.map (HR (Phi σ))):=by
 have flt:∀ d∈rs.flatten,d<2*es.length:=fun d hd=>by
  obtain⟨r,h1,h2⟩:=FZ.mp hd
  exact(p.cr r h1).lt d h2
 have hfl:(rs.map (HR (Phi σ))).flatten=rs.flatten.map (Phi σ):=List.map_flatten.symm
 refine⟨fun q hq=>?_,?_,fun d hd=>?_⟩
 ·obtain⟨r,hr,rfl⟩:=FW.mp hq
  have c:=p.cr r hr
  obtain⟨x,l,rfl,ch⟩:=c.ch
  refine⟨⟨Phi σ x,l.map (Phi σ),rfl,jI ch fun t ht=>R.fol g.w (c.lt t ht)⟩,fun d hd=>?_,mw c.nd fun a ha b hb=>nF R.si (c.lt a ha) (c.lt b hb)⟩
  obtain⟨t,ht,rfl⟩:=FW.mp hd
  have h1:=c.lt t ht
  have h2:=R.si.lt (t/2) (by omega)
  rw[R.l1]
  unfold Phi
  omega
 ·rw[hfl]
  exact mw p.nd fun a ha b hb=>nF R.si (flt a ha) (flt b hb)
 ·rw[R.l1]at hd
  obtain⟨k,hk,e⟩:=R.si.sur (d/2) (by omega)
  rw[hfl]
  refine FW.mpr ⟨2*k+d%2,p.all _ (by omega),?_⟩
  unfold Phi
  rw[show(2*k+d%2)/2=k by omega,e]
  omega
def Ap:Sp:=fun vs H Q _=>∃(t pe pt pr:Addr)(c:Int)(m:Nat)(es:En)(ts rg:List (List Nat)),vs = [.ref t,.int c]/\H t=some (.tup [.ref pe,.ref pt,.ref pr])/\WebP H pe pt m es ts/\DG H pr rg/\Part (fol es ts) (2*es.length) rg/\2<=m/\es.length<=63 /\
 ∀(t' pe' pt' pr':Addr)(es':En)(ts' rg':List (List Nat))(H':Hp),Same H H'->H' t'=some (.tup [.ref pe',.ref pt',.ref pr'])->WebP H' pe' pt' m es' ts'->DG H' pr' rg'->Part (fol es' ts') (2*es'.length) rg'->es'.length=es.length->Q (.ref t') H'
section
variable{P:Program}{w:World}{K:E6}{mg:Str->Option Value}{base:Heap}
theorem aB:aE ["grown","cell","places","ties","ends","k","turns","p","row","cut","rings","ring"] ["grown","cell"] (ah bb):=⟨rfl,rfl,rfl,by decide +kernel,rfl,by decide +kernel,by decide +kernel⟩
theorem ok_ren{f fo:Addr}{fd fdo:FuncData} (F:Fun K "_law_renumbered" "_law_renumbered" bb f fd) (T:TxtM mg) (G_law_order:Cal P w K mg base 1 "_law_order" ["cell","many"] u6 fo fdo):FnOk P w K mg base CX0 2 f fd ["grown","cell"] Ap:=by
 refine F.ok aB (fun vs H Q E h=>?_) (fun cdv A outer s H vs Q E hr h=>?_)
 ·obtain⟨t,pe,pt,pr,c,m,es,ts,rg,rfl,_⟩:=h
  rfl
 obtain⟨t,pe,pt,pr,c,m,es,ts,rg,rfl,ht,⟨⟨ys,hpe,en⟩,⟨xs,hpt,tu⟩,g⟩,⟨us,hpr,ru⟩,part,h2,h31,kk⟩:=h
 have w':=g.w
 have mf:=tK g
 have hyl:ys.length=es.length:=en.1
 have hxl:xs.length=m:=by rw[tu.1,w'.len]
 refine⟨_,(af (au (i:=2) aB.nd rfl (Or.inl rfl) (aH G_law_order.ok (hr.mono (by decide)) rfl G_law_order.mg G_law_order.kp G_law_order.bn .nil bh (aa (pv 1) (aa (aw aq (by rfl) T.n_len aU (aa (aG bf (pv 0) aj (fun _ _=>rfl)) ag)) ag))))
   (af (au (i:=3) aB.nd rfl (Or.inr rfl) (aH G_law_order.ok (hr.mono (by decide)) rfl G_law_order.mg G_law_order.kp G_law_order.bn .nil bh (aa (ar cN (pv 1) aj) (aa (aw aq (by rfl) T.n_len aU (aa (aG bf (pv 0) aj (fun _ _=>rfl)) ag)) ag))))
   (af (au (i:=4) aB.nd rfl (Or.inl rfl) (gz eO (by rfl) T.n_list ku (aa (aG bf (pv 0) aj (fun _ _=>rfl)) ag)))
   (af (cq PassesOwn.never rfl (aY rfl T.n_range (aa (aw aq (by rfl) T.n_len aU (aa (pv 4) ag)) ag)) (aX (i:=5) aB.nd rfl (Or.inl rfl)) (ao (rU (ju (aa (aG az (pv 2) (aG bf (aG az (aG bf (pv 0) aj (fun _ _=>rfl)) (pv 5) (fun _ _=>rfl)) aj (fun _ _=>rfl)) (fun _ _=>rfl)) (aa (aG az (pv 2) (aG bf (aG az (aG bf (pv 0) aj (fun _ _=>rfl)) (pv 5) (fun _ _=>rfl)) aj (fun _ _=>rfl)) (fun _ _=>rfl)) ag))) (sh (pv 4) (aG az (pv 3) (pv 5) (fun _ _=>rfl)) jr))))
   (af (au (i:=6) aB.nd rfl (Or.inl rfl) (gz eO (by rfl) T.n_list ku (aa (aG bf (pv 0) aj (fun _ _=>rfl)) ag)))
   (af (cq PassesOwn.never rfl (aY rfl T.n_range (aa (aw aq (by rfl) T.n_len aU (aa (pv 6) ag)) ag)) (aX (i:=7) aB.nd rfl (Or.inl rfl)) (af (jX (i:=8) rfl aB.nd rfl rfl (fr:=[("ties",3)]) (by exact bI.one (by rfl) (by decide +kernel) (by rfl) (by decide +kernel) (by rfl) (by decide +kernel) (by rfl) (by rfl) (by decide +kernel) (by rfl)) (bL (aG az (aG bf (pv 0) aj (fun _ _=>rfl)) (pv 7) (fun _ _=>rfl))) (fun C ex s H=>(aG (yw (K:=K) rfl) (pv 1) (pv 0) (fun _ _=>rfl))))
   (af (au (i:=9) aB.nd rfl (Or.inl rfl) (ar bA (ar eg (ar bA (pv 1) aj) (ar bC (pv 7) aj)) (aw (BK rfl) (by rfl) T.n_max bt_max (aa aj (aa (aw aq (by rfl) T.n_len aU (aa (pv 8) ag)) ag)))))
   (ao (rU (ar op_cat (d9 gy (pv 8) (eQ (pv 9)) jZ) (d9 gy (pv 8) jZ (eQ (pv 9)))) (sh (pv 6) (aG az (pv 2) (pv 7) (fun _ _=>rfl)) jr))))))
   (af (au (i:=10) aB.nd rfl (Or.inl rfl) (bK ag))
   (af (cq PassesOwn.never rfl (bL (aG bf (pv 0) aj (fun _ _=>rfl))) (aX (i:=11) aB.nd rfl (Or.inl rfl)) (ao (bg (gA FF FT FR bq (pv 10) (aa (eR rfl (fr:=[("ties",3)]) (by exact bI.one (by rfl) (by decide +kernel) (by rfl) (by decide +kernel) (by rfl) (by decide +kernel) (by rfl) (by rfl) (by decide +kernel) (by rfl)) (bL (pv 11)) (fun C ex s H=>(ar bC (ar eg aj (aG (yw (K:=K) rfl) (pv 1) (ar cN (pv 0) aj) (fun _ _=>rfl))) (ar bA (pv 0) aj)))) ag)))))
   (ao (aP (ju (aa (pv 4) (aa (pv 6) (aa (pv 10) ag)))))))))))))),?_⟩
 refine⟨_,rfl,_,rfl,t,_,1,_,rfl,rfl,SqT.of ht,at31,pt,xs,rfl,.inl (SqL.of hpt),c,m,(by rw[hxl];rfl),by omega +splitDisjunctions,fun q1 o1 H1 s1 _ h1 l1 n1 b1=>?_⟩
 refine⟨_,rfl,_,_,rfl,rfl,⟨by decide,by decide⟩,_,rfl,t,_,0,_,rfl,rfl,SqT.of (s1 _ _ ht),at30,pe,ys,rfl,.inl (SqL.of (s1 _ _ hpe)),_,es.length,(by rw[hyl];rfl),by omega +splitDisjunctions,fun q2 o2 H2 s2 _ h2' l2 n2 b2=>?_⟩
 have s12:=s1.trans s2
 have R:=ren_of (c:=c) w' l1 n1 b1 l2 n2 b2
 have h1':=s2 _ _ h1
 refine⟨_,rfl,t,_,0,_,rfl,rfl,SqT.of (s12 _ _ ht),at30,pe,ys,rfl,.inl (SqL.of (s12 _ _ hpe)),fun qe hqe=>?_⟩
 have s3:=ak hqe (.lst ys)
 have s13:=s12.trans s3
 have h23:=s3 _ _ h2'
 have h13:=s3 _ _ h1'
 have get1:∀ k,k<m->(o1.map iV)[k]?=some (iV (ofL o1 k)):=fun k hk=>by
  rw[Fg];unfold ofL;rw[E4 (by omega +splitDisjunctions)];rfl
 have get2:∀ k,k<es.length->(o2.map iV)[k]?=some (iV (ofL o2 k)):=fun k hk=>by
  rw[Fg];unfold ofL;rw[E4 (by omega +splitDisjunctions)];rfl
 have hqe0:H qe=none:=by
  cases y:H qe with
  |none=>rfl
  |some o=>rw[s12 _ _ y]at hqe;cases hqe
 refine⟨_,rfl,qe,ys,rfl,.inl (SqL.of ae),_,rfl,by omega +splitDisjunctions,by omega +splitDisjunctions,cz (n:=(ys.length:Int).toNat) (fun i σ H5=>∃ v5 v6 v7 v8 v9 v10 v11 zs,σ = [some (.ref t),some (.int c),some (.ref q1),some (.ref q2),some (.ref qe),v5,v6,v7,v8,v9,v10,v11]/\Same H2 H5/\H5 qe=some (.lst zs)/\zs.length=es.length/\∀(k:Nat)(e:Nat×Nat),k<i->es[k]?=some e->∃ p,zs[ofL o2 k]?=some (.ref p)/\H5 p=some (.tup [iV (ofL o1 e.1),iV (ofL o1 e.2)]))
  ⟨_,_,_,_,_,_,_,ys,rfl,s3,ae,hyl,fun k e z=>absurd z (GL _)⟩ ?_ ?_⟩
 ·rintro i σ H5 hi ⟨v5,v6,v7,v8,v9,v10,v11,zs,rfl,s5,hz,zl,inv⟩
  rw[Fn,hyl]at hi
  have e0:(0:Int)+(i:Int)=(i:Int):=Gy _
  rw[e0]
  have s15:=s12.trans s5
  obtain⟨e,he⟩:∃ e,es[i]?=some e:=⟨_,E4 hi⟩
  obtain⟨p,x1,x2⟩:=(en.mono s15).2 i e he
  obtain⟨a1,a2,_⟩:=w'.ends e (E7 he)
  have b2':=R.si.lt i hi
  refine⟨_,rfl,_,rfl,t,_,0,_,rfl,rfl,SqT.of (s15 _ _ ht),at30,_,rfl,pe,ys,_,_,rfl,rfl,SqL.of (s15 _ _ hpe),ay x1,p,_,0,_,rfl,rfl,SqT.of x2,at0,q1,_,_,_,rfl,rfl,SqL.of (s5 _ _ h1'),ay (get1 _ a1),_,rfl,_,rfl,t,_,0,_,rfl,rfl,SqT.of (s15 _ _ ht),at30,_,rfl,pe,ys,_,_,rfl,rfl,SqL.of (s15 _ _ hpe),ay x1,p,_,1,_,rfl,rfl,SqT.of x2,at1,q1,_,_,_,rfl,rfl,SqL.of (s5 _ _ h1'),ay (get1 _ a2),(by show 2<=sizeLine;decide),fun tt htt=>?_⟩
  have sn:=ak htt (.tup [iV (ofL o1 e.1),iV (ofL o1 e.2)])
  refine⟨_,rfl,_,rfl,_,rfl,q2,_,_,_,rfl,rfl,SqL.of (sn _ _ (s5 _ _ h2')),ay (get2 _ hi),qe,zs,_,ofL o2 i,rfl,rfl,sn _ _ hz,mM (by omega +splitDisjunctions),?_⟩
  refine⟨_,_,_,_,_,_,_,_,rfl,aV (s5.trans sn) hqe _,ae,by rw[FK];exact zl,fun k e' hk hek=>?_⟩
  by_cases z:k=i
  ·subst z
   rw[he]at hek
   cases hek
   exact⟨tt,by rw[FI,if_pos rfl,if_pos (by omega +splitDisjunctions)],by rw[ai (fun z=>by rw[z,hz]at htt;cases htt)];exact ae⟩
  ·obtain⟨p',u1,u2⟩:=inv k e' (by omega +splitDisjunctions) hek
   have hkl:k<es.length:=(E3.mp hek).1
   refine⟨p',by rw[FI,if_neg (fun y=>z (R.si.inj _ _ hkl hi y.symm))];exact u1,?_⟩
   rw[ai (fun z=>by rw[z,hz]at u2;cases u2)]
   exact sn _ _ u2
 rintro σ H5 ⟨v5,v6,v7,v8,v9,v10,v11,zs,rfl,s5,hz,zl,inv⟩
 rw[Fn,hyl]at inv
 have s15:=s12.trans s5
 have enN:da H5 zs (en2 o1 o2 es):=⟨by rw[zl,R.l1],fun j x h=>by
  obtain⟨k,e,rfl,h4,rfl⟩:=R.es' h
  exact inv k e (E3.mp h4).1 h4⟩
 refine⟨_,rfl,t,_,1,_,rfl,rfl,SqT.of (s15 _ _ ht),at31,pt,xs,rfl,.inl (SqL.of (s15 _ _ hpt)),fun qt hqt=>?_⟩
 have s6:=ak hqt (.lst xs)
 have s16:=s15.trans s6
 refine⟨_,rfl,qt,xs,rfl,.inl (SqL.of ae),_,rfl,by omega +splitDisjunctions,by omega +splitDisjunctions,cz (n:=(xs.length:Int).toNat) (fun i σ H7=>∃ v5 v7 v8 v9 v10 v11 ws,σ = [some (.ref t),some (.int c),some (.ref q1),some (.ref q2),some (.ref qe),v5,some (.ref qt),v7,v8,v9,v10,v11]/\Same H5 H7/\H7 qt=some (.lst ws)/\ws.length=m/\∀(p:Nat)(l:List Nat),p<i->ts[p]?=some l->∃ q,ws[ofL o1 p]?=some (.ref q)/\H7 q=some (.lst ((rowN c o2 p l).map iV))/\q≠qt)
  ⟨_,_,_,_,_,_,xs,rfl,s6,ae,hxl,fun k e z=>absurd z (GL _)⟩ ?_ ?_⟩
 ·rintro i σ H7 hi ⟨w5,w7,w8,w9,w10,w11,ws,rfl,s7,hw,wl,inv2⟩
  rw[Fn,hxl]at hi
  have e0:(0:Int)+(i:Int)=(i:Int):=Gy _
  rw[e0]
  have s17:=s15.trans s7
  have s27:=s5.trans s7
  obtain⟨l,hl⟩:∃ l,ts[i]?=some l:=⟨_,E4 (by rw[w'.len];exact hi)⟩
  obtain⟨p,x1,x2⟩:=(tu.mono s17).2 i l hl
  have lpos:=g.rows h2 hl
  have llt:∀ k∈l,k<es.length:=fun k hk=>kK w' hl hk
  have lle:l.length<=es.length:=c7 (w'.nd _ _ hl) llt
  have llen:(l.map iV).length=l.length:=Fc _
  refine⟨_,rfl,t,_,1,_,rfl,rfl,SqT.of (s17 _ _ ht),at31,_,rfl,pt,xs,_,_,rfl,rfl,SqL.of (s17 _ _ hpt),ay x1,p,rfl,⟨_,SqL.of x2⟩,cW (K:=K) (xs:=l.map iV) (fun j zs H8=>H8=H7/\zs=((l.map (ofL o2)).map iV).take j) (by rw[llen];exact F0 (ax (by omega +splitDisjunctions))) ⟨rfl,rfl⟩ (fun j zs H8 _ z=>z.1▸SqL.of x2) ?_ ?_⟩
  ·rintro j x zs H8 hx ⟨rfl,rfl⟩
   rw[Fg]at hx
   obtain⟨k,hk,rfl⟩:=F3.mp hx
   refine⟨_,rfl,_,rfl,q2,_,_,_,rfl,rfl,SqL.of (s27 _ _ h2'),ay (get2 _ (llt k (E7 hk))),rfl,?_⟩
   rw[F2,Fg,Fg,hk]
   rfl
  rintro zs H8 hzl ⟨rfl,rfl⟩ D hD
  rw[llen,FN (by rw[Fc,Fc];exact Ff _)]
  have sD:=ak hD (.lst ((l.map (ofL o2)).map iV))
  have dlen:((l.map (ofL o2)).map iV).length=l.length:=by rw[Fc,Fc]
  have dpos:(0:Int)<(((l.map (ofL o2)).map iV).length:Int):=by omega +splitDisjunctions
  have mx1:(if(((l.map (ofL o2)).map iV).length:Int) > 1 then(((l.map (ofL o2)).map iV).length:Int) else 1)=(((l.map (ofL o2)).map iV).length:Int):=by split<;>omega +splitDisjunctions
  have c0:=Gn c (show(1009:Int)≠0 by decide)
  have c1:=F8 c (show(0:Int)<1009 by decide)
  refine⟨_,rfl,_,_,rfl,rfl,(by show(0:Int)<1009;decide),_,rfl,_,_,rfl,rfl,_,_,rfl,rfl,.inl ⟨by show -(2^64:Int)<c%1009;omega +splitDisjunctions,by show c%1009<(2^64:Int);omega +splitDisjunctions⟩,_,rfl,D,_,rfl,.inl (SqL.of ae),_,_,rfl,_,_,rfl,rfl,(by rw[mx1];exact dpos),?_⟩
  rw[mx1]
  have u0:=Gn (c%1009*((i:Int)+1)) (show(((l.map (ofL o2)).map iV).length:Int)≠0 by omega +splitDisjunctions)
  have u1:=F8 (c%1009*((i:Int)+1)) dpos
  have hcut:c%1009*((i:Int)+1)%(((l.map (ofL o2)).map iV).length:Int)=((cutp c i l.length:Nat):Int):=by
   unfold cutp
   rw[dlen]at u0 ⊢
   exact(Gs u0).symm
  have cle:cutp c i l.length<=((l.map (ofL o2)).map iV).length:=by omega +splitDisjunctions
  refine⟨_,rfl,_,rfl,_,rfl,D,_,rfl,SqL.of ae,fun b1' hb1=>?_⟩
  rw[hcut,cut_hi cle]
  have sB:=ak hb1 (.lst (((l.map (ofL o2)).map iV).drop (cutp c i l.length)))
  refine⟨_,rfl,_,rfl,_,rfl,D,_,rfl,SqL.of (sB _ _ ae),fun b2' hb2=>?_⟩
  rw[hcut,cut_lo cle]
  have sC:=ak hb2 (.lst (((l.map (ofL o2)).map iV).take (cutp c i l.length)))
  refine⟨b1',b2',_,_,rfl,rfl,sC _ _ ae,ae,by rw[FQ,Fw];exact F0 (ax (by omega +splitDisjunctions)),fun b3 hb3=>?_⟩
  have hrow:((l.map (ofL o2)).map iV).drop (cutp c i l.length)++((l.map (ofL o2)).map iV).take (cutp c i l.length)=(rowN c o2 i l).map iV:=by
   unfold rowN
   rw[FH,FH,Hn,Hn,Hm,Hm]
  rw[hrow]
  have sE:=ak hb3 (.lst ((rowN c o2 i l).map iV))
  have sAll:=((sD.trans sB).trans sC).trans sE
  refine⟨_,rfl,_,rfl,_,rfl,q1,_,_,_,rfl,rfl,SqL.of (sAll _ _ (s27 _ _ h1')),ay (get1 _ hi),qt,ws,_,ofL o1 i,rfl,rfl,sAll _ _ hw,mM (by rw[wl];exact R.pi.lt i hi),?_⟩
  have b3t:b3≠qt:=fun z=>by rw[z,((sD.trans sB).trans sC) _ _ hw]at hb3;cases hb3
  refine⟨_,_,_,_,_,_,_,rfl,aV (s7.trans sAll) hqt _,ae,by rw[FK];exact wl,fun p' l' hp' hl'=>?_⟩
  by_cases z:p'=i
  ·subst z
   rw[hl]at hl'
   cases hl'
   exact⟨b3,by rw[FI,if_pos rfl,if_pos (by rw[wl];exact R.pi.lt p' hi)],by rw[ai b3t];exact ae,b3t⟩
  ·obtain⟨q,u1,u2,u3⟩:=inv2 p' l' (by omega +splitDisjunctions) hl'
   have hpl:p'<m:=by rw[← w'.len];exact(E3.mp hl').1
   exact⟨q,by rw[FI,if_neg (fun y=>z (R.pi.inj _ _ hpl hi y.symm))];exact u1,by rw[ai u3];exact sAll _ _ u2,u3⟩
 rintro σ H7 ⟨w5,w7,w8,w9,w10,w11,ws,rfl,s7,hw,wl,inv2⟩
 rw[Fn,hxl]at inv2
 have tuN:ck H7 ws (ts2 c o1 o2 ts):=⟨by rw[wl,R.l2],fun j L h=>by
  have hj:j<m:=by rw[← R.l2];exact(E3.mp h).1
  obtain⟨p,hp,rfl⟩:=R.pi.sur j hj
  obtain⟨l,hl⟩:∃ l,ts[p]?=some l:=⟨_,E4 (by rw[w'.len];exact hp)⟩
  obtain⟨q,z1,z2,_⟩:=inv2 p l hp hl
  refine⟨q,z1,?_⟩
  unfold ts2 at h
  rw[Fg,Hs (by rw[w'.len];exact R.pi.lt p hp)]at h
  have h':some (rowN c o2 (o1.idxOf (ofL o1 p)) ((ts[o1.idxOf (ofL o1 p)]?).getD []))=some L:=h
  rw[Bu n1 (by omega +splitDisjunctions),hl]at h'
  cases h'
  exact z2⟩
 have s17:=s15.trans s7
 refine⟨(by show 0<=sizeLine;decide),fun qr hqr=>?_⟩
 have s8:=ak hqr (.lst [])
 have ru8:=ru.mono (s17.trans s8)
 have ul:us.length=rg.length:=ru.1
 have rgl:rg.length<=es.length+2:=by
  obtain⟨rs,x1,x2⟩:=g.part
  have:=part.same x1
  omega +splitDisjunctions
 have ringp:∀(r:List Nat),r∈rg->r.length<=2*es.length/\∀ d∈r,d<2*es.length:=fun r hr=>⟨c7 (part.cr r hr).nd (part.cr r hr).lt,(part.cr r hr).lt⟩
 have h2s:=s5.trans s7
 refine⟨_,rfl,t,_,2,_,rfl,rfl,SqT.of ((s17.trans s8) _ _ ht),at32,pr,rfl,⟨us,SqL.of ((s17.trans s8) _ _ hpr)⟩,eF (xs:=us) (fun i σ H9=>∃ v5 v7 v8 v9 v11 ws2,σ = [some (.ref t),some (.int c),some (.ref q1),some (.ref q2),some (.ref qe),v5,some (.ref qt),v7,v8,v9,some (.ref qr),v11]/\Same H7 H9/\H9 qr=some (.lst ws2)/\bN (fun p=>p=qr) H9 ws2 ((rg.map (HR (Phi (ofL o2)))).take i))
  ⟨_,_,_,_,_,[],rfl,s8,ae,⟨rfl,fun i l z=>by simp at z⟩⟩ (fun i σ H9 _ ⟨_,_,_,_,_,_,_,z,_⟩=>SqL.of ((s17.trans z) _ _ hpr)) ?_ ?_⟩
 ·rintro i x σ H9 hx ⟨w5',w7',w8',w9',w11',ws2,rfl,s9,hq9,rx9⟩
  have hi:i<rg.length:=by rw[← ul];exact(E3.mp hx).1
  obtain⟨r,hr⟩:∃ r,rg[i]?=some r:=⟨_,E4 hi⟩
  obtain⟨p,x1,x2⟩:=(ru.mono (s17.trans s9)).2 i r hr
  rw[hx]at x1
  cases x1
  obtain⟨rl,rlt⟩:=ringp r (E7 hr)
  have rlen:(r.map iV).length=r.length:=Fc _
  have wsl:ws2.length=i:=by rw[rx9.1,Fw,Fc];omega +splitDisjunctions
  refine⟨_,rfl,.inl ⟨rfl,_,SqL.of hq9⟩,_,rfl,p,rfl,⟨_,SqL.of x2⟩,cW (K:=K) (xs:=r.map iV) (fun j zs H8=>H8=H9/\zs=((r.map (Phi (ofL o2))).map iV).take j) (by rw[rlen];exact F0 (ax (by omega +splitDisjunctions))) ⟨rfl,rfl⟩ (fun j zs H8 _ z=>z.1▸SqL.of x2) ?_ ?_⟩
  ·rintro j x zs H8 hx ⟨rfl,rfl⟩
   rw[Fg]at hx
   obtain⟨d,hd,rfl⟩:=F3.mp hx
   have dl:=rlt d (E7 hd)
   have e2:(d:Int)/2=((d/2:Nat):Int):=by omega +splitDisjunctions
   refine⟨_,rfl,_,rfl,_,_,rfl,rfl,⟨by decide,by decide⟩,q2,_,_,_,rfl,rfl,SqL.of ((h2s.trans s9) _ _ h2'),(by rw[e2];exact ay (get2 _ (by omega +splitDisjunctions))),_,_,rfl,rfl,.inl ⟨by decide,by decide⟩,_,rfl,_,_,rfl,rfl,(by show(0:Int)<2;decide),_,_,rfl,rfl,rfl,?_⟩
   rw[F2,Fg,Fg,hd]
   have:V.int (2*((ofL o2 (d/2):Nat):Int)+(d:Int)%2)=iV (Phi (ofL o2) d):=by
    unfold Phi iV
    congr 1
   simpa[iV] using this
  rintro zs H8 hzl ⟨rfl,rfl⟩ D hD
  rw[rlen,FN (by rw[Fc,Fc];exact Ff _)]
  have sD:=ak hD (.lst ((r.map (Phi (ofL o2))).map iV))
  have Dq:D≠qr:=fun z=>by rw[z,hq9]at hD;cases hD
  refine⟨qr,ws2,_,rfl,rfl,sD _ _ hq9,ax (by omega +splitDisjunctions),?_⟩
  have hqr7:H7 qr=none:=hqr
  refine⟨_,_,_,_,_,_,rfl,aV (s9.trans sD) hqr7 _,ae,?_⟩
  have tk:(rg.map (HR (Phi (ofL o2)))).take (i+1)=(rg.map (HR (Phi (ofL o2)))).take i++[r.map (Phi (ofL o2))]:=by
   rw[F2,Fg,hr]
   rfl
  rw[tk]
  refine bN.mono (bN.snoc (bN.mono rx9 fun b u _ z=>sD _ _ z) Dq ae) fun b u n z=>?_
  rw[ai n]
  exact z
 rintro σ H9 ⟨w5',w7',w8',w9',w11',ws2,rfl,s9,hq9,rx9⟩
 rw[ul,FN (by rw[Fc];exact Ff _)]at rx9
 have s19:=s17.trans s9
 refine⟨_,rfl,_,rfl,_,rfl,(by show 3<=sizeLine;decide),fun t' ht'=>?_⟩
 have sT:=ak ht' (.tup [.ref qe,.ref qt,.ref qr])
 have s79:=s9.trans sT
 exact kk t' qe qt qr (en2 o1 o2 es) (ts2 c o1 o2 ts) _ _ (s19.trans sT) ae ⟨⟨zs,s79 _ _ (s7 _ _ hz),(enN.mono s7).mono s79⟩,⟨ws,s79 _ _ hw,tuN.mono s79⟩,R.gr g⟩ ⟨ws2,sT _ _ hq9,rx9.off.mono sT⟩ (Cd R g part) R.l1
end
end K8
namespace K8
open PySem L2
local macro_rules | `(tactic| walk_at "cc") => `(tactic| first | exact ⟨by decide, by decide⟩ | (show (0 : Int) < _; decide) | (show (0 : Int) < _; omega) | (show (0 : Int) ≤ _; omega) | exact ⟨by decide, by decide, by decide⟩ | exact ⟨by omega, by omega, by decide⟩ | exact Or.inl ⟨by decide, by decide⟩ | exact Or.inl ⟨by omega, by omega⟩)
local macro_rules | `(tactic| walk_at "rd") => `(tactic| repeat (first | refine ⟨_, rfl, ?_⟩ | refine ⟨_, _, rfl, rfl, ?_⟩ | refine ⟨rfl, ?_⟩ | (refine ⟨?cc, ?_⟩; (case cc => walk_at "cc"))))
theorem BB{S:Addr->Prop}{H:Hp}{xs:List V}{ts:List (List Nat)}{q:Addr}(h:bN S H xs ts)(D:Dist xs)(hq:H q=none):Dist (xs++[.ref q]):=by
 have old:∀(j:Nat)(p:Addr),j<xs.length->(xs++[V.ref q])[j]?=some (.ref p)->xs[j]?=some (.ref p)/\p≠q:=fun j p hj e=>by
  rw[E8 hj]at e
  obtain⟨p',a1,_,a3⟩:=h.2 j _ (E4 (by rw[← h.1];exact hj))
  rw[e]at a1
  cases a1
  exact⟨e,aI a3 hq⟩
 have new:∀(j:Nat)(p:Addr),¬ j<xs.length->(xs++[V.ref q])[j]?=some (.ref p)->j=xs.length/\p=q:=fun j p hj e=>by
  have:=(E3.mp e).1
  rw[E5,Fl]at this
  have hj2:j=xs.length:=by omega
  subst hj2
  rw[E9 (Ff _),FA]at e
  cases e
  exact⟨rfl,rfl⟩
 intro j k p e1 e2
 by_cases hj:j<xs.length
 ·obtain⟨u1,u2⟩:=old j p hj e1
  by_cases hk:k<xs.length
  ·exact D j k p u1 (old k p hk e2).1
  ·exact absurd (new k p hk e2).2 u2
 ·obtain⟨u1,u2⟩:=new j p hj e1
  by_cases hk:k<xs.length
  ·exact absurd u2 (old k p hk e2).2
  ·rw[u1,(new k p hk e2).1]
abbrev Kn:=List (Int×Int)
def h7(H:Hp)(ws:List V)(ks:Kn):Prop:=ws.length=ks.length/\∀(i:Nat)(k:Int×Int),ks[i]?=some k->(k.1=0∨k.1=1)/\0<=k.2/\∃ p,ws[i]?=some (.ref p)/\H p=some (.tup [.int k.1,.int k.2])
theorem h7.mono{H H':Hp}{ws:List V}{ks:Kn}(h:h7 H ws ks)(s:Same H H'):h7 H' ws ks:=⟨h.1,fun i k z=>by
 obtain⟨a,b,p,c,d⟩:=h.2 i k z
 exact⟨a,b,p,c,s _ _ d⟩⟩
theorem h7.snoc{H:Hp}{ws:List V}{ks:Kn}{k:Int×Int}{p:Addr}(t:h7 H ws ks)(h:H p=some (.tup [.int k.1,.int k.2]))(h1:k.1=0∨k.1=1)(h2:0<=k.2):h7 H (ws++[.ref p]) (ks++[k]):=by
 refine⟨by rw[E5,E5,t.1];rfl,fun j x ej=>?_⟩
 by_cases hj:j<ks.length
 ·rw[E8 hj]at ej
  obtain⟨u,v,p,a1,a2⟩:=t.2 j x ej
  exact⟨u,v,p,by rw[E8 (by rw[t.1];exact hj)];exact a1,a2⟩
 ·rw[E9 (by omega)]at ej
  have hj2:j=ks.length:=by
   have:=(E3.mp ej).1
   rw[Fl]at this
   omega
  subst hj2
  rw[FA]at ej
  cases ej
  exact⟨h1,h2,p,by rw[← t.1,E9 (Ff _),FA];rfl,h⟩
theorem Gr.two{m:Nat}{es:En}{ts:List (List Nat)}(g:Gr m es ts)(h:0<es.length):2<=m:=by
 obtain⟨a,b,c⟩:=g.w.ends _ (E7 (E4 h))
 omega
def vd(K:E6):Sp:=fun vs H Q _=>∃(a lm:Addr)(n:Nat)(ns Ls:List Int),vs = [.ref a,.int (n:Int),.ref lm]/\SqL K H a (ns.map V.int)/\ns.length<=63/\SqL K H lm (Ls.map V.int)/\0<Ls.length/\Ls.length<1000/\(∀ x∈Ls,1<=x/\x<=10^(30:Int).toNat+1)/\0<n/\n<=100 /\
 ∀(q:Addr)(ws:List V)(ks:Kn)(H':Hp),Same H H'->H' q=some (.lst ws)->h7 H' ws ks->ks.length=n->(∀ k∈ks,k.2<=10^(30:Int).toNat)->Q (.ref q) H'
section
variable{P:Program}{w:World}{K:E6}{mg:Str->Option Value}{base:Heap}
theorem d7:aE ["script","many","limits","limit","totals","k"] ["script","many","limits"] (ah cG):=⟨rfl,rfl,rfl,by decide +kernel,rfl,by decide +kernel,by decide +kernel⟩
theorem CF{f fc:Addr}{fd dc:FuncData} (F:Fun K "_law_kinds" "_law_kinds" cG f fd) (T:Txt mg) (G_law_cell:Cal P w K mg base 1 "_law_cell" ["script","k"] (xX K) fc dc):FnOk P w K mg base CX0 2 f fd ["script","many","limits"] (vd K):=by
 refine F.ok d7 (fun vs H Q E h=>?_) (fun cdv A outer s H vs Q E hr h=>?_)
 ·obtain⟨a,lm,n,ns,Ls,rfl,_⟩:=h
  rfl
 obtain⟨a,lm,n,ns,Ls,rfl,hS,h63,hL,L0,L1,Lb,n0,n100,kk⟩:=h
 have hlen:(ns.map V.int).length=ns.length:=Fc _
 have llen:(Ls.map V.int).length=Ls.length:=Fc _
 have lpos:(0:Int)<((Ls.map V.int).length:Int):=by omega +splitDisjunctions
 refine⟨_,(af (au (i:=3) d7.nd rfl (Or.inl rfl) (aG az (pv 2) (ar bA (aH G_law_cell.ok (hr.mono (by decide)) rfl G_law_cell.mg G_law_cell.kp G_law_cell.bn .nil bh (aa (pv 0) (aa aj ag))) (aw aq (by rfl) T.n_len aU (aa (pv 2) ag))) (fun _ _=>rfl)))
   (af (jX (i:=4) rfl d7.nd rfl rfl (fr:=[]) (by exact bI.plain (by rfl) (by decide +kernel) (by rfl) (by decide +kernel) (by rfl) (by decide +kernel)) (aY rfl T.n_range (aa (pv 1) ag)) (fun C ex s H=>aj))
   (af (cq PassesOwn.never rfl (aY rfl T.n_range (aa (aw aq (by rfl) T.n_len aU (aa (pv 0) ag)) ag)) (aX (i:=5) d7.nd rfl (Or.inl rfl)) (ao (rU (ar bA (ar bC (ar eg (aG az (pv 4) (ar bA (pv 5) (pv 1)) (fun _ _=>rfl)) aj) (aG az (pv 0) (pv 5) (fun _ _=>rfl))) (ar eg aj (pv 3))) (sh (pv 4) (ar bA (pv 5) (pv 1)) jr))))
   (ao (aP (eR rfl (fr:=[]) (by exact bI.plain (by rfl) (by decide +kernel) (by rfl) (by decide +kernel) (by rfl) (by decide +kernel)) (bL (pv 4)) (fun C ex s H=>(ju (aa (ar bA (pv 0) aj) (aa (ar cN (pv 0) aj) ag)))))))))),?_⟩
 obtain⟨i,hi,il⟩:∃ i:Nat,lM ns 1%((Ls.map V.int).length:Int)=(i:Int)/\i<Ls.length:=by
  have h0:=Gn (lM ns 1) (show((Ls.map V.int).length:Int)≠0 by omega +splitDisjunctions)
  have h1:=F8 (lM ns 1) lpos
  exact⟨_,(Gs h0).symm,by omega +splitDisjunctions⟩
 obtain⟨L,hLi⟩:∃ L,Ls[i]?=some L:=⟨_,E4 il⟩
 obtain⟨b1,b2⟩:=Lb L (E7 hLi)
 have lpos2:(0:Int)<2*L:=by omega +splitDisjunctions
 refine⟨_,rfl,_,rfl,a,1,ns,rfl,hS,_,rfl,lm,_,rfl,.inl hL,_,_,rfl,rfl,lpos,lm,_,_,_,rfl,rfl,hL,(by rw[hi];exact ay (v:=.int L) (by rw[Fg,hLi];rfl)),?_⟩
 refine⟨_,rfl,_,rfl,by omega +splitDisjunctions,by omega +splitDisjunctions,fx (n:=(n:Int).toNat) (fun j ys H2=>H2=H/\ys=(GA j (0:Int)).map V.int) (by rw[Fn];exact F0 (ax (by omega +splitDisjunctions))) ⟨rfl,rfl⟩ (fun j ys H2 _ ⟨z1,z2⟩=>?_) ?_⟩
 ·subst z1 z2
  refine⟨rfl,?_⟩
  rw[List.replicate_succ',FH]
  rfl
 rintro ys H2 _ ⟨rfl,rfl⟩ q hq
 rw[Fn]
 have s1:=ak hq (.lst ((GA n (0:Int)).map V.int))
 refine⟨_,rfl,a,_,rfl,.inl (s1.seq hS),_,rfl,by omega +splitDisjunctions,by omega +splitDisjunctions,cz (n:=((ns.map V.int).length:Int).toNat) (fun j σ H3=>∃(v5:Option V)(xs:List Int),σ = [some (.ref a),some (.int (n:Int)),some (.ref lm),some (.int L),some (.ref q),v5]/\Same H2 H3/\H3 q=some (.lst (xs.map V.int))/\xs.length=n/\∀ x∈xs,0<=x/\x<2*L)
  ⟨_,GA n 0,rfl,s1,ae,List.length_replicate,fun x hx=>by rw[List.eq_of_mem_replicate hx];omega +splitDisjunctions⟩ ?_ ?_⟩
 ·rintro j σ H3 hj ⟨v5,xs,rfl,s3,hq3,xl,xb⟩
  rw[Fn,hlen]at hj
  have e0:(0:Int)+(j:Int)=(j:Int):=Gy _
  rw[e0]
  have npos:(0:Int)<(n:Int):=by omega +splitDisjunctions
  have jm:(j:Int)%(n:Int)=((j%n:Nat):Int):=by omega +splitDisjunctions
  have jl:j%n<n:=Nat.mod_lt _ n0
  obtain⟨x,hx⟩:∃ x,xs[j%n]?=some x:=⟨_,E4 (by omega +splitDisjunctions)⟩
  have hxV:(xs.map V.int)[j%n]?=some (.int x):=by rw[Fg,hx];rfl
  have hsV:(ns.map V.int)[j]?=some (.int ns[j]):=by rw[Fg,E4 hj];rfl
  refine⟨_,rfl,_,rfl,_,rfl,_,_,rfl,rfl,npos,q,_,_,_,rfl,rfl,SqL.of hq3,(by rw[jm];exact ay hxV),_,_,rfl,rfl,.inr ⟨by decide,by decide⟩,_,rfl,_,rfl,a,_,_,_,rfl,rfl,s3.seq hS,ay hsV,_,_,rfl,rfl,_,rfl,_,_,rfl,rfl,.inl ⟨by decide,by decide⟩,_,_,rfl,rfl,lpos2,?_⟩
  have xlen:(xs.map V.int).length=xs.length:=Fc _
  refine⟨_,rfl,_,rfl,_,rfl,_,_,rfl,rfl,npos,q,xs.map V.int,_,j%n,rfl,rfl,hq3,(by rw[jm];exact mM (by omega +splitDisjunctions)),?_⟩
  refine⟨_,xs.set (j%n) ((x*5+ns[j])%(2*L)),rfl,aV s3 hq _,?_,by rw[FK];exact xl,fun y hy=>?_⟩
  ·rw[ae,List.map_set]
  ·rcases HB hy with z | z
   ·exact xb y z
   ·rw[z]
    exact⟨Gn _ (by omega +splitDisjunctions),F8 _ lpos2⟩
 rintro σ H3 ⟨v5,xs,rfl,s3,hq3,xl,xb⟩
 have xlen:(xs.map V.int).length=xs.length:=Fc _
 refine⟨_,rfl,q,rfl,⟨_,SqL.of hq3⟩,cW (K:=K) (xs:=xs.map V.int) (fun j zs H4=>Same H3 H4/\∃ ks:Kn,h7 H4 zs ks/\ks.length=j/\∀ k∈ks,k.2<=10^(30:Int).toNat) (by rw[xlen];exact F0 (ax (by omega +splitDisjunctions))) ⟨fun _ _ z=>z,[],⟨rfl,fun i k z=>by simp at z⟩,rfl,fun k z=>nomatch z⟩ (fun j zs H4 _ z=>SqL.of (z.1 _ _ hq3)) ?_ ?_⟩
 ·rintro j v zs H4 hv ⟨s4,ks,tk,kl,kb⟩
  rw[Fg]at hv
  obtain⟨x,hx,rfl⟩:=F3.mp hv
  obtain⟨x0,x1⟩:=xb x (E7 hx)
  refine⟨_,rfl,_,_,rfl,rfl,(by show(0:Int)<2;decide),_,rfl,_,_,rfl,rfl,⟨by decide,by decide⟩,(by show 2<=sizeLine;decide),fun t ht=>?_⟩
  have sn:=ak ht (.tup [.int (x%2),.int (x/2)])
  refine⟨s4.trans sn,ks++[(x%2,x/2)],(tk.mono sn).snoc ae (by show x%2=0∨x%2=1;omega +splitDisjunctions) (by show 0<=x/2;omega +splitDisjunctions),by rw[E5,kl];rfl,fun k hk=>?_⟩
  rcases Fe.mp hk with z | z
  ·exact kb k z
  ·rw[Fp.mp z]
   show x/2<=_
   generalize (10:Int)^(30:Int).toNat=Z at b2 ⊢
   omega +splitDisjunctions
 rintro zs H4 _ ⟨s4,ks,tk,kl,kb⟩ D hD
 have sD:=ak hD (.lst zs)
 exact kk D zs ks _ ((s3.trans s4).trans sD) ae (tk.mono sD) (by rw[kl,xlen,xl]) kb
end
end K8
namespace K8
open PySem L2
local macro_rules | `(tactic| walk_at "cc") => `(tactic| first | exact ⟨by decide, by decide⟩ | (show (0 : Int) < _; decide) | (show (0 : Int) < _; omega) | (show (0 : Int) ≤ _; omega) | exact ⟨by decide, by decide, by decide⟩ | exact ⟨by omega, by omega, by decide⟩ | exact Or.inl ⟨by decide, by decide⟩ | exact Or.inl ⟨by omega, by omega⟩)
local macro_rules | `(tactic| walk_at "rd") => `(tactic| repeat (first | refine ⟨_, rfl, ?_⟩ | refine ⟨_, _, rfl, rfl, ?_⟩ | refine ⟨rfl, ?_⟩ | (refine ⟨?cc, ?_⟩; (case cc => walk_at "cc"))))
theorem andN(a b:Nat):Builtin.bitAnd (a:Int) (b:Int)=((a&&&b:Nat):Int):=by
 rw[PyProof.Rows.bitAnd_pp (Ie _) (Ie _),Fn,Fn]
theorem orN(a b:Nat):Builtin.bitOr (a:Int) (b:Int)=((a|||b:Nat):Int):=by
 rw[PyProof.Rows.bitOr_and,andN]
 have q:=PyProof.Rows.nat_or_add_and a b
 omega
theorem shlN(p:Nat):(1:Int)*2^((p:Nat):Int).toNat=((2^p:Nat):Int):=by
 rw[Int.one_mul,Fn,Int.natCast_pow]
 rfl
theorem B0{M p q:Nat}:(M&&&(2^p|||2^q)=0↔M.testBit p=false/\M.testBit q=false)/\(M|||(2^p|||2^q)=M->M.testBit p=true/\M.testBit q=true):=by
 have b1:∀ i,(2^p|||2^q).testBit i=(decide (p=i)||decide (q=i)):=fun i=>by rw[HX,Nat.testBit_two_pow,Nat.testBit_two_pow]
 refine⟨⟨fun h=>?_,fun⟨h1,h2⟩=>?_⟩,fun h=>?_⟩
 ·have h1:=congrArg (fun z=>Iq z p) h
  have h2:=congrArg (fun z=>Iq z q) h
  simp only[HJ,b1,Ij]at h1 h2
  constructor
  ·simpa using h1
  ·simpa using h2
 ·refine Hj fun i=>?_
  rw[HJ,b1,Ij]
  by_cases z1:p=i
  ·subst z1;rw[h1];rfl
  ·by_cases z2:q=i
   ·subst z2;rw[h2];rfl
   ·simp[z1,z2]
 ·have h1:=congrArg (fun z=>Iq z p) h
  have h2:=congrArg (fun z=>Iq z q) h
  simp only[HX (x:=M),b1]at h1 h2
  constructor
  ·simpa using h1.symm
  ·simpa using h2.symm
theorem Bz{M m:Nat}(h:M<2^m)(k:∀ p,p<m->M.testBit p=true):M=2^m-1:=by
 refine Hj fun i=>?_
 rw[Nat.testBit_two_pow_sub_one]
 by_cases z:i<m
 ·rw[k i z,decide_eq_true z]
 ·rw[decide_eq_false z]
  exact Nat.testBit_lt_two_pow (FP h (Nat.pow_le_pow_right (by decide) (by omega)))
def uZ(K:E6):Sp:=fun vs H Q _=>∃(a:Addr)(ys:List V)(m:Nat)(es:En)(ts:List (List Nat)),vs = [.int 0,.ref a]/\SqL K H a ys/\da H ys es/\Gr m es ts/\2<=m/\m<=40/\Q (.int ((2^m-1:Nat):Int)) H
section
variable{P:Program}{w:World}{K:E6}{mg:Str->Option Value}{base:Heap}
theorem bW:aE ["start","pairs","mask","ahead","one","two","ends"] ["start","pairs"] (ah fe):=⟨rfl,rfl,rfl,by decide +kernel,rfl,by decide +kernel,by decide +kernel⟩
theorem y6{f:Addr}{fd:FuncData} (F:Fun K "reached" "reached" fe f fd):FnOk P w K mg base CX0 1 f fd ["start","pairs"] (uZ K):=by
 refine F.ok bW (fun vs H Q E h=>?_) (fun cdv A outer s H vs Q E hr h=>?_)
 ·obtain⟨a,ys,m,es,ts,rfl,_⟩:=h
  rfl
 obtain⟨a,ys,m,es,ts,rfl,hS,hE,g,m2,m40,kk⟩:=h
 refine⟨_,(af (au (i:=2) bW.nd rfl (Or.inl rfl) (ar kI aj (pv 0)))
   (af (au (i:=3) bW.nd rfl (Or.inl rfl) aj)
   (af (lT PassesOwn.never (aK vN (pv 2) (pv 3) (aR _)) (af (au (i:=3) bW.nd rfl (Or.inl rfl) (pv 2))
   (ao (cq PassesOwn.never rfl (bL (pv 1)) (AL rfl (ik (aX (i:=4) bW.nd rfl (Or.inl rfl)) (ik (aX (i:=5) bW.nd rfl (Or.inl rfl)) vF))) (af (au (i:=6) bW.nd rfl (Or.inl rfl) (ar op_or (ar kI aj (pv 4)) (ar kI aj (pv 5))))
   (ao (cM (aK vN (ar AS (pv 2) (pv 6)) aj (aR _)) (ao (au (i:=2) bW.nd rfl (Or.inl rfl) (ar op_or (pv 2) (pv 6)))) aW)))))))
   (ao (aP (pv 2)))))),?_⟩
 refine⟨_,rfl,_,_,rfl,rfl,⟨by decide,by decide,by decide⟩,?_⟩
 have p2:∀ p,p<m->2^p<2^m:=fun p hp=>Nat.pow_lt_pow_right (by decide) hp
 refine xR (fun σ H2=>∃(M Ah:Nat),∃ v4 v5 v6,H2=H/\σ = [some (.int 0),some (.ref a),some (.int (M:Int)),some (.int (Ah:Int)),v4,v5,v6]/\M.testBit 0=true/\M<2^m/\(M=Ah->∀ e∈es,M.testBit e.1=M.testBit e.2))
  (fun σ _=>match σ with | [_,_,some (.int M),some (.int Ah),_,_,_]=>2*((2^m:Nat)-M).toNat+(if M=Ah then 0 else 1) | _=>0) ⟨1,0,_,_,_,rfl,rfl,by decide,Nat.one_lt_two_pow (by omega),fun z=>absurd z (by decide)⟩ ?_ ?_
 ·rintro σ H2 ⟨M,Ah,v4,v5,v6,rfl,rfl,b0,hM,cl⟩
  refine⟨_,rfl,_,rfl,rfl,_,rfl,?_⟩
  refine ite2 (fun c=>?_) (fun c=>?_)
  ·have c':M≠Ah:=fun z=>by
    rw[decide_eq_true (show V.int (M:Int)=V.int (Ah:Int) by rw[z])]at c
    cases c
   refine⟨_,rfl,?_⟩
   refine⟨_,rfl,a,rfl,⟨_,hS⟩,eF (K:=K) (xs:=ys) (fun i σ H3=>∃(M':Nat),∃ v4 v5 v6,H3=H2/\σ = [some (.int 0),some (.ref a),some (.int (M':Int)),some (.int (M:Int)),v4,v5,v6]/\M'.testBit 0=true/\M'<2^m/\M<=M'/\(M'=M->∀(j:Nat)(e:Nat×Nat),j<i->es[j]?=some e->M.testBit e.1=M.testBit e.2)) ⟨M,_,_,_,rfl,rfl,b0,hM,Ff _,fun _ j e z=>absurd z (GL _)⟩ (fun i σ H3 _ ⟨_,_,_,_,z,_⟩=>z▸hS) ?_ ?_⟩
   ·rintro i x σ H3 hx ⟨M',v4,v5,v6,rfl,rfl,b0',hM',hle,cl'⟩
    have hi:i<es.length:=by rw[← hE.1];exact(E3.mp hx).1
    obtain⟨e,he⟩:∃ e,es[i]?=some e:=⟨_,E4 hi⟩
    obtain⟨p,x1,x2⟩:=hE.2 i e he
    rw[hx]at x1
    cases x1
    obtain⟨e1,e2,_⟩:=g.w.ends e (E7 he)
    obtain⟨t1,t2⟩:=B0 (M:=M') (p:=e.1) (q:=e.2)
    refine⟨p,_,rfl,SqT.of x2,rfl,_,_,rfl,_,_,rfl,rfl,?_⟩
    refine⟨_,rfl,_,_,rfl,rfl,⟨by omega,by omega,by decide⟩,_,rfl,_,_,rfl,rfl,⟨by omega,by omega,by decide⟩,_,_,rfl,rfl,?_⟩
    have eo:Builtin.bitOr (1*2^((e.1:Nat):Int).toNat) (1*2^((e.2:Nat):Int).toNat)=((2^e.1|||2^e.2:Nat):Int):=by rw[shlN,shlN,orN]
    refine⟨_,rfl,_,rfl,_,_,rfl,rfl,rfl,_,rfl,?_⟩
    have step:∀ M'':Nat,M'<=M''->(M''=M'->M'.testBit e.1=M'.testBit e.2)->M''=M->∀(j:Nat)(x:Nat×Nat),j<i+1->es[j]?=some x->M.testBit x.1=M.testBit x.2:=fun M'' h1 h2 h3 j x hj hx'=>by
     have e3:M'=M:=by omega
     by_cases z:j=i
     ·subst z
      rw[he]at hx'
      cases hx'
      have:=h2 (by omega)
      rwa[e3]at this
     ·exact cl' e3 j x (by omega) hx'
    refine ite2 (fun c=>?_) (fun c=>?_)
    ·refine⟨_,rfl,_,rfl,_,_,rfl,rfl,?_⟩
     refine⟨M'|||(2^e.1|||2^e.2),some (iV e.1),some (iV e.2),some (V.int (Builtin.bitOr (1*2^((e.1:Nat):Int).toNat) (1*2^((e.2:Nat):Int).toNat))),rfl,?_,?_,Nat.or_lt_two_pow hM' (Nat.or_lt_two_pow (p2 _ e1) (p2 _ e2)),F4 hle Nat.left_le_or,step _ Nat.left_le_or fun z=>?_⟩
     ·show[some (V.int 0),some (V.ref a),some (V.int (Builtin.bitOr (M':Int) (Builtin.bitOr (1*2^((e.1:Nat):Int).toNat) (1*2^((e.2:Nat):Int).toNat)))),some (V.int (M:Int)),some (iV e.1),some (iV e.2),some (V.int (Builtin.bitOr (1*2^((e.1:Nat):Int).toNat) (1*2^((e.2:Nat):Int).toNat)))]=_
      rw[eo,orN]
     ·rw[HX,b0'];rfl
     ·obtain⟨u1,u2⟩:=t2 z
      rw[u1,u2]
    ·refine⟨M',_,_,_,rfl,rfl,b0',hM',hle,step M' (Ff _) fun _=>?_⟩
     have c3:M'&&&(2^e.1|||2^e.2)=0:=by
      by_cases z:M'&&&(2^e.1|||2^e.2)=0
      ·exact z
      ·refine absurd ?_ c
       rw[decide_eq_false (fun y=>z ?_)]
       ·rfl
       ·have y':=V.int.inj y
        rw[eo,andN]at y'
        omega
     obtain⟨u1,u2⟩:=t1.mp c3
     rw[u1,u2]
   ·rintro σ H3 ⟨M',v4,v5,v6,rfl,rfl,b0',hM',hle,cl'⟩
    rw[hE.1]at cl'
    refine⟨⟨M',M,_,_,_,rfl,rfl,b0',hM',fun z e he=>?_⟩,?_⟩
    ·obtain⟨j,hj⟩:=FU.mp he
     have:=cl' z j e (E3.mp hj).1 hj
     rw[z]
     exact this
    ·show 2*(((2^m:Nat):Int)-(M':Int)).toNat+(if(M':Int)=(M:Int) then 0 else 1)<2*(((2^m:Nat):Int)-(M:Int)).toNat+(if(M:Int)=(Ah:Int) then 0 else 1)
     rw[if_neg (show ¬ (M:Int)=(Ah:Int) from fun z=>c' (by omega))]
     have hMi:(M':Int)<((2^m:Nat):Int):=by exact_mod_cast hM'
     have hMj:(M:Int)<=(M':Int):=by omega
     generalize ((2^m:Nat):Int)=Z at hMi ⊢
     split<;>omega
  ·have c':M=Ah:=by
    by_cases z:M=Ah
    ·exact z
    ·exact absurd (by rw[decide_eq_false (fun y=>z (by have:=V.int.inj y;omega))];rfl) c
   have full:=Bz hM fun p hp=>by
    have:=g.conn (fun x=>M.testBit x=true) (fun e he=>by rw[cl c' e he]) 0 p (by omega) hp b0
    exact this
   refine⟨_,rfl,?_⟩
   rw[full]
   exact kk
 ·rintro σ H2 Q1 Q2 hi ⟨v',e,b',e2,z1,c',e3,q'⟩
  exact⟨v',e,b',e2,z1,c',e3,hi _ _ q'⟩
end
end K8
namespace K8
open PySem L2
local macro_rules | `(tactic| walk_at "cc") => `(tactic| first | exact ⟨by decide, by decide⟩ | (show (0 : Int) < _; decide) | (show (0 : Int) < _; omega) | (show (0 : Int) ≤ _; omega) | exact ⟨by decide, by decide, by decide⟩ | exact ⟨by omega, by omega, by decide⟩ | exact Or.inl ⟨by decide, by decide⟩ | exact Or.inl ⟨by omega, by omega⟩)
local macro_rules | `(tactic| walk_at "rd") => `(tactic| repeat (first | refine ⟨_, rfl, ?_⟩ | refine ⟨_, _, rfl, rfl, ?_⟩ | refine ⟨rfl, ?_⟩ | (refine ⟨?cc, ?_⟩; (case cc => walk_at "cc"))))
theorem oi:∀{a b:List Int},a.Perm b->a.Pairwise (·<=·)->b.Pairwise (·<=·)->a=b
 |[],b,h,_,_=>(List.nil_perm.mp h).symm▸rfl
 |x::a,[],h,_,_=>absurd h.length_eq (by simp)
 |x::a,y::b,h,pa,pb=>by
  obtain⟨a1,a2⟩:=Ib.mp pa
  obtain⟨b1,b2⟩:=Ib.mp pb
  have h1:x<=y:=by
   rcases Fb.mp (h.mem_iff.mpr (Fi ..):y∈x::a)with z | z
   ·rw[z];exact GO _
   ·exact a1 y z
  have h2:y<=x:=by
   rcases Fb.mp (h.mem_iff.mp (Fi ..):x∈y::b)with z | z
   ·rw[z];exact GO _
   ·exact b1 x z
  have e:x=y:=Int.le_antisymm h1 h2
  subst e
  rw[oi (List.Perm.cons_inv h) a2 b2]
def cI(l:List Nat):List Int:=l.map fun(p:Nat)=>((p:Nat):Int)
theorem cI_V(l:List Nat):(cI l).map V.int=l.map iV:=by unfold cI;rw[G0];rfl
theorem DV{l r:List Nat}{out:List Int}(hp:out.Perm (cI l))(hs:out.Pairwise (·<=·))(nl:l.Nodup)(pr:r.Pairwise (· < ·))(hm:∀ t,t∈l↔t∈r):out=cI r:=by
 have nr:r.Nodup:=pr.imp fun h=>FG h
 have q:(cI l).Perm (cI r):=((G7 nl nr).mpr hm).map _
 refine oi (hp.trans q) hs ?_
 unfold cI
 exact List.Pairwise.map _ (fun a b h=>by omega) pr
theorem Bt{l:List Nat}{n:Nat}:ins l l.length n=l++[n]:=by
 unfold ins
 rw[Gp,List.drop_length]
def u5(K:E6):Sp:=fun vs H Q _=>∃(a:Addr)(xs:List V)(m:Nat)(es:En),vs = [.int (m:Int),.ref a]/\SqL K H a xs/\c9 K H xs es/\(∀ e∈es,e.1<m/\e.2<m)/\Q .non H
def oW(K:E6):Sp:=fun vs H Q _=>∃(a b:Addr)(xs zs:List V)(m:Nat)(es:En)(ts:List (List Nat)),vs = [.int (m:Int),.ref a,.ref b]/\SqL K H a xs/\c9 K H xs es/\SqL K H b zs/\ck H zs ts/\bx m es ts/\es.length<=30/\m<=40/\∀ H',Same H H'->Q .non H'
def u4(K:E6):Sp:=fun vs H Q _=>∃(a:Addr)(xs:List V)(m:Nat)(es:En)(ts:List (List Nat)),vs = [.int (m:Int),.ref a]/\SqL K H a xs/\c9 K H xs es/\Gr m es ts/\2<=m/\m<=40/\es.length<=30/\∀ H',Same H H'->Q .non H'
section
variable{P:Program}{w:World}{K:E6}{mg:Str->Option Value}{base:Heap}
theorem iG:aE ["many","ties","tie"] ["many","ties"] (ah bJ):=⟨rfl,rfl,rfl,by decide +kernel,rfl,by decide +kernel,by decide +kernel⟩
theorem CB{f:Addr}{fd:FuncData} (F:Fun K "refuse_ends" "refuse_ends" bJ f fd):FnOk P w K mg base CX0 1 f fd ["many","ties"] (u5 K):=by
 refine F.ok iG (fun vs H Q E h=>?_) (fun cdv A outer s H vs Q E hr h=>?_)
 ·obtain⟨a,xs,m,es,rfl,_⟩:=h
  rfl
 obtain⟨a,xs,m,es,rfl,hS,hT,hm,k⟩:=h
 refine⟨_,(ao (cq PassesOwn.never rfl (bL (pv 1)) (aX (i:=2) iG.nd rfl (Or.inl rfl)) (ao (cM (PW.pt (AF (aK Ct (dH (pv 2) rfl) (pv 0) (aR _)) (xZ (aK Ct (dH (pv 2) rfl) (pv 0) (aR _))))) (ao d8) aW)))),?_⟩
 refine⟨_,rfl,a,rfl,⟨_,hS⟩,eF (K:=K) (xs:=xs) (fun i σ H2=>∃ v2,σ = [some (.int (m:Int)),some (.ref a),v2]/\H2=H) ⟨_,rfl,rfl⟩ (fun i σ H2 _ ⟨_,_,z⟩=>z▸hS) ?_ ?_⟩
 ·rintro i x σ H2 hx ⟨v2,rfl,rfl⟩
  have hi:i<es.length:=by rw[← hT.1];exact(E3.mp hx).1
  obtain⟨e,he⟩:∃ e,es[i]?=some e:=⟨_,E4 hi⟩
  obtain⟨p,C,dx,st,x1,x2,x3⟩:=hT.2 i e he
  rw[hx]at x1
  cases x1
  obtain⟨e1,e2⟩:=hm e (E7 he)
  refine⟨_,rfl,p,C,dx,_,_,rfl,x2,x3.cl,x3.n1,l6 _ _ _,_,rfl,_,_,rfl,rfl,_,rfl,?_⟩
  refine ite2 (fun c=>absurd (of_decide_eq_true c) (by omega)) (fun _=>?_)
  refine⟨_,rfl,p,C,dx,_,_,rfl,x2,x3.cl,x3.n2,rm _ _ _,_,rfl,_,_,rfl,rfl,_,rfl,?_⟩
  refine ite2 (fun c=>absurd (of_decide_eq_true c) (by omega)) (fun _=>?_)
  exact⟨_,rfl,rfl⟩
 ·rintro σ H2 ⟨v2,rfl,rfl⟩
  exact k
theorem cp:aE ["many","ties","turns","ending","number","tie"] ["many","ties","turns"] (ah bz):=⟨rfl,rfl,rfl,by decide +kernel,rfl,by decide +kernel,by decide +kernel⟩
theorem AX{f:Addr}{fd:FuncData} (F:Fun K "refuse_turns" "refuse_turns" bz f fd) (T:Txt mg):FnOk P w K mg base CX0 1 f fd ["many","ties","turns"] (oW K):=by
 refine F.ok cp (fun vs H Q E h=>?_) (fun cdv A outer s H vs Q E hr h=>?_)
 ·obtain⟨a,b,xs,zs,m,es,ts,rfl,_⟩:=h
  rfl
 obtain⟨a,b,xs,zs,m,es,ts,rfl,hS,hT,hB,hR,w',few,m40,kk⟩:=h
 have hu64:=hr.units
 refine⟨_,(af (jX (i:=3) rfl cp.nd rfl rfl (fr:=[]) (by exact bI.plain (by rfl) (by decide +kernel) (by rfl) (by decide +kernel) (by rfl) (by decide +kernel)) (aY rfl T.n_range (aa (pv 0) ag)) (fun C ex s H=>(bK ag)))
   (af (cq PassesOwn.never rfl (AK rfl T.n_enumerate (aa (pv 1) ag)) (AL rfl (ik (aX (i:=4) cp.nd rfl (Or.inl rfl)) (ik (aX (i:=5) cp.nd rfl (Or.inl rfl)) vF))) (af (bg (gA FF FT FR bq (aG az (pv 3) (dH (pv 5) rfl) (fun _ _=>rfl)) (aa (pv 4) ag)))
   (ao (bg (gA FF FT FR bq (aG az (pv 3) (dH (pv 5) rfl) (fun _ _=>rfl)) (aa (pv 4) ag))))))
   (ao (cM (aK (op_neD hu64) (eR rfl (fr:=[]) (by exact bI.plain (by rfl) (by decide +kernel) (by rfl) (by decide +kernel) (by rfl) (by decide +kernel)) (bL (pv 2)) (fun C ex s H=>(aw (ug (K:=K) rfl) (by rfl) T.n_sorted uh (aa (pv 0) ag)))) (pv 3) (aR _)) (ao d8) aW)))),?_⟩
 refine⟨_,rfl,_,rfl,by omega,by omega,fx (n:=(m:Int).toNat) (fun i ys H2=>Same H H2/\bN (fun p=>H p≠none) H2 ys (GA i [])/\Dist ys) (by rw[Fn];exact F0 (ax (by omega))) ⟨fun _ _ e=>e,⟨rfl,fun i l e=>by simp at e⟩,fun i j p e=>by simp at e⟩ ?_ ?_⟩
 ·rintro i ys H2 hi ⟨s2,rx,D⟩
  refine⟨(by show 0<=sizeLine;decide),fun l hl=>?_⟩
  have s3:=ak hl (.lst [])
  refine⟨s2.trans s3,?_,BB rx D hl⟩
  rw[List.replicate_succ']
  refine(rx.mono fun b u _ z=>s3 _ _ z).snoc (fun z=>z ?_) ae
  cases y:H l with
  |none=>rfl
  |some o=>rw[s2 _ _ y]at hl;cases hl
 rintro ys H2 hyl ⟨s2,rx,D⟩ pn hpn
 rw[Fn]at rx
 have s3:=ak hpn (.lst ys)
 have hpn0:H pn=none:=by
  cases y:H pn with
  |none=>rfl
  |some o=>rw[s2 _ _ y]at hpn;cases hpn
 have rx3:bN (fun p=>p=pn∨H p≠none) (upd H2 pn (.lst ys)) ys (GA m []):=⟨rx.1,fun i l z=>by
  obtain⟨p,a1,a2,a3⟩:=rx.2 i l z
  have n2:p≠pn:=aI a3 hpn
  exact⟨p,a1,by rintro(y | y);exact n2 y;exact a2 y,s3 _ _ a3⟩⟩
 refine⟨_,rfl,a,rfl,⟨_,(s2.trans s3).seq hS⟩,yx (K:=K) (xs:=xs) (fun i σ H5=>∃ v4 v5 rows,σ = [some (.int (m:Int)),some (.ref a),some (.ref b),some (.ref pn),v4,v5]/\Same H H5/\H5 pn=some (.lst ys)/\bN (fun p=>p=pn∨H p≠none) H5 ys rows/\bx m (es.take i) rows/\∀ r∈rows,r.Pairwise (· < ·))
  ⟨_,_,_,rfl,s2.trans s3,ae,rx3,B3 m,fun r hr=>by rw[(List.mem_replicate.mp hr).2];exact Ii⟩ (fun i σ H5 _ ⟨_,_,_,_,z,_⟩=>z.seq hS) ?_ ?_⟩
 ·rintro i x σ H5 T2 hx ⟨v4,v5,rows,rfl,s5,hpn5,rx5,w5,pw⟩ hT2
  have hi:i<es.length:=by rw[← hT.1];exact(E3.mp hx).1
  obtain⟨e,he⟩:∃ e,es[i]?=some e:=⟨_,E4 hi⟩
  obtain⟨p,C,dx,st,x1,x2,x3⟩:=hT.2 i e he
  rw[hx]at x1
  cases x1
  have sT:=ak hT2 (.tup [.int (i:Int),.ref p])
  have s6:=s5.trans sT
  have x6:=s6 _ _ x2
  obtain⟨e1,e2,e3⟩:=w'.ends e (E7 he)
  have til:(es.take i).length=i:=by rw[Fw];omega
  have rlen:=w5.len
  obtain⟨l,hl⟩:∃ l,rows[e.1]?=some l:=⟨_,E4 (by omega)⟩
  obtain⟨l',hl'⟩:∃ l,rows[e.2]?=some l:=⟨_,E4 (by omega)⟩
  have rx6:bN (fun p=>p=pn∨H p≠none) (upd H5 T2 (.tup [.int (i:Int),.ref p])) ys rows:=rx5.mono fun b u _ z=>sT _ _ z
  obtain⟨p1,y1,y2,y3⟩:=rx6.2 _ _ hl
  obtain⟨p2,z1,z2,z3⟩:=rx6.2 _ _ hl'
  have no_S:∀{p:Addr},¬ (p=pn∨H p≠none)->H p=none/\p≠pn:=fun{p} n=>by
   refine⟨?_,fun z=>n (.inl z)⟩
   cases y:H p with
   |none=>rfl
   |some o=>exact absurd (.inr (by rw[y];exact fun z=>nomatch z)) n
  obtain⟨hp1,np1⟩:=no_S y2
  obtain⟨hp2,np2⟩:=no_S z2
  have n12:p2≠p1:=fun y=>by rw[y]at z1;exact e3 (D _ _ p1 y1 z1)
  have ll:∀{q:Nat}{r:List Nat},rows[q]?=some r->∀ t∈r,t<i:=fun{q r} h t ht=>by
   have:=kK w5 h ht
   omega
  have lle:∀{q:Nat}{r:List Nat},rows[q]?=some r->r.length<=30:=fun{q r} h=>by
   have:=c7 (w5.nd _ _ h) (ll h)
   omega
  have f1:=lle hl
  have f2:=lle hl'
  have hpn6:=sT _ _ hpn5
  refine⟨T2,_,rfl,SqT.of ae,rfl,_,_,rfl,_,_,rfl,rfl,?_⟩
  refine⟨_,rfl,_,rfl,p,C,dx,_,_,rfl,x6,x3.cl,x3.n1,l6 _ _ _,pn,ys,_,_,rfl,rfl,SqL.of hpn6,ay y1,.inl ⟨rfl,_,SqL.of y3⟩,_,rfl,p1,_,_,rfl,rfl,y3,ax (by rw[Fc];omega),?_⟩
  have e1':(l.map iV)++[V.int (i:Int)]=(l++[i]).map iV:=by rw[FH];rfl
  rw[e1']
  have x7:(upd (upd H5 T2 (.tup [.int (i:Int),.ref p])) p1 (.lst ((l++[i]).map iV))) p=some (.ins C dx (tf (e.1:Int) (e.2:Int) st)):=by rw[ai (fun z=>by rw[z]at x2;rw[x2]at hp1;cases hp1)];exact x6
  have hpn7:(upd (upd H5 T2 (.tup [.int (i:Int),.ref p])) p1 (.lst ((l++[i]).map iV))) pn=some (.lst ys):=by rw[ai np1.symm];exact hpn6
  have z7:(upd (upd H5 T2 (.tup [.int (i:Int),.ref p])) p1 (.lst ((l++[i]).map iV))) p2=some (.lst (l'.map iV)):=by rw[ai n12];exact z3
  refine⟨_,rfl,_,rfl,p,C,dx,_,_,rfl,x7,x3.cl,x3.n2,rm _ _ _,pn,ys,_,_,rfl,rfl,SqL.of hpn7,ay z1,.inl ⟨rfl,_,SqL.of z7⟩,_,rfl,p2,_,_,rfl,rfl,z7,ax (by rw[Fc];omega),?_⟩
  have e2':(l'.map iV)++[V.int (i:Int)]=(l'++[i]).map iV:=by rw[FH];rfl
  rw[e2']
  refine⟨_,_,(rows.set e.1 (l++[i])).set e.2 (l'++[i]),rfl,aV (aV s6 hp1 _) hp2 _,by rw[ai np2.symm];exact hpn7,(rx6.set D y1).set D z1,?_,fun r hr=>?_⟩
  ·have q:=w5.put (k:=l.length) (j:=l'.length) e1 e2 e3 hl hl'
   rw[Bt,Bt,til]at q
   rw[F2,he]
   exact q
  ·have app:∀{q:Nat}{r:List Nat},rows[q]?=some r->(r++[i]).Pairwise (· < ·):=fun{q r} h=>F1.mpr ⟨pw r (E7 h),HG _ _,fun x hx y hy=>by
    have:=ll h x hx
    have:y=i:=by simpa using hy
    omega⟩
   rcases HB hr with z | z
   ·rcases HB z with z | z
    ·exact pw r z
    ·rw[z];exact app hl
   ·rw[z];exact app hl'
 rintro σ H5 ⟨v4,v5,rows,rfl,s5,hpn5,rx5,w5,pw⟩
 rw[hT.1,Gp]at w5
 have hzl:zs.length=m:=by rw[hR.1,w'.len]
 refine⟨_,rfl,b,rfl,⟨_,s5.seq hB⟩,cW (K:=K) (xs:=zs) (fun i vs H6=>Same H5 H6/\ck H6 vs (rows.take i)) (F0 (ax (by omega))) ⟨fun _ _ e=>e,rfl,fun i l e=>by simp at e⟩ (fun i vs H6 _ z=>(s5.trans z.1).seq hB) ?_ ?_⟩
 ·rintro i x vs H6 hx ⟨s6,rz⟩
  have hi:i<ts.length:=by rw[← hR.1];exact(E3.mp hx).1
  obtain⟨l,hl⟩:∃ l,ts[i]?=some l:=⟨_,E4 hi⟩
  obtain⟨r,hr'⟩:∃ r,rows[i]?=some r:=⟨_,E4 (by rw[w5.len,← w'.len];exact hi)⟩
  obtain⟨p,a1,a2⟩:=(hR.mono (s5.trans s6)).2 i l hl
  rw[hx]at a1
  cases a1
  have hll:l.length<=30:=F4 (c7 (w'.nd _ _ hl) fun t ht=>kK w' hl ht) few
  refine⟨_,rfl,p,cI l,rfl,(by rw[cI_V];exact SqL.of a2),(by unfold cI;rw[Fc];omega),fun q out hq hp hs=>?_⟩
  have eo:=DV hp hs (w'.nd _ _ hl) (pw r (E7 hr')) fun t=>(w'.mem i l hl t).trans (w5.mem i r hr' t).symm
  subst eo
  have s7:=ak hq (.lst ((cI r).map V.int))
  refine⟨s6.trans s7,?_⟩
  rw[show rows.take (i+1)=rows.take i++[r] by rw[F2,hr'];rfl]
  exact(rz.mono s7).snoc (by rw[ae,cI_V])
 rintro vs H6 _ ⟨s6,rz⟩ D' hD'
 rw[hzl,← w5.len,Gp]at rz
 have s7:=ak hD' (.lst vs)
 have s67:=s6.trans s7
 refine⟨_,rfl,_,AD (SqL.of ae) (rz.mono s7),AD (SqL.of (s67 _ _ hpn5)) (rx5.off.mono s67),vv rows,_,rfl,iteF ?_⟩
 exact kk _ (s5.trans s67)
theorem ly:aE ["many","ties"] ["many","ties"] (ah bo):=⟨rfl,rfl,rfl,by decide +kernel,rfl,by decide +kernel,by decide +kernel⟩
theorem CA{f fr:Addr}{fd fdr:FuncData} (F:Fun K "refuse_parted" "refuse_parted" bo f fd) (G_reached:Cal P w K mg base 1 "reached" ["start","pairs"] (uZ K) fr fdr):FnOk P w K mg base CX0 2 f fd ["many","ties"] (u4 K):=by
 refine F.ok ly (fun vs H Q E h=>?_) (fun cdv A outer s H vs Q E hr h=>?_)
 ·obtain⟨a,xs,m,es,ts,rfl,_⟩:=h
  rfl
 obtain⟨a,xs,m,es,ts,rfl,hS,hT,g,m2,m40,few,kk⟩:=h
 have hul:xs.length=es.length:=hT.1
 refine⟨_,(ao (cM (aK vN (aH G_reached.ok (hr.mono (by decide)) rfl G_reached.mg G_reached.kp G_reached.bn .nil bh (aa aj (aa (eR rfl (fr:=[]) (by exact bI.plain (by rfl) (by decide +kernel) (by rfl) (by decide +kernel) (by rfl) (by decide +kernel)) (bL (pv 1)) (fun C ex s H=>(ju (aa (AN (K:=K) rfl (pv 0) rfl) (aa (AN (K:=K) rfl (pv 0) rfl) ag))))) ag))) (ar oq (ar kI aj (pv 0)) aj) (aR _)) (ao d8) aW)),?_⟩
 refine⟨_,rfl,a,rfl,⟨_,hS⟩,cW (K:=K) (xs:=xs) (fun i zs H11=>Same H H11/\da H11 zs (es.take i)) (F0 (ax (by omega))) ⟨fun _ _ e=>e,rfl,fun i l e=>by simp at e⟩ (fun i zs H11 _ z=>z.1.seq hS) ?_ ?_⟩
 ·rintro i x zs H11 hx ⟨s11,ez⟩
  have hi:i<es.length:=by rw[← hT.1];exact(E3.mp hx).1
  obtain⟨e,he⟩:∃ e,es[i]?=some e:=⟨_,E4 hi⟩
  obtain⟨p,C,dx,st,a1,a2,a3⟩:=(hT.mono s11).2 i e he
  rw[hx]at a1
  cases a1
  refine⟨_,rfl,p,C,dx,_,_,rfl,a2,a3.cl,a3.n1,l6 _ _ _,_,rfl,p,C,dx,_,_,rfl,a2,a3.cl,a3.n2,rm _ _ _,(by show 2<=sizeLine;decide),fun g hg=>?_⟩
  have s12:=ak hg (.tup [iV e.1,iV e.2])
  refine⟨s11.trans s12,?_⟩
  rw[show es.take (i+1)=es.take i++[e] by rw[F2,he];rfl]
  exact(ez.mono s12).snoc ae
 rintro zs H11 _ ⟨s11,ez⟩ D hD
 rw[hT.1,Gp]at ez
 have s12:=ak hD (.lst zs)
 refine⟨D,zs,m,es,ts,rfl,SqL.of ae,ez.mono s12,g,m2,m40,_,rfl,_,_,rfl,rfl,⟨by omega,by omega,by decide⟩,_,_,rfl,rfl,rfl,_,rfl,?_⟩
 refine iteNS ?_ (kk _ (s11.trans s12))
 show V.int _=V.int _
 rw[shlN]
 have:=Nat.two_pow_pos m
 congr 1
 omega
end
end K8
namespace K8
open PySem L2
local macro_rules | `(tactic| walk_at "cc") => `(tactic| first | exact ⟨by decide, by decide⟩ | (show (0 : Int) < _; decide) | (show (0 : Int) < _; omega) | (show (0 : Int) ≤ _; omega) | exact ⟨by decide, by decide, by decide⟩ | exact ⟨by omega, by omega, by decide⟩ | exact Or.inl ⟨by decide, by decide⟩ | exact Or.inl ⟨by omega, by omega⟩)
local macro_rules | `(tactic| walk_at "rd") => `(tactic| repeat (first | refine ⟨_, rfl, ?_⟩ | refine ⟨_, _, rfl, rfl, ?_⟩ | refine ⟨rfl, ?_⟩ | (refine ⟨?cc, ?_⟩; (case cc => walk_at "cc"))))
def cls(PL PS:Addr)(push:Bool):Addr:=if push=true then PS else PL
def rf(PL PS:Addr)(H:Hp)(xs:List V)(es:En)(ks:Kn):Prop:=xs.length=es.length/\∀(i:Nat)(e:Nat×Nat)(k:Int×Int),es[i]?=some e->ks[i]?=some k->∃ p dx,xs[i]?=some (.ref p)/\H p=some (.ins (cls PL PS (decide (k.1=1))) dx (tf (e.1:Int) (e.2:Int) k.2))
theorem rf.mono{PL PS:Addr}{H H':Hp}{xs:List V}{es:En}{ks:Kn}(t:rf PL PS H xs es ks)(h:Same H H'):rf PL PS H' xs es ks:=⟨t.1,fun i e k q r=>by
 obtain⟨p,dx,a,b⟩:=t.2 i e k q r
 exact⟨p,dx,a,h _ _ b⟩⟩
structure CW(K:E6)(C:Addr):Prop where
 cl:Cls K C
 n1:eP K C "many"
 n2:eP K C "ties"
 n3:eP K C "turns"
 n4:eP K C "rounds"
 n5:eP K C "sides"
theorem ij(k:Str)(v:V):∀ fs:List (Str×V),(putF k v fs).length<=fs.length+1
 |[]=>Ff _
 | (a,b)::r=>by
  show(if a=k then(a,v)::r else(a,b)::putF k v r).length<=_
  have:=ij k v r
  split<;>simp only[FV]<;>omega
theorem none_of{H H':Hp}{b:Addr}(s:Same H H')(z:H' b=none):H b=none:=by
 cases y:H b with
 |none=>rfl
 |some o=>rw[s _ _ y]at z;cases z
structure WebG(S:Addr->Prop)(H:Hp)(fs:List (Str×V))(m:Nat)(es:En)(ts rs:List (List Nat)):Prop where
 many:fs.lookup ("many" : Str)=some (.int (m:Int))
 turns:∃ q z,fs.lookup ("turns" : Str)=some (.ref q)/\¬ S q/\H q=some (.lst z)/\bN S H z ts
 rounds:∃ q z,fs.lookup ("rounds" : Str)=some (.ref q)/\H q=some (.lst z)/\ck H z rs
 sides:∃ q z,fs.lookup ("sides" : Str)=some (.ref q)/\H q=some (.lst z)/\kG H z es.length rs
 part:dZ (fol es ts) (2*es.length) (2*es.length) rs
theorem kG.mono{H H':Hp}{z:List V}{n:Nat}{rs:List (List Nat)}(h:kG H z n rs)(s:Same H H'):kG H' z n rs:=⟨h.1,fun i hi=>by
 obtain⟨t,a,b,r,r',y1,y2,y3⟩:=h.2 i hi
 exact⟨t,a,b,r,r',y1,s _ _ y2,y3⟩⟩
theorem WebG.mono{S S':Addr->Prop}{H H':Hp}{fs:List (Str×V)}{m:Nat}{es:En}{ts rs:List (List Nat)}(h:WebG S H fs m es ts rs)(s:Same H H')(i:∀ a,S' a->S a):WebG S' H' fs m es ts rs:=by
 obtain⟨a,⟨q,z,b1,b0,b2,b3⟩,⟨q',z',c1,c2,c3⟩,⟨q2,z2,d1,d2,d3⟩,e⟩:=h
 refine⟨a,⟨q,z,b1,fun y=>b0 (i _ y),s _ _ b2,b3.1,fun j l y=>?_⟩,⟨q',z',c1,s _ _ c2,c3.mono s⟩,⟨q2,z2,d1,s _ _ d2,d3.mono s⟩,e⟩
 obtain⟨r,y1,y2,y3⟩:=b3.2 j l y
 exact⟨r,y1,fun x=>y2 (i _ x),s _ _ y3⟩
def oS(K:E6):Sp:=fun vs H Q _=>∃(p C dx qt qh:Addr)(m:Nat)(xs zs:List V)(es:En)(ts:List (List Nat)),vs = [.ref p,.int (m:Int),.ref qt,.ref qh]/\H p=some (.ins C dx [])/\CW K C/\H qt=some (.lst xs)/\c9 K H xs es/\H qh=some (.lst zs)/\ck H zs ts/\Gr m es ts/\0<es.length/\es.length<=30 /\
 ∀(fs:List (Str×V))(q1:Addr)(rs:List (List Nat))(H':Hp),H' p=some (.ins C dx fs)->WebG (fun a=>H a≠none) H' fs m es ts rs->H q1=none->fs.lookup ("ties" : Str)=some (.ref q1)->H' q1=some (.lst xs)->(∀ q o,H q=some o->q≠p->H' q=some o)->Q .non H'
theorem c9.keep{K:E6}{H G:Hp}{xs:List V}{es:En}{p C dx:Addr}(t:c9 K H xs es)(hp:H p=some (.ins C dx []))(k:∀ q u,q≠p->H q=some u->G q=some u):c9 K G xs es:=⟨t.1,fun i e z=>by
 obtain⟨q,C',dx',s,a,b,d⟩:=t.2 i e z
 refine⟨q,C',dx',s,a,k _ _ (fun z=>?_) b,d⟩
 rw[z,hp]at b
 have e1:([]:List (Str×V))=tf (e.1:Int) (e.2:Int) s:=by
  injection b with b
  injection b
 have e2:=l6 (e.1:Int) (e.2:Int) s
 rw[← e1]at e2
 cases e2⟩
section
variable{P:Program}{w:World}{K:E6}{mg:Str->Option Value}{base:Heap}
theorem jt:aE ["self","many","ties","turns","rounds"] ["self","many","ties","turns"] (ah cf):=⟨rfl,rfl,rfl,by decide +kernel,rfl,by decide +kernel,by decide +kernel⟩
theorem Cy{f f1 f2 f3 f4 f5:Addr}{fd d1 d2 d3 d4 d5:FuncData} (F:Fun K "__init__" "Web.__init__" cf f fd) (T:Txt mg) (G_refuse_ends:Cal P w K mg base 1 "refuse_ends" ["many","ties"] (u5 K) f1 d1) (G_refuse_turns:Cal P w K mg base 1 "refuse_turns" ["many","ties","turns"] (oW K) f2 d2) (G_refuse_parted:Cal P w K mg base 2 "refuse_parted" ["many","ties"] (u4 K) f3 d3) (G_rounds_of:Cal P w K mg base 4 "rounds_of" ["ties","turns"] (oV K) f4 d4) (G_sides_of:Cal P w K mg base 1 "sides_of" ["ties","rounds"] (uY K) f5 d5) :
  FnOk P w K mg base CX0 5 f fd ["self","many","ties","turns"] (oS K):=by
 refine F.ok jt (fun vs H Q E h=>?_) (fun cdv A outer s H vs Q E hr h=>?_)
 ·obtain⟨p,C,dx,qt,qh,m,xs,zs,es,ts,rfl,_⟩:=h
  rfl
 obtain⟨p,C,dx,qt,qh,m,xs,zs,es,ts,rfl,hp,cw,hqt,hT,hqh,hR,g,e0,few,kk⟩:=h
 have w':=g.w
 have m2:=g.two e0
 have mf:=tK g
 have hul:xs.length=es.length:=hT.1
 have hzl:zs.length=m:=by rw[hR.1,w'.len]
 have pl:∀{q:Addr}{ys:List V},H q=some (.lst ys)->q≠p:=fun{q ys} h z=>by rw[z,hp]at h;cases h
 refine⟨_,(af (bg (aH G_refuse_ends.ok (hr.mono (by decide)) rfl G_refuse_ends.mg G_refuse_ends.kp G_refuse_ends.bn .nil bh (aa (pv 1) (aa (pv 2) ag))))
   (af (bg (aH G_refuse_turns.ok (hr.mono (by decide)) rfl G_refuse_turns.mg G_refuse_turns.kp G_refuse_turns.bn .nil bh (aa (pv 1) (aa (pv 2) (aa (pv 3) ag)))))
   (af (bg (aH G_refuse_parted.ok (hr.mono (by decide)) rfl G_refuse_parted.mg G_refuse_parted.kp G_refuse_parted.bn .nil bh (aa (pv 1) (aa (pv 2) ag))))
   (af (au (i:=4) jt.nd rfl (Or.inl rfl) (aH G_rounds_of.ok (hr.mono (by decide)) rfl G_rounds_of.mg G_rounds_of.kp G_rounds_of.bn .nil bh (aa (pv 2) (aa (pv 3) ag))))
   (af (cM (aK vN (ar bC (ar oq (pv 1) (aw aq (by rfl) T.n_len aU (aa (pv 2) ag))) (aw aq (by rfl) T.n_len aU (aa (pv 4) ag))) aj (aR _)) (ao d8) aW)
   (af (kH (pv 0) (pv 1) rfl)
   (af (kH (pv 0) (gz eO (by rfl) T.n_list ku (aa (pv 2) ag)) rfl)
   (af (kH (pv 0) (eR rfl (fr:=[]) (by exact bI.plain (by rfl) (by decide +kernel) (by rfl) (by decide +kernel) (by rfl) (by decide +kernel)) (bL (pv 3)) (fun C ex s H=>(gz (oF (K:=K) rfl) (by rfl) T.n_list ku (aa (pv 0) ag)))) rfl)
   (af (kH (pv 0) (pv 4) rfl)
   (ao (kH (pv 0) (aH G_sides_of.ok (hr.mono (by decide)) rfl G_sides_of.mg G_sides_of.kp G_sides_of.bn .nil bh (aa (pv 2) (aa (pv 4) ag))) rfl))))))))))),?_⟩
 refine⟨_,rfl,_,rfl,qt,xs,m,es,rfl,SqL.of hqt,hT,fun e he=>⟨(w'.ends e he).1,(w'.ends e he).2.1⟩,?_⟩
 refine⟨_,rfl,_,rfl,_,rfl,qt,qh,xs,zs,m,es,ts,rfl,SqL.of hqt,hT,SqL.of hqh,hR,w',few,by omega,fun H1 s1=>?_⟩
 refine⟨_,rfl,_,rfl,qt,xs,m,es,ts,rfl,SqL.of (s1 _ _ hqt),hT.mono s1,g,m2,by omega,few,fun H2 s2=>?_⟩
 have s12:=s1.trans s2
 refine⟨_,rfl,_,rfl,qt,qh,m,es,ts,rfl,⟨⟨xs,SqL.of (s12 _ _ hqt),hT.mono s12⟩,⟨zs,SqL.of (s12 _ _ hqh),hR.mono s12⟩,w',by omega⟩,fun qr vs rs H3 s3 hqr hrs ro=>?_⟩
 have s13:=s12.trans s3
 have cnt:m+rs.length=es.length+2:=by
  obtain⟨rs',p',c⟩:=g.part
  rw[← p'.same ro.part]
  exact c
 have hvl:vs.length=rs.length:=hrs.1
 refine⟨_,rfl,_,rfl,qt,xs,rfl,.inl (SqL.of (s13 _ _ hqt)),_,_,rfl,rfl,_,rfl,qr,vs,rfl,.inl (SqL.of hqr),_,_,rfl,rfl,rfl,_,rfl,?_⟩
 refine iteNS (congrArg V.int (by omega)) ?_
 have hp3:=s13 _ _ hp
 refine⟨_,rfl,_,rfl,p,C,dx,[],rfl,hp3,cw.cl,cw.n1,(by show 0<1000;decide),?_⟩
 have keep:∀{G:Hp}{o:HO}{q:Addr}{u:HO},q≠p->G q=some u->(upd G p o) q=some u:=fun n z=>by rw[ai n];exact z
 refine⟨_,rfl,qt,xs,rfl,.inl (SqL.of (keep (pl hqt) (s13 _ _ hqt))),fun q1 hq1=>?_⟩
 have n1p:q1≠p:=fun z=>by rw[z,ae]at hq1;cases hq1
 have t4:=ak hq1 (.lst xs)
 refine⟨_,rfl,p,C,dx,_,rfl,t4 _ _ ae,cw.cl,cw.n2,?_,?_⟩
 ·have:=ij "many" (.int (m:Int)) ([]:List (Str×V));simp only[Hr]at this;omega
 have t1:∀ q u,q≠p->H3 q=some u->(upd (upd (upd H3 p (.ins C dx (putF "many" (.int (m:Int)) []))) q1 (.lst xs)) p (.ins C dx (putF "ties" (.ref q1) (putF "many" (.int (m:Int)) [])))) q=some u:=fun q u n z=>keep n (t4 _ _ (keep n z))
 have q1a:(upd (upd (upd H3 p (.ins C dx (putF "many" (.int (m:Int)) []))) q1 (.lst xs)) p (.ins C dx (putF "ties" (.ref q1) (putF "many" (.int (m:Int)) [])))) q1=some (.lst xs):=keep n1p ae
 have pa:(upd (upd (upd H3 p (.ins C dx (putF "many" (.int (m:Int)) []))) q1 (.lst xs)) p (.ins C dx (putF "ties" (.ref q1) (putF "many" (.int (m:Int)) [])))) p=some (.ins C dx (putF "ties" (.ref q1) (putF "many" (.int (m:Int)) []))):=ae
 generalize upd (upd (upd H3 p (.ins C dx (putF "many" (.int (m:Int)) []))) q1 (.lst xs)) p (.ins C dx (putF "ties" (.ref q1) (putF "many" (.int (m:Int)) [])))=H4 at t1 q1a pa
 have lk:(putF "ties" (.ref q1) (putF "many" (.int (m:Int)) []):List (Str×V)).lookup ("ties" : Str)=some (.ref q1):=by rw[av,if_pos rfl]
 have ln:(putF "ties" (.ref q1) (putF "many" (.int (m:Int)) []):List (Str×V)).length<=2:=by
  have a1:=ij "many" (.int (m:Int)) ([]:List (Str×V))
  have a2:=ij "ties" (.ref q1) (putF "many" (.int (m:Int)) ([]:List (Str×V)))
  simp only[Hr]at a1
  omega
 have lkm:(putF "ties" (.ref q1) (putF "many" (.int (m:Int)) []):List (Str×V)).lookup ("many" : Str)=some (.int (m:Int)):=by rw[av,if_neg (by decide +kernel),av,if_pos rfl]
 generalize (putF "ties" (.ref q1) (putF "many" (.int (m:Int)) []):List (Str×V))=fs at pa lk ln lkm
 have hqh4:=t1 _ _ (pl hqh) (s13 _ _ hqh)
 have new4:∀{b:Addr},H4 b=none->H b=none:=fun{b} z=>by
  cases y:H b with
  |none=>rfl
  |some o =>
   by_cases n:b=p
   ·rw[n,pa]at z;cases z
   ·rw[t1 _ _ n (s13 _ _ y)]at z;cases z
 have new1:H q1=none:=by
  cases y:H q1 with
  |none=>rfl
  |some o=>rw[keep n1p (s13 _ _ y)]at hq1;cases hq1
 refine⟨_,rfl,qh,rfl,⟨_,SqL.of hqh4⟩,cW (K:=K) (xs:=zs) (fun i ys H5=>Same H4 H5/\bN (fun a=>H a≠none) H5 ys (ts.take i)) (F0 (ax (by omega))) ⟨fun _ _ e=>e,rfl,fun i l e=>by simp at e⟩ (fun i _ H5 _ z=>SqL.of (z.1 _ _ hqh4)) ?_ ?_⟩
 ·rintro i x ys H5 hx ⟨s5,rz⟩
  have hi:i<ts.length:=by rw[← hR.1];exact(E3.mp hx).1
  obtain⟨l,hl⟩:∃ l,ts[i]?=some l:=⟨_,E4 hi⟩
  obtain⟨r,a1,a2⟩:=hR.2 i l hl
  rw[hx]at a1
  cases a1
  refine⟨_,rfl,r,_,rfl,.inl (SqL.of (s5 _ _ (t1 _ _ (pl a2) (s13 _ _ a2)))),fun g hg=>⟨s5.trans (ak hg _),?_⟩⟩
  rw[show ts.take (i+1)=ts.take i++[l] by rw[F2,hl];rfl]
  exact(rz.mono fun b u _ z=>ak hg _ _ _ z).snoc (fun z=>z (new4 (none_of s5 hg))) ae
 rintro ys H5 _ ⟨s5,rz⟩ D hD
 rw[hR.1,Gp]at rz
 have hDp:D≠p:=fun z=>by rw[z,s5 _ _ pa]at hD;cases hD
 have s6:=s5.trans (ak hD (.lst ys))
 refine⟨_,rfl,p,C,dx,fs,rfl,s6 _ _ pa,cw.cl,cw.n3,by omega,?_⟩
 have ln1:=ij "turns" (.ref D) fs
 have lk1:(putF "turns" (.ref D) fs).lookup ("ties" : Str)=some (.ref q1):=by rw[av,if_neg (by decide +kernel)];exact lk
 refine⟨_,rfl,_,rfl,p,C,dx,_,rfl,ae,cw.cl,cw.n4,by omega,?_⟩
 have ln2:=ij "rounds" (.ref qr) (putF "turns" (.ref D) fs)
 have lk2:(putF "rounds" (.ref qr) (putF "turns" (.ref D) fs)).lookup ("ties" : Str)=some (.ref q1):=by rw[av,if_neg (by decide +kernel)];exact lk1
 have t7:∀ q u,q≠p->H3 q=some u->(upd (upd (upd H5 D (.lst ys)) p (.ins C dx (putF "turns" (.ref D) fs))) p (.ins C dx (putF "rounds" (.ref qr) (putF "turns" (.ref D) fs)))) q=some u:=fun q u n z=>keep n (keep n (s6 _ _ (t1 q u n z)))
 have q17:(upd (upd (upd H5 D (.lst ys)) p (.ins C dx (putF "turns" (.ref D) fs))) p (.ins C dx (putF "rounds" (.ref qr) (putF "turns" (.ref D) fs)))) q1=some (.lst xs):=keep n1p (keep n1p (s6 _ _ q1a))
 have p7:(upd (upd (upd H5 D (.lst ys)) p (.ins C dx (putF "turns" (.ref D) fs))) p (.ins C dx (putF "rounds" (.ref qr) (putF "turns" (.ref D) fs)))) p=some (.ins C dx (putF "rounds" (.ref qr) (putF "turns" (.ref D) fs))):=ae
 have D7:(upd (upd (upd H5 D (.lst ys)) p (.ins C dx (putF "turns" (.ref D) fs))) p (.ins C dx (putF "rounds" (.ref qr) (putF "turns" (.ref D) fs)))) D=some (.lst ys):=keep hDp (keep hDp ae)
 have u7:∀ q u,q≠p->H5 q=some u->(upd (upd (upd H5 D (.lst ys)) p (.ins C dx (putF "turns" (.ref D) fs))) p (.ins C dx (putF "rounds" (.ref qr) (putF "turns" (.ref D) fs)))) q=some u:=fun q u n z=>keep n (keep n (ak hD _ _ _ z))
 generalize upd (upd (upd H5 D (.lst ys)) p (.ins C dx (putF "turns" (.ref D) fs))) p (.ins C dx (putF "rounds" (.ref qr) (putF "turns" (.ref D) fs)))=H7 at t7 q17 p7 D7 u7
 have pl3:∀{q:Addr}{ys:List V},H3 q=some (.lst ys)->q≠p:=fun{q ys} h z=>by rw[z,hp3]at h;cases h
 have rs7:ck H7 vs rs:=⟨hrs.1,fun i l z=>by
  obtain⟨r,a1,a2⟩:=hrs.2 i l z
  exact⟨r,a1,t7 _ _ (pl3 a2) a2⟩⟩
 have T7:c9 K H7 xs es:=(hT.mono s13).keep hp3 t7
 refine⟨_,rfl,_,rfl,qt,qr,xs,vs,es,_,rs,rfl,SqL.of (t7 _ _ (pl hqt) (s13 _ _ hqt)),T7,by omega,SqL.of (t7 _ _ (pl3 hqr) hqr),rs7,ro,fun q5 z5 H8 s8 hq5 hs5=>?_⟩
 refine⟨_,rfl,p,C,dx,_,rfl,s8 _ _ p7,cw.cl,cw.n5,by omega,?_⟩
 have n5p:q5≠p:=fun z=>by rw[z,s8 _ _ p7]at hq5;cases hq5
 have hqr7:=t7 _ _ (pl3 hqr) hqr
 refine kk _ q1 rs _ ae ⟨?_,⟨D,ys,?_,fun z=>z (new4 (none_of s5 hD)),keep hDp (s8 _ _ D7),rz.1,fun i l z=>?_⟩,⟨qr,vs,?_,keep (pl3 hqr) (s8 _ _ hqr7),hrs.1,fun i l z=>?_⟩,⟨q5,z5,?_,keep n5p hq5,hs5.1,fun i hi=>?_⟩,ro⟩ new1 (by rw[av,if_neg (by decide +kernel)];exact lk2) (keep n1p (s8 _ _ q17)) fun q o z n=>keep n (s8 _ _ (t7 q o n (s13 _ _ z)))
 ·rw[av,if_neg (by decide +kernel),av,if_neg (by decide +kernel),av,if_neg (by decide +kernel)]
  exact lkm
 ·rw[av,if_neg (by decide +kernel),av,if_neg (by decide +kernel),av,if_pos rfl]
 ·obtain⟨r,a1,a0,a2⟩:=rz.2 i l z
  have nr:r≠p:=fun z=>by rw[z,s5 _ _ pa]at a2;cases a2
  exact⟨r,a1,a0,keep nr (s8 _ _ (u7 r _ nr a2))⟩
 ·rw[av,if_neg (by decide +kernel),av,if_pos rfl]
 ·obtain⟨r,a1,a2⟩:=hrs.2 i l z
  exact⟨r,a1,keep (pl3 a2) (s8 _ _ (t7 _ _ (pl3 a2) a2))⟩
 ·rw[av,if_pos rfl]
 ·obtain⟨t,a,b,r,r',y1,y2,y3⟩:=hs5.2 i hi
  exact⟨t,a,b,r,r',y1,keep (fun z=>by rw[z,s8 _ _ p7]at y2;cases y2) y2,y3⟩
theorem rf.at{PL PS:Addr}{H:Hp}{xs:List V}{es:En}{ks:Kn}(t:rf PL PS H xs es ks)(kl:ks.length=es.length)(TL:CT K PL)(TS:CT K PS):c9 K H xs es:=⟨t.1,fun i e z=>by
 have hi:=(E3.mp z).1
 obtain⟨k,hk⟩:∃ k,ks[i]?=some k:=⟨_,E4 (by omega)⟩
 obtain⟨p,dx,a,b⟩:=t.2 i e k z hk
 refine⟨p,_,dx,k.2,a,b,?_⟩
 unfold cls
 split
 ·exact TS
 ·exact TL⟩
def WebF(S:Addr->Prop)(PL PS WC:Addr)(H:Hp)(p:Addr)(m:Nat)(es:En)(ts rs:List (List Nat))(ks:Kn):Prop:=∃ dx fs q1 xs,H p=some (.ins WC dx fs)/\WebG S H fs m es ts rs/\¬ S q1/\fs.lookup ("ties" : Str)=some (.ref q1)/\H q1=some (.lst xs)/\rf PL PS H xs es ks
def u9(PL PS WC:Addr):Sp:=fun vs H Q _=>∃(t pe pt pr pk:Addr)(m:Nat)(es:En)(ts:List (List Nat))(ks:Kn),vs = [.ref t,.ref pk]/\H t=some (.tup [.ref pe,.ref pt,.ref pr])/\WebP H pe pt m es ts/\(∃ ws,H pk=some (.lst ws)/\h7 H ws ks)/\es.length<=30/\ks.length=es.length/\0<es.length /\
 ∀(p:Addr)(rs:List (List Nat))(H':Hp),Same H H'->WebF (fun a=>H a≠none) PL PS WC H' p m es ts rs ks->Q (.ref p) H'
theorem ig:aE ["grown","kinds","ties","k","end"] ["grown","kinds"] (ah fi):=⟨rfl,rfl,rfl,by decide +kernel,rfl,by decide +kernel,by decide +kernel⟩
theorem Ed{f fI PL PS WC fW:Addr}{fd fdI fdW:FuncData} (F:Fun K "_law_web" "_law_web" fi f fd) (T:Txt mg) (M_Pull:Mak P w K mg base 1 "Pull" ["self","one","two","strength"] (oh K) PL fI fdI) (M_Push:Mak P w K mg base 1 "Push" ["self","one","two","strength"] (oh K) PS fI fdI) (TL:CT K PL) (TS:CT K PS)
  (M_Web:Mak P w K mg base 5 "Web" ["self","many","ties","turns"] (oS K) WC fW fdW) (cw:CW K WC):FnOk P w K mg base CX0 7 f fd ["grown","kinds"] (u9 PL PS WC):=by
 refine F.ok ig (fun vs H Q E h=>?_) (fun cdv A outer s H vs Q E hr h=>?_)
 ·obtain⟨t,pe,pt,pr,pk,m,es,ts,ks,rfl,_⟩:=h
  rfl
 obtain⟨t,pe,pt,pr,pk,m,es,ts,ks,rfl,ht,⟨⟨ys,hpe,hE⟩,⟨xs,hpt,hR⟩,g⟩,⟨ws,hpk,tk⟩,few,kl,e0',kk⟩:=h
 have hwl:ws.length=es.length:=by rw[tk.1,kl]
 have hyl:ys.length=es.length:=hE.1
 have mf:=tK g
 have hxm:xs.length=m:=by rw[hR.1,g.w.len]
 refine⟨_,(af (au (i:=2) ig.nd rfl (Or.inl rfl) (bK ag))
   (af (cq PassesOwn.never rfl (aY rfl T.n_range (aa (aw aq (by rfl) T.n_len aU (aa (pv 1) ag)) ag)) (aX (i:=3) ig.nd rfl (Or.inl rfl)) (af (au (i:=4) ig.nd rfl (Or.inl rfl) (aG az (aG bf (pv 0) aj (fun _ _=>rfl)) (pv 3) (fun _ _=>rfl)))
   (ao (cM (aK nS (aG bf (aG az (pv 1) (pv 3) (fun _ _=>rfl)) aj (fun _ _=>rfl)) aj (aR _)) (ao (bg (gA FF FT FR bq (pv 2) (aa (vJ M_Push.mkc M_Push.ok (hr.mono (by decide)) rfl M_Push.mg M_Push.bn .nil bh (aa (aG bf (pv 4) aj (fun _ _=>rfl)) (aa (aG bf (pv 4) aj (fun _ _=>rfl)) (aa (aG bf (aG az (pv 1) (pv 3) (fun _ _=>rfl)) aj (fun _ _=>rfl)) ag)))) ag)))) (ao (bg (gA FF FT FR bq (pv 2) (aa (vJ M_Pull.mkc M_Pull.ok (hr.mono (by decide)) rfl M_Pull.mg M_Pull.bn .nil bh (aa (aG bf (pv 4) aj (fun _ _=>rfl)) (aa (aG bf (pv 4) aj (fun _ _=>rfl)) (aa (aG bf (aG az (pv 1) (pv 3) (fun _ _=>rfl)) aj (fun _ _=>rfl)) ag)))) ag))))))))
   (ao (aP (vJ M_Web.mkc M_Web.ok (hr.mono (by decide)) rfl M_Web.mg M_Web.bn .nil bh (aa (aw aq (by rfl) T.n_len aU (aa (aG bf (pv 0) aj (fun _ _=>rfl)) ag)) (aa (pv 2) (aa (eR rfl (fr:=[]) (by exact bI.plain (by rfl) (by decide +kernel) (by rfl) (by decide +kernel) (by rfl) (by decide +kernel)) (bL (aG bf (pv 0) aj (fun _ _=>rfl))) (fun C ex s H=>(gz (oF (K:=K) rfl) (by rfl) T.n_list ku (aa (pv 0) ag)))) ag)))))))),?_⟩
 refine⟨(by show 0<=sizeLine;decide),fun q hq=>?_⟩
 have s1:=ak hq (.lst [])
 refine⟨_,rfl,pk,ws,rfl,.inl (SqL.of (s1 _ _ hpk)),_,rfl,by omega,by omega,cz (n:=(ws.length:Int).toNat) (fun i σ H2=>∃ v2 v3 us,σ = [some (.ref t),some (.ref pk),some (.ref q),v2,v3]/\Same H H2/\H2 q=some (.lst us)/\rf PL PS H2 us (es.take i) ks) ⟨_,_,[],rfl,s1,ae,rfl,fun i e k z=>by simp at z⟩ ?_ ?_⟩
 ·rintro i σ H2 hi ⟨v2,v3,us,rfl,s2,hq2,tt⟩
  rw[Fn,hwl]at hi
  have e0:(0:Int)+(i:Int)=(i:Int):=Gy _
  rw[e0]
  obtain⟨e,he⟩:∃ e,es[i]?=some e:=⟨_,E4 hi⟩
  obtain⟨k,hk⟩:∃ k,ks[i]?=some k:=⟨_,E4 (by omega)⟩
  obtain⟨_,_,ne⟩:=g.w.ends e (E7 he)
  obtain⟨p,x1,x2⟩:=(hE.mono s2).2 i e he
  obtain⟨k1,k2,pk',y1,y2⟩:=(tk.mono s2).2 i k hk
  have ul:us.length=i:=by rw[tt.1,Fw];omega
  refine⟨_,rfl,t,_,0,_,rfl,rfl,SqT.of (s2 _ _ ht),at30,_,rfl,pe,ys,_,_,rfl,rfl,SqL.of (s2 _ _ hpe),ay x1,?_⟩
  refine⟨_,rfl,_,rfl,pk,ws,_,_,rfl,rfl,SqL.of (s2 _ _ hpk),ay y1,pk',_,0,_,rfl,rfl,SqT.of y2,at0,rfl,_,rfl,?_⟩
  have fin:∀(x dx:Addr)(H':Hp),Same H2 H'->H' x=some (.ins (cls PL PS (decide (k.1=1))) dx (tf (e.1:Int) (e.2:Int) k.2))->∃ v2 v3 zs,([some (.ref t),some (.ref pk),some (.ref q),some (.int (i:Int)),some (.ref p)]:St) = [some (.ref t),some (.ref pk),some (.ref q),v2,v3]/\Same H (upd H' q (.lst (us++[.ref x])))/\(upd H' q (.lst (us++[.ref x]))) q=some (.lst zs)/\rf PL PS (upd H' q (.lst (us++[.ref x]))) zs (es.take (i+1)) ks:=fun x dx H' s4 h1=>by
   refine⟨_,_,_,rfl,aV (s2.trans s4) hq _,ae,by rw[E5,ul,Fw];simp;omega,fun j e' k' hj hk'=>?_⟩
   have hqn:∀{b:Addr}{C dx:Addr}{fs:List (Str×V)},H' b=some (.ins C dx fs)->b≠q:=fun z y=>by rw[y,s4 _ _ hq2]at z;cases z
   rw[GX]at hj
   by_cases z:j<i
   ·rw[if_pos (by omega)]at hj
    obtain⟨p',dx',a1,a2⟩:=(tt.mono s4).2 j e' k' (by rw[GX,if_pos z];exact hj) hk'
    exact⟨p',dx',by rw[E8 (by omega)];exact a1,by rw[ai (hqn a2)];exact a2⟩
   ·by_cases z2:j=i
    ·subst z2
     rw[if_pos (by omega),he]at hj
     cases hj
     rw[hk]at hk'
     cases hk'
     exact⟨x,dx,by rw[← ul,E9 (Ff _),FA];rfl,by rw[ai (hqn h1)];exact h1⟩
    ·rw[if_neg (by omega)]at hj
     cases hj
  refine ite2 (fun c=>?_) (fun c=>?_)
  ·have c':k.1=1:=V.int.inj (of_decide_eq_true c)
   refine⟨_,rfl,.inl ⟨rfl,_,SqL.of hq2⟩,_,rfl,p,_,0,_,rfl,rfl,SqT.of x2,at0,_,rfl,p,_,1,_,rfl,rfl,SqT.of x2,at1,_,rfl,_,rfl,pk,ws,_,_,rfl,rfl,SqL.of (s2 _ _ hpk),ay y1,pk',_,1,_,rfl,rfl,SqT.of y2,at1,?_⟩
   intro x dx nx ndx nex
   refine⟨x,PS,dx,_,_,_,rfl,ae,TS,by omega,by omega,by omega,k2,fun H' h1 h2=>?_⟩
   have s4:Same H2 H':=fun b o z=>h2 b o (by rw[ai (aI z nx),ai (aI z ndx)];exact z) (aI z nx)
   refine⟨rfl,q,us,_,rfl,rfl,s4 _ _ hq2,ax (by omega),fin x dx H' s4 ?_⟩
   rw[decide_eq_true c']
   exact h1
  ·have c':¬ k.1=1:=fun z=>c (decide_eq_true (by rw[z]))
   refine⟨_,rfl,.inl ⟨rfl,_,SqL.of hq2⟩,_,rfl,p,_,0,_,rfl,rfl,SqT.of x2,at0,_,rfl,p,_,1,_,rfl,rfl,SqT.of x2,at1,_,rfl,_,rfl,pk,ws,_,_,rfl,rfl,SqL.of (s2 _ _ hpk),ay y1,pk',_,1,_,rfl,rfl,SqT.of y2,at1,?_⟩
   intro x dx nx ndx nex
   refine⟨x,PL,dx,_,_,_,rfl,ae,TL,by omega,by omega,by omega,k2,fun H' h1 h2=>?_⟩
   have s4:Same H2 H':=fun b o z=>h2 b o (by rw[ai (aI z nx),ai (aI z ndx)];exact z) (aI z nx)
   refine⟨rfl,q,us,_,rfl,rfl,s4 _ _ hq2,ax (by omega),fin x dx H' s4 ?_⟩
   rw[decide_eq_false c']
   exact h1
 rintro σ H2 ⟨v2,v3,us,rfl,s2,hq2,tt⟩
 rw[Fn,hwl,Gp]at tt
 have hpt2:=s2 _ _ hpt
 refine⟨_,rfl,t,_,1,_,rfl,rfl,SqT.of (s2 _ _ ht),at31,pt,xs,rfl,.inl (SqL.of hpt2),_,rfl,_,rfl,t,_,1,_,rfl,rfl,SqT.of (s2 _ _ ht),at31,pt,rfl,⟨_,SqL.of hpt2⟩,cW (K:=K) (xs:=xs) (fun i zs H3=>Same H2 H3/\ck H3 zs (ts.take i)) (F0 (ax (by omega))) ⟨fun _ _ e=>e,rfl,fun i l e=>by simp at e⟩ (fun i zs H3 _ z=>SqL.of (z.1 _ _ hpt2)) ?_ ?_⟩
 ·rintro i x zs H3 hx ⟨s3,rz⟩
  have hi:i<ts.length:=by rw[← hR.1];exact(E3.mp hx).1
  obtain⟨l,hl⟩:∃ l,ts[i]?=some l:=⟨_,E4 hi⟩
  obtain⟨p,a1,a2⟩:=(hR.mono (s2.trans s3)).2 i l hl
  rw[hx]at a1
  cases a1
  refine⟨_,rfl,p,_,rfl,.inl (SqL.of a2),fun g hg=>?_⟩
  have s4:=ak hg (.lst (l.map iV))
  refine⟨s3.trans s4,?_⟩
  rw[show ts.take (i+1)=ts.take i++[l] by rw[F2,hl];rfl]
  exact(rz.mono s4).snoc ae
 rintro zs H3 _ ⟨s3,rz⟩ D hD
 rw[hR.1,Gp]at rz
 have s4:=ak hD (.lst zs)
 have s24:=s3.trans s4
 intro x dx nx ndx nex
 have up:∀ b o,(upd H3 D (.lst zs)) b=some o->(upd (upd (upd H3 D (.lst zs)) dx (.own x)) x (.ins WC dx [])) b=some o:=fun b o z=>by rw[ai (aI z nx),ai (aI z ndx)];exact z
 refine⟨x,WC,dx,q,D,m,us,zs,es,ts,(by rw[hxm];rfl),ae,cw,up _ _ (s24 _ _ hq2),((tt.at kl TL TS).mono s24).mono up,up _ _ ae,(rz.mono s4).mono up,g,e0',by omega,fun fs q1 rs H' h1 hg hn h2 h3 h4=>⟨rfl,?_⟩⟩
 have s5:Same H2 H':=fun b o z=>h4 b o (up _ _ (s24 _ _ z)) (aI (s24 _ _ z) nx)
 have up0:∀ a,H a≠none->(upd (upd (upd H3 D (.lst zs)) dx (.own x)) x (.ins WC dx [])) a≠none:=fun a z y=>z (by
  cases u:H a with
  |none=>rfl
  |some o=>rw[up _ _ (s24 _ _ (s2 _ _ u))]at y;cases y)
 exact kk x rs H' (s2.trans s5) ⟨dx,fs,q1,us,h1,hg.mono (fun _ _ z=>z) up0,fun z=>up0 _ z hn,h2,h3,tt.mono s5⟩
end
end K8
namespace K8
open PySem L2
local macro_rules | `(tactic| walk_at "cc") => `(tactic| first | exact ⟨by decide, by decide⟩ | (show (0 : Int) < _; decide) | (show (0 : Int) < _; omega) | (show (0 : Int) ≤ _; omega) | exact ⟨by decide, by decide, by decide⟩ | exact ⟨by omega, by omega, by decide⟩ | exact Or.inl ⟨by decide, by decide⟩ | exact Or.inl ⟨by omega, by omega⟩)
local macro_rules | `(tactic| walk_at "rd") => `(tactic| repeat (first | refine ⟨_, rfl, ?_⟩ | refine ⟨_, _, rfl, rfl, ?_⟩ | refine ⟨rfl, ?_⟩ | (refine ⟨?cc, ?_⟩; (case cc => walk_at "cc"))))
theorem DE:bootBuiltins "sum" = some (.builtin "sum"):=by decide +kernel
theorem pe_or{X:Cx}{e:Expr}{t1 t2:TE}(h1:PE X e t1)(h2:PE X e t2):PE X e (fun σ H Q=>t1 σ H Q∨t2 σ H Q):=fun pins s σ H Q I h=>h.elim (h1 pins s σ H Q I) (h2 pins s σ H Q I)
def bit(l a:Int):Int:=l/2^a.toNat%2
theorem Aa(x y:Int):Builtin.bitAnd (Builtin.bitXor x y) 1=(x%2+y%2)%2:=by
 have e:Builtin.bitAnd (Builtin.bitXor x y) 1=Builtin.bitXor x y%2:=PySem.W.kbt_mask _ 1
 rw[e,PyProof.Rows.bitXor_and]
 omega
def unp(push:Bool)(a b l:Int):Bool:=!decide (V.int ((bit l a+bit l b)%2)=V.int (if push=true then 1 else 0))
def rB(push:Bool):Sp:=fun vs H Q _=>∃ p,vs = [.ref p]/\Q (.int (if push=true then 1 else 0)) H
def TieAt(H:Hp)(p C:Addr)(a b s:Int):Prop:=∃ dx,H p=some (.ins C dx (tf a b s))
def xU(C:Addr)(push:Bool):Sp:=fun vs H Q _=>∃ p a b s l,vs = [.ref p,.int l]/\TieAt H p C a b s/\0<=a/\0<=b/\Q (.bl (unp push a b l)) H
def l8(C:Addr)(push:Bool):Sp:=fun vs H Q _=>∃ p a b s l,vs = [.ref p,.int l]/\TieAt H p C a b s/\0<=a/\0<=b/\Q (.int (if unp push a b l=true then s else 0)) H
def U(es:En)(ks:Kn)(l:Int)(t:Nat):Bool:=match es[t]?,ks[t]? with | some e,some k=>unp (decide (k.1=1)) (e.1:Int) (e.2:Int) l | _,_=>false
theorem U_at{es:En}{ks:Kn}{l:Int}{t:Nat}{e:Nat×Nat}{k:Int×Int}(h1:es[t]?=some e)(h2:ks[t]?=some k):U es ks l t=unp (decide (k.1=1)) (e.1:Int) (e.2:Int) l:=by unfold U;rw[h1,h2]
def stg(ks:Kn)(t:Nat):Int:=match ks[t]? with | some k=>k.2 | none=>0
def prL(ks:Kn)(u:Nat->Bool)(i:Nat):List Int:=(GC i).map fun t=>if u t=true then stg ks t else 0
theorem yb(ks:Kn)(u:Nat->Bool)(i:Nat):prL ks u (i+1)=prL ks u i++[if u i=true then stg ks i else 0]:=by
 unfold prL
 rw[HM,FH]
 rfl
theorem bitN(N a:Nat):bit (N:Int) (a:Int)=if N.testBit a=true then 1 else 0:=by
 unfold bit
 rw[Fn,Nat.testBit_eq_decide_div_mod_eq]
 have e:((N:Int)/2^a%2)=((N/2^a%2:Nat):Int):=by
  rw[Int.natCast_emod,Int.natCast_ediv,Int.natCast_pow]
  rfl
 rw[e]
 by_cases z:N/2^a%2=1
 ·rw[z,decide_eq_true rfl];rfl
 ·rw[decide_eq_false z]
  have:N/2^a%2=0:=by omega
  rw[this]
  rfl
theorem xa(m n:Nat):(m^^^n)+2*(m&&&n)=m+n:=by
 have h:=PyProof.Rows.nat_or_add_and m n
 have h2:(m|||n)=(m^^^n)+(m&&&n):=by
  have e:(m^^^n)+(m&&&n)=(m^^^n)|||(m&&&n):=by
   have q:=PyProof.Rows.nat_or_add_and (m^^^n) (m&&&n)
   have z:(m^^^n)&&&(m&&&n)=0:=by
    apply Hj
    intro i
    simp only[HJ,Nat.testBit_xor,Ij]
    cases m.testBit i<;>cases n.testBit i<;>rfl
   omega
  rw[e]
  apply Hj
  intro i
  simp only[HJ,Nat.testBit_xor,HX]
  cases m.testBit i<;>cases n.testBit i<;>rfl
 omega
theorem xorN(a b:Nat):Builtin.bitXor (a:Int) (b:Int)=((a^^^b:Nat):Int):=by
 rw[PyProof.Rows.bitXor_and,andN]
 have q:=xa a b
 omega
structure BV(PL PS WC:Addr)(H:Hp)(p:Addr)(es:En)(ks:Kn):Prop where
 w:∃ dx fs q1 xs,H p=some (.ins WC dx fs)/\fs.lookup ("ties" : Str)=some (.ref q1)/\H q1=some (.lst xs)/\rf PL PS H xs es ks
 kl:ks.length=es.length
 few:es.length<=30
theorem BV.mono{PL PS WC:Addr}{H H':Hp}{p:Addr}{es:En}{ks:Kn}(h:BV PL PS WC H p es ks)(s:Same H H'):BV PL PS WC H' p es ks:=by
 obtain⟨⟨dx,fs,q1,xs,a,b,c,d⟩,k,f⟩:=h
 exact⟨⟨dx,fs,q1,xs,s _ _ a,b,s _ _ c,d.mono s⟩,k,f⟩
def An(PL PS WC:Addr):Sp:=fun vs H Q _=>∃(p:Addr)(es:En)(ks:Kn)(l:Int),vs = [.ref p,.int l]/\BV PL PS WC H p es ks/\∀ H',Same H H'->Q (.int (prL ks (U es ks l) es.length).sum) H'
section
variable{P:Program}{w:World}{K:E6}{mg:Str->Option Value}{base:Heap}
theorem vp:aE ["self"] ["self"] (ah dA):=⟨rfl,rfl,rfl,by decide +kernel,rfl,by decide +kernel,by decide +kernel⟩
theorem Cw{f:Addr}{fd:FuncData} (F:Fun K "wish" "Tie.wish" dA f fd):FnOk P w K mg base CX0 1 f fd ["self"] (rB false):=by
 refine F.ok vp (fun vs H Q E h=>?_) (fun cdv A outer s H vs Q E hr h=>?_)
 ·obtain⟨p,rfl,_⟩:=h
  rfl
 obtain⟨p,rfl,k⟩:=h
 exact⟨_,(ao (aP aj)),k⟩
theorem rR:aE ["self"] ["self"] (ah cL):=⟨rfl,rfl,rfl,by decide +kernel,rfl,by decide +kernel,by decide +kernel⟩
theorem Cv{f:Addr}{fd:FuncData} (F:Fun K "wish" "Push.wish" cL f fd):FnOk P w K mg base CX0 1 f fd ["self"] (rB true):=by
 refine F.ok rR (fun vs H Q E h=>?_) (fun cdv A outer s H vs Q E hr h=>?_)
 ·obtain⟨p,rfl,_⟩:=h
  rfl
 obtain⟨p,rfl,k⟩:=h
 exact⟨_,(ao (aP aj)),k⟩
theorem pq:aE ["found"] ["found"] (ah b9):=⟨rfl,rfl,rfl,by decide +kernel,rfl,by decide +kernel,by decide +kernel⟩
theorem AZ{f:Addr}{fd:FuncData} (F:Fun K "_law_number" "_law_number" b9 f fd) (T:Txt mg):FnOk P w K mg base CX0 1 f fd ["found"] DT:=by
 refine F.ok pq (fun vs H Q E h=>?_) (fun cdv A outer s H vs Q E hr h=>?_)
 ·obtain⟨i,rfl,_⟩:=h
  rfl
 obtain⟨i,rfl,k⟩:=h
 refine⟨_,(ao (aP (pe_and (aw qU (by rfl) T.n_isinstance gk (aa (pv 0) (aa (vL (v:=.ty "int") rfl T.n_int bt_int rfl) ag))) (pe_one (pe_not (aw qU (by rfl) T.n_isinstance gk (aa (pv 0) (aa (vL (v:=.ty "bool") rfl T.n_bool EU rfl) ag)))))))),?_⟩
 refine⟨_,rfl,_,_,_,_,_,rfl,TyOf.int i,Or.inl ⟨_,rfl,rfl⟩,kit_ii K,_,rfl,iteT ?_⟩
 exact⟨_,rfl,_,_,_,_,_,rfl,TyOf.int i,Or.inl ⟨_,rfl,rfl⟩,kit_ib K,_,rfl,k⟩
theorem gn:aE ["self","laying","unlike"] ["self","laying"] (ah bp):=⟨rfl,rfl,rfl,by decide +kernel,rfl,by decide +kernel,by decide +kernel⟩
theorem AU{f C fw:Addr}{fd fdw:FuncData}{push:Bool} (F:Fun K "unpleased" "Tie.unpleased" bp f fd) (T:CT K C) (m_wish:Met P w K mg base 1 C "wish" ["self"] (rB push) fw fdw):FnOk P w K mg base CX0 2 f fd ["self","laying"] (xU C push):=by
 refine F.ok gn (fun vs H Q E h=>?_) (fun cdv A outer s H vs Q E hr h=>?_)
 ·obtain⟨p,a,b,s,l,rfl,_⟩:=h
  rfl
 obtain⟨p,a,b,st,l,rfl,⟨dx,hp⟩,ha,hb,k⟩:=h
 have CL:=T.cl
 refine⟨_,(af (au (i:=2) gn.nd rfl (Or.inl rfl) (ar AS (ar ye (ar yf (pv 1) (dH (pv 0) rfl)) (ar yf (pv 1) (dH (pv 0) rfl))) aj))
   (ao (aP (AO vN (pv 2) (Cm (pv 0) CL m_wish.me m_wish.ok (hr.mono (by decide)) m_wish.bn .nil bh) (aR _))))),?_⟩
 refine⟨_,rfl,_,rfl,p,C,dx,_,_,rfl,hp,T.cl,T.n1,l6 _ _ _,_,_,rfl,rfl,ha,?_⟩
 refine⟨_,rfl,_,rfl,p,C,dx,_,_,rfl,hp,T.cl,T.n2,rm _ _ _,_,_,rfl,rfl,hb,?_⟩
 refine⟨_,_,rfl,rfl,_,_,rfl,rfl,?_⟩
 refine⟨_,rfl,_,rfl,p,dx,_,rfl,hp,B4 _ _ _ (by decide +kernel) (by decide +kernel) (by decide +kernel),p,rfl,?_⟩
 refine⟨rfl,?_⟩
 have e:=Aa (l/2^a.toNat) (l/2^b.toNat)
 have k':Q (V.bl (unp push a b l)) H:=k
 unfold unp bit at k'
 rw[← e]at k'
 exact k'
theorem rQ:aE ["self","laying"] ["self","laying"] (ah cK):=⟨rfl,rfl,rfl,by decide +kernel,rfl,by decide +kernel,by decide +kernel⟩
theorem yg{f C fw:Addr}{fd fdw:FuncData}{push:Bool} (F:Fun K "price" "Tie.price" cK f fd) (T:CT K C) (m_unpleased:Met P w K mg base 2 C "unpleased" ["self","laying"] (xU C push) fw fdw):FnOk P w K mg base CX0 3 f fd ["self","laying"] (l8 C push):=by
 refine F.ok rQ (fun vs H Q E h=>?_) (fun cdv A outer s H vs Q E hr h=>?_)
 ·obtain⟨p,a,b,s,l,rfl,_⟩:=h
  rfl
 obtain⟨p,a,b,st,l,rfl,⟨dx,hp⟩,ha,hb,k⟩:=h
 have CL:=T.cl
 refine⟨_,(ao (aP (pL (oo (vI (pv 0) CL m_unpleased.me m_unpleased.ok (hr.mono (by decide)) m_unpleased.bn .nil bh (aa (pv 1) ag))) (dH (pv 0) rfl) aj))),?_⟩
 refine⟨_,rfl,p,dx,_,rfl,hp,B4 _ _ _ (by decide +kernel) (by decide +kernel) (by decide +kernel),_,rfl,p,a,b,st,l,rfl,⟨dx,hp⟩,ha,hb,_,rfl,?_⟩
 refine ite2 (fun c=>?_) (fun c=>?_)
 ·refine⟨_,rfl,p,C,dx,_,_,rfl,hp,T.cl,T.n3,tf_str _ _ _,?_⟩
  rw[if_pos c]at k
  exact k
 ·rw[if_neg c]at k
  exact k
theorem Ca:aE ["web","laying"] ["web","laying"] (ah jW):=⟨rfl,rfl,rfl,by decide +kernel,rfl,by decide +kernel,by decide +kernel⟩
theorem Eb{f PL PS WC f0 f1:Addr}{fd d0 d1:FuncData} (F:Fun K "worth" "worth" jW f fd) (T:Txt mg) (cw:CW K WC) (TL:CT K PL) (TS:CT K PS) (r0:Met P w K mg base 3 PL "price" ["self","laying"] (l8 PL false) f0 d0) (r1:Met P w K mg base 3 PS "price" ["self","laying"] (l8 PS true) f1 d1) :
  FnOk P w K mg base CX0 4 f fd ["web","laying"] (An PL PS WC):=by
 refine F.ok Ca (fun vs H Q E h=>?_) (fun cdv A outer s H vs Q E hr h=>?_)
 ·obtain⟨p,es,ks,l,rfl,_⟩:=h
  rfl
 obtain⟨p,es,ks,l,rfl,⟨⟨dx,fs,q1,xs,hp,hlk,hq1,tk⟩,kl,few⟩,kk⟩:=h
 have CL0:=TL.cl
 have CL1:=TS.cl
 have hxl:xs.length=es.length:=tk.1
 refine⟨_,(ao (aP (aw (yH rfl) (by rfl) T.n_sum DE (aa (eR rfl (fr:=[("laying",1)]) (by exact bI.one (by rfl) (by decide +kernel) (by rfl) (by decide +kernel) (by rfl) (by decide +kernel) (by rfl) (by rfl) (by decide +kernel) (by rfl)) (bL (dH (pv 0) rfl)) (fun C ex s H=>(pe_or (vI (pv 0) CL0 r0.me r0.ok (hr.mono (by decide)) r0.bn .nil bh (aa (pv 1) ag)) (vI (pv 0) CL1 r1.me r1.ok (hr.mono (by decide)) r1.bn .nil bh (aa (pv 1) ag))))) ag)))),?_⟩
 refine⟨_,rfl,p,WC,dx,fs,_,rfl,hp,cw.cl,cw.n2,hlk,q1,rfl,⟨_,SqL.of hq1⟩,cW (K:=K) (xs:=xs) (fun i ys H2=>H2=H/\ys=(prL ks (U es ks l) i).map V.int) (F0 (ax (by omega))) ⟨rfl,rfl⟩ (fun i ys H2 _ z=>z.1▸SqL.of hq1) ?_ ?_⟩
 ·rintro i x ys H2 hx ⟨rfl,rfl⟩
  have hi:i<es.length:=by rw[← tk.1];exact(E3.mp hx).1
  obtain⟨e,he⟩:∃ e,es[i]?=some e:=⟨_,E4 hi⟩
  obtain⟨k,hk⟩:∃ k,ks[i]?=some k:=⟨_,E4 (by omega)⟩
  obtain⟨p',dx',x1,x2⟩:=tk.2 i e k he hk
  rw[hx]at x1
  cases x1
  have hU:=U_at (l:=l) he hk
  have hs:stg ks i=k.2:=by unfold stg;rw[hk]
  have tail:∀ v:Int,v=(if U es ks l i=true then stg ks i else 0)->H2=H2/\(prL ks (U es ks l) i).map V.int++[V.int v]=(prL ks (U es ks l) (i+1)).map V.int:=fun v hv=>by
   rw[yb,← hv,FH]
   exact⟨rfl,rfl⟩
  by_cases c:k.1=1
  ·rw[decide_eq_true c]at x2 hU
   refine .inr ⟨_,rfl,p',dx',_,rfl,x2,B4 _ _ _ (by decide +kernel) (by decide +kernel) (by decide +kernel),_,rfl,p',_,_,_,l,rfl,⟨dx',x2⟩,by omega,by omega,?_⟩
   exact tail _ (by rw[hU,hs])
  ·rw[decide_eq_false c]at x2 hU
   refine .inl ⟨_,rfl,p',dx',_,rfl,x2,B4 _ _ _ (by decide +kernel) (by decide +kernel) (by decide +kernel),_,rfl,p',_,_,_,l,rfl,⟨dx',x2⟩,by omega,by omega,?_⟩
   exact tail _ (by rw[hU,hs])
 ·rintro ys H2 _ ⟨rfl,rfl⟩ D hD
  rw[hxl]
  exact⟨D,_,rfl,SqL.of ae,kk _ (ak hD _)⟩
end
end K8
namespace K8
open PySem L2
local macro_rules | `(tactic| walk_at "cc") => `(tactic| first | exact ⟨by decide, by decide⟩ | (show (0 : Int) < _; decide) | (show (0 : Int) < _; omega) | (show (0 : Int) ≤ _; omega) | exact ⟨by decide, by decide, by decide⟩ | exact ⟨by omega, by omega, by decide⟩ | exact Or.inl ⟨by decide, by decide⟩ | exact Or.inl ⟨by omega, by omega⟩)
local macro_rules | `(tactic| walk_at "rd") => `(tactic| repeat (first | refine ⟨_, rfl, ?_⟩ | refine ⟨_, _, rfl, rfl, ?_⟩ | refine ⟨rfl, ?_⟩ | (refine ⟨?cc, ?_⟩; (case cc => walk_at "cc"))))
def Cg(ks:Kn)(t:Nat):Bool:=match ks[t]? with | some k=>decide (k.1=1) | none=>false
def UN(es:En)(ks:Kn)(L t:Nat):Bool:=match es[t]? with | some e=>(L.testBit e.1 ^^ L.testBit e.2 ^^ Cg ks t) | none=>false
theorem UN_at{es:En}{ks:Kn}{L t:Nat}{e:Nat×Nat}(h:es[t]?=some e):UN es ks L t=(L.testBit e.1 ^^ L.testBit e.2 ^^ Cg ks t):=by unfold UN;rw[h]
theorem x8{ks:Kn}{t:Nat}{k:Int×Int}(h:ks[t]?=some k):Cg ks t=decide (k.1=1):=by unfold Cg;rw[h]
theorem stg_at{ks:Kn}{t:Nat}{k:Int×Int}(h:ks[t]?=some k):stg ks t=k.2:=by unfold stg;rw[h]
def wS(es:En)(ks:Kn)(L:Nat):Nat->Int
 |0=>0
 |i+1=>if UN es ks L i=true then wS es ks L i+stg ks i else wS es ks L i
def wT(es:En)(ks:Kn)(L:Nat):Int:=wS es ks L es.length
def dQ(es:En)(ks:Kn)(m:Nat):List Int:=(GC (2^m)).map (wT es ks)
theorem iF(es:En)(ks:Kn)(m:Nat):(dQ es ks m).length=2^m:=by unfold dQ;rw[Fc,HC]
theorem xorI{a b:Nat}(L:Nat):Builtin.bitAnd (Builtin.bitXor ((L:Int)/2^((a:Nat):Int).toNat) ((L:Int)/2^((b:Nat):Int).toNat)) 1=if(L.testBit a ^^ L.testBit b)=true then 1 else 0:=by
 rw[Aa]
 have h1:=bitN L a
 have h2:=bitN L b
 unfold bit at h1 h2
 rw[h1,h2]
 cases L.testBit a<;>cases L.testBit b<;>rfl
theorem UN_is{es:En}{ks:Kn}{L k:Nat}{e:Nat×Nat}{kk:Int×Int}(he:es[k]?=some e)(hk:ks[k]?=some kk)(k1:kk.1=0∨kk.1=1):(!decide (V.int (if(L.testBit e.1 ^^ L.testBit e.2)=true then 1 else 0)=V.int kk.1))=UN es ks L k:=by
 rw[UN_at he,x8 hk]
 rcases k1 with z | z
 ·rw[z]
  cases L.testBit e.1<;>cases L.testBit e.2<;>rfl
 ·rw[z]
  cases L.testBit e.1<;>cases L.testBit e.2<;>rfl
theorem rV{m:Nat}(h:m<=10):(0:Int)<((2^m:Nat):Int)/\((2^m:Nat):Int)<=1024/\(2:Nat)^m<=1024/\0<2^m:=by
 have p2:(2:Nat)^m<=2^10:=Nat.pow_le_pow_right (by decide) h
 have e:(2:Nat)^10=1024:=by decide
 rw[e]at p2
 have p0:0<2^m:=Nat.two_pow_pos m
 exact⟨by omega,by omega,p2,p0⟩
def DS(K:E6):Sp:=fun vs H Q _=>∃(pe pk:Addr)(ys ws:List V)(es:En)(ks:Kn)(L:Nat),vs = [.ref pe,.ref pk,.int (L:Int)]/\SqL K H pe ys/\da H ys es/\SqL K H pk ws/\h7 H ws ks/\ks.length=es.length/\es.length<=900/\Q (.int (wT es ks L)) H
def vf:Sp:=fun vs H Q _=>∃(t pe pt pr pk:Addr)(m:Nat)(es:En)(ts:List (List Nat))(ks:Kn),vs = [.ref t,.ref pk]/\H t=some (.tup [.ref pe,.ref pt,.ref pr])/\WebP H pe pt m es ts/\(∃ ws,H pk=some (.lst ws)/\h7 H ws ks)/\ks.length=es.length/\es.length<=900/\m<=10/\∀(q:Addr)(H':Hp),Same H H'->H q=none->H' q=some (.lst ((dQ es ks m).map V.int))->Q (.ref q) H'
section
variable{P:Program}{w:World}{K:E6}{mg:Str->Option Value}{base:Heap}
theorem cS:aE ["ends","kinds","laying","found","k","unlike"] ["ends","kinds","laying"] (ah cE):=⟨rfl,rfl,rfl,by decide +kernel,rfl,by decide +kernel,by decide +kernel⟩
theorem Cu{f:Addr}{fd:FuncData} (F:Fun K "_law_worth" "_law_worth" cE f fd) (T:Txt mg):FnOk P w K mg base CX0 1 f fd ["ends","kinds","laying"] (DS K):=by
 refine F.ok cS (fun vs H Q E h=>?_) (fun cdv A outer s H vs Q E hr h=>?_)
 ·obtain⟨pe,pk,ys,ws,es,ks,L,rfl,_⟩:=h
  rfl
 obtain⟨pe,pk,ys,ws,es,ks,L,rfl,hpe,hE,hpk,tk,kl,e9,kk⟩:=h
 have hyl:ys.length=es.length:=hE.1
 refine⟨_,(af (au (i:=3) cS.nd rfl (Or.inl rfl) aj)
   (af (cq PassesOwn.never rfl (aY rfl T.n_range (aa (aw aq (by rfl) T.n_len aU (aa (pv 0) ag)) ag)) (aX (i:=4) cS.nd rfl (Or.inl rfl)) (af (au (i:=5) cS.nd rfl (Or.inl rfl) (ar AS (ar ye (ar yf (pv 2) (aG bf (aG az (pv 0) (pv 4) (fun _ _=>rfl)) aj (fun _ _=>rfl))) (ar yf (pv 2) (aG bf (aG az (pv 0) (pv 4) (fun _ _=>rfl)) aj (fun _ _=>rfl)))) aj))
   (ao (cM (aK vN (pv 5) (aG bf (aG az (pv 1) (pv 4) (fun _ _=>rfl)) aj (fun _ _=>rfl)) (aR _)) (ao (au (i:=3) cS.nd rfl (Or.inl rfl) (ar bC (pv 3) (aG bf (aG az (pv 1) (pv 4) (fun _ _=>rfl)) aj (fun _ _=>rfl))))) aW))))
   (ao (aP (pv 3))))),?_⟩
 refine⟨_,rfl,pe,ys,rfl,.inl hpe,_,rfl,by omega,by omega,cz (n:=(ys.length:Int).toNat) (fun i σ H2=>∃(v4 v5:Option V),σ = [some (.ref pe),some (.ref pk),some (.int (L:Int)),some (.int (wS es ks L i)),v4,v5]/\H2=H) ⟨_,_,rfl,rfl⟩ ?_ ?_⟩
 ·rintro k σ H2 hk ⟨v4,v5,rfl,rfl⟩
  rw[Fn,hyl]at hk
  have e0:(0:Int)+(k:Int)=(k:Int):=Gy _
  rw[e0]
  obtain⟨e,he⟩:∃ e,es[k]?=some e:=⟨_,E4 hk⟩
  obtain⟨kk',hk'⟩:∃ x,ks[k]?=some x:=⟨_,E4 (by omega)⟩
  obtain⟨p,x1,x2⟩:=hE.2 k e he
  obtain⟨k1,k2,pk',y1,y2⟩:=tk.2 k kk' hk'
  refine⟨_,rfl,_,rfl,_,rfl,pe,ys,_,_,rfl,rfl,hpe,ay x1,p,_,0,_,rfl,rfl,SqT.of x2,at0,_,_,rfl,rfl,(show(0:Int)<=(e.1:Int) by omega),_,rfl,_,rfl,_,rfl,pe,ys,_,_,rfl,rfl,hpe,ay x1,p,_,1,_,rfl,rfl,SqT.of x2,at1,_,_,rfl,rfl,(show(0:Int)<=(e.2:Int) by omega),_,_,rfl,rfl,_,_,rfl,rfl,?_⟩
  dsimp only
  rw[xorI]
  refine⟨_,rfl,_,rfl,_,rfl,pk,ws,_,_,rfl,rfl,hpk,ay y1,pk',_,0,_,rfl,rfl,SqT.of y2,at0,rfl,_,rfl,ite2 (fun c=>?_) (fun c=>?_)⟩
  ·have cu:UN es ks L k=true:=(UN_is he hk' k1).symm.trans c
   refine⟨_,rfl,_,rfl,_,rfl,pk,ws,_,_,rfl,rfl,hpk,ay y1,pk',_,1,_,rfl,rfl,SqT.of y2,at1,_,_,rfl,rfl,?_⟩
   refine⟨some (.int (k:Int)),some (.int (if(L.testBit e.1 ^^ L.testBit e.2)=true then 1 else 0)),?_,rfl⟩
   have h1:wS es ks L (k+1)=wS es ks L k+kk'.2:=by
    show(if UN es ks L k=true then _ else _)=_
    rw[if_pos cu,stg_at hk']
   rw[h1]
   rfl
  ·have cu:¬ UN es ks L k=true:=fun z=>c ((UN_is he hk' k1).trans z)
   refine⟨some (.int (k:Int)),some (.int (if(L.testBit e.1 ^^ L.testBit e.2)=true then 1 else 0)),?_,rfl⟩
   have h1:wS es ks L (k+1)=wS es ks L k:=by
    show(if UN es ks L k=true then _ else _)=_
    rw[if_neg cu]
   rw[h1]
   rfl
 ·rintro σ H2 ⟨v4,v5,rfl,rfl⟩
  rw[Fn,hyl]
  exact⟨_,rfl,kk⟩
theorem rP:aE ["grown","kinds"] ["grown","kinds"] (ah cJ):=⟨rfl,rfl,rfl,by decide +kernel,rfl,by decide +kernel,by decide +kernel⟩
theorem CI{f fw:Addr}{fd dw:FuncData} (F:Fun K "_law_costs" "_law_costs" cJ f fd) (T:Txt mg) (G_law_worth:Cal P w K mg base 1 "_law_worth" ["ends","kinds","laying"] (DS K) fw dw):FnOk P w K mg base CX0 2 f fd ["grown","kinds"] vf:=by
 refine F.ok rP (fun vs H Q E h=>?_) (fun cdv A outer s H vs Q E hr h=>?_)
 ·obtain⟨t,pe,pt,pr,pk,m,es,ts,ks,rfl,_⟩:=h
  rfl
 obtain⟨t,pe,pt,pr,pk,m,es,ts,ks,rfl,ht,⟨⟨ys,hpe,hE⟩,⟨xs,hpt,hR⟩,g⟩,⟨ws,hpk,tk⟩,kl,e9,m10,kk⟩:=h
 have hxl:xs.length=m:=by rw[hR.1,g.w.len]
 obtain⟨q1,q2,q3,q4⟩:=rV m10
 refine⟨_,(ao (aP (Cp rfl (fr:=[("kinds",1),("grown",0)]) (xs:=["laying"]) (uM.of (by rfl) (by decide +kernel) (by rfl) (by decide +kernel) (by intro p hp;simp only[Fb,GF,or_false]at hp;rcases hp with rfl | rfl<;>exact⟨rfl,rfl⟩) (by decide +kernel) (by intro p hp;simp only[Fb,GF,or_false]at hp;rcases hp with rfl | rfl<;>rfl)) (aY rfl T.n_range (aa (ar kI aj (aw aq (by rfl) T.n_len aU (aa (aG bf (pv 0) aj (fun _ _=>rfl)) ag))) ag)) (fun C ex s H=>(aX (i:=0) (show(["laying","kinds","grown"]:List Str).Nodup from by decide +kernel) rfl (Or.inl rfl))) (fun C ex s H=>D4) (fun C ex s H=>(aH G_law_worth.ok (hr.mono (by decide)) rfl G_law_worth.mg G_law_worth.kp G_law_worth.bn .nil bh (aa (aG (EA (K:=K) rfl) (pv 2) aj (fun _ _=>rfl)) (aa (pv 1) (aa (pv 0) ag)))))))),?_⟩
 have esh:(1:Int)*2^((xs.length:Int)).toNat=((2^m:Nat):Int):=by rw[hxl];exact shlN m
 refine⟨_,rfl,t,_,1,_,rfl,rfl,SqT.of ht,at31,pt,xs,rfl,.inl (SqL.of hpt),_,_,rfl,rfl,⟨by omega +splitDisjunctions,by omega +splitDisjunctions,by decide⟩,((2^m:Nat):Int),congrArg (fun z=>[V.int z]) esh,by omega +splitDisjunctions,by omega +splitDisjunctions,xn (k:=((2^m:Nat):Int).toNat) (fun i zs H2=>H2=H/\zs=((GC i).map (wT es ks)).map V.int) (by rw[Fn];exact F4 q3 (by decide)) ⟨rfl,rfl⟩ ?_ ?_ ?_⟩
 ·rintro i zs H2 hi ⟨rfl,rfl⟩
  rw[Gy]
  refine⟨rfl,yesT ?_⟩
  refine⟨_,rfl,t,_,0,_,rfl,rfl,SqT.of ht,at30,_,rfl,_,rfl,pe,pk,ys,ws,es,ks,i,rfl,SqL.of hpe,hE,SqL.of hpk,tk,kl,e9,rfl,?_⟩
  rw[HM,FH,FH]
  rfl
 ·rintro zs H2 ⟨rfl,rfl⟩ D hD
  rw[Fn]
  exact kk D _ (ak hD _) hD ae
 ·rintro i zs H2 ⟨_,rfl⟩
  rw[Fc,Fc,HC]
  exact Ff _
end
end K8
namespace K8
open PySem L2
local macro_rules | `(tactic| walk_at "cc") => `(tactic| first | exact ⟨by decide, by decide⟩ | (show (0 : Int) < _; decide) | (show (0 : Int) < _; omega) | (show (0 : Int) ≤ _; omega) | exact ⟨by decide, by decide, by decide⟩ | exact ⟨by omega, by omega, by decide⟩ | exact Or.inl ⟨by decide, by decide⟩ | exact Or.inl ⟨by omega, by omega⟩)
local macro_rules | `(tactic| walk_at "rd") => `(tactic| repeat (first | refine ⟨_, rfl, ?_⟩ | refine ⟨_, _, rfl, rfl, ?_⟩ | refine ⟨rfl, ?_⟩ | (refine ⟨?cc, ?_⟩; (case cc => walk_at "cc"))))
theorem Co{X:Cx}{x:Str}{n:Int}{pos:Pos}(hg:Gl X x)(hm:∃ t,X.mg x=some (.int n t)) (hd:(x == ("__debug__" : Str))=false:=by decide):PE X (.Name x pos) (tC (.int n)):=by
 obtain⟨t,h⟩:=hm
 exact D9 hg h ⟨t,rfl⟩ hd
inductive Rc(m:Nat)(R:Nat->Nat->Bool)(s:Nat):Nat->Prop
 |base:Rc m R s s
 |step {x p:Nat}:Rc m R s x->p<m->R x (x^^^2^p)=true->Rc m R s (x^^^2^p)
abbrev Ls:=List (Nat×Option Nat)
structure Come(m:Nat)(R:Nat->Nat->Bool)(s:Nat)(L:Ls):Prop where
 hd:L[0]?=some (s,none)
 nd:(L.map (·.1)).Nodup
 lt:∀ n∈L.map (·.1),n<2^m
 par:∀(i n:Nat)(o:Option Nat),L[i]?=some (n,o)->0<i->∃(j x:Nat)(o':Option Nat)(p:Nat),j<i/\L[j]?=some (x,o')/\o=some x/\p<m/\n=x^^^2^p/\R x n=true
def Done(m:Nat)(R:Nat->Nat->Bool)(L:Ls)(n:Nat):Prop:=∀ p,p<m->R n (n^^^2^p)=true->n^^^2^p∈L.map (·.1)
theorem qA{m x p:Nat}(hx:x<2^m)(hp:p<m):x^^^2^p<2^m:=Nat.xor_lt_two_pow hx (Nat.pow_lt_pow_right (by decide) hp)
theorem Come.one{m:Nat}{R:Nat->Nat->Bool}{s:Nat}(h:s<2^m):Come m R s [(s,none)] :=
 ⟨rfl,Fd.mpr ⟨GF,GJ⟩,fun n hn=>by rw[Fp.mp hn];exact h,fun i n o e h0=>by
  match i,e,h0 with
  |i+1,e,_=>cases e⟩
theorem Come.snoc{m:Nat}{R:Nat->Nat->Bool}{s:Nat}{L:Ls}(h:Come m R s L){x p:Nat}(hx:x∈L.map (·.1))(hp:p<m)(hR:R x (x^^^2^p)=true)(hn:x^^^2^p∉L.map (·.1)):Come m R s (L++[(x^^^2^p,some x)]):=by
 obtain⟨⟨x',o'⟩,hm,rfl⟩:=FW.mp hx
 obtain⟨j,hj⟩:=FU.mp hm
 have jl:=(E3.mp hj).1
 have l0:0<L.length:=(E3.mp h.hd).1
 refine⟨by rw[E8 l0];exact h.hd,?_,fun n hn'=>?_,fun i n o e h0=>?_⟩
 ·rw[FH]
  refine Fj.mpr ⟨h.nd,Fd.mpr ⟨GF,GJ⟩,fun a ha b hb e=>?_⟩
  rw[Fp.mp hb]at e
  have e':a=x'^^^2^p:=e
  exact hn (by rw[← e'];exact ha)
 ·rw[FH]at hn'
  rcases Fe.mp hn' with z | z
  ·exact h.lt n z
  ·rw[Fp.mp z];exact qA (h.lt _ hx) hp
 ·by_cases c:i<L.length
  ·rw[E8 c]at e
   obtain⟨j',x',o',p',a1,a2,a3⟩:=h.par i n o e h0
   exact⟨j',x',o',p',a1,by rw[E8 (by omega)];exact a2,a3⟩
  ·have:i<(L++[(x'^^^2^p,some x')]).length:=(E3.mp e).1
   rw[E5,Fl]at this
   have:i=L.length:=by omega
   subst this
   rw[E9 (Ff _),FA]at e
   cases e
   exact⟨j,x',o',p,jl,by rw[E8 jl];exact hj,rfl,hp,rfl,hR⟩
theorem Come.sound{m:Nat}{R:Nat->Nat->Bool}{s:Nat}{L:Ls}(h:Come m R s L):∀(k i n:Nat)(o:Option Nat),i<=k->L[i]?=some (n,o)->Rc m R s n:=by
 intro k
 induction k with
 |zero =>
  intro i n o hi e
  have:i=0:=by omega
  subst this
  rw[h.hd]at e
  cases e
  exact .base
 |succ k ih =>
  intro i n o hi e
  by_cases h0:0<i
  ·obtain⟨j,x,o',p,a1,a2,a3,a4,a5,a6⟩:=h.par i n o e h0
   subst a5
   exact .step (ih j x o' (by omega) a2) a4 a6
  ·exact ih i n o (by omega) e
theorem Come.all{m:Nat}{R:Nat->Nat->Bool}{s:Nat}{L:Ls}(h:Come m R s L)(hd:∀ n∈L.map (·.1),Done m R L n)(n:Nat):n∈L.map (·.1)↔Rc m R s n:=by
 constructor
 ·intro hn
  obtain⟨⟨x,o⟩,hm,rfl⟩:=FW.mp hn
  obtain⟨j,hj⟩:=FU.mp hm
  exact h.sound j j x o (Ff _) hj
 ·intro r
  induction r with
  |base=>exact FW.mpr ⟨(s,none),E7 h.hd,rfl⟩
  |step _ hp hR ih=>exact hd _ ih _ hp hR
theorem Come.len{m:Nat}{R:Nat->Nat->Bool}{s:Nat}{L:Ls}(h:Come m R s L):L.length<=2^m:=by
 have:=c7 h.nd h.lt
 rw[Fc]at this
 exact this
def oNV:Option Nat->V
 |none=>.non
 |some x=>.int (x:Int)
def kvL(L:Ls):List (Key×V):=L.map fun x=>(Sum.inl (x.1:Int),oNV x.2)
theorem Ex(L:Ls):(kvL L).length=L.length:=Fc ..
theorem Bg(L:Ls)(n:Nat):(valV (kvL L) (Sum.inl (n:Int))).isSome=decide (n∈L.map (·.1)):=by
 rw[← ie]
 unfold kvL
 induction L with
 |nil=>rfl
 |cons x L ih =>
  rw[FX,Ic,ih,FX]
  by_cases c:x.1=n
  ·subst c;simp
  ·have c2:¬ (Sum.inl (x.1:Int):Key)=Sum.inl (n:Int):=fun z=>c (by have:=Sum.inl.inj z;omega)
   have c3:¬ n=x.1:=fun z=>c z.symm
   simp[c2,c3]
theorem Ew{L:Ls}{n x:Nat}(h:n∉L.map (·.1)):putK (kvL L) (Sum.inl (n:Int)) (.int (x:Int))=kvL (L++[(n,some x)]):=by
 have:valV (kvL L) (Sum.inl (n:Int))=none:=by
  have e:=Bg L n
  rw[decide_eq_false h]at e
  cases z:valV (kvL L) (Sum.inl (n:Int)) with
  |none=>rfl
  |some v=>rw[z]at e;cases e
 rw[Cf _ this]
 unfold kvL
 rw[FH]
 rfl
theorem Done.mono{m:Nat}{R:Nat->Nat->Bool}{L:Ls}{n:Nat}(h:Done m R L n)(y:Nat×Option Nat):Done m R (L++[y]) n:=fun p hp hR=>by
 rw[FH]
 exact FD _ (h p hp hR)
def l7(m L:Nat):List Nat:=(GC m).map fun p=>L^^^2^p
structure og(m:Nat)(R:Nat->Nat->Bool)(s:Nat)(L:Ls)(rest fw:List Nat):Prop where
 c:Come m R s L
 rk:∀ n∈rest,n∈L.map (·.1)
 fk:∀ n∈fw,n∈L.map (·.1)
 dn:∀ n∈L.map (·.1),n∉rest->n∉fw->Done m R L n
def Half(m:Nat)(R:Nat->Nat->Bool)(L:Ls)(x j:Nat):Prop:=∀ p,p<j->R x (x^^^2^p)=true->x^^^2^p∈L.map (·.1)
theorem og.put{m:Nat}{R:Nat->Nat->Bool}{s:Nat}{L:Ls}{rest fw:List Nat}(h:og m R s L rest fw){x p:Nat}(hx:x∈rest)(hp:p<m)(hR:R x (x^^^2^p)=true)(hn:x^^^2^p∉L.map (·.1)):og m R s (L++[(x^^^2^p,some x)]) rest (fw++[x^^^2^p]):=by
 have mo:∀ n,n∈L.map (·.1)->n∈(L++[(x^^^2^p,some x)]).map (·.1):=fun n z=>by rw[FH];exact FD _ z
 have ls:x^^^2^p∈(L++[(x^^^2^p,some x)]).map (·.1):=by rw[FH];exact Fm _ (Fp.mpr rfl)
 refine⟨h.c.snoc (h.rk x hx) hp hR hn,fun n z=>mo n (h.rk n z),fun n z=>?_,fun n z z1 z2=>?_⟩
 ·rcases Fe.mp z with z | z
  ·exact mo n (h.fk n z)
  ·rw[Fp.mp z];exact ls
 ·rw[FH]at z
  rcases Fe.mp z with z | z
  ·exact(h.dn n z z1 fun y=>z2 (FD _ y)).mono _
  ·exact absurd (Fm _ (Fp.mpr (Fp.mp z))) z2
theorem og.next{m:Nat}{R:Nat->Nat->Bool}{s:Nat}{L:Ls}{x:Nat}{rest fw:List Nat}(h:og m R s L (x::rest) fw)(hh:Half m R L x m):og m R s L rest fw :=
 ⟨h.c,fun n z=>h.rk n (Fh _ z),h.fk,fun n z z1 z2=>by
  by_cases c:n=x
  ·subst c;exact hh
  ·exact h.dn n z (fun y=>(Fb.mp y).elim c z1) z2⟩
theorem U_UN{es:En}{ks:Kn}{L t:Nat}(h1:t<es.length)(kl:ks.length=es.length)(kin:∀ k∈ks,k.1=0∨k.1=1):U es ks (L:Int) t=UN es ks L t:=by
 obtain⟨e,he⟩:∃ e,es[t]?=some e:=⟨_,E4 h1⟩
 obtain⟨k,hk⟩:∃ k,ks[t]?=some k:=⟨_,E4 (by omega)⟩
 rw[U_at he hk,UN_at he,x8 hk]
 unfold unp
 rw[bitN,bitN]
 rcases kin k (E7 hk)with z | z
 ·rw[z]
  cases L.testBit e.1<;>cases L.testBit e.2<;>rfl
 ·rw[z]
  cases L.testBit e.1<;>cases L.testBit e.2<;>rfl
theorem Dv{es:En}{ks:Kn}{L:Nat}(kl:ks.length=es.length)(kin:∀ k∈ks,k.1=0∨k.1=1):∀ n:Nat,n<=es.length->(prL ks (U es ks (L:Int)) n).sum=wS es ks L n
 |0,_=>rfl
 |n+1,h=>by
  have ih:=Dv (L:=L) kl kin n (by omega)
  rw[yb,List.sum_append,ih,U_UN (by omega) kl kin]
  show wS es ks L n+((if UN es ks L n=true then stg ks n else 0)+0)=if UN es ks L n=true then wS es ks L n+stg ks n else wS es ks L n
  split<;>omega
structure TxtC(mg:Str->Option Value):Prop extends TxtM mg where
 mplc:∃ t,mg "MOST_PLACES" = some (.int 10 t)
structure WebC(PL PS WC:Addr)(H:Hp)(p:Addr)(m:Nat)(es:En)(ks:Kn):Prop where
 w:BV PL PS WC H p es ks
 many:∃ dx fs,H p=some (.ins WC dx fs)/\fs.lookup ("many" : Str)=some (.int (m:Int))
 m10:m<=10
 kin:∀ k∈ks,k.1=0∨k.1=1
theorem WebC.mono{PL PS WC:Addr}{H H':Hp}{p:Addr}{m:Nat}{es:En}{ks:Kn}(h:WebC PL PS WC H p m es ks)(s:Same H H'):WebC PL PS WC H' p m es ks:=by
 obtain⟨a,⟨dx,fs,b,c⟩,d,e⟩:=h
 exact⟨a.mono s,⟨dx,fs,s _ _ b,c⟩,d,e⟩
def Aw(PL PS WC:Addr):Sp:=fun vs H Q _=>∃(p:Addr)(m:Nat)(es:En)(ks:Kn),vs = [.ref p]/\WebC PL PS WC H p m es ks/\∀(q:Addr)(H':Hp),Same H H'->H q=none->H' q=some (.lst ((dQ es ks m).map V.int))->Q (.ref q) H'
def uX(PL PS WC:Addr):Sp:=fun vs H Q _=>∃(p:Addr)(m:Nat)(es:En)(ks:Kn)(L:Nat),vs = [.ref p,.int (L:Int)]/\WebC PL PS WC H p m es ks/\∀(q:Addr),H q=none->Q (.ref q) (upd H q (.lst ((l7 m L).map iV)))
def lqC:Str:=("falls" : Str)++".<locals>."++"<lambda>"
def LetP(H:Hp)(f:Addr)(m:Nat)(R:Nat->Nat->Bool):Prop:=∃ cs,xO lqC H f cs/\cs.length=2^m/\∀ x y,R x y=decide (cs.getD y 0<=cs.getD x 0)
theorem LetP.mono{H H':Hp}{f:Addr}{m:Nat}{R:Nat->Nat->Bool}(h:LetP H f m R)(s:Same H H'):LetP H' f m R:=by
 obtain⟨cs,a,b,c⟩:=h
 exact⟨cs,a.mono s,b,c⟩
theorem qy{cs:List Int}{k:Nat}(h:k<cs.length):cs[k]?=some (cs.getD k 0):=by rw[Hu,E4 h];rfl
def Av(PL PS WC:Addr):Sp:=fun vs H Q _=>∃(p f:Addr)(m s:Nat)(es:En)(ks:Kn)(R:Nat->Nat->Bool),vs = [.ref p,.int (s:Int),.ref f]/\WebC PL PS WC H p m es ks/\LetP H f m R/\s<2^m /\
 ∀(d:Addr)(L:Ls)(H':Hp),Same H H'->H d=none->H' d=some (.dK (kvL L))->Come m R s L->(∀ n,n∈L.map (·.1)↔Rc m R s n)->Q (.ref d) H'
section
variable{P:Program}{w:World}{K:E6}{mg:Str->Option Value}{base:Heap}
theorem pz:aE ["web"] ["web"] (ah cb):=⟨rfl,rfl,rfl,by decide +kernel,rfl,by decide +kernel,by decide +kernel⟩
theorem Ej{f fw PL PS WC:Addr}{fd dw:FuncData} (F:Fun K "all_worths" "all_worths" cb f fd) (T:TxtC mg) (cw:CW K WC) (G_worth:Cal P w K mg base 4 "worth" ["web","laying"] (An PL PS WC) fw dw):FnOk P w K mg base CX0 5 f fd ["web"] (Aw PL PS WC):=by
 refine F.ok pz (fun vs H Q E h=>?_) (fun cdv A outer s H vs Q E hr h=>?_)
 ·obtain⟨p,m,es,ks,rfl,_⟩:=h
  rfl
 obtain⟨p,m,es,ks,rfl,wc,kk⟩:=h
 obtain⟨dx,fs,hp,lm⟩:=wc.many
 have m10:=wc.m10
 obtain⟨q1,q2,q3,q4⟩:=rV m10
 refine⟨_,(af (cM (aK op_gt (dH (pv 0) rfl) (Co rfl T.mplc) (aR _)) (ao d8) aW)
   (ao (aP (eR rfl (fr:=[("web",0)]) (by exact bI.one (by rfl) (by decide +kernel) (by rfl) (by decide +kernel) (by rfl) (by decide +kernel) (by rfl) (by rfl) (by decide +kernel) (by rfl)) (aY rfl T.n_range (aa (ar kI aj (dH (pv 0) rfl)) ag)) (fun C ex s H=>(aH G_worth.ok (hr.mono (by decide)) rfl G_worth.mg G_worth.kp G_worth.bn .nil bh (aa (pv 1) (aa (pv 0) ag)))))))),?_⟩
 refine⟨_,rfl,p,WC,dx,fs,_,rfl,hp,cw.cl,cw.n1,lm,_,_,rfl,rfl,_,rfl,ite2 (fun c=>?_) (fun c=>?_)⟩
 ·exact absurd (of_decide_eq_true c) (by omega +splitDisjunctions)
 refine⟨_,rfl,p,WC,dx,fs,_,rfl,hp,cw.cl,cw.n1,lm,_,_,rfl,rfl,⟨by omega +splitDisjunctions,by omega +splitDisjunctions,by decide⟩,((2^m:Nat):Int),congrArg (fun z=>[V.int z]) (shlN m),by omega +splitDisjunctions,by omega +splitDisjunctions,fx (n:=((2^m:Nat):Int).toNat) (fun i zs H2=>Same H H2/\zs=((GC i).map (wT es ks)).map V.int) (by rw[Fn];exact F4 q3 (by decide)) ⟨fun _ _ z=>z,rfl⟩ ?_ ?_⟩
 ·rintro i zs H2 hi ⟨s2,rfl⟩
  rw[Gy]
  refine⟨_,rfl,_,rfl,p,es,ks,(i:Int),rfl,wc.w.mono s2,fun H3 s3=>?_⟩
  rw[Dv wc.w.kl wc.kin es.length (Ff _)]
  refine⟨s2.trans s3,?_⟩
  rw[HM,FH,FH]
  rfl
 rintro zs H2 _ ⟨s2,rfl⟩ D hD
 rw[Fn]
 exact kk D _ (s2.trans (ak hD _)) (bD s2 hD) ae
theorem pj:aE ["web","laying"] ["web","laying"] (ah bX):=⟨rfl,rfl,rfl,by decide +kernel,rfl,by decide +kernel,by decide +kernel⟩
theorem AV{f PL PS WC:Addr}{fd:FuncData} (F:Fun K "steps_from" "steps_from" bX f fd) (T:TxtC mg) (cw:CW K WC):FnOk P w K mg base CX0 1 f fd ["web","laying"] (uX PL PS WC):=by
 refine F.ok pj (fun vs H Q E h=>?_) (fun cdv A outer s H vs Q E hr h=>?_)
 ·obtain⟨p,m,es,ks,L,rfl,_⟩:=h
  rfl
 obtain⟨p,m,es,ks,L,rfl,wc,kk⟩:=h
 obtain⟨dx,fs,hp,lm⟩:=wc.many
 have m10:=wc.m10
 refine⟨_,(ao (aP (eR rfl (fr:=[("laying",1)]) (by exact bI.one (by rfl) (by decide +kernel) (by rfl) (by decide +kernel) (by rfl) (by decide +kernel) (by rfl) (by rfl) (by decide +kernel) (by rfl)) (aY rfl T.n_range (aa (dH (pv 0) rfl) ag)) (fun C ex s H=>(ar ye (pv 1) (ar kI aj (pv 0))))))),?_⟩
 refine⟨_,rfl,p,WC,dx,fs,_,rfl,hp,cw.cl,cw.n1,lm,_,rfl,by omega +splitDisjunctions,by omega +splitDisjunctions,fx (n:=(m:Int).toNat) (fun i zs H2=>H2=H/\zs=((GC i).map fun p=>L^^^2^p).map iV) (by rw[Fn];exact F0 (ax (by omega +splitDisjunctions))) ⟨rfl,rfl⟩ ?_ ?_⟩
 ·rintro i zs H2 hi ⟨rfl,rfl⟩
  rw[Fn]at hi
  rw[Gy]
  refine⟨_,rfl,_,rfl,_,_,rfl,rfl,⟨by omega +splitDisjunctions,by omega +splitDisjunctions,by decide⟩,_,_,rfl,rfl,rfl,?_⟩
  dsimp only
  rw[shlN,xorN,HM,FH,FH]
  rfl
 rintro zs H2 _ ⟨rfl,rfl⟩ D hD
 rw[Fn]
 exact kk D hD
theorem cC:aE ["web","start","let","ahead","row","further","here","there"] ["web","start","let"] (ah fm):=⟨rfl,rfl,rfl,by decide +kernel,rfl,by decide +kernel,by decide +kernel⟩
theorem Eh{f fs' PL PS WC:Addr}{fd ds:FuncData} (F:Fun K "come_to" "come_to" fm f fd) (T:TxtC mg) (G_steps_from:Cal P w K mg base 1 "steps_from" ["web","laying"] (uX PL PS WC) fs' ds):FnOk P w K mg base CX0 2 f fd ["web","start","let"] (Av PL PS WC):=by
 refine F.ok cC (fun vs H Q E h=>?_) (fun cdv A outer s H vs Q E hr h=>?_)
 ·obtain⟨p,f,m,s,es,ks,R,rfl,_⟩:=h
  rfl
 obtain⟨p,fl,m,st,es,ks,R,rfl,wc,lp,hs,kk⟩:=h
 have hu:=C2 hr
 have hu64:=hr.units
 have m10:=wc.m10
 obtain⟨q1,q2,q3,q4⟩:=rV m10
 refine⟨_,(af (au (i:=3) cC.nd rfl (Or.inl rfl) (Ea (Ci (pv 1) pe_non D6) rfl rfl (fun z=>by cases z) (by decide)))
   (af (au (i:=4) cC.nd rfl (Or.inl rfl) (bK (aa (pv 1) ag)))
   (af (lT PassesOwn.never (aK (op_neG hu64) (pv 4) (bK ag) (aR _)) (af (au (i:=5) cC.nd rfl (Or.inl rfl) (bK ag))
   (af (cq PassesOwn.never rfl (bL (pv 4)) (aX (i:=6) cC.nd rfl (Or.inl rfl)) (ao (cq PassesOwn.never rfl (bL (aH G_steps_from.ok (hr.mono (by decide)) rfl G_steps_from.mg G_steps_from.kp G_steps_from.bn .nil bh (aa (pv 0) (aa (pv 6) ag)))) (aX (i:=7) cC.nd rfl (Or.inl rfl)) (ao (cM (PW.pt (AG (ya (jv hu (pv 7) (pv 3))) (vw (oo (Cn (lq:=lqC) (i:=2) rfl (Or.inl rfl) (hr.mono (by decide)) (aa (pv 6) (aa (pv 7) ag))))))) (af (jY hu (pv 3) (pv 7) (pv 6) rfl)
   (ao (bg (gA FF FT FR bq (pv 5) (aa (pv 7) ag))))) aW)))))
   (ao (au (i:=4) cC.nd rfl (Or.inl rfl) (pv 5))))))
   (ao (aP (pv 3)))))),?_⟩
 intro d hd
 refine⟨_,rfl,ae,[(.inl (st:Int),.non)],rfl,(by show 1<=15;decide),?_⟩
 have sd:Same H (upd (upd H d (.dK [])) d (.dK (kJ [] [(.inl (st:Int),.non)]))):=aV (ak hd _) hd _
 have hd1:(upd (upd H d (.dK [])) d (.dK (kJ [] [(.inl (st:Int),.non)]))) d=some (.dK (kvL [(st,none)])):=by rw[ae];rfl
 generalize upd (upd H d (.dK [])) d (.dK (kJ [] [(.inl (st:Int),.non)]))=H1 at sd hd1
 refine⟨_,rfl,(by show 1<=sizeLine;decide),fun q hq=>?_⟩
 have sq:=ak hq (.lst [V.int (st:Int)])
 refine⟨fun mm σ H'=>∃(L:Ls)(wl:List Nat)(q:Addr)(v5 v6 v7:Option V),mm=2*(2^m-L.length)+(if wl = [] then 0 else 1)/\σ = [some (.ref p),some (.int (st:Int)),some (.ref fl),some (.ref d),some (.ref q),v5,v6,v7]/\Same H H'/\H' d=some (.dK (kvL L))/\H' q=some (.lst (wl.map iV))/\wl.length<=1024/\og m R st L wl [],⟨_,[(st,none)],[st],q,_,_,_,rfl,rfl,sd.trans sq,sq _ _ hd1,ae,(by show 1<=1024;decide),⟨Come.one hs,fun n hn=>hn,(fun n hn=>nomatch hn),fun n hn h1 _=>absurd hn h1⟩⟩,?_⟩
 rintro mm σ H3 ⟨L,wl,q,v5,v6,v7,rfl,rfl,s3,hd3,hq3,wll,go⟩
 refine⟨_,rfl,(by show 0<=sizeLine;exact Ge _),fun l hl=>?_⟩
 have sl:=ak hl (.lst [])
 refine⟨_,_,my (SqL.of (sl _ _ hq3)),my (ps:=[]) (SqL.of ae),fZ _,fZ _,_,rfl,?_⟩
 rw[yB]
 have s3l:=s3.trans sl
 have hd4:=sl _ _ hd3
 have hq4:=sl _ _ hq3
 generalize upd H3 l (.lst [])=H4 at s3l hd4 hq4
 refine ite2 (fun c=>?_) (fun c=>?_)
 ·have ne:wl≠[]:=fun z=>by rw[z,decide_eq_true rfl]at c;cases c
  refine⟨fun σ' H'=>∃(L':Ls)(wl':List Nat)(q:Addr)(v5 v6 v7:Option V),2*(2^m-L'.length)+(if wl' = [] then 0 else 1)<2*(2^m-L.length)+(if wl = [] then 0 else 1)/\σ' = [some (.ref p),some (.int (st:Int)),some (.ref fl),some (.ref d),some (.ref q),v5,v6,v7]/\Same H H'/\H' d=some (.dK (kvL L'))/\H' q=some (.lst (wl'.map iV))/\wl'.length<=1024/\og m R st L' wl' [],fun σ' H' ⟨L',wl',q',a5,a6,a7,lt,e1,e2,e3,e4,e5,e6⟩=>⟨_,lt,L',wl',q',a5,a6,a7,rfl,e1,e2,e3,e4,e5,e6⟩,?_⟩
  refine⟨(by show 0<=sizeLine;exact Ge _),fun fu hfu=>?_⟩
  have sfu:=ak hfu (.lst [])
  have dfu:d≠fu:=fun z=>by rw[← z,hd4]at hfu;cases hfu
  have qfu:q≠fu:=fun z=>by rw[← z,hq4]at hfu;cases hfu
  have dq:d≠q:=fun z=>by rw[← z,hd4]at hq4;cases hq4
  have hfu0:H fu=none:=bD s3l hfu
  have wlen:(wl.map iV).length=wl.length:=Fc _
  refine⟨_,rfl,q,rfl,⟨_,SqL.of (sfu _ _ hq4)⟩,eF (K:=K) (xs:=wl.map iV) (fun i σ H5=>∃(L':Ls)(fw:List Nat)(v6 v7:Option V),σ = [some (.ref p),some (.int (st:Int)),some (.ref fl),some (.ref d),some (.ref q),some (.ref fu),v6,v7]/\Same H H5/\H5 d=some (.dK (kvL L'))/\H5 q=some (.lst (wl.map iV))/\H5 fu=some (.lst (fw.map iV))/\L'.length=L.length+fw.length/\og m R st L' (wl.drop i) fw) ⟨L,[],_,_,rfl,s3l.trans sfu,sfu _ _ hd4,sfu _ _ hq4,ae,rfl,go⟩ (fun i σ H5 _ ⟨_,_,_,_,_,_,_,z,_⟩=>SqL.of z) ?_ ?_⟩
  ·rintro i xv σ H5 hxv ⟨L',fw,v6,v7,rfl,s5,hd5,hq5,hf5,ll,go5⟩
   rw[Fg]at hxv
   obtain⟨x,hx,rfl⟩:=F3.mp hxv
   have il:=(E3.mp hx).1
   have dr:wl.drop i=x::wl.drop (i+1):=by
    obtain⟨h1,h2⟩:=E3.mp hx
    rw[← h2]
    exact Gv h1
   rw[dr]at go5
   have xk:x∈x::wl.drop (i+1):=Fi ..
   have xlt:=go5.c.lt x (go5.rk x xk)
   refine⟨_,rfl,_,rfl,p,m,es,ks,x,rfl,wc.mono s5,fun r2 hr2=>?_⟩
   have sr:=ak hr2 (.lst ((l7 m x).map iV))
   have r2d:r2≠d:=fun z=>by rw[z,hd5]at hr2;cases hr2
   have r2f:r2≠fu:=fun z=>by rw[z,hf5]at hr2;cases hr2
   have slen:(l7 m x).length=m:=by unfold l7;rw[Fc,HC]
   refine⟨r2,rfl,⟨_,SqL.of ae⟩,eF (K:=K) (xs:=(l7 m x).map iV) (fun j σ H6=>∃(L2:Ls)(fw2:List Nat)(v7:Option V),σ = [some (.ref p),some (.int (st:Int)),some (.ref fl),some (.ref d),some (.ref q),some (.ref fu),some (iV x),v7]/\Same H H6/\H6 d=some (.dK (kvL L2))/\H6 q=some (.lst (wl.map iV))/\H6 fu=some (.lst (fw2.map iV))/\H6 r2=some (.lst ((l7 m x).map iV))/\L2.length=L.length+fw2.length/\og m R st L2 (x::wl.drop (i+1)) fw2/\Half m R L2 x j) ⟨L',fw,_,rfl,s5.trans sr,sr _ _ hd5,sr _ _ hq5,sr _ _ hf5,ae,ll,go5,fun p hp=>absurd hp (GL _)⟩ (fun j σ H6 _ ⟨_,_,_,_,_,_,_,_,z,_⟩=>SqL.of z) ?_ ?_⟩
   ·rintro j yv σ H6 hyv ⟨L2,fw2,v7,rfl,s6,hd6,hq6,hf6,hr6,ll6,go6,ha6⟩
    rw[Fg]at hyv
    obtain⟨y,hy,rfl⟩:=F3.mp hyv
    have jl:j<m:=by rw[← slen];exact(E3.mp hy).1
    have ey:y=x^^^2^j:=by
     unfold l7 at hy
     rw[Fg,Hs jl]at hy
     exact(Fu hy).symm
    subst ey
    have ylt:=qA xlt jl
    have L2l:=go6.c.len
    refine⟨_,rfl,_,rfl,d,_,rfl,DGet.k (k:=Sum.inl ((x^^^2^j:Nat):Int)) hd6,_,rfl,?_⟩
    rw[Bg]
    refine ite2 (fun c1=>?_) (fun c1=>?_)
    ·have yn:x^^^2^j∉L2.map (·.1):=fun z=>by rw[decide_eq_true z]at c1;cases c1
     obtain⟨cs,ll',cl,hRR⟩:=lp.mono s6
     refine⟨fl,rfl,⟨cs,ll'⟩,_,rfl,_,rfl,x,x^^^2^j,cs,_,_,rfl,ll',qy (by omega +splitDisjunctions),qy (by omega +splitDisjunctions),_,rfl,?_⟩
     refine ite2 (fun c2=>?_) (fun c2=>?_)
     ·have hR:R x (x^^^2^j)=true:=(hRR x (x^^^2^j)).trans c2
      refine⟨_,rfl,_,rfl,_,rfl,d,_,rfl,DPut.k (k:=Sum.inl ((x^^^2^j:Nat):Int)) hd6 (by rw[Ex];exact Gm (F4 L2l q3) (by decide)),?_⟩
      rw[show putK (kvL L2) (Sum.inl ((x^^^2^j:Nat):Int)) (iV x)=kvL (L2++[(x^^^2^j,some x)]) from Ew yn]
      have hf7:(upd H6 d (.dK (kvL (L2++[(x^^^2^j,some x)])))) fu=some (.lst (fw2.map iV)):=by rw[ai (Ne.symm dfu)];exact hf6
      have fl2:fw2.length<=1024:=by omega +splitDisjunctions
      refine⟨_,rfl,.inl ⟨rfl,_,SqL.of hf7⟩,_,rfl,fu,_,_,rfl,rfl,hf7,(by rw[Fc];exact Gm fl2 (by decide)),?_⟩
      refine⟨L2++[(x^^^2^j,some x)],fw2++[x^^^2^j],_,rfl,aV (aV s6 hd _) hfu0 _,?_,?_,?_,?_,by rw[E5,E5,Fl,Fl];omega +splitDisjunctions,go6.put xk jl hR yn,fun p hp hRp=>?_⟩
      ·rw[ai dfu];exact ae
      ·rw[ai qfu,ai (Ne.symm dq)];exact hq6
      ·rw[ae,FH];rfl
      ·rw[ai r2f,ai r2d];exact hr6
      ·rw[FH]
       by_cases z:p=j
       ·subst z;exact Fm _ (Fp.mpr rfl)
       ·exact FD _ (ha6 p (by omega +splitDisjunctions) hRp)
     ·have hR:¬ R x (x^^^2^j)=true:=fun z=>c2 ((hRR x (x^^^2^j)).symm.trans z)
      refine⟨L2,fw2,_,rfl,s6,hd6,hq6,hf6,hr6,ll6,go6,fun p hp hRp=>?_⟩
      by_cases z:p=j
      ·subst z;exact absurd hRp hR
      ·exact ha6 p (by omega +splitDisjunctions) hRp
    ·have yi:x^^^2^j∈L2.map (·.1):=by
      by_cases z:x^^^2^j∈L2.map (·.1)
      ·exact z
      ·exact absurd (by rw[decide_eq_false z];rfl) c1
     refine iteF ?_
     refine⟨L2,fw2,_,rfl,s6,hd6,hq6,hf6,hr6,ll6,go6,fun p hp hRp=>?_⟩
     by_cases z:p=j
     ·subst z;exact yi
     ·exact ha6 p (by omega +splitDisjunctions) hRp
   ·rintro σ H6 ⟨L2,fw2,v7,rfl,s6,hd6,hq6,hf6,hr6,ll6,go6,ha6⟩
    rw[Fc,slen]at ha6
    exact⟨L2,fw2,_,_,rfl,s6,hd6,hq6,hf6,ll6,go6.next ha6⟩
  ·rintro σ H5 ⟨L',fw,v6,v7,rfl,s5,hd5,hq5,hf5,ll,go5⟩
   rw[wlen,List.drop_length]at go5
   have L2l:=go5.c.len
   refine⟨_,rfl,L',fw,fu,_,_,_,?_,rfl,s5,hd5,hf5,by omega +splitDisjunctions,⟨go5.c,go5.fk,(fun n hn=>nomatch hn),fun n hn h1 _=>go5.dn n hn (fun y=>nomatch y) h1⟩⟩
   rw[if_neg ne]
   by_cases z:fw = []
   ·rw[if_pos z]
    have:L'.length=L.length:=by rw[z]at ll;exact ll
    omega +splitDisjunctions
   ·rw[if_neg z]
    have:=List.length_pos_iff.mpr z
    omega +splitDisjunctions
 ·have e:wl = []:=by
   by_cases z:wl = []
   ·exact z
   ·refine absurd ?_ c
    rw[decide_eq_false (fun y=>z ?_)]
    ·rfl
    ·exact List.map_eq_nil_iff.mp y
  subst e
  have al:=go.c.all fun n hn=>go.dn n hn (fun y=>nomatch y) fun y=>nomatch y
  exact⟨_,rfl,kk d L _ s3l hd hd4 go.c al⟩
end
end K8
namespace K8
open PySem L2
local macro_rules | `(tactic| walk_at "cc") => `(tactic| first | exact ⟨by decide, by decide⟩ | (show (0 : Int) < _; decide) | (show (0 : Int) < _; omega) | (show (0 : Int) ≤ _; omega) | exact ⟨by decide, by decide, by decide⟩ | exact ⟨by omega, by omega, by decide⟩ | exact Or.inl ⟨by decide, by decide⟩ | exact Or.inl ⟨by omega, by omega⟩)
local macro_rules | `(tactic| walk_at "rd") => `(tactic| repeat (first | refine ⟨_, rfl, ?_⟩ | refine ⟨_, _, rfl, rfl, ?_⟩ | refine ⟨rfl, ?_⟩ | (refine ⟨?cc, ?_⟩; (case cc => walk_at "cc"))))
theorem Fun.okT{P:Program}{w:World}{K:E6}{mg:Str->Option Value}{base:Heap}{x qual:Str}{st:Stmt}{f c TT:Addr}{fd:FuncData}{N ps:List Str}{k:Nat}{sp:Sp}(F:Fun K x qual st f fd)(S:aE N ps (ah st))(ht:G2 K x=some (c,TT))(hn:Fq K mainGlobals x=some (some (.ref f)))
  (len:∀ vs H Q E,sp vs H Q E->vs.length=ps.length)
  (hbody:∀(A:Around)(outer:List Env)(s:Shared)(H:Hp)(vs:List V)(Q:VK)(E:XK),Room k (A.deeper (PyProof.Rows.envOfC qual (ah st) s.heap.objs.size f (.ref c)))->sp vs H Q E ->
   ∃ t,PSs (cxOf CX0 P w K mg base N qual (ah st) f (.ref c) A outer s H E).nox (aA st) t/\t { nx:=fun _ H'=>Q .non H',rt:=Q } (oQ N vs) H):FnOk P w K mg base CX0 (k+1) f fd ps sp:=by
 obtain⟨oc,od,kV,doc,pm,an,cdv,ct,osl,rfl,lk,hcd⟩:=F.ex
 have e:cdv=.ref c:=by
  unfold G2 at ht
  rw[hn]at ht
  simp only[lk]at ht
  cases cdv<;>first | (cases ht;done) | skip
  simp only at ht
  split at ht
  ·split at ht
   ·cases ht;rfl
   ·cases ht
  ·cases ht
 subst e
 refine fn_of lk hcd S len fun A outer s H vs Q E hr hsp=>?_
 obtain⟨t,h,q⟩:=hbody A outer s H vs Q E hr hsp
 exact⟨t,h.nox,q⟩
theorem lS{lq:Str}{lp:Pos}{T:Addr}{H H':Hp}(h:Tb lq lp T H)(s:Same H H'):Tb lq lp T H':=by
 rcases h with h | ⟨c,h1,h2⟩
 ·exact .inl (s _ _ h)
 ·exact .inr ⟨c,s _ _ h1,s _ _ h2⟩
theorem tb_tbl{lq:Str}{lp:Pos}{T:Addr}{H:Hp}(h:Tb lq lp T H):∃ ps,H T=some (.tbl ps):=by
 rcases h with h | ⟨c,h1,_⟩
 ·exact⟨_,h⟩
 ·exact⟨_,h1⟩
def SmC(H H':Hp):Prop:=∀ b o,(∀ ps,o≠.tbl ps)->H b=some o->H' b=some o
theorem SmC.trans{H H1 H2:Hp}(a:SmC H H1)(b:SmC H1 H2):SmC H H2:=fun c o n e=>b c o n (a c o n e)
theorem SmC.of{H H':Hp}(s:Same H H'):SmC H H':=fun c o _ e=>s c o e
theorem SmC.tbs{lq:Str}{lp:Pos}{T:Addr}{H H':Hp}(t:Tb lq lp T H)(s:TbS T H H'):SmC H H':=fun c o n e=>s c o (fun z=>by
 obtain⟨ps,hp⟩:=tb_tbl t
 rw[z,hp]at e
 cases e
 exact n _ rfl) e
theorem SmC.lst{H H':Hp}(s:SmC H H'){b:Addr}{xs:List V}(e:H b=some (.lst xs)):H' b=some (.lst xs):=s _ _ (fun ps z=>by cases z) e
theorem SmC.ins{H H':Hp}(s:SmC H H'){b C d:Addr}{fs:List (Str×V)}(e:H b=some (.ins C d fs)):H' b=some (.ins C d fs):=s _ _ (fun ps z=>by cases z) e
theorem SmC.seq{K:E6}{H H':Hp}(s:SmC H H'){a:Addr}{xs:List V}(h:SqL K H a xs):SqL K H' a xs:=by
 rcases h with(h | ⟨o,h⟩) | h
 ·exact .inl (.inl (s.lst h))
 ·exact .inl (.inr ⟨o,s _ _ (fun ps z=>by cases z) h⟩)
 ·exact .inr h
theorem WebC.sm{PL PS WC:Addr}{H H':Hp}{p:Addr}{m:Nat}{es:En}{ks:Kn}(h:WebC PL PS WC H p m es ks)(s:SmC H H'):WebC PL PS WC H' p m es ks:=by
 obtain⟨⟨⟨dx0,fs0,q1,xs,a1,a2,a3,a4⟩,a5,a6⟩,⟨dx,fs,b,c⟩,d,e⟩:=h
 exact⟨⟨⟨dx0,fs0,q1,xs,s.ins a1,a2,s.lst a3,a4.1,fun i x k q r=>by
  obtain⟨p',dx',u1,u2⟩:=a4.2 i x k q r
  exact⟨p',dx',u1,s.ins u2⟩⟩,a5,a6⟩,⟨dx,fs,s.ins b,c⟩,d,e⟩
theorem Ax{L:Ls}{out:List Int}(nd:(L.map (·.1)).Nodup)(pm:out.Perm (L.map fun x=>(x.1:Int)))(pw:out.Pairwise (·<=·)):∃ on:List Nat,out=on.map (fun n:Nat=>(n:Int))/\on.Pairwise (· < ·)/\∀ n,n∈on↔n∈L.map (·.1):=by
 have ex:∀ l:List Int,(∀ x∈l,∃ n:Nat,x=(n:Int))->∃ on:List Nat,l=on.map fun n:Nat=>(n:Int):=fun l=>by
  induction l with
  |nil=>exact fun _=>⟨[],rfl⟩
  |cons a l ih =>
   intro h
   obtain⟨n,rfl⟩:=h a (Fi ..)
   obtain⟨on,e⟩:=ih fun x hx=>h x (Fh _ hx)
   exact⟨n::on,by rw[FX,← e]⟩
 obtain⟨on,rfl⟩:=ex out fun x hx=>by
  obtain⟨y,_,e⟩:=FW.mp (pm.mem_iff.mp hx)
  exact⟨y.1,e.symm⟩
 have pm2:on.Perm (L.map (·.1)):=by
  have:=pm.map Int.toNat
  rw[G0,G0]at this
  have e1:on.map (Int.toNat∘fun n:Nat=>(n:Int))=on:=by
   rw[show(Int.toNat∘fun n:Nat=>(n:Int))=id from rfl,List.map_id]
  have e2:L.map (Int.toNat∘fun x:Nat×Option Nat=>(x.1:Int))=L.map (·.1):=rfl
  rw[e1,e2]at this
  exact this
 refine⟨on,rfl,?_,fun n=>pm2.mem_iff⟩
 have nd2:on.Nodup:=pm2.nodup_iff.mpr nd
 rw[List.pairwise_map]at pw
 refine(List.Pairwise.and pw nd2).imp fun{a b} ⟨h1,h2⟩=>?_
 have h1':(a:Int)<=(b:Int):=h1
 omega
theorem iV_map(on:List Nat):(on.map fun n:Nat=>(n:Int)).map V.int=on.map iV:=by
 rw[G0];rfl
theorem CS(L:Ls):(kvL L).map (·.1)=(L.map fun x=>(x.1:Int)).map Sum.inl:=by
 unfold kvL
 rw[G0,G0];rfl
theorem asc_at{on:List Nat}(h:on.Pairwise (· < ·)){i a b:Nat}(h1:on[i]?=some a)(h2:on[i+1]?=some b):a<b:=by
 obtain⟨l1,e1⟩:=E3.mp h1
 obtain⟨l2,e2⟩:=E3.mp h2
 rw[← e1,← e2]
 exact HA.mp h i (i+1) l1 l2 (GQ _)
structure Spr(m:Nat)(R:Nat->Nat->Bool)(st:Nat)(out rw:List Nat)(k:Nat):Prop where
 nd:rw.Nodup
 st:st∈rw
 sub:∀ n∈rw,n∈out
 kl:k<=rw.length
 dn:∀(i x:Nat),i<k->rw[i]?=some x->∀ p,p<m->R x (x^^^2^p)=true->x^^^2^p∈rw
theorem Spr.end{m:Nat}{R:Nat->Nat->Bool}{st:Nat}{out rw:List Nat}{k:Nat}(h:Spr m R st out rw k)(hk:rw.length<=k)(nd:out.Nodup)(al:∀ n,n∈out↔Rc m R st n):rw.length=out.length:=by
 have cl:∀ n,Rc m R st n->n∈rw:=fun n r=>by
  induction r with
  |base=>exact h.st
  |step _ hp hR ih =>
   obtain⟨i,hi⟩:=FU.mp ih
   exact h.dn i _ (FP (E3.mp hi).1 hk) hi _ hp hR
 exact((G7 h.nd nd).mpr fun n=>⟨h.sub n,fun z=>cl n ((al n).mp z)⟩).length_eq
def Ins2(kvs:List (Key×V))(out rw:List Nat):Prop:=∀ n:Nat,valV kvs (Sum.inl (n:Int))=if n∈out then some (.bl (decide (n∈rw))) else none
theorem Ins2.put{kvs:List (Key×V)}{out rw:List Nat}{y:Nat}(h:Ins2 kvs out rw)(hy:y∈out):Ins2 (putK kvs (Sum.inl (y:Int)) (.bl true)) out (rw++[y]):=fun n=>by
 rw[jq]
 by_cases c:n=y
 ·subst c
  rw[if_pos rfl,if_pos hy,decide_eq_true (Fm _ (Fp.mpr rfl))]
 ·rw[if_neg (fun z=>c (by have:=Sum.inl.inj z;omega)),h n]
  have:(n∈rw++[y])↔n∈rw:=by
   rw[Fe,Fp]
   exact⟨fun z=>z.resolve_right c,.inl⟩
  by_cases d:n∈out
  ·rw[if_pos d,if_pos d]
   congr 2
   exact(decide_eq_decide.mpr this).symm
  ·rw[if_neg d,if_neg d]
def oU(K:E6):Sp:=fun vs H Q _=>∃(fo qc:Addr)(m st:Nat)(out:List Nat)(cs:List Int)(h:Int),vs = [.ref fo,.int (m:Int),.int (st:Int),.ref qc,.int 1,.int h]/\H fo=some (.lst (out.map iV))/\SqL K H qc (cs.map V.int)/\cs.length=2^m/\m<=10/\st<2^m/\out.Pairwise (· < ·)/\(∀ n∈out,n<2^m)/\(∀ n,n∈out↔Rc m (fun x y=>decide (cs.getD y 0<=cs.getD x 0)) st n)/\∀ H',Same H H'->Q (.bl true) H'
section
variable{P:Program}{w:World}{K:E6}{mg:Str->Option Value}{base:Heap}
theorem aM:aE ["found","many","start","costs","mode","height","inside","k","row","laying","p","other","bound"] ["found","many","start","costs","mode","height"] (ah bZ):=⟨rfl,rfl,rfl,by decide +kernel,rfl,by decide +kernel,by decide +kernel⟩
theorem AW{f fn:Addr}{fd dn:FuncData} (F:Fun K "_law_spread" "_law_spread" bZ f fd) (T:Txt mg) (G_law_number:Cal P w K mg base 1 "_law_number" ["found"] DT fn dn):FnOk P w K mg base CX0 2 f fd ["found","many","start","costs","mode","height"] (oU K):=by
 refine F.ok aM (fun vs H Q E h=>?_) (fun cdv A outer s H vs Q E hr h=>?_)
 ·obtain⟨fo,qc,m,st,out,cs,h,rfl,_⟩:=h
  rfl
 obtain⟨fo,qc,m,st,out,cs,z,rfl,hfo,hqc,cl,m10,hs,pw,olt,al,kk⟩:=h
 have hu:=C2 hr
 have hu64:=hr.units
 obtain⟨q1,q2,q3,q4⟩:=rV m10
 have clV:(cs.map V.int).length=2^m:=by rw[Fc,cl]
 have ond:out.Nodup:=pw.imp fun h=>FG h
 have olen:out.length<=2^m:=c7 ond olt
 have sto:st∈out:=(al st).mpr .base
 have ovl:(out.map iV).length=out.length:=Fc _
 refine⟨_,(af (cM (PW.pt (AF (x9 (oo (aw qU (by rfl) T.n_isinstance gk (aa (pv 0) (aa (vL (v:=.ty "list") rfl T.n_list ku rfl) ag))))) (xZ (aK (op_eqG hu64) (pv 0) (bK ag) (aR _))))) (ao (aP nR)) aW)
   (af (au (i:=6) aM.nd rfl (Or.inl rfl) pM)
   (af (cq PassesOwn.never rfl (aY rfl T.n_range (aa (aw aq (by rfl) T.n_len aU (aa (pv 0) ag)) ag)) (aX (i:=7) aM.nd rfl (Or.inl rfl)) (af (cM (PW.pt (AF (x9 (oo (aH G_law_number.ok (hr.mono (by decide)) rfl G_law_number.mg G_law_number.kp G_law_number.bn .nil bh (aa (aG az (pv 0) (pv 7) (fun _ _=>rfl)) ag)))) (AF (aK vO (aG az (pv 0) (pv 7) (fun _ _=>rfl)) aj (aR _)) (xZ (aK Ct (aG az (pv 0) (pv 7) (fun _ _=>rfl)) (aw aq (by rfl) T.n_len aU (aa (pv 3) ag)) (aR _)))))) (ao (aP nR)) aW)
   (af (cM (PW.pt (AG (aK op_gt (pv 7) aj (aR _)) (vw (aK op_le (aG az (pv 0) (pv 7) (fun _ _=>rfl)) (aG az (pv 0) (ar oq (pv 7) aj) (fun _ _=>rfl)) (aR _))))) (ao (aP nR)) aW)
   (ao (jY hu (pv 6) (aG az (pv 0) (pv 7) (fun _ _=>rfl)) nR rfl)))))
   (af (cM (ya (jv hu (pv 2) (pv 6))) (ao (aP nR)) aW)
   (af (jY hu (pv 6) (pv 2) nR rfl)
   (af (au (i:=8) aM.nd rfl (Or.inl rfl) (bK (aa (pv 2) ag)))
   (af (au (i:=7) aM.nd rfl (Or.inl rfl) aj)
   (af (lT PassesOwn.never (aK vO (pv 7) (aw aq (by rfl) T.n_len aU (aa (pv 8) ag)) (aR _)) (af (au (i:=9) aM.nd rfl (Or.inl rfl) (aG az (pv 8) (pv 7) (fun _ _=>rfl)))
   (af (au (i:=7) aM.nd rfl (Or.inl rfl) (ar bC (pv 7) aj))
   (ao (cq PassesOwn.never rfl (aY rfl T.n_range (aa (pv 1) ag)) (aX (i:=10) aM.nd rfl (Or.inl rfl)) (af (au (i:=11) aM.nd rfl (Or.inl rfl) (ar ye (pv 9) (ar kI aj (pv 10))))
   (af (au (i:=12) aM.nd rfl (Or.inl rfl) (pv 5))
   (af (cM (aK nS (pv 4) aj (aR _)) (ao (au (i:=12) aM.nd rfl (Or.inl rfl) (ar bC (aG az (pv 3) (pv 9) (fun _ _=>rfl)) aj))) aW)
   (ao (cM (aK vO (aG az (pv 3) (pv 11) (fun _ _=>rfl)) (pv 12) (aR _)) (af (cM (ya (jv hu (pv 11) (pv 6))) (ao (aP nR)) aW)
   (ao (cM (x9 (oo (vK hu (pv 6) (pv 11) (fun _ _=>rfl)))) (af (jY hu (pv 6) (pv 11) nR rfl)
   (ao (bg (gA FF FT FR bq (pv 8) (aa (pv 11) ag))))) aW))) aW))))))))))
   (ao (aP (AO nS (aw aq (by rfl) T.n_len aU (aa (pv 8) ag)) (aw aq (by rfl) T.n_len aU (aa (pv 0) ag)) (aR _)))))))))))),?_⟩
 refine⟨_,rfl,_,_,_,_,_,rfl,TyOf.lst hfo,Or.inl ⟨_,rfl,rfl⟩,kit_ll K,_,rfl,iteF ?_⟩
 refine⟨_,rfl,(by show 0<=sizeLine;exact Ge _),fun l0 hl0=>?_⟩
 have sl0:=ak hl0 (.lst [])
 refine⟨_,_,my (SqL.of (sl0 _ _ hfo)),my (ps:=[]) (SqL.of ae),fZ _,fZ _,_,rfl,?_⟩
 rw[yB,decide_eq_false (fun y=>by have:=List.map_eq_nil_iff.mp y;rw[this]at sto;cases sto)]
 refine iteF ?_
 intro d hd
 have sd:=ak hd (.dK [])
 have s1:=sl0.trans sd
 have hfd:fo≠d:=fun y=>by rw[← y,sl0 _ _ hfo]at hd;cases hd
 have nd0:H d=none:=bD sl0 hd
 refine⟨_,rfl,fo,_,rfl,.inl (SqL.of (s1 _ _ hfo)),_,rfl,by omega +splitDisjunctions,by omega +splitDisjunctions,cz (n:=((out.map iV).length:Int).toNat) (fun i σ H2=>∃(v7:Option V)(kvs:List (Key×V)),σ = [some (.ref fo),some (.int (m:Int)),some (.int (st:Int)),some (.ref qc),some (.int 1),some (.int z),some (.ref d),v7,none,none,none,none,none]/\Same H H2/\H2 d=some (.dK kvs)/\kvs.length<=i/\∀ n:Nat,valV kvs (Sum.inl (n:Int))=if n∈out.take i then some (.bl false) else none) ⟨_,[],rfl,s1,ae,Ge _,fun n=>by rw[if_neg (by simp)];rfl⟩ ?_ ?_⟩
 ·rintro i σ H2 hi ⟨v7,kvs,rfl,s2,hd2,kl,kv⟩
  rw[Fn,ovl]at hi
  rw[Gy]
  obtain⟨n,hn⟩:∃ n,out[i]?=some n:=⟨_,E4 hi⟩
  have hnV:(out.map iV)[i]?=some (iV n):=by rw[Fg,hn];rfl
  have nlt:=olt n (E7 hn)
  have fo2:=s2 _ _ hfo
  refine⟨_,rfl,_,rfl,fo,_,_,_,rfl,rfl,SqL.of fo2,ay hnV,(n:Int),rfl,_,rfl,iteF ?_⟩
  refine⟨_,rfl,_,rfl,fo,_,_,_,rfl,rfl,SqL.of fo2,ay hnV,_,_,rfl,rfl,_,rfl,ite2 (fun c=>absurd (of_decide_eq_true c) (by omega +splitDisjunctions)) (fun _=>?_)⟩
  refine⟨_,rfl,_,rfl,fo,_,_,_,rfl,rfl,SqL.of fo2,ay hnV,_,rfl,qc,_,rfl,.inl (s2.seq hqc),_,_,rfl,rfl,_,rfl,ite2 (fun c=>absurd (of_decide_eq_true c) (by rw[clV];omega +splitDisjunctions)) (fun _=>?_)⟩
  have put:∀ kvs',kvs'=putK kvs (Sum.inl (n:Int)) (.bl false)->∀ k:Nat,valV kvs' (Sum.inl (k:Int))=if k∈out.take (i+1) then some (.bl false) else none:=fun kvs' e k=>by
   rw[e,jq,F2,hn]
   show _=if k∈out.take i++[n] then _ else _
   by_cases c:k=n
   ·subst c
    rw[if_pos rfl,if_pos (Fm _ (Fp.mpr rfl))]
   ·rw[if_neg (fun y=>c (by have:=Sum.inl.inj y;omega +splitDisjunctions)),kv k]
    by_cases e2:k∈out.take i
    ·rw[if_pos e2,if_pos (FD _ e2)]
    ·rw[if_neg e2,if_neg (fun y=>(Fe.mp y).elim e2 fun y=>c (Fp.mp y))]
  have lp:=bG kvs (Sum.inl (n:Int)) (V.bl false)
  have fin:∃(v7:Option V)(kvs':List (Key×V)),[some (.ref fo),some (.int (m:Int)),some (.int (st:Int)),some (.ref qc),some (.int 1),some (.int z),some (.ref d),some (.int (i:Int)),none,none,none,none,none] = [some (.ref fo),some (.int (m:Int)),some (.int (st:Int)),some (.ref qc),some (.int 1),some (.int z),some (.ref d),v7,none,none,none,none,none]/\Same H (upd H2 d (.dK (putK kvs (Sum.inl (n:Int)) (.bl false))))/\(upd H2 d (.dK (putK kvs (Sum.inl (n:Int)) (.bl false)))) d=some (.dK kvs')/\kvs'.length<=i+1/\∀ k:Nat,valV kvs' (Sum.inl (k:Int))=if k∈out.take (i+1) then some (.bl false) else none:=⟨_,_,rfl,aV s2 nd0 _,ae,by omega +splitDisjunctions,put _ rfl⟩
  refine⟨_,rfl,_,_,rfl,rfl,_,rfl,ite2 (fun c=>?_) (fun c=>iteF ?_)⟩
  ·have c':(0:Int)<(i:Int):=of_decide_eq_true c
   obtain⟨n0,hn0⟩:∃ n,out[i-1]?=some n:=⟨_,E4 (by omega +splitDisjunctions)⟩
   have lt0:=asc_at pw (i:=i-1) hn0 (by rw[show i-1+1=i by omega +splitDisjunctions];exact hn)
   have hn0V:(out.map iV)[i-1]?=some (iV n0):=by rw[Fg,hn0];rfl
   have ei:(i:Int)-1=((i-1:Nat):Int):=by omega +splitDisjunctions
   refine⟨_,rfl,_,rfl,fo,_,_,_,rfl,rfl,SqL.of fo2,ay hnV,_,rfl,_,rfl,_,_,rfl,rfl,fo,_,_,_,rfl,rfl,SqL.of fo2,(by rw[ei];exact ay hn0V),_,_,rfl,rfl,_,rfl,ite2 (fun c=>absurd (of_decide_eq_true c) (by omega +splitDisjunctions)) (fun _=>?_)⟩
   exact⟨_,rfl,_,rfl,_,rfl,fo,_,_,_,rfl,rfl,SqL.of fo2,ay hnV,d,_,rfl,DPut.k (k:=Sum.inl (n:Int)) hd2 (Gm (show kvs.length<=1024 by omega +splitDisjunctions) (by decide)),fin⟩
  ·exact⟨_,rfl,_,rfl,_,rfl,fo,_,_,_,rfl,rfl,SqL.of fo2,ay hnV,d,_,rfl,DPut.k (k:=Sum.inl (n:Int)) hd2 (Gm (show kvs.length<=1024 by omega +splitDisjunctions) (by decide)),fin⟩
 rintro σ H2 ⟨v7,kvs,rfl,s2,hd2,kl,kv⟩
 rw[Fn,ovl]at kl kv
 rw[Gp]at kv
 refine⟨_,rfl,_,rfl,d,_,rfl,DGet.k (k:=Sum.inl (st:Int)) hd2,_,rfl,?_⟩
 rw[kv st,if_pos sto]
 refine iteF ?_
 refine⟨_,rfl,_,rfl,d,_,rfl,DPut.k (k:=Sum.inl (st:Int)) (v:=.bl true) hd2 (Gm (show kvs.length<=1024 by omega +splitDisjunctions) (by decide)),?_⟩
 have i0:Ins2 kvs out []:=fun n=>by
  rw[kv n]
  by_cases c:n∈out
  ·rw[if_pos c,if_pos c,decide_eq_false (GF)]
  ·rw[if_neg c,if_neg c]
 have i1:=i0.put sto
 have lp:=bG kvs (Sum.inl (st:Int)) (V.bl true)
 have s3:Same H (upd H2 d (.dK (putK kvs (Sum.inl (st:Int)) (.bl true)))):=aV s2 nd0 _
 have hd3:(upd H2 d (.dK (putK kvs (Sum.inl (st:Int)) (.bl true)))) d=some (.dK (putK kvs (Sum.inl (st:Int)) (.bl true))):=ae
 generalize upd H2 d (.dK (putK kvs (Sum.inl (st:Int)) (.bl true)))=H3 at s3 hd3
 generalize putK kvs (Sum.inl (st:Int)) (.bl true)=kv3 at hd3 i1 lp
 refine⟨_,rfl,(by show 1<=sizeLine;decide),fun ra hra=>?_⟩
 have sr:=ak hra (.lst [V.int (st:Int)])
 have dra:d≠ra:=fun y=>by rw[← y,hd3]at hra;cases hra
 have nra:H ra=none:=bD s3 hra
 refine⟨fun mm σ H'=>∃(rw:List Nat)(k:Nat)(kvs:List (Key×V))(v9 v10 v11 v12:Option V),mm=out.length-k/\σ = [some (.ref fo),some (.int (m:Int)),some (.int (st:Int)),some (.ref qc),some (.int 1),some (.int z),some (.ref d),some (.int (k:Int)),some (.ref ra),v9,v10,v11,v12]/\Same H H'/\H' d=some (.dK kvs)/\kvs.length<=out.length+rw.length/\H' ra=some (.lst (rw.map iV))/\Ins2 kvs out rw/\Spr m (fun x y=>decide (cs.getD y 0<=cs.getD x 0)) st out rw k,⟨_,[st],0,kv3,_,_,_,_,rfl,rfl,s3.trans sr,sr _ _ hd3,(by show kv3.length<=out.length+1;omega +splitDisjunctions),ae,i1,⟨Fd.mpr ⟨GF,GJ⟩,Fp.mpr rfl,fun n hn=>by rw[Fp.mp hn];exact sto,Ge _,fun i x h=>absurd h (GL _)⟩⟩,?_⟩
 rintro mm σ H4 ⟨rw,k,kvs,v9,v10,v11,v12,rfl,rfl,s4,hd4,kl4,hra4,in4,sp⟩
 have rl:rw.length<=out.length:=by
  have:=c7 sp.nd fun n hn=>olt n (sp.sub n hn)
  exact Hi sp.nd sp.sub
 have rvl:(rw.map iV).length=rw.length:=Fc _
 refine⟨_,rfl,_,rfl,ra,_,rfl,.inl (SqL.of hra4),_,_,rfl,rfl,_,rfl,ite2 (fun c=>?_) (fun c=>?_)⟩
 ·have c':k<rw.length:=by have:(k:Int)<((rw.map iV).length:Int):=of_decide_eq_true c;omega +splitDisjunctions
  obtain⟨x,hx⟩:∃ x,rw[k]?=some x:=⟨_,E4 c'⟩
  have hxV:(rw.map iV)[k]?=some (iV x):=by rw[Fg,hx];rfl
  have xo:=sp.sub x (E7 hx)
  have xlt:=olt x xo
  refine⟨fun σ' H'=>∃(rw:List Nat)(k':Nat)(kvs:List (Key×V))(v9 v10 v11 v12:Option V),out.length-k'<out.length-k/\σ' = [some (.ref fo),some (.int (m:Int)),some (.int (st:Int)),some (.ref qc),some (.int 1),some (.int z),some (.ref d),some (.int (k':Int)),some (.ref ra),v9,v10,v11,v12]/\Same H H'/\H' d=some (.dK kvs)/\kvs.length<=out.length+rw.length/\H' ra=some (.lst (rw.map iV))/\Ins2 kvs out rw/\Spr m (fun x y=>decide (cs.getD y 0<=cs.getD x 0)) st out rw k',fun σ' H' ⟨rw',k',kvs',a9,a10,a11,a12,lt,e1,e2,e3,e4,e5,e6,e7⟩=>⟨_,lt,rw',k',kvs',a9,a10,a11,a12,rfl,e1,e2,e3,e4,e5,e6,e7⟩,?_⟩
  refine⟨_,rfl,_,rfl,ra,_,_,_,rfl,rfl,SqL.of hra4,ay hxV,?_⟩
  refine⟨_,rfl,_,_,rfl,rfl,?_⟩
  dsimp only
  rw[show(k:Int)+1=((k+1:Nat):Int) by omega +splitDisjunctions]
  have xV:(cs.map V.int)[x]?=some (.int (cs.getD x 0)):=by rw[Fg,qy (by omega +splitDisjunctions)];rfl
  refine⟨_,rfl,_,rfl,by omega +splitDisjunctions,by omega +splitDisjunctions,cz (n:=(m:Int).toNat) (fun j σ H5=>∃(rw2:List Nat)(kvs:List (Key×V))(v10 v11 v12:Option V),σ = [some (.ref fo),some (.int (m:Int)),some (.int (st:Int)),some (.ref qc),some (.int 1),some (.int z),some (.ref d),some (.int ((k+1:Nat):Int)),some (.ref ra),some (iV x),v10,v11,v12]/\Same H H5/\H5 d=some (.dK kvs)/\kvs.length<=out.length+rw2.length/\H5 ra=some (.lst (rw2.map iV))/\Ins2 kvs out rw2/\Spr m (fun x y=>decide (cs.getD y 0<=cs.getD x 0)) st out rw2 k/\k<rw2.length/\rw2[k]?=some x/\∀ p,p<j->(fun x y=>decide (cs.getD y 0<=cs.getD x 0)) x (x^^^2^p)=true->x^^^2^p∈rw2) ⟨rw,kvs,_,_,_,rfl,s4,hd4,kl4,hra4,in4,sp,c',hx,fun p hp=>absurd hp (GL _)⟩ ?_ ?_⟩
  ·rintro j σ H5 hj ⟨rw2,kvs,v10,v11,v12,rfl,s5,hd5,kl5,hra5,in5,sp5,kl2,hx5,ha5⟩
   rw[Fn]at hj
   rw[Gy]
   have ylt:=qA xlt hj
   have yV:(cs.map V.int)[x^^^2^j]?=some (.int (cs.getD (x^^^2^j) 0)):=by rw[Fg,qy (by omega +splitDisjunctions)];rfl
   have rl2:rw2.length<=out.length:=Hi sp5.nd sp5.sub
   refine⟨_,rfl,_,rfl,_,_,rfl,rfl,⟨by omega +splitDisjunctions,by omega +splitDisjunctions,by decide⟩,_,_,rfl,rfl,?_⟩
   dsimp only
   have ex:Builtin.bitXor (x:Int) (1*2^((j:Nat):Int).toNat)=((x^^^2^j:Nat):Int):=by rw[shlN,xorN]
   rw[ex]
   refine⟨_,rfl,?_⟩
   refine⟨_,rfl,rfl,_,rfl,ite2 (fun _=>?_) (fun c=>absurd (decide_eq_true rfl) c)⟩
   refine⟨_,rfl,_,rfl,qc,_,_,_,rfl,rfl,s5.seq hqc,ay xV,_,_,rfl,rfl,?_⟩
   dsimp only
   refine⟨_,rfl,_,rfl,qc,_,_,_,rfl,rfl,s5.seq hqc,ay yV,_,rfl,_,_,rfl,rfl,_,rfl,ite2 (fun c2=>?_) (fun c2=>?_)⟩
   ·have hR:(fun x y=>decide (cs.getD y 0<=cs.getD x 0)) x (x^^^2^j)=true:=decide_eq_true (by have:=of_decide_eq_true c2;omega +splitDisjunctions)
    have yo:x^^^2^j∈out:=(al _).mpr (.step ((al _).mp xo) hj hR)
    refine⟨_,rfl,_,rfl,d,_,rfl,DGet.k (k:=Sum.inl ((x^^^2^j:Nat):Int)) hd5,_,rfl,?_⟩
    rw[in5,if_pos yo]
    refine iteF ?_
    have dg:=DGet.k (k:=Sum.inl ((x^^^2^j:Nat):Int)) hd5
    rw[in5,if_pos yo]at dg
    refine⟨_,rfl,_,rfl,d,_,rfl,dg,_,rfl,?_⟩
    refine ite2 (fun c3=>?_) (fun c3=>?_)
    ·have yn:x^^^2^j∉rw2:=fun y=>by rw[decide_eq_true y]at c3;cases c3
     refine⟨_,rfl,_,rfl,d,_,rfl,DPut.k (k:=Sum.inl ((x^^^2^j:Nat):Int)) (v:=.bl true) hd5 (Gm (show kvs.length<=2048 by omega +splitDisjunctions) (by decide)),?_⟩
     have hra6:(upd H5 d (.dK (putK kvs (Sum.inl ((x^^^2^j:Nat):Int)) (.bl true)))) ra=some (.lst (rw2.map iV)):=by rw[ai (Ne.symm dra)];exact hra5
     refine⟨_,rfl,.inl ⟨rfl,_,SqL.of hra6⟩,_,rfl,ra,_,_,rfl,rfl,hra6,(by rw[Fc];exact Gm (show rw2.length<=1024 by omega +splitDisjunctions) (by decide)),?_⟩
     have lp5:=bG kvs (Sum.inl ((x^^^2^j:Nat):Int)) (V.bl true)
     refine⟨rw2++[x^^^2^j],putK kvs (Sum.inl ((x^^^2^j:Nat):Int)) (.bl true),_,_,_,rfl,aV (aV s5 nd0 _) nra _,?_,by rw[E5,Fl];omega +splitDisjunctions,?_,in5.put yo,⟨?_,FD _ sp5.st,fun n hn=>?_,by rw[E5];have:=sp5.kl;omega +splitDisjunctions,fun i y hi hy p hp hRp=>?_⟩,by rw[E5];omega +splitDisjunctions,by rw[E8 kl2];exact hx5,fun p hp hRp=>?_⟩
     ·rw[ai dra];exact ae
     ·rw[ae,FH];rfl
     ·refine Fj.mpr ⟨sp5.nd,Fd.mpr ⟨GF,GJ⟩,fun a ha b hb e=>?_⟩
      rw[Fp.mp hb]at e
      exact yn (e▸ha)
     ·rcases Fe.mp hn with y | y
      ·exact sp5.sub n y
      ·rw[Fp.mp y];exact yo
     ·have il:i<rw2.length:=by have:=sp5.kl;omega +splitDisjunctions
      rw[E8 il]at hy
      exact FD _ (sp5.dn i y hi hy p hp hRp)
     ·by_cases e:p=j
      ·subst e;exact Fm _ (Fp.mpr rfl)
      ·exact FD _ (ha5 p (by omega +splitDisjunctions) hRp)
    ·have yi:x^^^2^j∈rw2:=by
      by_cases y:x^^^2^j∈rw2
      ·exact y
      ·exact absurd (by rw[decide_eq_false y];rfl) c3
     refine⟨rw2,kvs,_,_,_,rfl,s5,hd5,kl5,hra5,in5,sp5,kl2,hx5,fun p hp hRp=>?_⟩
     by_cases e:p=j
     ·subst e;exact yi
     ·exact ha5 p (by omega +splitDisjunctions) hRp
   ·have hR:¬ (fun x y=>decide (cs.getD y 0<=cs.getD x 0)) x (x^^^2^j)=true:=fun y=>c2 (decide_eq_true (by have:=of_decide_eq_true y;omega +splitDisjunctions))
    refine⟨rw2,kvs,_,_,_,rfl,s5,hd5,kl5,hra5,in5,sp5,kl2,hx5,fun p hp hRp=>?_⟩
    by_cases e:p=j
    ·subst e;exact absurd hRp hR
    ·exact ha5 p (by omega +splitDisjunctions) hRp
  ·rintro σ H5 ⟨rw2,kvs,v10,v11,v12,rfl,s5,hd5,kl5,hra5,in5,sp5,kl2,hx5,ha5⟩
   rw[Fn]at ha5
   have rl2:rw2.length<=out.length:=Hi sp5.nd sp5.sub
   refine⟨rw2,k+1,kvs,_,_,_,_,by omega +splitDisjunctions,rfl,s5,hd5,kl5,hra5,in5,⟨sp5.nd,sp5.st,sp5.sub,kl2,fun i y hi hy p hp hRp=>?_⟩⟩
   by_cases e:i=k
   ·subst e
    rw[hx5]at hy
    cases hy
    exact ha5 p hp hRp
   ·exact sp5.dn i y (by omega +splitDisjunctions) hy p hp hRp
 ·have c':rw.length<=k:=by
   have:¬ (k:Int)<((rw.map iV).length:Int):=fun y=>c (decide_eq_true y)
   omega +splitDisjunctions
  have e:=sp.end c' ond al
  refine⟨_,rfl,ra,_,rfl,.inl (SqL.of hra4),_,rfl,fo,_,rfl,.inl (SqL.of (s4 _ _ hfo)),rfl,?_⟩
  rw[rvl,ovl,e,decide_eq_true rfl]
  exact kk _ s4
end
def lpC:Pos:=⟨42,38,42,85⟩
theorem Rc.lt{m:Nat}{R:Nat->Nat->Bool}{s n:Nat}(h:Rc m R s n)(hs:s<2^m):n<2^m:=by
 induction h with
 |base=>exact hs
 |step _ hp _ ih=>exact qA ih hp
def ve(TT PL PS WC:Addr):Sp:=fun vs H Q _=>∃(p:Addr)(m st:Nat)(es:En)(ks:Kn),vs = [.ref p,.int (st:Int)]/\WebC PL PS WC H p m es ks/\st<2^m/\Tb lqC lpC TT H /\
 ∀(l:Addr)(on:List Nat)(H':Hp),SmC H H'->Tb lqC lpC TT H'->H' l=some (.lst (on.map iV))->on.Pairwise (· < ·)->(∀ n,n∈on↔Rc m (fun x y=>decide ((dQ es ks m).getD y 0<=(dQ es ks m).getD x 0)) st n)->Q (.ref l) H'
section
variable{P:Program}{w:World}{K:E6}{mg:Str->Option Value}{base:Heap}
theorem xY:aE ["web","start","costs"] ["web","start"] (ah dE):=⟨rfl,rfl,rfl,by decide +kernel,rfl,by decide +kernel,by decide +kernel⟩
theorem CH{f f1 f2 c TT PL PS WC:Addr}{fd d1 d2:FuncData} (F:Fun K "falls" "falls" dE f fd) (T:TxtC mg) (ht:G2 K "falls" = some (c,TT)) (hn:Fq K mainGlobals "falls" = some (some (.ref f))) (hcd:GU base c TT) (hbm:Bm mg base)
  (G_all_worths:Cal P w K mg base 5 "all_worths" ["web"] (Aw PL PS WC) f2 d2) (G_come_to:Cal P w K mg base 2 "come_to" ["web","start","let"] (Av PL PS WC) f1 d1):FnOk P w K mg base CX0 6 f fd ["web","start"] (ve TT PL PS WC):=by
 refine Fun.okT F xY ht hn (fun vs H Q E h=>?_) (fun A outer s H vs Q E hr h=>?_)
 ·obtain⟨p,m,st,es,ks,rfl,_⟩:=h
  rfl
 obtain⟨p,m,st,es,ks,rfl,wc,hs,tb,kk⟩:=h
 have LM:∀ N,LamC (cxOf CX0 P w K mg base N "falls" (ah dE) f (.ref c) A outer s H E).nox c TT lqC leSc [("costs",s.heap.objs.size+1)]:=fun N=>⟨rfl,hcd,hbm,rfl,rfl⟩
 have hcl:∀ N,∀ p∈[(("costs" : Str),s.heap.objs.size+1)],(cxOf CX0 P w K mg base N "falls" (ah dE) f (.ref c) A outer s H E).nox.env.cells.lookup p.1=some p.2/\(cxOf CX0 P w K mg base N "falls" (ah dE) f (.ref c) A outer s H E).nox.fn p.1=true/\(cxOf CX0 P w K mg base N "falls" (ah dE) f (.ref c) A outer s H E).nox.env.kindOf p.1=some .cell/\Vis (cxOf CX0 P w K mg base N "falls" (ah dE) f (.ref c) A outer s H E).nox.env.scope p.1:=by
  intro N p hp
  rw[Fp.mp hp]
  exact⟨rfl,rfl,rfl,Or.inr (Or.inl rfl)⟩
 refine⟨_,(af (au (i:=2) xY.nd rfl (Or.inr rfl) (aH G_all_worths.ok (hr.mono (by decide)) rfl G_all_worths.mg G_all_worths.kp G_all_worths.bn .nil bh (aa (pv 0) ag)))
   (ao (aP (aw (zP rfl) (by rfl) T.n_sorted uh (aa (Cq (E:=E0) (hcl _) G_come_to.ok (hr.mono (by decide)) rfl G_come_to.mg G_come_to.kp G_come_to.bn .nil (aa (pv 0) (aa (pv 1) (aa (pe_lam (LM _) rfl) ag)))) ag))))),?_⟩
 refine⟨_,rfl,p,m,es,ks,rfl,wc,fun q H0 s0 nq hq=>?_⟩
 have tb0:=lS tb s0
 refine⟨_,rfl,_,rfl,tb0,fun fl c' pm ctv H1 nf sm1 tb1 hc' hf=>?_⟩
 intro os hos
 obtain⟨nct,ov1,ed1,rl1⟩:=hos (("costs" : Str),s.heap.objs.size+1) (by simp)
 obtain⟨u1,rfl,ru1⟩:=rl1 2 (.ref q) rfl rfl
 obtain rfl:u1=Value.ref q:=ru1
 have smc:=SmC.tbs tb0 sm1
 have out:∀{b:Addr}{o:HO},H1 b=some o->b∉[(("costs" : Str),s.heap.objs.size+1)].map (·.2):=fun{b o} e hb=>by
  rw[Fp.mp hb]at e;rw[nct]at e;cases e
 have up:Same H1 (frzH [(("costs" : Str),s.heap.objs.size+1)] os H1):=fun b o e=>by rw[bP (out e)];exact e
 refine⟨p,fl,m,st,es,ks,fun x y=>decide ((dQ es ks m).getD y 0<=(dQ es ks m).getD x 0),rfl,((wc.mono s0).sm smc).mono up,⟨dQ es ks m,⟨c',_,q,pm,ctv,os (s.heap.objs.size+1),_,_,_,_,_,_,_,_,_,up _ _ hf,up _ _ hc',qz (by simp),ed1,up _ _ (smc.lst hq)⟩,iF _ _ _,fun _ _=>rfl⟩,hs,fun d L H2 s2 nd hd co al=>?_⟩
 have s12:=up.trans s2
 have dn:d∉[(("costs" : Str),s.heap.objs.size+1)].map (·.2):=fun hb=>by
  have e:=s2 _ _ (qz (os:=os) (H:=H1) hb)
  rw[hd]at e
  cases e
 have cs2:Same H1 (cutH [(("costs" : Str),s.heap.objs.size+1)] H2):=fun b o e=>by rw[dm (out e)];exact s12 _ _ e
 refine⟨d,kvL L,_,rfl,.inl (by rw[dm dn];exact hd),CS L,fun l out hl pm pw=>?_⟩
 obtain⟨on,rfl,pw2,mem⟩:=Ax co.nd pm pw
 rw[iV_map]
 have sn:=ak hl (.lst (on.map iV))
 exact kk l on _ ((SmC.of s0).trans (smc.trans (.of (cs2.trans sn)))) (lS tb1 (cs2.trans sn)) ae pw2 fun n=>(mem n).trans (al n)
end
end K8
namespace K8
open PySem L2
local macro_rules | `(tactic| walk_at "cc") => `(tactic| first | exact ⟨by decide, by decide⟩ | (show (0 : Int) < _; decide) | (show (0 : Int) < _; omega) | (show (0 : Int) ≤ _; omega) | exact ⟨by decide, by decide, by decide⟩ | exact ⟨by omega, by omega, by decide⟩ | exact Or.inl ⟨by decide, by decide⟩ | exact Or.inl ⟨by omega, by omega⟩)
local macro_rules | `(tactic| walk_at "rd") => `(tactic| repeat (first | refine ⟨_, rfl, ?_⟩ | refine ⟨_, _, rfl, rfl, ?_⟩ | refine ⟨rfl, ?_⟩ | (refine ⟨?cc, ?_⟩; (case cc => walk_at "cc"))))
section
variable{P:Program}{w:World}{K:E6}{mg:Str->Option Value}{base:Heap}
theorem Dg(ns:List Int)(a b:Nat):∃ cs:List Int,cutV (ns.map V.int) (some (a:Int)) (some (b:Int))=cs.map V.int/\cs.length<=b-a:=by
 refine⟨(ns.drop (min a ns.length)).take (min b ns.length-min a ns.length),?_,?_⟩
 ·unfold cutV
  rw[HT.sIx_nat,HT.sIx_nat,Fc,Hm,Hn]
 ·rw[Fw]
  omega
theorem DO{S:Addr->Prop}{PL PS WC p:Addr}{H:Hp}{m:Nat}{es:En}{ts rs:List (List Nat)}{ks:Kn}(h:WebF S PL PS WC H p m es ts rs ks)(kl:ks.length=es.length)(few:es.length<=30)(m10:m<=10)(kin:∀ k∈ks,k.1=0∨k.1=1):WebC PL PS WC H p m es ks:=by
 obtain⟨dx,fs,q1,xs,a,b,c,d,e,f⟩:=h
 exact⟨⟨⟨dx,fs,q1,xs,a,d,e,f⟩,kl,few⟩,⟨dx,fs,a,b.many⟩,m10,kin⟩
def xW(K:E6)(TT:Addr):Sp:=fun vs H Q _=>∃(a:Addr)(ns:List Int),vs = [.ref a]/\SqL K H a (ns.map V.int)/\ns.length<=63/\Tb lqC lpC TT H/\∀ H',Q (.bl true) H'
theorem js:aE ["script","grown","kinds","costs","many","web","start","found"] ["script"] (ah pB):=⟨rfl,rfl,rfl,by decide +kernel,rfl,by decide +kernel,by decide +kernel⟩
theorem ok_law{TT f fG fR fC fK fW fS fD fO PL PS WC:Addr}{fd dG dR dC dK dW dS dD dO:FuncData} (F:Fun K "law" "law" pB f fd) (T:TxtM mg) (G_law_grown:Cal P w K mg base 3 "_law_grown" ["cells","places"] (oX K) fG dG) (G_law_renumbered:Cal P w K mg base 2 "_law_renumbered" ["grown","cell"] Ap fR dR) (G_law_cell:Cal P w K mg base 1 "_law_cell" ["script","k"] (xX K) fC dC) (G_law_kinds:Cal P w K mg base 2 "_law_kinds" ["script","many","limits"] (vd K) fK dK) (G_law_costs:Cal P w K mg base 2 "_law_costs" ["grown","kinds"] vf fO dO) (G_law_web:Cal P w K mg base 7 "_law_web" ["grown","kinds"] (u9 PL PS WC) fW dW) (G_falls:Cal P w K mg base 6 "falls" ["web","start"] (ve TT PL PS WC) fS dS) (G_law_spread:Cal P w K mg base 2 "_law_spread" ["found","many","start","costs","mode","height"] (oU K) fD dD):FnOk P w K mg base CX0 9 f fd ["script"] (xW K TT):=by
 refine F.ok js (fun vs H Q E h=>?_) (fun cdv A outer s H vs Q E hr h=>?_)
 ·obtain⟨a,ns,rfl,_⟩:=h
  rfl
 obtain⟨a,ns,rfl,hS,h63,tb,kk⟩:=h
 refine⟨_,(af (au (i:=1) js.nd rfl (Or.inl rfl) (aH G_law_renumbered.ok (hr.mono (by decide)) rfl G_law_renumbered.mg G_law_renumbered.kp G_law_renumbered.bn .nil bh (aa (aH G_law_grown.ok (hr.mono (by decide)) rfl G_law_grown.mg G_law_grown.kp G_law_grown.bn .nil bh (aa (d9 gy (pv 0) (eQ aj) (eQ aj)) (aa aj ag))) (aa (aH G_law_cell.ok (hr.mono (by decide)) rfl G_law_cell.mg G_law_cell.kp G_law_cell.bn .nil bh (aa (pv 0) (aa aj ag))) ag))))
   (af (au (i:=2) js.nd rfl (Or.inl rfl) (aH G_law_kinds.ok (hr.mono (by decide)) rfl G_law_kinds.mg G_law_kinds.kp G_law_kinds.bn .nil bh (aa (pv 0) (aa (aw aq (by rfl) T.n_len aU (aa (aG bf (pv 1) aj (fun _ _=>rfl)) ag)) (aa (bK (aa aj (aa aj (aa (ar bC (ar op_pow aj aj) aj) ag)))) ag)))))
   (af (au (i:=3) js.nd rfl (Or.inl rfl) (aH G_law_costs.ok (hr.mono (by decide)) rfl G_law_costs.mg G_law_costs.kp G_law_costs.bn .nil bh (aa (pv 1) (aa (pv 2) ag))))
   (af (au (i:=4) js.nd rfl (Or.inl rfl) (aw aq (by rfl) T.n_len aU (aa (aG bf (pv 1) aj (fun _ _=>rfl)) ag)))
   (af (au (i:=5) js.nd rfl (Or.inl rfl) (aH G_law_web.ok (hr.mono (by decide)) rfl G_law_web.mg G_law_web.kp G_law_web.bn .nil bh (aa (pv 1) (aa (pv 2) ag))))
   (af (au (i:=6) js.nd rfl (Or.inl rfl) (ar bA (ar bC (ar cN (aH G_law_cell.ok (hr.mono (by decide)) rfl G_law_cell.mg G_law_cell.kp G_law_cell.bn .nil bh (aa (pv 0) (aa aj ag))) aj) (aw (yH rfl) (by rfl) T.n_sum DE (aa (pv 0) ag))) (aw aq (by rfl) T.n_len aU (aa (pv 3) ag))))
   (af (au (i:=7) js.nd rfl (Or.inl rfl) (aH G_falls.ok (hr.mono (by decide)) rfl G_falls.mg G_falls.kp G_falls.bn .nil bh (aa (pv 5) (aa (pv 6) ag))))
   (af (cM (x9 (oo (aH G_law_spread.ok (hr.mono (by decide)) rfl G_law_spread.mg G_law_spread.kp G_law_spread.bn .nil bh (aa (pv 7) (aa (pv 4) (aa (pv 6) (aa (pv 3) (aa aj (aa aj ag))))))))) (ao (aP nR)) aW)
   (af (au (i:=6) js.nd rfl (Or.inl rfl) (aG az (pv 7) (ar bA (aH G_law_cell.ok (hr.mono (by decide)) rfl G_law_cell.mg G_law_cell.kp G_law_cell.bn .nil bh (aa (pv 0) (aa aj ag))) (aw aq (by rfl) T.n_len aU (aa (pv 7) ag))) (fun _ _=>rfl)))
   (ao (aP (aH G_law_spread.ok (hr.mono (by decide)) rfl G_law_spread.mg G_law_spread.kp G_law_spread.bn .nil bh (aa (aH G_falls.ok (hr.mono (by decide)) rfl G_falls.mg G_falls.kp G_falls.bn .nil bh (aa (pv 5) (aa (pv 6) ag))) (aa (pv 4) (aa (pv 6) (aa (pv 3) (aa aj (aa aj ag)))))))))))))))))),?_⟩
 obtain⟨cs,hcs,csl⟩:=Dg ns 2 10
 refine⟨_,rfl,_,rfl,_,rfl,a,_,rfl,hS,fun b hb=>?_⟩
 have sb:=ak hb (.lst (cs.map V.int))
 rw[show cutV (ns.map V.int) (some 2) (some 10)=cs.map V.int from hcs]
 refine⟨b,6,cs,rfl,SqL.of ae,by omega +splitDisjunctions,by decide,fun t pe pt pr m es ts rg H1 s1 ht ⟨⟨ys,xs,zs,C⟩,g,part⟩ e0 el mP=>?_⟩
 have s01:=sb.trans s1
 refine⟨_,rfl,a,0,ns,rfl,s01.seq hS,t,pe,pt,pr,_,m,es,ts,rg,rfl,ht,⟨⟨ys,C.he,C.en⟩,⟨xs,C.ht,C.rx.off⟩,g⟩,⟨zs,C.hr,C.rz.off⟩,part,g.two e0,by omega +splitDisjunctions,fun t' pe' pt' pr' es' ts' rg' H2 s2 ht' wp rp part' el'=>?_⟩
 have s02:=s01.trans s2
 obtain⟨⟨ys',hpe',hE'⟩,⟨xs',hpt',hR'⟩,g'⟩:=id wp
 have yl':ys'.length=es'.length:=hE'.1
 refine⟨_,rfl,_,rfl,t',_,0,_,rfl,rfl,SqT.of ht',at30,pe',ys',rfl,.inl (SqL.of hpe'),_,_,rfl,rfl,⟨by decide,by decide,by decide⟩,_,_,rfl,rfl,(by show 3<=sizeLine;decide),fun lm hlm=>?_⟩
 have sl:=ak hlm (.lst [V.int 2,V.int 4,V.int (10^(30:Int).toNat+1)])
 have s03:=s02.trans sl
 refine⟨a,lm,es'.length,ns,[2,4,10^(30:Int).toNat+1],(by rw[yl'];rfl),s03.seq hS,h63,SqL.of ae,by decide,by decide,fun x hx=>?_,by omega +splitDisjunctions,by omega +splitDisjunctions,fun pk ws ks H4 s4 hpk tk kl kb=>?_⟩
 ·rcases Fb.mp hx with z | z
  ·rw[z];decide
  ·rcases Fb.mp z with z | z
   ·rw[z];decide
   ·rw[Fp.mp z];exact⟨by decide,GO _⟩
 have s24:=sl.trans s4
 have s04:=s03.trans s4
 have mE:m<=10:=by omega +splitDisjunctions
 obtain⟨w1,w2,w3,w4⟩:=rV mE
 refine⟨_,rfl,_,rfl,t',pe',pt',pr',pk,m,es',ts',ks,rfl,s24 _ _ ht',wp.mono s24,⟨ws,hpk,tk⟩,kl,by omega +splitDisjunctions,mE,fun qc H5 s5 nqc hqc=>?_⟩
 have s25:=s24.trans s5
 have s05:=s04.trans s5
 have clV:((dQ es' ks m).map V.int).length=2^m:=by rw[Fc,iF]
 have cpos:(0:Int)<(((dQ es' ks m).map V.int).length:Int):=by omega +splitDisjunctions
 have nat_of:∀ X:Int,∃ L:Nat,X%(((dQ es' ks m).map V.int).length:Int)=(L:Int)/\L<2^m:=fun X=>by
  have h0:=Gn X (show(((dQ es' ks m).map V.int).length:Int)≠0 by omega +splitDisjunctions)
  have h1:=F8 X cpos
  exact⟨_,(Gs h0).symm,by omega +splitDisjunctions⟩
 have xl:xs'.length=m:=by rw[hR'.1,g'.w.len]
 have kin:∀ k∈ks,k.1=0∨k.1=1:=fun k hk=>by
  obtain⟨i,hi⟩:=List.getElem?_of_mem hk
  exact(tk.2 i k hi).1
 refine⟨_,rfl,t',_,1,_,rfl,rfl,SqT.of (s25 _ _ ht'),at31,pt',xs',rfl,.inl (SqL.of (s25 _ _ hpt')),?_⟩
 rw[xl]
 refine⟨_,rfl,_,rfl,t',pe',pt',pr',pk,m,es',ts',ks,rfl,s25 _ _ ht',wp.mono s25,⟨ws,s5 _ _ hpk,tk.mono s5⟩,by omega +splitDisjunctions,kl,by omega +splitDisjunctions,fun p rs H6 s6 wf=>?_⟩
 have s06:=s05.trans s6
 have wc:=DO wf kl (by omega +splitDisjunctions) mE kin
 refine⟨_,rfl,a,1,ns,rfl,s06.seq hS,_,_,rfl,rfl,⟨by decide,by decide⟩,_,rfl,a,ns,rfl,s06.seq hS,_,_,rfl,rfl,_,rfl,qc,_,rfl,.inl (SqL.of (s6 _ _ hqc)),_,_,rfl,rfl,cpos,?_⟩
 dsimp only
 obtain⟨st,hst,hs⟩:=nat_of (lM ns 1/3+ns.sum)
 rw[hst]
 refine⟨_,rfl,_,rfl,p,m,st,es',ks,rfl,wc,hs,lS tb s06,fun l on H7 sm7 tb7 hl pw al=>?_⟩
 have hqc7:=sm7.lst (s6 _ _ hqc)
 have olt:∀ n∈on,n<2^m:=fun n hn=>((al n).mp hn).lt hs
 refine⟨_,rfl,_,rfl,_,rfl,_,rfl,l,qc,m,st,on,dQ es' ks m,0,rfl,hl,SqL.of hqc7,iF _ _ _,mE,hs,pw,olt,al,fun H8 s8=>⟨_,rfl,iteF ?_⟩⟩
 have sm8:=sm7.trans (.of s8)
 have hl8:=s8 _ _ hl
 have o0:0<on.length:=GW ((al st).mpr .base)
 have ovl:(on.map iV).length=on.length:=Fc _
 have opos:(0:Int)<((on.map iV).length:Int):=by omega +splitDisjunctions
 have smS:=(SmC.of s06).trans sm8
 obtain⟨ix,hix,ixl⟩:∃ L:Nat,lM ns 2%((on.map iV).length:Int)=(L:Int)/\L<on.length:=by
  have h0:=Gn (lM ns 2) (show((on.map iV).length:Int)≠0 by omega +splitDisjunctions)
  have h1:=F8 (lM ns 2) opos
  exact⟨_,(Gs h0).symm,by omega +splitDisjunctions⟩
 obtain⟨n2,hn2⟩:∃ n,on[ix]?=some n:=⟨_,E4 ixl⟩
 have n2V:(on.map iV)[ix]?=some (iV n2):=by rw[Fg,hn2];rfl
 have n2lt:=olt n2 (E7 hn2)
 refine⟨_,rfl,_,rfl,a,2,ns,rfl,smS.seq hS,_,rfl,l,_,rfl,.inl (SqL.of hl8),_,_,rfl,rfl,opos,l,_,_,_,rfl,rfl,SqL.of hl8,(by rw[hix];exact ay n2V),?_⟩
 refine⟨_,rfl,_,rfl,p,m,n2,es',ks,rfl,wc.sm sm8,n2lt,lS tb7 s8,fun l2 on2 H9 sm9 tb9 hl2 pw2 al2=>?_⟩
 have hqc9:=sm9.lst (s8 _ _ hqc7)
 exact⟨_,rfl,_,rfl,_,rfl,l2,qc,m,n2,on2,dQ es' ks m,0,rfl,hl2,SqL.of hqc9,iF _ _ _,mE,n2lt,pw2,fun n hn=>((al2 n).mp hn).lt n2lt,al2,fun H10 s10=>kk _⟩
end
end K8
namespace K8
open PySem L2
theorem B5{K:E6}{x:Str}{f c T:Addr}{o1 o3:Value}{o2 o4:Option Addr}{o5 o6:Array (Option Value)}{fd:FuncData}{vs:Array Value}(a:Fq K mainGlobals x=some (some (.ref f)))(l:K.lookup f=some ⟨o1,o2,.func fd,o5⟩)(e:fd.code=.ref c)(lc:K.lookup c=some ⟨o3,o4,.fields vs,o6⟩)(v:vs[11]?=some (.ref T)):G2 K x=some (c,T):=by
 unfold G2
 rw[a]
 simp only[l,e,lc,v]
theorem all_mk{l:Ip}{w:World}{K:E6}{h:Heap}{mg:Str->Option Value}{fa bt br eY qC eM eG jH qD bu ft a8 bR dP yA jE iE eI f7 iA jD dk cR cA cj iD iC jG iB gd gb bQ gc jF f9 gg eK eJ EF:Addr}{cT TT:Addr}{oT:Value}{dT:Option Addr}{vT:Array Value}{sT:Array (Option Value)}(X:K.In h)(G:h.Ns mainGlobals mg) (hfa:mg "law" = some (.ref fa))
  {CJ Dk pR q8 pN qW ze z0 CK Dl pT rb vW xJ lC lP sA uE sF uF El EY y9 zX vV xI pO qX sj uy vQ xE y8 zW nU oe mq nu lB lO pS q9 vU xH vS xG zd zZ vR xF sv uC so uA j1 kx su uB zc zY sk uz sy uD pQ qZ pP qY od_law DF:Option Addr} {B8 pd oZ yR B9 ph vm lx rM rN DW yO vk o7 rE vg yN nP l9 lu pf vj vi yQ vh rJ rG jV rH yP rF rK o9 o8 sl_law:Array (Option Value)} {CM CU Dd Cj yG Dh pY qp qJ pH jN qQ pU qk qF pD jJ qM zk zC zI y4 oB zN CN CV De Ck qT Di qa qv qL pJ jP qS wd wJ wY vE mZ xm lE lH lJ lA gq lL sN tF tR r9 kU uc sO tG tS se kW ud Em Ez EL D8 BJ ES zg zz zF yX oy zK wb wI wX vD mY xj pV ql qG pE jK qN sG sZ tL rW kM tT vX wD wR vz mU xf zf zy zE yW ox zJ nV nY n8 nQ iH n9 mv mL mR mh gS mS lD lG lI lz gp lK pZ qu qK pI jO qR wa wH wW vC mX xi vZ wG wV vB mW xh zj zB zH yZ oA zM vY wF wU vA mV xg sL tD tP r6 kS tZ sI tm tN rY kP tV j2 j9 ke j0 fy kg sJ tq tO rZ kQ tW zh zA zG yY oz zL sH tj tM rX kO tU sM tE tQ r8 kT t9 pX qo qI pG jM qP pW qm qH pF jL qO oc_law Dy DC Dw BI DD:Value}
  {ti_mplc:Tok}
  (xN:Fq K mainGlobals "Pull" = some (some (.ref bt)))
  (xM:Fq K mainGlobals "Push" = some (some (.ref br)))
  (BU:Fq K mainGlobals "Web" = some (some (.ref eY)))
  (gG:Fz K (.ref bt) "__init__" = some (some (.ref bu)))
  (gF:Fz K (.ref bt) "wish" = some (some (.ref ft)))
  (cP:Fz K (.ref bt) "unpleased" = some (some (.ref a8)))
  (fH:Fz K (.ref bt) "price" = some (some (.ref bR)))
  (gE:Fz K (.ref br) "__init__" = some (some (.ref bu)))
  (gD:Fz K (.ref br) "wish" = some (some (.ref dP)))
  (cO:Fz K (.ref br) "unpleased" = some (some (.ref a8)))
  (fF:Fz K (.ref br) "price" = some (some (.ref bR)))
  (iT:Fz K (.ref eY) "__init__" = some (some (.ref cj)))
  (xK:Fq K mainGlobals "worth" = some (some (.ref qC)))
  (wz:K.lookup qC=some ⟨CM,CJ,.func (Fv "worth" "worth" (aC jW) (aA jW) (ah jW) .none CU Dd Cj Dk yG Dh),B8⟩)
  (xr:Ft K yG "worth" = true)
  (qi:Fo K (.ref qC)=true)
  (hZ:Fq K mainGlobals "all_worths" = some (some (.ref eM)))
  (gL:K.lookup eM=some ⟨pY,pR,.func (Fv "all_worths" "all_worths" (aC cb) (aA cb) (ah cb) .none qp qJ pH q8 jN qQ),pd⟩)
  (g7:Ft K jN "all_worths" = true)
  (eB:Fo K (.ref eM)=true)
  (hJ:Fq K mainGlobals "steps_from" = some (some (.ref eG)))
  (gH:K.lookup eG=some ⟨pU,pN,.func (Fv "steps_from" "steps_from" (aC bX) (aA bX) (ah bX) .none qk qF pD qW jJ qM),oZ⟩)
  (gW:Ft K jJ "steps_from" = true)
  (eh:Fo K (.ref eG)=true)
  (nE:Fq K mainGlobals "come_to" = some (some (.ref jH)))
  (mJ:K.lookup jH=some ⟨zk,ze,.func (Fv "come_to" "come_to" (aC fm) (aA fm) (ah fm) .none zC zI y4 z0 oB zN),yR⟩)
  (ni:Ft K oB "come_to" = true)
  (jB:Fo K (.ref jH)=true)
  (nC:Fq K mainGlobals "falls" = some (some (.ref qD)))
  (qg:K.lookup qD=some ⟨CN,CK,.func (Fv "falls" "falls" (aC dE) (aA dE) (ah dE) .none CV De Ck Dl qT Di),B9⟩)
  (xt:Ft K qT "falls" = true)
  (qj:Fo K (.ref qD)=true)
  (gN:K.lookup bu=some ⟨qa,pT,.func (Fv "__init__" "Tie.__init__" (aC cg) (aA cg) (ah cg) .none qv qL pJ rb jP qS),ph⟩)
  (g9:Ft K jP "Tie.__init__" = true)
  (gP:Fo K (.ref bu)=true)
  (eE:GY K (.ref bu)=true)
  (j8:K.lookup ft=some ⟨wd,vW,.func (Fv "wish" "Tie.wish" (aC dA) (aA dA) (ah dA) .none wJ wY vE xJ mZ xm),vm⟩)
  (kr:Ft K mZ "Tie.wish" = true)
  (iz:Fo K (.ref ft)=true)
  (kc:GY K (.ref ft)=true)
  (dJ:K.lookup a8=some ⟨lE,lC,.func (Fv "unpleased" "Tie.unpleased" (aC bp) (aA bp) (ah bp) .none lH lJ lA lP gq lL),lx⟩)
  (dX:Ft K gq "Tie.unpleased" = true)
  (bH:Fo K (.ref a8)=true)
  (cy:GY K (.ref a8)=true)
  (i4:K.lookup bR=some ⟨sN,sA,.func (Fv "price" "Tie.price" (aC cK) (aA cK) (ah cK) .none tF tR r9 uE kU uc),rM⟩)
  (je:Ft K kU "Tie.price" = true)
  (dM:Fo K (.ref bR)=true)
  (f6:GY K (.ref bR)=true)
  (i5:K.lookup dP=some ⟨sO,sF,.func (Fv "wish" "Push.wish" (aC cL) (aA cL) (ah cL) .none tG tS se uF kW ud),rN⟩)
  (jf:Ft K kW "Push.wish" = true)
  (fY:Fo K (.ref dP)=true)
  (i6:GY K (.ref dP)=true)
  (BS:Fq K mainGlobals "head" = some (some (.ref yA)))
  (Bf:K.lookup yA=some ⟨Em,El,.func (Fv "head" "head" (aC om) (aA om) (ah om) .none Ez EL D8 EY BJ ES),DW⟩)
  (BL:Ft K BJ "head" = true)
  (k_head:Fo K (.ref yA)=true)
  (nz:Fq K mainGlobals "leaving" = some (some (.ref jE)))
  (mG:K.lookup jE=some ⟨zg,y9,.func (Fv "leaving" "leaving" (aC fg) (aA fg) (ah fg) .none zz zF yX zX oy zK),yO⟩)
  (m8:Ft K oy "leaving" = true)
  (jy:Fo K (.ref jE)=true)
  (kE:Fq K mainGlobals "follower" = some (some (.ref iE)))
  (j7:K.lookup iE=some ⟨wb,vV,.func (Fv "follower" "follower" (aC dz) (aA dz) (ah dz) .none wI wX vD xI mY xj),vk⟩)
  (kq:Ft K mY "follower" = true)
  (iy:Fo K (.ref iE)=true)
  (hO:Fq K mainGlobals "round_from" = some (some (.ref eI)))
  (gI:K.lookup eI=some ⟨pV,pO,.func (Fv "round_from" "round_from" (aC bY) (aA bY) (ah bY) .none ql qG pE qX jK qN),o7⟩)
  (gX:Ft K jK "round_from" = true)
  (et:Fo K (.ref eI)=true)
  (jg:Fq K mainGlobals "rounds_of" = some (some (.ref f7)))
  (iU:K.lookup f7=some ⟨sG,sj,.func (Fv "rounds_of" "rounds_of" (aC cD) (aA cD) (ah cD) .none sZ tL rW uy kM tT),rE⟩)
  (i8:Ft K kM "rounds_of" = true)
  (fN:Fo K (.ref f7)=true)
  (kz:Fq K mainGlobals "sides_of" = some (some (.ref iA)))
  (j3:K.lookup iA=some ⟨vX,vQ,.func (Fv "sides_of" "sides_of" (aC dt) (aA dt) (ah dt) .none wD wR vz xE mU xf),vg⟩)
  (kh:Ft K mU "sides_of" = true)
  (iq:Fo K (.ref iA)=true)
  (nv:Fq K mainGlobals "reached" = some (some (.ref jD)))
  (mF:K.lookup jD=some ⟨zf,y8,.func (Fv "reached" "reached" (aC fe) (aA fe) (ah fe) .none zy zE yW zW ox zJ),yN⟩)
  (m7:Ft K ox "reached" = true)
  (jx:Fo K (.ref jD)=true)
  (gm:Fq K mainGlobals "refuse_ends" = some (some (.ref dk)))
  (fM:K.lookup dk=some ⟨nV,nU,.func (Fv "refuse_ends" "refuse_ends" (aC bJ) (aA bJ) (ah bJ) .none nY n8 nQ oe iH n9),nP⟩)
  (gj:Ft K iH "refuse_ends" = true)
  (dj:Fo K (.ref dk)=true)
  (eX:Fq K mainGlobals "refuse_turns" = some (some (.ref cR)))
  (eV:K.lookup cR=some ⟨mv,mq,.func (Fv "refuse_turns" "refuse_turns" (aC bz) (aA bz) (ah bz) .none mL mR mh nu gS mS),l9⟩)
  (eW:Ft K gS "refuse_turns" = true)
  (cQ:Fo K (.ref cR)=true)
  (dY:Fq K mainGlobals "refuse_parted" = some (some (.ref cA)))
  (dI:K.lookup cA=some ⟨lD,lB,.func (Fv "refuse_parted" "refuse_parted" (aC bo) (aA bo) (ah bo) .none lG lI lz lO gp lK),lu⟩)
  (dU:Ft K gp "refuse_parted" = true)
  (cx:Fo K (.ref cA)=true)
  (gM:K.lookup cj=some ⟨pZ,pS,.func (Fv "__init__" "Web.__init__" (aC cf) (aA cf) (ah cf) .none qu qK pI q9 jO qR),pf⟩)
  (g8:Ft K jO "Web.__init__" = true)
  (gO:Fo K (.ref cj)=true)
  (gQ:GY K (.ref cj)=true)
  (kD:Fq K mainGlobals "_law_cell" = some (some (.ref iD)))
  (j6:K.lookup iD=some ⟨wa,vU,.func (Fv "_law_cell" "_law_cell" (aC dy) (aA dy) (ah dy) .none wH wW vC xH mX xi),vj⟩)
  (ko:Ft K mX "_law_cell" = true)
  (iw:Fo K (.ref iD)=true)
  (kC:Fq K mainGlobals "_law_head" = some (some (.ref iC)))
  (j5:K.lookup iC=some ⟨vZ,vS,.func (Fv "_law_head" "_law_head" (aC dv) (aA dv) (ah dv) .none wG wV vB xG mW xh),vi⟩)
  (kj:Ft K mW "_law_head" = true)
  (iu:Fo K (.ref iC)=true)
  (nB:Fq K mainGlobals "_law_put" = some (some (.ref jG)))
  (mI:K.lookup jG=some ⟨zj,zd,.func (Fv "_law_put" "_law_put" (aC fj) (aA fj) (ah fj) .none zB zH yZ zZ oA zM),yQ⟩)
  (ng:Ft K oA "_law_put" = true)
  (jA:Fo K (.ref jG)=true)
  (kA:Fq K mainGlobals "_law_step" = some (some (.ref iB)))
  (j4:K.lookup iB=some ⟨vY,vR,.func (Fv "_law_step" "_law_step" (aC du) (aA du) (ah du) .none wF wU vA xF mV xg),vh⟩)
  (ki:Ft K mV "_law_step" = true)
  (ir:Fo K (.ref iB)=true)
  (jk:Fq K mainGlobals "_law_grown" = some (some (.ref gd)))
  (iZ:K.lookup gd=some ⟨sL,sv,.func (Fv "_law_grown" "_law_grown" (aC cH) (aA cH) (ah cH) .none tD tP r6 uC kS tZ),rJ⟩)
  (jc:Ft K kS "_law_grown" = true)
  (fV:Fo K (.ref gd)=true)
  (ji:Fq K mainGlobals "_law_order" = some (some (.ref gb)))
  (iX:K.lookup gb=some ⟨sI,so,.func (Fv "_law_order" "_law_order" (aC cF) (aA cF) (ah cF) .none tm tN rY uA kP tV),rG⟩)
  (ja:Ft K kP "_law_order" = true)
  (fQ:Fo K (.ref gb)=true)
  (c6:Fq K mainGlobals "_law_renumbered" = some (some (.ref bQ)))
  (cZ:K.lookup bQ=some ⟨j2,j1,.func (Fv "_law_renumbered" "_law_renumbered" (aC bb) (aA bb) (ah bb) .none j9 ke j0 kx fy kg),jV⟩)
  (c5:Ft K fy "_law_renumbered" = true)
  (bO:Fo K (.ref bQ)=true)
  (jj:Fq K mainGlobals "_law_kinds" = some (some (.ref gc)))
  (iY:K.lookup gc=some ⟨sJ,su,.func (Fv "_law_kinds" "_law_kinds" (aC cG) (aA cG) (ah cG) .none tq tO rZ uB kQ tW),rH⟩)
  (jb:Ft K kQ "_law_kinds" = true)
  (fU:Fo K (.ref gc)=true)
  (nA:Fq K mainGlobals "_law_web" = some (some (.ref jF)))
  (mH:K.lookup jF=some ⟨zh,zc,.func (Fv "_law_web" "_law_web" (aC fi) (aA fi) (ah fi) .none zA zG yY zY oz zL),yP⟩)
  (m9:Ft K oz "_law_web" = true)
  (jz:Fo K (.ref jF)=true)
  (jh:Fq K mainGlobals "_law_worth" = some (some (.ref f9)))
  (iW:K.lookup f9=some ⟨sH,sk,.func (Fv "_law_worth" "_law_worth" (aC cE) (aA cE) (ah cE) .none tj tM rX uz kO tU),rF⟩)
  (i9:Ft K kO "_law_worth" = true)
  (fP:Fo K (.ref f9)=true)
  (jn:Fq K mainGlobals "_law_costs" = some (some (.ref gg)))
  (i3:K.lookup gg=some ⟨sM,sy,.func (Fv "_law_costs" "_law_costs" (aC cJ) (aA cJ) (ah cJ) .none tE tQ r8 uD kT t9),rK⟩)
  (jd:Ft K kT "_law_costs" = true)
  (fX:Fo K (.ref gg)=true)
  (hX:Fq K mainGlobals "_law_number" = some (some (.ref eK)))
  (gK:K.lookup eK=some ⟨pX,pQ,.func (Fv "_law_number" "_law_number" (aC b9) (aA b9) (ah b9) .none qo qI pG qZ jM qP),o9⟩)
  (gZ:Ft K jM "_law_number" = true)
  (eA:Fo K (.ref eK)=true)
  (hV:Fq K mainGlobals "_law_spread" = some (some (.ref eJ)))
  (gJ:K.lookup eJ=some ⟨pW,pP,.func (Fv "_law_spread" "_law_spread" (aC bZ) (aA bZ) (ah bZ) .none qm qH pF qY jL qO),o8⟩)
  (gY:Ft K jL "_law_spread" = true)
  (eu:Fo K (.ref eJ)=true)
  (Dm:Fq K mainGlobals "law" = some (some (.ref EF)))
  (Eu:K.lookup EF=some ⟨oc_law,od_law,.func (Fv "law" "law" (aC pB) (aA pB) (ah pB) .none Dy DC Dw DF BI DD),sl_law⟩)
  (ET:Ft K BI "law" = true)
  (Ey:Fo K (.ref EF)=true)
  (vH:GP K bt Str.empty=true)
  (wO:G3 K bt=true)
  (vy:He K bt=true)
  (vt:Fz K (.ref bt) "__setattr__" = some (some (.builtin "object.__setattr__")))
  (wg:Ho K bt=true)
  (wC:Fo K (.ref bt)=true)
  (iS:Fz K (.ref bt) "one" = some none)
  (iR:Fz K (.ref bt) "two" = some none)
  (cY:Fz K (.ref bt) "strength" = some none)
  (vG:GP K br Str.empty=true)
  (wN:G3 K br=true)
  (vx:He K br=true)
  (vq:Fz K (.ref br) "__setattr__" = some (some (.builtin "object.__setattr__")))
  (we:Ho K br=true)
  (wB:Fo K (.ref br)=true)
  (iQ:Fz K (.ref br) "one" = some none)
  (iP:Fz K (.ref br) "two" = some none)
  (cX:Fz K (.ref br) "strength" = some none)
  (AM:GP K eY Str.empty=true)
  (Bw:G3 K eY=true)
  (AJ:He K eY=true)
  (AA:Fz K (.ref eY) "__setattr__" = some (some (.builtin "object.__setattr__")))
  (A3:Ho K eY=true)
  (Bj:Fo K (.ref eY)=true)
  (iO:Fz K (.ref eY) "many" = some none)
  (iN:Fz K (.ref eY) "ties" = some none)
  (gB:Fz K (.ref eY) "turns" = some none)
  (fE:Fz K (.ref eY) "rounds" = some none)
  (gC:Fz K (.ref eY) "sides" = some none)
  (gi_mplc:Fq K mainGlobals "MOST_PLACES" = some (some (.int 10 ti_mplc)))
  (DL:Fq K mainGlobals "len" = some none)
  (DM:Fq K mainGlobals "int" = some none)
  (z8:Fq K mainGlobals "bool" = some none)
  (z6:Fq K mainGlobals "list" = some none)
  (uN:Fq K mainGlobals "tuple" = some none)
  (uO:Fq K mainGlobals "range" = some none)
  (iJ:Fq K mainGlobals "enumerate" = some none)
  (gu:Fq K mainGlobals "isinstance" = some none)
  (DJ:Fq K mainGlobals "min" = some none)
  (DI:Fq K mainGlobals "sum" = some none)
  (oN:Fq K mainGlobals "sorted" = some none)
  (DK:Fq K mainGlobals "max" = some none)
  (tbc:qT=.ref cT) (tbl:K.lookup cT=some ⟨oT,dT,.fields vT,sT⟩) (tbv:vT[11]?=some (.ref TT)) (tbn:K.lookup TT=none)
  : ∃ fd:FuncData,(∀(s:Shared)(v:Value),BindsTo s fd ⟨[v],[]⟩ [("script",v)])/\∃ c T,G2 K "falls" = some (c,T)/\K.lookup T=none/\∀ base:Heap,K.In base->base.Ns mainGlobals mg->GU base c T->Bm mg base->FnOk l.prog w K mg base CX0 9 fa fd ["script"] (xW K T):=by
 have tbi:=B5 nC qg tbc tbl tbv
 have e:=hfa.symm.trans (FC X G Dm)
 cases e
 have BX:=aQ (st:=jW) wz xr qi
 have EV:=BX.binds (ps:=["web","laying"]) fun _ _ _ _ _ _ us hl=>by obtain⟨x0,x1,rfl⟩:=fJ hl;rfl
 have lg:=aQ (st:=cb) gL g7 eB
 have uw:=lg.binds (ps:=["web"]) fun _ _ _ _ _ _ us hl=>by obtain⟨x0,rfl⟩:=Bd hl;rfl
 have kY:=aQ (st:=bX) gH gW eh
 have uq:=kY.binds (ps:=["web","laying"]) fun _ _ _ _ _ _ us hl=>by obtain⟨x0,x1,rfl⟩:=fJ hl;rfl
 have uK:=aQ (st:=fm) mJ ni jB
 have BQ:=uK.binds (ps:=["web","start","let"]) fun _ _ _ _ _ _ us hl=>by obtain⟨x0,x1,x2,rfl⟩:=sW hl;rfl
 have BY:=aQ (st:=dE) qg xt qj
 have EW:=BY.binds (ps:=["web","start"]) fun _ _ _ _ _ _ us hl=>by obtain⟨x0,x1,rfl⟩:=fJ hl;rfl
 have lj:=aQ (st:=cg) gN g9 gP
 have kX:=lj.binds (ps:=["self","one","two","strength"]) fun _ _ _ _ _ _ us hl=>by obtain⟨x0,x1,x2,x3,rfl⟩:=CP hl;rfl
 have oM:=aQ (st:=dA) j8 kr iz
 have zV:=oM.binds (ps:=["self"]) fun _ _ _ _ _ _ us hl=>by obtain⟨x0,rfl⟩:=Bd hl;rfl
 have d6:=aQ (st:=bp) dJ dX bH
 have hG:=d6.binds (ps:=["self","laying"]) fun _ _ _ _ _ _ us hl=>by obtain⟨x0,x1,rfl⟩:=fJ hl;rfl
 have jo:=aQ (st:=cK) i4 je dM
 have nt:=jo.binds (ps:=["self","laying"]) fun _ _ _ _ _ _ us hl=>by obtain⟨x0,x1,rfl⟩:=fJ hl;rfl
 have nN:=aQ (st:=cL) i5 jf fY
 have xD:=nN.binds (ps:=["self"]) fun _ _ _ _ _ _ us hl=>by obtain⟨x0,rfl⟩:=Bd hl;rfl
 have DH:=aQ (st:=om) Bf BL k_head
 have b_head:=DH.binds (ps:=["ties","dart"]) fun _ _ _ _ _ _ us hl=>by obtain⟨x0,x1,rfl⟩:=fJ hl;rfl
 have uH:=aQ (st:=fg) mG m8 jy
 have BN:=uH.binds (ps:=["ties","number","place"]) fun _ _ _ _ _ _ us hl=>by obtain⟨x0,x1,x2,rfl⟩:=sW hl;rfl
 have oK:=aQ (st:=dz) j7 kq iy
 have zU:=oK.binds (ps:=["ties","turns","dart"]) fun _ _ _ _ _ _ us hl=>by obtain⟨x0,x1,x2,rfl⟩:=sW hl;rfl
 have kZ:=aQ (st:=bY) gI gX et
 have ur:=kZ.binds (ps:=["ties","turns","first"]) fun _ _ _ _ _ _ us hl=>by obtain⟨x0,x1,x2,rfl⟩:=sW hl;rfl
 have nH:=aQ (st:=cD) iU i8 fN
 have xu:=nH.binds (ps:=["ties","turns"]) fun _ _ _ _ _ _ us hl=>by obtain⟨x0,x1,rfl⟩:=fJ hl;rfl
 have oG:=aQ (st:=dt) j3 kh iq
 have zQ:=oG.binds (ps:=["ties","rounds"]) fun _ _ _ _ _ _ us hl=>by obtain⟨x0,x1,rfl⟩:=fJ hl;rfl
 have uG:=aQ (st:=fe) mF m7 jx
 have BM:=uG.binds (ps:=["start","pairs"]) fun _ _ _ _ _ _ us hl=>by obtain⟨x0,x1,rfl⟩:=fJ hl;rfl
 have jQ:=aQ (st:=bJ) fM gj dj
 have qV:=jQ.binds (ps:=["many","ties"]) fun _ _ _ _ _ _ us hl=>by obtain⟨x0,x1,rfl⟩:=fJ hl;rfl
 have iI:=aQ (st:=bz) eV eW cQ
 have oa:=iI.binds (ps:=["many","ties","turns"]) fun _ _ _ _ _ _ us hl=>by obtain⟨x0,x1,x2,rfl⟩:=sW hl;rfl
 have h9:=aQ (st:=bo) dI dU cx
 have nk:=h9.binds (ps:=["many","ties"]) fun _ _ _ _ _ _ us hl=>by obtain⟨x0,x1,rfl⟩:=fJ hl;rfl
 have lh:=aQ (st:=cf) gM g8 gO
 have ux:=lh.binds (ps:=["self","many","ties","turns"]) fun _ _ _ _ _ _ us hl=>by obtain⟨x0,x1,x2,x3,rfl⟩:=CP hl;rfl
 have oJ:=aQ (st:=dy) j6 ko iw
 have zT:=oJ.binds (ps:=["script","k"]) fun _ _ _ _ _ _ us hl=>by obtain⟨x0,x1,rfl⟩:=fJ hl;rfl
 have oI:=aQ (st:=dv) j5 kj iu
 have zS:=oI.binds (ps:=["ends","dart"]) fun _ _ _ _ _ _ us hl=>by obtain⟨x0,x1,rfl⟩:=fJ hl;rfl
 have uJ:=aQ (st:=fj) mI ng jA
 have BP:=uJ.binds (ps:=["turns","place","behind","fresh"]) fun _ _ _ _ _ _ us hl=>by obtain⟨x0,x1,x2,x3,rfl⟩:=CP hl;rfl
 have oH:=aQ (st:=du) j4 ki ir
 have zR:=oH.binds (ps:=["cell","ends","turns","rings","places"]) fun _ _ _ _ _ _ us hl=>by obtain⟨x0,x1,x2,x3,x4,rfl⟩:=len_5 hl;rfl
 have nL:=aQ (st:=cH) iZ jc fV
 have xB:=nL.binds (ps:=["cells","places"]) fun _ _ _ _ _ _ us hl=>by obtain⟨x0,x1,rfl⟩:=fJ hl;rfl
 have nJ:=aQ (st:=cF) iX ja fQ
 have xy:=nJ.binds (ps:=["cell","many"]) fun _ _ _ _ _ _ us hl=>by obtain⟨x0,x1,rfl⟩:=fJ hl;rfl
 have gs:=aQ (st:=bb) cZ c5 bO
 have lN:=gs.binds (ps:=["grown","cell"]) fun _ _ _ _ _ _ us hl=>by obtain⟨x0,x1,rfl⟩:=fJ hl;rfl
 have nK:=aQ (st:=cG) iY jb fU
 have xA:=nK.binds (ps:=["script","many","limits"]) fun _ _ _ _ _ _ us hl=>by obtain⟨x0,x1,x2,rfl⟩:=sW hl;rfl
 have uI:=aQ (st:=fi) mH m9 jz
 have BO:=uI.binds (ps:=["grown","kinds"]) fun _ _ _ _ _ _ us hl=>by obtain⟨x0,x1,rfl⟩:=fJ hl;rfl
 have nI:=aQ (st:=cE) iW i9 fP
 have xw:=nI.binds (ps:=["ends","kinds","laying"]) fun _ _ _ _ _ _ us hl=>by obtain⟨x0,x1,x2,rfl⟩:=sW hl;rfl
 have nM:=aQ (st:=cJ) i3 jd fX
 have xC:=nM.binds (ps:=["grown","kinds"]) fun _ _ _ _ _ _ us hl=>by obtain⟨x0,x1,rfl⟩:=fJ hl;rfl
 have k9:=aQ (st:=b9) gK gZ eA
 have uv:=k9.binds (ps:=["found"]) fun _ _ _ _ _ _ us hl=>by obtain⟨x0,rfl⟩:=Bd hl;rfl
 have k8:=aQ (st:=bZ) gJ gY eu
 have uu:=k8.binds (ps:=["found","many","start","costs","mode","height"]) fun _ _ _ _ _ _ us hl=>by obtain⟨x0,x1,x2,x3,x4,x5,rfl⟩:=len_6 hl;rfl
 have F_law:=aQ (st:=pB) Eu ET Ey
 refine⟨Fv "law" "law" (aC pB) (aA pB) (ah pB) .none Dy DC Dw DF BI DD,fun s v=>.of_eq rfl,cT,TT,tbi,tbn,fun base _ _ hcd hbm=>?_⟩
 have Es:=FC X G xK
 have sV:=FC X G hZ
 have sQ:=FC X G hJ
 have Bb:=FC X G nE
 have Et:=FC X G nC
 have m_head:=FC X G BS
 have A8:=FC X G nz
 have zw:=FC X G kE
 have sR:=FC X G hO
 have wm:=FC X G jg
 have zr:=FC X G kz
 have A7:=FC X G nv
 have qb:=FC X G gm
 have nW:=FC X G eX
 have mz:=FC X G dY
 have zv:=FC X G kD
 have zu:=FC X G kC
 have Ba:=FC X G nB
 have zt:=FC X G kA
 have wu:=FC X G jk
 have wq:=FC X G ji
 have lF:=FC X G c6
 have wt:=FC X G jj
 have A9:=FC X G nA
 have wo:=FC X G jh
 have wx:=FC X G jn
 have sU:=FC X G hX
 have sS:=FC X G hV
 have m_law:=FC X G Dm
 have m_Pull:=FC X G xN
 have m_Push:=FC X G xM
 have m_Web:=FC X G BU
 have mplc:=FC X G gi_mplc
 have n_len:=F5 X G DL
 have n_int:=F5 X G DM
 have n_bool:=F5 X G z8
 have n_list:=F5 X G z6
 have n_tuple:=F5 X G uN
 have n_range:=F5 X G uO
 have n_enumerate:=F5 X G iJ
 have n_isinstance:=F5 X G gu
 have n_min:=F5 X G DJ
 have n_sum:=F5 X G DI
 have n_sorted:=F5 X G oN
 have n_max:=F5 X G DK
 have TL:CT K bt:=⟨⟨vH,wO,vy,vt⟩,iS,iR,cY⟩
 have TS:CT K br:=⟨⟨vG,wN,vx,vq⟩,iQ,iP,cX⟩
 have cw:CW K eY:=⟨⟨AM,Bw,AJ,AA⟩,iO,iN,gB,fE,gC⟩
 have T:Txt mg:=⟨n_len,n_int,n_bool,n_list,n_tuple,n_range,n_enumerate,n_isinstance,n_min,n_sum,n_sorted⟩
 have GI:FnOk l.prog w K mg base CX0 1 bu _ _ (oh K):=Ee lj
 have ML:Mak l.prog w K mg base 1 "Pull" _ (oh K) bt bu _:=⟨⟨wg,gG,eE,wC⟩,GI,kX,m_Pull⟩
 have MS:Mak l.prog w K mg base 1 "Push" _ (oh K) br bu _:=⟨⟨we,gE,eE,wB⟩,GI,kX,m_Push⟩
 have Gh:Cal l.prog w K mg base 1 "head" _ (As K) yA _:=⟨Ef DH,b_head,m_head,k_head⟩
 have Gl:Cal l.prog w K mg base 1 "leaving" _ (Ar K) jE _:=⟨y7 uH,BN,A8,jy⟩
 have Gf:Cal l.prog w K mg base 2 "follower" _ (DU K) iE _:=⟨vP oK T Gh Gl,zU,zw,iy⟩
 have Gr:Cal l.prog w K mg base 3 "round_from" _ (Au K) eI _:=⟨Eg kZ Gf,ur,sR,et⟩
 have GR:Cal l.prog w K mg base 4 "rounds_of" _ (oV K) f7 _:=⟨AY nH T Gr,xu,wm,fN⟩
 have GS:Cal l.prog w K mg base 1 "sides_of" _ (uY K) iA _:=⟨Cz oG T,zQ,zr,iq⟩
 have wL:Met l.prog w K mg base 1 bt "wish" _ (rB false) ft _:=⟨⟨gF,kc,iz⟩,Cw oM,zV⟩
 have wS:Met l.prog w K mg base 1 br "wish" _ (rB true) dP _:=⟨⟨gD,i6,fY⟩,Cv nN,xD⟩
 have Ga:Cal l.prog w K mg base 1 "reached" _ (uZ K) jD _:=⟨y6 uG,BM,A7,jx⟩
 have R1:Cal l.prog w K mg base 1 "refuse_ends" _ (u5 K) dk _:=⟨CB jQ,qV,qb,dj⟩
 have R2:Cal l.prog w K mg base 1 "refuse_turns" _ (oW K) cR _:=⟨AX iI T,oa,nW,cQ⟩
 have R3:Cal l.prog w K mg base 2 "refuse_parted" _ (u4 K) cA _:=⟨CA h9 Ga,nk,mz,cx⟩
 have WI:FnOk l.prog w K mg base CX0 5 cj _ _ (oS K):=Cy lh T R1 R2 R3 GR GS
 have MW:Mak l.prog w K mg base 5 "Web" _ (oS K) eY cj _:=⟨⟨A3,iT,gQ,Bj⟩,WI,ux,m_Web⟩
 have Gc:Cal l.prog w K mg base 1 "_law_cell" _ (xX K) iD _:=⟨Ei oJ T,zT,zv,iw⟩
 have L1:Cal l.prog w K mg base 1 "_law_head" _ (vc K) iC _:=⟨CD oI,zS,zu,iu⟩
 have L5:Cal l.prog w K mg base 1 "_law_order" _ u6 gb _:=⟨CC nJ T,xy,wq,fQ⟩
 have TM:TxtM mg:={ T with n_max:=n_max }
 have N1:Cal l.prog w K mg base 1 "_law_put" _ (Aq K) jG _:=⟨ok_put uJ,BP,Ba,jA⟩
 have N2:Cal l.prog w K mg base 2 "_law_step" _ Ao iB _:=⟨Ec oH T L1 N1,zR,zt,ir⟩
 have N3:Cal l.prog w K mg base 3 "_law_grown" _ (oX K) gd _:=⟨CG nL N2,xB,wu,fV⟩
 have N4:Cal l.prog w K mg base 2 "_law_renumbered" _ Ap bQ _:=⟨ok_ren gs TM L5,lN,lF,bO⟩
 have N5:Cal l.prog w K mg base 2 "_law_kinds" _ (vd K) gc _:=⟨CF nK T Gc,xA,wt,fU⟩
 have N6:Cal l.prog w K mg base 7 "_law_web" _ (u9 bt br eY) jF _:=⟨Ed uI T ML MS TL TS MW cw,BO,A9,jz⟩
 have N7:Cal l.prog w K mg base 1 "_law_number" _ DT eK _:=⟨AZ k9 T,uv,sU,eA⟩
 have N8:Cal l.prog w K mg base 1 "_law_worth" _ (DS K) f9 _:=⟨Cu nI T,xw,wo,fP⟩
 have N9:Cal l.prog w K mg base 2 "_law_costs" _ vf gg _:=⟨CI nM T N8,xC,wx,fX⟩
 have TC:TxtC mg:={ TM with mplc:=⟨_,mplc⟩ }
 have uL:Met l.prog w K mg base 2 bt "unpleased" _ (xU bt false) a8 _:=⟨⟨cP,cy,bH⟩,AU d6 TL wL,hG⟩
 have uS:Met l.prog w K mg base 2 br "unpleased" _ (xU br true) a8 _:=⟨⟨cO,cy,bH⟩,AU d6 TS wS,hG⟩
 have rL:Met l.prog w K mg base 3 bt "price" _ (l8 bt false) bR _:=⟨⟨fH,f6,dM⟩,yg jo TL uL,nt⟩
 have rS:Met l.prog w K mg base 3 br "price" _ (l8 br true) bR _:=⟨⟨fF,f6,dM⟩,yg jo TS uS,nt⟩
 have Gw:Cal l.prog w K mg base 4 "worth" _ (An bt br eY) qC _:=⟨Eb BX T cw TL TS rL rS,EV,Es,qi⟩
 have Gaw:Cal l.prog w K mg base 5 "all_worths" _ (Aw bt br eY) eM _:=⟨Ej lg TC cw Gw,uw,sV,eB⟩
 have Gst:Cal l.prog w K mg base 1 "steps_from" _ (uX bt br eY) eG _:=⟨AV kY TC cw,uq,sQ,eh⟩
 have Gco:Cal l.prog w K mg base 2 "come_to" _ (Av bt br eY) jH _:=⟨Eh uK TC Gst,BQ,Bb,jB⟩
 have Gfa:Cal l.prog w K mg base 6 "falls" _ (ve TT bt br eY) qD _:=⟨CH BY TC tbi nC hcd hbm Gaw Gco,EW,Et,qj⟩
 have Gsp:Cal l.prog w K mg base 2 "_law_spread" _ (oU K) eJ _:=⟨AW k8 T N7,uu,sS,eu⟩
 exact ok_law F_law TM N3 N4 Gc N5 N9 N6 Gfa Gsp
theorem walk{l:Ip}{q:Program}{loose:List Str}{XP:(Str->Option Value)->Heap->Prop}{YP:World->Heap->Prop}{d:DefRec}{K:Params->E6}(hn:l.most=some 63)(hdf:d.params.defaults = [])
  (hY:∀(w:World)(h:Heap),YP w h->(K w.params).In h) (hrec:((PyProof.Rows.recsOf q).find? (fun e=>e.name == ("falls" : Str))).isSome=true)
  (F:∀(w:World)(mg:Str->Option Value)(fa:Addr)(h:Heap),(K w.params).In h->h.Ns mainGlobals mg->mg d.name=some (.ref fa) ->
   ∃ fd:FuncData,(∀(s:Shared)(u:Value),BindsTo s fd ⟨[u],[]⟩ [("script",u)])/\∃ c T,G2 (K w.params) "falls" = some (c,T)/\(K w.params).lookup T=none/\∀ base:Heap,(K w.params).In base->base.Ns mainGlobals mg->GU base c T->Bm mg base->FnOk l.prog w (K w.params) mg base CX0 9 fa fd ["script"] (xW (K w.params) T)) :
  PySem.W.WalkO q loose XP YP l.row.toRowW d [] (fun f vs=>PySem.call f vs) :=
 L2.walk_ofT (n:=63) (k:=9) (x:="script") (CX:=CX0) (sp:=fun K T=>xW K T) hn (by decide) hdf ⟨rfl,by decide,by decide⟩ hY (Option.some_get hrec).symm F (fun _ _ _ a ns hl hT hS=>⟨a,ns,rfl,hS,hl,.inl hT,fun _=>rfl⟩) fun _ _ _ _ z=>z
end K8
def PySem.W.Fast.tw7524543533465258464:Nat:=0
def PySem.W.Fast.tw16649980116922868418:Nat:=0
def PySem.W.Fast.tw6068717206848547715:Nat:=0
def PySem.W.Fast.tw5564830019485409221:Nat:=0
def PySem.W.Fast.tw13025485439722444871:Nat:=0
def PySem.W.Fast.tw11620265379657945321:Nat:=0
def PySem.W.Fast.tw13052912593339260490:Nat:=0
def PySem.W.Fast.tw9290056157662832715:Nat:=0
def PySem.W.Fast.tw4386388111043954829:Nat:=0
def PySem.W.Fast.tw2228238171100137614:Nat:=0
def PySem.W.Fast.tw4905892899860924401:Nat:=0
def PySem.W.Fast.tw2026016263401718387:Nat:=0
def PySem.W.Fast.tw15507585752945043028:Nat:=0
def PySem.W.Fast.tw4287981849578635609:Nat:=0
def PySem.W.Fast.tw7543174548313967902:Nat:=0
def PySem.W.Fast.tw12825864369566142591:Nat:=0
namespace PySem.W.Fast
def tw17779148669297432640:=0
def tw3733385583603144832:=0
def tw16133992116238647520:=0
def tw14639018277166334240:=0
def tw10631571556375565696:=0
def tw5012920560336751040:=0
def tw11072496339974909376:=0
def tw586885612133179872:=0
def tw3677882248147156544:=0
def tw5532226406838268512:=0
def tw13058818888981361344:=0
def tw12463720385399022368:=0
def tw15199742819136078688:=0
def tw16210977775237296257:=0
def tw3904097510224566433:=0
def tw3393898784970298593:=0
def tw10208739948219128033:=0
def tw14786096476642391329:=0
def tw10488742685540562337:=0
def tw3589798283191823873:=0
def tw17729403939431496225:=0
def tw4770294521503980257:=0
def tw10910626904501893889:=0
def tw11055598885177405217:=0
def tw11945610052897721249:=0
def tw12335916600520810401:=0
def tw5241872165971146689:=0
def tw10231836817458726978:=0
def tw11160417733958410338:=0
def tw5280216182305839234:=0
def tw15346016733971969154:=0
def tw13091876410501702786:=0
def tw1108085951965891778:=0
def tw759695080040948930:=0
def tw7094574997163122914:=0
def tw7156555240409528834:=0
def tw16430545415040321122:=0
def tw15133295656593130531:=0
def tw226951111534178371:=0
def tw9094643303754778723:=0
def tw12400222297546894467:=0
def tw2265708360020189347:=0
def tw11648583956906831043:=0
def tw651949099771893955:=0
def tw4311825804784928067:=0
def tw1636970957522649475:=0
def tw6392051771507020451:=0
def tw746855671540048547:=0
def tw3608469961195906723:=0
def tw1974462203443930851:=0
def tw16813342404195620868:=0
def tw2506804302164200516:=0
def tw8962770818070033572:=0
def tw3881107354384411876:=0
def tw777795337570922916:=0
def tw2375590974831548900:=0
def tw14704125908485310020:=0
def tw1939618650724079172:=0
def tw12112075837429210724:=0
def tw17955277693970631364:=0
def tw2304713995373155108:=0
def tw2230830945478801541:=0
def tw5143775397123976389:=0
def tw17285124016531842277:=0
def tw1445852423133869445:=0
def tw2041069689418119653:=0
def tw6181737087398144517:=0
def tw15586404593881712165:=0
def tw16164883963472355205:=0
def tw1136411716601403430:=0
def tw4682771398258772102:=0
def tw1208009610335036582:=0
def tw7628640261938857254:=0
def tw16713512601596714310:=0
def tw7336538813180090790:=0
def tw14696768205664102886:=0
def tw15604667963445473798:=0
def tw7202852933610427910:=0
def tw1650755661547329222:=0
def tw7864261340190459590:=0
def tw9816929111209045734:=0
def tw1373871759130412870:=0
def tw4826272845284290567:=0
def tw206934649405336615:=0
def tw15293995354821704775:=0
def tw6221210143247476903:=0
def tw9726621056806300935:=0
def tw1333250297534377319:=0
def tw17560825422777638343:=0
def tw3110704430868041223:=0
def tw6675845442508327527:=0
def tw16975575163011130983:=0
def tw3993865494008695431:=0
def tw4270390748299823783:=0
def tw2270822186195829447:=0
def tw13245292407554432711:=0
def tw7518130963272940295:=0
def tw12835354066735695687:=0
def tw11741164876981119911:=0
def tw9007477449219400904:=0
def tw2960237779450005832:=0
def tw12647762572130197000:=0
def tw6621865490478341800:=0
def tw15131636435739822888:=0
def tw11241816889941990344:=0
def tw13767010495822967784:=0
def tw8774311787812556809:=0
def tw13901931299158932745:=0
def tw385410528337868073:=0
def tw15337054037636535689:=0
def tw14581878162397273641:=0
def tw15396441279603493513:=0
def tw7818516876757755978:=0
def tw14065513003142579434:=0
def tw680959445818478826:=0
def tw4811126140099709226:=0
def tw14633394922482822474:=0
def tw13063492346520570250:=0
def tw241237932821500298:=0
def tw1759927083568069130:=0
def tw16742529737791028778:=0
def tw10924142207815583306:=0
def tw5637339264066137674:=0
def tw10873635352053316170:=0
def tw16292032950883507882:=0
def tw16744064329770747626:=0
def tw11195494442927325994:=0
def tw18045803568017004458:=0
def tw1115013673979020234:=0
def tw4536320718747387850:=0
def tw10395163299176961994:=0
def tw17126736567001525387:=0
def tw12100080233661074603:=0
def tw8337309551065479403:=0
def tw10054953375710184779:=0
def tw8359558462159757739:=0
def tw11866529777616784875:=0
def tw13898680282241242699:=0
def tw3306872290250722891:=0
def tw10311148125292524459:=0
def tw10957273892907255884:=0
def tw17375587979015986252:=0
def tw4203743943328524396:=0
def tw17983290064974722220:=0
def tw1818797996375616748:=0
def tw3432853397327336716:=0
def tw12133997753783174508:=0
def tw7281865948119610732:=0
def tw9532932312327955916:=0
def tw3933154976353714700:=0
def tw17545967546067937868:=0
def tw9012083068633438860:=0
def tw6527502410111200908:=0
def tw15777541242394574636:=0
def tw1149437409024619468:=0
def tw6501717019498995692:=0
def tw813346905630730253:=0
def tw5719365953673230509:=0
def tw283515534979604685:=0
def tw9214587821534655885:=0
def tw5413392210473054797:=0
def tw16042361240117481101:=0
def tw18197926572983152301:=0
def tw10408489466393294573:=0
def tw17148111345919319885:=0
def tw5083562732648154989:=0
def tw4798550286554905710:=0
def tw16236470763742217358:=0
def tw1332815088771859854:=0
def tw10024435578367033902:=0
def tw16916745881136989806:=0
def tw17273439690678462094:=0
def tw7753566130905650894:=0
def tw16362810403838454574:=0
def tw8660541980933457838:=0
def tw12443162799960545230:=0
def tw6424766618624580655:=0
def tw16975791776493201487:=0
def tw542653140689021135:=0
def tw14942715609756525807:=0
def tw11282975608230697199:=0
def tw9553165373920761103:=0
def tw8300328129235852559:=0
def tw13249288585747451311:=0
def tw14250766345482058223:=0
def tw13338772392117679631:=0
def tw11484530669950222927:=0
def tw10906131972489490031:=0
def tw17076921292417691279:=0
def tw1821581349860931375:=0
def tw18066078367922042735:=0
def tw11446146199906383855:=0
def tw10962251119514368048:=0
def tw14864565244689443920:=0
def tw15992883004078065840:=0
def tw18384699272054369456:=0
def tw8664909675503254768:=0
def tw2893952931974350192:=0
def tw12642327412119491952:=0
def tw12982354512522067376:=0
def tw14140591636767187408:=0
def tw10530373350327759344:=0
def tw5577174444838801968:=0
def tw16467073201917796976:=0
def tw10930896934944299728:=0
def tw5187415883340818160:=0
def tw18422704422273908528:=0
def tw8178921766527853392:=0
def tw1011138908606713712:=0
def tw2767323701296855984:=0
def tw8965454283129794480:=0
def tw14218431070165998576:=0
def tw17473630756200670225:=0
def tw5121294633279628305:=0
def tw3248064542857562257:=0
def tw345823182288442513:=0
def tw9527820888798798001:=0
def tw1961674360468876497:=0
def tw2532315378233670065:=0
def tw15532733684179084721:=0
def tw8874844868572762641:=0
def tw14469347935972279057:=0
def tw4816738017443954449:=0
def tw11124001873259884465:=0
def tw1598586095075522578:=0
def tw6873818190605474866:=0
def tw871756890710229074:=0
def tw9135482186566025394:=0
def tw13217316156796847474:=0
def tw2397539258511807026:=0
def tw7809784320709734130:=0
def tw14413670701725539347:=0
def tw7837667771091269747:=0
def tw6576949053823548627:=0
def tw9802722663256063219:=0
def tw9257791341252782355:=0
def tw1710321633494515027:=0
def tw5507402717974847923:=0
def tw16388345981405557235:=0
def tw14486728904016169523:=0
def tw14696588936149667475:=0
def tw14346556842407658131:=0
def tw8326058685858091699:=0
def tw4715870425800206067:=0
def tw9382107616009443123:=0
def tw13943276464696030163:=0
def tw11280648462380239859:=0
def tw6359629095960153204:=0
def tw3894857060741125332:=0
def tw17612703686054312148:=0
def tw17439307278806935956:=0
def tw12131463064453795252:=0
def tw2023354438133919284:=0
def tw7742283801907117077:=0
def tw1099970776124415221:=0
def tw14612028260323295541:=0
def tw10314859775897219445:=0
def tw13342952342823859573:=0
def tw4231930097873963413:=0
def tw12301667269095652789:=0
def tw14843655492591566293:=0
def tw15182091100278458901:=0
def tw15625275582522051189:=0
def tw2639748532998875829:=0
def tw15301003724700939989:=0
def tw1308172844332034805:=0
def tw16846004879665397557:=0
def tw10571469892871505717:=0
def tw10689735049836993365:=0
def tw6731619248004815765:=0
def tw130230596317298613:=0
def tw18317510670730773558:=0
def tw922094806804816982:=0
def tw17473954654211055830:=0
def tw621934749910151510:=0
def tw13375879174790999414:=0
def tw11449075124190218742:=0
def tw15147165083710396982:=0
def tw6739188406028013238:=0
def tw6206416845954661078:=0
def tw6445436608599815958:=0
def tw1743271599583658806:=0
def tw1554719377898218358:=0
def tw12259346137004598134:=0
def tw13217051389076802454:=0
def tw4353971199139885974:=0
def tw7078910449330198486:=0
def tw2440167831197437910:=0
def tw17726330178870938647:=0
def tw13342636513657878647:=0
def tw10587383288011472055:=0
def tw485353122719530231:=0
def tw13786869977353027831:=0
def tw5571834979398466903:=0
def tw15518495339215761783:=0
def tw8004057469206721943:=0
def tw9913630609533416919:=0
def tw10431259443478600151:=0
def tw4403167589584295415:=0
def tw17330235557090096759:=0
def tw14371312576003932823:=0
def tw7893572650345578231:=0
def tw10838111215844325111:=0
def tw295386580097656856:=0
def tw17227846454685119512:=0
def tw5720243590927195192:=0
def tw17275235807823813848:=0
def tw8592317040237244760:=0
def tw4445209150555021656:=0
def tw18107082766141007256:=0
def tw12273077337645841848:=0
def tw1705323804141925816:=0
def tw13169596759227259416:=0
def tw1178967957175631416:=0
def tw11443401417965497048:=0
def tw2182505408108745528:=0
def tw13786894343556955992:=0
def tw6330589128909116280:=0
def tw15396533714887272473:=0
def tw10547792250368029817:=0
def tw18100285927483516025:=0
def tw2959936567567090841:=0
def tw7770597935040365849:=0
def tw8493161016780743993:=0
def tw2497770675529072985:=0
def tw6463264930881058361:=0
def tw3283995313023290937:=0
def tw9254995566498330265:=0
def tw5093660964899120857:=0
def tw14277948292004232185:=0
def tw12316475156274455770:=0
def tw8393649829505523034:=0
def tw6224362012410170746:=0
def tw11241324371228369370:=0
def tw8620680728256723418:=0
def tw810442927438122810:=0
def tw8641139913986061210:=0
def tw1862752808983370714:=0
def tw2043700362831078427:=0
def tw9915121442280446011:=0
def tw6950532190552172667:=0
def tw17565881266675682523:=0
def tw187692749227682139:=0
def tw4101100112323478107:=0
def tw14832772656494509659:=0
def tw10688617788152862331:=0
def tw6121975883055969915:=0
def tw14489774219683933915:=0
def tw13186878810305835771:=0
def tw15661639102968573883:=0
def tw5492447542917570555:=0
def tw12336312857058685116:=0
def tw14377603227597592924:=0
def tw6366229744451114332:=0
def tw3550676308046170460:=0
def tw6126666337584462204:=0
def tw3204620137584418300:=0
def tw4291302149148991996:=0
def tw16199996059955419740:=0
def tw15741768119533463228:=0
def tw15495301302548959964:=0
def tw8414673259860856604:=0
def tw5529077835119925116:=0
def tw134441863585473661:=0
def tw12970977030420916349:=0
def tw4425342734822214813:=0
def tw12897970598734149181:=0
def tw12132604018667448925:=0
def tw16249265772386150045:=0
def tw9370568098860500669:=0
def tw3682630834376896221:=0
def tw12870065908022331165:=0
def tw4428171476696515421:=0
def tw16074429269377938269:=0
def tw9428921944503326750:=0
def tw10334800597140792350:=0
def tw14133128645899027486:=0
def tw17606554031842955326:=0
def tw15278607223312150590:=0
def tw3362170488497463390:=0
def tw8789122150093396126:=0
def tw10471437042043767038:=0
def tw12362647643918198206:=0
def tw7411310756892672446:=0
def tw9911081190903677406:=0
def tw3103827792120315390:=0
def tw14483288178703963742:=0
def tw13618813240682944094:=0
def tw17490267344145754718:=0
def tw12497887918757872254:=0
def tw14174985087681566430:=0
def tw14826193145973185246:=0
def tw4102612472041164510:=0
def tw6578985149484576510:=0
def tw13020949386649748222:=0
def tw1462802853393618686:=0
def tw3049161172950553406:=0
def tw6555320631954019262:=0
def tw2766912021875775454:=0
def tw2533706292334125022:=0
def tw6863526715456290847:=0
def tw4196208793430283455:=0
def tw3359212398316725439:=0
def tw13588869757813178623:=0
def tw9457551239589100863:=0
def tw16718105195247090079:=0
def tw5681146718096971167:=0
def tw7399078851355736511:=0
def tw9648340239226860063:=0
def tw1238196530456872511:=0
def tw3390885220055810655:=0
def tw10717148111760802463:=0
def tw1316918038360498879:=0
def tw787480569168369407:=0
def tw14757992940405705663:=0
def tw4267080940726036479:=0
def tw15663601779306043393:=0
end PySem.W.Fast
open PySem PySem.W PyProof.Rows
set_option maxRecDepth 100000 in
set_option maxHeartbeats 0 in
theorem PySem.Challenge.cw_spinfloor_k54_what_a_laying_falls_to_holds : PySem.Challenge.rw_spinfloor_k54_what_a_laying_falls_to.Holds := by
 w_on;o_law;k_head;(case hw=>w_witness2)
 k_fill
 refine K8.walk (l:=PySem.Challenge.rw_spinfloor_k54_what_a_laying_falls_to) rfl rfl (fun w h Y=>PySem.W.km_in_of Y) ?R ?F
 (case R=>kernel_rfl)
 case F =>
  intro w mg fa h KX G hmg
  refine' K8.all_mk KX G hmg ?xN ?xM ?BU ?gG ?gF ?cP ?fH ?gE ?gD ?cO ?fF ?iT ?xK ?wz ?xr ?qi ?hZ ?gL ?g7 ?eB ?hJ ?gH ?gW ?eh ?nE ?mJ ?ni ?jB ?nC ?qg ?xt ?qj ?gN ?g9 ?gP ?eE ?j8 ?kr ?iz ?kc ?dJ ?dX ?bH ?cy ?i4 ?je ?dM ?f6 ?i5 ?jf ?fY ?i6 ?BS ?Bf ?BL ?k_head ?nz ?mG ?m8 ?jy ?kE ?j7 ?kq ?iy ?hO ?gI ?gX ?et ?jg ?iU ?i8 ?fN ?kz ?j3 ?kh ?iq ?nv ?mF ?m7 ?jx ?gm ?fM ?gj ?dj ?eX ?eV ?eW ?cQ ?dY ?dI ?dU ?cx ?gM ?g8 ?gO ?gQ ?kD ?j6 ?ko ?iw ?kC ?j5 ?kj ?iu ?nB ?mI ?ng ?jA ?kA ?j4 ?ki ?ir ?jk ?iZ ?jc ?fV ?ji ?iX ?ja ?fQ ?c6 ?cZ ?c5 ?bO ?jj ?iY ?jb ?fU ?nA ?mH ?m9 ?jz ?jh ?iW ?i9 ?fP ?jn ?i3 ?jd ?fX ?hX ?gK ?gZ ?eA ?hV ?gJ ?gY ?eu ?Dm ?Eu ?ET ?Ey ?vH ?wO ?vy ?vt ?wg ?wC ?iS ?iR ?cY ?vG ?wN ?vx ?vq ?we ?wB ?iQ ?iP ?cX ?AM ?Bw ?AJ ?AA ?A3 ?Bj ?iO ?iN ?gB ?fE ?gC ?gi_mplc ?DL ?DM ?z8 ?z6 ?uN ?uO ?iJ ?gu ?DJ ?DI ?oN ?DK ?tbc ?tbl ?tbv ?tbn
  (case xN=>k_is)
  (case xM=>k_is)
  (case BU=>k_is)
  (case gG=>k_is)
  (case gF=>k_is)
  (case cP=>k_is)
  (case fH=>k_is)
  (case gE=>k_is)
  (case gD=>k_is)
  (case cO=>k_is)
  (case fF=>k_is)
  (case iT=>k_is)
  (case xK=>k_is)
  (case wz=>k_is)
  (case xr=>k_is)
  (case qi=>k_is)
  (case hZ=>k_is)
  (case gL=>k_is)
  (case g7=>k_is)
  (case eB=>k_is)
  (case hJ=>k_is)
  (case gH=>k_is)
  (case gW=>k_is)
  (case eh=>k_is)
  (case nE=>k_is)
  (case mJ=>k_is)
  (case ni=>k_is)
  (case jB=>k_is)
  (case nC=>k_is)
  (case qg=>k_is)
  (case xt=>k_is)
  (case qj=>k_is)
  (case gN=>k_is)
  (case g9=>k_is)
  (case gP=>k_is)
  (case eE=>k_is)
  (case j8=>k_is)
  (case kr=>k_is)
  (case iz=>k_is)
  (case kc=>k_is)
  (case dJ=>k_is)
  (case dX=>k_is)
  (case bH=>k_is)
  (case cy=>k_is)
  (case i4=>k_is)
  (case je=>k_is)
  (case dM=>k_is)
  (case f6=>k_is)
  (case i5=>k_is)
  (case jf=>k_is)
  (case fY=>k_is)
  (case i6=>k_is)
  (case BS=>k_is)
  (case Bf=>k_is)
  (case BL=>k_is)
  (case k_head=>k_is)
  (case nz=>k_is)
  (case mG=>k_is)
  (case m8=>k_is)
  (case jy=>k_is)
  (case kE=>k_is)
  (case j7=>k_is)
  (case kq=>k_is)
  (case iy=>k_is)
  (case hO=>k_is)
  (case gI=>k_is)
  (case gX=>k_is)
  (case et=>k_is)
  (case jg=>k_is)
  (case iU=>k_is)
  (case i8=>k_is)
  (case fN=>k_is)
  (case kz=>k_is)
  (case j3=>k_is)
  (case kh=>k_is)
  (case iq=>k_is)
  (case nv=>k_is)
  (case mF=>k_is)
  (case m7=>k_is)
  (case jx=>k_is)
  (case gm=>k_is)
  (case fM=>k_is)
  (case gj=>k_is)
  (case dj=>k_is)
  (case eX=>k_is)
  (case eV=>k_is)
  (case eW=>k_is)
  (case cQ=>k_is)
  (case dY=>k_is)
  (case dI=>k_is)
  (case dU=>k_is)
  (case cx=>k_is)
  (case gM=>k_is)
  (case g8=>k_is)
  (case gO=>k_is)
  (case gQ=>k_is)
  (case kD=>k_is)
  (case j6=>k_is)
  (case ko=>k_is)
  (case iw=>k_is)
  (case kC=>k_is)
  (case j5=>k_is)
  (case kj=>k_is)
  (case iu=>k_is)
  (case nB=>k_is)
  (case mI=>k_is)
  (case ng=>k_is)
  (case jA=>k_is)
  (case kA=>k_is)
  (case j4=>k_is)
  (case ki=>k_is)
  (case ir=>k_is)
  (case jk=>k_is)
  (case iZ=>k_is)
  (case jc=>k_is)
  (case fV=>k_is)
  (case ji=>k_is)
  (case iX=>k_is)
  (case ja=>k_is)
  (case fQ=>k_is)
  (case c6=>k_is)
  (case cZ=>k_is)
  (case c5=>k_is)
  (case bO=>k_is)
  (case jj=>k_is)
  (case iY=>k_is)
  (case jb=>k_is)
  (case fU=>k_is)
  (case nA=>k_is)
  (case mH=>k_is)
  (case m9=>k_is)
  (case jz=>k_is)
  (case jh=>k_is)
  (case iW=>k_is)
  (case i9=>k_is)
  (case fP=>k_is)
  (case jn=>k_is)
  (case i3=>k_is)
  (case jd=>k_is)
  (case fX=>k_is)
  (case hX=>k_is)
  (case gK=>k_is)
  (case gZ=>k_is)
  (case eA=>k_is)
  (case hV=>k_is)
  (case gJ=>k_is)
  (case gY=>k_is)
  (case eu=>k_is)
  (case Dm=>k_is)
  (case Eu=>k_is)
  (case ET=>k_is)
  (case Ey=>k_is)
  (case vH=>k_is)
  (case wO=>k_is)
  (case vy=>k_is)
  (case vt=>k_is)
  (case wg=>k_is)
  (case wC=>k_is)
  (case iS=>k_is)
  (case iR=>k_is)
  (case cY=>k_is)
  (case vG=>k_is)
  (case wN=>k_is)
  (case vx=>k_is)
  (case vq=>k_is)
  (case we=>k_is)
  (case wB=>k_is)
  (case iQ=>k_is)
  (case iP=>k_is)
  (case cX=>k_is)
  (case AM=>k_is)
  (case Bw=>k_is)
  (case AJ=>k_is)
  (case AA=>k_is)
  (case A3=>k_is)
  (case Bj=>k_is)
  (case iO=>k_is)
  (case iN=>k_is)
  (case gB=>k_is)
  (case fE=>k_is)
  (case gC=>k_is)
  (case gi_mplc=>k_is)
  (case DL=>k_is)
  (case DM=>k_is)
  (case z8=>k_is)
  (case z6=>k_is)
  (case uN=>k_is)
  (case uO=>k_is)
  (case iJ=>k_is)
  (case gu=>k_is)
  (case DJ=>k_is)
  (case DI=>k_is)
  (case oN=>k_is)
  (case DK=>k_is)
  (case tbc=>rfl)
  (case tbl=>k_is)
  (case tbv=>rfl)
  (case tbn=>kernel_rfl)
